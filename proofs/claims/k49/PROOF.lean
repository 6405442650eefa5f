import PyProof.Rows.All
import Wide.All
import OpenK.AllK
import Wide.FinOn
import Lean
import PyProof.EqAt
import PyProof.EqKinds
import PyProof.TupleCall
import PyProof.P3Eq
import PyProof.NeData
import PyProof.Rows.SortShellK
import PySem.Challenge.RW_linecaster_k49_needs_refused
set_option Elab.async false
set_option linter.all false
set_option maxRecDepth 100000
namespace L2
open PySem PySem.Spec PyProof.Rows
abbrev Key:=Sum Int Str
def zsi : Key -> Value -> Bool
 | .inl k,v=>Value.isInt k v
 | .inr x,v=>Value.isStrOf x v
def keyH (w : World) : Key -> Int
 | .inl k=>hashInt k
 | .inr x=>hashStr w x
theorem zaK : ∀ {k : Key} {v : Value},zsi k v = true -> (∃ i t,k = Sum.inl i /\ v = Value.int i t) \/ (∃ x t,k = Sum.inr x /\ v = Value.str x t)
 | .inl i,v,h=>by
   obtain ⟨t,e⟩:=Value.isInt_shape (k:=i) (v:=v) h
   exact .inl ⟨i,t,rfl,e⟩
 | .inr x,v,h=>by
   obtain ⟨t,e⟩:=Value.isStrOf_shape (x:=x) (v:=v) h
   exact .inr ⟨x,t,rfl,e⟩
theorem zqN (a b : Int) : decide ((Sum.inl a : Key) = Sum.inl b) = (a == b):=by
 by_cases e : a = b
 ·subst e; simp
 ·have h : ¬ (Sum.inl a : Key) = Sum.inl b:=fun q=>e (Sum.inl.inj q)
  rw [decide_eq_false h]
  exact (beq_eq_false_iff_ne.mpr e).symm
theorem zrt (a b : Str) : decide ((Sum.inr a : Key) = Sum.inr b) = decide (a = b):=by
 by_cases e : a = b
 ·subst e; simp
 ·have h : ¬ (Sum.inr a : Key) = Sum.inr b:=fun q=>e (Sum.inr.inj q)
  rw [decide_eq_false h,decide_eq_false e]
theorem zoV (a : Int) (b : Str) : decide ((Sum.inl a : Key) = Sum.inr b) = false:=decide_eq_false (fun q=>nomatch q)
theorem zof (a : Str) (b : Int) : decide ((Sum.inr a : Key) = Sum.inl b) = false:=decide_eq_false (fun q=>nomatch q)
def zkI (prog : Program) (w : World) : PySem.KeyKind prog w Key where
 is:=zsi
 hash:=keyH w
 inj:=fun v a b ha hb=>by
  rcases zaK ha with ⟨i,t,rfl,rfl⟩ | ⟨x,t,rfl,rfl⟩
  ·rcases zaK hb with ⟨j,u,rfl,e⟩ | ⟨y,u,rfl,e⟩
   ·injection e with e1 _; rw [e1]
   ·exact nomatch e
  ·rcases zaK hb with ⟨j,u,rfl,e⟩ | ⟨y,u,rfl,e⟩
   ·exact nomatch e
   ·injection e with e1 _; rw [e1]
 byValue:=fun k v h=>by
  rcases zaK h with ⟨i,t,rfl,rfl⟩ | ⟨x,t,rfl,rfl⟩ <;> rfl
 pyHash:=fun hv h=>by
  rcases zaK hv with ⟨i,t,rfl,rfl⟩ | ⟨x,t,rfl,rfl⟩
  ·exact wpAny_pyHash_int h
  ·exact wpAny_pyHash_str h
 eqBool:=fun hu hv h=>by
  rcases zaK hu with ⟨i,t,rfl,rfl⟩ | ⟨x,t,rfl,rfl⟩
  ·rcases zaK hv with ⟨j,u,rfl,rfl⟩ | ⟨y,u,rfl,rfl⟩
   ·rw [zqN] at h; exact wpAny_eqBool_int h
   ·rw [zoV] at h; exact SeqAt.EqAt.int_str i t y u _ _ _ _ h
  ·rcases zaK hv with ⟨j,u,rfl,rfl⟩ | ⟨y,u,rfl,rfl⟩
   ·rw [zof] at h; exact SeqAt.EqAt.str_int x t j u _ _ _ _ h
   ·rw [zrt] at h; exact wpAny_eqBool_str h
 «strs»:=fun k x t v h=>by
  rcases zaK h with ⟨i,u,rfl,e⟩ | ⟨y,u,rfl,e⟩
  ·exact nomatch e
  ·injection e with e1 _
   subst e1
   cases v <;> rfl
end L2
namespace L2
open PySem PySem.Spec PyProof.Rows
inductive V where
 | non | bl (b : Bool) | int (i : Int) | str (x : Str) | byt (b : Array UInt8) | flt (b : UInt64) | ref (a : Addr) | ty (n : String)
 deriving DecidableEq
def RelV : V -> Value -> Prop
 | .non,u=>u = Value.none
 | .bl b,u=>u = Value.bool b
 | .int i,u=>∃ t,u = Value.int i t
 | .str x,u=>∃ t,u = Value.str x t
 | .byt b,u=>∃ t,u = Value.bytes b t
 | .flt b,u=>∃ t,u = Value.float b t
 | .ref a,u=>u = Value.ref a
 | .ty n,u=>u = Value.type n
abbrev Vals : List V -> List Value -> Prop:=Paired RelV
theorem Vals.length {xs : List V} {us : List Value} (r : Vals xs us) : xs.length = us.length:=Paired.length r
theorem Vals.get : ∀ {xs : List V} {us : List Value} {i : Nat} {x : V},Vals xs us -> xs[i]? = some x -> ∃ u,us[i]? = some u /\ RelV x u
 | _,_,_,_,.nil,e=>by simp at e
 | _,_,0,_,.cons r _,e=>by simp at e; subst e; exact ⟨_,rfl,r⟩
 | _,_,i + 1,x,.cons _ t,e=>by
   obtain ⟨u,h1,h2⟩:=Vals.get (i:=i) (x:=x) t (by simpa using e)
   exact ⟨u,by simpa using h1,h2⟩
theorem Vals.set {x : V} {u : Value} (r : RelV x u) : ∀ {xs : List V} {us : List Value} (i : Nat),Vals xs us -> Vals (xs.set i x) (us.set i u)
 | _,_,_,.nil=>.nil
 | _,_,0,.cons _ t=>.cons r t
 | _,_,i + 1,.cons q t=>.cons q (Vals.set r i t)
theorem Vals.append : ∀ {xs ys : List V} {us ws : List Value},Vals xs us -> Vals ys ws -> Vals (xs ++ ys) (us ++ ws)
 | _,_,_,_,.nil,s=>s
 | _,_,_,_,.cons r t,s=>.cons r (Vals.append t s)
theorem Vals.take : ∀ {xs : List V} {us : List Value} (n : Nat),Vals xs us -> Vals (xs.take n) (us.take n)
 | _,_,0,_=>.nil
 | _,_,_ + 1,.nil=>.nil
 | _,_,n + 1,.cons r t=>.cons r (Vals.take n t)
theorem Vals.drop : ∀ {xs : List V} {us : List Value} (n : Nat),Vals xs us -> Vals (xs.drop n) (us.drop n)
 | _,_,0,r=>r
 | _,_,_ + 1,.nil=>.nil
 | _,_,n + 1,.cons _ t=>Vals.drop n t
def RelO : Option V -> Option Value -> Prop
 | some v,some u=>RelV v u
 | none,none=>True
 | _,_=>False
def KV {κ : Type} : List (κ × V) -> List (κ × Value) -> Prop:=Paired fun (p : κ × V) (q : κ × Value)=>p.1 = q.1 /\ RelV p.2 q.2
def kV : Key -> V
 | .inl i=>.int i
 | .inr x=>.str x
inductive HO where
 | lst (xs : List V)
 | tup (xs : List V)
 | dK (kvs : List (Key × V)) | dT (kvs : List (List Key × V))
 | set (S : Int -> Bool) (n : Nat)
 | ins (C dx : Addr) (fs : List (Str × V))
 | own (x : Addr)
 | xd (fs : List (Str × V))
 | met (f x : Addr)
 | rng (lo hi : Int)
 | frz (o : Obj) (u : HO)
 | tbl (ps : Array Value)
 | ext (φ : Heap -> Prop)
abbrev Hp:=Addr -> Option HO
def upd (H : Hp) (a : Addr) (o : HO) : Hp:=fun b=>if b = a then some o else H b
theorem upd_same {H : Hp} {a : Addr} {o : HO} : upd H a o a = some o:=by unfold upd; rw [if_pos rfl]
theorem zah {H : Hp} {a b : Addr} {o : HO} (h : b ≠ a) : upd H a o b = H b:=by unfold upd; rw [if_neg h]
theorem zcP {H : Hp} {a b : Addr} {o u : HO} (h : H a = some o) (h' : H b = some u) (d : o ≠ u) : a ≠ b:=by
 intro e; subst e; rw [h] at h'; exact d (Option.some.inj h')
theorem zan {H : Hp} {a b : Addr} {o : HO} (h : H a = some o) (h' : H b = none) : a ≠ b:=by
 intro e; subst e; rw [h] at h'; cases h'
section
variable (P : Program) (w : World)
def zdb (H : Hp) (h : Heap) (a : Addr) : HO -> Prop
 | .lst xs=>xs.length <= sizeLine /\ ∃ (its : List Value) (n : Nat),Vals xs its /\ h.get? a = some { cls:=.type "list",data:=.seq its.toArray n }
 | .tup xs=>xs.length <= sizeLine /\ ∃ its : List Value,Vals xs its /\ IsTup h a its.toArray
 | .dK kvs=>kvs.length <= sizeLine /\ (a == sysModules) = false /\ ∃ vs,KV kvs vs /\ h.DictOf (zkI P w) a vs
 | .dT kvs=>kvs.length <= sizeLine /\ (a == sysModules) = false /\ ∃ xs : List (List Key × Addr × Value),
    Paired (fun (p : List Key × V) (q : List Key × Addr × Value)=>p.1 = q.1 /\ H q.2.1 = some (.tup (p.1.map kV)) /\ RelV p.2 q.2.2) kvs xs /\
    ∃ o es ep,h.get? a = some o /\ o.ExactDict /\ o.data = .dict es ep /\ es.toList = xs.map (entryOfKey (tupleKind (zkI P w))) /\ (xs.map (·.1)).Nodup
 | .set S n=>h.SetOf (intKind P w) a S n
 | .ins C dx fs=>H dx = some (.own a) /\ fs.length <= 1000 /\ dx ≠ a /\ h.get? a = some (PySem.W.instObj C dx) /\
    ∃ mA,h.Ns1 dx mA /\ (∀ f,RelO (fs.lookup f) (mA f)) /\ PySem.Within mA (fs.map (·.1))
 | .own _=>∃ o,h.get? a = some o
 | .xd fs=>∃ mA,h.Ns1 a mA /\ ∀ f,RelO (fs.lookup f) (mA f)
 | .rng lo hi=>∃ t u v,h.get? a = some { cls:=.type "range",data:=.fields #[.int lo t,.int hi u,.int 1 v] }
 | .frz o u=>h.get? a = some o /\ zdb H h a u
 | .tbl ps=>h.get? a = some { cls:=.none,data:=.fields ps }
 | .met f x=>h.get? a = some (PySem.W.methodObj (.ref f) (.ref x))
 | .ext φ=>φ h /\ (∃ o,h.get? a = some o) /\ ∀ h1 h2 : Heap,φ h1 -> (∀ o,h1.get? a = some o -> h2.get? a = some o) -> φ h2
def HOk (H : Hp) (h : Heap) : Prop:=∀ a o,H a = some o -> zdb P w H h a o
end
section
variable {P : Program} {w : World} {H H' : Hp} {h h' : Heap} {a : Addr} {o : HO}
theorem zdb.lt (x : zdb P w H h a o) : a < h.objs.size:=by
 cases o with
 | lst xs=>obtain ⟨_,_,_,_,e⟩:=x; exact Heap.lt_size e
 | tup xs=>obtain ⟨_,_,_,p⟩:=x; exact p.lt
 | dK kvs=>obtain ⟨_,_,_,_,o,_,_,e,_⟩:=x; exact Heap.lt_size e
 | dT kvs=>obtain ⟨_,_,_,_,o,_,_,e,_⟩:=x; exact Heap.lt_size e
 | set S n=>obtain ⟨o,_,_,_,e,_⟩:=x; exact Heap.lt_size e
 | ins C dx fs=>obtain ⟨_,_,_,e,_⟩:=x; exact Heap.lt_size e
 | own y=>obtain ⟨_,e⟩:=x; exact Heap.lt_size e
 | xd fs=>obtain ⟨_,⟨_,_,_,e,_⟩,_⟩:=x; exact Heap.lt_size e
 | rng lo hi=>obtain ⟨_,_,_,e⟩:=x; exact Heap.lt_size e
 | frz ob u=>obtain ⟨e,_⟩:=x; exact Heap.lt_size e
 | tbl ps=>exact Heap.lt_size (show h.get? a = some _ from x)
 | met f y=>exact Heap.lt_size (show h.get? a = some _ from x)
 | ext φ=>obtain ⟨_,⟨_,e⟩,_⟩:=x; exact Heap.lt_size e
theorem Paired.mapP {α β : Type} {F G : α -> β -> Prop} : ∀ {l₁ : List α} {l₂ : List β},Paired F l₁ l₂ -> (∀ a b,F a b -> G a b) -> Paired G l₁ l₂
 | _,_,.nil,_=>.nil
 | _,_,.cons r t,f=>.cons (f _ _ r) (Paired.mapP t f)
theorem zdb.stay (x : zdb P w H h a o) (k : ∀ b u,(b = a \/ H b = some (.own a)) -> h.get? b = some u -> h'.get? b = some u)
 (ho : ∀ b,H b = some (.own a) -> H' b = some (.own a)) (ht : ∀ b xs,H b = some (.tup xs) -> H' b = some (.tup xs)) : zdb P w H' h' a o:=by
 induction o with
 | lst xs=>obtain ⟨z,its,n,r,e⟩:=x; exact ⟨z,its,n,r,k _ _ (.inl rfl) e⟩
 | tup xs=>obtain ⟨z,its,r,ob,e,c⟩:=x; exact ⟨z,its,r,ob,k _ _ (.inl rfl) e,c⟩
 | dK kvs=>obtain ⟨z,y,vs,r,ob,es,ep,e,c⟩:=x; exact ⟨z,y,vs,r,ob,es,ep,k _ _ (.inl rfl) e,c⟩
 | dT kvs =>
   obtain ⟨z,y,xs,r,ob,es,ep,e,c⟩:=x
   exact ⟨z,y,xs,Paired.mapP r fun p q z=>⟨z.1,ht _ _ z.2.1,z.2.2⟩,ob,es,ep,k _ _ (.inl rfl) e,c⟩
 | set S n=>obtain ⟨ob,es,ep,t,e,c⟩:=x; exact ⟨ob,es,ep,t,k _ _ (.inl rfl) e,c⟩
 | ins C dx fs =>
   obtain ⟨d,z,ne,e,mA,⟨od,es,ep,e2,c⟩,r⟩:=x
   exact ⟨ho _ d,z,ne,k _ _ (.inl rfl) e,mA,⟨od,es,ep,k _ _ (.inr d) e2,c⟩,r⟩
 | own y=>obtain ⟨ob,e⟩:=x; exact ⟨ob,k _ _ (.inl rfl) e⟩
 | xd fs=>obtain ⟨mA,⟨od,es,ep,e,c⟩,r⟩:=x; exact ⟨mA,⟨od,es,ep,k _ _ (.inl rfl) e,c⟩,r⟩
 | rng lo hi=>obtain ⟨t,u,v,e⟩:=x; exact ⟨t,u,v,k _ _ (.inl rfl) e⟩
 | frz ob u ih=>obtain ⟨e,q⟩:=x; exact ⟨k _ _ (.inl rfl) e,ih q⟩
 | tbl ps =>
   have e : h.get? a = some { cls:=.none,data:=.fields ps }:=x
   show h'.get? a = some { cls:=.none,data:=.fields ps }
   exact k a _ (.inl rfl) e
 | met f y =>
   have e : h.get? a = some (PySem.W.methodObj (.ref f) (.ref y)):=x
   show h'.get? a = some (PySem.W.methodObj (.ref f) (.ref y))
   exact k a _ (.inl rfl) e
 | ext φ=>obtain ⟨p,⟨o,e⟩,st⟩:=x; exact ⟨st _ _ p fun o q=>k _ _ (.inl rfl) q,⟨o,k _ _ (.inl rfl) e⟩,st⟩
theorem HOk.lt (x : HOk P w H h) (e : H a = some o) : a < h.objs.size:=(x a o e).lt
theorem HOk.fresh (x : HOk P w H h) (e : h.objs.size <= a) : H a = none:=by
 cases q : H a with
 | none=>rfl
 | some u=>exact absurd (Nat.lt_of_lt_of_le (x.lt q) e) (Nat.lt_irrefl _)
theorem HOk.kept (x : HOk P w H h) (k : ∀ b u,h.get? b = some u -> h'.get? b = some u) : HOk P w H h':=fun a o e =>
 (x a o e).stay (fun b u _ q=>k b u q) (fun _ q=>q) fun _ _ q=>q
theorem HOk.laid (x : HOk P w H h) (k : ∀ b u,h.get? b = some u -> h'.get? b = some u) (hp : h.objs.size <= a) (new : zdb P w (upd H a o) h' a o) : HOk P w (upd H a o) h':=fun b u e=>by
 have hn:=x.fresh hp
 by_cases hb : b = a
 ·subst hb; rw [upd_same] at e; cases e; exact new
 ·rw [zah hb] at e
  exact (x b u e).stay (fun c v _ q=>k c v q) (fun c q=>by rw [zah (zan q hn)]; exact q) fun c xs q=>by rw [zah (zan q hn)]; exact q
end
def Rd (H : Hp) (a : Addr) (u : HO) : Prop:=H a = some u \/ ∃ o,H a = some (.frz o u)
theorem Rd.of {H : Hp} {a : Addr} {u : HO} (h : H a = some u) : Rd H a u:=.inl h
theorem Rd.ok {P : Program} {w : World} {H : Hp} {h : Heap} {a : Addr} {u : HO} (r : Rd H a u) (x : HOk P w H h) : zdb P w H h a u:=by
 rcases r with r | ⟨o,r⟩
 ·exact x a u r
 ·obtain ⟨_,q⟩:=x a _ r
  exact q
def Mut : Option HO -> Prop
 | some (.lst _)=>True
 | some (.dK _)=>True
 | some (.dT _)=>True
 | some (.set _ _)=>True
 | some (.ins _ _ _)=>True
 | some (.ext _)=>True
 | _=>False
section
variable {P : Program} {w : World} {H : Hp} {h h' : Heap} {x e : Addr} {o' : HO}
theorem HOk.write (ok : HOk P w H h) (mu : Mut (H x)) (he : e = x \/ H e = some (.own x)) (k : ∀ b u,b ≠ e -> h.get? b = some u -> h'.get? b = some u) (heo : ∃ u,h'.get? e = some u)
 (new : zdb P w (upd H x o') h' x o') : HOk P w (upd H x o') h':=fun b u q=>by
 have nown : ∀ c y,H c = some (.own y) -> c ≠ x:=fun c y r z=>by subst z; rw [r] at mu; exact mu
 have ntup : ∀ c xs,H c = some (.tup xs) -> c ≠ x:=fun c xs r z=>by subst z; rw [r] at mu; exact mu
 by_cases hb : b = x
 ·subst hb; rw [upd_same] at q; cases q; exact new
 ·rw [zah hb] at q
  by_cases hbe : b = e
  ·have q' : H b = some (.own x):=by
    rcases he with z | z
    ·exact absurd (hbe.trans z) hb
    ·rw [hbe]; exact z
   rw [q] at q'; cases q'
   obtain ⟨v,hv⟩:=heo
   exact ⟨v,by rw [hbe]; exact hv⟩
  ·refine (ok b u q).stay (fun c v hc r=>k c v ?_ r) (fun c r=>by rw [zah (nown c b r)]; exact r) fun c xs r=>by rw [zah (ntup c xs r)]; exact r
   rcases hc with rfl | hc
   ·exact hbe
   ·rintro rfl
    rcases he with z | z
    ·exact nown c b hc z
    ·rw [hc] at z; cases z; exact hb rfl
end
structure Un (fs ex : List Addr) (H H' : Hp) (h h' : Heap) : Prop where
 keep : ∀ b o,h.get? b = some o -> H b = none -> b ∉ fs -> b ∉ ex -> h'.get? b = some o
 slot : ∀ b o,h.get? b = some o -> H b = none -> b ∈ fs -> b ∉ ex -> ∃ sl,h'.get? b = some { o with slots:=sl }
 free : ∀ b o,h.get? b = some o -> H b = none -> b ∉ ex -> H' b = none
 there : ∀ b o,h.get? b = some o -> b ∉ ex -> ∃ o',h'.get? b = some o'
 tups : ∀ b xs,H b = some (.tup xs) -> H' b = some (.tup xs)
 frzs : ∀ b o u,H b = some (.frz o u) -> H' b = some (.frz o u)
 tbls : ∀ b ps,H b = some (.tbl ps) -> ∃ more,H' b = some (.tbl (ps ++ more))
section
variable {fs fs' ex ex' : List Addr} {H H1 H2 : Hp} {h h1 h2 h' : Heap} {a x e : Addr} {o : HO}
theorem Un.any (u : Un fs ex H H1 h h1) {b : Addr} {ob : Obj} (q : h.get? b = some ob) (n : H b = none) (hx : b ∉ ex) : ∃ sl,h1.get? b = some { ob with slots:=sl }:=by
 by_cases hb : b ∈ fs
 ·exact u.slot b ob q n hb hx
 ·exact ⟨ob.slots,u.keep b ob q n hb hx⟩
theorem Un.trans (a : Un fs ex H H1 h h1) (b : Un fs ex H1 H2 h1 h2) : Un fs ex H H2 h h2 where
 keep:=fun c ob q n hc hx=>b.keep c ob (a.keep c ob q n hc hx) (a.free c ob q n hx) hc hx
 slot:=fun c ob q n hc hx=>by
  obtain ⟨sl,e1⟩:=a.slot c ob q n hc hx
  obtain ⟨sl',e2⟩:=b.slot c _ e1 (a.free c ob q n hx) hc hx
  exact ⟨sl',e2⟩
 free:=fun c ob q n hx=>by
  obtain ⟨o',e1⟩:=a.there c ob q hx
  exact b.free c o' e1 (a.free c ob q n hx) hx
 there:=fun c ob q hx=>by
  obtain ⟨o',e1⟩:=a.there c ob q hx
  exact b.there c o' e1 hx
 tups:=fun c xs q=>b.tups c xs (a.tups c xs q)
 frzs:=fun c ob xs q=>b.frzs c ob xs (a.frzs c ob xs q)
 tbls:=fun c ps q=>by
  obtain ⟨m1,e1⟩:=a.tbls c ps q
  obtain ⟨m2,e2⟩:=b.tbls c _ e1
  exact ⟨m1 ++ m2,by rw [e2,Array.append_assoc]⟩
theorem Un.kept (k : ∀ b u,h.get? b = some u -> h'.get? b = some u) : Un fs ex H H h h' :=
 ⟨fun b ob q _ _ _=>k b ob q,fun b ob q _ _ _=>⟨ob.slots,k b ob q⟩,fun _ _ _ n _=>n,fun b ob q _=>⟨ob,k b ob q⟩,fun _ _ q=>q,fun _ _ _ q=>q,fun _ ps q=>⟨#[],by rw [q]; simp⟩⟩
theorem Un.refl : Un fs ex H H h h:=Un.kept fun _ _ q=>q
theorem Un.laid (k : ∀ b u,h.get? b = some u -> h'.get? b = some u) (hp : h.objs.size <= a) (hn : H a = none) : Un fs ex H (upd H a o) h h' where
 keep:=fun b u q _ _ _=>k b u q
 slot:=fun b u q _ _ _=>⟨u.slots,k b u q⟩
 free:=fun b u q n _=>by rw [zah (Nat.ne_of_lt (Nat.lt_of_lt_of_le (Heap.lt_size q) hp))]; exact n
 there:=fun b u q _=>⟨u,k b u q⟩
 tups:=fun b xs q=>by rw [zah (zan q hn)]; exact q
 frzs:=fun b u xs q=>by rw [zah (zan q hn)]; exact q
 tbls:=fun b ps q=>⟨#[],by rw [zah (zan q hn),q]; simp⟩
theorem Un.write (mu : Mut (H x)) (he : e = x \/ H e = some (.own x)) (k : ∀ b u,b ≠ e -> h.get? b = some u -> h'.get? b = some u) (heo : ∃ u,h'.get? e = some u) : Un fs ex H (upd H x o) h h':=by
 have hx : ∀ b,H b = none -> b ≠ x:=fun b n z=>by subst z; rw [n] at mu; exact mu
 have hb : ∀ b,H b = none -> b ≠ e:=fun b n z=>by
  subst z
  rcases he with r | r
  ·exact hx b n r
  ·rw [n] at r; cases r
 have hm : ∀ b u,H b = some u -> ¬ Mut (some u) -> b ≠ x:=fun b u q nm z=>by subst z; rw [q] at mu; exact nm mu
 refine ⟨fun b u q n _ _=>k b u (hb b n) q,fun b u q n _ _=>⟨u.slots,k b u (hb b n) q⟩,fun b u q n _=>by rw [zah (hx b n)]; exact n,fun b u q _=>?_,
  fun b xs q=>by rw [zah (hm b _ q fun z=>z)]; exact q,fun b u xs q=>by rw [zah (hm b _ q fun z=>z)]; exact q,fun b ps q=>⟨#[],by rw [zah (hm b _ q fun z=>z),q]; simp⟩⟩
 by_cases hbe : b = e
 ·subst hbe; exact heo
 ·exact ⟨u,k b u hbe q⟩
end
def trk (h : Heap) (H : Hp) : List Addr:=(List.range h.objs.size).filter fun a=>(H a).isSome
def hidT (h : Heap) (H : Hp) : Heap:=PySem.W.hideAll h (trk h H)
theorem zjX (h : Heap) (H : Hp) : (hidT h H).objs.size = h.objs.size:=PySem.W.hideAll_size _ _
theorem zmn {h : Heap} {H : Hp} {b : Addr} {o : Obj} (e : h.get? b = some o) (n : H b = none) : (hidT h H).get? b = some o :=
 PySem.W.hideAll_get _ e fun hm=>by
  have q : (H b).isSome = true:=(List.mem_filter.mp hm).2
  rw [n] at q; simp at q
theorem zoc {h : Heap} {H : Hp} {b : Addr} {o : Obj} (e : (hidT h H).get? b = some o) : h.get? b = some o /\ H b = none:=by
 have e' : h.get? b = some o:=PySem.W.of_hideAll (trk h H) e
 refine ⟨e',?_⟩
 cases q : H b with
 | none=>rfl
 | some x =>
   have hm : b ∈ trk h H:=List.mem_filter.mpr ⟨List.mem_range.mpr (Heap.lt_size e'),by simp [q]⟩
   have z : (hidT h H).get? b = none:=PySem.W.hideAll_none (trk h H) hm
   rw [z] at e; cases e
def znR (g h : Heap) (L : Addr) : List (Addr × Obj):=(List.range h.objs.size).filterMap fun a=>if a = L \/ (g.get? a).isSome = true then none else (h.get? a).map fun o=>(a,o)
def rest (g h : Heap) (L d : Addr) : List (Addr × Obj):=(znR g h L).filter fun p=>decide (p.1 ≠ d)
end L2
namespace L2
open PySem PySem.Spec PyProof.Rows
structure Mod (K : PySem.W.Frag) (mg : Str -> Option Value) (base : Heap) : Prop where
 kin : K.In base
 glob : base.Ns mainGlobals mg
 blt : ∃ mb,base.Ns builtinsNs mb /\ ∀ x : Str,x ≠ "__name__" -> mb x = bootBuiltins x
 nolimit : base.NoLimit
structure Cx where
 prog : Program
 w : World
 K : PySem.W.Frag
 mg : Str -> Option Value
 base : Heap
 A : Around
 N : List Str
 s₀ : Shared
 H₀ : Hp
 env : Env
 outer : List Env
 stack : List Env
 ex : List Addr
 fn : Str -> Bool
 calm : Bool
 pn : List (Addr × Obj)
 xe : Value -> Shared -> Prop
def frs (l : List Env) : List Addr:=l.filterMap (·.frame)
abbrev Cx.fs (X : Cx) : List Addr:=frs X.outer
def Vis (sc : Scope) (x : Str) : Prop:=sc.names.lookup x = some .local \/ sc.names.lookup x = some .cell \/ sc.names.lookup x = some .free
def Loc (sc : Scope) (x : Str) : Prop:=sc.names.lookup x = some .local \/ sc.names.lookup x = some .cell
def Look (env : Env) (h : Heap) (m : Str -> Option Value) (x : Str) (u : Value) : Prop :=
 (env.kindOf x = some .local /\ m x = some u) \/ ((env.kindOf x = some .cell \/ env.kindOf x = some .free) /\ ∃ c,env.cells.lookup x = some c /\ h.IsCell c (some u))
structure Cx.Ok (X : Cx) : Prop where
 mod : Mod X.K X.mg X.base
 kind : X.env.scope.kind = .function
 glob : X.env.globals = mainGlobals
 blt : X.env.builtins = builtinsNs
 above : X.s₀.heap.objs.size <= X.env.locals
 inj : ∀ x y c,X.env.cells.lookup x = some c -> X.env.cells.lookup y = some c -> x = y
 has : ∀ x,(X.env.kindOf x = some .cell \/ X.env.kindOf x = some .free) -> ∃ c,X.env.cells.lookup x = some c
 cab : ∀ x c,X.fn x = true -> X.env.cells.lookup x = some c -> X.s₀.heap.objs.size <= c
 hd : X.calm = true -> X.A.handled = none
 frames : X.A.frames = some X.stack
 stk : X.stack = X.outer \/ (X.stack = X.env :: X.outer /\ X.env.frame = some X.env.locals)
 exf : ∀ b ∈ X.ex,b ≠ X.env.locals /\ ∀ x c,X.env.cells.lookup x = some c -> c ≠ b
 bs : ∀ b o,X.base.get? b = some o -> X.s₀.heap.get? b = some o /\ X.H₀ b = none
 bsz : X.base.objs.size <= X.s₀.heap.objs.size
 noex : ∀ b o,X.base.get? b = some o -> b ∉ X.ex
 exfs : ∀ b ∈ X.ex,b ∉ X.fs
 funs : X.s₀.heap.FunFrames X.base X.outer
 frf : ∀ b ∈ X.fs,X.H₀ b = none
structure Inv (X : Cx) (pins : List (Addr × Obj)) (σ : List (Option V)) (H : Hp) (s : Shared) : Prop where
 ok : X.Ok
 os : s.os = X.s₀.os
 bare : AllBare s.gens
 base : Un X.fs X.ex X.H₀ H X.s₀.heap s.heap
 loc : ∃ m,s.heap.Ns X.env.locals m /\ ∀ (i : Nat) (x : Str) (v : V),X.N[i]? = some x -> σ[i]? = some (some v) -> Vis X.env.scope x -> ∃ u,RelV v u /\ Look X.env s.heap m x u
 cell : ∀ x c,X.env.cells.lookup x = some c -> ∃ v,s.heap.IsCell c v
 free : H X.env.locals = none
 freeC : ∀ x c,X.env.cells.lookup x = some c -> H c = none
 pin : ∀ p ∈ X.pn ++ pins,s.heap.get? p.1 = some p.2 /\ H p.1 = none /\ p.1 ≠ X.env.locals /\ p.1 ∉ X.fs /\ ∀ v,p.2.data ≠ .cell v
 hok : HOk X.prog X.w H s.heap
 len : σ.length = X.N.length
section
variable {X : Cx} {pins : List (Addr × Obj)} {σ : List (Option V)} {H H' : Hp} {s : Shared} {h' : Heap}
theorem Cx.Ok.nofr (ok : X.Ok) {b : Addr} {o : Obj} (e : X.base.get? b = some o) : b ∉ X.fs:=fun hb=>by
 have:=(ok.funs.mem hb).1
 rw [e] at this; cases this
theorem Inv.bs (I : Inv X pins σ H s) : ∀ b o,X.base.get? b = some o -> s.heap.get? b = some o /\ H b = none:=fun b o e =>
 ⟨I.base.keep b o (I.ok.bs b o e).1 (I.ok.bs b o e).2 (I.ok.nofr e) (I.ok.noex b o e),I.base.free b o (I.ok.bs b o e).1 (I.ok.bs b o e).2 (I.ok.noex b o e)⟩
theorem Inv.bk (I : Inv X pins σ H s) : ∀ b o,X.base.get? b = some o -> s.heap.get? b = some o:=fun b o e=>(I.bs b o e).1
theorem Inv.mod (I : Inv X pins σ H s) : Mod X.K X.mg X.base:=I.ok.mod
theorem Inv.kIn (I : Inv X pins σ H s) : X.K.In s.heap:=I.ok.mod.kin.keeps I.bk
theorem Inv.nolimit (I : Inv X pins σ H s) : s.heap.NoLimit:=I.ok.mod.nolimit.keeps I.bk
theorem Inv.fr (I : Inv X pins σ H s) : ∃ m,Fr X.base X.env.locals s.heap m :=
 let ⟨m,hn,_⟩:=I.loc
 ⟨m,hn,I.bk,Nat.le_trans I.ok.bsz I.ok.above⟩
theorem Inv.lt (I : Inv X pins σ H s) : X.env.locals < s.heap.objs.size:=let ⟨_,hn,_⟩:=I.loc; hn.lt
theorem Inv.sz (I : Inv X pins σ H s) : X.s₀.heap.objs.size <= s.heap.objs.size:=Nat.le_trans I.ok.above (Nat.le_of_lt I.lt)
theorem Inv.nofs (I : Inv X pins σ H s) {a : Addr} (h : s.heap.objs.size <= a) : a ∉ X.fs:=fun hb=>by
 obtain ⟨_,o,ho,_⟩:=I.ok.funs.mem hb
 exact absurd (Nat.lt_of_lt_of_le (Heap.lt_size ho) (Nat.le_trans I.sz h)) (Nat.lt_irrefl _)
theorem Inv.cne (I : Inv X pins σ H s) : ∀ x c,X.env.cells.lookup x = some c -> c ≠ X.env.locals:=fun x c e z=>by
 obtain ⟨v,o,ho,hd⟩:=I.cell x c e
 obtain ⟨m,⟨o',es,ep,ho',hd',_⟩,_⟩:=I.loc
 rw [z,ho'] at ho; cases ho; rw [hd'] at hd; cases hd
theorem Inv.funs (I : Inv X pins σ H s) : s.heap.FunFrames X.base X.outer:=by
 have all : ∀ (l : List Env),(∀ b ∈ frs l,b ∈ X.fs) -> X.s₀.heap.FunFrames X.base l -> s.heap.FunFrames X.base l:=by
  intro l
  induction l with
  | nil=>intro _ _; trivial
  | cons env r ih =>
    intro hs hl
    obtain ⟨hk,⟨L,o,hf,hn,ho,hd⟩,hr⟩:=hl
    have hL : L ∈ X.fs:=hs L (by unfold frs; rw [List.filterMap_cons,hf]; exact List.mem_cons_self)
    obtain ⟨sl,e⟩:=I.base.slot L o ho (I.ok.frf L hL) hL fun z=>I.ok.exfs L z hL
    exact ⟨hk,⟨L,_,hf,hn,e,hd⟩,ih (fun b hb=>hs b (by unfold frs; rw [List.filterMap_cons,hf]; exact List.mem_cons_of_mem _ hb)) hr⟩
 exact all X.outer (fun _ hb=>hb) I.ok.funs
theorem Inv.stack (I : Inv X pins σ H s) : s.heap.FunFrames X.base X.stack:=by
 rcases I.ok.stk with e | ⟨e,hf⟩
 ·rw [e]; exact I.funs
 ·rw [e]
  obtain ⟨m,hn,_⟩:=I.loc
  refine .cons (by rw [I.ok.kind]; decide) hf hn ?_ I.funs
  exact Heap.get?_none_of_le (Nat.le_trans I.ok.bsz I.ok.above)
theorem Inv.stkSub (I : Inv X pins σ H s) : ∀ b ∈ frs X.stack,b ∈ X.env.locals :: X.fs:=fun b hb=>by
 rcases I.ok.stk with e | ⟨e,hf⟩
 ·rw [e] at hb; exact List.mem_cons_of_mem _ hb
 ·rw [e] at hb
  unfold frs at hb
  rw [List.filterMap_cons,hf] at hb
  exact hb
theorem Inv.stkFree (I : Inv X pins σ H s) : ∀ b ∈ frs X.stack,H b = none:=fun b hb=>by
 rcases List.mem_cons.mp (I.stkSub b hb) with e | hb
 ·rw [e]; exact I.free
 ·obtain ⟨_,o,ho,_⟩:=I.ok.funs.mem hb
  exact I.base.free b o ho (I.ok.frf b hb) fun z=>I.ok.exfs b z hb
theorem Inv.step {g' : Array GenState} {t' : Nat} {d' : Drawn} {ch : List Addr} (I : Inv X pins σ H s)
 (hch : ∀ b ∈ ch,(b ∈ X.ex \/ X.s₀.heap.objs.size <= b) /\ b ≠ X.env.locals /\ (∀ x c,X.env.cells.lookup x = some c -> c ≠ b) /\ ∀ p ∈ X.pn ++ pins,p.1 ≠ b)
 (keep : ∀ b o,b ≠ X.env.locals -> b ∉ X.fs -> b ∉ ch -> s.heap.get? b = some o -> H b = none -> h'.get? b = some o)
 (slot : ∀ b o,b ≠ X.env.locals -> b ∈ X.fs -> b ∉ ch -> s.heap.get? b = some o -> H b = none -> ∃ sl,h'.get? b = some { o with slots:=sl }) (free : ∀ b o,b ∉ ch -> s.heap.get? b = some o -> H b = none -> H' b = none)
 (there : ∀ b o,b ∉ ch -> s.heap.get? b = some o -> ∃ o',h'.get? b = some o')
 (tups : ∀ b xs,H b = some (.tup xs) -> H' b = some (.tup xs)) (frzs : ∀ b o u,H b = some (.frz o u) -> H' b = some (.frz o u)) (tbls : ∀ b ps,H b = some (.tbl ps) -> ∃ more,H' b = some (.tbl (ps ++ more)))
 (ns : ∀ m,s.heap.Ns X.env.locals m -> h'.Ns X.env.locals m) (hok : HOk X.prog X.w H' h') (hg : AllBare g') :
 Inv X pins σ H' { s with heap:=h',gens:=g',drawn:=d',toks:=t' }:=by
 have neL : ∀ b o,X.s₀.heap.get? b = some o -> b ≠ X.env.locals:=fun b o e=>Nat.ne_of_lt (Nat.lt_of_lt_of_le (Heap.lt_size e) I.ok.above)
 have neC : ∀ b o,X.s₀.heap.get? b = some o -> b ∉ X.ex -> b ∉ ch:=fun b o e hx hb=>by
  rcases (hch b hb).1 with z | z
  ·exact hx z
  ·exact absurd (Nat.lt_of_lt_of_le (Heap.lt_size e) z) (Nat.lt_irrefl _)
 have cellK : ∀ x c,X.env.cells.lookup x = some c -> ∀ v,s.heap.IsCell c v -> h'.IsCell c v:=fun x c e v ⟨o,ho,hd⟩=>by
  have nch : c ∉ ch:=fun z=>(hch c z).2.2.1 x c e rfl
  by_cases hc : c ∈ X.fs
  ·obtain ⟨sl,q⟩:=slot c o (I.cne x c e) hc nch ho (I.freeC x c e)
   exact ⟨_,q,hd⟩
  ·exact ⟨o,keep c o (I.cne x c e) hc nch ho (I.freeC x c e),hd⟩
 refine ⟨I.ok,I.os,hg,⟨fun b o e n hb hx=>?_,fun b o e n hb hx=>?_,fun b o e n hx=>?_,fun b o e hx=>?_,fun b xs e=>tups b xs (I.base.tups b xs e),fun b o xs e=>frzs b o xs (I.base.frzs b o xs e),fun b ps e=>?_⟩,?_,fun x c e=>?_,?_,fun x c e=>?_,fun p hp=>?_,hok,I.len⟩
 ·exact keep b o (neL b o e) hb (neC b o e hx) (I.base.keep b o e n hb hx) (I.base.free b o e n hx)
 ·obtain ⟨sl,e1⟩:=I.base.slot b o e n hb hx
  obtain ⟨sl',e2⟩:=slot b _ (neL b o e) hb (neC b o e hx) e1 (I.base.free b o e n hx)
  exact ⟨sl',e2⟩
 ·obtain ⟨o',e1⟩:=I.base.there b o e hx
  exact free b o' (neC b o e hx) e1 (I.base.free b o e n hx)
 ·obtain ⟨o',e1⟩:=I.base.there b o e hx
  exact there b o' (neC b o e hx) e1
 ·obtain ⟨m1,e1⟩:=I.base.tbls b ps e
  obtain ⟨m2,e2⟩:=tbls b _ e1
  exact ⟨m1 ++ m2,by rw [e2,Array.append_assoc]⟩
 ·obtain ⟨m,hn,hl⟩:=I.loc
  refine ⟨m,ns m hn,fun i x v e1 e2 e3=>?_⟩
  obtain ⟨u,r,l⟩:=hl i x v e1 e2 e3
  refine ⟨u,r,?_⟩
  rcases l with l | ⟨k,c,e,z⟩
  ·exact .inl l
  ·exact .inr ⟨k,c,e,cellK x c e _ z⟩
 ·obtain ⟨v,z⟩:=I.cell x c e
  exact ⟨v,cellK x c e v z⟩
 ·obtain ⟨m,⟨o,_,_,ho,_⟩,_⟩:=I.loc
  exact free _ o (fun z=>(hch _ z).2.1 rfl) ho I.free
 ·obtain ⟨v,o,ho,hd⟩:=I.cell x c e
  exact free c o (fun z=>(hch c z).2.2.1 x c e rfl) ho (I.freeC x c e)
 ·obtain ⟨e,n,ne,nf,d⟩:=I.pin p hp
  have nch : p.1 ∉ ch:=fun z=>(hch p.1 z).2.2.2 p hp rfl
  exact ⟨keep p.1 p.2 ne nf nch e n,free p.1 p.2 nch e n,ne,nf,d⟩
theorem Inv.un {t' : Nat} (I : Inv X pins σ H s) (u : Un X.fs [] H H' s.heap h') (hok : HOk X.prog X.w H' h') : Inv X pins σ H' { s with heap:=h',toks:=t' }:=by
 obtain ⟨m,⟨o,es,ep,ho,r⟩,_⟩:=id I.loc
 obtain ⟨sl,hL⟩:=u.any ho I.free (by simp)
 exact I.step (g':=s.gens) (d':=s.drawn) (ch:=[]) (fun _ z=>nomatch z) (fun b o _ hb _ e n=>u.keep b o e n hb (by simp)) (fun b o _ hb _ e n=>u.slot b o e n hb (by simp)) (fun b o _ e n=>u.free b o e n (by simp)) (fun b o _ e=>u.there b o e (by simp)) u.tups u.frzs u.tbls (fun m' hm=>by
  obtain ⟨o',es',ep',ho',r'⟩:=hm
  rw [ho] at ho'; cases ho'
  exact ⟨_,es',ep',hL,r'⟩) hok I.bare
theorem Inv.call {g' : Array GenState} {t' : Nat} {d' : Drawn} {ch : List Addr} (I : Inv X pins σ H s) (u : Un (frs X.stack) ch H H' s.heap h') (hok : HOk X.prog X.w H' h') (hg : AllBare g')
 (hch : ∀ b ∈ ch,(b ∈ X.ex \/ X.s₀.heap.objs.size <= b) /\ b ≠ X.env.locals /\ (∀ x c,X.env.cells.lookup x = some c -> c ≠ b) /\ ∀ p ∈ X.pn ++ pins,p.1 ≠ b) :
 Inv X pins σ H' { s with heap:=h',gens:=g',drawn:=d',toks:=t' }:=by
 obtain ⟨m,⟨o,es,ep,ho,r⟩,_⟩:=id I.loc
 obtain ⟨sl,hL⟩:=u.any ho I.free fun z=>(hch _ z).2.1 rfl
 exact I.step (ch:=ch) hch (fun b o hL hb hc e n=>u.keep b o e n (fun z=>(List.mem_cons.mp (I.stkSub b z)).elim hL hb) hc) (fun b o _ _ hc e n=>u.any e n hc) (fun b o hc e n=>u.free b o e n hc) (fun b o hc e=>u.there b o e hc) u.tups u.frzs u.tbls (fun m' hm=>by
  obtain ⟨o',es',ep',ho',r'⟩:=hm
  rw [ho] at ho'; cases ho'
  exact ⟨_,es',ep',hL,r'⟩) hok hg
theorem Inv.turned {t' : Nat} {it : Addr} (I : Inv X pins σ H s) (k : ∀ b o,b ≠ it -> s.heap.get? b = some o -> h'.get? b = some o) (hn : H it = none) (hL : it ≠ X.env.locals)
 (h1 : it ∈ X.ex \/ X.s₀.heap.objs.size <= it) (h2 : ∀ x c,X.env.cells.lookup x = some c -> c ≠ it) (h3 : ∀ p ∈ X.pn ++ pins,p.1 ≠ it) : Inv X pins σ H { s with heap:=h',toks:=t' }:=by
 have nit : ∀ b u,H b = some u -> b ≠ it:=fun b u e z=>by rw [z,hn] at e; cases e
 refine I.step (g':=s.gens) (d':=s.drawn) (ch:=[it]) (fun b hb=>?_) (fun b o _ _ hc e _=>k b o (fun z=>hc (by simp [z])) e) (fun b o _ _ hc e _=>⟨o.slots,k b o (fun z=>hc (by simp [z])) e⟩) (fun _ _ _ _ n=>n)
  (fun b o hc e=>⟨o,k b o (fun z=>hc (by simp [z])) e⟩) (fun _ _ e=>e) (fun _ _ _ e=>e) (fun b ps e=>⟨#[],by rw [e]; simp⟩) (fun m hm=>?_) (fun b u e=>?_) I.bare
 ·have e : b = it:=by simpa using hb
  subst e
  exact ⟨h1,hL,h2,h3⟩
 ·obtain ⟨o,es,ep,ho,r⟩:=hm
  exact ⟨o,es,ep,k _ o (Ne.symm hL) ho,r⟩
 ·refine (I.hok b u e).stay (fun c v hc q=>k c v ?_ q) (fun _ q=>q) fun _ _ q=>q
  rcases hc with z | z
  ·rw [z]; exact nit b u e
  ·exact nit c _ z
theorem Inv.tok (I : Inv X pins σ H s) (t : Nat) : Inv X pins σ H { s with toks:=t }:=I.un (h':=s.heap) (t':=t) Un.refl I.hok
theorem Inv.kept {t' : Nat} (I : Inv X pins σ H s) (k : ∀ b u,s.heap.get? b = some u -> h'.get? b = some u) : Inv X pins σ H { s with heap:=h',toks:=t' }:=I.un (Un.kept k) (I.hok.kept k)
theorem Inv.laid {a : Addr} {o : HO} {t' : Nat} (I : Inv X pins σ H s) (k : ∀ b u,s.heap.get? b = some u -> h'.get? b = some u) (hp : s.heap.objs.size <= a) (new : zdb X.prog X.w (upd H a o) h' a o) :
 Inv X pins σ (upd H a o) { s with heap:=h',toks:=t' }:=I.un (Un.laid k hp (I.hok.fresh hp)) (I.hok.laid k hp new)
theorem Inv.write {x e : Addr} {o : HO} {t' : Nat} (I : Inv X pins σ H s) (mu : Mut (H x)) (he : e = x \/ H e = some (.own x)) (k : ∀ b u,b ≠ e -> s.heap.get? b = some u -> h'.get? b = some u) (heo : ∃ u,h'.get? e = some u)
 (new : zdb X.prog X.w (upd H x o) h' x o) : Inv X pins σ (upd H x o) { s with heap:=h',toks:=t' }:=I.un (Un.write mu he k heo) (I.hok.write mu he k heo new)
theorem Inv.pins_of {pins' : List (Addr × Obj)} (I : Inv X pins σ H s) (h : ∀ p ∈ pins',s.heap.get? p.1 = some p.2 /\ H p.1 = none /\ p.1 ≠ X.env.locals /\ p.1 ∉ X.fs /\ ∀ v,p.2.data ≠ .cell v) : Inv X pins' σ H s :=
 ⟨I.ok,I.os,I.bare,I.base,I.loc,I.cell,I.free,I.freeC,fun p hp=>(List.mem_append.mp hp).elim (fun z=>I.pin p (List.mem_append_left _ z)) (h p),I.hok,I.len⟩
theorem zfW {N : List Str} (hN : N.Nodup) {i j : Nat} {x : Str} (a : N[i]? = some x) (b : N[j]? = some x) : i = j:=by
 obtain ⟨h1,e1⟩:=List.getElem?_eq_some_iff.mp a
 obtain ⟨h2,e2⟩:=List.getElem?_eq_some_iff.mp b
 exact (List.getElem_inj hN).mp (e1.trans e2.symm)
theorem zhk {M : Model} {A : Around} {E : Value -> Shared -> Prop} {i : Nat} {x : Str} {v : V} {u : Value} {Q : Unit -> Shared -> Prop} (I : Inv X pins σ H s) (hN : X.N.Nodup) (hi : X.N[i]? = some x) (hx : Loc X.env.scope x) (r : RelV v u)
 (h : ∀ s',Inv X pins (σ.set i (some v)) H s' -> (∃ a,Heap.SameBut a s.heap s'.heap /\ (a = X.env.locals \/ X.env.cells.lookup x = some a)) -> Q () s') (hf : X.fn x = true \/ X.env.scope.names.lookup x = some .local:=by first | exact .inl rfl | exact .inr rfl | assumption) : wpAny M A (storeName X.env x u) Q E s:=by
 obtain ⟨m,hn,hl⟩:=id I.loc
 have hcls : (X.env.scope.kind == .class || (X.env.scope.kind == .module && X.env.locals != X.env.globals)) = false:=by rw [I.ok.kind]; rfl
 have hiσ : i < σ.length:=by rw [I.len]; exact (List.getElem?_eq_some_iff.mp hi).1
 have cne:=I.cne
 have tracked : ∀ {a : Addr} {h' : Heap},(∃ o,s.heap.get? a = some o /\ H a = none) -> Heap.SameBut a s.heap h' -> HOk X.prog X.w H h':=fun {a h'} ha hs b ob e=>by
  obtain ⟨_,_,hfree⟩:=ha
  refine (I.hok b ob e).stay (fun c w' hc q=>(hs.2 c ?_).trans q) (fun _ q=>q) fun _ _ q=>q
  rintro rfl
  rcases hc with rfl | hc
  ·rw [hfree] at e; cases e
  ·rw [hfree] at hc; cases hc
 rcases hx with hk | hk
 ·refine wpAny_storeName_local hk hn (fun h' hn' hs=>?_) hcls
  obtain ⟨oL,_,_,hoL,_⟩:=id hn
  refine h _ ⟨I.ok,I.os,I.bare,⟨fun b o e n hb hx=>?_,fun b o e n hb hx=>?_,I.base.free,fun b o e hx=>?_,I.base.tups,I.base.frzs,I.base.tbls⟩,⟨_,hn',fun j y v' e1 e2 e3=>?_⟩,fun y c e=>?_,I.free,I.freeC,fun p hp=>?_,tracked ⟨oL,hoL,I.free⟩ hs,by simpa using I.len⟩ ⟨_,hs,.inl rfl⟩
  ·exact (hs.2 b (Nat.ne_of_lt (Nat.lt_of_lt_of_le (Heap.lt_size e) I.ok.above))).trans (I.base.keep b o e n hb hx)
  ·obtain ⟨sl,e1⟩:=I.base.slot b o e n hb hx
   exact ⟨sl,(hs.2 b (Nat.ne_of_lt (Nat.lt_of_lt_of_le (Heap.lt_size e) I.ok.above))).trans e1⟩
  ·obtain ⟨o',e1⟩:=I.base.there b o e hx
   exact ⟨o',(hs.2 b (Nat.ne_of_lt (Nat.lt_of_lt_of_le (Heap.lt_size e) I.ok.above))).trans e1⟩
  ·by_cases hj : j = i
   ·subst hj
    rw [hi] at e1; cases e1
    rw [List.getElem?_set_self hiσ] at e2
    cases e2
    exact ⟨u,r,.inl ⟨hk,by simp⟩⟩
   ·rw [List.getElem?_set_ne (Ne.symm hj)] at e2
    obtain ⟨u',r',q⟩:=hl j y v' e1 e2 e3
    refine ⟨u',r',?_⟩
    rcases q with ⟨k,e⟩ | ⟨k,c,e,z⟩
    ·refine .inl ⟨k,?_⟩
     have : y ≠ x:=fun e=>hj (zfW hN e1 (e ▸ hi))
     simp [this,e]
    ·exact .inr ⟨k,c,e,z.sameBut hs (cne y c e)⟩
  ·obtain ⟨w',z⟩:=I.cell y c e
   exact ⟨w',z.sameBut hs (cne y c e)⟩
  ·obtain ⟨e,n,ne,nf,d⟩:=I.pin p hp
   exact ⟨(hs.2 p.1 ne).trans e,n,ne,nf,d⟩
 ·have hfn : X.fn x = true:=by
   rcases hf with z | z
   ·exact z
   ·rw [z] at hk; cases hk
  obtain ⟨c,hc⟩:=I.ok.has x (.inl hk)
  obtain ⟨w',z⟩:=I.cell x c hc
  refine wpAny_storeName_cell I.ok.kind hk hc z (fun h' hc' hs=>?_)
  obtain ⟨oc,hoc,hocd⟩:=id z
  refine h { s with heap:=h' } ⟨I.ok,I.os,I.bare,⟨fun b o e n hb hx=>?_,fun b o e n hb hx=>?_,I.base.free,fun b o e hx=>?_,I.base.tups,I.base.frzs,I.base.tbls⟩,⟨m,hn.sameBut hs (Ne.symm (cne x c hc)),fun j y v' e1 e2 e3=>?_⟩,fun y c' e=>?_,I.free,I.freeC,fun p hp=>?_,tracked ⟨oc,hoc,I.freeC x c hc⟩ hs,by simpa using I.len⟩ ⟨c,hs,.inr hc⟩
  ·exact (hs.2 b (Nat.ne_of_lt (Nat.lt_of_lt_of_le (Heap.lt_size e) (I.ok.cab x c hfn hc)))).trans (I.base.keep b o e n hb hx)
  ·obtain ⟨sl,e1⟩:=I.base.slot b o e n hb hx
   exact ⟨sl,(hs.2 b (Nat.ne_of_lt (Nat.lt_of_lt_of_le (Heap.lt_size e) (I.ok.cab x c hfn hc)))).trans e1⟩
  ·obtain ⟨o',e1⟩:=I.base.there b o e hx
   exact ⟨o',(hs.2 b (Nat.ne_of_lt (Nat.lt_of_lt_of_le (Heap.lt_size e) (I.ok.cab x c hfn hc)))).trans e1⟩
  ·by_cases hj : j = i
   ·subst hj
    rw [hi] at e1; cases e1
    rw [List.getElem?_set_self hiσ] at e2
    cases e2
    exact ⟨u,r,.inr ⟨.inl hk,c,hc,hc'⟩⟩
   ·rw [List.getElem?_set_ne (Ne.symm hj)] at e2
    obtain ⟨u',r',q⟩:=hl j y v' e1 e2 e3
    refine ⟨u',r',?_⟩
    rcases q with q | ⟨k,c',e,z'⟩
    ·exact .inl q
    ·refine .inr ⟨k,c',e,z'.sameBut hs ?_⟩
     rintro rfl
     exact hj (zfW hN e1 (I.ok.inj _ _ _ e hc ▸ hi))
  ·by_cases hcc : c' = c
   ·subst hcc; exact ⟨_,hc'⟩
   ·obtain ⟨w2,z2⟩:=I.cell y c' e
    exact ⟨w2,z2.sameBut hs hcc⟩
  ·obtain ⟨e,n,ne,nf,d⟩:=I.pin p hp
   refine ⟨(hs.2 p.1 ?_).trans e,n,ne,nf,d⟩
   intro q
   rw [q,hoc] at e
   have q' : oc = p.2:=Option.some.inj e
   exact d w' (by rw [<- q']; exact hocd)
theorem zgg {M : Model} {A : Around} {E : Value -> Shared -> Prop} {i : Nat} {x : Str} {v : V} {u : Value} {Q : Unit -> Shared -> Prop} (I : Inv X pins σ H s) (hN : X.N.Nodup) (hi : X.N[i]? = some x) (hx : Loc X.env.scope x) (r : RelV v u)
 (h : ∀ s',Inv X pins (σ.set i (some v)) H s' -> Q () s') (hf : X.fn x = true \/ X.env.scope.names.lookup x = some .local:=by first | exact .inl rfl | exact .inr rfl | assumption) : wpAny M A (storeName X.env x u) Q E s :=
 zhk I hN hi hx r (fun s' I' _=>h s' I') hf
theorem Inv.call' {s' : Shared} {ch : List Addr} (I : Inv X pins σ H s) (ho : s'.os = s.os) (u : Un (frs X.stack) ch H H' s.heap s'.heap) (hok : HOk X.prog X.w H' s'.heap) (hg : AllBare s'.gens)
 (hch : ∀ b ∈ ch,(b ∈ X.ex \/ X.s₀.heap.objs.size <= b) /\ b ≠ X.env.locals /\ (∀ x c,X.env.cells.lookup x = some c -> c ≠ b) /\ ∀ p ∈ X.pn ++ pins,p.1 ≠ b) : Inv X pins σ H' s':=by
 obtain ⟨h',g',d',t',o'⟩:=s'
 have e : o' = s.os:=ho
 subst e
 exact I.call (g':=g') (t':=t') (d':=d') u hok hg hch
end
abbrev XK:=Value -> Option Addr -> Hp -> Prop
abbrev St:=List (Option V)
abbrev VK:=V -> Hp -> Prop
abbrev TE:=St -> Hp -> VK -> Prop
abbrev TT:=St -> Hp -> (Bool -> Hp -> Prop) -> Prop
abbrev TA:=St -> Hp -> (List V -> Hp -> Prop) -> Prop
structure Ends where
 nx : St -> Hp -> Prop
 rt : VK
 bk : St -> Hp -> Prop:=fun _ _=>False
 ct : St -> Hp -> Prop:=fun _ _=>False
abbrev TS:=Ends -> St -> Hp -> Prop
def EP (X : Cx) (pins : List (Addr × Obj)) (σ : St) (Q : VK) (u : Value) (s' : Shared) : Prop:=∃ v H',Inv X pins σ H' s' /\ RelV v u /\ Q v H'
def TP (X : Cx) (pins : List (Addr × Obj)) (σ : St) (Q : Bool -> Hp -> Prop) (b : Bool) (s' : Shared) : Prop:=∃ H',Inv X pins σ H' s' /\ Q b H'
def AP (X : Cx) (pins : List (Addr × Obj)) (σ : St) (Q : List V -> Hp -> Prop) (us : List Value) (s' : Shared) : Prop:=∃ vs H',Inv X pins σ H' s' /\ Vals vs us /\ Q vs H'
def SP (X : Cx) (pins : List (Addr × Obj)) (D : Ends) (f : Flow) (s' : Shared) : Prop :=
 match f with
 | .next=>∃ σ' H',Inv X pins σ' H' s' /\ D.nx σ' H'
 | .brk=>∃ σ' H',Inv X pins σ' H' s' /\ D.bk σ' H'
 | .cont=>∃ σ' H',Inv X pins σ' H' s' /\ D.ct σ' H'
 | .ret u=>∃ v σ' H',Inv X pins σ' H' s' /\ RelV v u /\ D.rt v H'
def PE (X : Cx) (e : Expr) (t : TE) : Prop :=
 ∀ (pins : List (Addr × Obj)) (s : Shared) (σ : St) (H : Hp) (Q : VK),Inv X pins σ H s -> t σ H Q -> wpAny (model X.prog X.w) X.A (eval e X.env) (EP X pins σ Q) X.xe s
def PT (X : Cx) (e : Expr) (t : TT) : Prop :=
 ∀ (pins : List (Addr × Obj)) (s : Shared) (σ : St) (H : Hp) (Q : Bool -> Hp -> Prop),Inv X pins σ H s -> t σ H Q -> wpAny (model X.prog X.w) X.A (isTrue e X.env (eval e X.env)) (TP X pins σ Q) X.xe s
def PW (X : Cx) (e : Expr) (t : TT) : Prop :=
 ∀ (whole : Sem Value) (pins : List (Addr × Obj)) (s : Shared) (σ : St) (H : Hp) (Q : Bool -> Hp -> Prop),Inv X pins σ H s -> t σ H Q -> wpAny (model X.prog X.w) X.A (isTrue e X.env whole) (TP X pins σ Q) X.xe s
theorem PW.pt {X : Cx} {e : Expr} {t : TT} (h : PW X e t) : PT X e t:=h _
def PA (X : Cx) (es : List Expr) (t : TA) : Prop :=
 ∀ (pos : Pos) (pins : List (Addr × Obj)) (s : Shared) (σ : St) (H : Hp) (Q : List V -> Hp -> Prop),Inv X pins σ H s -> t σ H Q -> wpAny (model X.prog X.w) X.A (spliced (backTo pos (starEach es X.env))) (AP X pins σ Q) X.xe s
def PS (X : Cx) (st : Stmt) (t : TS) : Prop :=
 ∀ (pins : List (Addr × Obj)) (s : Shared) (σ : St) (H : Hp) (D : Ends),Inv X pins σ H s -> t D σ H -> wpAny (model X.prog X.w) X.A (exec st X.env) (SP X pins D) X.xe s
def PSs (X : Cx) (st : List Stmt) (t : TS) : Prop :=
 ∀ (pins : List (Addr × Obj)) (s : Shared) (σ : St) (H : Hp) (D : Ends),Inv X pins σ H s -> t D σ H -> wpAny (model X.prog X.w) X.A (execs st X.env) (SP X pins D) X.xe s
theorem thn {α : Type} {t : Sem α} {Q Q' : α -> Shared -> Prop} {M : Model} {A : Around} {E : Value -> Shared -> Prop} {s : Shared} (h : wpAny M A t Q E s) (hQ : ∀ a s,Q a s -> Q' a s) : wpAny M A t Q' E s:=wpAny_mono h hQ fun _ _ x=>x
end L2
namespace L2
open PySem PySem.Spec PyProof.Rows
section
variable {X : Cx}
theorem bin {a b : Expr} {ta tb : TE} (ha : PE X a ta) (hb : PE X b tb) {pins : List (Addr × Obj)} {s : Shared} {σ : St} {H : Hp} {R : V -> V -> Hp -> Prop} (I : Inv X pins σ H s) (h : ta σ H fun x H1=>tb σ H1 fun y H2=>R x y H2)
 {α : Type} {Q : α -> Shared -> Prop} {f : Value -> Value -> Sem α}
 (hf : ∀ v u s2 x y H2,Inv X pins σ H2 s2 -> RelV x v -> RelV y u -> R x y H2 -> wpAny (model X.prog X.w) X.A (f v u) Q X.xe s2) :
 wpAny (model X.prog X.w) X.A (eval a X.env) (fun v s₁=>wpAny (model X.prog X.w) X.A (eval b X.env) (fun u s₂=>wpAny (model X.prog X.w) X.A (f v u) Q X.xe s₂) X.xe s₁) X.xe s:=by
 refine thn (ha pins s σ H _ I h) fun v s1 ⟨x,H1,I1,r1,q1⟩=>?_
 refine thn (hb pins s1 σ H1 _ I1 q1) fun u s2 ⟨y,H2,I2,r2,q2⟩=>?_
 exact hf v u s2 x y H2 I2 r1 r2 q2
def tVar (i : Nat) : TE:=fun σ H Q=>∃ v,σ[i]? = some (some v) /\ Q v H
def tC (v : V) : TE:=fun _ H Q=>Q v H
theorem zpb {i : Nat} {x : Str} {pos : Pos} (hN : X.N[i]? = some x) (hv : Vis X.env.scope x) (hd : (x == ("__debug__" : Str)) = false:=by decide) (hcd : (x == ("__classdict__" : Str)) = false:=by decide) : PE X (.Name x pos) (tVar i):=by
 intro pins s σ H Q I h
 obtain ⟨v,e,h⟩:=h
 obtain ⟨m,hn,hl⟩:=I.loc
 obtain ⟨u,r,l⟩:=hl i x v hN e hv
 have fin : EP X pins σ Q u s:=⟨v,H,I,r,h⟩
 rcases l with ⟨hk,hm⟩ | ⟨hk,c,hc,hcell⟩
 ·exact wpAny_Name (wpAny_loadName_local I.ok.kind hk hn hm fin) hd
 ·rcases hk with hk | hk
  ·exact wpAny_Name (wpAny_loadName_cell I.ok.kind hk hc hcell fin) hd
  ·exact wpAny_Name (wpAny_loadName_free I.ok.kind hk hc hcell fin hcd) hd
theorem zag {i j pos} : PE X (.Constant (.int i) j pos) (tC (.int i)):=fun _ _ _ H _ I h=>wpAny_Constant_int ⟨.int i,H,I.tok _,⟨_,rfl⟩,h⟩
theorem znl {b j pos} : PE X (.Constant (.bool b) j pos) (tC (.bl b)):=fun _ _ _ H _ I h=>Constant_bool ⟨.bl b,H,I,rfl,h⟩
theorem ziL {j pos} : PE X (.Constant .none j pos) (tC .non):=fun _ _ _ H _ I h=>Constant_none ⟨.non,H,I,rfl,h⟩
theorem zbL {x j pos} : PE X (.Constant (.str x) j pos) (tC (.str x)):=fun _ _ _ H _ I h=>Calls.Constant_str ⟨.str x,H,I.tok _,⟨_,rfl⟩,h⟩
def Gl (X : Cx) (x : Str) : Prop:=X.env.kindOf x = some .globalImplicit
theorem zcE {E : Value -> Shared -> Prop} {pins : List (Addr × Obj)} {s : Shared} {σ : St} {H : Hp} {x : Str} {u : Value} {pos : Pos} {Q : Value -> Shared -> Prop} (I : Inv X pins σ H s) (hg : Gl X x) (hm : X.mg x = some u) (h : Q u s)
 (hd : (x == ("__debug__" : Str)) = false:=by decide) : wpAny (model X.prog X.w) X.A (eval (.Name x pos) X.env) Q E s :=
 Calls.Name_function_global I.ok.kind hg (Calls.loadGlobal_global (by rw [I.ok.glob]; exact I.mod.glob.keeps I.bk) hm h) hd
theorem zfz {E : Value -> Shared -> Prop} {pins : List (Addr × Obj)} {s : Shared} {σ : St} {H : Hp} {x : Str} {u : Value} {pos : Pos} {Q : Value -> Shared -> Prop} (I : Inv X pins σ H s) (hg : Gl X x) (hm : X.mg x = none) (hv : bootBuiltins x = some u) (h : Q u s)
 (hn : x ≠ "__name__":=by decide) (hd : (x == ("__debug__" : Str)) = false:=by decide) : wpAny (model X.prog X.w) X.A (eval (.Name x pos) X.env) Q E s:=by
 obtain ⟨mb,h1,h2⟩:=I.mod.blt
 exact Calls.Name_function_global I.ok.kind hg (Calls.loadGlobal_builtin (by rw [I.ok.glob]; exact I.mod.glob.keeps I.bk) hm (by rw [I.ok.blt]; exact h1.keeps I.bk) ((h2 x hn).trans hv) h) hd
theorem zbw {x : Str} {v : V} {u : Value} {pos : Pos} (hg : Gl X x) (hm : X.mg x = some u) (r : RelV v u) (hd : (x == ("__debug__" : Str)) = false:=by decide) : PE X (.Name x pos) (tC v) :=
 fun _ _ _ H _ I h=>zcE I hg hm ⟨v,H,I,r,h⟩ hd
theorem znO {x : Str} {v : V} {u : Value} {pos : Pos} (hg : Gl X x) (hm : X.mg x = none) (hv : bootBuiltins x = some u) (r : RelV v u) (hn : x ≠ "__name__":=by decide) (hd : (x == ("__debug__" : Str)) = false:=by decide) : PE X (.Name x pos) (tC v) :=
 fun _ _ _ H _ I h=>zfz I hg hm hv ⟨v,H,I,r,h⟩ hn hd
variable {a b : Expr} {ta tb : TE} {pos : Pos}
def PC (X : Cx) (op : CmpOp) (a b : Expr) (t : TE) : Prop :=
 ∀ (pins : List (Addr × Obj)) (s : Shared) (σ : St) (H : Hp) (Q : VK),Inv X pins σ H s -> t σ H Q ->
  wpAny (model X.prog X.w) X.A (eval a X.env) (fun v s₁=>wpAny (model X.prog X.w) X.A (eval b X.env) (fun u s₂=>wpAny (model X.prog X.w) X.A (compareOp op v u) (EP X pins σ Q) X.xe s₂) X.xe s₁) X.xe s
theorem zja (b : Expr) {op : CmpOp} (h : op ≠ .In) (h2 : op ≠ .NotIn) : behindInMarks op b = false:=by
 have e1 : (op == CmpOp.In) = false:=by cases op <;> first | rfl | exact absurd rfl h
 have e2 : (op == CmpOp.NotIn) = false:=by cases op <;> first | rfl | exact absurd rfl h2
 cases b <;> simp [behindInMarks,e1,e2]
def tIsN (ta : TE) : TE:=fun σ H Q=>ta σ H fun x H1=>Q (.bl (decide (x = .non))) H1
def ztv (ta : TE) : TE:=fun σ H Q=>ta σ H fun x H1=>Q (.bl (!decide (x = .non))) H1
theorem RelV.none_iff {x : V} {v : Value} (r : RelV x v) : (v == Value.none) = decide (x = .non):=by
 cases x with
 | non=>cases r; rfl
 | bl _=>cases r; rfl
 | int _=>obtain ⟨t,rfl⟩:=r; rfl
 | str _=>obtain ⟨t,rfl⟩:=r; rfl
 | byt _=>obtain ⟨t,rfl⟩:=r; rfl
 | flt _=>obtain ⟨t,rfl⟩:=r; rfl
 | ref _=>cases r; rfl
 | ty _=>cases r; rfl
theorem zmE {j pos'} (ha : PE X a ta) : PC X .Is a (.Constant .none j pos') (tIsN ta):=by
 intro pins s σ H Q I h
 refine thn (ha pins s σ H _ I h) fun v s1 ⟨x,H1,I1,r1,q1⟩=>?_
 exact Constant_none (is_none_gen ⟨.bl _,H1,I1,by rw [r1.none_iff]; rfl,q1⟩)
theorem zle {j pos'} (ha : PE X a ta) : PC X .IsNot a (.Constant .none j pos') (ztv ta):=by
 intro pins s σ H Q I h
 refine thn (ha pins s σ H _ I h) fun v s1 ⟨x,H1,I1,r1,q1⟩=>?_
 exact Constant_none (isnot_none_gen ⟨.bl _,H1,I1,by rw [r1.none_iff]; rfl,q1⟩)
def tB (t : TE) : TT:=fun σ H Q=>t σ H fun x H1=>∃ c,x = .bl c /\ Q c H1
theorem zkl {op : CmpOp} {t : TE} (h : PC X op a b t) (h1 : behindInMarks op b = false:=by first | exact zja _ (by decide) (by decide) | rfl) : PE X (.Compare a [op] [b] pos) t:=fun pins s σ H Q I hw=>wpAny_Compare1 (h pins s σ H Q I hw) h1
theorem zsX {op : CmpOp} {t : TE} (h : PC X op a b t) (h1 : behindInMarks op b = false:=by first | exact zja _ (by decide) (by decide) | rfl) : PT X (.Compare a [op] [b] pos) (tB t):=by
 intro pins s σ H Q I hw
 refine wpAny_isTrue_Compare1 (thn (h pins s σ H _ I hw) fun v s1 h1=>thn h1 fun u s2 h2=>thn h2 fun c s3 ⟨x,H1,I1,r1,q1⟩=>?_) h1
 obtain ⟨d,rfl,q⟩:=q1
 cases r1
 exact wpAny_truthy_bool ⟨H1,I1,q⟩
theorem zcz {e : Expr} {t : TE} (h : PE X e t) (he : ∀ whole,isTrue e X.env whole = (do let v <- whole; standAt e.pos; holding [v] (truthy v)):=by intro _; rfl) : PT X e (tB t):=by
 intro pins s σ H Q I hw
 refine isTrue_plain (thn (h pins s σ H _ I hw) fun v s1 ⟨x,H1,I1,r1,q1⟩=>?_) (he _)
 obtain ⟨d,rfl,q⟩:=q1
 cases r1
 exact wpAny_truthy_bool ⟨H1,I1,q⟩
variable {tA tB' : TT} {rest : List Expr}
def tAnd (t u : TT) : TT:=fun σ H Q=>t σ H fun c H1=>if c = true then u σ H1 Q else Q false H1
def tOr (t u : TT) : TT:=fun σ H Q=>t σ H fun c H1=>if c = true then Q true H1 else u σ H1 Q
def tNot (t : TT) : TT:=fun σ H Q=>t σ H fun c H1=>Q (!c) H1
theorem znE (ha : PT X a tA) : PW X (.BoolOp .And [a] pos) tA:=by
 intro wh pins s σ H Q I h
 refine isTrue_and (thn (ha pins s σ H Q I h) fun c s1 e=>?_)
 cases c with
 | true=>exact isTrue_and_nil e
 | false=>exact e
theorem zjZ (ha : PT X a tA) : PW X (.BoolOp .Or [a] pos) tA:=by
 intro wh pins s σ H Q I h
 refine isTrue_or (thn (ha pins s σ H Q I h) fun c s1 e=>?_)
 cases c with
 | false=>exact isTrue_or_nil e
 | true=>exact e
theorem zpj (ha : PT X a tA) (hb : PW X (.BoolOp .And (b :: rest) pos) tB') : PW X (.BoolOp .And (a :: b :: rest) pos) (tAnd tA tB'):=by
 intro wh pins s σ H Q I h
 refine isTrue_and (thn (ha pins s σ H _ I h) fun c s1 ⟨H1,I1,q1⟩=>?_)
 cases c with
 | true=>exact hb wh pins s1 σ H1 Q I1 q1
 | false=>exact ⟨H1,I1,q1⟩
theorem zkb (ha : PT X a tA) (hb : PW X (.BoolOp .Or (b :: rest) pos) tB') : PW X (.BoolOp .Or (a :: b :: rest) pos) (tOr tA tB'):=by
 intro wh pins s σ H Q I h
 refine isTrue_or (thn (ha pins s σ H _ I h) fun c s1 ⟨H1,I1,q1⟩=>?_)
 cases c with
 | true=>exact ⟨H1,I1,q1⟩
 | false=>exact hb wh pins s1 σ H1 Q I1 q1
theorem zim (ha : PT X a tA) : PT X (.UnaryOp .Not a pos) (tNot tA):=by
 intro pins s σ H Q I h
 exact isTrue_not (ha pins s σ H (fun c H1=>Q (!c) H1) I h)
def zvj (ta tb : TE) : TE:=fun σ H Q=>ta σ H fun x H1=>∃ c,x = .bl c /\ if c = true then tb σ H1 Q else Q (.bl false) H1
theorem zgn {op} {t : TE} (h : PE X a t) : PE X (.BoolOp op [a] pos) t:=fun pins s σ H Q I hw=>BoolOp_one (h pins s σ H Q I hw)
theorem zdG (ha : PE X a ta) (hb : PE X (.BoolOp .And (b :: rest) pos) tb) : PE X (.BoolOp .And (a :: b :: rest) pos) (zvj ta tb):=by
 intro pins s σ H Q I h
 refine BoolOp_and (thn (ha pins s σ H _ I h) fun v s1 ⟨x,H1,I1,r1,q1⟩=>?_)
 obtain ⟨c,rfl,q1⟩:=q1
 cases r1
 refine wpAny_truthy_bool ?_
 cases c with
 | true=>exact hb pins s1 σ H1 Q I1 q1
 | false=>exact ⟨.bl false,H1,I1,rfl,q1⟩
def tIf (t : TT) (ta tb : TE) : TE:=fun σ H Q=>t σ H fun c H1=>if c = true then ta σ H1 Q else tb σ H1 Q
theorem ziK {c : Expr} (hc : PT X c tA) (ha : PE X a ta) (hb : PE X b tb) : PE X (.IfExp c a b pos) (tIf tA ta tb):=by
 intro pins s σ H Q I h
 refine wpAny_IfExp (thn (hc pins s σ H _ I h) fun d s1 ⟨H1,I1,q1⟩=>?_)
 cases d with
 | true=>exact ha pins s1 σ H1 Q I1 q1
 | false=>exact hb pins s1 σ H1 Q I1 q1
end
end L2
namespace L2
open PySem PySem.Spec PyProof.Rows
def SqL (K : PySem.W.Frag) (H : Hp) (a : Addr) (xs : List V) : Prop :=
 Rd H a (.lst xs) \/
  ∃ (o : Obj) (its : Array Value) (n : Nat),K.lookup a = some o /\ o.cls = .type "list" /\ o.dict = none /\ o.data = .seq its n /\ its.size <= sizeLine /\ Vals xs its.toList
def SqT (K : PySem.W.Frag) (H : Hp) (a : Addr) (xs : List V) : Prop :=
 Rd H a (.tup xs) \/
  ∃ (o : Obj) (its : Array Value) (n : Nat),K.lookup a = some o /\ o.cls = .type "tuple" /\ o.data = .seq its n /\ its.size <= sizeLine /\ Vals xs its.toList
def absV : Value -> Option V
 | .none=>some .non
 | .bool b=>some (.bl b)
 | .int i _=>some (.int i)
 | .str x _=>some (.str x)
 | .bytes b _=>some (.byt b)
 | .float b _=>some (.flt b)
 | .ref a=>some (.ref a)
 | .type n=>some (.ty n)
 | _=>none
theorem RelV.abs {x : V} {u : Value} (r : RelV x u) : absV u = some x:=by
 cases x with
 | non=>cases r; rfl
 | bl _=>cases r; rfl
 | int _=>obtain ⟨t,rfl⟩:=r; rfl
 | str _=>obtain ⟨t,rfl⟩:=r; rfl
 | byt _=>obtain ⟨t,rfl⟩:=r; rfl
 | flt _=>obtain ⟨t,rfl⟩:=r; rfl
 | ref _=>cases r; rfl
 | ty _=>cases r; rfl
theorem RelV.inj {x y : V} {u : Value} (r : RelV x u) (q : RelV y u) : x = y:=Option.some.inj (r.abs.symm.trans q.abs)
theorem Vals.inj : ∀ {xs ys : List V} {us : List Value},Vals xs us -> Vals ys us -> xs = ys
 | _,_,_,.nil,.nil=>rfl
 | _,_,_,.cons r t,.cons r' t'=>by rw [r.inj r',Vals.inj t t']
section
variable {X : Cx} {pins : List (Addr × Obj)} {σ : St} {H : Hp} {s : Shared} {a : Addr} {xs ys : List V}
theorem SqL.of {K : PySem.W.Frag} (h : H a = some (.lst xs)) : SqL K H a xs:=.inl (.inl h)
theorem SqT.of {K : PySem.W.Frag} (h : H a = some (.tup xs)) : SqT K H a xs:=.inl (.inl h)
theorem Inv.list (I : Inv X pins σ H s) (h : SqL X.K H a xs) : ∃ its : List Value,Vals xs its /\ PlainL s.heap a its.toArray /\ xs.length <= sizeLine:=by
 rcases h with h | ⟨o,its,n,hk,hc,hd,hs,hz,r⟩
 ·obtain ⟨z,its,n,r,e⟩:=h.ok I.hok
  exact ⟨its,r,⟨_,n,e,rfl,rfl,rfl⟩,z⟩
 ·refine ⟨its.toList,r,⟨o,n,I.kIn a o hk,hc,hd,by simpa using hs⟩,?_⟩
  have e:=r.length
  simp only [Array.length_toList] at e
  omega
theorem Inv.tuple (I : Inv X pins σ H s) (h : SqT X.K H a xs) : ∃ its : List Value,Vals xs its /\ IsTup s.heap a its.toArray /\ xs.length <= sizeLine:=by
 rcases h with h | ⟨o,its,n,hk,hc,hs,hz,r⟩
 ·obtain ⟨z,its,r,p⟩:=h.ok I.hok
  exact ⟨its,r,p,z⟩
 ·refine ⟨its.toList,r,⟨o,I.kIn a o hk,hc,n,by simpa using hs⟩,?_⟩
  have e:=r.length
  simp only [Array.length_toList] at e
  omega
theorem Inv.list_inj (I : Inv X pins σ H s) (h : SqL X.K H a xs) (h' : SqL X.K H a ys) : xs = ys:=by
 obtain ⟨its,r,⟨o,n,e,_,_,d⟩,_⟩:=I.list h
 obtain ⟨its',r',⟨o',n',e',_,_,d'⟩,_⟩:=I.list h'
 rw [e] at e'; cases e'
 rw [d] at d'
 injection d' with d1 _
 have : its = its':=by simpa using congrArg Array.toList d1
 subst this
 exact r.inj r'
end
abbrev Cx.wish (X : Cx) (E : Value -> Shared -> Prop) : Cx:={ X with xe:=E }
abbrev Cx.nox (X : Cx) : Cx:=X.wish fun _ _=>False
theorem Cx.Ok.wish {X : Cx} (ok : X.Ok) (E : Value -> Shared -> Prop) : (X.wish E).Ok :=
 ⟨ok.mod,ok.kind,ok.glob,ok.blt,ok.above,ok.inj,ok.has,ok.cab,ok.hd,ok.frames,ok.stk,ok.exf,ok.bs,ok.bsz,ok.noex,ok.exfs,ok.funs,ok.frf⟩
theorem Cx.Ok.unwish {X : Cx} {E : Value -> Shared -> Prop} (ok : (X.wish E).Ok) : X.Ok :=
 ⟨ok.mod,ok.kind,ok.glob,ok.blt,ok.above,ok.inj,ok.has,ok.cab,ok.hd,ok.frames,ok.stk,ok.exf,ok.bs,ok.bsz,ok.noex,ok.exfs,ok.funs,ok.frf⟩
section
variable {X : Cx} {pins : List (Addr × Obj)} {σ : St} {H : Hp} {s : Shared} {E : Value -> Shared -> Prop}
theorem Inv.wish (I : Inv X pins σ H s) (E : Value -> Shared -> Prop) : Inv (X.wish E) pins σ H s:=⟨I.ok.wish E,I.os,I.bare,I.base,I.loc,I.cell,I.free,I.freeC,I.pin,I.hok,I.len⟩
theorem Inv.unwish (I : Inv (X.wish E) pins σ H s) : Inv X pins σ H s:=⟨I.ok.unwish,I.os,I.bare,I.base,I.loc,I.cell,I.free,I.freeC,I.pin,I.hok,I.len⟩
theorem SP.unwish {D : Ends} {f : Flow} {s' : Shared} (h : SP (X.wish E) pins D f s') : SP X pins D f s':=by
 cases f with
 | next=>obtain ⟨σ',H',I,q⟩:=h; exact ⟨σ',H',I.unwish,q⟩
 | brk=>obtain ⟨σ',H',I,q⟩:=h; exact ⟨σ',H',I.unwish,q⟩
 | cont=>obtain ⟨σ',H',I,q⟩:=h; exact ⟨σ',H',I.unwish,q⟩
 | ret u=>obtain ⟨v,σ',H',I,r,q⟩:=h; exact ⟨v,σ',H',I.unwish,r,q⟩
theorem PE.nox {e : Expr} {t : TE} (h : PE X.nox e t) : PE X e t:=fun pins s σ H Q I hw =>
 wpAny_mono (h pins s σ H Q (I.wish _) hw) (fun _ _ ⟨v,H',I',r,q⟩=>⟨v,H',I'.unwish,r,q⟩) fun _ _ z=>False.elim z
theorem PT.nox {e : Expr} {t : TT} (h : PT X.nox e t) : PT X e t:=fun pins s σ H Q I hw =>
 wpAny_mono (h pins s σ H Q (I.wish _) hw) (fun _ _ ⟨H',I',q⟩=>⟨H',I'.unwish,q⟩) fun _ _ z=>False.elim z
theorem PSs.nox {st : List Stmt} {t : TS} (h : PSs X.nox st t) : PSs X st t:=fun pins s σ H D I hw =>
 wpAny_mono (h pins s σ H D (I.wish _) hw) (fun _ _ q=>q.unwish) fun _ _ z=>False.elim z
end
section
variable {X : Cx} {st : Stmt} {rest : List Stmt} {t u : TS} {e : Expr} {te : TE} {pos : Pos}
def ztf : TS:=fun D σ H=>D.nx σ H
def tSeq (t u : TS) : TS:=fun D σ H=>t { D with nx:=u D } σ H
theorem zaI : PSs X [] ztf:=fun _ _ σ H _ I h=>wpAny_execs_nil ⟨σ,H,I,h⟩
theorem zac (h1 : PS X st t) (h2 : PSs X rest u) : PSs X (st :: rest) (tSeq t u):=by
 intro pins s σ H D I h
 refine wpAny_execs_cons (thn (h1 pins s σ H { D with nx:=u D } I h) fun f s1 q=>?_)
 cases f with
 | next =>
   obtain ⟨σ',H',I',q⟩:=q
   exact h2 pins s1 σ' H' D I' q
 | ret v=>exact q
 | brk=>exact q
 | cont=>exact q
theorem zae (h1 : PS X st t) : PSs X [st] t:=by
 intro pins s σ H D I h
 refine wpAny_execs_cons (thn (h1 pins s σ H D I h) fun f s1 q=>?_)
 cases f with
 | next=>exact wpAny_execs_nil q
 | ret v=>exact q
 | brk=>exact q
 | cont=>exact q
theorem Inv.quiet {pins : List (Addr × Obj)} {σ : St} {H : Hp} {s : Shared} (I : Inv X pins σ H s) : interactive X.env = false:=by simp [interactive,I.ok.kind]
def zui (te : TE) : TS:=fun D σ H=>te σ H fun _ H1=>D.nx σ H1
theorem zaJ (he : PE X e te) (hs : swapsWith e none pos.line X.env = pure false:=by rfl) : PS X (.Expr e pos) (zui te):=by
 intro pins s σ H D I h
 exact wpAny_Expr_any (thn (he pins s σ H _ I h) fun v s1 ⟨x,H1,I1,r1,q1⟩=>⟨σ,H1,I1,q1⟩) I.quiet hs
def tRet (te : TE) : TS:=fun D σ H=>te σ H D.rt
theorem zas (he : PE X e te) : PS X (.Return (some e) pos) (tRet te):=by
 intro pins s σ H D I h
 exact wpAny_Return_some (thn (he pins s σ H _ I h) fun v s1 ⟨x,H1,I1,r1,q1⟩=>⟨x,σ,H1,I1,r1,q1⟩)
def ztB : TS:=fun D _ H=>D.rt .non H
theorem zne : PS X (.Return none pos) ztB:=fun _ _ σ H _ I h=>wpAny_Return_none ⟨.non,σ,H,I,rfl,h⟩
def tIfS (c : TT) (t u : TS) : TS:=fun D σ H=>c σ H fun b H1=>if b = true then t D σ H1 else u D σ H1
theorem zbM {c : Expr} {a b : List Stmt} {tc : TT} (hc : PT X c tc) (ha : PSs X a t) (hb : PSs X b u) : PS X (.If c a b pos) (tIfS tc t u):=by
 intro pins s σ H D I h
 refine wpAny_If (thn (hc pins s σ H _ I h) fun d s1 ⟨H1,I1,q1⟩=>?_)
 cases d with
 | true=>exact ha pins s1 σ H1 D I1 q1
 | false=>exact hb pins s1 σ H1 D I1 q1
def zoM : TS:=fun _ _ _=>False
theorem zmc : PS X st zoM:=fun _ _ _ _ _ _ h=>h.elim
end
abbrev TG:=V -> St -> Hp -> (St -> Hp -> Prop) -> Prop
abbrev TGs:=List V -> St -> Hp -> (St -> Hp -> Prop) -> Prop
def PG (X : Cx) (target : Expr) (t : TG) : Prop :=
 ∀ (pins : List (Addr × Obj)) (s : Shared) (σ : St) (H : Hp) (v : V) (u : Value) (Q : St -> Hp -> Prop),Inv X pins σ H s -> RelV v u -> t v σ H Q ->
  wpAny (model X.prog X.w) X.A (assign target X.env u) (fun _ s'=>∃ σ' H',Inv X pins σ' H' s' /\ Q σ' H') X.xe s
def PGs (X : Cx) (ts : List Expr) (t : TGs) : Prop :=
 ∀ (pins : List (Addr × Obj)) (s : Shared) (σ : St) (H : Hp) (vs : List V) (us : List Value) (Q : St -> Hp -> Prop),Inv X pins σ H s -> Vals vs us -> t vs σ H Q ->
  wpAny (model X.prog X.w) X.A (assignInOrder ((assignEach ts X.env).map (·.2)) us) (fun _ s'=>∃ σ' H',Inv X pins σ' H' s' /\ Q σ' H') X.xe s
abbrev TSet:=V -> V -> V -> Hp -> (Hp -> Prop) -> Prop
def PSet (X : Cx) (t : TSet) : Prop :=
 ∀ (pins : List (Addr × Obj)) (s : Shared) (σ : St) (H : Hp) (o i v : V) (ov iv u : Value) (Q : Hp -> Prop),Inv X pins σ H s -> RelV o ov -> RelV i iv -> RelV v u -> t o i v H Q ->
  wpAny (model X.prog X.w) X.A (setItem ov iv u) (fun _ s'=>∃ H',Inv X pins σ H' s' /\ Q H') X.xe s
section
variable {X : Cx} {pos : Pos}
def zmq (i : Nat) : TG:=fun v σ H Q=>Q (σ.set i (some v)) H
theorem zal {i : Nat} {x : Str} (hN : X.N.Nodup) (hi : X.N[i]? = some x) (hx : Loc X.env.scope x) (hf : X.fn x = true \/ X.env.scope.names.lookup x = some .local:=by first | exact .inl rfl | exact .inr rfl | assumption) : PG X (.Name x pos) (zmq i):=by
 intro pins s σ H v u Q I r h
 exact wpAny_assign_Name (zgg I hN hi hx r (fun s' I'=>⟨_,H,I',h⟩) hf)
def gNil : TGs:=fun vs σ H Q=>vs = [] /\ Q σ H
def zuv (t : TG) (u : TGs) : TGs:=fun vs σ H Q=>∃ v r,vs = v :: r /\ t v σ H fun σ' H'=>u r σ' H' Q
theorem zaW : PGs X [] gNil:=by
 intro pins s σ H vs us Q I r h
 obtain ⟨e,h⟩:=h
 subst e
 cases r
 exact assignInOrder_nil ⟨σ,H,I,h⟩
theorem zam {e : Expr} {es : List Expr} {t : TG} {u : TGs} (h1 : PG X e t) (h2 : PGs X es u)
 (hs : (assignEach (e :: es) X.env).map (·.2) = assign e X.env :: (assignEach es X.env).map (·.2):=by rfl) : PGs X (e :: es) (zuv t u):=by
 intro pins s σ H vs us Q I r h
 obtain ⟨v,vr,e1,h⟩:=h
 subst e1
 cases r with
 | cons r rr =>
   rw [hs]
   refine assignInOrder_cons (thn (h1 pins s σ H _ _ _ I r h) fun _ s1 ⟨σ1,H1,I1,q1⟩=>?_)
   exact h2 pins s1 σ1 H1 _ _ Q I1 rr q1
def gTup (K : PySem.W.Frag) (n : Nat) (t : TGs) : TG:=fun v σ H Q=>∃ a xs,v = .ref a /\ SqT K H a xs /\ xs.length = n /\ t xs σ H Q
theorem zpo {es : List Expr} {k : Nat} {t : TGs} {n : Nat} (hc : X.calm = true) (h : PGs X es t)
 (hn : (assignEach es X.env).length = n:=by rfl) (hst : (assignEach es X.env).findIdx? (·.1) = none:=by rfl) : PG X (.Tuple es k pos) (gTup X.K n t):=by
 intro pins s σ H v u Q I r hw
 obtain ⟨a,xs,e1,hq,hl,hw⟩:=hw
 subst e1
 cases r
 obtain ⟨its,rv,ht,hz⟩:=I.tuple hq
 refine assign_Tuple_tuple (I.ok.hd hc) ht (by simp [hn,<- hl,rv.length]) hst fun h' hx=>?_
 have I1 : Inv X pins σ H { s with heap:=h' }:=I.kept (t':=s.toks) fun b o e=>hx b o (Nat.ne_of_lt (Heap.lt_size e)) e
 exact h pins _ σ H xs _ Q I1 (by simpa using rv) hw
def gSub (to ti : TE) (t : TSet) : TG:=fun v σ H Q=>to σ H fun o H1=>ti σ H1 fun i H2=>t o i v H2 fun H3=>Q σ H3
theorem zls {o i : Expr} {to ti : TE} {t : TSet} (ho : PE X o to) (hi : PE X i ti) (hs : PSet X t)
 (ha : ∀ v,assign (.Subscript o i pos) X.env v = (do
   let ov <- holding [v] (eval o X.env)
   let iv <- holding [v,ov] (eval i X.env)
   standAt pos
   holding [v,ov,iv] (setItem ov iv v)
   release [v,ov,iv] []):=by intro _; rfl) : PG X (.Subscript o i pos) (gSub to ti t):=by
 intro pins s σ H v u Q I r h
 rw [ha]
 refine wpAny_bind (wpAny_holding (thn (ho pins s σ H _ I h) fun ov s1 ⟨x,H1,I1,r1,q1⟩=>?_))
 refine wpAny_bind (wpAny_holding (thn (hi pins s1 σ H1 _ I1 q1) fun iv s2 ⟨y,H2,I2,r2,q2⟩=>?_))
 refine wpAny_bind (wpAny_standAt (wpAny_bind (wpAny_holding (thn (hs pins s2 σ H2 x y v ov iv u _ I2 r1 r2 r q2) fun _ s3 ⟨H3,I3,q3⟩=>?_))))
 exact wpAny_release ⟨σ,H3,I3,q3⟩
def tAsg (te : TE) (g : TG) : TS:=fun D σ H=>te σ H fun x H1=>g x σ H1 D.nx
theorem zdX {tg e : Expr} {te : TE} {g : TG} (he : PE X e te) (hg : PG X tg g) (hs : swapsWithSole [tg] e pos.line X.env = pure false:=by rfl) (hw : swappedStores [tg] e X.env = pure none:=by rfl)
 (h1 : (assignEach [tg] X.env).map (·.2) = [assign tg X.env]:=by rfl) : PS X (.Assign [tg] e pos) (tAsg te g):=by
 intro pins s σ H D I h
 refine wpAny_Assign_stores (thn (he pins s σ H _ I h) fun v s1 ⟨x,H1,I1,r1,q1⟩=>?_) hs hw
 rw [h1]
 exact thn (hg pins s1 σ H1 x v _ I1 r1 q1) fun _ s2 q=>q
theorem zav {i : Nat} {x : Str} {e : Expr} {te : TE} {pos' : Pos} (hN : X.N.Nodup) (hi : X.N[i]? = some x) (hx : Loc X.env.scope x) (he : PE X e te) (hs : swapsWith e (some (.Name x pos')) pos.line X.env = pure false:=by rfl) (hf : X.fn x = true \/ X.env.scope.names.lookup x = some .local:=by first | exact .inl rfl | exact .inr rfl | assumption) :
 PS X (.Assign [.Name x pos'] e pos) (tAsg te (zmq i)):=by
 intro pins s σ H D I h
 refine wpAny_Assign_Name (thn (he pins s σ H _ I h) fun v s1 ⟨y,H1,I1,r1,q1⟩=>?_) hs
 exact zgg I1 hN hi hx r1 (fun s2 I2=>⟨_,H1,I2,q1⟩) hf
end
section
variable {X : Cx} {pos : Pos}
def zqj (c : TT) (tb : TS) : TS:=fun D σ H=>∃ W : Nat -> St -> Hp -> Prop,(∃ m,W m σ H) /\ ∀ m σ H,W m σ H ->
 c σ H fun b H1=>if b = true then ∃ N : St -> Hp -> Prop,(∀ σ' H',N σ' H' -> ∃ m',m' < m /\ W m' σ' H') /\ tb { D with nx:=N,ct:=N,bk:=D.nx } σ H1 else D.nx σ H1
theorem zfV {c : Expr} {body : List Stmt} {tc : TT} {tb : TS} (hp : PassesOwn (model X.prog X.w) X.A X.env X.xe) (hc : PT X c tc) (hb : PSs X body tb) : PS X (.While c body [] pos) (zqj tc tb):=by
 intro pins s σ H D I h
 obtain ⟨W,⟨m0,w0⟩,turn⟩:=h
 refine wpAny_While (codeAny_whileLoop (fun n s'=>∃ σ' H',Inv X pins σ' H' s' /\ W n σ' H') ?_ m0 ⟨σ,H,I,w0⟩)
 rintro n s1 ⟨σ1,H1,I1,w1⟩
 refine wpAny_passesOwn hp (thn (hc pins s1 σ1 H1 _ I1 (turn n σ1 H1 w1)) fun b s2 ⟨H2,I2,q2⟩=>?_)
 cases b with
 | true =>
   obtain ⟨N,hN,q2⟩:=q2
   rw [if_pos rfl]
   refine wpAny_passesOwn hp (thn (hb pins s2 σ1 H2 _ I2 q2) fun f s3 q3=>?_)
   cases f with
   | next =>
     obtain ⟨σ3,H3,I3,n3⟩:=q3
     obtain ⟨m',hm,w3⟩:=hN σ3 H3 n3
     exact ⟨m',hm,σ3,H3,I3,w3⟩
   | cont =>
     obtain ⟨σ3,H3,I3,n3⟩:=q3
     obtain ⟨m',hm,w3⟩:=hN σ3 H3 n3
     exact ⟨m',hm,σ3,H3,I3,w3⟩
   | brk=>exact q3
   | ret v=>exact q3
 | false =>
   rw [if_neg Bool.false_ne_true]
   exact wpAny_execs_nil ⟨σ1,H2,I2,q2⟩
end
structure It where
 go : Nat -> Hp -> Prop
 yld : Nat -> Hp -> V -> Hp -> Prop
 stop : Nat -> Hp -> Prop
def FpOk (X : Cx) (pins : List (Addr × Obj)) (H : Hp) (b : Addr) : Prop :=
 H b = none /\ b ≠ X.env.locals /\ b ∉ X.fs /\ (b ∈ X.ex \/ X.s₀.heap.objs.size <= b) /\ (∀ x c,X.env.cells.lookup x = some c -> c ≠ b) /\ ∀ p ∈ X.pn ++ pins,p.1 ≠ b
theorem Inv.fpOk {X : Cx} {pins : List (Addr × Obj)} {σ : St} {H H' : Hp} {s : Shared} {b : Addr} (I : Inv X pins σ H s) (hb : s.heap.objs.size <= b) (hn : H' b = none) : FpOk X pins H' b:=by
 refine ⟨hn,Nat.ne_of_gt (Nat.lt_of_lt_of_le I.lt hb),I.nofs hb,.inr (Nat.le_trans I.sz hb),fun x c e z=>?_,fun p hp z=>?_⟩
 ·obtain ⟨v,q⟩:=I.cell x c e
  exact absurd (Nat.lt_of_lt_of_le q.lt (by rw [z]; exact hb)) (Nat.lt_irrefl _)
 ·exact absurd (Nat.lt_of_lt_of_le (Heap.lt_size (I.pin p hp).1) (by rw [z]; exact hb)) (Nat.lt_irrefl _)
structure Turn (P : Program) (w : World) (K : PySem.W.Frag) (tg : Expr) (J : It) (fp : List Addr) (it : Addr) (tn : Nat -> Heap -> Prop) : Prop where
 mem : it ∈ fp
 obj : ∀ i h,tn i h -> ∀ b ∈ fp,∃ o,h.get? b = some o /\ ∀ v,o.data ≠ .cell v
 keep : ∀ i h h',tn i h -> (∀ b ∈ fp,∀ o,h.get? b = some o -> h'.get? b = some o) -> tn i h'
 item : ∀ (X : Cx),X.prog = P -> X.w = w -> X.K = K -> X.calm = true -> ∀ (i : Nat) (pins : List (Addr × Obj)) (s : Shared) (σ : St) (H : Hp) (E : Value -> Shared -> Prop),Inv X pins σ H s -> (∀ b ∈ fp,FpOk X pins H b) -> tn i s.heap -> J.go i H ->
  wpAny (model P w) X.A (pyNext (.ref it)) (fun r s1=>∃ u,r = some u /\
   wpAny (model P w) X.A (letOwnedTupleGo tg (.ref it) u) (fun _ s2=>∃ x H',Inv X pins σ H' s2 /\ RelV x u /\ J.yld i H x H' /\ tn (i + 1) s2.heap /\ ∀ b ∈ fp,H' b = none) E s1) E s
 done : ∀ (X : Cx),X.prog = P -> X.w = w -> X.K = K -> X.calm = true -> ∀ (i : Nat) (pins : List (Addr × Obj)) (s : Shared) (σ : St) (H : Hp) (E : Value -> Shared -> Prop),Inv X pins σ H s -> (∀ b ∈ fp,FpOk X pins H b) -> tn i s.heap -> J.stop i H ->
  wpAny (model P w) X.A (pyNext (.ref it)) (fun r s1=>r = none /\ Inv X pins σ H s1) E s
 self : ∀ (A : Around) (i : Nat) (s : Shared) (Q : Value -> Shared -> Prop) (E : Value -> Shared -> Prop),tn i s.heap -> Q (.ref it) s -> wpAny (model P w) A (pyIter (.ref it)) Q E s
abbrev TI:=St -> Hp -> (It -> Hp -> Prop) -> Prop
def PIE (X : Cx) (pins : List (Addr × Obj)) (σ : St) (tg : Expr) (R : It -> Hp -> Prop) (itv : Value) (s2 : Shared) : Prop :=
 ∃ (it : Addr) (fp : List Addr) (tn : Nat -> Heap -> Prop) (J : It) (H' : Hp),itv = .ref it /\ Inv X pins σ H' s2 /\ Turn X.prog X.w X.K tg J fp it tn /\ tn 0 s2.heap /\ (∀ b ∈ fp,FpOk X pins H' b) /\ R J H'
def PI (X : Cx) (tg iter : Expr) (wi : TI) : Prop :=
 ∀ (pins : List (Addr × Obj)) (s : Shared) (σ : St) (H : Hp) (R : It -> Hp -> Prop),Inv X pins σ H s -> wi σ H R ->
  wpAny (model X.prog X.w) X.A (eval iter X.env) (fun v s1=>wpAny (model X.prog X.w) X.A (pyIter v) (PIE X pins σ tg R) X.xe s1) X.xe s
theorem zrz {M : Model} {A : Around} {E : Value -> Shared -> Prop} {s : Shared} {tg : Expr} {it : Addr} {u : Value} {o : Obj} {n : String} {vs : Array Value} {Q : Unit -> Shared -> Prop} (ho : s.heap.get? it = some o) (hc : o.cls = .type n) (hd : o.data = .fields vs)
 (hn : ["enumerate","zip","dict_itemiterator","dict_reverseitemiterator","odict_iterator","itertools.zip_longest","itertools.pairwise"].contains n = false) (hQ : Q () s) : wpAny M A (letOwnedTupleGo tg (.ref it) u) Q E s:=by
 unfold letOwnedTupleGo
 cases tg <;> first
  | exact wpAny_pure hQ
  | (cases u <;> first
      | exact wpAny_pure hQ
      | (refine wpAny_bind (wpAny_load ho ?_)
         rw [hc,hd]
         show wpAny M A (if (["enumerate","zip","dict_itemiterator","dict_reverseitemiterator","odict_iterator","itertools.zip_longest","itertools.pairwise"].contains n && vs[0]? == some (rawInt _)) = true then _ else _) Q E s
         rw [if_neg (by intro h; rw [hn,Bool.false_and] at h; cases h)]
         exact wpAny_pure hQ))
def Itl (K : PySem.W.Frag) (a : Addr) : It :=
 ⟨fun i H=>∃ xs x,SqL K H a xs /\ xs[i]? = some x,fun i H x H'=>H' = H /\ ∀ xs,SqL K H a xs -> xs[i]? = some x,fun i H=>∃ xs,SqL K H a xs /\ xs.length <= i⟩
def Itr (lo : Int) (n : Nat) : It:=⟨fun i _=>i < n,fun i H x H'=>H' = H /\ x = .int (lo + i),fun i _=>n <= i⟩
theorem zkH {P : Program} {w : World} {K : PySem.W.Frag} {tg : Expr} (a it : Addr) : Turn P w K tg (Itl K a) [it] it (fun i h=>h.IsListIter it a i) where
 mem:=by simp
 obj:=fun i h st b hb=>by
  have e : b = it:=by simpa using hb
  subst e
  obtain ⟨o,e,c,d⟩:=st
  exact ⟨o,e,fun v z=>by rw [d] at z; cases z⟩
 keep:=fun i h h' st k=>st.at fun o e=>k it (by simp) o e
 item:=by
  intro X hP hw hK hc i pins s σ H E I hf st hg
  subst hP hw hK
  obtain ⟨xs,x,hq,hx⟩:=hg
  obtain ⟨its,rv,p,hz⟩:=I.list hq
  obtain ⟨u,hu,ru⟩:=rv.get hx
  obtain ⟨f0,f1,f2,f3,f4,f5⟩:=hf it (by simp)
  refine wpAny_pyNext_list_item st p.isList (x:=u) (by simpa using hu) fun h' st' sb=>?_
  have I1 : Inv X pins σ H { s with heap:=h' }:=I.turned (t':=s.toks) (fun b o hb e=>(sb.2 b hb).trans e) f0 f1 f3 f4 f5
  obtain ⟨o,e,c,d⟩:=id st'
  exact ⟨u,rfl,zrz (s:={ s with heap:=h' }) e c d (by decide) ⟨x,H,I1,ru,⟨rfl,fun ys hy=>by rw [I.list_inj hy hq]; exact hx⟩,st',fun b hb=>(hf b hb).1⟩⟩
 done:=by
  intro X hP hw hK hc i pins s σ H E I hf st hg
  subst hP hw hK
  obtain ⟨xs,hq,hx⟩:=hg
  obtain ⟨its,rv,p,hz⟩:=I.list hq
  obtain ⟨f0,f1,f2,f3,f4,f5⟩:=hf it (by simp)
  have hl:=rv.length
  exact wpAny_pyNext_list_end (I.ok.hd hc) st p.isList (by simp; omega) fun h' eb=>⟨rfl,I.turned (t':=s.toks) (fun b o hb e=>eb b o hb e) f0 f1 f3 f4 f5⟩
 self:=fun _ _ _ _ _ st h=>wpAny_pyIter_listiter st h
theorem zjK {P : Program} {w : World} {K : PySem.W.Frag} {tg : Expr} (it : Addr) (lo : Int) (n : Nat) : Turn P w K tg (Itr lo n) [it] it (fun i h=>IsRangeIter h it (lo + (i : Nat) * 1) ((n : Int) - (i : Nat)) 1) where
 mem:=by simp
 obj:=fun i h st b hb=>by
  have e : b = it:=by simpa using hb
  subst e
  exact ⟨_,st,fun v z=>by
   have z' : Data.fields _ = Data.cell v:=z
   cases z'⟩
 keep:=fun i h h' st k=>k it (by simp) _ st
 item:=by
  intro X hP hw hK hc i pins s σ H E I hf st hg
  subst hP hw hK
  obtain ⟨f0,f1,f2,f3,f4,f5⟩:=hf it (by simp)
  have W:=Walks.range (prog:=X.prog) (w:=X.w) (I.ok.hd hc) it lo 1 n
  refine W.item i s _ _ hg st fun v h' tk hv st' kk=>?_
  obtain ⟨t,rfl⟩:=hv
  have I1 : Inv X pins σ H { s with heap:=h',toks:=tk }:=I.turned (fun b o hb e=>kk b o (by simpa using hb) e) f0 f1 f3 f4 f5
  refine ⟨_,rfl,zrz (s:={ s with heap:=h',toks:=tk }) (n:="range_iterator") st' rfl rfl (by decide) ⟨.int (lo + i),H,I1,⟨t,?_⟩,⟨rfl,rfl⟩,st',fun b hb=>(hf b hb).1⟩⟩
  rw [Int.mul_one]
 done:=by
  intro X hP hw hK hc i pins s σ H E I hf st hg
  subst hP hw hK
  obtain ⟨f0,f1,f2,f3,f4,f5⟩:=hf it (by simp)
  exact wpAny_pyNext_range_end (I.ok.hd hc) st (by have : n <= i:=hg; omega) fun h' eb=>⟨rfl,I.turned (t':=s.toks) (fun b o hb e=>eb b o hb e) f0 f1 f3 f4 f5⟩
 self:=fun _ _ _ _ _ st h=>wpAny_pyIter_rangeiter st h
end L2
namespace L2
open PySem PySem.Spec PyProof.Rows
section
variable {X : Cx} {tg : Expr}
def zoD (K : PySem.W.Frag) (tl : TE) : TI:=fun σ H R=>tl σ H fun x H1=>∃ a,x = .ref a /\ (∃ xs,SqL K H1 a xs) /\ R (Itl K a) H1
theorem znS {l : Expr} {tl : TE} (hl : PE X l tl) : PI X tg l (zoD X.K tl):=by
 intro pins s σ H R I h
 refine thn (hl pins s σ H _ I h) fun v s1 ⟨x,H1,I1,r1,q1⟩=>?_
 obtain ⟨a,e,⟨xs,hq⟩,q⟩:=q1
 subst e
 cases r1
 obtain ⟨its,rv,p,hz⟩:=I1.list hq
 refine wpAny_pyIter_list p.isList ?_
 refine ⟨s1.heap.objs.size,[s1.heap.objs.size],_,_,H1,rfl,I1.kept (t':=s1.toks) fun b o e=>Heap.get?_push_of_some _ e,zkH a _,⟨_,Heap.get?_push_size _ rfl,rfl,rfl⟩,fun b hb=>?_,q⟩
 have e : b = s1.heap.objs.size:=by simpa using hb
 subst e
 exact I1.fpOk (Nat.le_refl _) (I1.hok.fresh (Nat.le_refl _))
theorem zmA {pins : List (Addr × Obj)} {σ : St} {H : Hp} {s : Shared} {R : It -> Hp -> Prop} {E : Value -> Shared -> Prop} {lo hi : Int} {t u v : Tok} {tk : Nat} (I : Inv X pins σ H s) (h1 : -(2 ^ 62) <= lo) (h2 : lo < 2 ^ 62) (h3 : -(2 ^ 62) <= hi) (h4 : hi < 2 ^ 62)
 (q : R (Itr lo (hi - lo).toNat) H) : wpAny (model X.prog X.w) X.A (pyIter (.ref s.heap.objs.size)) (PIE X pins σ tg R) E { s with heap:=s.heap.push { cls:=.type "range",data:=.fields #[.int lo t,.int hi u,.int 1 v] },toks:=tk }:=by
 refine wpAny_pyIter_range (IsRange.new ..) (small_one h1 h2 h3 h4) ?_
 have I1 : Inv X pins σ H { s with heap:=s.heap.push { cls:=.type "range",data:=.fields #[.int lo t,.int hi u,.int 1 v] },toks:=tk }:=I.kept fun b o e=>Heap.get?_push_of_some _ e
 refine ⟨(s.heap.push { cls:=.type "range",data:=.fields #[.int lo t,.int hi u,.int 1 v] }).objs.size,[(s.heap.push { cls:=.type "range",data:=.fields #[.int lo t,.int hi u,.int 1 v] }).objs.size],_,_,H,rfl,
  I1.kept (t':=tk) fun b o e=>Heap.get?_push_of_some _ e,zjK _ lo (hi - lo).toNat,?_,fun b hb=>?_,q⟩
 ·have e1 : lo + ((0 : Nat) : Int) * 1 = lo:=by simp
  have e2 : (((hi - lo).toNat : Nat) : Int) - ((0 : Nat) : Int) = Builtin.Range.rangeSize lo hi 1:=by rw [rangeSize_one]; split <;> omega
  show IsRangeIter _ _ (lo + ((0 : Nat) : Int) * 1) ((((hi - lo).toNat : Nat) : Int) - ((0 : Nat) : Int)) 1
  rw [e1,e2]
  exact Heap.get?_push_size _ rfl
 ·have e : b = (s.heap.push { cls:=.type "range",data:=.fields #[.int lo t,.int hi u,.int 1 v] }).objs.size:=by simpa using hb
  subst e
  exact I1.fpOk (Nat.le_refl _) (I1.hok.fresh (Nat.le_refl _))
def zty (ta : TA) : TI:=fun σ H R=>ta σ H fun vs H1=>∃ j : Int,vs = [.int j] /\ -(2 ^ 62) <= j /\ j < 2 ^ 62 /\ R (Itr 0 j.toNat) H1
theorem zez {a : Expr} {ta : TA} {p pos : Pos} (hg : Gl X "range") (hm : X.mg "range" = none) (ha : PA X [a] ta) (hs : starEach [a] X.env = [(false,eval a X.env)]:=by rfl) : PI X tg (.Call (.Name "range" p) [a] [] pos) (zty ta):=by
 intro pins s σ H R I h
 refine Call_ (zfz I hg hm boot_range (PyProof.Rows.callWith_type1 (thn (ha pos pins s σ H _ I h) fun us s1 ⟨vs,H1,I1,r1,q1⟩=>?_) hs rfl))
 obtain ⟨j,e,q1,q2,q⟩:=q1
 subst e
 cases r1 with
 | cons r rr =>
   cases rr
   obtain ⟨t,rfl⟩:=r
   exact call_range_1 (zmA I1 (by omega) (by omega) q1 q2 (by simpa using q))
def tFor (wi : TI) (g : TG) (tb : TS) : TS:=fun D σ H=>wi σ H fun J H1=>∃ W : Nat -> Nat -> St -> Hp -> Prop,(∃ m,W 0 m σ H1) /\ ∀ i m σ H,W i m σ H ->
 (J.stop i H /\ D.nx σ H) \/ (J.go i H /\ ∃ N : St -> Hp -> Prop,(∀ σ' H',N σ' H' -> ∃ m',m' < m /\ W (i + 1) m' σ' H') /\ ∀ x H',J.yld i H x H' -> g x σ H' fun σ2 H2=>tb { D with nx:=N,ct:=N,bk:=D.nx } σ2 H2)
def zgx (fp : List Addr) (h : Heap) : List (Addr × Obj):=fp.filterMap fun b=>(h.get? b).map fun o=>(b,o)
theorem zcJ {fp : List Addr} {h : Heap} {b : Addr} {o : Obj} (hb : b ∈ fp) (e : h.get? b = some o) : (b,o) ∈ zgx fp h:=List.mem_filterMap.mpr ⟨b,hb,by rw [e]; rfl⟩
theorem zlt {fp : List Addr} {h : Heap} {p : Addr × Obj} (hp : p ∈ zgx fp h) : p.1 ∈ fp /\ h.get? p.1 = some p.2:=by
 obtain ⟨b,hb,e⟩:=List.mem_filterMap.mp hp
 cases q : h.get? b with
 | none=>rw [q] at e; cases e
 | some o =>
   rw [q] at e
   have e' : (b,o) = p:=Option.some.inj e
   subst e'
   exact ⟨hb,q⟩
theorem Inv.pinned {pins : List (Addr × Obj)} {σ : St} {H : Hp} {s : Shared} {fp : List Addr} (I : Inv X pins σ H s) (hf : ∀ b ∈ fp,FpOk X pins H b) (ho : ∀ b ∈ fp,∃ o,s.heap.get? b = some o /\ ∀ v,o.data ≠ .cell v) : Inv X (pins ++ zgx fp s.heap) σ H s :=
 I.pins_of fun p hp=>(List.mem_append.mp hp).elim (fun z=>I.pin p (List.mem_append_right _ z)) fun z=>by
  obtain ⟨hb,e⟩:=zlt z
  obtain ⟨f0,f1,f2,_⟩:=hf p.1 hb
  obtain ⟨o,e',d⟩:=ho p.1 hb
  rw [e] at e'; cases e'
  exact ⟨e,f0,f1,f2,d⟩
theorem Inv.unpinned {pins pl : List (Addr × Obj)} {σ : St} {H : Hp} {s : Shared} (I : Inv X (pins ++ pl) σ H s) : Inv X pins σ H s:=I.pins_of fun p hp=>I.pin p (List.mem_append_right _ (List.mem_append_left _ hp))
theorem zcX {iter : Expr} {body : List Stmt} {wi : TI} {g : TG} {tb : TS} {pos : Pos} (hp : PassesOwn (model X.prog X.w) X.A X.env X.xe) (hc : X.calm = true) (hi : PI X tg iter wi) (hg : PG X tg g) (hb : PSs X body tb)
 (hs : ∀ x,foldedSetIterable iter X.env x = pure x:=by intro _; rfl) : PS X (.For tg iter body [] pos) (tFor wi g tb):=by
 intro pins s σ H D I h
 refine wpAny_For (thn (hi pins s σ H _ I h) fun v s1 h1=>thn h1 fun itv s2 h2=>?_) hs
 obtain ⟨it,fp,tn,J,H2,e,I2,T,st2,f2,W,⟨m0,w0⟩,turn⟩:=h2
 subst e
 have stat : ∀ {H' : Hp},(∀ b ∈ fp,H' b = none) -> ∀ b ∈ fp,FpOk X pins H' b:=fun hn b hb=>⟨hn b hb,(f2 b hb).2⟩
 refine codeAny_forLoop_any (fun n s'=>∃ i σ' H',Inv X pins σ' H' s' /\ tn i s'.heap /\ (∀ b ∈ fp,H' b = none) /\ W i n σ' H') ?_ m0 ⟨0,σ,H2,I2,st2,fun b hb=>(f2 b hb).1,w0⟩
 rintro n s3 ⟨i,σ3,H3,I3,st3,fr3,w3⟩
 rcases turn i n σ3 H3 w3 with ⟨stop,qn⟩ | ⟨go,N,hN,step⟩
 ·refine wpAny_passesOwn hp (thn (T.done X rfl rfl rfl hc i pins s3 σ3 H3 X.xe I3 (stat fr3) st3 stop) fun r s4 ⟨hr,I4⟩=>?_)
  subst hr
  exact wpAny_execs_nil ⟨σ3,H3,I4,qn⟩
 ·refine wpAny_passesOwn hp (thn (T.item X rfl rfl rfl hc i pins s3 σ3 H3 X.xe I3 (stat fr3) st3 go) fun r s4 ⟨u,hr,h4⟩=>?_)
  subst hr
  refine wpAny_passesOwn hp (thn h4 fun _ s5 ⟨x,H5,I5,r5,y5,st5,fr5⟩=>?_)
  have I5':=I5.pinned (stat fr5) (T.obj _ _ st5)
  refine wpAny_passesOwn hp (thn (hg _ s5 σ3 H5 x u _ I5' r5 (step x H5 y5)) fun _ s6 ⟨σ6,H6,I6,q6⟩=>?_)
  refine wpAny_passesOwn hp (thn (hb _ s6 σ6 H6 _ I6 q6) fun f s7 q7=>?_)
  have again : ∀ {σ7 : St} {H7 : Hp},Inv X (pins ++ zgx fp s5.heap) σ7 H7 s7 -> N σ7 H7 -> ∃ m,m < n /\ ∃ i σ' H',Inv X pins σ' H' s7 /\ tn i s7.heap /\ (∀ b ∈ fp,H' b = none) /\ W i m σ' H':=fun {σ7 H7} I7 n7=>by
   obtain ⟨m',hm,w7⟩:=hN σ7 H7 n7
   refine ⟨m',hm,i + 1,σ7,H7,I7.unpinned,T.keep _ _ _ st5 fun b hb o e=>(I7.pin (b,o) (List.mem_append_right _ (List.mem_append_right _ (zcJ hb e)))).1,fun b hb=>?_,w7⟩
   obtain ⟨o,e,d⟩:=T.obj _ _ st5 b hb
   exact (I7.pin (b,o) (List.mem_append_right _ (List.mem_append_right _ (zcJ hb e)))).2.1
  cases f with
  | next=>obtain ⟨σ7,H7,I7,n7⟩:=q7; exact again I7 n7
  | cont=>obtain ⟨σ7,H7,I7,n7⟩:=q7; exact again I7 n7
  | brk=>obtain ⟨σ7,H7,I7,q7⟩:=q7; exact ⟨σ7,H7,I7.unpinned,q7⟩
  | ret v=>obtain ⟨x7,σ7,H7,I7,r7,q7⟩:=q7; exact ⟨x7,σ7,H7,I7.unpinned,r7,q7⟩
end
theorem zew {lo : Int} {n : Nat} {g : TG} {tb : TS} {D : Ends} {σ : St} {H : Hp} (Pv : Nat -> St -> Hp -> Prop) (h0 : Pv 0 σ H)
 (hs : ∀ i σ H,i < n -> Pv i σ H -> g (.int (lo + i)) σ H fun σ2 H2=>tb { D with nx:=Pv (i + 1),ct:=Pv (i + 1),bk:=D.nx } σ2 H2) (hd : ∀ σ H,Pv n σ H -> D.nx σ H) :
 ∃ W : Nat -> Nat -> St -> Hp -> Prop,(∃ m,W 0 m σ H) /\ ∀ i m σ H,W i m σ H ->
  ((Itr lo n).stop i H /\ D.nx σ H) \/ ((Itr lo n).go i H /\ ∃ N : St -> Hp -> Prop,(∀ σ' H',N σ' H' -> ∃ m',m' < m /\ W (i + 1) m' σ' H') /\ ∀ x H',(Itr lo n).yld i H x H' -> g x σ H' fun σ2 H2=>tb { D with nx:=N,ct:=N,bk:=D.nx } σ2 H2):=by
 refine ⟨fun i m σ H=>m = n - i /\ i <= n /\ Pv i σ H,⟨n,by simp,Nat.zero_le _,h0⟩,?_⟩
 rintro i m σ H ⟨rfl,hi,p⟩
 by_cases hlt : i < n
 ·refine .inr ⟨hlt,Pv (i + 1),fun σ' H' p'=>⟨n - (i + 1),by omega,rfl,hlt,p'⟩,fun x H' y=>?_⟩
  obtain ⟨e,y⟩:=y
  subst e y
  exact hs i σ _ hlt p
 ·have e : i = n:=by omega
  subst e
  exact .inl ⟨Nat.le_refl _,hd σ H p⟩
end L2
namespace L2
open PySem PySem.Spec PyProof.Rows
abbrev R2:=V -> V -> Hp -> VK -> Prop
def OpR (X : Cx) (f : Value -> Value -> Sem Value) (r : R2) : Prop :=
 ∀ (pins : List (Addr × Obj)) (s : Shared) (σ : St) (H : Hp) (x y : V) (v u : Value) (Q : VK),Inv X pins σ H s -> RelV x v -> RelV y u -> r x y H Q ->
  wpAny (model X.prog X.w) X.A (f v u) (EP X pins σ Q) X.xe s
def UnR (X : Cx) (f : Value -> Sem Value) (r : V -> Hp -> VK -> Prop) : Prop :=
 ∀ (pins : List (Addr × Obj)) (s : Shared) (σ : St) (H : Hp) (x : V) (v : Value) (Q : VK),Inv X pins σ H s -> RelV x v -> r x H Q ->
  wpAny (model X.prog X.w) X.A (f v) (EP X pins σ Q) X.xe s
def zdh (X : Cx) (f : Value) (r : List V -> Hp -> VK -> Prop) : Prop :=
 ∀ (pins : List (Addr × Obj)) (s : Shared) (σ : St) (H : Hp) (xs : List V) (us : List Value) (Q : VK),Inv X pins σ H s -> Vals xs us -> r xs H Q ->
  wpAny (model X.prog X.w) X.A (call f us) (EP X pins σ Q) X.xe s
def tOp (r : R2) (ta tb : TE) : TE:=fun σ H Q=>ta σ H fun x H1=>tb σ H1 fun y H2=>r x y H2 Q
def tUn (r : V -> Hp -> VK -> Prop) (ta : TE) : TE:=fun σ H Q=>ta σ H fun x H1=>r x H1 Q
def rI (C : Int -> Int -> Prop) (g : Int -> Int -> V) : R2:=fun x y H Q=>∃ i j,x = .int i /\ y = .int j /\ C i j /\ Q (g i j) H
def rI0 (g : Int -> Int -> V) : R2:=fun x y H Q=>∃ i j,x = .int i /\ y = .int j /\ Q (g i j) H
def rU (g : Int -> V) : V -> Hp -> VK -> Prop:=fun x H Q=>∃ i,x = .int i /\ Q (g i) H
section
variable {X : Cx} {a b c : Expr} {ta tb tc : TE} {pos : Pos}
theorem binT (ha : PE X a ta) (hb : PE X b tb) {pins : List (Addr × Obj)} {s : Shared} {σ : St} {H : Hp} {R : V -> V -> Hp -> Prop} (I : Inv X pins σ H s)
 (h : ta σ H fun x H1=>tb σ H1 fun y H2=>R x y H2) {Q : Value -> Shared -> Prop} {f : Value -> Value -> Sem Value}
 (hf : ∀ v u s2 x y H2,Inv X pins σ H2 s2 -> RelV x v -> RelV y u -> R x y H2 -> wpAny (model X.prog X.w) X.A (f v u) Q X.xe s2) :
 wpAny (model X.prog X.w) X.A (eval a X.env) (fun v s₁=>wpAny (model X.prog X.w) X.A (eval b X.env) (fun u s₂=>wpAny (model X.prog X.w) X.A (f v u) Q X.xe s₂) X.xe s₁) X.xe s:=by
 refine thn (ha pins s σ H _ I h) fun v s1 ⟨x,H1,I1,r1,q1⟩=>?_
 refine thn (hb pins s1 σ H1 _ I1 q1) fun u s2 ⟨y,H2,I2,r2,q2⟩=>?_
 exact hf v u s2 x y H2 I2 r1 r2 q2
theorem zao {op : Operator} {r : R2} (ho : OpR X (binaryOp op) r) (ha : PE X a ta) (hb : PE X b tb) : PE X (.BinOp a op b pos) (tOp r ta tb):=by
 intro pins s σ H Q I h
 exact wpAny_BinOp (binT ha hb I h fun v u s2 x y H2 I2 rx ry q=>ho pins s2 σ H2 x y v u Q I2 rx ry q)
theorem zjT {op : UnaryOp} {r : V -> Hp -> VK -> Prop} (ho : UnR X (unaryOp op) r) (ha : PE X a ta) : PE X (.UnaryOp op a pos) (tUn r ta):=by
 intro pins s σ H Q I h
 exact UnaryOp_ (thn (ha pins s σ H _ I h) fun v s1 ⟨x,H1,I1,r1,q1⟩=>ho pins s1 σ H1 x v Q I1 r1 q1)
theorem opI {f : Value -> Value -> Sem Value} {C : Int -> Int -> Prop} {g : Int -> Int -> Int}
 (rule : ∀ (i j : Int) (t u : Tok) (s : Shared) (Q : Value -> Shared -> Prop) (E : Value -> Shared -> Prop),C i j -> Q (.int (g i j) s.toks) { s with toks:=s.toks + 1 } -> wpAny (model X.prog X.w) X.A (f (.int i t) (.int j u)) Q E s) :
 OpR X f (rI C fun i j=>.int (g i j)):=by
 intro pins s σ H x y v u Q I rx ry h
 obtain ⟨i,j,rfl,rfl,hc,q⟩:=h
 obtain ⟨t,rfl⟩:=rx
 obtain ⟨t',rfl⟩:=ry
 exact rule i j t t' s _ _ hc ⟨.int (g i j),H,I.tok _,⟨_,rfl⟩,q⟩
theorem opI0 {f : Value -> Value -> Sem Value} {g : Int -> Int -> Int}
 (rule : ∀ (i j : Int) (t u : Tok) (s : Shared) (Q : Value -> Shared -> Prop) (E : Value -> Shared -> Prop),Q (.int (g i j) s.toks) { s with toks:=s.toks + 1 } -> wpAny (model X.prog X.w) X.A (f (.int i t) (.int j u)) Q E s) :
 OpR X f (rI0 fun i j=>.int (g i j)):=by
 intro pins s σ H x y v u Q I rx ry h
 obtain ⟨i,j,rfl,rfl,q⟩:=h
 obtain ⟨t,rfl⟩:=rx
 obtain ⟨t',rfl⟩:=ry
 exact rule i j t t' s _ _ ⟨.int (g i j),H,I.tok _,⟨_,rfl⟩,q⟩
theorem opB0 {f : Value -> Value -> Sem Value} {g : Int -> Int -> Bool}
 (rule : ∀ (i j : Int) (t u : Tok) (s : Shared) (Q : Value -> Shared -> Prop) (E : Value -> Shared -> Prop),Q (.bool (g i j)) s -> wpAny (model X.prog X.w) X.A (f (.int i t) (.int j u)) Q E s) :
 OpR X f (rI0 fun i j=>.bl (g i j)):=by
 intro pins s σ H x y v u Q I rx ry h
 obtain ⟨i,j,rfl,rfl,q⟩:=h
 obtain ⟨t,rfl⟩:=rx
 obtain ⟨t',rfl⟩:=ry
 exact rule i j t t' s _ _ ⟨.bl (g i j),H,I,rfl,q⟩
def CDiv (i j : Int) : Prop:=0 < j /\ j < 1073741824
def CMul (i j : Int) : Prop:=(-(2 ^ 64) < i /\ i < 2 ^ 64) \/ (-(2 ^ 64) < j /\ j < 2 ^ 64)
theorem CMul.ok {i j : Int} (h : CMul i j) : IntMulOk i j:=by
 rcases h with ⟨h1,h2⟩ | ⟨h1,h2⟩
 ·exact .of_left (intBits_le_64 h1 h2)
 ·exact .of_right (intBits_le_64 h1 h2)
theorem zaO : OpR X (binaryOp .Add) (rI0 fun i j=>.int (i + j)):=opI0 fun _ _ _ _ _ _ _ q=>add_int q
theorem zin : OpR X (binaryOp .Sub) (rI0 fun i j=>.int (i - j)):=opI0 fun _ _ _ _ _ _ _ q=>sub_int q
theorem zev : OpR X (binaryOp .Mult) (rI CMul fun i j=>.int (i * j)):=opI fun _ _ _ _ _ _ _ hc q=>mul_int q hc.ok
theorem zbu : OpR X (binaryOp .FloorDiv) (rI CDiv fun i j=>.int (i / j)):=opI fun i j _ _ _ _ _ hc q=>by
 have h1 : (0 : Int) < j:=hc.1
 have h2 : j < 1073741824:=hc.2
 exact floordiv_int (by omega) (by rw [Int.fdiv_eq_ediv_of_nonneg i (by omega)]; exact q) (.inl (PyProof.noPylong_small (by omega)))
theorem zaU : OpR X (binaryOp .Mod) (rI (fun _ j=>0 < j) fun i j=>.int (i % j)):=opI fun i j _ _ _ _ _ hc q=>by
 have h1 : (0 : Int) < j:=hc
 exact mod_int' (by omega) (by rw [Int.fmod_eq_emod_of_nonneg i (by omega)]; exact q)
theorem zpY : OpR X (binaryOp .BitAnd) (rI0 fun i j=>.int (Builtin.bitAnd i j)):=opI0 fun _ _ _ _ _ _ _ q=>and_int q
theorem unI {f : Value -> Sem Value} {g : Int -> Int}
 (rule : ∀ (i : Int) (t : Tok) (s : Shared) (Q : Value -> Shared -> Prop) (E : Value -> Shared -> Prop),Q (.int (g i) s.toks) { s with toks:=s.toks + 1 } -> wpAny (model X.prog X.w) X.A (f (.int i t)) Q E s) :
 UnR X f (rU fun i=>.int (g i)):=by
 intro pins s σ H x v Q I rx h
 obtain ⟨i,rfl,q⟩:=h
 obtain ⟨t,rfl⟩:=rx
 exact rule i t s _ _ ⟨.int (g i),H,I.tok _,⟨_,rfl⟩,q⟩
theorem zfw : UnR X (unaryOp .USub) (rU fun i=>.int (-i)):=unI fun _ _ _ _ _ q=>neg_int q
end
def scal : V -> V -> Bool
 | .non,.non=>true | .non,.int _=>true | .int _,.non=>true | .non,.bl _=>true | .bl _,.non=>true | .non,.str _=>true | .str _,.non=>true
 | .int _,.int _=>true | .bl _,.bl _=>true | .str _,.str _=>true | .byt _,.byt _=>true
 | .int _,.str _=>true | .str _,.int _=>true | .bl _,.str _=>true | .str _,.bl _=>true
 | _,_=>false
def rEq : R2:=fun x y H Q=>scal x y = true /\ Q (.bl (decide (x = y))) H
def rNe : R2:=fun x y H Q=>scal x y = true /\ Q (.bl (!decide (x = y))) H
theorem zkY {i j : Int} : decide (V.int i = V.int j) = (i == j):=by
 rw [Bool.eq_iff_iff]
 simp
theorem zmP {i j : Bool} : decide (V.bl i = V.bl j) = (i == j):=by
 rw [Bool.eq_iff_iff]
 simp
theorem zlw {i j : Str} : decide (V.str i = V.str j) = (i == j):=by
 rw [Bool.eq_iff_iff]
 simp
theorem zkj {i j : Array UInt8} : decide (V.byt i = V.byt j) = (i.toList == j.toList):=by
 rw [Bool.eq_iff_iff]
 cases i
 cases j
 simp
section
variable {X : Cx} {a b c : Expr} {ta tb tc : TE} {pos : Pos}
theorem zaD {pins : List (Addr × Obj)} {σ : St} {H : Hp} {s : Shared} {Q : VK} {k k' : Bool} (I : Inv X pins σ H s) (q : Q (.bl k) H) (e : k = k') : EP X pins σ Q (.bool k') s:=by
 subst e
 exact ⟨.bl k,H,I,rfl,q⟩
theorem zfE : OpR X (compareOp .Eq) rEq:=by
 intro pins s σ H x y v u Q I rx ry h
 obtain ⟨hs,q⟩:=h
 cases x with
 | non =>
   cases rx
   cases y with
   | non=>cases ry; exact PySem.EqNone.eq_none_none (zaD I q (by simp))
   | bl j=>cases ry; exact PySem.EqNone.eq_none_bool (zaD I q (by simp))
   | int j=>obtain ⟨t',rfl⟩:=ry; exact PySem.EqNone.eq_none_int (zaD I q (by simp))
   | str j=>obtain ⟨t',rfl⟩:=ry; exact PySem.EqNone.eq_none_str (zaD I q (by simp))
   | _=>exact absurd (show false = true from hs) Bool.false_ne_true
 | bl i =>
   cases rx
   cases y with
   | non=>cases ry; exact PySem.EqNone.eq_bool_none (zaD I q (by simp))
   | bl j=>cases ry; exact eq_bool (zaD I q zmP)
   | str j=>obtain ⟨t',rfl⟩:=ry; exact PySem.EqMixed.eq_bool_str (zaD I q (by simp))
   | _=>exact absurd (show false = true from hs) Bool.false_ne_true
 | int i =>
   obtain ⟨t,rfl⟩:=rx
   cases y with
   | non=>cases ry; exact PySem.EqNone.eq_int_none (zaD I q (by simp))
   | int j=>obtain ⟨t',rfl⟩:=ry; exact eq_int (zaD I q zkY)
   | str j=>obtain ⟨t',rfl⟩:=ry; exact PySem.EqMixed.eq_int_str (zaD I q (by simp))
   | _=>exact absurd (show false = true from hs) Bool.false_ne_true
 | str i =>
   obtain ⟨t,rfl⟩:=rx
   cases y with
   | non=>cases ry; exact PySem.EqNone.eq_str_none (zaD I q (by simp))
   | bl j=>cases ry; exact PySem.EqMixed.eq_str_bool (zaD I q (by simp))
   | int j=>obtain ⟨t',rfl⟩:=ry; exact PySem.EqMixed.eq_str_int (zaD I q (by simp))
   | str j=>obtain ⟨t',rfl⟩:=ry; exact eq_str (zaD I q zlw)
   | _=>exact absurd (show false = true from hs) Bool.false_ne_true
 | byt i =>
   obtain ⟨t,rfl⟩:=rx
   cases y with
   | byt j=>obtain ⟨t',rfl⟩:=ry; exact PySem.W.eq_bytes (zaD I q zkj)
   | _=>exact absurd (show false = true from hs) Bool.false_ne_true
 | _=>cases y <;> exact absurd (show false = true from hs) Bool.false_ne_true
theorem zjl : OpR X (compareOp .NotEq) rNe:=by
 intro pins s σ H x y v u Q I rx ry h
 obtain ⟨hs,q⟩:=h
 cases x with
 | non =>
   cases rx
   cases y with
   | non=>cases ry; exact PySem.EqNone.ne_none_none (zaD I q (by simp))
   | bl j=>cases ry; exact PySem.EqNone.ne_none_bool (zaD I q (by simp))
   | int j=>obtain ⟨t',rfl⟩:=ry; exact PySem.EqNone.ne_none_int (zaD I q (by simp))
   | str j=>obtain ⟨t',rfl⟩:=ry; exact PySem.EqNone.ne_none_str (zaD I q (by simp))
   | _=>exact absurd (show false = true from hs) Bool.false_ne_true
 | bl i =>
   cases rx
   cases y with
   | non=>cases ry; exact PySem.EqNone.ne_bool_none (zaD I q (by simp))
   | bl j=>cases ry; exact ne_bool (zaD I q (congrArg not zmP))
   | str j=>obtain ⟨t',rfl⟩:=ry; exact PySem.EqMixed.ne_bool_str (zaD I q (by simp))
   | _=>exact absurd (show false = true from hs) Bool.false_ne_true
 | int i =>
   obtain ⟨t,rfl⟩:=rx
   cases y with
   | non=>cases ry; exact PySem.EqNone.ne_int_none (zaD I q (by simp))
   | int j=>obtain ⟨t',rfl⟩:=ry; exact ne_int (zaD I q (congrArg not zkY))
   | str j=>obtain ⟨t',rfl⟩:=ry; exact PySem.EqMixed.ne_int_str (zaD I q (by simp))
   | _=>exact absurd (show false = true from hs) Bool.false_ne_true
 | str i =>
   obtain ⟨t,rfl⟩:=rx
   cases y with
   | non=>cases ry; exact PySem.EqNone.ne_str_none (zaD I q (by simp))
   | bl j=>cases ry; exact PySem.EqMixed.ne_str_bool (zaD I q (by simp))
   | int j=>obtain ⟨t',rfl⟩:=ry; exact PySem.EqMixed.ne_str_int (zaD I q (by simp))
   | str j=>obtain ⟨t',rfl⟩:=ry; exact ne_str (zaD I q (congrArg not zlw))
   | _=>exact absurd (show false = true from hs) Bool.false_ne_true
 | byt i =>
   obtain ⟨t,rfl⟩:=rx
   cases y with
   | byt j=>obtain ⟨t',rfl⟩:=ry; exact PySem.W.ne_bytes (zaD I q (congrArg not zkj))
   | _=>exact absurd (show false = true from hs) Bool.false_ne_true
 | _=>cases y <;> exact absurd (show false = true from hs) Bool.false_ne_true
theorem zqs : OpR X (compareOp .Lt) (rI0 fun i j=>.bl (decide (i < j))):=opB0 fun _ _ _ _ _ _ _ q=>lt_int q
theorem ztK : OpR X (compareOp .LtE) (rI0 fun i j=>.bl (decide (i <= j))):=opB0 fun _ _ _ _ _ _ _ q=>le_int q
theorem znz : OpR X (compareOp .Gt) (rI0 fun i j=>.bl (decide (j < i))):=opB0 fun _ _ _ _ _ _ _ q=>gt_int q
theorem OpR.or {f : Value -> Value -> Sem Value} {r r' : R2} (h : OpR X f r) (h' : OpR X f r') : OpR X f (fun x y H Q=>r x y H Q \/ r' x y H Q):=by
 intro pins s σ H x y v u Q I rx ry q
 rcases q with q | q
 ·exact h pins s σ H x y v u Q I rx ry q
 ·exact h' pins s σ H x y v u Q I rx ry q
theorem zax (b : Expr) {op : CmpOp} (h : op ≠ .In:=by decide) (h2 : op ≠ .NotIn:=by decide) : behindInMarks op b = false:=by
 have e1 : (op == CmpOp.In) = false:=by cases op <;> first | rfl | exact absurd rfl h
 have e2 : (op == CmpOp.NotIn) = false:=by cases op <;> first | rfl | exact absurd rfl h2
 cases b <;> simp [behindInMarks,e1,e2]
theorem zbG {op : CmpOp} {r : R2} (ho : OpR X (compareOp op) r) (ha : PE X a ta) (hb : PE X b tb) (hm : behindInMarks op b = false) : PE X (.Compare a [op] [b] pos) (tOp r ta tb):=by
 intro pins s σ H Q I h
 exact wpAny_Compare1 (binT ha hb I h fun v u s2 x y H2 I2 rx ry q=>ho pins s2 σ H2 x y v u Q I2 rx ry q) hm
def zvo (t : TE) : TT:=fun σ H Q=>t σ H fun x H'=>∃ k,x = .bl k /\ Q k H'
theorem zaA {op : CmpOp} {r : R2} (ho : OpR X (compareOp op) r) (ha : PE X a ta) (hb : PE X b tb) (hm : behindInMarks op b = false) : PT X (.Compare a [op] [b] pos) (zvo (tOp r ta tb)):=by
 intro pins s σ H Q I h
 refine wpAny_isTrue_Compare1 (thn (ha pins s σ H _ I h) fun v s1 ⟨x,H1,I1,r1,q1⟩=>thn (hb pins s1 σ H1 _ I1 q1) fun u s2 ⟨y,H2,I2,r2,q2⟩ =>
  thn (ho pins s2 σ H2 x y v u _ I2 r1 r2 q2) fun c s3 ⟨z,H3,I3,r3,k,e,q3⟩=>?_) hm
 subst e
 cases r3
 exact wpAny_truthy_bool ⟨H3,I3,q3⟩
theorem zfd : (sizeLine : Nat) < 2 ^ 63:=by rw [sizeLine_eq]; decide
theorem zaT : OpR X (binaryOp .Add) (fun x y H Q=>∃ i j,x = .str i /\ y = .str j /\ i.length + j.length <= sizeLine /\ Q (.str (i ++ j)) H):=by
 intro pins s σ H x y v u Q I rx ry h
 obtain ⟨i,j,rfl,rfl,hz,q⟩:=h
 obtain ⟨t,rfl⟩:=rx
 obtain ⟨t',rfl⟩:=ry
 exact add_str (fun t' tk=>⟨.str (i ++ j),H,I.tok _,⟨_,rfl⟩,q⟩) hz
theorem zfa {x : V} {us : List Value} (r : Vals [x] us) : ∃ u,us = [u] /\ RelV x u:=by
 cases r with
 | cons r1 r2=>cases r2; exact ⟨_,rfl,r1⟩
theorem zpP {x y : V} {us : List Value} (r : Vals [x,y] us) : ∃ u w',us = [u,w'] /\ RelV x u /\ RelV y w':=by
 cases r with
 | cons r1 r2 =>
   cases r2 with
   | cons r3 r4=>cases r4; exact ⟨_,_,rfl,r1,r3⟩
theorem zkd : zdh X (.type "int") (fun xs H Q=>(∃ i,xs = [.int i] /\ Q (.int i) H) \/ ∃ k,xs = [.bl k] /\ Q (.int (if k then 1 else 0)) H):=by
 intro pins s σ H xs us Q I r h
 rcases h with ⟨i,rfl,q⟩ | ⟨k,rfl,q⟩
 ·obtain ⟨u,rfl,t,rfl⟩:=zfa r
  exact call_int_int ⟨.int i,H,I,⟨_,rfl⟩,q⟩
 ·obtain ⟨u,rfl,r1⟩:=zfa r
  cases r1
  exact call_int_bool ⟨.int (if k then 1 else 0),H,I.tok _,⟨_,rfl⟩,q⟩
end
end L2
namespace L2
open PySem PySem.Spec PyProof.Rows
structure ObjM (h : Heap) (x dx C : Addr) (mA : Str -> Option Value) : Prop where
 obj : h.get? x = some (PySem.W.instObj C dx)
 ns : h.Ns1 dx mA
 ne : dx ≠ x
theorem zgs {h : Heap} {dx : Addr} {mA : Str -> Option Value} (n : h.Ns1 dx mA) : ∃ od,h.get? dx = some od /\ ∀ name,PySem.W.lookIn name od = some (mA name):=by
 obtain ⟨o,es,ep,ho,hd,hk,_,hm⟩:=n
 refine ⟨o,ho,fun name=>?_⟩
 have e:=hm name
 unfold nsFind findBy at e
 rw [<- Array.find?_toList] at e
 unfold PySem.W.lookIn
 rw [hd]
 dsimp only
 split
 ·rename_i y q
  rw [q] at e
  exact congrArg some e
 ·rename_i q
  rw [q] at e
  have a : es.toList.any (·.refKey) = false:=by
   rw [List.any_eq_false]
   intro y hy
   obtain ⟨z,t,hkey⟩:=hk y (Array.mem_toList_iff.mp hy)
   simp [DictEntry.refKey,hkey]
  have a' : ¬ es.toList.any (·.refKey) = true:=by rw [a]; exact Bool.false_ne_true
  rw [if_neg a']
  exact congrArg some e
theorem ObjM.look {h : Heap} {x dx C : Addr} {mA : Str -> Option Value} (I : ObjM h x dx C mA) : ∃ od,PySem.W.InstAt h x (PySem.W.instObj C dx) C (some od) /\ ∀ name,PySem.W.lookIn name od = some (mA name) :=
 let ⟨od,ho,hl⟩:=zgs I.ns
 ⟨od,⟨I.obj,rfl,rfl,ho⟩,hl⟩
section
variable {prog : Program} {w : World} {A : Around} {E : Value -> Shared -> Prop} {s : Shared} {K : PySem.W.Frag} {x dx C f : Addr} {mA : Str -> Option Value} {name : Str} {v : Value}
theorem zob {expr : Bool} {Q : Value -> Shared -> Prop} (X : K.In s.heap) (I : ObjM s.heap x dx C mA) (hg : PySem.W.plainGet K C name = true) (hh : PySem.W.hasDictIn K C = true)
 (ha : PySem.W.findIn K (.ref C) name = some none) (hv : mA name = some v) (hv' : PySem.W.handedIn v = true) (h : Q v { s with toks:=s.toks + 1 }) :
 wpAny (model prog w) A (getAttr (.ref x) name expr) Q E s:=by
 obtain ⟨od,J,hl⟩:=I.look
 exact PySem.W.get_value X J (PySem.W.plainGet_of hg).1 (PySem.W.findObj_own hh ha rfl (by rw [hl,hv])) hv' h
theorem zlY {pl : Sem Bool} {Q : Value × List Value -> Shared -> Prop} (X : K.In s.heap) (I : ObjM s.heap x dx C mA) (hg : PySem.W.plainGet K C name = true)
 (hf : PySem.W.findIn K (.ref C) name = some (some (.ref f))) (ht : PySem.W.isFn K (.ref f) = true) (hv : mA name = none) (h : Q (.ref f,[.ref x]) s) :
 wpAny (model prog w) A (getMethod (.ref x) name pl) Q E s:=by
 obtain ⟨od,J,hl⟩:=I.look
 exact PySem.W.method_fn X J (PySem.W.plainGet_of hg).1 (PySem.W.plainGet_of hg).2 hf (beq_iff_eq.mp ht) (by show (PySem.W.lookIn name od).map (·.isSome) = some false; rw [hl,hv]; rfl) h
theorem znj {ns : List Str} {Q : Unit -> Shared -> Prop} (X : K.In s.heap) (I : ObjM s.heap x dx C mA)
 (hs : PySem.W.findIn K (.ref C) "__setattr__" = some (some (.builtin "object.__setattr__"))) (hp : PySem.W.plainOver K C = true) (ht : PySem.W.takerIn K C name = some none) (hh : PySem.W.hasDictIn K C = true)
 (hw : PySem.Within mA ns) (hsz : ns.length <= sizeLine)
 (h : ∀ h',ObjM h' x dx C (fun y=>if y = name then some v else mA y) -> Heap.SameBut dx s.heap h' -> Q () { s with heap:=h',toks:=s.toks + 2 }) :
 wpAny (model prog w) A (setAttr (.ref x) name v) Q E s:=by
 obtain ⟨od,J,hl⟩:=I.look
 refine PySem.W.set_plain X J hs (PySem.W.osa_open (s:={ s with toks:=s.toks + 1 }) (r:=none) X J hp ht fun b=>?_)
 obtain ⟨cd,hc,hd'⟩:=PySem.W.any_some hh
 have hx : s.heap.get? x = some ⟨.ref C,some dx,.plain,#[]⟩:=I.obj
 refine wpAny_bind (wpAny_pure (wpAny_bind (wpAny_bind (wpAny_loadPart hx (wpAny_bind (PySem.W.Looks.here (s:={ s with toks:=s.toks + 1 }) (PySem.W.looks_clsIn X hc) ?_))))))
 rw [hd']
 refine wpAny_pure (a:=some dx) (wpAny_bind (wpAny_pure (wpAny_bind ?_)))
 refine wpAny_nsSet1 (s:={ s with toks:=s.toks + 1 }) I.ns fun h' hn2 hs2=>?_
 obtain ⟨oD,esD,epD,hoD,hdD,hcD⟩:=hn2.count (PySem.Within.cons name v hw)
 refine wpAny_bind (wpAny_lookBehind hoD (by rw [hdD]; exact pastItsLine_dict (Nat.le_trans hcD (by rw [List.length_cons]; omega))) ?_)
 exact wpAny_pure (h _ ⟨(hs2.2 _ (Ne.symm I.ne)).trans I.obj,hn2,I.ne⟩ hs2)
theorem zmi {R : Result -> Shared -> Prop} {vs : List Value} {kw : List (Str × Value)} (X : K.In s.heap) (hm : PySem.W.makesIn K C = true)
 (hi : PySem.W.findIn K (.ref C) "__init__" = some (some (.ref f))) (hf : PySem.W.typeIn K (.ref f) = some (.type "function"))
 (h : codeAny (model prog w) (A.under (.builtin "type.__call__" ⟨.ref C :: vs,kw⟩)) (.call (.ref f) ⟨.ref (s.heap.objs.size + 1) :: vs,kw⟩) (PySem.W.InitBack (s.heap.objs.size + 1) R)
   { s with heap:=(s.heap.push PySem.W.emptyDict).push (PySem.W.instObj C s.heap.objs.size) }) :
 codeAny (model prog w) A (.call (.ref C) ⟨vs,kw⟩) R s:=by
 obtain ⟨hh,g,d,t,os⟩:=s
 exact PySem.W.make_core (PySem.W.makes_of X hm) (PySem.W.looks_findIn X hi) (fun self=>PySem.W.bind_fn X self hf) (.inl rfl) h
end
def putF (f : Str) (v : V) : List (Str × V) -> List (Str × V)
 | []=>[(f,v)]
 | (g,x) :: r=>if g = f then (g,v) :: r else (g,x) :: putF f v r
theorem zda (f g : Str) (v : V) : ∀ fs : List (Str × V),(putF f v fs).lookup g = if g = f then some v else fs.lookup g
 | []=>by
   show List.lookup g [(f,v)] = _
   by_cases h : g = f
   ·have hb : (g == f) = true:=beq_iff_eq.mpr h
    simp only [List.lookup,hb,if_pos h]
   ·have hb : (g == f) = false:=beq_eq_false_iff_ne.mpr h
    simp only [List.lookup,hb,if_neg h]
 | (k,x) :: r=>by
   have ih:=zda f g v r
   rw [show putF f v ((k,x) :: r) = (if k = f then (k,v) :: r else (k,x) :: putF f v r) from rfl]
   by_cases hk : k = f
   ·rw [if_pos hk]
    by_cases h : g = k
    ·have hb : (g == k) = true:=beq_iff_eq.mpr h
     simp only [List.lookup,hb,if_pos (h.trans hk)]
    ·have hb : (g == k) = false:=beq_eq_false_iff_ne.mpr h
     simp only [List.lookup,hb,if_neg (fun e : g = f=>h (e.trans hk.symm))]
   ·rw [if_neg hk]
    by_cases h : g = k
    ·have hb : (g == k) = true:=beq_iff_eq.mpr h
     simp only [List.lookup,hb,if_neg (fun e : g = f=>hk (h.symm.trans e))]
    ·have hb : (g == k) = false:=beq_eq_false_iff_ne.mpr h
     simp only [List.lookup,hb]
     exact ih
theorem zee (f : Str) (v : V) : ∀ fs : List (Str × V),f ∈ (putF f v fs).map (·.1) /\ ∀ g,g ∈ fs.map (·.1) -> g ∈ (putF f v fs).map (·.1)
 | []=>⟨by simp [putF],fun g h=>by simp at h⟩
 | (k,x) :: r=>by
   obtain ⟨i1,i2⟩:=zee f v r
   rw [show putF f v ((k,x) :: r) = (if k = f then (k,v) :: r else (k,x) :: putF f v r) from rfl]
   by_cases hk : k = f
   ·rw [if_pos hk]
    subst hk
    exact ⟨by simp,fun g h=>by simpa using h⟩
   ·rw [if_neg hk]
    refine ⟨?_,fun g h=>?_⟩
    ·rw [List.map_cons]
     exact List.mem_cons_of_mem _ i1
    ·rw [List.map_cons] at h ⊢
     rcases List.mem_cons.mp h with e | e
     ·exact List.mem_cons.mpr (.inl e)
     ·exact List.mem_cons_of_mem _ (i2 g e)
theorem zea (f : Str) (v : V) : ∀ fs : List (Str × V),(putF f v fs).length <= fs.length + 1
 | []=>by simp [putF]
 | (k,x) :: r=>by
   have ih:=zea f v r
   rw [show putF f v ((k,x) :: r) = (if k = f then (k,v) :: r else (k,x) :: putF f v r) from rfl]
   by_cases hk : k = f
   ·rw [if_pos hk,List.length_cons,List.length_cons]; omega
   ·rw [if_neg hk,List.length_cons,List.length_cons]; omega
theorem RelO.some_of {v : V} {o : Option Value} (r : RelO (some v) o) : ∃ u,o = some u /\ RelV v u:=by
 cases o with
 | none=>exact (show False from r).elim
 | some u=>exact ⟨u,rfl,r⟩
theorem RelO.none_of {o : Option Value} (r : RelO none o) : o = none:=by
 cases o with
 | none=>rfl
 | some u=>exact (show False from r).elim
theorem zhe {v : V} {u : Value} (r : RelV v u) : PySem.W.handedIn u = true:=by
 cases v with
 | non=>cases (show u = Value.none from r); rfl
 | bl b=>cases (show u = Value.bool b from r); rfl
 | int i=>obtain ⟨t,e⟩:=(show ∃ t,u = Value.int i t from r); cases e; rfl
 | str x=>obtain ⟨t,e⟩:=(show ∃ t,u = Value.str x t from r); cases e; rfl
 | byt b=>obtain ⟨t,e⟩:=(show ∃ t,u = Value.bytes b t from r); cases e; rfl
 | flt b=>obtain ⟨t,e⟩:=(show ∃ t,u = Value.float b t from r); cases e; rfl
 | ref a=>cases (show u = Value.ref a from r); rfl
 | ty n=>cases (show u = Value.type n from r); rfl
section
variable {P : Program} {w : World} {H H' : Hp} {h h' : Heap} {a C dx : Addr} {fs fs' : List (Str × V)}
theorem zhs (hok : HOk P w H h) (e : H a = some (.ins C dx fs)) : ∃ mA,ObjM h a dx C mA /\ (∀ f,RelO (fs.lookup f) (mA f)) /\ PySem.Within mA (fs.map (·.1)) /\ fs.length <= 1000 /\ H dx = some (.own a):=by
 obtain ⟨d,z,ne,ob,mA,n,r,q⟩:=(show zdb P w H h a (.ins C dx fs) from hok a _ e)
 exact ⟨mA,⟨ob,n,ne⟩,r,q,z,d⟩
end
structure Cls (K : PySem.W.Frag) (C : Addr) : Prop where
 pg : PySem.W.plainGet K C Str.empty = true
 hd : PySem.W.hasDictIn K C = true
 po : PySem.W.plainOver K C = true
 sa : PySem.W.findIn K (.ref C) "__setattr__" = some (some (.builtin "object.__setattr__"))
theorem Cls.get {K : PySem.W.Frag} {C : Addr} (c : Cls K C) (f : Str) : PySem.W.plainGet K C f = true:=c.pg
def zbr (K : PySem.W.Frag) (C : Addr) (f : Str) : Prop:=PySem.W.findIn K (.ref C) f = some none
theorem zbr.taker {K : PySem.W.Frag} {C : Addr} {f : Str} (n : zbr K C f) : PySem.W.takerIn K C f = some none:=by
 unfold PySem.W.takerIn
 rw [show PySem.W.findIn K (.ref C) f = some none from n]
 rfl
structure Meth (K : PySem.W.Frag) (C : Addr) (m : Str) (f : Addr) : Prop where
 at_ : PySem.W.findIn K (.ref C) m = some (some (.ref f))
 fn : PySem.W.isFn K (.ref f) = true
 kp : PySem.W.keepIn K (.ref f) = true
section
variable {X : Cx} {pins : List (Addr × Obj)} {σ : St} {H : Hp} {s : Shared} {a C dx : Addr} {fs : List (Str × V)} {f : Str} {v : V} {A : Around} {E : Value -> Shared -> Prop}
theorem zjL {b : Bool} {Q : Value -> Shared -> Prop} (I : Inv X pins σ H s) (e : H a = some (.ins C dx fs)) (c : Cls X.K C) (n : zbr X.K C f) (l : fs.lookup f = some v)
 (h : ∀ u s',Inv X pins σ H s' -> RelV v u -> Q u s') : wpAny (model X.prog X.w) A (getAttr (.ref a) f b) Q E s:=by
 obtain ⟨mA,O,r,_,_,_⟩:=zhs I.hok e
 obtain ⟨u,hu,ru⟩:=RelO.some_of (v:=v) (o:=mA f) (by rw [<- l]; exact r f)
 exact zob I.kIn O (c.get f) c.hd n hu (zhe ru) (h u _ (I.tok _) ru)
theorem zft {m : Str} {g : Addr} {pl : Sem Bool} {Q : Value × List Value -> Shared -> Prop} (I : Inv X pins σ H s) (e : H a = some (.ins C dx fs)) (c : Cls X.K C) (k : Meth X.K C m g) (l : fs.lookup m = none)
 (h : Q (.ref g,[.ref a]) s) : wpAny (model X.prog X.w) A (getMethod (.ref a) m pl) Q E s:=by
 obtain ⟨mA,O,r,_,_,_⟩:=zhs I.hok e
 have hn : mA m = none:=RelO.none_of (by rw [<- l]; exact r m)
 exact zlY I.kIn O (c.get m) k.at_ k.fn hn h
theorem zjf {y : V} {u : Value} {Q : Unit -> Shared -> Prop} (I : Inv X pins σ H s) (e : H a = some (.ins C dx fs)) (c : Cls X.K C) (n : zbr X.K C f) (hl : fs.length < 1000) (ry : RelV y u)
 (h : ∀ s',Inv X pins σ (upd H a (.ins C dx (putF f y fs))) s' -> Q () s') : wpAny (model X.prog X.w) A (setAttr (.ref a) f u) Q E s:=by
 obtain ⟨mA,O,r,wi,_,ho⟩:=zhs I.hok e
 have hz : (fs.map (·.1)).length <= sizeLine:=by rw [List.length_map,sizeLine_eq]; omega
 refine znj I.kIn O c.sa c.po n.taker c.hd wi hz fun h' O' sb=>h _ ?_
 have hd : ∃ o,h'.get? dx = some o:=let ⟨o,_,_,e',_⟩:=O'.ns; ⟨o,e'⟩
 refine I.write (x:=a) (e:=dx) (by rw [e]; exact True.intro) (.inr ho) (fun b q hb z=>(sb.2 b hb).trans z) hd ?_
 refine ⟨by rw [zah O.ne]; exact ho,?_,O.ne,O'.obj,_,O'.ns,fun g=>?_,fun g hg=>?_⟩
 ·have:=zea f y fs; omega
 ·show RelO ((putF f y fs).lookup g) (if g = f then some u else mA g)
  rw [zda]
  by_cases q : g = f
  ·rw [if_pos q,if_pos q]; exact ry
  ·rw [if_neg q,if_neg q]; exact r g
 ·by_cases q : g = f
  ·rw [q]; exact (zee f y fs).1
  ·refine (zee f y fs).2 g (wi g fun z=>hg ?_)
   show (if g = f then some u else mA g) = none
   rw [if_neg q]; exact z
theorem Inv.made (I : Inv X pins σ H s) : Inv X pins σ (upd (upd H s.heap.objs.size (.own (s.heap.objs.size + 1))) (s.heap.objs.size + 1) (.ins C s.heap.objs.size []))
 { s with heap:=(s.heap.push PySem.W.emptyDict).push (PySem.W.instObj C s.heap.objs.size) }:=by
 have e1 : (s.heap.push PySem.W.emptyDict).get? s.heap.objs.size = some PySem.W.emptyDict:=Heap.get?_push_size s.heap rfl
 have e2 : ((s.heap.push PySem.W.emptyDict).push (PySem.W.instObj C s.heap.objs.size)).get? (s.heap.objs.size + 1) = some (PySem.W.instObj C s.heap.objs.size):=by
  have:=Heap.get?_push_size (s.heap.push PySem.W.emptyDict) (o:=PySem.W.instObj C s.heap.objs.size) rfl
  rwa [Heap.size_push] at this
 have e3 : (s.heap.push PySem.W.emptyDict).Ns s.heap.objs.size (fun _=>none):=⟨PySem.W.emptyDict,#[],_,e1,rfl,(fun e he=>absurd he (by simp)),fun _=>rfl⟩
 have I1:=I.laid (a:=s.heap.objs.size) (o:=.own (s.heap.objs.size + 1)) (h':=s.heap.push PySem.W.emptyDict) (t':=s.toks) (fun b u q=>Heap.get?_push_of_some _ q) (Nat.le_refl _) ⟨_,e1⟩
 refine I1.laid (a:=s.heap.objs.size + 1) (o:=.ins C s.heap.objs.size []) (t':=s.toks) (fun b u q=>Heap.get?_push_of_some _ q) (Nat.le_of_eq (Heap.size_push _ _)) ?_
 have ne : s.heap.objs.size ≠ s.heap.objs.size + 1:=Nat.ne_of_lt (Nat.lt_succ_self _)
 refine ⟨by rw [zah ne,upd_same],Nat.zero_le _,ne,e2,fun _=>none,(Heap.Ns1.of_empty e3).at fun o q=>Heap.get?_push_of_some _ q,fun _=>True.intro,fun y hy=>absurd rfl hy⟩
theorem zky {prog : Program} {w : World} {env : Env} {e : Expr} {f : Str} {pos : Pos} {s : Shared} {Q : Value -> Shared -> Prop} (hb : attributeBase e f env (eval e env) = eval e env)
 (h : wpAny (model prog w) A (eval e env) (fun o s₁=>wpAny (model prog w) A (getAttr o f true) Q E s₁) E s) : wpAny (model prog w) A (eval (.Attribute e f pos) env) Q E s :=
 Attribute_any_ h (by rw [arm_eval_Attribute,hb])
end
section
variable {X : Cx} {o e value : Expr} {f : Str} {pos pos' tpos : Pos} {ta tv : TE}
end
section
variable {X : Cx} {pins : List (Addr × Obj)} {σ : St} {H : Hp} {s : Shared} {A : Around} {E : Value -> Shared -> Prop} {Q : Value -> Shared -> Prop} {c : Value} {b : Bool}
end
end L2
namespace L2
open PySem PySem.Spec PyProof.Rows
structure Room (k : Nat) (A : Around) : Prop where
 hd : A.handled = none
 dp : A.depth + 3 * k + 5 < recursionLimit
 un : A.units + 16 * k + 200 < cLine
theorem Room.mono {j k : Nat} {A : Around} (r : Room k A) (h : j <= k) : Room j A:=⟨r.hd,by have:=r.dp; omega,by have:=r.un; omega⟩
theorem Room.deeper {k : Nat} {A : Around} (r : Room (k + 1) A) (env : Env) : Room k (A.deeper env) :=
 ⟨r.hd,by have:=r.dp; show A.depth + 1 + 3 * k + 5 < _; omega,by have:=r.un; show A.units + 3 + 16 * k + 200 < _; omega⟩
theorem zjd {A : Around} {C : Addr} {us : List Value} {kw : List (Str × Value)} : (A.under (.builtin "type.__call__" ⟨.ref C :: us,kw⟩)).depth = A.depth + 1:=by
 first | rfl | simp [Around.under,Code.weight,Code.isCreation,Code.isGuard,Code.isCaller,Code.frames,Code.isFrame,guardIds]
theorem zjz {A : Around} {C : Addr} {us : List Value} {kw : List (Str × Value)} : (A.under (.builtin "type.__call__" ⟨.ref C :: us,kw⟩)).units = A.units + 1:=by
 first | rfl | simp [Around.under,Code.cUnits,Code.frames,Code.isFrame]
theorem Room.make {k : Nat} {A : Around} (r : Room (k + 1) A) (C : Addr) (us : List Value) (kw : List (Str × Value)) : Room k (A.under (.builtin "type.__call__" ⟨.ref C :: us,kw⟩)) :=
 ⟨r.hd,by have:=r.dp; rw [zjd]; omega,by have:=r.un; rw [zjz]; omega⟩
theorem Room.depth {k : Nat} {A : Around} (r : Room k A) : A.depth < recursionLimit:=by have:=r.dp; omega
theorem Room.units {k : Nat} {A : Around} (r : Room k A) : A.units + 64 < cLine:=by have:=r.un; omega
def tNil : TA:=fun _ H Q=>Q [] H
def ztu (ta : TE) (tr : TA) : TA:=fun σ H Q=>ta σ H fun x H1=>tr σ H1 fun xs H2=>Q (x :: xs) H2
section
variable {X : Cx} {e : Expr} {es : List Expr} {te : TE} {t : TA} {pos : Pos}
theorem zad : PA X [] tNil:=fun _ _ _ _ H Q I h=>Calls.spliced_nil ⟨[],H,I,.nil,h⟩
theorem zaa (ha : PE X e te) (hr : PA X es t) (hs : starEach (e :: es) X.env = (false,eval e X.env) :: starEach es X.env:=by rfl) : PA X (e :: es) (ztu te t):=by
 intro pos pins s σ H Q I h
 rw [hs]
 show wpAny _ _ (spliced ((false,eval e X.env) :: backTo pos (starEach es X.env))) _ _ s
 refine Calls.spliced_cons (thn (ha pins s σ H _ I h) fun u s1 ⟨x,H1,I1,r1,q1⟩=>?_)
 exact thn (hr pos pins s1 σ H1 _ I1 q1) fun us s2 ⟨xs,H2,I2,r2,q2⟩=>⟨x :: xs,H2,I2,.cons r1 r2,q2⟩
def tTup (t : TA) : TE:=fun σ H Q=>t σ H fun xs H1=>xs.length <= sizeLine /\ ∀ p,H1 p = none -> Q (.ref p) (upd H1 p (.tup xs))
def tLst (t : TA) : TE:=fun σ H Q=>t σ H fun xs H1=>xs.length <= sizeLine /\ ∀ p,H1 p = none -> Q (.ref p) (upd H1 p (.lst xs))
theorem zfs {x1} (h : PA X es t) : PE X (.Tuple es x1 pos) (tTup t):=by
 intro pins s σ H Q I hq
 refine wpAny_Tuple_spliced (thn (h pos pins s σ H _ I hq) fun us s1 ⟨xs,H1,I1,r,z,q⟩=>⟨by rw [<- r.length]; exact z,?_⟩)
 have hf : H1 s1.heap.objs.size = none:=I1.hok.fresh (Nat.le_refl _)
 refine ⟨.ref s1.heap.objs.size,upd H1 s1.heap.objs.size (.tup xs),I1.laid (t':=s1.toks) (fun b u e=>Heap.get?_push_of_some _ e) (Nat.le_refl _) ?_,rfl,q _ hf⟩
 exact ⟨z,us,r,⟨_,Heap.get?_push_size _ rfl,rfl,_,rfl⟩⟩
theorem zaF (h : PA X es t) : PE X (.List es pos) (tLst t):=by
 intro pins s σ H Q I hq
 refine wpAny_List_spliced (thn (h pos pins s σ H _ I hq) fun us s1 ⟨xs,H1,I1,r,z,q⟩=>⟨by rw [<- r.length]; exact z,?_⟩)
 have hf : H1 s1.heap.objs.size = none:=I1.hok.fresh (Nat.le_refl _)
 refine ⟨.ref s1.heap.objs.size,upd H1 s1.heap.objs.size (.lst xs),I1.laid (t':=s1.toks) (fun b u e=>Heap.get?_push_of_some _ e) (Nat.le_refl _) ?_,rfl,q _ hf⟩
 exact ⟨z,us,0,r,Heap.get?_push_size _ rfl⟩
end
abbrev Sp:=List V -> Hp -> VK -> XK -> Prop
abbrev CXT:=List Env -> Hp -> Shared -> XK -> Value -> Shared -> Prop
structure Env0 (P : Program) (w : World) (K : PySem.W.Frag) (mg : Str -> Option Value) (base : Heap) (A : Around) (outer : List Env) (s : Shared) (H : Hp) : Prop where
 frames : A.frames = some outer
 mod : Mod K mg base
 bs : ∀ b o,base.get? b = some o -> s.heap.get? b = some o /\ H b = none
 bsz : base.objs.size <= s.heap.objs.size
 funs : s.heap.FunFrames base outer
 frf : ∀ b ∈ frs outer,H b = none
 hok : HOk P w H s.heap
 bare : AllBare s.gens
def CE (outer : List Env) (P : Program) (w : World) (H : Hp) (s : Shared) (Q : VK) (u : Value) (s' : Shared) : Prop :=
 ∃ v H',s'.os = s.os /\ AllBare s'.gens /\ Un (frs outer) [] H H' s.heap s'.heap /\ HOk P w H' s'.heap /\ RelV v u /\ Q v H'
def CR (CX : CXT) (outer : List Env) (P : Program) (w : World) (H : Hp) (s : Shared) (Q : VK) (E : XK) (r : Result) (s' : Shared) : Prop :=
 match r with
 | .ok (.ret u)=>CE outer P w H s Q u s'
 | .ok _=>False
 | .error e=>CX outer H s E e s'
structure FnOk (P : Program) (w : World) (K : PySem.W.Frag) (mg : Str -> Option Value) (base : Heap) (CX : CXT) (k : Nat) (f : Addr) (fd : FuncData) (ps : List Str) (sp : Sp) : Prop where
 len : ∀ vs H Q E,sp vs H Q E -> vs.length = ps.length
 run : ∀ (A : Around) (outer : List Env) (s : Shared) (H : Hp) (args : Args) (us : List Value) (vs : List V) (Q : VK) (E : XK),Room k A -> Env0 P w K mg base A outer s H -> BindsTo s fd args (ps.zip us) -> Vals vs us -> sp vs H Q E ->
  codeAny (model P w) A (.call (.ref f) args) (CR CX outer P w H s Q E) s
theorem FnOk.mono {P : Program} {w : World} {K : PySem.W.Frag} {mg : Str -> Option Value} {base : Heap} {CX : CXT} {j k : Nat} {f : Addr} {fd : FuncData} {ps : List Str} {sp : Sp} (F : FnOk P w K mg base CX j f fd ps sp) (h : j <= k) :
 FnOk P w K mg base CX k f fd ps sp:=⟨F.len,fun A outer s H args us vs Q E hr=>F.run A outer s H args us vs Q E (hr.mono h)⟩
theorem Env0.make {P : Program} {w : World} {K : PySem.W.Frag} {mg : Str -> Option Value} {base : Heap} {A : Around} {outer : List Env} {s : Shared} {H : Hp} (e : Env0 P w K mg base A outer s H) (C : Addr) (us : List Value) (kw : List (Str × Value)) :
 Env0 P w K mg base (A.under (.builtin "type.__call__" ⟨.ref C :: us,kw⟩)) outer s H:=⟨by first | exact e.frames | (simpa [Around.under,Code.envs,Code.isFrame,pushEnvs] using e.frames),e.mod,e.bs,e.bsz,e.funs,e.frf,e.hok,e.bare⟩
section
variable {X : Cx} {pins : List (Addr × Obj)} {σ : St} {H : Hp} {s s' : Shared}
theorem Inv.env0 (I : Inv X pins σ H s) : Env0 X.prog X.w X.K X.mg X.base X.A X.stack s H :=
 ⟨I.ok.frames,I.ok.mod,I.bs,Nat.le_trans I.ok.bsz I.sz,I.stack,I.stkFree,I.hok,I.bare⟩
theorem Inv.after {Q : VK} {u : Value} (I : Inv X pins σ H s) (h : CE X.stack X.prog X.w H s Q u s') : EP X pins σ Q u s':=by
 obtain ⟨v,H',os,bare,un,hok,r,q⟩:=h
 obtain ⟨hh,g,d,t,os'⟩:=s'
 obtain rfl : os' = s.os:=os
 exact ⟨v,H',I.call (h':=hh) (g':=g) (d':=d) (t':=t) (ch:=[]) un hok bare (fun b z=>absurd z (by simp)),r,q⟩
end
def zlZ (sp : Sp) (dvs : List V) (E : XK) (t : TA) : TE:=fun σ H Q=>t σ H fun vs H1=>sp (vs ++ dvs) H1 Q E
def zdM (K : PySem.W.Frag) (fd : FuncData) (ps : List Str) (ds : List Value) : Prop :=
 ∀ (s : Shared) (us : List Value),K.In s.heap -> (us ++ ds).length = ps.length -> BindsTo s fd ⟨us,[]⟩ (ps.zip (us ++ ds))
theorem zdM.all {K : PySem.W.Frag} {fd : FuncData} {ps : List Str} (h : ∀ us : List Value,us.length = ps.length -> bindArgs fd ⟨us,[]⟩ = pure (ps.zip us)) : zdM K fd ps []:=fun s us _ hl=>by
 rw [List.append_nil] at hl ⊢
 exact .of_eq (h us hl)
def zkq (CX : CXT) (X : Cx) (E : XK) : Prop:=∀ (pins : List (Addr × Obj)) (σ : St) (H : Hp) (s : Shared) (e : Value) (s' : Shared),Inv X pins σ H s -> CX X.stack H s E e s' -> X.xe e s'
section
variable {X : Cx} {CX : CXT} {k : Nat} {f C : Addr} {fd : FuncData} {ps : List Str} {sp : Sp} {dvs : List V} {ds : List Value} {E : XK} {x m : Str} {p pos apos : Pos} {e o : Expr} {es : List Expr} {ta : TE} {t : TA}
theorem zke {pins : List (Addr × Obj)} {σ : St} {H : Hp} {s : Shared} {Q : VK} {us : List Value} {vs : List V} (F : FnOk X.prog X.w X.K X.mg X.base CX k f fd ps sp) (hr : Room k X.A) (hb : zdM X.K fd ps ds) (hd : Vals dvs ds) (hx : zkq CX X E)
 (I : Inv X pins σ H s) (r : Vals vs us) (h : sp (vs ++ dvs) H Q E) : wpAny (model X.prog X.w) X.A (call (.ref f) us) (EP X pins σ Q) X.xe s:=by
 have r2 : Vals (vs ++ dvs) (us ++ ds):=r.append hd
 have hl : (us ++ ds).length = ps.length:=by rw [<- r2.length]; exact F.len _ _ _ _ h
 refine wpAny_call (codeAny_mono (F.run X.A X.stack s H ⟨us,[]⟩ (us ++ ds) (vs ++ dvs) Q E hr I.env0 (hb s us I.kIn hl) r2 h) fun r s' hq=>?_)
 cases r with
 | error e=>exact hx pins σ H s e s' I hq
 | ok fl =>
   cases fl with
   | ret u=>exact I.after hq
   | next=>exact False.elim hq
   | brk=>exact False.elim hq
   | cont=>exact False.elim hq
theorem znL (F : FnOk X.prog X.w X.K X.mg X.base CX k f fd ps sp) (hr : Room k X.A) (hg : Gl X x) (hm : X.mg x = some (.ref f)) (hk : PySem.W.keepIn X.K (.ref f) = true) (hb : zdM X.K fd ps ds) (hd : Vals dvs ds) (hx : zkq CX X E)
 (ha : PA X (e :: es) t) (hdb : (x == ("__debug__" : Str)) = false:=by decide) (he : starEach (e :: es) X.env = (false,eval e X.env) :: starEach es X.env:=by rfl) (hpl : (backTo pos (starEach es X.env)).any (·.1) = false:=by rfl) :
 PE X (.Call (.Name x p) (e :: es) [] pos) (zlZ sp dvs E t):=by
 intro pins s σ H Q I h
 refine wpAny_Call_Name_kw (zcE I hg hm ?_ hdb)
 refine PySem.W.callWith_K (h₀:=X.base) I.ok.mod.kin hk (thn (ha pos pins s σ H _ I h) fun us s1 ⟨vs,H1,I1,r,q⟩=>⟨I1.kIn,?_⟩) he hpl
 exact zke F hr hb hd hx I1 r q
structure Mk (K : PySem.W.Frag) (C f : Addr) : Prop where
 makes : PySem.W.makesIn K C = true
 init : PySem.W.findIn K (.ref C) "__init__" = some (some (.ref f))
 fn : PySem.W.isFn K (.ref f) = true
 kp : PySem.W.keepIn K (.ref C) = true
end
section
variable {X : Cx} {CX : CXT} {k : Nat} {f C : Addr} {fd : FuncData} {ps ks : List Str} {sp : Sp} {E : XK} {x m : Str} {p pos apos kpos : Pos} {e o : Expr} {es : List Expr} {kws : List Keyword} {te ta : TE} {t tk : TA} {nm : Option Str}
variable {g : List Value -> List Value -> List Value} {gV : List V -> List V -> List V}
end
structure FnScope (N P : List Str) (sc : Scope) : Prop where
 kind : sc.kind = .function
 co : sc.isCoroutine = false
 gen : sc.isGenerator = false
 nd : N.Nodup
 pre : N.take P.length = P
 par : ∀ x ∈ P,sc.names.lookup x = some .local \/ sc.names.lookup x = some .cell
 nofree : ∀ y ∈ sc.names,y.2 ≠ .free
theorem zgE {kindOf : Str -> Option NameKind} {x : Str} : ∀ {binds : List (Str × Value)} {m : Str -> Option Value},(∀ v,(x,v) ∉ binds) -> bindL kindOf binds m x = m x
 | [],_,_=>rfl
 | (n,v) :: r,m,h=>by
   unfold bindL
   rw [zgE fun w hw=>h w (List.mem_cons_of_mem _ hw)]
   split
   ·have : x ≠ n:=by rintro rfl; exact h v List.mem_cons_self
    simp [this]
   ·rfl
theorem zgX {kindOf : Str -> Option NameKind} {x : Str} : ∀ {binds : List (Str × Value)} {m : Str -> Option Value},(∀ v,(x,v) ∉ binds) -> bindC kindOf binds m x = m x
 | [],_,_=>rfl
 | (n,v) :: r,m,h=>by
   unfold bindC
   rw [zgX fun w hw=>h w (List.mem_cons_of_mem _ hw)]
   split
   ·rfl
   ·have : x ≠ n:=by rintro rfl; exact h v List.mem_cons_self
    simp [this]
theorem zhl {kindOf : Str -> Option NameKind} {x : Str} {v : Value} : ∀ {P : List Str} {vs : List Value} {i : Nat} {m : Str -> Option Value},P.Nodup -> P[i]? = some x -> vs[i]? = some v -> kindOf x = some .local ->
 bindL kindOf (P.zip vs) m x = some v
 | [],_,_,_,_,h,_,_=>by simp at h
 | _ :: _,[],_,_,_,_,h,_=>by simp at h
 | p :: P,w :: vs,0,m,nd,h1,h2,hk=>by
   simp at h1 h2; subst h1; subst h2
   show bindL kindOf ((p,w) :: P.zip vs) m p = _
   unfold bindL
   rw [zgE fun v hv=>(List.nodup_cons.mp nd).1 (List.of_mem_zip hv).1,if_pos hk]
   simp
 | p :: P,w :: vs,i + 1,m,nd,h1,h2,hk=>by
   show bindL kindOf ((p,w) :: P.zip vs) m x = _
   unfold bindL
   exact zhl (i:=i) (List.nodup_cons.mp nd).2 (by simpa using h1) (by simpa using h2) hk
theorem zgS {kindOf : Str -> Option NameKind} {x : Str} {v : Value} : ∀ {P : List Str} {vs : List Value} {i : Nat} {m : Str -> Option Value},P.Nodup -> P[i]? = some x -> vs[i]? = some v -> kindOf x ≠ some .local ->
 bindC kindOf (P.zip vs) m x = some v
 | [],_,_,_,_,h,_,_=>by simp at h
 | _ :: _,[],_,_,_,_,h,_=>by simp at h
 | p :: P,w :: vs,0,m,nd,h1,h2,hk=>by
   simp at h1 h2; subst h1; subst h2
   show bindC kindOf ((p,w) :: P.zip vs) m p = _
   unfold bindC
   rw [zgX fun v hv=>(List.nodup_cons.mp nd).1 (List.of_mem_zip hv).1,if_neg hk]
   simp
 | p :: P,w :: vs,i + 1,m,nd,h1,h2,hk=>by
   show bindC kindOf ((p,w) :: P.zip vs) m x = _
   unfold bindC
   exact zgS (i:=i) (List.nodup_cons.mp nd).2 (by simpa using h1) (by simpa using h2) hk
def start (N : List Str) (vs : List V) : St:=vs.map some ++ List.replicate (N.length - vs.length) none
def cxOf (CX : CXT) (P : Program) (w : World) (K : PySem.W.Frag) (mg : Str -> Option Value) (base : Heap) (N : List Str) (qual : Str) (scope : Scope) (f : Addr) (cd : Value) (A : Around) (outer : List Env) (s : Shared) (H : Hp) (E : XK) : Cx where
 prog:=P
 w:=w
 K:=K
 mg:=mg
 base:=base
 A:=A.deeper (envOfC qual scope s.heap.objs.size f cd)
 N:=N
 s₀:=s
 H₀:=H
 env:=envOfC qual scope s.heap.objs.size f cd
 outer:=outer
 stack:=envOfC qual scope s.heap.objs.size f cd :: outer
 ex:=[]
 calm:=true
 fn:=fun _=>true
 pn:=[]
 xe:=fun e s'=>wpAny (model P w) (A.deeper (envOfC qual scope s.heap.objs.size f cd)) (leaving (envOfC qual scope s.heap.objs.size f cd) e) (fun _ s''=>CX outer H s E e s'') (fun e' s''=>CX outer H s E e' s'') s'
theorem zdP {sc : Scope} {n : Nat} {x : Str} (h : sc.names.lookup x = some .cell) : ∃ c,(cellsFrom n sc.names []).lookup x = some c:=by
 have q:=PySem.W.cellsFrom_some sc.names n [] (.inl h)
 exact Option.isSome_iff_exists.mp q
theorem zgo {CX : CXT} {P : Program} {w : World} {K : PySem.W.Frag} {mg : Str -> Option Value} {base : Heap} {N ps : List Str} {qual : Str} {scope : Scope} {f : Addr} {cd : Value} {A : Around} {outer : List Env} {s s1 : Shared} {H : Hp} {E : XK} {us : List Value} {vs : List V}
 (S : FnScope N ps scope) (hd : A.handled = none) (e0 : Env0 P w K mg base A outer s H) (hl : vs.length = ps.length) (r : Vals vs us)
 (x : InCallC s s.heap.objs.size (bindL (envOfC qual scope s.heap.objs.size f cd).kindOf (ps.zip us) fun _=>none) (cellsFrom (s.heap.objs.size + 1) scope.names []) (bindC (envOfC qual scope s.heap.objs.size f cd).kindOf (ps.zip us) fun _=>none) s1) :
 Inv (cxOf CX P w K mg base N qual scope f cd A outer s H E) [] (start N vs) H s1:=by
 have hpl : ps.length <= N.length:=by have:=congrArg List.length S.pre; rw [List.length_take] at this; omega
 obtain ⟨h1,tk,rfl,hk⟩:=x.done
 have noA : ∀ b : Addr,b ∉ (cxOf CX P w K mg base N qual scope f cd A outer s H E).ex:=fun b z=>absurd (show b ∈ ([] : List Addr) from z) (by simp)
 refine ⟨⟨e0.mod,S.kind,rfl,rfl,Nat.le_refl _,fun y z c h1 h2=>?_,fun y hy=>?_,fun y c _ h=>?_,fun _=>hd,Around.frames_deeper e0.frames,.inr ⟨rfl,rfl⟩,fun b z=>absurd z (noA b),e0.bs,e0.bsz,fun b _ _=>noA b,fun b z=>absurd z (noA b),e0.funs,e0.frf⟩,
  rfl,e0.bare,Un.kept hk,⟨_,x.toInCall.ns,fun i y v h1 h2 h3=>?_⟩,fun y c h=>⟨_,x.cell y c h⟩,e0.hok.fresh (Nat.le_refl _),fun y c h=>?_,fun p hp=>absurd (show p ∈ ([] : List (Addr × Obj)) from hp) (by simp),e0.hok.kept hk,?_⟩
 ·exact name_of_addr x.apart (PySem.mem_of_lookup h1) (PySem.mem_of_lookup h2)
 ·have hy : scope.names.lookup y = some .cell \/ scope.names.lookup y = some .free:=hy
  rcases hy with hy | hy
  ·exact zdP hy
  ·exact absurd rfl (S.nofree _ (PySem.mem_of_lookup hy))
 ·exact Nat.le_of_lt (x.above y c (PySem.mem_of_lookup h))
 ·have hi : i < vs.length:=by
   unfold start at h2
   by_cases hi : i < vs.length
   ·exact hi
   ·rw [List.getElem?_append_right (by simpa using hi)] at h2
    rw [List.getElem?_replicate] at h2
    split at h2 <;> cases h2
  have ha : vs[i]? = some v:=by
   unfold start at h2
   rw [List.getElem?_append_left (by simpa using hi),List.getElem?_map] at h2
   cases e : vs[i]? with
   | none=>rw [e] at h2; cases h2
   | some a=>rw [e] at h2; cases h2; rfl
  obtain ⟨u,hu,rv⟩:=r.get ha
  have hp : ps[i]? = some y:=by
   rw [<- S.pre,List.getElem?_take_of_lt (by omega)]; exact h1
  have ndP : ps.Nodup:=by rw [<- S.pre]; exact S.nd.sublist (List.take_sublist _ _)
  refine ⟨u,rv,?_⟩
  rcases S.par y (List.mem_of_getElem? hp) with k | k
  ·exact .inl ⟨k,zhl ndP hp hu k⟩
  ·obtain ⟨c,e⟩:=zdP (n:=s.heap.objs.size + 1) k
   refine .inr ⟨.inl k,c,e,?_⟩
   have q:=x.cell y c e
   rw [zgS ndP hp hu (by show scope.names.lookup y ≠ _; rw [k]; decide)] at q
   exact q
 ·exact e0.hok.fresh (Nat.le_of_lt (x.above y c (PySem.mem_of_lookup h)))
 ·unfold start
  show _ = N.length
  rw [List.length_append,List.length_map,List.length_replicate]
  omega
theorem zmp {CX : CXT} {P : Program} {w : World} {K : PySem.W.Frag} {mg : Str -> Option Value} {base : Heap} {k : Nat} {f : Addr} {name qual : Str} {params : Arguments} {body : List Stmt} {scope : Scope} {dV kV doc pm cdv ct oc : Value} {an od : Option Addr}
 {osl : Array (Option Value)} {N ps : List Str} {sp : Sp} (lk : K.lookup f = some ⟨oc,od,.func (PySem.W.fnOf name qual params body scope dV kV doc pm an cdv ct),osl⟩) (hcd : PySem.W.codeIn K cdv qual = true) (S : FnScope N ps scope)
 (len : ∀ vs H Q E,sp vs H Q E -> vs.length = ps.length)
 (hbody : ∀ (A : Around) (outer : List Env) (s : Shared) (H : Hp) (vs : List V) (Q : VK) (E : XK),Room k (A.deeper (envOfC qual scope s.heap.objs.size f cdv)) -> sp vs H Q E ->
   ∃ t,PSs (cxOf CX P w K mg base N qual scope f cdv A outer s H E) body t /\ t { nx:=fun _ H'=>Q .non H',rt:=Q } (start N vs) H) :
 FnOk P w K mg base CX (k + 1) f (PySem.W.fnOf name qual params body scope dV kV doc pm an cdv ct) ps sp:=by
 refine ⟨len,fun A outer s H args us vs Q E hr e0 hb r hsp=>?_⟩
 have hl:=len _ _ _ _ hsp
 have KX : K.In s.heap:=e0.mod.kin.keeps fun b o e=>(e0.bs b o e).1
 have lim : s.heap.NoLimit:=e0.mod.nolimit.keeps fun b o e=>(e0.bs b o e).1
 have hkind : ∀ y ∈ ps.zip us,scope.names.lookup y.1 = some .local \/ (scope.names.lookup y.1 = some .cell /\ ((cellsFrom (s.heap.objs.size + 1) scope.names []).lookup y.1).isSome = true):=fun ⟨n,v⟩ hy=>by
  rcases S.par n (List.of_mem_zip hy).1 with q | q
  ·exact .inl q
  ·exact .inr ⟨q,PySem.W.cellsFrom_some _ _ _ (.inl q)⟩
 refine codeAny_call_function hr.depth (KX _ _ lk) rfl S.co S.gen rfl (PySem.W.codeRec_of KX hcd) (hb _ _ _ _ ?_)
 refine wpAny_newFunctionEnv_cells S.kind hkind fun env he s1 x=>?_
 subst he
 refine ⟨lim.keeps x.toInCall.keep,codeAny_func ?_⟩
 obtain ⟨t,ht,hq⟩:=hbody A outer s H vs Q E (hr.deeper _) hsp
 have I : Inv (cxOf CX P w K mg base N qual scope f cdv A outer s H E) [] (start N vs) H s1:=zgo S hr.hd e0 hl r x
 refine wpAny_mono (ht [] s1 (start N vs) H _ I hq) (fun fl s' hs=>?_) fun e s' hs=>hs
 have fin : ∀ {σ' : St} {H' : Hp} {v : V} {u : Value},Inv (cxOf CX P w K mg base N qual scope f cdv A outer s H E) [] σ' H' s' -> RelV v u -> Q v H' -> CE outer P w H s Q u s' :=
  fun {σ' H' v u} J rv q=>⟨v,H',J.os,J.bare,J.base,J.hok,rv,q⟩
 cases fl with
 | ret u =>
   obtain ⟨v,σ',H',J,rv,q⟩:=hs
   exact fin J rv q
 | next =>
   obtain ⟨σ',H',J,q⟩:=hs
   exact fin (v:=V.non) (u:=Value.none) J rfl q
 | brk =>
   obtain ⟨_,_,_,q⟩:=hs
   exact False.elim q
 | cont =>
   obtain ⟨_,_,_,q⟩:=hs
   exact False.elim q
end L2
namespace L2
open PySem PySem.Spec PyProof.Rows
section
variable {X : Cx} {x : Str} {p pos : Pos} {e : Expr} {es : List Expr} {t : TA} {id T : String} {r : List V -> Hp -> VK -> Prop}
def tCB (r : List V -> Hp -> VK -> Prop) (t : TA) : TE:=fun σ H Q=>t σ H fun vs H1=>r vs H1 Q
theorem zaG (hc : zdh X (.builtin id) r) (hg : Gl X x) (hm : X.mg x = none) (hv : bootBuiltins x = some (.builtin id)) (ha : PA X (e :: es) t) (hn : x ≠ "__name__":=by decide) (hdb : (x == ("__debug__" : Str)) = false:=by decide)
 (he : starEach (e :: es) X.env = (false,eval e X.env) :: starEach es X.env:=by rfl) (hpl : (backTo pos (starEach es X.env)).any (·.1) = false:=by rfl) : PE X (.Call (.Name x p) (e :: es) [] pos) (tCB r t):=by
 intro pins s σ H Q I h
 refine wpAny_Call_Name_kw (zfz I hg hm hv ?_ hn hdb)
 exact PyProof.Rows.callWith_builtin1 (thn (ha pos pins s σ H _ I h) fun us s1 ⟨vs,H1,I1,r1,q1⟩=>hc pins s1 σ H1 vs us Q I1 r1 q1) he hpl
theorem zec (hc : zdh X (.type T) r) (hg : Gl X x) (hm : X.mg x = none) (hv : bootBuiltins x = some (.type T)) (ha : PA X (e :: es) t) (hn : x ≠ "__name__":=by decide) (hdb : (x == ("__debug__" : Str)) = false:=by decide)
 (he : starEach (e :: es) X.env = (false,eval e X.env) :: starEach es X.env:=by rfl) (hpl : (backTo pos (starEach es X.env)).any (·.1) = false:=by rfl) : PE X (.Call (.Name x p) (e :: es) [] pos) (tCB r t):=by
 intro pins s σ H Q I h
 refine wpAny_Call_Name_kw (zfz I hg hm hv ?_ hn hdb)
 exact PyProof.Rows.callWith_type1 (thn (ha pos pins s σ H _ I h) fun us s1 ⟨vs,H1,I1,r1,q1⟩=>hc pins s1 σ H1 vs us Q I1 r1 q1) he hpl
end
end L2
namespace HT
open PySem PyProof.Rows
def zbz : List Int -> List Int -> Bool
 | [],[]=>false
 | [],_ :: _=>true
 | _ :: _,[]=>false
 | x :: xs,y :: ys=>if x = y then zbz xs ys else decide (x < y)
theorem zcK (x y : Int) (xs ys : List Int) : zbz (x :: xs) (y :: ys) = if x = y then zbz xs ys else decide (x < y):=rfl
theorem zmb (A : Around) (s : Shared) (a : Int) (t : Tok) (c : Int) (u : Tok) (prog : Program) (w : World) (E : Value -> Shared -> Prop) (Q : Value -> Shared -> Prop) (h : Q (.bool (decide (a < c))) s) :
 wpAny (model prog w) A (richCompare .Lt (.int a t) (.int c u)) Q E s :=
 (PyProof.Rows.lt_int h : wpAny (model prog w) A (compareOp .Lt (.int a t) (.int c u)) Q E s)
section
open PySem.SeqAt
open PySem.AutoSeq1 (wpAny_loadPart')
open PySem.MeetsSeq PySem.MeetsSeq2 PySem.MeetsSeq3
end
section
variable {prog : Program} {w : World} {A : Around} {E : Value -> Shared -> Prop} {s : Shared}
def sIx (n d : Nat) : Option Int -> Nat
 | none=>d
 | some v=>if v < 0 then (v + (n : Int)).toNat else min v.toNat n
theorem zkZ (n d k : Nat) : sIx n d (some (k : Int)) = min k n:=by
 show (if (k : Int) < 0 then ((k : Int) + (n : Int)).toNat else min (k : Int).toNat n) = min k n
 rw [if_neg (by omega),Int.toNat_natCast]
end
end HT
namespace L2
open PySem PySem.Spec PyProof.Rows
abbrev TO:=St -> Hp -> (Option Int -> Hp -> Prop) -> Prop
def PO (X : Cx) (e : Option Expr) (t : TO) : Prop :=
 ∀ (pins : List (Addr × Obj)) (s : Shared) (σ : St) (H : Hp) (Q : Option Int -> Hp -> Prop),Inv X pins σ H s -> t σ H Q ->
  wpAny (model X.prog X.w) X.A (evalPart e X.env) (fun u s'=>∃ o H',Inv X pins σ H' s' /\ IsPart u o /\ Q o H') X.xe s
def znG : TO:=fun _ H Q=>Q none H
def ztJ (t : TE) : TO:=fun σ H Q=>t σ H fun x H1=>∃ i,x = .int i /\ Q (some i) H1
theorem zjj {ns : List Int} : ∀ {us : List Value},Vals (ns.map V.int) us -> IntsAre us ns:=by
 induction ns with
 | nil=>intro us r; rw [List.map_nil] at r; cases r; exact .nil
 | cons n ns ih =>
   intro us r
   rw [List.map_cons] at r
   cases r with
   | cons r1 r2 =>
     obtain ⟨t,e⟩:=r1
     subst e
     exact .cons n t (ih r2)
section
variable {X : Cx} {e : Expr} {te : TE} {lo hi : Option Expr} {tl th : TO} {pos p2 : Pos}
theorem zdc : PO X none znG:=by
 intro pins s σ H Q I h
 rw [evalPart_none]
 exact wpAny_pure ⟨none,H,I,.none,h⟩
theorem zbN (h : PE X e te) : PO X (some e) (ztJ te):=by
 intro pins s σ H Q I hw
 rw [evalPart_some]
 refine thn (h pins s σ H _ I hw) fun u s1 ⟨x,H1,I1,r1,q1⟩=>?_
 obtain ⟨i,rfl,q⟩:=q1
 obtain ⟨t,rfl⟩:=r1
 exact ⟨some i,H1,I1,.int i t,q⟩
def SlR (X : Cx) (r : V -> Option Int -> Option Int -> Hp -> VK -> Prop) : Prop :=
 ∀ (pins : List (Addr × Obj)) (s : Shared) (σ : St) (H : Hp) (x : V) (v vl vu : Value) (lo hi : Option Int) (sl : Addr) (Q : VK),Inv X pins σ H s -> RelV x v -> s.heap.IsSliceOf sl vl vu .none -> IsPart vl lo -> IsPart vu hi -> r x lo hi H Q ->
  ∃ T id,typeLookup (.type T) "__getitem__" = pure (some (.builtin id)) /\ s.TypeIs v T /\ wpAny (model X.prog X.w) X.A (getItem v (.ref sl)) (EP X pins σ Q) X.xe s
theorem SlR.or {r r' : V -> Option Int -> Option Int -> Hp -> VK -> Prop} (h : SlR X r) (h' : SlR X r') : SlR X (fun x lo hi H Q=>r x lo hi H Q \/ r' x lo hi H Q):=by
 intro pins s σ H x v vl vu lo hi sl Q I rx hs pl pu q
 rcases q with q | q
 ·exact h pins s σ H x v vl vu lo hi sl Q I rx hs pl pu q
 ·exact h' pins s σ H x v vl vu lo hi sl Q I rx hs pl pu q
def tSl (r : V -> Option Int -> Option Int -> Hp -> VK -> Prop) (te : TE) (tl th : TO) : TE:=fun σ H Q=>te σ H fun x H1=>tl σ H1 fun l H2=>th σ H2 fun u H3=>r x l u H3 Q
theorem zbI {r : V -> Option Int -> Option Int -> Hp -> VK -> Prop} (hr : SlR X r) (he : PE X e te) (hl : PO X lo tl) (hu : PO X hi th) : PE X (.Subscript e (.Slice lo hi none p2) pos) (tSl r te tl th):=by
 intro pins s σ H Q I h
 refine Subscript_ (thn (he pins s σ H _ I h) fun v s1 ⟨x,H1,I1,r1,q1⟩=>?_)
 refine wpAny_Slice (thn (hl pins s1 σ H1 _ I1 q1) fun vl s2 ⟨l,H2,I2,pl,q2⟩=>thn (hu pins s2 σ H2 _ I2 q2) fun vu s3 ⟨u,H3,I3,pu,q3⟩=>?_)
 rw [evalPart_none]
 refine wpAny_pure ?_
 have I4 : Inv X pins σ H3 { s3 with heap:=s3.heap.push { cls:=.type "slice",data:=.fields #[vl,vu,.none] } }:=I3.kept (t':=s3.toks) fun b ob q=>Heap.get?_push_of_some _ q
 obtain ⟨T,id,hT,ht,hg⟩:=hr pins { s3 with heap:=s3.heap.push { cls:=.type "slice",data:=.fields #[vl,vu,.none] } } σ H3 x v vl vu l u s3.heap.objs.size Q I4 r1 (Heap.IsSliceOf.new ..) pl pu q3
 show wpAny (model X.prog X.w) X.A (subscriptTail e (.Slice lo hi none p2) v (.ref s3.heap.objs.size)) (EP X pins σ Q) X.xe { s3 with heap:=s3.heap.push { cls:=.type "slice",data:=.fields #[vl,vu,.none] } }
 exact tail_any (ops:=[.ref s3.heap.objs.size,v]) ht hT hg (by with_unfolding_all rfl)
def cutV (xs : List V) (lo hi : Option Int) : List V:=(xs.drop (HT.sIx xs.length 0 lo)).take (HT.sIx xs.length xs.length hi - HT.sIx xs.length 0 lo)
theorem zhV (xs : List V) (lo hi : Option Int) : (cutV xs lo hi).length <= xs.length:=by
 unfold cutV
 rw [List.length_take,List.length_drop]
 omega
end
end L2
namespace L2
open PySem PySem.Spec PyProof.Rows
def ixN (n : Nat) (i : Int) : Option Nat:=if 0 <= i then (if i < n then some i.toNat else none) else if -(n : Int) <= i then some (i + n).toNat else none
def atI {α : Type} (xs : List α) (i : Int) : Option α:=(ixN xs.length i).bind fun j=>xs[j]?
theorem zkv {n : Nat} {i : Int} {j : Nat} (h : ixN n i = some j) : seqIndex? i n = some j /\ j < n /\ -(n : Int) <= i /\ i < n:=by
 unfold ixN at h
 by_cases h0 : 0 <= i
 ·rw [if_pos h0] at h
  by_cases h1 : i < n
  ·rw [if_pos h1] at h
   have e : i.toNat = j:=Option.some.inj h
   exact ⟨by rw [seqIndex_of h0 h1,e],by omega,by omega,h1⟩
  ·rw [if_neg h1] at h; cases h
 ·rw [if_neg h0] at h
  by_cases h1 : -(n : Int) <= i
  ·rw [if_pos h1] at h
   have e : (i + n).toNat = j:=Option.some.inj h
   exact ⟨by rw [seqIndex_neg (by omega) h1,e],by omega,h1,by omega⟩
  ·rw [if_neg h1] at h; cases h
theorem zhZ {α : Type} {xs : List α} {i : Int} {v : α} (h : atI xs i = some v) : ∃ j,seqIndex? i xs.length = some j /\ xs[j]? = some v /\ j < xs.length /\ -(xs.length : Int) <= i /\ i < xs.length:=by
 unfold atI at h
 cases e : ixN xs.length i with
 | none=>rw [e] at h; cases h
 | some j =>
   rw [e] at h
   obtain ⟨h1,h2,h3,h4⟩:=zkv e
   exact ⟨j,h1,h,h2,h3,h4⟩
theorem zbi {α : Type} {xs : List α} {j : Nat} {v : α} (h : xs[j]? = some v) : atI xs (j : Int) = some v:=by
 have hj : j < xs.length:=(List.getElem?_eq_some_iff.mp h).1
 have e : ixN xs.length (j : Int) = some j:=by
  unfold ixN
  rw [if_pos (by omega),if_pos (by omega)]; simp
 unfold atI; rw [e]; exact h
def zmW (b : Expr) : Prop:=∀ o i,subscripted b false o i = operate [o,i] (getItem o i)
def IxR (X : Cx) (r : R2) : Prop :=
 ∀ (value slice : Expr) (pins : List (Addr × Obj)) (s : Shared) (σ : St) (H : Hp) (x y : V) (v u : Value) (Q : VK),Inv X pins σ H s -> RelV x v -> RelV y u -> r x y H Q ->
  subscripted slice false v u = operate [v,u] (getItem v u) -> wpAny (model X.prog X.w) X.A (subscriptTail value slice v u) (EP X pins σ Q) X.xe s
def MtR (X : Cx) (id : String) (r : V -> List V -> Hp -> VK -> Prop) : Prop :=
 ∀ (pins : List (Addr × Obj)) (s : Shared) (σ : St) (H : Hp) (x : V) (xs : List V) (v : Value) (us : List Value) (Q : VK),Inv X pins σ H s -> RelV x v -> Vals xs us -> r x xs H Q ->
  wpAny (model X.prog X.w) X.A (call (.builtin id) (v :: us)) (EP X pins σ Q) X.xe s
section
variable {X : Cx} {a b : Expr} {ta tb : TE} {pos : Pos}
theorem IxR.or {r r' : R2} (h : IxR X r) (h' : IxR X r') : IxR X (fun x y H Q=>r x y H Q \/ r' x y H Q):=by
 intro value slice pins s σ H x y v u Q I rx ry q hs
 rcases q with q | q
 ·exact h value slice pins s σ H x y v u Q I rx ry q hs
 ·exact h' value slice pins s σ H x y v u Q I rx ry q hs
theorem MtR.or {id : String} {r r' : V -> List V -> Hp -> VK -> Prop} (h : MtR X id r) (h' : MtR X id r') : MtR X id (fun x xs H Q=>r x xs H Q \/ r' x xs H Q):=by
 intro pins s σ H x xs v us Q I rx rs q
 rcases q with q | q
 ·exact h pins s σ H x xs v us Q I rx rs q
 ·exact h' pins s σ H x xs v us Q I rx rs q
theorem zbE {r : R2} (hr : IxR X r) (ha : PE X a ta) (hb : PE X b tb) (hs : zmW b) : PE X (.Subscript a b pos) (tOp r ta tb):=by
 intro pins s σ H Q I h
 exact Subscript_ (binT ha hb I h fun v u s2 x y H2 I2 rx ry q=>hr a b pins s2 σ H2 x y v u Q I2 rx ry q (hs _ _))
def rIxL (K : PySem.W.Frag) : R2:=fun x y H Q=>∃ p xs i v,x = .ref p /\ y = .int i /\ SqL K H p xs /\ atI xs i = some v /\ Q v H
def rIxT (K : PySem.W.Frag) : R2:=fun x y H Q=>∃ p xs i v,x = .ref p /\ y = .int i /\ SqT K H p xs /\ atI xs i = some v /\ Q v H
def rIxS : R2:=fun x y H Q=>∃ z i c,x = .str z /\ y = .int i /\ z.length <= sizeLine /\ atI z.cps.toList i = some c /\ Q (.str ⟨#[c]⟩) H
theorem znv : IxR X (rIxL X.K):=by
 intro value slice pins s σ H x y v u Q I rx ry h hs
 obtain ⟨p,xs,i,z,rfl,rfl,hq,he,q⟩:=h
 cases rx
 obtain ⟨t,rfl⟩:=ry
 obtain ⟨its,r,pl,hz⟩:=I.list hq
 obtain ⟨j,h1,h2,h3,h4,h5⟩:=zhZ he
 obtain ⟨w,ew,rw'⟩:=r.get h2
 have hl:=r.length
 have hn:=zfd
 have fin : EP X pins σ Q w s:=⟨z,H,I,rw',q⟩
 by_cases h0 : 0 <= i
 ·have hj : i.toNat = j:=by
   rw [seqIndex_of h0 h5] at h1
   exact Option.some.inj h1
  exact item_listR pl.isList h0 (by omega) (by rw [hj]; simpa using ew) fin hs
 ·have hj : (i + (its.toArray.size : Int)).toNat = j:=by
   rw [seqIndex_neg (by omega) h4] at h1
   rw [List.size_toArray,<- hl]
   exact Option.some.inj h1
  exact subscriptTail_builtinR (x:=w) pl.isList.typeIs slot_list_getitem.lookup
   (wpAny_getItem_list_neg (Q:=fun r s'=>r = w /\ EP X pins σ Q r s') pl.isList (by omega) (by rw [List.size_toArray] <;> omega) (by omega) (by rw [hj]; simpa using ew) ⟨rfl,fin⟩) hs
theorem zmL : IxR X (rIxT X.K):=by
 intro value slice pins s σ H x y v u Q I rx ry h hs
 obtain ⟨p,xs,i,z,rfl,rfl,hq,he,q⟩:=h
 cases rx
 obtain ⟨t,rfl⟩:=ry
 obtain ⟨its,r,pl,hz⟩:=I.tuple hq
 obtain ⟨j,h1,h2,h3,h4,h5⟩:=zhZ he
 obtain ⟨w,ew,rw'⟩:=r.get h2
 have hl:=r.length
 have hn:=zfd
 have fin : EP X pins σ Q w s:=⟨z,H,I,rw',q⟩
 exact subscriptTail_builtinR (x:=w) pl.typeIs slot_tuple_getitem.lookup
  (getItem_tuple (j:=j) (Q:=fun r s'=>r = w /\ EP X pins σ Q r s') pl (by omega) (by omega) (by rw [List.size_toArray,<- hl]; exact h1) (by simpa using ew) ⟨rfl,fin⟩) hs
theorem zdq : IxR X rIxS:=by
 intro value slice pins s σ H x y v u Q I rx ry h hs
 obtain ⟨z,i,c,rfl,rfl,hz,he,q⟩:=h
 obtain ⟨t,rfl⟩:=rx
 obtain ⟨t',rfl⟩:=ry
 obtain ⟨j,h1,h2,h3,h4,h5⟩:=zhZ he
 have hl : z.cps.toList.length = z.length:=by simp [Str.length]
 rw [hl] at h1 h4 h5
 have hn:=zfd
 exact tail_any (typeIs_str s z t) slot_str_getitem.lookup (getItem_str (c:=c) (by
  have e1 : decide (i < -(2 ^ 63 : Int)) = false:=decide_eq_false (by omega)
  have e2 : decide (i ≥ 2 ^ 63) = false:=decide_eq_false (by omega)
  rw [e1,e2,Bool.or_false]) (by rw [h1]; simpa using h2) ⟨.str ⟨#[c]⟩,H,I.tok _,⟨_,rfl⟩,q⟩) hs
theorem zjI (its : List Value) (n j : Nat) (u : Value) : Obj.mapSeq (·.setIfInBounds j u) { cls:=.type "list",data:=.seq its.toArray n } = { cls:=.type "list",data:=.seq (its.set j u).toArray n }:=by
 simp [Obj.mapSeq]
theorem Inv.lst {pins : List (Addr × Obj)} {σ : St} {H : Hp} {s : Shared} {p : Addr} {xs : List V} (I : Inv X pins σ H s) (h : H p = some (.lst xs)) :
 ∃ (its : List Value) (n : Nat),Vals xs its /\ s.heap.get? p = some { cls:=.type "list",data:=.seq its.toArray n } /\ xs.length <= sizeLine:=by
 obtain ⟨z,its,n,r,e⟩:=I.hok p _ h
 exact ⟨its,n,r,e,z⟩
theorem Inv.lstUpd {pins : List (Addr × Obj)} {σ : St} {H : Hp} {s : Shared} {p : Addr} {xs ys : List V} {its its' : List Value} {n n' : Nat} {f : Obj -> Obj} (I : Inv X pins σ H s) (h : H p = some (.lst xs))
 (ho : s.heap.get? p = some { cls:=.type "list",data:=.seq its.toArray n }) (hf : f { cls:=.type "list",data:=.seq its.toArray n } = { cls:=.type "list",data:=.seq its'.toArray n' }) (r : Vals ys its') (hz : ys.length <= sizeLine) (t : Nat) :
 Inv X pins σ (upd H p (.lst ys)) { s with heap:=s.heap.update p f,toks:=t }:=by
 have e : (s.heap.update p f).get? p = some { cls:=.type "list",data:=.seq its'.toArray n' }:=by
  rw [Heap.get?_update_self f ho (by rw [hf] <;> rfl),hf]
 refine I.write (x:=p) (e:=p) (by rw [h]; trivial) (.inl rfl) (fun b u hb q=>(Heap.get?_update_other _ _ (Ne.symm hb)).trans q) ⟨_,e⟩ ?_
 exact ⟨hz,its',n',r,e⟩
def ztP : V -> V -> V -> Hp -> (Hp -> Prop) -> Prop:=fun o i v H Q=>∃ p xs k j,o = .ref p /\ i = .int k /\ H p = some (.lst xs) /\ ixN xs.length k = some j /\ Q (upd H p (.lst (xs.set j v)))
theorem zfO : PSet X ztP:=by
 intro pins s σ H o i v ov iv u Q I ro ri rv h
 obtain ⟨p,xs,k,j,rfl,rfl,hp,hj,q⟩:=h
 cases ro
 obtain ⟨t,rfl⟩:=ri
 obtain ⟨its,n,r,ho,hz⟩:=I.lst hp
 obtain ⟨h1,h2,h3,h4⟩:=zkv hj
 have hl:=r.length
 have hn:=zfd
 have I' : Inv X pins σ (upd H p (.lst (xs.set j v))) { s with heap:=s.heap.update p (Obj.mapSeq (·.setIfInBounds j u)) } :=
  I.lstUpd hp ho (zjI its n j u) (r.set rv j) (by rw [List.length_set]; exact hz) s.toks
 by_cases h0 : 0 <= k
 ·have hk : k.toNat = j:=by
   rw [seqIndex_of h0 h4] at h1
   exact Option.some.inj h1
  exact PySem.W.ki_setAt ho h0 (by omega) (by rw [List.size_toArray,<- hl]; exact h4) (by rw [hk]; exact ⟨_,I',q⟩)
 ·have hk : (k + (its.toArray.size : Int)).toNat = j:=by
   rw [seqIndex_neg (by omega) h3] at h1
   rw [List.size_toArray,<- hl]
   exact Option.some.inj h1
  exact PySem.W.ki_setBack ho (by omega) (by rw [List.size_toArray,<- hl]; exact h3) (by omega) (by rw [hk]; exact ⟨_,I',q⟩)
theorem zgG (lo hi : Option Int) (n : Nat) : (sliceBounds lo hi none n).1 = ((HT.sIx n 0 lo : Nat) : Int) /\ (sliceBounds lo hi none n).2.1 = ((HT.sIx n n hi : Nat) : Int) /\ (sliceBounds lo hi none n).2.2 = 1:=by
 refine ⟨?_,?_,rfl⟩
 ·cases lo with
  | none=>simp [sliceBounds,HT.sIx]
  | some i =>
    simp only [sliceBounds,HT.sIx,Option.getD_none,show (1 : Int) > 0 by decide,if_true]
    by_cases h : i < 0
    ·simp only [h,if_true] <;> omega
    ·simp only [h,if_false] <;> omega
 ·cases hi with
  | none=>simp [sliceBounds,HT.sIx]
  | some i =>
    simp only [sliceBounds,HT.sIx,Option.getD_none,show (1 : Int) > 0 by decide,if_true]
    by_cases h : i < 0
    ·simp only [h,if_true] <;> omega
    ·simp only [h,if_false] <;> omega
theorem zfB (its : List Value) (lo hi : Option Int) : slicePick its.toArray lo hi none = ((its.drop (HT.sIx its.length 0 lo)).take (HT.sIx its.length its.length hi - HT.sIx its.length 0 lo)).toArray:=by
 obtain ⟨h1,h2,h3⟩:=zgG lo hi its.toArray.size
 unfold slicePick
 rw [h1,h2,h3]
 simp only [sliceRange_one,pick_run,List.size_toArray] <;> rfl
def rSlL (K : PySem.W.Frag) : V -> Option Int -> Option Int -> Hp -> VK -> Prop:=fun x lo hi H Q=>∃ a xs,x = .ref a /\ SqL K H a xs /\ ∀ p,H p = none -> Q (.ref p) (upd H p (.lst (cutV xs lo hi)))
theorem zno : SlR X (rSlL X.K):=by
 intro pins s σ H x v vl vu lo hi sl Q I rx hs pl pu h
 obtain ⟨a,xs,rfl,hx,q⟩:=h
 cases rx
 obtain ⟨its,r,ht,hz⟩:=I.list hx
 have hlen:=r.length
 refine ⟨"list",_,slot_list_getitem.lookup,ht.isList.typeIs,?_⟩
 refine wpAny_getItem_list_slice ht.isList hs pl pu .none (by simp) ?_ (by rw [List.size_toArray] <;> omega)
 rw [zfB,<- hlen]
 refine ⟨.ref s.heap.objs.size,_,I.laid (t':=s.toks) (o:=.lst (cutV xs lo hi)) (fun b ob q=>Heap.get?_push_of_some _ q) (Nat.le_refl _) ?_,rfl,q _ (I.hok.fresh (Nat.le_refl _))⟩
 exact ⟨Nat.le_trans (zhV xs lo hi) hz,_,0,(r.drop (HT.sIx xs.length 0 lo)).take (HT.sIx xs.length xs.length hi - HT.sIx xs.length 0 lo),Heap.get?_push_size _ rfl⟩
def zfZ : V -> Bool
 | .non=>true
 | .bl _=>true
 | .int _=>true
 | .str _=>true
 | _=>false
def eqV : V -> V -> Bool
 | .non,.non=>true
 | .bl a,.bl b=>a == b
 | .bl a,.int b=>(if a then 1 else 0) == b
 | .int a,.bl b=>a == (if b then 1 else 0)
 | .int a,.int b=>a == b
 | .str a,.str b=>a == b
 | _,_=>false
theorem zsP {A : Around} {s : Shared} {y x : V} {u v : Value} (ry : RelV y u) (rx : RelV x v) (fy : zfZ y = true) (fx : zfZ x = true) : SeqAt.EqAt A s u v (eqV y x):=by
 cases y with
 | non =>
   cases ry
   cases x with
   | non=>cases rx; exact SeqAt.EqAt.same _
   | bl b=>cases rx; exact SeqAt.EqAt.none_bool b
   | int b=>obtain ⟨t,rfl⟩:=rx; exact SeqAt.EqAt.none_int b t
   | str b=>obtain ⟨t,rfl⟩:=rx; exact SeqAt.EqAt.none_str b t
   | _=>exact absurd (show false = true from fx) Bool.false_ne_true
 | bl a =>
   cases ry
   cases x with
   | non=>cases rx; exact SeqAt.EqAt.bool_none a
   | bl b=>cases rx; exact SeqAt.EqAt.bool_bool a b
   | int b=>obtain ⟨t,rfl⟩:=rx; exact SeqAt.EqAt.bool_int a b t
   | str b=>obtain ⟨t,rfl⟩:=rx; exact SeqAt.EqAt.bool_str a b t
   | _=>exact absurd (show false = true from fx) Bool.false_ne_true
 | int a =>
   obtain ⟨t',rfl⟩:=ry
   cases x with
   | non=>cases rx; exact SeqAt.EqAt.int_none a t'
   | bl b=>cases rx; exact SeqAt.EqAt.int_bool a t' b
   | int b=>obtain ⟨t,rfl⟩:=rx; exact SeqAt.EqAt.int_int a t' b t
   | str b=>obtain ⟨t,rfl⟩:=rx; exact SeqAt.EqAt.int_str a t' b t
   | _=>exact absurd (show false = true from fx) Bool.false_ne_true
 | str a =>
   obtain ⟨t',rfl⟩:=ry
   cases x with
   | non=>cases rx; exact SeqAt.EqAt.str_none a t'
   | bl b=>cases rx; exact SeqAt.EqAt.str_bool a t' b
   | int b=>obtain ⟨t,rfl⟩:=rx; exact SeqAt.EqAt.str_int a t' b t
   | str b=>obtain ⟨t,rfl⟩:=rx; exact SeqAt.EqAt.str_str a t' b t
   | _=>exact absurd (show false = true from fx) Bool.false_ne_true
 | _=>exact absurd (show false = true from fy) Bool.false_ne_true
def eqU (x : V) (u : Value) : Bool:=match u with
 | .none=>eqV .non x
 | .bool b=>eqV (.bl b) x
 | .int i _=>eqV (.int i) x
 | .str z _=>eqV (.str z) x
 | _=>false
theorem zmR {x y : V} {u : Value} (r : RelV y u) (f : zfZ y = true) : eqU x u = eqV y x:=by
 cases y with
 | non=>cases r; rfl
 | bl b=>cases r; rfl
 | int i=>obtain ⟨t,rfl⟩:=r; rfl
 | str z=>obtain ⟨t,rfl⟩:=r; rfl
 | _=>exact absurd (show false = true from f) Bool.false_ne_true
theorem zic {x : V} : ∀ {xs : List V} {us : List Value},Vals xs us -> xs.all zfZ = true -> us.any (eqU x) = xs.any fun y=>eqV y x
 | _,_,.nil,_=>rfl
 | y :: xs,u :: us,.cons r t,f=>by
   rw [List.all_cons,Bool.and_eq_true] at f
   rw [List.any_cons,List.any_cons,zmR r f.1,zic t f.2]
theorem zgh {A : Around} {s : Shared} {x : V} {v : Value} (rx : RelV x v) (fx : zfZ x = true) : ∀ {xs : List V} {us : List Value},Vals xs us -> xs.all zfZ = true -> ∀ u ∈ us,SeqAt.EqAt A s u v (eqU x u)
 | _,_,.nil,_=>fun u hu=>by cases hu
 | y :: xs,u :: us,.cons r t,f=>fun u' hu=>by
   rw [List.all_cons,Bool.and_eq_true] at f
   rcases List.mem_cons.mp hu with rfl | hu
   ·rw [zmR r f.1]; exact zsP r rx f.1 fx
   ·exact zgh rx fx t f.2 u' hu
def inV (x : V) (xs : List V) : Bool:=xs.any fun y=>eqV y x
def rIn (K : PySem.W.Frag) (neg : Bool) : R2:=fun x y H Q=>∃ p xs,y = .ref p /\ (SqL K H p xs \/ SqT K H p xs) /\ zfZ x = true /\ xs.all zfZ = true /\ Q (.bl (if neg then !inV x xs else inV x xs)) H
theorem zkk : OpR X (compareOp .In) (rIn X.K false):=by
 intro pins s σ H x y v u Q I rx ry h
 obtain ⟨p,xs,rfl,hq,fx,fs,q⟩:=h
 cases ry
 rcases hq with hq | hq
 ·obtain ⟨its,r,pl,hz⟩:=I.list hq
  refine SeqAt.in_listAt (eqU x) pl.isList (fun w hw=>zgh rx fx r fs w (by simpa using hw)) ⟨.bl _,H,I,rfl,?_⟩
  rw [show its.toArray.any (eqU x) = its.any (eqU x) by simp,zic r fs]
  exact q
 ·obtain ⟨its,r,pl,hz⟩:=I.tuple hq
  refine SeqAt.in_tupleAt (eqU x) pl (fun w hw=>zgh rx fx r fs w (by simpa using hw)) ⟨.bl _,H,I,rfl,?_⟩
  rw [show its.toArray.any (eqU x) = its.any (eqU x) by simp,zic r fs]
  exact q
theorem zgv : zdh X (.builtin "len") (fun xs H Q=>∃ p ys,xs = [.ref p] /\ (SqL X.K H p ys \/ SqT X.K H p ys) /\ Q (.int ys.length) H):=by
 intro pins s σ H xs us Q I r h
 obtain ⟨p,ys,rfl,hq,q⟩:=h
 obtain ⟨u,rfl,rx⟩:=zfa r
 cases rx
 have hn:=zfd
 rcases hq with hq | hq
 ·obtain ⟨its,r',pl,hz⟩:=I.list hq
  have hlen:=r'.length
  exact Calls.call_len_list pl.isList (by simp only [List.size_toArray] <;> omega) ⟨.int ys.length,H,I.tok _,⟨s.toks + 1,by rw [List.size_toArray,hlen]⟩,q⟩
 ·obtain ⟨its,r',pl,hz⟩:=I.tuple hq
  have hlen:=r'.length
  exact len_tuple pl (by simp only [List.size_toArray] <;> omega) ⟨.int ys.length,H,I.tok _,⟨s.toks + 1,by rw [List.size_toArray,hlen]⟩,q⟩
theorem zbF : zdh X (.builtin "len") (fun xs H Q=>∃ z,xs = [.str z] /\ z.length <= sizeLine /\ Q (.int z.length) H):=by
 intro pins s σ H xs us Q I r h
 obtain ⟨z,rfl,hz,q⟩:=h
 obtain ⟨u,rfl,t,rfl⟩:=zfa r
 have hn:=zfd
 exact len_str (by omega) ⟨.int z.length,H,I.tok _,⟨_,rfl⟩,q⟩
theorem zdh.or {f : Value} {r r' : List V -> Hp -> VK -> Prop} (h : zdh X f r) (h' : zdh X f r') : zdh X f (fun xs H Q=>r xs H Q \/ r' xs H Q):=by
 intro pins s σ H xs us Q I rs q
 rcases q with q | q
 ·exact h pins s σ H xs us Q I rs q
 ·exact h' pins s σ H xs us Q I rs q
theorem zgP : zdh X (.type "list") (fun xs H Q=>∃ p ys,xs = [.ref p] /\ (SqL X.K H p ys \/ SqT X.K H p ys) /\ ∀ l,H l = none -> Q (.ref l) (upd H l (.lst ys))):=by
 intro pins s σ H xs us Q I r h
 obtain ⟨p,ys,rfl,hq,q⟩:=h
 obtain ⟨u,rfl,rx⟩:=zfa r
 cases rx
 have fin : ∀ (its : List Value),Vals ys its -> ys.length <= sizeLine -> ∀ (h' : Heap) (c' : Nat),(∀ b o',s.heap.get? b = some o' -> h'.get? b = some o') ->
  h'.get? s.heap.objs.size = some { cls:=.type "list",dict:=none,data:=.seq its.toArray c',slots:=#[] } -> EP X pins σ Q (.ref s.heap.objs.size) { s with heap:=h' }:=fun its r' hz h' c' kp e =>
  ⟨.ref s.heap.objs.size,_,I.laid (t':=s.toks) kp (Nat.le_refl _) (show zdb X.prog X.w _ h' _ (.lst ys) from ⟨hz,its,c',r',e⟩),rfl,q _ (I.hok.fresh (Nat.le_refl _))⟩
 rcases hq with hq | hq
 ·obtain ⟨its,r',pl,hz⟩:=I.list hq
  have hlen:=r'.length
  obtain ⟨o,ho,hc,n,hd⟩:=pl.isList
  exact call_list_seq p (.inl rfl) ho hc hd (fun h' c' kp e=>fin its r' hz h' c' kp e) (by simp only [List.size_toArray] <;> omega)
 ·obtain ⟨its,r',pl,hz⟩:=I.tuple hq
  have hlen:=r'.length
  obtain ⟨o,ho,hc,n,hd⟩:=pl
  exact call_list_seq p (.inr rfl) ho hc hd (fun h' c' kp e=>fin its r' hz h' c' kp e) (by simp only [List.size_toArray] <;> omega)
def tyV (K : PySem.W.Frag) (T : String) (x : V) (H : Hp) : Prop:=match x with
 | .str _=>T = "str"
 | .int _=>T = "int"
 | .ref p=>(T = "list" /\ ∃ xs,SqL K H p xs) \/ (T = "tuple" /\ ∃ o,K.lookup p = some o /\ o.cls = .type "tuple" /\ o.dict = none) \/
    (T = "dict" /\ ((∃ kvs,H p = some (.dK kvs)) \/ ∃ kvs,H p = some (.dT kvs))) \/ (T = "set" /\ ∃ S n,H p = some (.set S n))
 | _=>False
theorem zqn {pins : List (Addr × Obj)} {σ : St} {H : Hp} {s : Shared} {T : String} {x : V} {v : Value} (I : Inv X pins σ H s) (r : RelV x v) (ty : tyV X.K T x H) :
 s.TypeIs v T /\ ∀ a,v = .ref a -> ∃ ob,s.heap.get? a = some ob /\ ob.dict = none:=by
 cases x with
 | str z =>
   obtain ⟨t,rfl⟩:=r
   cases (show T = "str" from ty)
   exact ⟨typeIs_str s z t,fun _ e=>nomatch e⟩
 | int i =>
   obtain ⟨t,rfl⟩:=r
   cases (show T = "int" from ty)
   exact ⟨typeIs_int s i t,fun _ e=>nomatch e⟩
 | ref p =>
   cases r
   rcases ty with ⟨rfl,xs,hq⟩ | ⟨rfl,o,hk,hc,hd⟩ | ⟨rfl,hk⟩ | ⟨rfl,S,n,hk⟩
   ·obtain ⟨its,_,pl,_⟩:=I.list hq
    refine ⟨pl.isList.typeIs,fun a e=>?_⟩
    cases e
    obtain ⟨o,n,e,c,hd,_⟩:=pl
    exact ⟨o,e,hd⟩
   ·refine ⟨⟨o,I.kIn p o hk,hc⟩,fun a e=>?_⟩
    cases e
    exact ⟨o,I.kIn _ o hk,hd⟩
   ·have z : ∃ o,s.heap.get? p = some o /\ o.ExactDict:=by
     rcases hk with ⟨kvs,hk⟩ | ⟨kvs,hk⟩
     ·obtain ⟨_,_,_,_,o,_,_,e,ex,_⟩:=I.hok p _ hk
      exact ⟨o,e,ex⟩
     ·obtain ⟨_,_,_,_,o,_,_,e,ex,_⟩:=I.hok p _ hk
      exact ⟨o,e,ex⟩
    obtain ⟨o,e,ex⟩:=z
    refine ⟨⟨o,e,ex.1⟩,fun a e2=>?_⟩
    cases e2
    exact ⟨o,e,ex.2.1⟩
   ·obtain ⟨o,_,_,_,e,ex,_⟩:=I.hok p _ hk
    refine ⟨⟨o,e,ex.1⟩,fun a e2=>?_⟩
    cases e2
    exact ⟨o,e,ex.2.1⟩
 | _=>exact False.elim ty
def tBM (K : PySem.W.Frag) (T : String) (r : V -> List V -> Hp -> VK -> Prop) (to : TE) (t : TA) : TE:=fun σ H Q=>to σ H fun x H1=>tyV K T x H1 /\ t σ H1 fun xs H2=>r x xs H2 Q
variable {o e : Expr} {es : List Expr} {to : TE} {t : TA} {name : Str} {apos cpos : Pos} {T id : String} {r : V -> List V -> Hp -> VK -> Prop}
theorem zuw (pa : PlainAttrs T) (slot : Slot T name id) (hty : typeOf (.builtin id) = pure (.type "method_descriptor")) (hm : MtR X id r) (ho : PE X o to) (ha : PA X (e :: es) t)
 (hbase : attributeBase o name X.env (eval o X.env) = eval o X.env:=by rfl)
 (hfew : ((backTo cpos (starEach (e :: es) X.env)).all (fun x=>!x.1) && (backToKw cpos (keywordEach [] X.env)).all (fun x=>x.1.isSome)
   && decide ((e :: es).length + ([] : List Keyword).length + (if ([] : List Keyword).isEmpty then 0 else 1) < 30)) = true:=by rfl)
 (hline : (apos.endLine == cpos.line) = true:=by rfl) (hs : starEach (e :: es) X.env = (false,eval e X.env) :: starEach es X.env:=by rfl) (hplain : (backTo cpos (starEach es X.env)).any (·.1) = false:=by rfl) :
 PE X (.Call (.Attribute o name apos) (e :: es) [] cpos) (tBM X.K T r to t):=by
 intro pins s σ H Q I h
 refine wpAny_Call_method_late hbase hfew hline rfl (thn (ho pins s σ H _ I h) fun v s1 ⟨x,H1,I1,r1,ty,q1⟩=>?_)
 obtain ⟨h1,h2⟩:=zqn I1 r1 ty
 refine ⟨T,id,pa,slot,hty,h1,h2,?_⟩
 have hA:=ha cpos pins s1 σ H1 _ I1 q1
 rw [hs] at hA ⊢
 refine Calls.callWith_builtin (by show (false || (backTo cpos (starEach es X.env)).any (·.1)) = false; rw [hplain] <;> rfl) (Calls.evalArgs_plain ?_)
 exact thn hA fun us s2 ⟨vs,H2,I2,r2,q2⟩=>hm pins s2 σ H2 x vs v us Q I2 r1 r2 q2
end
end L2
namespace L2
open PySem PySem.Spec PyProof.Rows
def MtM (X : Cx) (id : String) (r : V -> List V -> Hp -> VK -> Prop) : Prop :=
 ∀ (pins : List (Addr × Obj)) (s : Shared) (σ : St) (H : Hp) (x : V) (xs : List V) (v : Value) (us : List Value) (Q : VK),Inv X pins σ H s -> RelV x v -> Vals xs us -> r x xs H Q ->
  wpAny (model X.prog X.w) X.A (call (.builtin id) (v :: us)) (EP X pins σ Q) X.xe s
theorem Vals.one : ∀ {x : V} {us : List Value},Vals [x] us -> ∃ u,us = [u] /\ RelV x u
 | _,_,.cons r .nil=>⟨_,rfl,r⟩
theorem Vals.two : ∀ {x y : V} {us : List Value},Vals [x,y] us -> ∃ u v,us = [u,v] /\ RelV x u /\ RelV y v
 | _,_,_,.cons r (.cons q .nil)=>⟨_,_,rfl,r,q⟩
theorem Vals.zero : ∀ {us : List Value},Vals [] us -> us = []
 | _,.nil=>rfl
theorem Vals.eraseIdx : ∀ {xs : List V} {us : List Value} (i : Nat),Vals xs us -> Vals (xs.eraseIdx i) (us.eraseIdx i)
 | _,_,_,.nil=>.nil
 | _,_,0,.cons _ t=>t
 | _,_,i + 1,.cons r t=>.cons r (Vals.eraseIdx i t)
theorem Vals.rep {xs : List V} {us : List Value} (h : Vals xs us) : ∀ k : Nat,Vals (List.replicate k xs).flatten (List.replicate k us).flatten
 | 0=>.nil
 | k + 1=>by
   rw [List.replicate_succ,List.replicate_succ,List.flatten_cons,List.flatten_cons]
   exact Vals.append h (Vals.rep h k)
theorem zgq {α : Type} : ∀ (l : List α) (i : Nat),(l.eraseIdx i).length <= l.length
 | [],_=>Nat.le_refl _
 | _ :: _,0=>Nat.le_succ _
 | _ :: r,i + 1=>Nat.succ_le_succ (zgq r i)
theorem zhm (its : List Value) : ∀ (k : Nat) (acc : List Value),
 List.foldl (fun x1 x2=>x1 ++ x2) acc.toArray (List.replicate k its.toArray) = (acc ++ (List.replicate k its).flatten).toArray
 | 0,acc=>by simp
 | k + 1,acc=>by
   have e : acc.toArray ++ its.toArray = (acc ++ its).toArray:=by simp
   have e2 : (acc ++ its) ++ (List.replicate k its).flatten = acc ++ (List.replicate (k + 1) its).flatten:=by
    rw [List.replicate_succ,List.flatten_cons,List.append_assoc]
   rw [<- e2,<- zhm its k (acc ++ its),<- e,List.replicate_succ,List.foldl_cons]
section
variable {X : Cx} {pins : List (Addr × Obj)} {σ : St} {H : Hp} {s : Shared} {l b : Addr} {xs ys zs : List V}
theorem Inv.lset {its its' : List Value} {n : Nat} {f : Array Value -> Array Value} {t' : Nat} (I : Inv X pins σ H s) (hH : H l = some (.lst xs))
 (e : s.heap.get? l = some { cls:=.type "list",data:=.seq its.toArray n }) (hf : f its.toArray = its'.toArray) (hv : Vals ys its') (hz : ys.length <= sizeLine) :
 Inv X pins σ (upd H l (.lst ys)) { s with heap:=s.heap.update l (Obj.mapSeq f),toks:=t' }:=by
 have q:=PySem.IsL.update e f
 rw [hf] at q
 refine I.write (x:=l) (e:=l) (by rw [hH]; exact trivial) (.inl rfl) (fun b' u hb hu=>(Heap.get?_update_other s.heap (Obj.mapSeq f) (Ne.symm hb)).trans hu) ⟨_,q⟩ ?_
 exact ⟨hz,its',_,hv,q⟩
theorem Inv.lnew {its : List Value} {t' : Nat} (I : Inv X pins σ H s) (hv : Vals ys its) (hz : ys.length <= sizeLine) :
 Inv X pins σ (upd H s.heap.objs.size (.lst ys)) { s with heap:=s.heap.push { cls:=.type "list",data:=.seq its.toArray },toks:=t' } :=
 I.laid (fun _ _ q=>Heap.get?_push_of_some _ q) (Nat.le_refl _) ⟨hz,its,0,hv,Heap.get?_push_size _ rfl⟩
theorem Inv.fresh (I : Inv X pins σ H s) : H s.heap.objs.size = none:=I.hok.fresh (Nat.le_refl _)
theorem Inv.lstM (I : Inv X pins σ H s) (hH : H l = some (.lst xs)) : xs.length <= sizeLine /\ ∃ (its : List Value) (n : Nat),Vals xs its /\ xs.length = its.length /\ s.heap.get? l = some { cls:=.type "list",data:=.seq its.toArray n }:=by
 obtain ⟨z,its,n,r,e⟩:=I.hok l _ hH
 exact ⟨z,its,n,r,r.length,e⟩
theorem ziR {n : Nat} (h : n <= sizeLine) : Builtin.List.listTooLong n = false:=by
 unfold Builtin.List.listTooLong
 exact decide_eq_false (by omega)
end
section
variable {X : Cx}
def rAppend : V -> List V -> Hp -> VK -> Prop:=fun x vs H Q=>∃ l xs y,x = .ref l /\ vs = [y] /\ H l = some (.lst xs) /\ xs.length < sizeLine /\ Q .non (upd H l (.lst (xs ++ [y])))
theorem zbn : MtM X "list.append" rAppend:=by
 intro pins s σ H x vs v us Q I rx rv h
 obtain ⟨l,xs,y,rfl,rfl,hH,hz,q⟩:=h
 cases rx
 obtain ⟨u,rfl,ru⟩:=rv.one
 obtain ⟨z,its,n,r,hl,e⟩:=I.lstM hH
 refine call_meets F.slot_list_append ⟨_,e,rfl⟩ F.entry_list_append (F.args_list_append_2 _ _) (PySem.list_append l its.toArray n u (by rw [List.size_toArray]; omega)) ⟨e,?_⟩
 refine ⟨.non,_,I.lset (its':=its ++ [u]) hH e (by simp) (r.append (.cons ru .nil)) ?_,rfl,q⟩
 rw [List.length_append,List.length_singleton]
 omega
def rExtend : V -> List V -> Hp -> VK -> Prop:=fun x vs H Q=>∃ l b xs zs,x = .ref l /\ vs = [.ref b] /\ H l = some (.lst xs) /\ H b = some (.lst zs) /\ xs.length + zs.length <= sizeLine /\ Q .non (upd H l (.lst (xs ++ zs)))
theorem zkW : MtM X "list.extend" rExtend:=by
 intro pins s σ H x vs v us Q I rx rv h
 obtain ⟨l,b,xs,zs,rfl,rfl,hH,hB,hz,q⟩:=h
 cases rx
 obtain ⟨u,rfl,ru⟩:=rv.one
 cases ru
 obtain ⟨z,its,n,r,hl,e⟩:=I.lstM hH
 obtain ⟨z2,its2,n2,r2,hl2,e2⟩:=I.lstM hB
 have hsz : its.toArray.size + its2.toArray.size <= sizeLine:=by rw [List.size_toArray,List.size_toArray]; omega
 have hlong : ¬ (!its.toArray.isEmpty && Builtin.List.listTooLong (its.toArray.size + its2.toArray.size)) = true:=by
  rw [ziR hsz,Bool.and_false]
  exact Bool.false_ne_true
 refine call_meets F.slot_list_extend ⟨_,e,rfl⟩ F.entry_list_extend (F.args_list_extend_2 _ _)
  (AutoSeq1.list_extend_list_list_0 l its.toArray n b its2.toArray n2 hlong (by rw [List.size_toArray]; omega) (by omega)) ⟨e,e2,?_⟩
 refine ⟨.non,_,I.lset (its':=its ++ its2) hH e (by simp) (r.append r2) ?_,rfl,q⟩
 rw [List.length_append]
 omega
def rPopAt : V -> List V -> Hp -> VK -> Prop:=fun x vs H Q=>∃ l xs i k y,x = .ref l /\ vs = [.int i] /\ H l = some (.lst xs) /\ -(2 ^ 63) <= i /\ i < 2 ^ 63 /\ seqIndex? i xs.length = some k /\ xs[k]? = some y /\ Q y (upd H l (.lst (xs.eraseIdx k)))
theorem ziD : MtM X "list.pop" rPopAt:=by
 intro pins s σ H x vs v us Q I rx rv h
 obtain ⟨l,xs,i,k,y,rfl,rfl,hH,h1,h2,hk,hy,q⟩:=h
 cases rx
 obtain ⟨u,rfl,ru⟩:=rv.one
 obtain ⟨t,rfl⟩:=ru
 obtain ⟨z,its,n,r,hl,e⟩:=I.lstM hH
 obtain ⟨w,hw,rw'⟩:=r.get hy
 refine call_meets F.slot_list_pop ⟨_,e,rfl⟩ F.entry_list_pop (F.args_list_pop_2 _ _)
  (MeetsSeq.list_pop_at l its.toArray n i t k w (fitsIndex_both h1 h2) (by rw [List.size_toArray,<- hl]; exact hk) (by rw [<- Array.getElem?_toList]; exact hw) (by rw [List.size_toArray]; omega)) ⟨e,?_⟩
 refine ⟨y,_,I.lset (its':=its.eraseIdx k) hH e ?_ (r.eraseIdx k) ?_,rw',q⟩
 ·show its.toArray.eraseIdxIfInBounds k = (its.eraseIdx k).toArray
  rw [List.eraseIdxIfInBounds_toArray]
 ·have:=zgq xs k
  omega
def rCat : R2:=fun x y H Q=>∃ l b xs zs,x = .ref l /\ y = .ref b /\ H l = some (.lst xs) /\ H b = some (.lst zs) /\ xs.length + zs.length <= sizeLine /\ ∀ p,H p = none -> Q (.ref p) (upd H p (.lst (xs ++ zs)))
theorem zrn : OpR X (binaryOp .Add) rCat:=by
 intro pins s σ H x y v u Q I rx ry h
 obtain ⟨l,b,xs,zs,rfl,rfl,hH,hB,hz,q⟩:=h
 cases rx
 cases ry
 obtain ⟨z,its,n,r,hl,e⟩:=I.lstM hH
 obtain ⟨z2,its2,n2,r2,hl2,e2⟩:=I.lstM hB
 refine PySem.P.add_list e e2 ?_ (by rw [List.size_toArray,List.size_toArray]; omega)
 have ea : its.toArray ++ its2.toArray = (its ++ its2).toArray:=by simp
 rw [ea]
 exact ⟨.ref _,_,I.lnew (t':=s.toks) (r.append r2) (by rw [List.length_append]; omega),rfl,q _ I.fresh⟩
def rRep : R2:=fun x y H Q=>∃ l k xs,x = .ref l /\ y = .int k /\ H l = some (.lst xs) /\ -(2 ^ 63) <= k /\ k < 2 ^ 63 /\ xs.length * k.toNat <= sizeLine /\
 ∀ p,H p = none -> Q (.ref p) (upd H p (.lst (List.replicate k.toNat xs).flatten))
theorem znu {α : Type} (xs : List α) (k : Nat) : (List.replicate k xs).flatten.length = k * xs.length:=by
 induction k with
 | zero=>simp
 | succ k ih=>rw [List.replicate_succ,List.flatten_cons,List.length_append,ih,Nat.succ_mul,Nat.add_comm]
theorem zlr : OpR X (binaryOp .Mult) rRep:=by
 intro pins s σ H x y v u Q I rx ry h
 obtain ⟨l,k,xs,rfl,rfl,hH,h1,h2,hz,q⟩:=h
 cases rx
 obtain ⟨t,rfl⟩:=ry
 obtain ⟨z,its,n,r,hl,e⟩:=I.lstM hH
 have hlen : its.toArray.size * k.toNat <= sizeLine:=by rw [List.size_toArray,<- hl]; exact hz
 have hcap : ¬ its.toArray.size * k.toNat > (2 ^ 63 - 1) / 8:=by
  have : (sizeLine : Nat) <= (2 ^ 63 - 1) / 8:=by decide
  omega
 have hfit : ¬ (!Builtin.List.listFitsIndex k) = true:=by
  rw [fitsIndex_both h1 h2]
  exact Bool.false_ne_true
 have hlong : ¬ Builtin.List.listTooLong (its.toArray.size * k.toNat) = true:=by
  rw [ziR hlen]
  exact Bool.false_ne_true
 have hnew : List.foldl (fun x1 x2=>x1 ++ x2) #[] (List.replicate (if its.toArray.isEmpty = true then 0 else k.toNat) its.toArray) = (List.replicate k.toNat its).flatten.toArray:=by
  have f0 : ∀ m : Nat,List.foldl (fun x1 x2=>x1 ++ x2) #[] (List.replicate m its.toArray) = (List.replicate m its).flatten.toArray:=fun m=>by
   have:=zhm its m []
   rw [List.nil_append] at this
   exact this
  rw [f0]
  cases its with
  | nil=>simp
  | cons a r'=>rw [if_neg (by simp)]
 refine wpAny_binaryOp_repeat_ref (T:="list") (U:="int") (by decide) ⟨_,e,rfl⟩ (fun s'=>typeIs_int s' k t) noFill_list_mul F.fills_int_mul F.slot_int_rmul repeat_list F.slot_int_index.lookup
  (call_meets F.slot_int_rmul (typeIs_int s k t) F.entry_int_rmul (F.args_int_rmul_2 _ _) (int___rmul___int_list k t l its.toArray n)
    ⟨e,rfl,⟨_,e,rfl⟩,call_meets F.slot_list_mul ⟨_,e,rfl⟩ F.entry_list_mul (F.args_list_mul_2 _ _) (AutoListH.list___mul___list_int_3 l its.toArray n k t hfit hcap hlong) ⟨e,?_⟩⟩)
 rw [hnew]
 exact ⟨.ref _,_,I.lnew (t':=s.toks) (r.rep k.toNat) (by rw [znu,Nat.mul_comm]; exact hz),rfl,q _ I.fresh⟩
end
section
variable {prog : Program} {w : World} {A : Around} {E : Value -> Shared -> Prop} {s : Shared}
set_option maxRecDepth 100000 in
end
section
variable {X : Cx}
end
end L2
namespace Att
open PySem PySem.W PySem.Calls PyProof.Rows
theorem zek {P : Params} {h : Heap} : ∀ (ns : List Int) (vs : List Value),WellAll P h vs (ns.map WData.int) -> IntsAre vs ns:=by
 intro ns
 induction ns with
 | nil =>
   intro vs w
   rw [List.map_nil] at w
   cases w
   exact .nil
 | cons n ns ih =>
   intro vs w
   rw [List.map_cons] at w
   cases w with
   | cons a b =>
     cases a
     exact .cons _ _ (ih _ b)
theorem zkm {l : OpenLaw} {n : Nat} (hn : l.most = some n) {P : Params} {h : Heap} {args : List WData} {vals : List Value}
 (hpre : l.row.toRowW.claim.pre args = true) (hwl : WellAll P h vals args) :
 ∃ a vs ns,vals = [Value.ref a] /\ args = [WData.list (ns.map WData.int)] /\ h.get? a = some { cls:=.type "list",data:=.seq vs.toArray } /\ IntsAre vs ns /\ ns.length <= n:=by
 have hsh : WShape.hasAll [] args [.list .int] = true:=(pre_splitW hpre).1
 have hc : l.pre.holds [] { args:=args } = true:=(pre_splitW hpre).2
 obtain ⟨d,r,rfl,h1,h2⟩:=hasAllW_cons hsh
 obtain rfl:=hasAllW_nil h2
 obtain ⟨xs,rfl,h3⟩:=hasW_list h1
 obtain ⟨ns,rfl⟩:=items_int h3
 have hlen : ns.length <= n:=by
  unfold OpenLaw.pre at hc
  have h4 : (WTm.not (.lt (.lit (.int (n : Int))) (.len (.arg 0)))).holds [] { args:=[.list (ns.map .int)] } = true:=by
   have h4:=(holds_andW hc).1
   rw [hn] at h4
   exact h4
  have h5:=condW_of h4 (w_not (w_lt w_lit (w_len_list (w_arg rfl))))
  rw [List.length_map] at h5
  refine Nat.le_of_not_lt fun q=>?_
  have q' : (n : Int) < ((ns.length : Nat) : Int):=by omega
  first
   | (rw [decide_eq_true q'] at h5; exact absurd h5 (by decide))
   | (simp at h5; omega)
 cases hwl with
 | cons w1 w2 =>
   cases w2
   cases w1 with
   | list ho hall=>exact ⟨_,_,ns,rfl,rfl,ho,zek ns _ hall,hlen⟩
theorem zlo (l : OpenLaw) (args : List WData) : l.row.toRowW.claim.post args (.bool true) args = true :=
 postW_of (r:=l.row.toRowW) (X:=(true == true))
  (show WShape.has [] (.bool true) .bool = true by first | rfl | decide | simp [WShape.has,WShape.arms,WShape.armsAll])
  (show (WTm.eq .res (.lit (.bool true))).value [] { args:=args,res:=some (.bool true),after:=args } = some (.bool (true == true)) from w_eq_bool (w_res rfl) w_lit) rfl
theorem zhH {l : OpenLaw} {n : Nat} {q : Program} {loose : List Str} {XP : (Str -> Option Value) -> Heap -> Prop} {YP : World -> Heap -> Prop} {d : DefRec}
 (hn : l.most = some n) (hdf : d.params.defaults = [])
 (call : ∀ (w : World) (s₀ s₁ : Shared) (mg mb : Str -> Option Value) (fa : Addr) (o : Obj) (pm cd doc : Value) (a : Addr) (vs : List Value) (ns : List Int),
   Ground q loose [] XP w s₀ mg mb s₁.heap -> YP w s₁.heap ->
   s₁.heap.get? fa = some o -> o.data = .func (docDef d.name d.params d.body d.scope pm cd doc) -> s₁.heap.CodeRec cd d.name -> mg d.name = some (.ref fa) ->
   s₁.heap.get? a = some { cls:=.type "list",data:=.seq vs.toArray } -> IntsAre vs ns -> ns.length <= n -> s₁.gens = #[] ->
   codeAny (model l.prog w) callerA (.call (.ref fa) ⟨[.ref a],[]⟩) (fun r s'=>r = .ok (.ret (.bool true)) /\ OldK s₁.heap s'.heap /\ s'.os = s₁.os /\ AllBare s'.gens) s₁) :
 WalkO q loose XP YP l.row.toRowW d [] (fun f vs=>PySem.call f vs):=by
 intro w s₀ s₁ mg mb G Y fa o pm cd doc dV kV ho hd hcd hD hmg hg args vals as hpre hlay hrd hwl hlo
 obtain rfl : dV = .none:=Dflts.none hD hdf
 obtain rfl : kV = .none:=Dflts.noKw hD
 obtain ⟨a,vs,ns,rfl,rfl,hobj,hints,hlen⟩:=zkm hn hpre hwl
 refine enter_call (codeAny_mono (call w s₀ s₁ mg mb fa o pm cd doc a vs ns G Y ho (fd_plain hd) hcd hmg hobj hints hlen hg) fun r s' hq=>?_)
 obtain ⟨rfl,h2,h3,h4⟩:=hq
 exact ⟨.inl ⟨.bool true,.bool true,[],rfl,fun _=>rfl,.bool true,zlo l _,fun _=>⟨List.Pairwise.nil,fun _ hm=>(nomatch hm)⟩⟩,h2,h3,h4⟩
section
variable {prog : Program} {w : World} {A : Around} {E : Value -> Shared -> Prop} {s : Shared} {K : Frag}
end
end Att
namespace L2
open PySem PySem.Spec PyProof.Rows
theorem zgA : ∀ {vs : List Value} {ns : List Int},IntsAre vs ns -> Vals (ns.map V.int) vs
 | _,_,.nil=>.nil
 | _,_,.cons n t h=>.cons ⟨t,rfl⟩ (zgA h)
def Only (H : Hp) : Prop:=∀ b,H b = none \/ ∃ o xs,H b = some (.frz o (.lst xs))
theorem zmf {P : Program} {w : World} {K : PySem.W.Frag} {mg mb : Str -> Option Value} {CX : CXT} {k : Nat} {fa a : Addr} {fd : FuncData} {x : Str} {sp : Sp} {s₁ : Shared} {vs : List Value} {ns : List Int}
 (KX : K.In s₁.heap) (hns : s₁.heap.Ns mainGlobals mg) (hb : s₁.heap.Ns builtinsNs mb) (hbb : ∀ x : Str,x ≠ "__name__" -> mb x = bootBuiltins x) (hlim : s₁.heap.NoLimit) (hg : s₁.gens = #[])
 (ha : s₁.heap.get? a = some { cls:=.type "list",data:=.seq vs.toArray }) (hi : IntsAre vs ns) (hl : ns.length <= sizeLine) (hr : Room k callerA)
 (F : ∀ base : Heap,K.In base -> base.Ns mainGlobals mg -> FnOk P w K mg base CX k fa fd [x] sp) (hbind : ∀ (s : Shared) (u : Value),BindsTo s fd ⟨[u],[]⟩ [(x,u)])
 (hsp : ∀ H : Hp,Only H -> SqL K H a (ns.map V.int) -> sp [.ref a] H (fun v _=>v = .bl true) fun _ _ _=>False)
 (hCX : ∀ H e s',CX [] H s₁ (fun _ _ _=>False) e s' -> False) :
 codeAny (model P w) callerA (.call (.ref fa) ⟨[.ref a],[]⟩) (fun r s'=>r = .ok (.ret (.bool true)) /\ OldK s₁.heap s'.heap /\ s'.os = s₁.os /\ AllBare s'.gens) s₁:=by
 have rv:=zgA hi
 have lenV:=hi.length
 have core : ∀ H : Hp,Only H -> SqL K H a (ns.map V.int) -> HOk P w H s₁.heap -> (∀ b,H b ≠ none -> b = a) -> (H a ≠ none -> K.lookup a = none) ->
  codeAny (model P w) callerA (.call (.ref fa) ⟨[.ref a],[]⟩) (fun r s'=>r = .ok (.ret (.bool true)) /\ OldK s₁.heap s'.heap /\ s'.os = s₁.os /\ AllBare s'.gens) s₁:=by
  intro H hO hS hok hA hK
  have base_of : ∀ {b : Addr} {o : Obj},s₁.heap.get? b = some o -> H b = none -> (hidT s₁.heap H).get? b = some o:=fun e n=>zmn e n
  have noA : ∀ {b : Addr} {o : Obj} {es : Array DictEntry} {ep : Nat},s₁.heap.get? b = some o -> o.data = .dict es ep -> H b = none:=fun {b o es ep} e d=>by
   cases q : H b with
   | none=>rfl
   | some u =>
     have e' : b = a:=hA b (by rw [q]; simp)
     subst e'
     rw [ha] at e; cases e
     have d' : Data.seq vs.toArray _ = Data.dict es ep:=d
     cases d'
  have nsK : ∀ {b : Addr} {m : Str -> Option Value},s₁.heap.Ns b m -> (hidT s₁.heap H).Ns b m:=fun {b m} ⟨o,es,ep,e,d,r⟩=>⟨o,es,ep,base_of e (noA e d),d,r⟩
  have hKb : K.In (hidT s₁.heap H):=fun b o e=>base_of (KX b o e) (by
   cases q : H b with
   | none=>rfl
   | some u =>
     have e' : b = a:=hA b (by rw [q]; simp)
     subst e'
     rw [hK (by rw [q]; simp)] at e; cases e)
  have hM : Mod K mg (hidT s₁.heap H):=⟨hKb,nsK hns,⟨mb,nsK hb,hbb⟩,let ⟨mc,h1,h2⟩:=hlim; ⟨mc,nsK h1,h2⟩⟩
  have e0 : Env0 P w K mg (hidT s₁.heap H) callerA [] s₁ H:=⟨rfl,hM,fun b o e=>zoc e,Nat.le_of_eq (zjX _ _),trivial,fun b hb=>absurd (show b ∈ ([] : List Addr) from hb) (by simp),hok,.of_eq hg⟩
  refine codeAny_mono ((F _ hKb (nsK hns)).run callerA [] s₁ H ⟨[.ref a],[]⟩ [.ref a] [.ref a] _ _ hr e0 (hbind s₁ (.ref a)) (.cons rfl .nil) (hsp H hO hS)) fun r s' h=>?_
  cases r with
  | error e=>exact (hCX H e s' h).elim
  | ok fl =>
    cases fl with
    | next=>exact False.elim h
    | brk=>exact False.elim h
    | cont=>exact False.elim h
    | ret u =>
      obtain ⟨v,H',os,bare,un,hok',r',q⟩:=h
      have q' : v = .bl true:=q
      subst q'
      obtain rfl : u = Value.bool true:=r'
      refine ⟨rfl,OldK.of_keep fun b o e=>?_,os,bare⟩
      cases q : H b with
      | none=>exact un.keep b o e q (by intro z; exact absurd (show b ∈ ([] : List Addr) from z) (by simp)) (by simp)
      | some u =>
        rcases hO b with z | ⟨ob,xs,z⟩
        ·rw [q] at z; cases z
        ·have z2:=un.frzs b ob _ z
         obtain ⟨e1,_⟩:=hok b _ z
         obtain ⟨e2,_⟩:=hok' b _ z2
         rw [e] at e1; cases e1
         exact e2
 cases hk : K.lookup a with
 | some o =>
   have e:=KX a o hk
   rw [ha] at e
   cases e
   refine core (fun _=>none) (fun _=>.inl rfl) (.inr ⟨_,vs.toArray,_,hk,rfl,rfl,rfl,by rw [List.size_toArray,lenV]; exact hl,by simpa using rv⟩) (fun b u z=>by have z' : (none : Option HO) = some u:=z; cases z') (fun b z=>absurd rfl z) fun z=>absurd rfl z
 | none =>
   refine core (fun b=>if b = a then some (.frz { cls:=.type "list",data:=.seq vs.toArray } (.lst (ns.map V.int))) else none) (fun b=>?_) (.inl (.inr ⟨{ cls:=.type "list",data:=.seq vs.toArray },if_pos rfl⟩)) (fun b u z=>?_) (fun b z=>?_) fun _=>hk
   ·by_cases hb : b = a
    ·exact .inr ⟨_,_,if_pos hb⟩
    ·exact .inl (if_neg hb)
   ·by_cases hb : b = a
    ·have z':=(if_pos hb).symm.trans z
     cases z'
     subst hb
     exact ⟨ha,by rw [List.length_map]; exact hl,vs,_,rv,ha⟩
    ·have z':=(if_neg hb).symm.trans z
     cases z'
   ·by_cases hb : b = a
    ·exact hb
    ·exact absurd (if_neg hb) z
end L2
namespace L2
open PySem PySem.Spec PyProof.Rows
abbrev KOf {K : PySem.W.Frag} {h : Heap} (_ : K.In h) : PySem.W.Frag:=K
theorem znY {l : PySem.W.OpenLaw} {n k : Nat} {q : Program} {loose : List Str} {XP : (Str -> Option Value) -> Heap -> Prop} {YP : World -> Heap -> Prop} {d : DefRec} {K : Params -> PySem.W.Frag} {CX : World -> CXT} {sp : World -> Sp} {x : Str}
 (hn : l.most = some n) (hn2 : n <= sizeLine) (hdf : d.params.defaults = []) (hr : Room k callerA)
 (hY : ∀ (w : World) (h : Heap),YP w h -> (K w.params).In h)
 (F : ∀ (w : World) (mg : Str -> Option Value) (fa : Addr) (h : Heap),(K w.params).In h -> h.Ns mainGlobals mg -> mg d.name = some (.ref fa) ->
   ∃ fd : FuncData,(∀ (s : Shared) (u : Value),BindsTo s fd ⟨[u],[]⟩ [(x,u)]) /\
    ∀ base : Heap,(K w.params).In base -> base.Ns mainGlobals mg -> FnOk l.prog w (K w.params) mg base (CX w) k fa fd [x] (sp w))
 (hsp : ∀ (w : World) (H : Hp) (a : Addr) (ns : List Int),ns.length <= n -> Only H -> SqL (K w.params) H a (ns.map V.int) -> sp w [.ref a] H (fun v _=>v = .bl true) fun _ _ _=>False)
 (hCX : ∀ (w : World) (H : Hp) (s : Shared) (e : Value) (s' : Shared),CX w [] H s (fun _ _ _=>False) e s' -> False) :
 PySem.W.WalkO q loose XP YP l.row.toRowW d [] (fun f vs=>PySem.call f vs):=by
 refine Att.zhH hn hdf fun w s₀ s₁ mg mb fa o pm cd doc a vs ns G Y ho hd hcd hmg hobj hints hlen hg=>?_
 have KX:=hY w _ Y
 obtain ⟨fd,hb,hF⟩:=F w mg fa _ KX G.T.g hmg
 exact zmf KX G.T.g G.T.b G.T.builtins G.T.nolimit hg hobj hints (Nat.le_trans hlen hn2) hr hF hb (fun H hO hS=>hsp w H a ns hlen hO hS) fun H e s'=>hCX w H s₁ e s'
theorem walk_ofK {l : PySem.W.OpenLaw} {n k : Nat} {q : Program} {loose : List Str} {XP : (Str -> Option Value) -> Heap -> Prop} {YP : World -> Heap -> Prop} {d : DefRec} {K : Params -> PySem.W.Frag} {CX : CXT} {sp : PySem.W.Frag -> Sp} {x : Str}
 (hn : l.most = some n) (hn2 : n <= sizeLine) (hdf : d.params.defaults = []) (hr : Room k callerA)
 (hY : ∀ (w : World) (h : Heap),YP w h -> (K w.params).In h)
 (F : ∀ (w : World) (mg : Str -> Option Value) (fa : Addr) (h : Heap),(K w.params).In h -> h.Ns mainGlobals mg -> mg d.name = some (.ref fa) ->
   ∃ fd : FuncData,(∀ (s : Shared) (u : Value),BindsTo s fd ⟨[u],[]⟩ [(x,u)]) /\
    ∀ base : Heap,(K w.params).In base -> base.Ns mainGlobals mg -> FnOk l.prog w (K w.params) mg base CX k fa fd [x] (sp (K w.params)))
 (hsp : ∀ (K : PySem.W.Frag) (H : Hp) (a : Addr) (ns : List Int),ns.length <= n -> Only H -> SqL K H a (ns.map V.int) -> sp K [.ref a] H (fun v _=>v = .bl true) fun _ _ _=>False)
 (hCX : ∀ (H : Hp) (s : Shared) (e : Value) (s' : Shared),CX [] H s (fun _ _ _=>False) e s' -> False) :
 PySem.W.WalkO q loose XP YP l.row.toRowW d [] (fun f vs=>PySem.call f vs) :=
 znY (K:=K) (CX:=fun _=>CX) (sp:=fun w=>sp (K w.params)) hn hn2 hdf hr hY F (fun w H a ns h1 h2 h3=>hsp (K w.params) H a ns h1 h2 h3) fun _ H s e s'=>hCX H s e s'
end L2
namespace L2
open PySem PySem.Spec PyProof.Rows
def zai (s : Stmt) (j : Nat) : Stmt:=match s with
 | .ClassDef _ _ _ body _ _ _ _ _ _ _=>body.getD j (.Pass ⟨0,0,0,0⟩)
 | _=>.Pass ⟨0,0,0,0⟩
def zak (s : Stmt) : Arguments:=match s with
 | .FunctionDef _ a _ _ _ _ _ _ _ _=>a
 | _=>{ posonlyargs:=[],args:=[],vararg:=none,kwonlyargs:=[],kw_defaults:=[],kwarg:=none,defaults:=[] }
def zaj (s : Stmt) : List Stmt:=match s with
 | .FunctionDef _ _ b _ _ _ _ _ _ _=>b
 | _=>[]
def zab (s : Stmt) : Scope:=match s with
 | .FunctionDef _ _ _ _ _ _ sc _ _ _=>sc
 | _=>{ kind:=.function,names:=[],isGenerator:=false,isCoroutine:=false }
abbrev CX0 : CXT:=fun _ _ _ _ _ _=>False
abbrev E0 : XK:=fun _ _ _=>False
theorem zmX {X : Cx} : zkq CX0 X E0:=fun _ _ _ _ _ _ _ h=>h.elim
structure Fun (K : PySem.W.Frag) (x qual : Str) (st : Stmt) (f : Addr) (fd : FuncData) : Prop where
 ex : ∃ (oc : Value) (od : Option Addr) (kV doc pm : Value) (an : Option Addr) (cdv ct : Value) (osl : Array (Option Value)),
  fd = PySem.W.fnOf x qual (zak st) (zaj st) (zab st) .none kV doc pm an cdv ct /\ K.lookup f = some ⟨oc,od,.func fd,osl⟩ /\ PySem.W.codeIn K cdv qual = true
 kp : PySem.W.keepIn K (.ref f) = true
section
variable {P : Program} {w : World} {K : PySem.W.Frag} {mg : Str -> Option Value} {base : Heap}
theorem Fun.ok {x qual : Str} {st : Stmt} {f : Addr} {fd : FuncData} {N ps : List Str} {k : Nat} {sp : Sp} (F : Fun K x qual st f fd) (S : FnScope N ps (zab st)) (len : ∀ vs H Q E,sp vs H Q E -> vs.length = ps.length)
 (hbody : ∀ (cdv : Value) (A : Around) (outer : List Env) (s : Shared) (H : Hp) (vs : List V) (Q : VK) (E : XK),Room k (A.deeper (envOfC qual (zab st) s.heap.objs.size f cdv)) -> sp vs H Q E ->
   ∃ t,PSs (cxOf CX0 P w K mg base N qual (zab st) f cdv A outer s H E).nox (zaj st) t /\ t { nx:=fun _ H'=>Q .non H',rt:=Q } (start N vs) H) : FnOk P w K mg base CX0 (k + 1) f fd ps sp:=by
 obtain ⟨oc,od,kV,doc,pm,an,cdv,ct,osl,rfl,lk,hcd⟩:=F.ex
 refine zmp lk hcd S len fun A outer s H vs Q E hr hsp=>?_
 obtain ⟨t,h,q⟩:=hbody cdv A outer s H vs Q E hr hsp
 exact ⟨t,h.nox,q⟩
theorem Fun.binds {x qual : Str} {st : Stmt} {f : Addr} {fd : FuncData} {ps : List Str} (F : Fun K x qual st f fd)
 (h : ∀ (kV doc pm : Value) (an : Option Addr) (cdv ct : Value) (us : List Value),us.length = ps.length -> bindArgs (PySem.W.fnOf x qual (zak st) (zaj st) (zab st) .none kV doc pm an cdv ct) ⟨us,[]⟩ = pure (ps.zip us)) : zdM K fd ps []:=by
 obtain ⟨oc,od,kV,doc,pm,an,cdv,ct,osl,rfl,lk,hcd⟩:=F.ex
 exact .all (h kV doc pm an cdv ct)
theorem zat {x qual : Str} {st : Stmt} {f : Addr} {oc : Value} {od an : Option Addr} {osl : Array (Option Value)} {kV doc pm cdv ct : Value} (l : K.lookup f = some ⟨oc,od,.func (PySem.W.fnOf x qual (zak st) (zaj st) (zab st) .none kV doc pm an cdv ct),osl⟩)
 (c : PySem.W.codeIn K cdv qual = true) (k : PySem.W.keepIn K (.ref f) = true) : Fun K x qual st f (PySem.W.fnOf x qual (zak st) (zaj st) (zab st) .none kV doc pm an cdv ct):=⟨⟨oc,od,kV,doc,pm,an,cdv,ct,osl,rfl,l,c⟩,k⟩
end
section
variable {X : Cx}
theorem pv (i : Nat) {x : Str} {pos : Pos} (hN : X.N[i]? = some x:=by rfl) (hv : Vis X.env.scope x:=by first | exact Or.inl rfl | exact Or.inr (Or.inl rfl) | exact Or.inr (Or.inr rfl)) (hd : (x == ("__debug__" : Str)) = false:=by decide)
 (hcd : (x == ("__classdict__" : Str)) = false:=by decide) : PE X (.Name x pos) (tVar i):=zpb hN hv hd hcd
end
theorem iteF {A B : Prop} (h : B) : if false = true then A else B:=by
 rw [if_neg Bool.false_ne_true]
 exact h
theorem iteT {A B : Prop} (h : A) : if true = true then A else B:=by
 rw [if_pos rfl]
 exact h
theorem ite2 {c A B : Prop} [Decidable c] (h1 : c -> A) (h2 : ¬ c -> B) : if c then A else B:=by
 by_cases h : c
 ·rw [if_pos h]
  exact h1 h
 ·rw [if_neg h]
  exact h2 h
def Same (H H' : Hp) : Prop:=∀ b o,H b = some o -> H' b = some o
theorem Same.refl (H : Hp) : Same H H:=fun _ _ h=>h
theorem Same.trans {H H1 H2 : Hp} (a : Same H H1) (b : Same H1 H2) : Same H H2:=fun c o h=>b c o (a c o h)
theorem Same.free {H H' : Hp} (e : Same H H') {l : Addr} (h : H' l = Option.none) : H l = Option.none:=by
 cases q : H l with
 | none=>rfl
 | some o =>
   rw [e l o q] at h
   cases h
theorem Same.seq {K : PySem.W.Frag} {H H' : Hp} {a : Addr} {xs : List V} (e : Same H H') (h : SqL K H a xs) : SqL K H' a xs:=by
 rcases h with (h | ⟨o,h⟩) | h
 ·exact .inl (.inl (e _ _ h))
 ·exact .inl (.inr ⟨o,e _ _ h⟩)
 ·exact .inr h
end L2
set_option maxHeartbeats 4000000
namespace L2
open PySem PySem.Spec PyProof.Rows
structure D (K : PySem.W.Frag) (mg : Str -> Option Value) (x : Str) (st : Stmt) (ps : List Str) (f : Addr) (fd : FuncData) : Prop where
 fn : Fun K x x st f fd
 ba : ∀ us : List Value,us.length = ps.length -> bindArgs fd ⟨us,[]⟩ = pure (ps.zip us)
 mg : mg x = some (.ref f)
section
variable {X : Cx} {k j : Nat} {f : Addr} {fd : FuncData} {ps : List Str} {sp : Sp} {x : Str} {st : Stmt} {p pos : Pos} {e : Expr} {es : List Expr} {t : TA}
theorem zbl (d : D X.K X.mg x st ps f fd) (F : FnOk X.prog X.w X.K X.mg X.base CX0 j f fd ps sp) (hr : Room k X.A) (hg : Gl X x) (ha : PA X (e :: es) t) (hjk : j <= k:=by decide) (hdb : (x == ("__debug__" : Str)) = false:=by decide)
 (he : starEach (e :: es) X.env = (false,eval e X.env) :: starEach es X.env:=by rfl) (hpl : (backTo pos (starEach es X.env)).any (·.1) = false:=by rfl) :
 PE X (.Call (.Name x p) (e :: es) [] pos) (zlZ sp [] E0 t) :=
 znL (F.mono hjk) hr hg d.mg d.fn.kp (.all d.ba) .nil zmX ha hdb he hpl
end
theorem zcc : bootBuiltins "len" = some (.builtin "len"):=PySem.boot_len
theorem zci : bootBuiltins "isinstance" = some (.builtin "isinstance"):=by decide +kernel
theorem zlk : bootBuiltins "sorted" = some (.builtin "sorted"):=by decide +kernel
theorem zrW : bootBuiltins "int" = some (.type "int"):=by decide +kernel
theorem zkK : bootBuiltins "list" = some (.type "list"):=by decide +kernel
theorem zfQ : bootBuiltins "ValueError" = some (.type "ValueError"):=by decide +kernel
section
variable {X : Cx}
end
end L2
namespace L2
open PySem PySem.Spec PyProof.Rows
theorem decV {i j : Int} : decide (V.int i = V.int j) = decide (i = j):=by
 rw [decide_eq_decide]
 exact ⟨fun h=>V.int.inj h,fun h=>by rw [h]⟩
theorem zaf {H : Hp} {p : Addr} (h : H p = none) (o : HO) : Same H (upd H p o):=fun b u q=>by rw [zah (zan q h)]; exact q
theorem zau {H H1 : Hp} {p : Addr} {o : HO} (s : Same H H1) (h : H p = none) : Same H (upd H1 p o):=fun b u q=>by rw [zah (zan q h)]; exact s b u q
theorem zaB {H H1 : Hp} {p : Addr} {o : HO} (s : Same H H1) (h : H1 p = none) : Same H (upd H1 p o):=zau s (s.free h)
theorem ints_at {B : Int} {zs : List Int} (h : ∀ z ∈ zs,0 <= z /\ z < B) {i : Int} (h0 : 0 <= i) (h1 : i < (zs.length : Int)) : ∃ z,atI (zs.map V.int) i = some (.int z) /\ 0 <= z /\ z < B:=by
 have hk : i.toNat < zs.length:=by omega
 have ek : i = ((i.toNat : Nat) : Int):=by omega
 refine ⟨zs[i.toNat],?_,h _ (List.getElem_mem hk)⟩
 have q : atI (zs.map V.int) ((i.toNat : Nat) : Int) = some (.int zs[i.toNat]):=zbi (by rw [List.getElem?_map,List.getElem?_eq_getElem hk] <;> rfl)
 rw [<- ek] at q
 exact q
theorem zmu {zs : List Int} {i : Int} (h0 : 0 <= i) (h1 : i < (zs.length : Int)) : atI (zs.map V.int) i = some (.int (zs.getD i.toNat 0)):=by
 have hk : i.toNat < zs.length:=by omega
 have ek : i = ((i.toNat : Nat) : Int):=by omega
 have q : atI (zs.map V.int) ((i.toNat : Nat) : Int) = some (.int zs[i.toNat]):=zbi (by rw [List.getElem?_map,List.getElem?_eq_getElem hk] <;> rfl)
 rw [<- ek] at q
 rw [q,List.getD_eq_getElem?_getD,List.getElem?_eq_getElem hk] <;> rfl
theorem zbv {zs : List Int} {i : Nat} {y : V} (h : (zs.map V.int)[i]? = some y) : ∃ z,y = .int z /\ zs[i]? = some z:=by
 rw [List.getElem?_map] at h
 cases e : zs[i]? with
 | none=>rw [e] at h; cases h
 | some z=>rw [e] at h; exact ⟨z,(Option.some.inj h).symm,rfl⟩
theorem zay {n : Nat} (h : n <= 100000) : n <= sizeLine:=Nat.le_trans h (by decide)
theorem zcF {n : Nat} (h : n <= 100000) : n < sizeLine:=Nat.lt_of_le_of_lt h (by decide)
end L2
namespace L2
open PySem PySem.Spec PyProof.Rows
def tCut (t : TS) : TS:=fun D σ H=>∃ M : St -> Hp -> Prop,t { D with nx:=M } σ H /\ ∀ σ' H',M σ' H' -> D.nx σ' H'
theorem zkU {X : Cx} {st : Stmt} {t : TS} (h : PS X st t) : PS X st (tCut t):=by
 intro pins s σ H D I hw
 obtain ⟨M,h1,h2⟩:=hw
 refine thn (h pins s σ H _ I h1) fun f s1 q=>?_
 cases f with
 | next=>obtain ⟨σ',H',I',m⟩:=q; exact ⟨σ',H',I',h2 σ' H' m⟩
 | ret v=>exact q
 | brk=>exact q
 | cont=>exact q
end L2
namespace L2
open PySem PySem.Spec PyProof.Rows
section
variable {X : Cx} {pins : List (Addr × Obj)} {σ : St} {H : Hp} {s : Shared} {h' : Heap}
theorem Inv.turnLay {t' : Nat} {ch : List Addr} {l : Addr} {o : HO} (I : Inv X pins σ H s) (k : ∀ b u,b ∉ ch -> s.heap.get? b = some u -> h'.get? b = some u) (hf : ∀ b ∈ ch,FpOk X pins H b)
 (hp : s.heap.objs.size <= l) (new : zdb X.prog X.w (upd H l o) h' l o) : Inv X pins σ (upd H l o) { s with heap:=h',toks:=t' }:=by
 have hn:=I.hok.fresh hp
 have nch : ∀ b u,H b = some u -> b ∉ ch:=fun b u e z=>by rw [(hf b z).1] at e; cases e
 refine I.step (g':=s.gens) (d':=s.drawn) (ch:=ch) (fun b hb=>?_) (fun b u _ _ hc e _=>k b u hc e) (fun b u _ _ hc e _=>⟨u.slots,k b u hc e⟩)
  (fun b u _ e n=>?_) (fun b u hc e=>⟨u,k b u hc e⟩) (fun b xs e=>?_) (fun b u xs e=>?_) (fun b ps e=>⟨#[],?_⟩) (fun m hm=>?_) (fun b u e=>?_) I.bare
 ·obtain ⟨f0,f1,f2,f3,f4,f5⟩:=hf b hb
  exact ⟨f3,f1,f4,f5⟩
 ·rw [zah (Nat.ne_of_lt (Nat.lt_of_lt_of_le (Heap.lt_size e) hp))]
  exact n
 ·rw [zah (zan e hn)]
  exact e
 ·rw [zah (zan e hn)]
  exact e
 ·rw [zah (zan e hn),e]
  simp
 ·obtain ⟨ob,es,ep,ho,r⟩:=hm
  exact ⟨ob,es,ep,k _ ob (fun z=>(hf _ z).2.1 rfl) ho,r⟩
 ·by_cases hb : b = l
  ·subst hb
   rw [upd_same] at e
   cases e
   exact new
  ·rw [zah hb] at e
   refine (I.hok b u e).stay (fun c v hc q=>k c v ?_ q) (fun c q=>by rw [zah (zan q hn)]; exact q) fun c xs q=>by rw [zah (zan q hn)]; exact q
   rcases hc with z | z
   ·rw [z]; exact nch b u e
   ·exact nch c _ z
end
def Ite (K : PySem.W.Frag) (a : Addr) : It :=
 ⟨fun i H=>∃ xs x,SqL K H a xs /\ xs[i]? = some x,fun i H v H'=>∃ t x,v = .ref t /\ H t = none /\ (∀ xs,SqL K H a xs -> xs[i]? = some x) /\ H' = upd H t (.tup [.int i,x]),fun i H=>∃ xs,SqL K H a xs /\ xs.length <= i⟩
theorem zkJ {P : Program} {w : World} {K : PySem.W.Frag} {es : List Expr} {k1 : Nat} {tp : Pos} (a e it : Addr) (hne : e ≠ it) :
 Turn P w K (.Tuple es k1 tp) (Ite K a) [e,it] e (fun i h=>(∃ old,IsEnum h e it (i : Nat) old) /\ h.IsListIter it a i) where
 mem:=by simp
 obj:=fun i h st b hb=>by
  obtain ⟨⟨old,e1⟩,o,e2,c,d⟩:=st
  have z : b = e \/ b = it:=by simpa using hb
  rcases z with rfl | rfl
  ·refine ⟨_,e1,fun v z=>?_⟩
   have z' : Data.fields _ = Data.cell v:=z
   cases z'
  ·exact ⟨o,e2,fun v z=>by rw [d] at z; cases z⟩
 keep:=fun i h h' st k=>⟨let ⟨old,e1⟩:=st.1; ⟨old,k e (by simp) _ e1⟩,st.2.at fun o e=>k it (by simp) o e⟩
 item:=by
  intro X hP hw hK hc i pins s σ H E I hf st hg
  subst hP hw hK
  obtain ⟨xs,x,hq,hx⟩:=hg
  obtain ⟨its,rv,p,hz⟩:=I.list hq
  obtain ⟨u,hu,ru⟩:=rv.get hx
  obtain ⟨⟨old,he⟩,hit⟩:=st
  have heL : e < s.heap.objs.size:=Heap.lt_size he
  refine wpAny_pyNext_enum_item he hit p.isList (x:=u) (by simpa using hu) hne fun h1 heo hit1 ht1 hz1 hk1=>⟨_,rfl,?_⟩
  refine wpAny_letOwnedTupleGo_enum heo fun h2 he2 hs2=>?_
  replace hs2 : Heap.SameBut e h1 h2:=hs2
  have ht2 : h2.get? s.heap.objs.size = some { cls:=.type "tuple",data:=.seq #[.int i s.toks,u] }:=(hs2.2 _ (Nat.ne_of_gt heL)).trans ht1
  have kk : ∀ b o,b ∉ [e,it] -> s.heap.get? b = some o -> h2.get? b = some o:=fun b o hb q=>by
   have h1 : b ≠ e:=fun z=>hb (by simp [z])
   have h2 : b ≠ it:=fun z=>hb (by simp [z])
   exact (hs2.2 b h1).trans (hk1 b o h1 h2 q)
  have hn : H s.heap.objs.size = none:=I.hok.fresh (Nat.le_refl _)
  have I2 : Inv X pins σ (upd H s.heap.objs.size (.tup [.int i,x])) { s with heap:=h2,toks:=s.toks + 1 } :=
   I.turnLay kk hf (Nat.le_refl _) ⟨Nat.le_of_ble_eq_true rfl,[.int i s.toks,u],.cons ⟨_,rfl⟩ (.cons ru .nil),⟨_,ht2,rfl,0,rfl⟩⟩
  refine ⟨.ref s.heap.objs.size,_,I2,rfl,⟨_,x,rfl,hn,fun ys hy=>by rw [I.list_inj hy hq]; exact hx,rfl⟩,⟨⟨u,?_⟩,hit1.extBut hs2.extBut (Ne.symm hne)⟩,fun b hb=>?_⟩
  ·have e1 : ((i + 1 : Nat) : Int) = (i : Int) + 1:=by omega
   rw [e1]
   exact he2
  ·rw [zah]
   ·exact (hf b hb).1
   ·have z : b = e \/ b = it:=by simpa using hb
    obtain ⟨oi,hoi,_⟩:=hit
    rcases z with rfl | rfl
    ·exact Nat.ne_of_lt heL
    ·exact Nat.ne_of_lt (Heap.lt_size hoi)
 done:=by
  intro X hP hw hK hc i pins s σ H E I hf st hg
  subst hP hw hK
  obtain ⟨xs,hq,hx⟩:=hg
  obtain ⟨its,rv,p,hz⟩:=I.list hq
  obtain ⟨f0,f1,f2,f3,f4,f5⟩:=hf it (by simp)
  obtain ⟨⟨old,he⟩,hit⟩:=st
  have hl:=rv.length
  exact wpAny_pyNext_enum_end (I.ok.hd hc) he hit p.isList (by simp; omega) fun h' eb=>⟨rfl,I.turned (t':=s.toks) (fun b o hb e=>eb b o hb e) f0 f1 f3 f4 f5⟩
 self:=fun _ _ _ _ _ st h=>let ⟨⟨_,e1⟩,_⟩:=st; wpAny_pyIter_enum e1 h
theorem zgu : bootBuiltins "enumerate" = some (.type "enumerate"):=by decide +kernel
section
variable {X : Cx} {es : List Expr} {k1 : Nat} {tp : Pos}
def zsj (K : PySem.W.Frag) (ta : TA) : TI:=fun σ H R=>ta σ H fun vs H1=>∃ a,vs = [.ref a] /\ (∃ xs,SqL K H1 a xs) /\ R (Ite K a) H1
theorem znD {a : Expr} {ta : TA} {p pos : Pos} (hg : Gl X "enumerate") (hm : X.mg "enumerate" = none) (ha : PA X [a] ta) (hs : starEach [a] X.env = (false,eval a X.env) :: starEach [] X.env:=by rfl) :
 PI X (.Tuple es k1 tp) (.Call (.Name "enumerate" p) [a] [] pos) (zsj X.K ta):=by
 intro pins s σ H R I h
 refine wpAny_Call_Name_kw (zfz I hg hm zgu ?_)
 refine PyProof.Rows.callWith_type1 (thn (ha pos pins s σ H _ I h) fun us s1 ⟨vs,H1,I1,r1,q1⟩=>?_) hs (by rfl)
 obtain ⟨l,rfl,⟨xs,hq⟩,q⟩:=q1
 obtain ⟨u,rfl,ru⟩:=zfa r1
 cases ru
 obtain ⟨its,rv,pl,hz⟩:=I1.list hq
 refine call_enumerate_list pl.isList fun h' he hit hsz hk=>?_
 refine wpAny_pyIter_enum he ?_
 refine ⟨s1.heap.objs.size + 1,[s1.heap.objs.size + 1,s1.heap.objs.size],_,_,H1,rfl,I1.kept (t':=s1.toks) hk,zkJ l _ s1.heap.objs.size (Nat.succ_ne_self _),⟨⟨.none,he⟩,hit⟩,fun b hb=>?_,q⟩
 have z : b = s1.heap.objs.size + 1 \/ b = s1.heap.objs.size:=by simpa using hb
 have hge : s1.heap.objs.size <= b:=by rcases z with rfl | rfl <;> omega
 exact I1.fpOk hge (I1.hok.fresh hge)
end
theorem zcp {K : PySem.W.Frag} {a : Addr} {xs : List V} {g : TG} {tb : TS} {D : Ends} {σ : St} {H : Hp} (Pv : Nat -> St -> Hp -> Prop) (h0 : Pv 0 σ H) (hl : ∀ i σ H,i <= xs.length -> Pv i σ H -> SqL K H a xs)
 (hs : ∀ i x t σ H,xs[i]? = some x -> Pv i σ H -> H t = none -> g (.ref t) σ (upd H t (.tup [.int i,x])) fun σ2 H2=>tb { D with nx:=Pv (i + 1),ct:=Pv (i + 1),bk:=D.nx } σ2 H2) (hd : ∀ σ H,Pv xs.length σ H -> D.nx σ H) :
 ∃ W : Nat -> Nat -> St -> Hp -> Prop,(∃ m,W 0 m σ H) /\ ∀ i m σ H,W i m σ H ->
  ((Ite K a).stop i H /\ D.nx σ H) \/ ((Ite K a).go i H /\ ∃ N : St -> Hp -> Prop,(∀ σ' H',N σ' H' -> ∃ m',m' < m /\ W (i + 1) m' σ' H') /\ ∀ x H',(Ite K a).yld i H x H' -> g x σ H' fun σ2 H2=>tb { D with nx:=N,ct:=N,bk:=D.nx } σ2 H2):=by
 refine ⟨fun i m σ H=>m = xs.length - i /\ i <= xs.length /\ Pv i σ H,⟨xs.length,by simp,Nat.zero_le _,h0⟩,?_⟩
 rintro i m σ H ⟨rfl,hi,p⟩
 have q:=hl i σ H hi p
 by_cases hlt : i < xs.length
 ·refine .inr ⟨⟨xs,xs[i],q,by simp [hlt]⟩,Pv (i + 1),fun σ' H' p'=>⟨xs.length - (i + 1),by omega,rfl,hlt,p'⟩,fun v H' y=>?_⟩
  obtain ⟨t,x,rfl,hn,hx,rfl⟩:=y
  exact hs i x t σ _ (hx xs q) p hn
 ·have e : i = xs.length:=by omega
  subst e
  exact .inl ⟨⟨xs,q,Nat.le_refl _⟩,hd σ H p⟩
end L2
namespace L2
open PySem PySem.Spec PyProof.Rows
mutual
inductive Den (K : PySem.W.Frag) (H : Hp) : V -> PyData -> Prop
 | non : Den K H .non .none
 | bl (b : Bool) : Den K H (.bl b) (.bool b)
 | int (i : Int) : Den K H (.int i) (.int i)
 | str (x : Str) : PyData.canLay0 (.str x) = true -> Den K H (.str x) (.str x)
 | lst {a xs ds} : SqL K H a xs -> DenL K H xs ds -> Den K H (.ref a) (.list ds)
 | tup {a xs ds} : SqT K H a xs -> DenL K H xs ds -> Den K H (.ref a) (.tuple ds)
inductive DenL (K : PySem.W.Frag) (H : Hp) : List V -> List PyData -> Prop
 | nil : DenL K H [] []
 | cons {x xs d ds} : Den K H x d -> DenL K H xs ds -> DenL K H (x :: xs) (d :: ds)
end
section
variable {X : Cx} {pins : List (Addr × Obj)} {σ : St} {H : Hp} {s : Shared}
mutual
theorem zcB (I : Inv X pins σ H s) : ∀ (d : PyData) (v : V) (u : Value),Den X.K H v d -> RelV v u -> ∃ as,Reads s.heap u d as
 | .none,v,u,h,r=>by cases h; cases r; exact ⟨_,.none⟩
 | .bool b,v,u,h,r=>by cases h; cases r; exact ⟨_,.bool b⟩
 | .int i,v,u,h,r=>by cases h; obtain ⟨t,rfl⟩:=r; exact ⟨_,.int i t⟩
 | .str x,v,u,h,r=>by cases h; obtain ⟨t,rfl⟩:=r; exact ⟨_,.str x t⟩
 | .list ds,v,u,h,r=>by
   cases h with
   | lst hq hl =>
     cases r
     obtain ⟨its,rv,⟨o,n,e,c,_,d⟩,_⟩:=I.list hq
     obtain ⟨as,q⟩:=zdv I ds _ _ hl rv
     exact ⟨_,.list e c d (by simpa using q)⟩
 | .tuple ds,v,u,h,r=>by
   cases h with
   | tup hq hl =>
     cases r
     obtain ⟨its,rv,⟨o,e,c,n,d⟩,_⟩:=I.tuple hq
     obtain ⟨as,q⟩:=zdv I ds _ _ hl rv
     exact ⟨_,.tuple e c d (by simpa using q)⟩
 | .dict _,v,u,h,r=>by cases h
theorem zdv (I : Inv X pins σ H s) : ∀ (ds : List PyData) (xs : List V) (us : List Value),DenL X.K H xs ds -> Vals xs us -> ∃ as,ReadsAll s.heap us ds as
 | [],xs,us,h,r=>by cases h; cases r; exact ⟨_,.nil⟩
 | d :: ds,xs,us,h,r=>by
   cases h with
   | cons h1 h2 =>
     cases r with
     | cons r1 r2 =>
       obtain ⟨a1,q1⟩:=zcB I d _ _ h1 r1
       obtain ⟨a2,q2⟩:=zdv I ds _ _ h2 r2
       exact ⟨_,.cons q1 q2⟩
end
mutual
theorem zeg {K : PySem.W.Frag} : ∀ (d : PyData) (v : V),Den K H v d -> d.canLay0 = true
 | .none,v,h=>rfl
 | .bool b,v,h=>rfl
 | .int i,v,h=>rfl
 | .str x,v,h=>by cases h with | str _ q=>exact q
 | .list ds,v,h=>by cases h with | lst _ q=>exact zfR ds _ q
 | .tuple ds,v,h=>by cases h with | tup _ q=>exact zfR ds _ q
 | .dict _,v,h=>by cases h
theorem zfR {K : PySem.W.Frag} : ∀ (ds : List PyData) (xs : List V),DenL K H xs ds -> PyData.canLayAll0 ds = true
 | [],xs,h=>rfl
 | d :: ds,xs,h=>by
   cases h with
   | cons h1 h2 =>
     show (PyData.canLay0 d && PyData.canLayAll0 ds) = true
     rw [zeg d _ h1,zfR ds _ h2]
     rfl
end
def rEqD (K : PySem.W.Frag) (neg : Bool) : R2:=fun x y H Q=>∃ d e,Den K H x d /\ Den K H y e /\ min d.depth e.depth <= 64 /\ Q (.bl (if neg then !PyData.eqv d e else PyData.eqv d e)) H
theorem zpX (hu : X.A.units + 64 < cLine) : OpR X (compareOp .Eq) (rEqD X.K false):=by
 intro pins s σ H x y v u Q I rx ry h
 obtain ⟨d,e,hd,he,hz,q⟩:=h
 obtain ⟨as,ra⟩:=zcB I d _ _ hd rx
 obtain ⟨bs,rb⟩:=zcB I e _ _ he ry
 exact PySem.SeqAt.eqOverData X.prog X.w X.A X.xe s v u d e as bs _ ra rb (zeg d _ hd) (zeg e _ he) (by omega) ⟨.bl _,H,I,rfl,q⟩
theorem zpD (hu : X.A.units + 64 < cLine) : OpR X (compareOp .NotEq) (rEqD X.K true):=by
 intro pins s σ H x y v u Q I rx ry h
 obtain ⟨d,e,hd,he,hz,q⟩:=h
 obtain ⟨as,ra⟩:=zcB I d _ _ hd rx
 obtain ⟨bs,rb⟩:=zcB I e _ _ he ry
 exact PySem.SeqAt.neOverData X.prog X.w X.A X.xe s v u d e as bs _ ra rb (zeg d _ hd) (zeg e _ he) (by omega) ⟨.bl _,H,I,rfl,q⟩
end
mutual
def nb : PyData -> Bool
 | .none | .int _ | .str _=>true
 | .bool _ | .dict _=>false
 | .list xs | .tuple xs=>nbL xs
def nbL : List PyData -> Bool
 | []=>true
 | x :: xs=>nb x && nbL xs
end
mutual
theorem zhX : ∀ (d e : PyData),nb d = true -> nb e = true -> (PyData.eqv d e = true ↔ d = e)
 | .none,e,_,h=>by cases e <;> first | (simp [PyData.eqv]; done) | cases h
 | .int i,e,_,h=>by cases e <;> first | (simp [PyData.eqv]; done) | cases h
 | .str i,e,_,h=>by cases e <;> first | (simp [PyData.eqv]; done) | cases h
 | .bool _,_,h,_=>by cases h
 | .dict _,_,h,_=>by cases h
 | .list xs,e,h1,h=>by
   cases e with
   | list ys =>
     have q:=zgi xs ys h1 h
     show PyData.eqvAll xs ys = true ↔ _
     rw [q]
     exact ⟨fun z=>by rw [z],fun z=>PyData.list.inj z⟩
   | none=>simp [PyData.eqv]
   | int _=>simp [PyData.eqv]
   | str _=>simp [PyData.eqv]
   | tuple _=>simp [PyData.eqv]
   | bool _=>cases h
   | dict _=>cases h
 | .tuple xs,e,h1,h=>by
   cases e with
   | tuple ys =>
     have q:=zgi xs ys h1 h
     show PyData.eqvAll xs ys = true ↔ _
     rw [q]
     exact ⟨fun z=>by rw [z],fun z=>PyData.tuple.inj z⟩
   | none=>simp [PyData.eqv]
   | int _=>simp [PyData.eqv]
   | str _=>simp [PyData.eqv]
   | list _=>simp [PyData.eqv]
   | bool _=>cases h
   | dict _=>cases h
theorem zgi : ∀ (xs ys : List PyData),nbL xs = true -> nbL ys = true -> (PyData.eqvAll xs ys = true ↔ xs = ys)
 | [],[],_,_=>by simp [PyData.eqvAll]
 | [],_ :: _,_,_=>by simp [PyData.eqvAll]
 | _ :: _,[],_,_=>by simp [PyData.eqvAll]
 | x :: xs,y :: ys,h1,h2=>by
   have a : nb x = true /\ nbL xs = true:=by
    have : (nb x && nbL xs) = true:=h1
    simpa using this
   have b : nb y = true /\ nbL ys = true:=by
    have : (nb y && nbL ys) = true:=h2
    simpa using this
   have q1:=zhX x y a.1 b.1
   have q2:=zgi xs ys a.2 b.2
   show (PyData.eqv x y && PyData.eqvAll xs ys) = true ↔ _
   rw [Bool.and_eq_true,q1,q2]
   simp
end
theorem zlI {d : PyData} (h : nb d = true) : PyData.eqv d d = true:=(zhX d d h h).mpr rfl
theorem zpd {d e : PyData} (h : nb d = true) (h' : nb e = true) (n : d ≠ e) : PyData.eqv d e = false:=by
 cases q : PyData.eqv d e with
 | false=>rfl
 | true=>exact absurd ((zhX d e h h').mp q) n
end L2
namespace L2
open PySem PySem.Spec PyProof.Rows
section
variable {prog : Program} {w : World} {A : Around} {R : Result -> Shared -> Prop} {s : Shared}
theorem zhi {elt target iter : Expr} {ifs : List Expr} {scope : Scope} {pos : Pos} {it acc : Value} {env : Env} (I : Nat -> Shared -> Prop)
 (turn : ∀ n s,I n s -> wpAny (model prog w) A (pyNext it) (fun r s1=>match r with
   | none=>R (.ok .next) s1
   | some v=>wpAny (model prog w) A (letOwnedTupleGo target it v) (fun _ s1'=>wpAny (model prog w) A (assign target env v) (fun _ s2 =>
      wpAny (model prog w) A (forIn ifs true fun c r=>if r = true then do let ok <- isTrue c env (eval c env); pure (ForInStep.yield ok) else pure (ForInStep.yield r)) (fun ok s3 =>
       if ok = true then wpAny (model prog w) A (eval elt env) (fun x s4 =>
        wpAny (model prog w) A (call (.builtin "list.append") [acc,x]) (fun _ s5=>∃ m,m < n /\ I m s5) (fun _ _=>False) s4) (fun _ _=>False) s3
       else ∃ m,m < n /\ I m s3) (fun _ _=>False) s2) (fun _ _=>False) s1') (fun _ _=>False) s1) (fun _ _=>False) s)
 (n : Nat) (h : I n s) :
 codeAny (model prog w) A (.compLoop (.ListComp elt [⟨target,iter,ifs,0⟩] scope pos) 0 it acc env) R s:=by
 refine codeAny_loop rfl I (fun n s hI=>?_) n h
 show wpAny _ A ((compTurn (.ListComp elt [⟨target,iter,ifs,0⟩] scope pos) 0 it acc env).onRaise (fun x=>do noteFrame x env; theTreesLotGoes x)) _ _ s
 refine wpAny_noted ?_
 rw [compTurn_list]
 refine wpAny_bind (wpAny_standAt (wpAny_bind (wpAny_mono (turn n s hI) (fun r s1 h1=>?_) fun _ _ h'=>False.elim h')))
 cases r with
 | none=>exact wpAny_pure h1
 | some v =>
   refine wpAny_bind (wpAny_mono h1 (fun _ s1' h1'=>?_) fun _ _ h'=>False.elim h')
   refine wpAny_bind (wpAny_mono h1' (fun _ s2 h2=>wpAny_bind (wpAny_mono h2 (fun ok s3 h3=>?_) fun _ _ h'=>False.elim h')) fun _ _ h'=>False.elim h')
   cases ok with
   | false=>exact wpAny_pure ⟨rfl,h3⟩
   | true =>
     exact wpAny_bind (wpAny_bind (wpAny_mono h3 (fun x s4 h4=>wpAny_bind (wpAny_mono h4 (fun _ s5 h5=>wpAny_pure (wpAny_pure ⟨rfl,h5⟩)) fun _ _ h'=>False.elim h')) fun _ _ h'=>False.elim h'))
end
def zap (env : Env) : List (Str × NameKind) -> List (Str × Addr) -> List (Str × Addr)
 | [],acc=>acc
 | (n,k) :: r,acc=>if (k == .free) = true then zap env r ((n,(env.cells.lookup n).getD 0) :: acc) else zap env r acc
theorem zco {env : Env} (P : Str -> Addr -> Prop) : ∀ (names : List (Str × NameKind)) (acc : List (Str × Addr)),(∀ x ∈ names,x.2 = .free -> ∃ c,env.cells.lookup x.1 = some c) -> (∀ n c,(n,c) ∈ acc -> P n c) ->
 (∀ n c,env.cells.lookup n = some c -> P n c) -> ∀ n c,(n,c) ∈ zap env names acc -> P n c
 | [],acc,_,ha,_,n,c,h=>ha n c h
 | (m,k) :: r,acc,hf,ha,hp,n,c,h=>by
   unfold zap at h
   split at h
   ·rename_i hk
    refine zco P r _ (fun x hx=>hf x (List.mem_cons_of_mem _ hx)) (fun n' c' h'=>?_) hp n c h
    rcases List.mem_cons.mp h' with e | h'
    ·obtain ⟨c0,e0⟩:=hf (m,k) List.mem_cons_self (eq_of_beq hk)
     injection e with e1 e2
     subst e1 e2
     rw [e0]
     exact hp _ _ e0
    ·exact ha n' c' h'
   ·exact zco P r acc (fun x hx=>hf x (List.mem_cons_of_mem _ hx)) ha hp n c h
theorem zcr {env : Env} : ∀ (names : List (Str × NameKind)) (acc : List (Str × Addr)) (x : Str × Addr),x ∈ acc -> x ∈ zap env names acc
 | [],_,_,h=>h
 | (m,k) :: r,acc,x,h=>by
   unfold zap
   split
   ·exact zcr r _ x (List.mem_cons_of_mem _ h)
   ·exact zcr r _ x h
theorem zck {env : Env} : ∀ (names : List (Str × NameKind)) (acc : List (Str × Addr)) (x : Str),(x,NameKind.free) ∈ names -> ∃ c,(x,c) ∈ zap env names acc
 | [],_,_,h=>nomatch h
 | (m,k) :: r,acc,x,h=>by
   unfold zap
   rcases List.mem_cons.mp h with e | h
   ·injection e with e1 e2
    subst e1 e2
    rw [if_pos (by decide)]
    exact ⟨_,zcr r _ _ List.mem_cons_self⟩
   ·split
    ·exact zck r _ x h
    ·exact zck r _ x h
theorem zfD {scope : Scope} {env : Env} (hf : ∀ x ∈ scope.names,x.2 = .free -> ∃ c,env.cells.lookup x.1 = some c) : closureFor scope env = pure (zap env scope.names []):=by
 have go : ∀ (names : List (Str × NameKind)) (acc : List (Str × Addr)),(∀ x ∈ names,x.2 = .free -> ∃ c,env.cells.lookup x.1 = some c) ->
  (forIn names acc fun (x : Str × NameKind) (r : List (Str × Addr))=>(match x with
    | (name,kind)=>if (kind == NameKind.free) = true then do
        let a <- cellOf env name
        pure (ForInStep.yield ((name,a) :: r))
     else pure (ForInStep.yield r) : Sem (ForInStep (List (Str × Addr))))) = pure (zap env names acc):=by
  intro names
  induction names with
  | nil=>intro acc _; rw [List.forIn_nil]; rfl
  | cons x r ih =>
    intro acc hf
    obtain ⟨n,k⟩:=x
    rw [List.forIn_cons]
    unfold zap
    by_cases hk : (k == NameKind.free) = true
    ·obtain ⟨c,e⟩:=hf (n,k) List.mem_cons_self (eq_of_beq hk)
     simp only [hk,if_true]
     have e2 : cellOf env n = pure c:=by unfold cellOf; rw [e]
     rw [e2,e]
     simp only [pure_bind,Option.getD_some]
     exact ih _ fun x hx=>hf x (List.mem_cons_of_mem _ hx)
    ·simp only [hk,if_false]
     exact ih _ fun x hx=>hf x (List.mem_cons_of_mem _ hx)
 simp only [closureFor]
 have:=go scope.names [] hf
 first
  | exact this
  | (simp only [bind_pure]; exact this)
  | (rw [this]; rfl)
theorem zaS : ∀ (names : List (Str × NameKind)) (n : Nat) (acc : List (Str × Addr)),cellsFrom n names acc = cellsFrom n names [] ++ acc
 | [],_,_=>rfl
 | (m,k) :: r,n,acc=>by
   unfold cellsFrom
   split
   ·rw [zaS r (n + 1) ((m,n) :: acc),zaS r (n + 1) [(m,n)],List.append_assoc]
    rfl
   ·exact zaS r n acc
theorem zcj : ∀ (names : List (Str × NameKind)) (n : Nat) (acc : List (Str × Addr)) (x : Str × Addr),x ∈ cellsFrom n names acc -> (x.1,NameKind.cell) ∈ names \/ x ∈ acc
 | [],_,_,_,h=>.inr h
 | (m,k) :: r,n,acc,x,h=>by
   unfold cellsFrom at h
   split at h
   ·rename_i hk
    rcases zcj r _ _ x h with q | q
    ·exact .inl (List.mem_cons_of_mem _ q)
    ·rcases List.mem_cons.mp q with e | q
     ·rw [e,eq_of_beq hk]
      exact .inl List.mem_cons_self
     ·exact .inr q
   ·rcases zcj r _ _ x h with q | q
    ·exact .inl (List.mem_cons_of_mem _ q)
    ·exact .inr q
theorem zcN {α : Type} (x : Str) : ∀ (l r : List (Str × α)),(l ++ r).lookup x = (l.lookup x).or (r.lookup x)
 | [],r=>by simp
 | (k,v) :: l,r=>by
   rw [List.cons_append,List.lookup_cons,List.lookup_cons]
   cases hb : x == k with
   | true=>rfl
   | false=>exact zcN x l r
theorem zbV {α : Type} {x : Str} : ∀ {l : List (Str × α)} {c : α},(x,c) ∈ l -> ∃ c',l.lookup x = some c'
 | (k,v) :: l,c,h=>by
   rw [List.lookup_cons]
   cases hb : x == k with
   | true=>exact ⟨v,rfl⟩
   | false =>
     rcases List.mem_cons.mp h with e | h
     ·injection e with e1 e2
      subst e1
      rw [beq_self_eq_true] at hb
      cases hb
     ·exact zbV h
theorem zbB {scope : Scope} {env : Env} {x : Str} {k : NameKind} (h : (relabel scope env).names.lookup x = some k) : ∃ k0,scope.names.lookup x = some k0 /\ (k = k0 \/ (k = .cell /\ k0 = .free)):=by
 have go : ∀ names : List (Str × NameKind),(names.map fun (n,k)=>if (k == NameKind.free && env.scope.kind == .function && env.kindOf n == some .cell) then (n,NameKind.cell) else (n,k)).lookup x = some k ->
  ∃ k0,names.lookup x = some k0 /\ (k = k0 \/ (k = .cell /\ k0 = .free)):=by
  intro names
  induction names with
  | nil=>intro h; cases h
  | cons y r ih =>
    obtain ⟨n,k1⟩:=y
    intro h
    replace h : List.lookup x ((if (k1 == NameKind.free && env.scope.kind == .function && env.kindOf n == some .cell) = true then (n,NameKind.cell) else (n,k1)) :: (r.map fun (n,k)=>if (k == NameKind.free && env.scope.kind == .function && env.kindOf n == some .cell) then (n,NameKind.cell) else (n,k))) = some k:=h
    by_cases hc : (k1 == NameKind.free && env.scope.kind == .function && env.kindOf n == some .cell) = true
    ·rw [if_pos hc] at h
     rw [List.lookup_cons] at h ⊢
     cases hb : x == n with
     | true =>
       rw [hb] at h
       have e : NameKind.cell = k:=Option.some.inj h
       simp only [Bool.and_eq_true] at hc
       exact ⟨k1,rfl,.inr ⟨e.symm,eq_of_beq hc.1.1⟩⟩
     | false=>rw [hb] at h; exact ih h
    ·rw [if_neg hc] at h
     rw [List.lookup_cons] at h ⊢
     cases hb : x == n with
     | true =>
       rw [hb] at h
       have e : k1 = k:=Option.some.inj h
       exact ⟨k1,rfl,.inl e.symm⟩
     | false=>rw [hb] at h; exact ih h
 exact go _ h
def zmB (scope : Scope) (env : Env) (C : Addr) (cells : List (Str × Addr)) : Env :=
 { scope:=relabel scope env,locals:=C,globals:=env.globals,cells:=cells,qual:=env.qual,func:=none,code:=env.code,frame:=env.frame,builtins:=env.builtins }
def zcU (X : Cx) (N' : List Str) (scope : Scope) (C : Addr) (cells : List (Str × Addr)) (s₀ : Shared) (H₀ : Hp) (ex : List Addr) : Cx :=
 { X with N:=N',s₀:=s₀,H₀:=H₀,env:=zmB scope X.env C cells,outer:=X.stack,stack:=X.stack,ex:=ex,fn:=fun x=>scope.names.lookup x == some .cell,pn:=[],xe:=fun _ _=>False }
def zjD (ms : List Nat) (k : Nat) (σ : St) : St:=ms.foldl (fun σ i=>σ.set i none) σ ++ List.replicate k none
theorem zej (ms : List Nat) : ∀ σ : St,(ms.foldl (fun σ i=>σ.set i none) σ).length = σ.length:=by
 induction ms with
 | nil=>intro σ; rfl
 | cons m ms ih=>intro σ; rw [List.foldl_cons,ih,List.length_set]
theorem zlA (ms : List Nat) : ∀ (σ : St) (i : Nat) (v : V),(ms.foldl (fun σ i=>σ.set i none) σ)[i]? = some (some v) -> σ[i]? = some (some v) /\ i ∉ ms:=by
 induction ms with
 | nil=>intro σ i v h; exact ⟨h,by simp⟩
 | cons m ms ih =>
   intro σ i v h
   rw [List.foldl_cons] at h
   obtain ⟨h1,h2⟩:=ih _ i v h
   by_cases e : m = i
   ·subst e
    rw [List.getElem?_set] at h1
    split at h1
    ·split at h1 <;> cases h1
    ·exact absurd rfl ‹_›
   ·rw [List.getElem?_set_ne e] at h1
    exact ⟨h1,by simp only [List.mem_cons,not_or]; exact ⟨fun z=>e z.symm,h2⟩⟩
structure BlkOk (X : Cx) (N' : List Str) (scope : Scope) (ms : List Nat) (k : Nat) : Prop where
 kind : scope.kind = .function
 uniq : ∀ x ∈ scope.names,scope.names.lookup x.1 = some x.2
 free : ∀ x ∈ scope.names,x.2 = .free -> X.env.kindOf x.1 = some .cell \/ X.env.kindOf x.1 = some .free
 len : N'.length = X.N.length + k
 pre : ∀ i : Nat,i < X.N.length -> N'[i]? = X.N[i]?
 vis : ∀ i : Nat,i < X.N.length -> i ∉ ms -> ∀ x k',N'[i]? = some x -> scope.names.lookup x = some k' -> k' = .local \/ k' = .cell \/ k' = .free -> k' = .free
section
variable {X : Cx} {pins : List (Addr × Obj)} {σ : St} {H : Hp} {s : Shared}
theorem zkg {M : Model} {A : Around} {E : Value -> Shared -> Prop} {scope : Scope} {globals : Addr} {cl : List (Str × Addr)} {qual : Str} {env : Env} {Q : Env -> Shared -> Prop}
 (hQ : Q { scope:=scope,locals:=s.heap.objs.size,globals:=globals,cells:=cellsFrom (s.heap.objs.size + 1) scope.names cl,qual:=qual,func:=none,code:=env.code,frame:=env.frame,builtins:=env.builtins }
   { s with heap:=pushCells (s.heap.push { cls:=.type "dict",data:=.dict #[] }) scope.names }) :
 wpAny M A (newFunctionEnv scope globals cl [] qual none .none (some env)) Q E s:=by
 simp only [newFunctionEnv,Option.isSome_some,if_true]
 refine wpAny_bind (wpAny_alloc ?_)
 refine wpAny_bind (wpAny_layCells _ (fun name kind cells=>by cases hkc : kind == NameKind.cell <;> simp [hkc]) _ _ _ _ ?_)
 rw [show ({ s with heap:=s.heap.push { cls:=.type "dict",data:=.dict #[] } } : Shared).heap.objs.size = s.heap.objs.size + 1 from Heap.size_push ..]
 rw [List.forIn_nil]
 exact wpAny_bind (wpAny_pure (wpAny_pure hQ))
theorem znr {N' : List Str} {scope : Scope} {ms : List Nat} {k : Nat} {ex : List Addr} (I : Inv X pins σ H s) (B : BlkOk X N' scope ms k) (hex : ∀ b ∈ ex,FpOk X pins H b /\ b < s.heap.objs.size) :
 Inv (zcU X N' scope s.heap.objs.size (cellsFrom (s.heap.objs.size + 1) scope.names (zap X.env scope.names [])) s H ex) [] (zjD ms k σ) H
  { s with heap:=pushCells (s.heap.push { cls:=.type "dict",data:=.dict #[] }) scope.names }:=by
 have hfree : ∀ x ∈ scope.names,x.2 = .free -> ∃ c,X.env.cells.lookup x.1 = some c:=fun x hx hk=>I.ok.has x.1 (B.free x hx hk)
 have keep : ∀ b o,s.heap.get? b = some o -> (pushCells (s.heap.push { cls:=.type "dict",data:=.dict #[] }) scope.names).get? b = some o:=fun b o e=>pushCells_keeps _ _ b o (Heap.get?_push_of_some _ e)
 have own:=cellsFrom_ok scope.names (s.heap.push { cls:=.type "dict",data:=.dict #[] }) (s.heap.objs.size + 1) [] ⟨fun _ _ hm=>(nomatch hm),List.Pairwise.nil⟩ (by rw [Heap.size_push]; exact Nat.le_refl _)
 rw [Heap.size_push] at own
 have clm : ∀ n c,(n,c) ∈ zap X.env scope.names [] -> X.env.cells.lookup n = some c:=zco (fun n c=>X.env.cells.lookup n = some c) scope.names [] hfree (fun _ _ h=>nomatch h) fun _ _ h=>h
 have clt : ∀ n (c : Addr),X.env.cells.lookup n = some c -> @LT.lt Nat instLTNat c s.heap.objs.size:=fun n c e=>by obtain ⟨v,q⟩:=I.cell n c e; exact q.lt
 have look : ∀ x c,(cellsFrom (s.heap.objs.size + 1) scope.names (zap X.env scope.names [])).lookup x = some c ->
  ((x,c) ∈ cellsFrom (s.heap.objs.size + 1) scope.names [] /\ s.heap.objs.size + 1 <= c) \/ (X.env.cells.lookup x = some c /\ @LT.lt Nat instLTNat c s.heap.objs.size):=fun x c e=>by
  rw [zaS,zcN] at e
  cases q : (cellsFrom (s.heap.objs.size + 1) scope.names []).lookup x with
  | some c' =>
    rw [q] at e
    have e' : c' = c:=Option.some.inj e
    subst e'
    exact .inl ⟨mem_of_lookup q,(own.empty x c' (mem_of_lookup q)).2⟩
  | none =>
    rw [q] at e
    have e2:=clm x c (mem_of_lookup e)
    exact .inr ⟨e2,clt x c e2⟩
 have hasL : ∀ x,scope.names.lookup x = some .cell \/ scope.names.lookup x = some .free -> ∃ c,(cellsFrom (s.heap.objs.size + 1) scope.names (zap X.env scope.names [])).lookup x = some c:=fun x hx=>by
  rw [zaS,zcN]
  cases q : (cellsFrom (s.heap.objs.size + 1) scope.names []).lookup x with
  | some c'=>exact ⟨c',rfl⟩
  | none =>
    rcases hx with hx | hx
    ·obtain ⟨c,e⟩:=zdP (n:=s.heap.objs.size + 1) hx
     rw [q] at e; cases e
    ·obtain ⟨c,hc⟩:=zck (env:=X.env) scope.names [] x (PySem.mem_of_lookup hx)
     exact zbV hc
 have Ir:=I.lt
 refine ⟨⟨I.ok.mod,B.kind,I.ok.glob,I.ok.blt,Nat.le_refl _,fun x y c hx hy=>?_,fun x hx=>?_,fun x c hf hx=>?_,I.ok.hd,I.ok.frames,.inl rfl,fun b hb=>?_,I.bs,Nat.le_trans I.ok.bsz I.sz,fun b o e hb=>?_,fun b hb hfs=>?_,I.stack,I.stkFree⟩,
  rfl,I.bare,Un.kept keep,⟨fun _=>none,?_,fun i x v h1 h2 h3=>?_⟩,fun x c hx=>?_,?_,fun x c hx=>?_,fun p hp=>absurd (show p ∈ ([] : List (Addr × Obj)) from hp) (by simp),I.hok.kept keep,?_⟩
 ·rcases look x c hx with ⟨m1,l1⟩ | ⟨m1,l1⟩
  ·rcases look y c hy with ⟨m2,l2⟩ | ⟨m2,l2⟩
   ·exact name_of_addr own.apart m1 m2
   ·omega
  ·rcases look y c hy with ⟨m2,l2⟩ | ⟨m2,l2⟩
   ·omega
   ·exact I.ok.inj x y c m1 m2
 ·have hx : (relabel scope X.env).names.lookup x = some .cell \/ (relabel scope X.env).names.lookup x = some .free:=hx
  rcases hx with hx | hx
  ·obtain ⟨k0,e,z | ⟨_,z⟩⟩:=zbB hx
   ·exact hasL x (.inl (by rw [e,<- z]))
   ·exact hasL x (.inr (by rw [e,z]))
  ·obtain ⟨k0,e,z | ⟨z,_⟩⟩:=zbB hx
   ·exact hasL x (.inr (by rw [e,<- z]))
   ·cases z
 ·show s.heap.objs.size <= c
  have hf : (scope.names.lookup x == some .cell) = true:=hf
  have hf' : scope.names.lookup x = some .cell:=eq_of_beq hf
  have hx : (cellsFrom (s.heap.objs.size + 1) scope.names (zap X.env scope.names [])).lookup x = some c:=hx
  rw [zaS,zcN] at hx
  obtain ⟨c',e⟩:=zdP (n:=s.heap.objs.size + 1) hf'
  rw [e] at hx
  have z : c' = c:=Option.some.inj hx
  subst z
  exact Nat.le_of_succ_le (own.empty x c' (mem_of_lookup e)).2
 ·obtain ⟨_,hlt⟩:=hex b hb
  refine ⟨Nat.ne_of_lt hlt,fun x c hx z=>?_⟩
  subst z
  have hlt' : @LT.lt Nat instLTNat c s.heap.objs.size:=hlt
  rcases look x c hx with ⟨_,l1⟩ | ⟨m1,_⟩
  ·omega
  ·obtain ⟨⟨_,_,_,_,f4,_⟩,_⟩:=hex c hb
   exact f4 x c m1 rfl
 ·obtain ⟨⟨_,_,_,f3,_,_⟩,_⟩:=hex b hb
  rcases f3 with z | z
  ·exact I.ok.noex b o e z
  ·have h1 : @LT.lt Nat instLTNat b X.base.objs.size:=Heap.lt_size e
   have h2:=I.ok.bsz
   have h3 : @LE.le Nat instLENat X.s₀.heap.objs.size b:=z
   omega
 ·obtain ⟨⟨_,f1,f2,_,_,_⟩,_⟩:=hex b hb
  rcases List.mem_cons.mp (I.stkSub b hfs) with z | z
  ·exact f1 z
  ·exact f2 z
 ·exact (Heap.Ns.new s.heap (.type "dict")).keeps (pushCells_keeps _ _)
 ·have hi : i < X.N.length:=by
   by_cases hi : i < X.N.length
   ·exact hi
   ·exfalso
    unfold zjD at h2
    have hl : (ms.foldl (fun σ i=>σ.set i none) σ).length = X.N.length:=by rw [zej,I.len]
    rw [List.getElem?_append_right (by omega),List.getElem?_replicate] at h2
    split at h2 <;> cases h2
  have h2' : (ms.foldl (fun σ i=>σ.set i none) σ)[i]? = some (some v):=by
   unfold zjD at h2
   have hl : (ms.foldl (fun σ i=>σ.set i none) σ).length = X.N.length:=by rw [zej,I.len]
   rw [List.getElem?_append_left (by omega)] at h2
   exact h2
  obtain ⟨h4,h5⟩:=zlA ms σ i v h2'
  have h1' : N'[i]? = some x:=h1
  have hXN : X.N[i]? = some x:=by rw [<- B.pre i hi]; exact h1'
  have h3 : (relabel scope X.env).names.lookup x = some .local \/ (relabel scope X.env).names.lookup x = some .cell \/ (relabel scope X.env).names.lookup x = some .free:=h3
  have fr : scope.names.lookup x = some .free:=by
   have go : ∀ k',(relabel scope X.env).names.lookup x = some k' -> k' = .local \/ k' = .cell \/ k' = .free -> scope.names.lookup x = some .free:=fun k' e hk=>by
    obtain ⟨k0,e0,z | ⟨_,z⟩⟩:=zbB e
    ·have:=B.vis i hi h5 x k0 h1' e0 (z ▸ hk)
     rw [e0,this]
    ·rw [e0,z]
   rcases h3 with h3 | h3 | h3
   ·exact go _ h3 (.inl rfl)
   ·exact go _ h3 (.inr (.inl rfl))
   ·exact go _ h3 (.inr (.inr rfl))
  have hk:=B.free (x,.free) (PySem.mem_of_lookup fr) rfl
  obtain ⟨m,hn,hl⟩:=I.loc
  obtain ⟨u,r,l⟩:=hl i x v hXN h4 (.inr hk)
  refine ⟨u,r,.inr ⟨?_,?_⟩⟩
  ·rcases h3 with h3 | h3
   ·exfalso
    obtain ⟨k0,e0,z | ⟨z,_⟩⟩:=zbB h3
    ·rw [fr] at e0; cases e0; cases z
    ·cases z
   ·exact h3
  ·rcases l with ⟨hloc,_⟩ | ⟨_,c,hc,hcell⟩
   ·rcases hk with hk | hk
    ·rw [hk] at hloc; cases hloc
    ·rw [hk] at hloc; cases hloc
   ·refine ⟨c,?_,hcell.keeps keep⟩
    obtain ⟨c2,e2⟩:=hasL x (.inr fr)
    have e2' : (cellsFrom (s.heap.objs.size + 1) scope.names (zap X.env scope.names [])).lookup x = some c2:=e2
    rcases look x c2 e2' with ⟨m1,_⟩ | ⟨m1,_⟩
    ·exfalso
     rcases zcj scope.names _ _ _ m1 with q | q
     ·have:=B.uniq _ q
      rw [fr] at this
      cases this
     ·cases q
    ·rw [hc] at m1
     have z : c = c2:=Option.some.inj m1
     rw [z]
     exact e2
 ·rcases look x c hx with ⟨m1,_⟩ | ⟨m1,_⟩
  ·exact ⟨none,(own.empty x c m1).1⟩
  ·obtain ⟨v,q⟩:=I.cell x c m1
   exact ⟨v,q.keeps keep⟩
 ·exact I.hok.fresh (Nat.le_refl _)
 ·rcases look x c hx with ⟨_,l1⟩ | ⟨m1,_⟩
  ·exact I.hok.fresh (by omega)
  ·exact I.freeC x c m1
 ·show (zjD ms k σ).length = N'.length
  unfold zjD
  rw [List.length_append,zej,List.length_replicate,I.len,B.len]
end
end L2
namespace L2
open PySem PySem.Spec PyProof.Rows
def zvb : TT:=fun _ H Q=>Q true H
def znW (J : It) (g : TG) (tc : TT) (te : TE) (D : Addr) (Q : VK) (σ0 : St) (H0 : Hp) : Prop:=∃ W : Nat -> Nat -> St -> Hp -> Prop,(∃ m,W 0 m σ0 (upd H0 D (.lst []))) /\
 ∀ i m σ' H2,W i m σ' H2 -> (J.stop i H2 /\ Q (.ref D) H2) \/ (J.go i H2 /\ ∀ x H3,J.yld i H2 x H3 -> g x σ' H3 fun σ2 H4=>tc σ2 H4 fun b H5 =>
  if b = true then te σ2 H5 fun v H6=>∃ ys,H6 D = some (.lst ys) /\ ys.length < sizeLine /\ ∃ m',m' < m /\ W (i + 1) m' σ2 (upd H6 D (.lst (ys ++ [v])))
  else ∃ m',m' < m /\ W (i + 1) m' σ2 H5)
def znF (wi : TI) (g : TG) (tc : TT) (te : TE) (ms : List Nat) (k : Nat) : TE:=fun σ H Q=>wi σ H fun J H1=>∀ D,H1 D = none -> znW J g tc te D Q (zjD ms k σ) H1
def PTs (X : Cx) (ifs : List Expr) (t : TT) : Prop :=
 ∀ (pins : List (Addr × Obj)) (s : Shared) (σ : St) (H : Hp) (Q : Bool -> Hp -> Prop),Inv X pins σ H s -> t σ H Q ->
  wpAny (model X.prog X.w) X.A (forIn ifs true fun c r=>if r = true then do let ok <- isTrue c X.env (eval c X.env); pure (ForInStep.yield ok) else pure (ForInStep.yield r)) (TP X pins σ Q) X.xe s
section
variable {X : Cx}
theorem zbK : PTs X [] zvb:=fun pins s σ H Q I h=>wpAny_tests_nil ⟨H,I,h⟩
theorem zlp {c : Expr} {t : TT} (h : PT X c t) : PTs X [c] t:=fun pins s σ H Q I hw=>wpAny_tests_one (h pins s σ H Q I hw)
theorem zgT {elt target iter : Expr} {ifs : List Expr} {scope : Scope} {pos : Pos} {p : Pos} {wi : TI} {g : TG} {tc : TT} {te : TE} {N' : List Str} {ms : List Nat} {k : Nat} {use : Option (Value -> Sem Unit)}
 {Q : Value -> Shared -> Prop} {pins : List (Addr × Obj)} {s : Shared} {σ : St} {H : Hp} {Qv : VK} (hcalm : X.calm = true) (hi : PI X target iter wi)
 (B : BlkOk X N' scope ms k) (hg : ∀ C cells s₀ H₀ ex,PG (zcU X N' scope C cells s₀ H₀ ex) target g) (hc : ∀ C cells s₀ H₀ ex,PTs (zcU X N' scope C cells s₀ H₀ ex) ifs tc)
 (he : ∀ C cells s₀ H₀ ex,PE (zcU X N' scope C cells s₀ H₀ ex) elt te) (hs : ∀ x,foldedSetIterable iter X.env x = pure x) (I : Inv X pins σ H s) (hw : znF wi g tc te ms k σ H Qv)
 (hpost : ∀ (D : Addr) (H' : Hp) (s' : Shared) (C : Addr) (m : Str -> Option Value),Inv X pins σ H' s' -> s'.heap.Ns C m -> H' C = none -> C ≠ X.env.locals -> X.s₀.heap.objs.size <= C ->
   (∀ x c,X.env.cells.lookup x = some c -> c ≠ C) -> (∀ p ∈ X.pn ++ pins,p.1 ≠ C) -> Qv (.ref D) H' -> compPost (model X.prog X.w) X.A X.xe use Q (.ref D) C (.ok .next) s') :
 wpAny (model X.prog X.w) X.A (comprehension (.ListComp elt [⟨target,iter,ifs,0⟩] scope pos) scope X.env p (newList []) false (eval iter X.env) use) Q X.xe s:=by
 have hfree : ∀ x ∈ scope.names,x.2 = .free -> ∃ c,X.env.cells.lookup x.1 = some c:=fun x hx hk=>I.ok.has x.1 (B.free x hx hk)
 refine wpAny_comprehension_free (use:=use) rfl hs (zfD hfree) B.kind (fun x hx hl=>by rw [B.uniq x hx,hl]) ?_
 refine thn (hi pins s σ H _ I hw) fun v s1 h1=>thn h1 fun itv s2 h2=>?_
 obtain ⟨it,fp,tn,J,H2,rfl,I2,T,st2,f2,h2⟩:=h2
 refine wpAny_newObj_type ?_
 have I3 : Inv X pins σ (upd H2 s2.heap.objs.size (.lst [])) { s2 with heap:=s2.heap.push { cls:=.type "list",data:=.seq ([] : List Value).toArray } }:=I2.lnew (t':=s2.toks) .nil (Nat.zero_le _)
 obtain ⟨W,⟨m0,w0⟩,turn⟩:=h2 s2.heap.objs.size I2.fresh
 have hfp3 : ∀ b ∈ fp,FpOk X pins (upd H2 s2.heap.objs.size (.lst [])) b /\ b < (s2.heap.push { cls:=.type "list",data:=.seq ([] : List Value).toArray }).objs.size:=fun b hb=>by
  obtain ⟨o,e,_⟩:=T.obj _ _ st2 b hb
  have hlt:=Heap.lt_size e
  obtain ⟨f0,fr⟩:=f2 b hb
  refine ⟨⟨by rw [zah (Nat.ne_of_lt hlt)]; exact f0,fr⟩,?_⟩
  rw [Heap.size_push]
  exact Nat.lt_succ_of_lt hlt
 generalize hs3 : ({ s2 with heap:=s2.heap.push { cls:=.type "list",data:=.seq ([] : List Value).toArray } } : Shared) = s3 at I3
 have hh3 : s2.heap.push { cls:=.type "list",data:=.seq ([] : List Value).toArray } = s3.heap:=by rw [<- hs3]
 rw [hh3] at hfp3
 refine zkg ?_
 have I4:=znr I3 B hfp3
 have st4 : tn 0 (pushCells (s3.heap.push { cls:=.type "dict",data:=.dict #[] }) scope.names):=T.keep _ _ _ st2 fun b hb o e=>pushCells_keeps _ _ b o (Heap.get?_push_of_some _ (by rw [<- hh3]; exact Heap.get?_push_of_some _ e))
 have fr4 : ∀ b ∈ fp,upd H2 s2.heap.objs.size (.lst []) b = none:=fun b hb=>(hfp3 b hb).1.1
 generalize hs4 : ({ s3 with heap:=pushCells (s3.heap.push { cls:=.type "dict",data:=.dict #[] }) scope.names } : Shared) = s4 at I4
 have hh4 : pushCells (s3.heap.push { cls:=.type "dict",data:=.dict #[] }) scope.names = s4.heap:=by rw [<- hs4]
 rw [hh4] at st4
 have stat : ∀ {H' : Hp} {pn' : List (Addr × Obj)},pn' = [] -> (∀ b ∈ fp,H' b = none) -> ∀ b ∈ fp,FpOk (zcU X N' scope s3.heap.objs.size (cellsFrom (s3.heap.objs.size + 1) scope.names (zap X.env scope.names [])) s3 (upd H2 s2.heap.objs.size (.lst [])) fp) pn' H' b:=fun hp hn b hb=>by
  obtain ⟨x1,x2⟩:=I4.ok.exf b hb
  exact ⟨hn b hb,x1,I4.ok.exfs b hb,.inl hb,x2,fun p hp'=>by rw [hp] at hp'; exact absurd (show p ∈ ([] : List (Addr × Obj)) from hp') (by simp)⟩
 have loop : ∀ it' : Value,it' = .ref it -> codeAny (model X.prog X.w) X.A (.compLoop (.ListComp elt [⟨target,iter,ifs,0⟩] scope pos) 0 it' (.ref s2.heap.objs.size) (zmB scope X.env s3.heap.objs.size (cellsFrom (s3.heap.objs.size + 1) scope.names (zap X.env scope.names []))))
  (compPost (model X.prog X.w) X.A X.xe use Q (.ref s2.heap.objs.size) s3.heap.objs.size) s4:=by
  rintro it' rfl
  refine zhi (fun n s'=>∃ i σ' H',Inv (zcU X N' scope s3.heap.objs.size (cellsFrom (s3.heap.objs.size + 1) scope.names (zap X.env scope.names [])) s3 (upd H2 s2.heap.objs.size (.lst [])) fp) [] σ' H' s' /\ tn i s'.heap /\ (∀ b ∈ fp,H' b = none) /\ W i n σ' H') ?_ m0 ⟨0,_,_,I4,st4,fr4,w0⟩
  rintro n s5 ⟨i,σ5,H5,I5,st5,fr5,w5⟩
  rcases turn i n σ5 H5 w5 with ⟨stop,q⟩ | ⟨go,step⟩
  ·refine thn (T.done (zcU X N' scope s3.heap.objs.size (cellsFrom (s3.heap.objs.size + 1) scope.names (zap X.env scope.names [])) s3 (upd H2 s2.heap.objs.size (.lst [])) fp) rfl rfl rfl hcalm i [] s5 σ5 H5 (fun _ _=>False) I5 (stat rfl fr5) st5 stop) fun r s6 ⟨hr,I6⟩=>?_
   subst hr
   have I7 : Inv X pins σ H5 s6:=I3.call' I6.os I6.base I6.hok I6.bare fun b hb=>by
    obtain ⟨⟨_,f1,_,f3,f4,f5⟩,_⟩:=hfp3 b hb
    exact ⟨f3,f1,f4,f5⟩
   obtain ⟨m,hn,_⟩:=I6.loc
   have l3:=I3.lt
   refine hpost _ H5 s6 _ m I7 hn I6.free (Nat.ne_of_gt l3) I3.sz (fun x c e z=>?_) (fun p hp z=>?_) q
   ·obtain ⟨v,hv⟩:=I3.cell x c e
    have:=hv.lt
    rw [z] at this
    exact Nat.lt_irrefl _ this
   ·have:=Heap.lt_size (I3.pin p hp).1
    rw [z] at this
    exact Nat.lt_irrefl _ this
  ·refine thn (T.item (zcU X N' scope s3.heap.objs.size (cellsFrom (s3.heap.objs.size + 1) scope.names (zap X.env scope.names [])) s3 (upd H2 s2.heap.objs.size (.lst [])) fp) rfl rfl rfl hcalm i [] s5 σ5 H5 (fun _ _=>False) I5 (stat rfl fr5) st5 go) fun r s6 ⟨u,hr,h6⟩=>?_
   subst hr
   refine thn h6 fun _ s7 ⟨x,H7,I7,r7,y7,st7,fr7⟩=>?_
   have I7':=I7.pinned (stat rfl fr7) (T.obj _ _ st7)
   refine thn (hg _ _ _ _ _ _ s7 σ5 H7 x u _ I7' r7 (step x H7 y7)) fun _ s8 ⟨σ8,H8,I8,q8⟩=>?_
   refine thn (hc _ _ _ _ _ _ s8 σ8 H8 _ I8 q8) fun b s9 ⟨H9,I9,q9⟩=>?_
   have again : ∀ {σ' : St} {H' : Hp} {s' : Shared},Inv (zcU X N' scope s3.heap.objs.size (cellsFrom (s3.heap.objs.size + 1) scope.names (zap X.env scope.names [])) s3 (upd H2 s2.heap.objs.size (.lst [])) fp) ([] ++ zgx fp s7.heap) σ' H' s' ->
    (∃ m',m' < n /\ W (i + 1) m' σ' H') -> ∃ m,m < n /\ ∃ i σ'' H'',Inv (zcU X N' scope s3.heap.objs.size (cellsFrom (s3.heap.objs.size + 1) scope.names (zap X.env scope.names [])) s3 (upd H2 s2.heap.objs.size (.lst [])) fp) [] σ'' H'' s' /\ tn i s'.heap /\ (∀ b ∈ fp,H'' b = none) /\ W i m σ'' H'':=fun {σ' H' s'} I' ⟨m',hm,w'⟩=>by
    refine ⟨m',hm,i + 1,σ',H',I'.unpinned,T.keep _ _ _ st7 fun b hb o e=>(I'.pin (b,o) (List.mem_append_right _ (List.mem_append_right _ (zcJ hb e)))).1,fun b hb=>?_,w'⟩
    obtain ⟨o,e,d⟩:=T.obj _ _ st7 b hb
    exact (I'.pin (b,o) (List.mem_append_right _ (List.mem_append_right _ (zcJ hb e)))).2.1
   cases b with
   | false =>
     rw [if_neg Bool.false_ne_true] at q9 ⊢
     exact again I9 q9
   | true =>
     rw [if_pos rfl] at q9 ⊢
     refine thn (he _ _ _ _ _ _ s9 σ8 H9 _ I9 q9) fun y s10 ⟨vy,H10,I10,r10,ys,hys,hz,q10⟩=>?_
     refine thn (zbn _ s10 σ8 H10 (.ref s2.heap.objs.size) [vy] (.ref s2.heap.objs.size) [y] (fun _ H'=>H' = upd H10 s2.heap.objs.size (.lst (ys ++ [vy]))) I10 rfl (.cons r10 .nil) ⟨_,ys,vy,rfl,rfl,hys,hz,rfl⟩) fun _ s11 ⟨_,H11,I11,_,e11⟩=>?_
     subst e11
     exact again I11 q10
 have fin:=codeAny_compStart_list (loop _ rfl) (T.self _ 0 s4 _ _ st4 (loop _ rfl))
 exact fin
theorem zba {elt target iter : Expr} {ifs : List Expr} {scope : Scope} {pos : Pos} {wi : TI} {g : TG} {tc : TT} {te : TE} {N' : List Str} {ms : List Nat} {k : Nat} (hcalm : X.calm = true) (hi : PI X target iter wi)
 (B : BlkOk X N' scope ms k) (hg : ∀ C cells s₀ H₀ ex,PG (zcU X N' scope C cells s₀ H₀ ex) target g) (hc : ∀ C cells s₀ H₀ ex,PTs (zcU X N' scope C cells s₀ H₀ ex) ifs tc)
 (he : ∀ C cells s₀ H₀ ex,PE (zcU X N' scope C cells s₀ H₀ ex) elt te) (hs : ∀ x,foldedSetIterable iter X.env x = pure x:=by intro _; rfl) :
 PE X (.ListComp elt [⟨target,iter,ifs,0⟩] scope pos) (znF wi g tc te ms k):=by
 intro pins s σ H Q I h
 rw [eval_ListComp]
 refine zgT (use:=none) (Qv:=Q) hcalm hi B hg hc he hs I h fun D H' s' C m I' hn f0 f1 f3 f4 f5 q=>?_
 exact ⟨m,hn,fun h' sb=>⟨.ref D,H',I'.turned (t':=s'.toks) (fun b o hb e=>(sb.2 b hb).trans e) f0 f1 (.inr f3) f4 f5,rfl,q⟩⟩
theorem znJ {i : Nat} {x : Str} {px : Pos} {spos : Pos} {elt target iter : Expr} {ifs : List Expr} {scope : Scope} {pos : Pos} {wi : TI} {g : TG} {tc : TT} {te : TE} {N' : List Str} {ms : List Nat} {k : Nat} (hN : X.N.Nodup) (hx : X.N[i]? = some x) (hl : Loc X.env.scope x)
 (hcalm : X.calm = true) (hi : PI X target iter wi) (B : BlkOk X N' scope ms k) (hg : ∀ C cells s₀ H₀ ex,PG (zcU X N' scope C cells s₀ H₀ ex) target g) (hc : ∀ C cells s₀ H₀ ex,PTs (zcU X N' scope C cells s₀ H₀ ex) ifs tc)
 (he : ∀ C cells s₀ H₀ ex,PE (zcU X N' scope C cells s₀ H₀ ex) elt te) (hsw : swapsWith (.ListComp elt [⟨target,iter,ifs,0⟩] scope pos) (some (.Name x px)) spos.line X.env = pure true:=by rfl) (hs : ∀ x,foldedSetIterable iter X.env x = pure x:=by intro _; rfl)
 (hf : X.fn x = true \/ X.env.scope.names.lookup x = some .local:=by first | exact .inl rfl | exact .inr rfl | assumption) :
 PS X (.Assign [.Name x px] (.ListComp elt [⟨target,iter,ifs,0⟩] scope pos) spos) (tAsg (znF wi g tc te ms k) (zmq i)):=by
 intro pins s σ H D I h
 rw [exec_Assign_Name_used _ _ _ _ hsw]
 refine wpAny_bind (wpAny_standAt (wpAny_bind ?_))
 show wpAny _ X.A (do let _ <- comprehension (.ListComp elt [⟨target,iter,ifs,0⟩] scope pos) scope X.env _ (newList []) false (eval iter X.env) (some (assign (.Name x px) X.env))) _ _ s
 refine wpAny_bind (wpAny_mono (zgT (use:=some (assign (.Name x px) X.env)) (Q:=fun _ s'=>∃ σ' H',Inv X pins σ' H' s' /\ D.nx σ' H') hcalm hi B hg hc he hs I h fun Da H' s' C m I' hn f0 f1 f3 f4 f5 q=>?_)
  (fun _ s' hq=>wpAny_pure (wpAny_pure hq)) fun _ _ e=>e)
 show wpAny _ X.A (assign (.Name x px) X.env (.ref Da)) _ _ s'
 refine wpAny_assign_Name (zhk I' hN hx hl (v:=.ref Da) rfl (fun s'' I'' ⟨b,sb,hb⟩=>?_) hf)
 have hCb : C ≠ b:=by
  rcases hb with z | z
  ·rw [z]; exact f1
  ·exact fun e=>f4 x b z e.symm
 refine ⟨m,hn.sameBut sb hCb,fun h' sb'=>⟨_,H',I''.turned (t':=s''.toks) (fun b o hb e=>(sb'.2 b hb).trans e) f0 f1 (.inr f3) f4 f5,q⟩⟩
end
end L2
namespace L2
open PySem PySem.Spec PyProof.Rows
def blkB (N : List Str) (lk : Str -> Option NameKind) (N' : List Str) (scope : Scope) (ms : List Nat) (k : Nat) : Bool :=
 scope.kind == .function && (scope.names.all fun x=>scope.names.lookup x.1 == some x.2) && (scope.names.all fun x=>!(x.2 == .free) || lk x.1 == some .cell || lk x.1 == some .free) &&
 N'.length == N.length + k && (N'.take N.length == N) &&
 (List.range N.length).all fun i=>ms.contains i || (match N'[i]? with | none=>true | some x=>match scope.names.lookup x with | some .local=>false | some .cell=>false | _=>true)
theorem BlkOk.of {X : Cx} {N' : List Str} {scope : Scope} {ms : List Nat} {k : Nat} (h : blkB X.N X.env.kindOf N' scope ms k = true) : BlkOk X N' scope ms k:=by
 unfold blkB at h
 simp only [Bool.and_eq_true] at h
 obtain ⟨⟨⟨⟨⟨h1,h2⟩,h3⟩,h4⟩,h5⟩,h6⟩:=h
 have e5 : N'.take X.N.length = X.N:=eq_of_beq h5
 refine ⟨eq_of_beq h1,fun x hx=>eq_of_beq (List.all_eq_true.mp h2 x hx),fun x hx hk=>?_,eq_of_beq h4,fun i hi=>?_,fun i hi hm x k' e1 e2 hk=>?_⟩
 ·have q:=List.all_eq_true.mp h3 x hx
  simp only [Bool.or_eq_true] at q
  rcases q with (q | q) | q
  ·rw [hk] at q; cases q
  ·exact .inl (eq_of_beq q)
  ·exact .inr (eq_of_beq q)
 ·have q : (N'.take X.N.length)[i]? = N'[i]?:=List.getElem?_take_of_lt hi
  rw [e5] at q
  exact q.symm
 ·have q:=List.all_eq_true.mp h6 i (List.mem_range.mpr hi)
  rw [Bool.or_eq_true] at q
  rcases q with q | q
  ·exact absurd (by simpa using q) hm
  ·rw [e1] at q
   rcases hk with rfl | rfl | rfl
   ·simp only [e2] at q; cases q
   ·simp only [e2] at q; cases q
   ·rfl
section
variable {K : PySem.W.Frag} {a : Addr} {xs : List V} {g : TG} {tc : TT} {te : TE} {D : Addr} {σ : St} {H : Hp} {Q : VK}
def zlV (D : Addr) (n i : Nat) (Pv : Nat -> List V -> St -> Hp -> Prop) (σ2 : St) : VK:=fun v H6=>∃ ys,H6 D = some (.lst ys) /\ ys.length < sizeLine /\ ∃ m',m' < n - i /\ (m' = n - (i + 1) /\ i + 1 <= n /\ ∃ ys',Pv (i + 1) ys' σ2 (upd H6 D (.lst (ys ++ [v]))))
def znP (n i : Nat) (Pv : Nat -> List V -> St -> Hp -> Prop) (σ2 : St) (H5 : Hp) : Prop:=∃ m',m' < n - i /\ (m' = n - (i + 1) /\ i + 1 <= n /\ ∃ ys',Pv (i + 1) ys' σ2 H5)
theorem zdj {n i : Nat} {Pv : Nat -> List V -> St -> Hp -> Prop} {σ2 : St} {v : V} {H6 : Hp} {ys : List V} (hi : i < n) (h : H6 D = some (.lst ys)) (hz : ys.length <= 100000) (p : Pv (i + 1) (ys ++ [v]) σ2 (upd H6 D (.lst (ys ++ [v])))) : zlV D n i Pv σ2 v H6 :=
 ⟨ys,h,zcF hz,n - (i + 1),by omega,rfl,hi,_,p⟩
theorem zpR {n i : Nat} {Pv : Nat -> List V -> St -> Hp -> Prop} {σ2 : St} {H5 : Hp} {ys : List V} (hi : i < n) (p : Pv (i + 1) ys σ2 H5) : znP n i Pv σ2 H5:=⟨n - (i + 1),by omega,rfl,hi,_,p⟩
theorem zaN (Pv : Nat -> List V -> St -> Hp -> Prop) (h0 : Pv 0 [] σ (upd H D (.lst []))) (hl : ∀ i ys σ H,i <= xs.length -> Pv i ys σ H -> SqL K H a xs)
 (hs : ∀ i x ys σ H,xs[i]? = some x -> i < xs.length -> Pv i ys σ H -> g x σ H fun σ2 H4=>tc σ2 H4 fun b H5=>if b = true then te σ2 H5 (zlV D xs.length i Pv σ2) else znP xs.length i Pv σ2 H5)
 (hd : ∀ ys σ H,Pv xs.length ys σ H -> Q (.ref D) H) :
 znW (Itl K a) g tc te D Q σ H:=by
 refine ⟨fun i m σ H=>m = xs.length - i /\ i <= xs.length /\ ∃ ys,Pv i ys σ H,⟨xs.length,by simp,Nat.zero_le _,[],h0⟩,?_⟩
 rintro i m σ H ⟨rfl,hi,ys,p⟩
 have q:=hl i ys σ H hi p
 by_cases hlt : i < xs.length
 ·refine .inr ⟨⟨xs,xs[i],q,by simp [hlt]⟩,fun x H' y=>?_⟩
  obtain ⟨e,y⟩:=y
  subst e
  exact hs i x ys σ _ (y xs q) hlt p
 ·have e : i = xs.length:=by omega
  subst e
  exact .inl ⟨⟨xs,q,Nat.le_refl _⟩,hd ys σ H p⟩
end
end L2
namespace Sr
open PySem PyProof.Rows
def zgf (prog : Program) (w : World) (A : Around) (s : Shared) (κ : KeyKind) (kd : SortKind) : Prop :=
 ∀ (E : Value -> Shared -> Prop) (x y : Value) (a b : κ.α) (Q : Bool -> Shared -> Prop),κ.keyOf x = some a -> κ.keyOf y = some b -> Q (κ.blt a b) s -> wpAny (model prog w) A (keyLt' kd x y) Q E s
structure zbc (kd : SortKind) (o : Array Keyed) (st : SortSt) : Prop where
 pm : (arrOf st).Perm o
 kn : kindOf st = kd
 fl : failedOf st = none
 pn : pendingOf st = #[]
section
variable {prog : Program} {w : World} {A : Around} {E : Value -> Shared -> Prop} {s : Shared} {o : Array Keyed} {κ : KeyKind} {kd : SortKind} {st : SortSt}
theorem zbc.sz (h : zbc kd o st) : (arrOf st).size = o.size:=h.pm.size_eq
theorem zbc.put (h : zbc kd o st) {xs : Array Keyed} (p : xs.Perm (arrOf st)) : zbc kd o (setArr st xs):=⟨p.trans h.pm,h.kn,h.fl,h.pn⟩
theorem zex (T : zgf prog w A s κ kd) (h0 : KeysOf κ o) (S : zbc kd o st) {i j : Nat} {Q : Option Bool -> SortSt -> Prop} (hi : i < o.size) (hj : j < o.size)
 (q : Q (some (κ.blt (KK κ (arrOf st) i) (KK κ (arrOf st) j))) st) : wpS (model prog w) A E s (ltAt' i j) Q st:=by
 have key : ∀ {k : Nat},k < o.size -> ∃ v p a,(arrOf st)[k]? = some (v,p) /\ κ.keyOf v = some a /\ KK κ (arrOf st) k = a:=fun {k} hk=>by
  have hk' : k < (arrOf st).size:=S.sz ▸ hk
  have hin : (arrOf st)[k] ∈ o.toList:=(Array.perm_iff_toList_perm.mp S.pm).mem_iff.mp (by simp)
  obtain ⟨a,ea⟩:=h0 _ hin
  have e:=getElem?_pos (arrOf st) k hk'
  exact ⟨_,_,a,e,ea,by simp only [KK,e,ea,Option.getD_some]⟩
 obtain ⟨x,p,a,e1,k1,r1⟩:=key hi
 obtain ⟨y,p',b,e2,k2,r2⟩:=key hj
 rw [r1,r2] at q
 rw [ltAt'_eq]
 refine wpS_bind (wpS_get ?_)
 show wpS _ _ _ _ (elem' (arrOf st) i >>= fun u=>elem' (arrOf st) j >>= fun v=>lt' u v) Q st
 rw [elem'_eq,elem'_eq,e1,e2]
 refine wpS_bind (wpS_pure (wpS_bind (wpS_pure ?_)))
 rw [lt'_eq]
 refine wpS_bind (wpS_get ?_)
 rw [S.kn]
 exact wpS_bind (wpS_lift (wpAny_attempt (T _ x y a b _ k1 k2 ⟨rfl,wpS_pure q⟩)))
theorem zmC {xs : Array Keyed} {x : Nat} (h : SortedToK κ xs x) (hx : x = 0 \/ κ.kle (KK κ xs (x - 1)) (KK κ xs x)) : SortedToK κ xs (x + 1):=fun i j hij hj=>by
 rcases Nat.lt_or_ge j x with hjx | hjx
 ·exact h i j hij hjx
 obtain rfl : j = x:=by omega
 rcases Nat.lt_or_ge i j with hi | hi
 ·rcases hx with z | z
  ·omega
  ·exact KeyOrd.kle_trans (h i (j - 1) (by omega) (by omega)) z
 ·obtain rfl : i = j:=by omega
  exact KeyOrd.kle_refl _
theorem zdU {xs : Array Keyed} {x : Nat} (h : NonIncK κ xs x) (hx : x = 0 \/ κ.kle (KK κ xs x) (KK κ xs (x - 1))) : NonIncK κ xs (x + 1):=fun i j hij hj=>by
 rcases Nat.lt_or_ge j x with hjx | hjx
 ·exact h i j hij hjx
 obtain rfl : j = x:=by omega
 rcases Nat.lt_or_ge i j with hi | hi
 ·rcases hx with z | z
  ·omega
  ·exact KeyOrd.kle_trans z (h i (j - 1) (by omega) (by omega))
 ·obtain rfl : i = j:=by omega
  exact KeyOrd.kle_refl _
theorem up_1 {xs : Array Keyed} : SortedToK κ xs 1:=zmC (fun _ _ _ hj=>absurd hj (Nat.not_lt_zero _)) (.inl rfl)
theorem rise (T : zgf prog w A s κ kd) (h0 : KeysOf κ o) (S : zbc kd o st) {b n : Nat} {Q : AscSt -> SortSt -> Prop} (hn : n <= o.size) (hb : 1 <= b) (hbn : b <= n) (hs : SortedToK κ (arrOf st) b)
 (q : ∀ m,b <= m -> m <= n -> SortedToK κ (arrOf st) m -> (m = n \/ κ.klt (KK κ (arrOf st) m) (KK κ (arrOf st) (m - 1))) -> Q (none,m) st) : wpS (model prog w) A E s (ascLoop b n) Q st:=by
 unfold ascLoop
 refine wpS_forRange (I:=fun m c u=>u = st /\ c = (none,m) /\ SortedToK κ (arrOf st) m) (fun m c u hbm hmn hI=>?_) (fun c u hI=>?_) ⟨rfl,rfl,hs⟩
 ·obtain ⟨rfl,rfl,up⟩:=hI
  refine wpS_bind (zex T h0 S (i:=m) (j:=m - 1) (by omega) (by omega) ?_)
  cases lt : κ.blt (KK κ (arrOf u) m) (KK κ (arrOf u) (m - 1)) with
  | true=>exact wpS_pure (q m hbm (by omega) up (.inr lt))
  | false=>exact wpS_pure ⟨rfl,rfl,zmC up (.inr lt)⟩
 ·obtain ⟨rfl,rfl,up⟩:=hI
  have e : max b n = n:=by omega
  rw [e] at up ⊢
  exact q n hbn (Nat.le_refl _) up (.inl rfl)
theorem zqE (T : zgf prog w A s κ kd) (h0 : KeysOf κ o) (S : zbc kd o st) {b n : Nat} {Q : Option Nat -> SortSt -> Prop} (hn : n <= o.size) (hb : 1 <= b) (hbn : b <= n) (hs : NonIncK κ (arrOf st) b)
 (q : ∀ m u,zbc kd o u -> 1 <= m -> m <= n -> SortedToK κ (arrOf u) m -> Q (some m) u) : wpS (model prog w) A E s (tail3 b n) Q st:=by
 have z : b <= (arrOf st).size:=by rw [S.sz]; omega
 have S' : zbc kd o (setArr st (mirror (arrOf st) 0 b ((b - 0) / 2))):=S.put (mirror_perm ..)
 unfold tail3
 refine wpS_bind (wpS_reverse (wpS_bind (rise T h0 S' hn hb hbn (fun i j hij hj=>?_) fun m h1 h2 up _=>wpS_pure (q m _ S' (by omega) h2 up))))
 show κ.kle (KK κ (mirror (arrOf st) 0 b ((b - 0) / 2)) i) (KK κ (mirror (arrOf st) 0 b _) j)
 rw [KK_mirror z i,KK_mirror z j,if_pos ⟨Nat.zero_le _,by omega⟩,if_pos ⟨Nat.zero_le _,by omega⟩]
 exact hs _ _ (by omega) (by omega)
theorem fall (T : zgf prog w A s κ kd) (h0 : KeysOf κ o) (S : zbc kd o st) {b n : Nat} {Q : DescSt -> SortSt -> Prop} (hn : n <= o.size) (hb : 1 <= b) (hbn : b <= n) (hs : NonIncK κ (arrOf st) b)
 (q : ∀ m e u,zbc kd o u -> b <= m -> m <= n -> NonIncK κ (arrOf u) m -> e + 1 <= m -> (∀ i,m - (e + 1) <= i -> i < m -> KK κ (arrOf u) i = KK κ (arrOf u) (m - 1)) -> Q (none,m,e) u) :
 wpS (model prog w) A E s (descLoop b n) Q st:=by
 unfold descLoop
 refine wpS_forRange (I:=fun m c u=>∃ e,c = (none,m,e) /\ zbc kd o u /\ NonIncK κ (arrOf u) m /\ e + 1 <= m /\ ∀ i,m - (e + 1) <= i -> i < m -> KK κ (arrOf u) i = KK κ (arrOf u) (m - 1))
  (fun m c u hbm hmn hI=>?_) (fun c u hI=>?_) ⟨0,rfl,S,hs,hb,fun i h1 h2=>congrArg _ (by omega)⟩
 ·obtain ⟨e,rfl,S',dn,he,al⟩:=hI
  have z : m <= (arrOf u).size:=by rw [S'.sz]; omega
  refine wpS_bind (zex T h0 S' (i:=m) (j:=m - 1) (by omega) (by omega) ?_)
  cases lt : κ.blt (KK κ (arrOf u) m) (KK κ (arrOf u) (m - 1)) with
  | true =>
    have dn':=zdU dn (.inr (KeyOrd.kle_of_klt lt))
    show wpS _ _ _ _ (if e > 0 then _ else _) _ u
    by_cases h : e > 0
    ·rw [if_pos h]
     refine wpS_bind (wpS_reverse (wpS_pure ⟨0,rfl,S'.put (mirror_perm ..),fun i j hij hj=>?_,Nat.succ_le_succ (Nat.zero_le _),fun i h1 h2=>congrArg _ (by omega)⟩))
     show κ.kle (KK κ (mirror _ _ _ _) j) (KK κ (mirror _ _ _ _) i)
     rw [KK_mirror_equal z al i,KK_mirror_equal z al j]
     exact dn' i j hij hj
    ·rw [if_neg h]
     exact wpS_pure ⟨0,rfl,S',dn',Nat.succ_le_succ (Nat.zero_le _),fun i h1 h2=>congrArg _ (by omega)⟩
  | false =>
    refine wpS_bind (zex T h0 S' (i:=m - 1) (j:=m) (by omega) (by omega) ?_)
    cases gt : κ.blt (KK κ (arrOf u) (m - 1)) (KK κ (arrOf u) m) with
    | true=>exact wpS_pure (q m e u S' hbm (by omega) dn he al)
    | false =>
      have same : KK κ (arrOf u) m = KK κ (arrOf u) (m - 1):=KeyOrd.kle_antisymm gt lt
      refine wpS_pure ⟨e + 1,rfl,S',zdU dn (.inr (same ▸ KeyOrd.kle_refl _)),by omega,fun i h1 h2=>?_⟩
      show KK κ (arrOf u) i = KK κ (arrOf u) m
      rcases Nat.lt_or_ge i m with h | h
      ·rw [same]
       exact al i (by omega) h
      ·rw [show i = m by omega]
 ·obtain ⟨e,rfl,S',dn,he,al⟩:=hI
  have ez : max b n = n:=by omega
  rw [ez] at dn he al ⊢
  exact q n e u S' hbn (Nat.le_refl _) dn he al
theorem zmN (T : zgf prog w A s κ kd) (h0 : KeysOf κ o) (S : zbc kd o st) {b n : Nat} {Q : Option Nat -> SortSt -> Prop} (hn : n <= o.size) (hbn : b + 1 <= n) (hs : NonIncK κ (arrOf st) (b + 1))
 (q : ∀ m u,zbc kd o u -> 1 <= m -> m <= n -> SortedToK κ (arrOf u) m -> Q (some m) u) : wpS (model prog w) A E s (descPart b n) Q st:=by
 unfold descPart
 refine wpS_bind (wpS_lift (wpAny_rule ⟨rfl,wpS_bind (fall T h0 S hn (Nat.succ_le_succ (Nat.zero_le _)) hbn hs fun m e u S' h1 h2 dn he al=>?_)⟩))
 have z : m <= (arrOf u).size:=by rw [S'.sz]; omega
 show wpS _ _ _ _ (if e > 0 then _ else _) _ u
 by_cases h : e > 0
 ·rw [if_pos h]
  refine wpS_bind (wpS_reverse (zqE (b:=m) T h0 (S'.put (mirror_perm ..)) hn (by omega) h2 (fun i j hij hj=>?_) q))
  show κ.kle (KK κ (mirror _ _ _ _) j) (KK κ (mirror _ _ _ _) i)
  rw [KK_mirror_equal z al i,KK_mirror_equal z al j]
  exact dn i j hij hj
 ·rw [if_neg h]
  exact zqE (b:=m) T h0 S' hn (by omega) h2 dn q
theorem zkX (T : zgf prog w A s κ kd) (h0 : KeysOf κ o) (S : zbc kd o st) {n : Nat} {Q : Option Nat -> SortSt -> Prop} (hn : n <= o.size) (h1 : 1 <= n)
 (q : ∀ m u,zbc kd o u -> 1 <= m -> m <= n -> SortedToK κ (arrOf u) m -> Q (some m) u) : wpS (model prog w) A E s (countRun' 0 n) Q st:=by
 rw [countRun0_eq]
 refine wpS_bind (rise T h0 S hn (Nat.le_refl 1) h1 up_1 fun m hm1 hm2 up hor=>?_)
 show wpS _ _ _ _ (if (m == n) = true then _ else _) _ st
 by_cases e : m = n
 ·rw [if_pos (beq_iff_eq.mpr e)]
  exact wpS_pure (q m st S hm1 hm2 up)
 rw [if_neg fun z=>e (beq_iff_eq.mp z)]
 have dip:=hor.resolve_left e
 by_cases h : m > 1
 ·rw [if_pos h]
  refine wpS_bind (zex T h0 S (i:=0) (j:=m - 1) (by omega) (by omega) ?_)
  cases rose : κ.blt (KK κ (arrOf st) 0) (KK κ (arrOf st) (m - 1)) with
  | true=>exact wpS_pure (q m st S hm1 hm2 up)
  | false =>
    have z : m <= (arrOf st).size:=by rw [S.sz]; omega
    have al : ∀ k,0 <= k -> k < m -> KK κ (arrOf st) k = KK κ (arrOf st) (m - 1):=fun k _ hk =>
     KeyOrd.kle_antisymm (up k (m - 1) (by omega) (by omega)) (KeyOrd.kle_trans rose (up 0 k (Nat.zero_le _) hk))
    have dn : NonIncK κ (arrOf st) (m + 1):=zdU (fun i j hij hj=>by rw [al i (Nat.zero_le _) (by omega),al j (Nat.zero_le _) hj]; exact KeyOrd.kle_refl _) (.inr (KeyOrd.kle_of_klt dip))
    refine wpS_bind (wpS_reverse (zmN T h0 (S.put (mirror_perm ..)) hn (by omega) (fun i j hij hj=>?_) q))
    show κ.kle (KK κ (mirror _ _ _ _) j) (KK κ (mirror _ _ _ _) i)
    rw [KK_mirror_equal z al i,KK_mirror_equal z al j]
    exact dn i j hij hj
 ·rw [if_neg h]
  obtain rfl : m = 1:=by omega
  exact zmN T h0 S hn (by omega) (zdU (fun i j hij hj=>by rw [show i = j by omega]; exact KeyOrd.kle_refl _) (.inr (KeyOrd.kle_of_klt dip))) q
theorem zpZ (T : zgf prog w A s κ kd) (h0 : KeysOf κ o) (S : zbc kd o st) {n ok : Nat} {Q : Bool -> SortSt -> Prop} (hn : n <= o.size) (hok : ok <= n) (h1 : 1 <= ok) (hs : SortedToK κ (arrOf st) ok)
 (q : ∀ u,zbc kd o u -> SortedToK κ (arrOf u) n -> Q true u) : wpS (model prog w) A E s (binarySort' 0 n ok) Q st:=by
 rw [binarySort'_eq]
 simp only [Nat.zero_add]
 have em : max ok 1 = ok:=by omega
 rw [em]
 refine wpS_bind (wpS_mono (wpS_forRange (I:=fun k c u=>c = (none,()) /\ zbc kd o u /\ SortedToK κ (arrOf u) k) (Q:=fun c u=>c = (none,()) /\ zbc kd o u /\ SortedToK κ (arrOf u) n)
  (fun k c u hk1 hk2 hI=>?_) (fun c u hI=>?_) ⟨rfl,S,hs⟩) fun c u hI=>?_)
 ·obtain ⟨rfl,S',up⟩:=hI
  have hk : k < o.size:=by omega
  refine wpS_bind (wpS_mono (wpS_forRange (I:=fun t c v=>v = u /\ ∃ l r,c = (none,l,r) /\ l <= r /\ r <= k /\ r - l <= k - t /\ (∀ i,i < l -> κ.kle (KK κ (arrOf u) i) (KK κ (arrOf u) k)) /\ ∀ i,r <= i -> i < k -> κ.klt (KK κ (arrOf u) k) (KK κ (arrOf u) i))
   (Q:=fun c v=>v = u /\ ∃ l,c = (none,l,l) /\ l <= k /\ (∀ i,i < l -> κ.kle (KK κ (arrOf u) i) (KK κ (arrOf u) k)) /\ ∀ i,l <= i -> i < k -> κ.klt (KK κ (arrOf u) k) (KK κ (arrOf u) i))
   (fun t c v _ ht hJ=>?_) (fun c v hJ=>?_) ⟨rfl,0,k,rfl,Nat.zero_le _,Nat.le_refl _,Nat.le_refl _,(fun i hi=>absurd hi (Nat.not_lt_zero _)),fun i h1 h2=>absurd h2 (by omega)⟩) fun c v hJ=>?_)
  ·obtain ⟨rfl,l,r,rfl,hlr,hrk,hm,lo,hi⟩:=hJ
   show wpS _ _ _ _ (if l ≥ r then _ else _) _ v
   by_cases h : l ≥ r
   ·rw [if_pos h]
    obtain rfl : l = r:=by omega
    exact wpS_pure ⟨rfl,l,rfl,hrk,lo,hi⟩
   ·rw [if_neg h]
    have m1 : l <= (l + r) / 2:=by omega
    have m2 : (l + r) / 2 < r:=by omega
    generalize (l + r) / 2 = mid at m1 m2 ⊢
    have m3 : mid < k:=Nat.lt_of_lt_of_le m2 hrk
    refine wpS_bind (zex T h0 S' (i:=k) (j:=mid) hk (Nat.lt_trans m3 hk) ?_)
    cases lt : κ.blt (KK κ (arrOf v) k) (KK κ (arrOf v) mid) with
    | true=>exact wpS_pure ⟨rfl,l,mid,rfl,m1,Nat.le_of_lt m3,by omega,lo,fun i a1 a2=>KeyOrd.klt_of_klt_of_kle lt (up _ _ a1 a2)⟩
    | false=>exact wpS_pure ⟨rfl,mid + 1,r,rfl,m2,hrk,by omega,fun i a1=>KeyOrd.kle_trans (up i mid (Nat.le_of_lt_succ a1) m3) lt,hi⟩
  ·obtain ⟨rfl,l,r,rfl,hlr,hrk,hm,lo,hi⟩:=hJ
   have e0 : max 0 k = k:=by omega
   rw [e0] at hm
   obtain rfl : l = r:=by omega
   exact ⟨rfl,l,rfl,hrk,lo,hi⟩
  ·obtain ⟨rfl,l,rfl,hlk,lo,hi⟩:=hJ
   have hks : k < (arrOf v).size:=S'.sz ▸ hk
   show wpS _ _ _ _ (moveDown' k l >>= fun _=>pure (ForInStep.yield (none,()))) _ v
   rw [moveDown'_eq]
   refine wpS_bind (wpS_modify (wpS_pure ⟨rfl,S'.put (bubble_perm ..),fun i j hij hj=>?_⟩))
   have el : k - (k - l) = l:=by omega
   show κ.kle (KK κ (bubble (arrOf v) k (k - l)) i) (KK κ (bubble (arrOf v) k _) j)
   rw [KK_bubble hks (Nat.sub_le _ _) i,KK_bubble hks (Nat.sub_le _ _) j,el]
   by_cases a1 : i = l <;> by_cases a2 : j = l <;> by_cases a3 : l < i /\ i <= k <;> by_cases a4 : l < j /\ j <= k <;>
    simp only [a1,a2,a3,a4,if_true,if_false] <;> first
    | (exfalso; omega)
    | exact KeyOrd.kle_refl _
    | exact lo _ (by omega)
    | exact KeyOrd.kle_of_klt (hi _ (by omega) (by omega))
    | exact up _ _ (by omega) (by omega)
 ·obtain ⟨rfl,S',up⟩:=hI
  have e : max ok n = n:=by omega
  rw [e] at up
  exact ⟨rfl,S',up⟩
 ·obtain ⟨rfl,S',up⟩:=hI
  exact wpS_pure (q u S' up)
theorem zkw (T : zgf prog w A s κ kd) (h0 : KeysOf κ o) (S : zbc kd o st) {Q : Unit -> SortSt -> Prop} (h2 : 2 <= o.size) (h64 : o.size < 64)
 (q : ∀ u,(arrOf u).Perm o -> failedOf u = none -> SortedToK κ (arrOf u) o.size -> Q () u) : wpS (model prog w) A E s sortRuns' Q st:=by
 have hm : minRun' o.size o.size 0 = o.size:=by
  cases e : o.size with
  | zero=>omega
  | succ f=>rw [minRun'_succ,if_pos (by omega),Nat.add_zero]
 rw [sortRuns'_eq]
 refine wpS_bind (wpS_get ?_)
 simp only [S.sz,hm]
 have fin : ∀ u,zbc kd o u -> SortedToK κ (arrOf u) o.size -> (arrOf (setPending u ((pendingOf u).push (0,o.size,0)))).Perm o /\ failedOf (setPending u ((pendingOf u).push (0,o.size,0))) = none /\
  pendingOf (setPending u ((pendingOf u).push (0,o.size,0))) = #[(0,o.size,0)] /\ SortedToK κ (arrOf (setPending u ((pendingOf u).push (0,o.size,0)))) o.size:=fun u S' up =>
  ⟨S'.pm,S'.fl,by show (pendingOf u).push (0,o.size,0) = _; rw [S'.pn]; rfl,up⟩
 refine wpS_bind (wpS_mono (wpS_forRange
  (I:=fun t c u=>(t = 0 /\ c = (none,0) /\ zbc kd o u) \/ (1 <= t /\ c = (none,o.size) /\ (arrOf u).Perm o /\ failedOf u = none /\ pendingOf u = #[(0,o.size,0)] /\ SortedToK κ (arrOf u) o.size))
  (Q:=fun c u=>c = (none,o.size) /\ (arrOf u).Perm o /\ failedOf u = none /\ pendingOf u = #[(0,o.size,0)] /\ SortedToK κ (arrOf u) o.size) (fun t c u _ ht hI=>?_) (fun c u hI=>?_) (.inl ⟨rfl,rfl,S⟩)) fun c u hI=>?_)
 ·rcases hI with ⟨rfl,rfl,S'⟩ | ⟨h1,rfl,hD⟩
  ·show wpS _ _ _ _ (if 0 ≥ o.size then _ else _) _ u
   rw [if_neg (by omega)]
   simp only [Nat.sub_zero,Nat.min_self,Nat.zero_add]
   refine wpS_bind (zkX T h0 S' (Nat.le_refl _) (by omega) fun m v S2 a1 a2 up=>?_)
   by_cases lt : m < o.size
   ·simp only [lt,if_true]
    refine wpS_bind (wpS_lift (wpAny_rule ⟨rfl,wpS_bind (zpZ T h0 S2 (Nat.le_refl _) a2 a1 up fun v' S3 up'=>?_)⟩))
    simp only [Bool.not_true,Bool.false_eq_true,if_false]
    refine wpS_bind (wpS_get ?_)
    have hb : (pendingOf v').back? = none:=S3.pn ▸ rfl
    rw [hb]
    exact wpS_bind (wpS_modify (wpS_pure (.inr ⟨Nat.le_refl _,rfl,fin v' S3 up'⟩)))
   ·simp only [lt,if_false]
    obtain rfl : m = o.size:=by omega
    refine wpS_bind (wpS_get ?_)
    have hb : (pendingOf v).back? = none:=S2.pn ▸ rfl
    rw [hb]
    exact wpS_bind (wpS_modify (wpS_pure (.inr ⟨Nat.le_refl _,rfl,fin v S2 up⟩)))
  ·show wpS _ _ _ _ (if o.size ≥ o.size then _ else _) _ u
   rw [if_pos (Nat.le_refl _)]
   exact wpS_pure ⟨rfl,hD⟩
 ·rcases hI with ⟨z,_,_⟩ | ⟨_,e,hD⟩
  ·omega
  ·exact ⟨e,hD⟩
 ·obtain ⟨rfl,p1,p2,p3,p4⟩:=hI
  refine wpS_bind (wpS_mono (wpS_forRange (I:=fun _ c v=>v = u /\ c = (none,())) (Q:=fun c v=>v = u /\ c = (none,())) (fun t c v _ _ hJ=>?_) (fun _ _ hJ=>hJ) ⟨rfl,rfl⟩) fun c v hJ=>?_)
  ·obtain ⟨rfl,rfl⟩:=hJ
   refine wpS_bind (wpS_get ?_)
   rw [if_pos (by rw [p3]; exact Nat.le_refl 1)]
   exact wpS_pure ⟨rfl,rfl⟩
  ·obtain ⟨rfl,rfl⟩:=hJ
   exact wpS_pure (q _ p1 p2 p4)
end
end Sr
namespace Sr
open PySem PyProof.Rows
def zhz : List Value -> Option (List Int)
 | []=>some []
 | .int n _ :: r=>(zhz r).map (n :: ·)
 | _ :: _=>none
theorem ziz : ∀ {vs : List Value} {ns : List Int},IntsAre vs ns -> zhz vs = some ns
 | _,_,.nil=>rfl
 | _,_,.cons n t h=>by
   show (zhz _).map (n :: ·) = _
   rw [ziz h]
   rfl
theorem ziM : ∀ {vs : List Value} {ns : List Int},zhz vs = some ns -> IntsAre vs ns
 | [],ns,h=>by cases h; exact .nil
 | v :: r,ns,h=>by
   cases v with
   | int n t =>
     have h' : (zhz r).map (n :: ·) = some ns:=h
     cases e : zhz r with
     | none=>rw [e] at h'; cases h'
     | some ms =>
       rw [e] at h'
       cases h'
       exact .cons n t (ziM e)
   | _=>cases h
def tupK (h : Heap) : Value -> Option (List Int)
 | .ref a=>match h.get? a with
   | some o=>match o.data with
     | .seq its _=>zhz its.toList
     | _=>none
   | none=>none
 | _=>none
theorem znx {h : Heap} {a : Addr} {its : Array Value} {ns : List Int} (t : IsTup h a its) (i : IntsAre its.toList ns) : tupK h (.ref a) = some ns:=by
 obtain ⟨o,e,_,n,d⟩:=t
 unfold tupK
 simp only [e,d]
 exact ziz i
theorem zkG {h : Heap} {v : Value} {ns : List Int} (k : tupK h v = some ns) : ∃ a o its n,v = .ref a /\ h.get? a = some o /\ o.data = .seq its n /\ IntsAre its.toList ns:=by
 cases v with
 | ref a =>
   unfold tupK at k
   cases e : h.get? a with
   | none=>simp only [e] at k; cases k
   | some o =>
     simp only [e] at k
     cases d : o.data with
     | seq its n=>simp only [d] at k; exact ⟨a,o,its,n,rfl,e,d,ziM k⟩
     | _=>simp only [d] at k; cases k
 | _=>cases k
theorem zfq : ∀ a : List Int,HT.zbz a a = false
 | []=>rfl
 | x :: xs=>by rw [HT.zcK,if_pos rfl]; exact zfq xs
theorem zeF : ∀ a b c : List Int,HT.zbz a b = true -> HT.zbz b c = true -> HT.zbz a c = true
 | [],[],_,h,_=>by cases h
 | [],_ :: _,[],_,h=>by cases h
 | [],_ :: _,_ :: _,_,_=>rfl
 | _ :: _,[],_,h,_=>by cases h
 | _ :: _,_ :: _,[],_,h=>by cases h
 | x :: xs,y :: ys,z :: zs,h1,h2=>by
   rw [HT.zcK] at h1 h2 ⊢
   by_cases e1 : x = y
   ·subst e1
    rw [if_pos rfl] at h1
    by_cases e2 : x = z
    ·subst e2
     rw [if_pos rfl] at h2 ⊢
     exact zeF xs ys zs h1 h2
    ·rw [if_neg e2] at h2 ⊢
     exact h2
   ·rw [if_neg e1] at h1
    have l1:=of_decide_eq_true h1
    by_cases e2 : y = z
    ·subst e2
     rw [if_neg e1]
     exact h1
    ·rw [if_neg e2] at h2
     have l2:=of_decide_eq_true h2
     rw [if_neg (by omega)]
     exact decide_eq_true (by omega)
theorem zem : ∀ a b : List Int,HT.zbz a b = false -> HT.zbz b a = false -> a = b
 | [],[],_,_=>rfl
 | [],_ :: _,h,_=>by cases h
 | _ :: _,[],_,h=>by cases h
 | x :: xs,y :: ys,h1,h2=>by
   rw [HT.zcK] at h1 h2
   by_cases e : x = y
   ·subst e
    rw [if_pos rfl] at h1 h2
    rw [zem xs ys h1 h2]
   ·rw [if_neg e] at h1
    rw [if_neg (Ne.symm e)] at h2
    have l1:=of_decide_eq_false h1
    have l2:=of_decide_eq_false h2
    omega
theorem znk (a b c : List Int) (h : HT.zbz a c = true) : HT.zbz a b = true \/ HT.zbz b c = true:=by
 cases e1 : HT.zbz a b with
 | true=>exact .inl rfl
 | false =>
   cases e2 : HT.zbz b c with
   | true=>exact .inr rfl
   | false =>
     exfalso
     cases e3 : HT.zbz b a with
     | true =>
       have:=zeF b a c e3 h
       rw [e2] at this
       cases this
     | false =>
       rw [zem a b e1 e3,e2] at h
       cases h
def kT (h : Heap) : KeyKind where
 α:=List Int
 blt:=HT.zbz
 irrefl:=zfq
 trans:=zeF
 negTrans:=znk
 total:=zem
 keyOf:=tupK h
 dflt:=[]
section
variable {prog : Program} {w : World} {A : Around} {E : Value -> Shared -> Prop} {s : Shared}
theorem zkV (f : Bool) (x y : Value) : keyLt' (tuples' f) x y = (do
 let xs <- Builtin.List.listItems x
 let ys <- Builtin.List.listItems y
 for ((p,q),i) in (xs.toList.zip ys.toList).zipIdx do
  if !(<- eqBool p q) then return <- oneLt' (f && i == 0) p q
 return decide (xs.size < ys.size)):=rfl
theorem zlQ {f : Bool} {a b : Int} {t u : Tok} {Q : Bool -> Shared -> Prop} (q : Q (decide (a < b)) s) : wpAny (model prog w) A (oneLt' f (.int a t) (.int b u)) Q E s:=by
 cases f with
 | true=>exact oneLt_int q
 | false =>
   rw [oneLt'_eq]
   simp only [Bool.false_eq_true,if_false]
   exact wpAny_bind (HT.zmb A s a t b u prog w E _ (wpAny_truthy_bool q))
theorem zkh (f : Bool) : zgf prog w A s (kT s.heap) (tuples' f):=by
 intro E x y a b Q kx ky q
 obtain ⟨ax,ox,ix,nx,rfl,ex,dx,rx⟩:=zkG (show tupK s.heap x = some a from kx)
 obtain ⟨ay,oy,iy,ny,rfl,ey,dy,ry⟩:=zkG (show tupK s.heap y = some b from ky)
 rw [zkV]
 refine wpAny_bind (listItems_at ex dx (wpAny_bind (listItems_at ey dy ?_)))
 have zx : ix.size = a.length:=by rw [<- rx.length]; simp
 have zy : iy.size = b.length:=by rw [<- ry.length]; simp
 refine wpAny_bind (wpAny_mono (wpAny_forIn_list _ (fun rest (c : Option Bool × PUnit) u=>c.1 = none /\ u = s /\ ∃ (vs ws : List Value) (ns ms : List Int) (k : Nat),rest = (vs.zip ws).zipIdx k /\ IntsAre vs ns /\ IntsAre ws ms /\ ns.length + iy.size = ms.length + ix.size /\ HT.zbz ns ms = HT.zbz a b)
  (fun (c : Option Bool × PUnit) u=>u = s /\ (c.1 = some (HT.zbz a b) \/ (c.1 = none /\ HT.zbz a b = decide (ix.size < iy.size)))) ?_ ?_ _ _ ⟨rfl,rfl,ix.toList,iy.toList,a,b,0,rfl,rx,ry,by omega,rfl⟩) ?_ fun _ _ z=>z)
 ·rintro ⟨⟨p,p'⟩,i⟩ rest c u ⟨hc,rfl,vs,ws,ns,ms,k,hr,hv,hw,hl,he⟩
  cases hv with
  | nil=>rw [List.zip_nil_left] at hr; cases hr
  | cons m t hv' =>
    cases hw with
    | nil=>rw [List.zip_nil_right] at hr; cases hr
    | cons m' t' hw' =>
      rw [List.zip_cons_cons,List.zipIdx_cons] at hr
      injection hr with h1 h2
      injection h1 with h3 h4
      injection h3 with h5 h6
      subst h5 h6
      rw [HT.zcK] at he
      simp only [List.length_cons] at hl
      refine wpAny_bind (SeqAt.EqAt.int_int m t m' t' prog w E _ ?_)
      by_cases e : m = m'
      ·subst e
       rw [if_pos rfl] at he
       rw [beq_self_eq_true]
       exact wpAny_pure ⟨rfl,rfl,_,_,_,_,_,h2,hv',hw',by omega,he⟩
      ·rw [if_neg e] at he
       have eb : (m == m') = false:=beq_eq_false_iff_ne.mpr e
       rw [eb]
       refine wpAny_bind (zlQ (wpAny_pure ⟨rfl,.inl ?_⟩))
       rw [he]
 ·rintro c u ⟨hc,rfl,vs,ws,ns,ms,k,hr,hv,hw,hl,he⟩
  refine ⟨rfl,.inr ⟨hc,?_⟩⟩
  rw [<- he]
  cases hv with
  | nil =>
    cases hw with
    | nil =>
      simp only [List.length_nil] at hl
      exact (decide_eq_false (by omega)).symm
    | cons m' t' hw' =>
      simp only [List.length_nil,List.length_cons] at hl
      exact (decide_eq_true (by omega)).symm
  | cons m t hv' =>
    cases hw with
    | nil =>
      simp only [List.length_nil,List.length_cons] at hl
      exact (decide_eq_false (by omega)).symm
    | cons m' t' hw'=>rw [List.zip_cons_cons,List.zipIdx_cons] at hr; cases hr
 ·rintro ⟨c1,c2⟩ u ⟨rfl,h | ⟨h,h'⟩⟩
  ·have h : c1 = some (HT.zbz a b):=h
   subst h
   exact wpAny_pure q
  ·have h : c1 = none:=h
   subst h
   have q' : Q (HT.zbz a b) u:=q
   rw [h'] at q'
   exact wpAny_pure q'
theorem zhu {β : Type} {f : Value -> Sem β} (g : Value -> β) : ∀ (l : List Value) (Q : List β -> Shared -> Prop),(∀ v ∈ l,∀ Q' : β -> Shared -> Prop,Q' (g v) s -> wpAny (model prog w) A (f v) Q' E s) -> Q (l.map g) s -> wpAny (model prog w) A (l.mapM f) Q E s
 | [],Q,_,q=>by rw [List.mapM_nil]; exact wpAny_pure q
 | v :: l,Q,h,q=>by
   rw [List.mapM_cons]
   refine wpAny_bind (h v List.mem_cons_self _ (wpAny_bind (zhu g l _ (fun u hu=>h u (List.mem_cons_of_mem _ hu)) (wpAny_pure q))))
def Head (h : Heap) (v : Value) : Prop:=∃ (a : Addr) (its : List Value) (n : Int) (t : Tok) (r : List Value),v = .ref a /\ IsTup h a its.toArray /\ its = .int n t :: r
def zcD (h : Heap) : Value -> Option Value
 | .ref a=>match h.get? a with
   | some o=>match o.data with
     | .seq its _=>its[0]?
     | _=>none
   | none=>none
 | _=>none
theorem zly {v : Value} (H : Head s.heap v) {Q : Option Value -> Shared -> Prop} (q : Q (zcD s.heap v) s) : wpAny (model prog w) A (firstOfTuple' v) Q E s:=by
 obtain ⟨a,its,n,t,r,rfl,ht,rfl⟩:=H
 obtain ⟨o,e,c,k,d⟩:=id ht
 have eq : firstOfTuple' (.ref a) = (do
  if (<- typeOf (.ref a)) != .type "tuple" then return none
  return (<- Builtin.List.listItems (.ref a))[0]?):=rfl
 rw [eq]
 refine wpAny_bind (wpAny_typeOf ht.typeIs ?_)
 rw [if_neg (by decide)]
 refine wpAny_bind (listItems_at e d (wpAny_pure ?_))
 have hq : zcD s.heap (.ref a) = ((Value.int n t :: r).toArray)[0]?:=by unfold zcD; simp only [e,d]
 rw [hq] at q
 exact q
theorem zkx {v : Value} (H : Head s.heap v) : ∃ n t,zcD s.heap v = some (.int n t):=by
 obtain ⟨a,its,n,t,r,rfl,⟨o,e,c,k,d⟩,rfl⟩:=H
 exact ⟨n,t,by unfold zcD; simp only [e,d]; rfl⟩
theorem zmv {vs : List Value} (H : ∀ v ∈ vs,Head s.heap v) (hne : vs ≠ []) {Q : SortKind -> Shared -> Prop} (q : Q (tuples' true) s) : wpAny (model prog w) A (keyKind' vs.toArray) Q E s:=by
 rw [keyKind'_eq,List.mapM_toArray]
 have hsm : ∀ v ∈ vs,∃ n t,zcD s.heap v = some (.int n t):=fun v hv=>zkx (H v hv)
 refine wpAny_bind (m:=List.toArray <$> _) (wpAny_bind (zhu (zcD s.heap) vs _ (fun v hv Q' q'=>zly (H v hv) q') (wpAny_pure ?_)))
 have hall : ((vs.map (zcD s.heap)).toArray.all fun x=>x.isSome) = true:=by
  simp only [List.all_toArray,List.all_map,List.all_eq_true]
  intro v hv
  obtain ⟨n,t,e⟩:=hsm v hv
  show (zcD s.heap v).isSome = true
  rw [e]
  rfl
 rw [if_pos hall]
 refine wpAny_bind (wpAny_rule ?_)
 rw [oneTypeOnly'_eq]
 have hfm : ((vs.map (zcD s.heap)).toArray.filterMap id) = (vs.filterMap (zcD s.heap)).toArray:=by
  simp [List.filterMap_map]
 rw [hfm,List.mapM_toArray]
 have htys : ∀ v ∈ vs.filterMap (zcD s.heap),∃ n t,v = .int n t:=fun v hv=>by
  obtain ⟨u,hu,e⟩:=List.mem_filterMap.mp hv
  obtain ⟨n,t,e'⟩:=hsm u hu
  rw [e'] at e
  exact ⟨n,t,(Option.some.inj e).symm⟩
 refine wpAny_bind (wpAny_bind (m:=List.toArray <$> _) (wpAny_bind (zhu (fun _=>Value.type "int") (vs.filterMap (zcD s.heap)) _ (fun v hv Q' q'=>?_) (wpAny_pure ?_))))
 ·obtain ⟨n,t,rfl⟩:=htys v hv
  exact wpAny_typeOf (typeIs_int s n t) q'
 ·obtain ⟨v0,r,rfl⟩:=List.exists_cons_of_ne_nil hne
  obtain ⟨n,t,e⟩:=hsm v0 List.mem_cons_self
  have hfc : (v0 :: r).filterMap (zcD s.heap) = .int n t :: r.filterMap (zcD s.heap):=by rw [List.filterMap_cons,e]
  rw [hfc]
  have e0 : (List.map (fun _=>Value.type "int") (Value.int n t :: r.filterMap (zcD s.heap))).toArray[0]? = some (.type "int"):=by simp
  have ea : ((List.map (fun _=>Value.type "int") (Value.int n t :: r.filterMap (zcD s.heap))).toArray.all fun x=>x == Value.type "int") = true:=by
   simp only [List.all_toArray,List.all_map,List.all_eq_true]
   intro _ _
   rfl
  rw [e0]
  show wpAny _ _ (pure (if (Array.all _ fun x=>x == Value.type "int") = true then some (Value.type "int") else none)) _ _ _
  rw [if_pos ea]
  exact wpAny_pure (wpAny_pure q)
end
end Sr
namespace Sr
open PySem PyProof.Rows
theorem zdD {α β : Type} {f : α -> β} : ∀ {l : List β} {ts : List α},l.Perm (ts.map f) -> ∃ ts' : List α,ts'.Perm ts /\ l = ts'.map f
 | [],ts,h=>by
   have e:=h.symm.eq_nil
   exact ⟨[],by rw [List.map_eq_nil_iff.mp e],rfl⟩
 | b :: l,ts,h=>by
   have hb : b ∈ ts.map f:=h.mem_iff.mp List.mem_cons_self
   obtain ⟨t,ht,rfl⟩:=List.mem_map.mp hb
   obtain ⟨p,r,rfl⟩:=List.append_of_mem ht
   have h2 : (f t :: l).Perm (f t :: (p ++ r).map f):=by
    refine h.trans ?_
    rw [List.map_append,List.map_cons,List.map_append]
    exact List.perm_middle
   obtain ⟨ts',p1,rfl⟩:=zdD (List.Perm.cons_inv h2)
   exact ⟨t :: ts',(p1.cons t).trans List.perm_middle.symm,rfl⟩
section
variable {prog : Program} {w : World} {A : Around} {E : Value -> Shared -> Prop} {s : Shared}
theorem zeY {a : Addr} {vs : List Value} {n : Nat} {R : Fin -> Shared -> Prop} (ho : s.heap.get? a = some (seqObj "list" vs.toArray n)) (hh : ∀ v ∈ vs,Head s.heap v) (hk : ∀ v ∈ vs,∃ ns,tupK s.heap v = some ns) (h64 : vs.length < 64)
 (q : ∀ xs : Array Keyed,xs.Perm (pairsOf vs) -> SortedToK (kT s.heap) xs vs.length -> R (.done (.ret .none)) { s with heap:=sortedHeap s.heap a vs (xs.map (·.2)) }) :
 wpAny (model prog w) A (Builtin.«list.sort» ⟨[.ref a],[]⟩) R E s:=by
 have hlt : a < s.heap.objs.size:=Heap.lt_size ho
 rw [list_sort_plain]
 refine wpAny_bind (listItems_at ho rfl (wpAny_bind (listUpdate_at ho rfl ?_)))
 obtain ⟨e1,ho1⟩ : ∃ e1,(s.heap.update a (Obj.mapSeq fun _=>#[])).get? a = some (seqObj "list" #[] e1):=⟨_,get?_update_seq ho (fun _=>#[])⟩
 refine wpAny_bind (seqEpoch_at ho1 rfl (wpAny_bind (wpAny_newTuple (wpAny_bind (wpAny_newList (wpAny_holding ?_))))))
 generalize hg : ((s.heap.update a (Obj.mapSeq fun _=>#[])).push (seqObj "tuple" vs.toArray 0)).push (seqObj "list" #[] 0) = g
 have other : ∀ b ob,b ≠ a -> s.heap.get? b = some ob -> g.get? b = some ob:=fun b ob hb e=>by
  rw [<- hg]
  exact Heap.get?_push_of_some _ (Heap.get?_push_of_some _ ((Heap.get?_update_other _ _ (Ne.symm hb)).trans e))
 have ho6 : g.get? a = some (seqObj "list" #[] e1):=by
  rw [<- hg]
  exact Heap.get?_push_of_some _ (Heap.get?_push_of_some _ ho1)
 show wpAny (model prog w) A _ R E { s with heap:=g }
 dsimp only
 have q' : ∀ xs : Array Keyed,xs.Perm (pairsOf vs) -> SortedToK (kT s.heap) xs vs.length -> R (.done (.ret .none)) { s with heap:=g.update a (Obj.mapSeq fun _=>xs.map (·.2)) }:=fun xs h1 h2=>by
  have:=q xs h1 h2
  unfold sortedHeap at this
  rw [hg] at this
  exact this
 have hsz : vs.toArray.size = vs.length:=by simp
 have long : ∀ {xs : Array Keyed},xs.Perm (pairsOf vs) -> (xs.map (·.2)).size <= sizeLine + 1:=fun {xs} h=>by
  rw [Array.size_map,h.size_eq,pairsOf_size,sizeLine_eq]
  omega
 by_cases h2 : vs.toArray.size < 2
 ·simp only [h2,if_true]
  refine wpAny_bind (wpAny_pure ?_)
  rw [StateT.run_pure]
  refine wpAny_bind (wpAny_pure ?_)
  refine wpAny_bind (seqEpoch_at ho6 rfl (wpAny_bind (listUpdate_at ho6 rfl ?_ (hsz2:=long (Array.Perm.refl _)))))
  simp only [bne_self_eq_false,Bool.false_eq_true,if_false]
  refine wpAny_pure (q' _ (Array.Perm.refl _) fun i j hij hj=>?_)
  have e : i = j:=by omega
  rw [e]
  exact KeyOrd.kle_refl _
 ·simp only [h2,if_false]
  have two : 2 <= vs.length:=by omega
  have nev : vs ≠ []:=fun z=>by rw [z] at two; exact absurd two (by decide)
  have notList : ∀ v ∈ vs,∀ b,v = .ref b -> b ≠ a:=fun v hv b e z=>by
   obtain ⟨b',its,m,t,r,e',⟨ob,eb,cb,_⟩,_⟩:=hh v hv
   subst e
   injection e' with e'
   subst e' z
   rw [ho] at eb
   have eo : seqObj "list" vs.toArray n = ob:=Option.some.inj eb
   rw [<- eo] at cb
   have cb' : Value.type "list" = Value.type "tuple":=cb
   injection cb' with cb''
   exact absurd cb'' (by decide)
  have sameK : ∀ v ∈ vs,tupK g v = tupK s.heap v:=fun v hv=>by
   obtain ⟨b,its,m,t,r,rfl,⟨ob,eb,cb,k,db⟩,_⟩:=hh v hv
   unfold tupK
   simp only [eb,other b ob (notList _ hv b rfl) eb]
  have hh6 : ∀ v ∈ vs,Head g v:=fun v hv=>by
   obtain ⟨b,its,m,t,r,rfl,⟨ob,eb,rest⟩,hi⟩:=hh v hv
   exact ⟨b,its,m,t,r,rfl,⟨ob,other b ob (notList _ hv b rfl) eb,rest⟩,hi⟩
  have hk6 : KeysOf (kT g) (pairsOf vs):=fun p hp=>by
   rw [pairsOf_toList] at hp
   obtain ⟨_,hm⟩:=mem_zip_self hp
   obtain ⟨ns,e⟩:=hk _ hm
   exact ⟨ns,(sameK _ hm).trans e⟩
  refine wpAny_bind (zmv (s:={ s with heap:=g }) hh6 nev ?_)
  refine wpAny_bind (wpAny_mono (zkw (κ:=kT g) (kd:=tuples' true) (o:=pairsOf vs) (st:=SortSt.mk' (tuples' true) (vs.toArray.zip vs.toArray) #[] 7 none)
   (Q:=fun _ u=>(arrOf u).Perm (pairsOf vs) /\ failedOf u = none /\ SortedToK (kT g) (arrOf u) (pairsOf vs).size) (zkh (s:={ s with heap:=g }) true) hk6 ⟨Array.Perm.refl _,rfl,rfl,rfl⟩ (by rw [pairsOf_size]; exact two)
   (by rw [pairsOf_size]; exact h64) fun u h1 h2 h3=>⟨h1,h2,h3⟩) ?_ fun _ _ z=>z)
  rintro ⟨⟨⟩,u⟩ s' ⟨rfl,hp,hf,hs⟩
  refine wpAny_bind (seqEpoch_at ho6 rfl (wpAny_bind (listUpdate_at ho6 rfl ?_ (hsz2:=long hp))))
  rw [hf]
  simp only [bne_self_eq_false,Bool.false_eq_true,if_false]
  refine wpAny_pure (q' _ hp fun i j hij hj=>?_)
  have kk : ∀ i,i < vs.length -> KK (kT s.heap) (arrOf u) i = KK (kT g) (arrOf u) i:=fun i hi=>by
   have hi' : i < (arrOf u).size:=by rw [hp.size_eq,pairsOf_size]; exact hi
   have e:=getElem?_pos (arrOf u) i hi'
   have hin : (arrOf u)[i] ∈ (pairsOf vs).toList:=(Array.perm_iff_toList_perm.mp hp).mem_iff.mp (by simp)
   rw [pairsOf_toList] at hin
   obtain ⟨_,hm⟩:=mem_zip_self hin
   simp only [KK,e]
   show (tupK s.heap _).getD [] = (tupK g _).getD []
   rw [sameK _ hm]
  rw [kk i (by omega),kk j hj]
  exact hs i j hij (by rw [pairsOf_size]; exact hj)
theorem zik {l : Addr} {vs : List Value} {Q : Value -> Shared -> Prop} (hl : s.heap.IsList l vs.toArray) (hh : ∀ v ∈ vs,Head s.heap v) (hk : ∀ v ∈ vs,∃ ns,tupK s.heap v = some ns) (h64 : vs.length < 64)
 (q : ∀ (xs : Array Keyed) (h' : Heap) (n : Nat),xs.Perm (pairsOf vs) -> SortedToK (kT s.heap) xs vs.length -> h'.get? (s.heap.objs.size + 1) = some (seqObj "list" (xs.map (·.2)) n) -> (∀ b o,s.heap.get? b = some o -> h'.get? b = some o) ->
   Q (.ref (s.heap.objs.size + 1)) { s with heap:=h' }) :
 wpAny (model prog w) A (call (.builtin "sorted") [.ref l]) Q E s:=by
 refine Calls.call_function_entry kind_sorted plain_sorted entry_sorted (args_sorted1 _) ?_
 unfold Builtin.«sorted»
 refine wpAny_bind (m:=checkCount "sorted" 1 1 _) (wpAny_pure (wpAny_bind (collect_list hl (wpAny_bind (wpAny_newList ?_)))))
 generalize hg : (s.heap.push (seqObj "list" #[] 0)).update s.heap.objs.size (Obj.mapSeq (·++ vs.toArray)) = g
 have zg : g.objs.size = s.heap.objs.size + 1:=by rw [<- hg,Heap.size_update,size_push']
 have og : ∀ b o,s.heap.get? b = some o -> g.get? b = some o:=fun b o e=>by
  rw [<- hg]
  exact (Heap.get?_update_other _ _ (Nat.ne_of_gt (Heap.lt_size e))).trans (Heap.get?_push_of_some _ e)
 show wpAny _ _ _ _ _ { s with heap:=g.push (seqObj "list" vs.toArray 0) }
 rw [zg]
 have hoL : (g.push (seqObj "list" vs.toArray 0)).get? (s.heap.objs.size + 1) = some (seqObj "list" vs.toArray 0):=by rw [<- zg]; exact Heap.get?_push_size _ rfl
 have ol : ∀ b o,s.heap.get? b = some o -> (g.push (seqObj "list" vs.toArray 0)).get? b = some o:=fun b o e=>Heap.get?_push_of_some _ (og b o e)
 have sameK : ∀ v ∈ vs,tupK (g.push (seqObj "list" vs.toArray 0)) v = tupK s.heap v:=fun v hv=>by
  obtain ⟨b,its,m,t,r,rfl,⟨ob,eb,cb,k,db⟩,_⟩:=hh v hv
  unfold tupK
  simp only [eb,ol b ob eb]
 refine wpAny_bind (wpAny_holding (wpAny_call_entry slot_list_sort ⟨_,hoL,rfl⟩ entry_list_sort (zeY (s:={ s with heap:=g.push (seqObj "list" vs.toArray 0) }) hoL (fun v hv=>?_) (fun v hv=>?_) h64 fun xs h1 h2=>⟨_,rfl,?_⟩) (args_list_sort _)))
 ·obtain ⟨b,its,m,t,r,e,⟨ob,eb,rest⟩,hi⟩:=hh v hv
  exact ⟨b,its,m,t,r,e,⟨ob,ol b ob eb,rest⟩,hi⟩
 ·obtain ⟨ns,e⟩:=hk v hv
  exact ⟨ns,(sameK v hv).trans e⟩
 ·have kk : SortedToK (kT s.heap) xs vs.length:=fun i j hij hj=>by
   have one : ∀ i,i < vs.length -> KK (kT s.heap) xs i = KK (kT (g.push (seqObj "list" vs.toArray 0))) xs i:=fun i hi=>by
    have hi' : i < xs.size:=by rw [h1.size_eq,pairsOf_size]; exact hi
    have e:=getElem?_pos xs i hi'
    have hin : xs[i] ∈ (pairsOf vs).toList:=(Array.perm_iff_toList_perm.mp h1).mem_iff.mp (by simp)
    rw [pairsOf_toList] at hin
    obtain ⟨_,hm⟩:=mem_zip_self hin
    simp only [KK,e]
    show (tupK s.heap _).getD [] = (tupK _ _).getD []
    rw [sameK _ hm]
   rw [one i (by omega),one j hj]
   exact h2 i j hij hj
  generalize hf : sortedHeap (g.push (seqObj "list" vs.toArray 0)) (s.heap.objs.size + 1) vs (xs.map (·.2)) = h'
  obtain ⟨m,em⟩ : ∃ m,h'.get? (s.heap.objs.size + 1) = some (seqObj "list" (xs.map (·.2)) m):=by
   rw [<- hf]
   unfold sortedHeap
   obtain ⟨e1,ho1⟩ : ∃ e1,((g.push (seqObj "list" vs.toArray 0)).update (s.heap.objs.size + 1) (Obj.mapSeq fun _=>#[])).get? (s.heap.objs.size + 1) = some (seqObj "list" #[] e1):=⟨_,get?_update_seq hoL (fun _=>#[])⟩
   exact ⟨_,get?_update_seq (Heap.get?_push_of_some _ (Heap.get?_push_of_some _ ho1)) (fun _=>xs.map (·.2))⟩
  have keep : ∀ b o,s.heap.get? b = some o -> h'.get? b = some o:=fun b o e=>by
   have hb : b ≠ s.heap.objs.size + 1:=Nat.ne_of_lt (Nat.lt_succ_of_lt (Heap.lt_size e))
   rw [<- hf]
   unfold sortedHeap
   exact (Heap.get?_update_other _ _ (Ne.symm hb)).trans (Heap.get?_push_of_some _ (Heap.get?_push_of_some _ ((Heap.get?_update_other _ _ (Ne.symm hb)).trans (ol b o e))))
  exact wpAny_pure ⟨_,rfl,q xs h' m h1 kk em keep⟩
end
end Sr
namespace L2
open PySem PySem.Spec PyProof.Rows
abbrev TI2:=Addr × List Int
def zch (ts : List TI2) : List V:=ts.map fun t=>.ref t.1
section
variable {X : Cx}
theorem ziQ {α β : Type} (f : α -> β) : ∀ l : List α,(l.map f).zip (l.map f) = l.map fun t=>(f t,f t)
 | []=>rfl
 | t :: l=>by rw [List.map_cons,List.zip_cons_cons,ziQ f l,List.map_cons]
theorem zgQ : ∀ {ts : List TI2} {us : List Value},Vals (zch ts) us -> us = ts.map fun t=>Value.ref t.1
 | [],us,r=>by cases r; rfl
 | t :: ts,us,r=>by
   cases r with
   | cons r1 r2 =>
     have e : _ = Value.ref t.1:=r1
     rw [e,zgQ r2]
     rfl
theorem zdE : ∀ ts : List TI2,Vals (zch ts) (ts.map fun t=>Value.ref t.1)
 | []=>.nil
 | t :: ts=>.cons rfl (zdE ts)
theorem zhT : zdh X (.builtin "sorted") (fun xs H Q=>∃ p ts,xs = [.ref p] /\ SqL X.K H p (zch ts) /\ (∀ t ∈ ts,SqT X.K H t.1 (t.2.map V.int) /\ t.2 ≠ []) /\ ts.length < 64 /\
 ∀ (l : Addr) (ts' : List TI2),H l = none -> ts'.Perm ts -> ts'.Pairwise (fun a b=>HT.zbz b.2 a.2 = false) -> Q (.ref l) (upd H l (.lst (zch ts')))):=by
 intro pins s σ H xs us Q I r h
 obtain ⟨p,ts,rfl,hq,ht,h64,q⟩:=h
 obtain ⟨u,rfl,ru⟩:=zfa r
 cases ru
 obtain ⟨its,rv,pl,hz⟩:=I.list hq
 have ei:=zgQ rv
 subst ei
 have tup : ∀ t ∈ ts,∃ vs,IsTup s.heap t.1 vs.toArray /\ IntsAre vs t.2:=fun t hm=>by
  obtain ⟨vs,r2,p2,_⟩:=I.tuple (ht t hm).1
  exact ⟨vs,p2,zjj r2⟩
 have key : ∀ t ∈ ts,Sr.tupK s.heap (.ref t.1) = some t.2:=fun t hm=>by
  obtain ⟨vs,p2,i2⟩:=tup t hm
  exact Sr.znx p2 (by simpa using i2)
 have e0 : H (s.heap.objs.size + 1) = none:=I.hok.fresh (Nat.le_succ _)
 refine Sr.zik (vs:=ts.map fun t=>Value.ref t.1) pl.isList (fun v hv=>?_) (fun v hv=>?_) (by rw [List.length_map]; exact h64) fun xs h' n hp hs hl hk=>?_
 ·obtain ⟨t,hm,rfl⟩:=List.mem_map.mp hv
  obtain ⟨ta,tn⟩:=t
  obtain ⟨vs,p2,i2⟩:=tup (ta,tn) hm
  have hne:=(ht (ta,tn) hm).2
  have i2 : IntsAre vs tn:=i2
  cases i2 with
  | nil=>exact absurd rfl hne
  | cons m tk r2=>exact ⟨ta,_,m,tk,_,rfl,p2,rfl⟩
 ·obtain ⟨t,hm,rfl⟩:=List.mem_map.mp hv
  exact ⟨t.2,key t hm⟩
 ·have pl2 : xs.toList.Perm ((ts.map fun t=>Value.ref t.1).zip (ts.map fun t=>Value.ref t.1)):=by rw [<- pairsOf_toList]; exact Array.perm_iff_toList_perm.mp hp
  have ez : ((ts.map fun t=>Value.ref t.1).zip (ts.map fun t=>Value.ref t.1)) = ts.map fun t=>(Value.ref t.1,Value.ref t.1):=by
   exact ziQ _ ts
  rw [ez] at pl2
  obtain ⟨ts',p1,e1⟩:=Sr.zdD pl2
  have eo : (xs.map (·.2)) = (ts'.map fun t=>Value.ref t.1).toArray:=by
   apply Array.toList_inj.mp
   rw [Array.toList_map,e1,List.map_map]
   rfl
  have hlen : xs.size = ts'.length:=by
   have:=congrArg List.length e1
   rw [List.length_map] at this
   simpa using this
  have srt : ts'.Pairwise (fun a b=>HT.zbz b.2 a.2 = false):=by
   rw [List.pairwise_iff_getElem]
   intro i j hi hj hij
   have h3:=hs i j (Nat.le_of_lt hij) (by rw [List.length_map,<- p1.length_eq]; exact hj)
   have kk : ∀ k (hk : k < ts'.length),KK (Sr.kT s.heap) xs k = ts'[k].2:=fun k hk'=>by
    have hk2 : k < xs.size:=by rw [hlen]; exact hk'
    have e:=getElem?_pos xs k hk2
    have e2 : xs[k] = (Value.ref ts'[k].1,Value.ref ts'[k].1):=by
     have e3 : xs.toList[k]? = some (Value.ref ts'[k].1,Value.ref ts'[k].1):=by rw [e1,List.getElem?_map,List.getElem?_eq_getElem hk'] <;> rfl
     have e4 : xs.toList[k]? = some xs[k]:=by rw [Array.getElem?_toList]; exact e
     rw [e4] at e3
     exact Option.some.inj e3
    simp only [KK,e,e2]
    show (Sr.tupK s.heap (Value.ref ts'[k].1)).getD [] = _
    rw [key _ (p1.mem_iff.mp (List.getElem_mem hk'))]
    rfl
   rw [kk i hi,kk j hj] at h3
   exact h3
  refine ⟨.ref (s.heap.objs.size + 1),_,I.laid (t':=s.toks) (o:=.lst (zch ts')) hk (Nat.le_succ _) ⟨?_,_,n,zdE ts',?_⟩,rfl,q _ ts' e0 p1 srt⟩
  ·unfold zch
   rw [List.length_map,p1.length_eq]
   exact zay (by omega)
  ·rw [hl,eo]
end
end L2
namespace L2
open PySem PySem.Spec PyProof.Rows
section
variable {X : Cx}
end
end L2
namespace L2
open PySem PySem.Spec PyProof.Rows
section
variable {X : Cx} {e st : Expr} {te tst : TE} {pos p2 : Pos}
end
end L2
namespace L2
open PySem PySem.Spec PyProof.Rows
section
variable {X : Cx} (K : PySem.W.Frag) (hK : X.K = K)
include hK
theorem zaY : IxR X (rIxL K):=by subst hK; exact znv
theorem zeb : IxR X (rIxT K):=by subst hK; exact zmL
theorem zfX : SlR X (rSlL K):=by subst hK; exact zno
theorem znb : OpR X (compareOp .In) (rIn K false):=by subst hK; exact zkk
theorem keqD (hu : X.A.units + 64 < cLine) : OpR X (compareOp .Eq) (rEqD K false):=by subst hK; exact zpX hu
theorem kneD (hu : X.A.units + 64 < cLine) : OpR X (compareOp .NotEq) (rEqD K true):=by subst hK; exact zpD hu
def rLen (K : PySem.W.Frag) : List V -> Hp -> VK -> Prop:=fun xs H Q=>∃ p ys,xs = [.ref p] /\ (SqL K H p ys \/ SqT K H p ys) /\ Q (.int ys.length) H
theorem zbQ : zdh X (.builtin "len") (rLen K):=by subst hK; exact zgv
def zny (K : PySem.W.Frag) : List V -> Hp -> VK -> Prop:=fun xs H Q=>∃ p ys,xs = [.ref p] /\ (SqL K H p ys \/ SqT K H p ys) /\ ∀ l,H l = none -> Q (.ref l) (upd H l (.lst ys))
theorem ziN : zdh X (.type "list") (zny K):=by subst hK; exact zgP
def zni (K : PySem.W.Frag) : List V -> Hp -> VK -> Prop:=fun xs H Q=>∃ p ts,xs = [.ref p] /\ SqL K H p (zch ts) /\ (∀ t ∈ ts,SqT K H t.1 (t.2.map V.int) /\ t.2 ≠ []) /\ ts.length < 64 /\
 ∀ (l : Addr) (ts' : List TI2),H l = none -> ts'.Perm ts -> ts'.Pairwise (fun a b=>HT.zbz b.2 a.2 = false) -> Q (.ref l) (upd H l (.lst (zch ts')))
theorem znw : zdh X (.builtin "sorted") (zni K):=by subst hK; exact zhT
theorem zaZ {tg l : Expr} {tl : TE} (hl : PE X l tl) : PI X tg l (zoD K tl):=by subst hK; exact znS hl
theorem zcs {es : List Expr} {k1 : Nat} {tp : Pos} {e : Expr} {ta : TA} {p pos : Pos} (hg : Gl X "enumerate") (hm : X.mg "enumerate" = none) (ha : PA X [e] ta) (hs : starEach [e] X.env = (false,eval e X.env) :: starEach [] X.env:=by rfl) :
 PI X (.Tuple es k1 tp) (.Call (.Name "enumerate" p) [e] [] pos) (zsj K ta):=by subst hK; exact znD hg hm ha hs
theorem zaV {es : List Expr} {k : Nat} {t : TGs} {n : Nat} {pos : Pos} (hc : X.calm = true) (h : PGs X es t) (hn : (assignEach es X.env).length = n:=by rfl) (hst : (assignEach es X.env).findIdx? (·.1) = none:=by rfl) :
 PG X (.Tuple es k pos) (gTup K n t):=by subst hK; exact zpo hc h hn hst
theorem zbt {o e : Expr} {es : List Expr} {to : TE} {t : TA} {name : Str} {apos cpos : Pos} {T id : String} {r : V -> List V -> Hp -> VK -> Prop} (pa : PlainAttrs T) (slot : Slot T name id) (hty : typeOf (.builtin id) = pure (.type "method_descriptor")) (hm : MtR X id r) (ho : PE X o to) (ha : PA X (e :: es) t)
 (hbase : attributeBase o name X.env (eval o X.env) = eval o X.env:=by rfl)
 (hfew : ((backTo cpos (starEach (e :: es) X.env)).all (fun x=>!x.1) && (backToKw cpos (keywordEach [] X.env)).all (fun x=>x.1.isSome)
   && decide ((e :: es).length + ([] : List Keyword).length + (if ([] : List Keyword).isEmpty then 0 else 1) < 30)) = true:=by rfl)
 (hline : (apos.endLine == cpos.line) = true:=by rfl) (hs : starEach (e :: es) X.env = (false,eval e X.env) :: starEach es X.env:=by rfl) (hplain : (backTo cpos (starEach es X.env)).any (·.1) = false:=by rfl) :
 PE X (.Call (.Attribute o name apos) (e :: es) [] cpos) (tBM K T r to t):=by subst hK; exact zuw pa slot hty hm ho ha hbase hfew hline hs hplain
end
section
variable {X : Cx}
end
end L2
namespace Mt
open PySem
def has (t o : Int) : Bool:=decide (∀ k : Nat,k < 7 -> o / 2 ^ k % 2 <= t / 2 ^ k % 2)
theorem zfM (n k : Nat) : ((n : Int) / 2 ^ k % 2) = ((n / 2 ^ k % 2 : Nat) : Int):=by
 have e : ((2 : Int) ^ k) = ((2 ^ k : Nat) : Int):=by rw [Int.natCast_pow]; rfl
 rw [e]
 omega
theorem zmg (t o : Nat) (ho : o < 128) : (t &&& o) = o ↔ ∀ k : Nat,k < 7 -> o / 2 ^ k % 2 <= t / 2 ^ k % 2:=by
 constructor
 ·intro h k _
  have e : (t &&& o).testBit k = o.testBit k:=by rw [h]
  rw [Nat.testBit_and,Nat.testBit_eq_decide_div_mod_eq,Nat.testBit_eq_decide_div_mod_eq] at e
  have h1 : o / 2 ^ k % 2 < 2:=Nat.mod_lt _ (by decide)
  have h2 : t / 2 ^ k % 2 < 2:=Nat.mod_lt _ (by decide)
  by_cases c : o / 2 ^ k % 2 = 1
  ·by_cases d : t / 2 ^ k % 2 = 1
   ·omega
   ·rw [decide_eq_true c,decide_eq_false d] at e
    cases e
  ·omega
 ·intro h
  apply Nat.eq_of_testBit_eq
  intro k
  rw [Nat.testBit_and,Nat.testBit_eq_decide_div_mod_eq,Nat.testBit_eq_decide_div_mod_eq]
  by_cases c : o / 2 ^ k % 2 = 1
  ·by_cases hk : k < 7
   ·have:=h k hk
    have h2 : t / 2 ^ k % 2 < 2:=Nat.mod_lt _ (by decide)
    rw [decide_eq_true c,decide_eq_true (by omega)]
    rfl
   ·have e : o / 2 ^ k = 0:=by
     apply Nat.div_eq_of_lt
     exact Nat.lt_of_lt_of_le ho (Nat.le_trans (show 128 <= 2 ^ 7 by decide) (Nat.pow_le_pow_right (by decide) (by omega)))
    rw [e] at c
    cases c
  ·rw [decide_eq_false c,Bool.and_false]
theorem znq {t o : Int} (ht : 0 <= t) (h0 : 0 <= o) (h1 : o < 128) : decide (Builtin.bitAnd t o = o) = has t o:=by
 obtain ⟨a,rfl⟩:=Int.eq_ofNat_of_zero_le ht
 obtain ⟨b,rfl⟩:=Int.eq_ofNat_of_zero_le h0
 rw [PyProof.Rows.bitAnd_pp ht h0]
 unfold has
 rw [Int.toNat_natCast,Int.toNat_natCast]
 have q:=zmg a b (by omega)
 have e : (∀ k : Nat,k < 7 -> (b : Int) / 2 ^ k % 2 <= (a : Int) / 2 ^ k % 2) ↔ ∀ k : Nat,k < 7 -> b / 2 ^ k % 2 <= a / 2 ^ k % 2:=by
  constructor
  ·intro h k hk
   have:=h k hk
   rw [zfM,zfM] at this
   omega
  ·intro h k hk
   rw [zfM,zfM]
   have:=h k hk
   omega
 rw [decide_eq_decide,e,<- q]
 omega
theorem zml (t : Int) : has t t = true:=decide_eq_true fun _ _=>Int.le_refl _
end Mt
namespace Mt
open PySem L2
def zbO (cs : List Int) (t : Int) : Option Nat:=cs.findIdx? fun c=>has c t
def optV : Option Nat -> V
 | none=>.non
 | some i=>.int i
theorem zjV {cs : List Int} {t : Int} {i : Nat} {c : Int} (h : cs[i]? = some c) (hc : has c t = true) (hj : ∀ (j : Nat) c',j < i -> cs[j]? = some c' -> has c' t = false) : zbO cs t = some i:=by
 obtain ⟨hi,e⟩:=List.getElem?_eq_some_iff.mp h
 unfold zbO
 rw [List.findIdx?_eq_some_iff_getElem]
 refine ⟨hi,by rw [e]; exact hc,fun j hji=>?_⟩
 rw [hj j cs[j] hji (List.getElem?_eq_getElem (by omega))]
 exact Bool.false_ne_true
theorem zjc {cs : List Int} {t : Int} (hj : ∀ (j : Nat) c',j < cs.length -> cs[j]? = some c' -> has c' t = false) : zbO cs t = none:=by
 unfold zbO
 rw [List.findIdx?_eq_none_iff]
 intro c hc
 obtain ⟨j,hjl,e⟩:=List.getElem_of_mem hc
 exact hj j c hjl (by rw [List.getElem?_eq_getElem hjl,e])
end Mt
namespace Mt
open PySem L2
def zsO (H : Hp) (x : V) (p : Nat × Option Nat) : Prop:=∃ t,x = .ref t /\ H t = some (.tup [.int p.1,optV p.2])
theorem zsO.same {H H' : Hp} {x : V} {p : Nat × Option Nat} (h : zsO H x p) (s : Same H H') : zsO H' x p:=let ⟨t,e,h⟩:=h; ⟨t,e,s _ _ h⟩
end Mt
namespace Mt
open PySem L2
def pc (c : Int) : Int:=(([1,2,4,8,16,32,64] : List Int).map fun b=>c / b % 2).sum
def rk (c : Int) : List Int:=[pc c,c]
end Mt
namespace Mt
open PySem L2
end Mt
namespace L2
open PySem PySem.Spec PyProof.Rows
section
variable {X : Cx} {pins : List (Addr × Obj)} {σ : St} {H : Hp} {s : Shared} {h' : Heap}
end
section
variable {X : Cx} {k : Nat} {f : Addr} {fd : FuncData} {ps : List Str} {sp : Sp}
end
end L2
namespace L2
open PySem PySem.Spec PyProof.Rows
section
variable {X : Cx} (K : PySem.W.Frag) (hK : X.K = K)
include hK
end
end L2
namespace L2
open PySem PySem.Spec PyProof.Rows
end L2
namespace L2
open PySem PySem.Spec PyProof.Rows
section
variable {X : Cx}
end
section
variable {X : Cx} (K : PySem.W.Frag) (hK : X.K = K)
include hK
end
end L2
namespace L2
open PySem PySem.Spec PyProof.Rows
end L2
namespace Mt
open PySem L2
def Fit (cs : List Int) : Prop:=∀ (j k : Nat) c d,j < k -> cs[j]? = some c -> cs[k]? = some d -> has c d = false
end Mt
namespace L2
open PySem PySem.Spec PyProof.Rows
def sg (c : Nat) : Str:=⟨#[c]⟩
section
variable {X : Cx} {tg : Expr}
end
section
variable {X : Cx}
theorem zfx : SlR X (fun x lo hi H Q=>∃ z,x = .str z /\ z.length <= sizeLine /\ Q (.str (Txt.slice z lo hi)) H):=by
 intro pins s σ H x v vl vu lo hi sl Q I rx hs pl pu h
 obtain ⟨z,rfl,hz,q⟩:=h
 obtain ⟨t,rfl⟩:=rx
 refine ⟨"str",_,F.slot_str_getitem.lookup,typeIs_str _ _ _,?_⟩
 have fin : ∀ (l u : Option (Int × Tok)),s.heap.IsSlice sl l u none -> l.map (·.1) = lo -> u.map (·.1) = hi -> wpAny (model X.prog X.w) X.A (getItem (.str z t) (.ref sl)) (EP X pins σ Q) X.xe s:=by
  rintro l u h1 rfl rfl
  refine wpAny_getItem_str_slice (l:=l) (u:=u) (st:=none) h1 rfl ?_
  exact post_val_or_str ⟨Nat.le_trans (Txt.slice_le z _ _) hz,fun t' k=>⟨.str _,H,I.tok _,⟨_,rfl⟩,q⟩⟩
 obtain ⟨o,e,c,d⟩:=hs
 cases pl with
 | none =>
   cases pu with
   | none=>exact fin none none ⟨o,e,c,d⟩ rfl rfl
   | int j tj=>exact fin none (some (j,tj)) ⟨o,e,c,d⟩ rfl rfl
 | int i ti =>
   cases pu with
   | none=>exact fin (some (i,ti)) none ⟨o,e,c,d⟩ rfl rfl
   | int j tj=>exact fin (some (i,ti)) (some (j,tj)) ⟨o,e,c,d⟩ rfl rfl
theorem zfp : ∀ {ys : List Str} {us : List Value},Vals (ys.map V.str) us -> StrsAre us ys
 | [],_,r=>by cases r; exact .nil
 | y :: ys,_,r=>by
   cases r with
   | cons r1 r2 =>
     obtain ⟨t,rfl⟩:=r1
     exact .cons y t (zfp r2)
def zsH (K : PySem.W.Frag) : V -> List V -> Hp -> VK -> Prop:=fun x xs H Q=>∃ (z : Str) (p : Addr) (ys : List Str),x = .str z /\ xs = [.ref p] /\ SqL K H p (ys.map V.str) /\ (ys.map (·.length)).sum + ys.length * z.length <= 16777216 /\ Q (.str (Txt.join z ys)) H
theorem znC : MtR X "str.join" (zsH X.K):=by
 intro pins s σ H x xs v us Q I rx rs h
 obtain ⟨z,p,ys,rfl,rfl,hq,hb,q⟩:=h
 obtain ⟨t,rfl⟩:=rx
 obtain ⟨u,rfl,ru⟩:=zfa rs
 cases ru
 obtain ⟨its,rv,pl,hz⟩:=I.list hq
 exact join_list pl.isList (by simpa using zfp rv) hb fun t' k=>⟨.str _,H,I.tok _,⟨_,rfl⟩,q⟩
end
section
variable {X : Cx} (K : PySem.W.Frag) (hK : X.K = K)
include hK
theorem zfK : MtR X "str.join" (zsH K):=by subst hK; exact znC
end
end L2
namespace Cs
open PySem L2
structure Row where
 s : Str
 w : Int
 t : Int
 n : Int
abbrev rowV (r : Row) : List V:=[.str r.s,.int r.w,.int r.t,.int r.n]
def zbp (H : Hp) (v : V) (r : Row) : Prop:=∃ a,v = .ref a /\ H a = some (.tup (rowV r))
theorem zbp.same {H H' : Hp} {v : V} {r : Row} (h : zbp H v r) (s : Same H H') : zbp H' v r:=let ⟨a,e,h⟩:=h; ⟨a,e,s _ _ h⟩
theorem zar {H H' : Hp} {xs : List V} {rs : List Row} (h : Paired (zbp H) xs rs) (s : Same H H') : Paired (zbp H') xs rs:=Paired.mapP h fun _ _ z=>z.same s
theorem zcM {H : Hp} {l : Addr} {o ys : HO} {xs : List V} {rs : List Row} (h : Paired (zbp H) xs rs) (hl : H l = some ys) (hn : ∀ z,ys ≠ .tup z) : Paired (zbp (upd H l o)) xs rs :=
 Paired.mapP h fun x p ⟨t,e,ht⟩=>⟨t,e,by rw [zah (zcP ht hl fun z=>hn _ z.symm)]; exact ht⟩
theorem zaX {H : Hp} {xs : List V} {rs : List Row} (h : Paired (zbp H) xs rs) : xs.length = rs.length:=Paired.length h
theorem zbq {α β : Type} {F : α -> β -> Prop} : ∀ {xs : List α} {ys : List β} {i : Nat} {x : α},Paired F xs ys -> xs[i]? = some x -> ∃ y,ys[i]? = some y /\ F x y
 | _,_,_,_,.nil,e=>by simp at e
 | _,_,0,_,.cons r _,e=>by simp at e; subst e; exact ⟨_,rfl,r⟩
 | _,_,i + 1,x,.cons _ t,e=>by
   obtain ⟨p,h1,h2⟩:=zbq (i:=i) (x:=x) t (by simpa using e)
   exact ⟨p,by simpa using h1,h2⟩
theorem zeD {α β : Type} {F : α -> β -> Prop} : ∀ {xs : List α} {ys : List β} {i : Nat} {y : β},Paired F xs ys -> ys[i]? = some y -> ∃ x,xs[i]? = some x /\ F x y
 | _,_,_,_,.nil,e=>by simp at e
 | _,_,0,_,.cons r _,e=>by simp at e; subst e; exact ⟨_,rfl,r⟩
 | _,_,i + 1,x,.cons _ t,e=>by
   obtain ⟨p,h1,h2⟩:=zeD (i:=i) (y:=x) t (by simpa using e)
   exact ⟨p,by simpa using h1,h2⟩
def zdC (K : PySem.W.Frag) (H : Hp) (l : Addr) (rs : List Row) : Prop:=∃ xs,SqL K H l xs /\ Paired (zbp H) xs rs
theorem zdC.same {K : PySem.W.Frag} {H H' : Hp} {l : Addr} {rs : List Row} (h : zdC K H l rs) (s : Same H H') : zdC K H' l rs:=let ⟨xs,h1,h2⟩:=h; ⟨xs,s.seq h1,zar h2 s⟩
def place (rs : List Row) (x : Str) : Option Nat:=rs.findIdx? fun r=>decide (r.s = x)
theorem zjB {rs : List Row} {x : Str} {i : Nat} {r : Row} (h : rs[i]? = some r) (hx : r.s = x) (hj : ∀ (j : Nat) r',j < i -> rs[j]? = some r' -> r'.s ≠ x) : place rs x = some i:=by
 obtain ⟨hi,e⟩:=List.getElem?_eq_some_iff.mp h
 unfold place
 rw [List.findIdx?_eq_some_iff_getElem]
 refine ⟨hi,by rw [e]; exact decide_eq_true hx,fun j hji=>?_⟩
 have:=hj j rs[j] hji (List.getElem?_eq_getElem (by omega))
 rw [decide_eq_false this]
 exact Bool.false_ne_true
theorem zfg {rs : List Row} {x : Str} (hj : ∀ (j : Nat) r,j < rs.length -> rs[j]? = some r -> r.s ≠ x) : place rs x = none:=by
 unfold place
 rw [List.findIdx?_eq_none_iff]
 intro r hr
 obtain ⟨j,hjl,e⟩:=List.getElem_of_mem hr
 exact decide_eq_false (hj j r hjl (by rw [List.getElem?_eq_getElem hjl,e]))
theorem zdB {rs : List Row} {x : Str} {i : Nat} (h : place rs x = some i) : i < rs.length:=by
 unfold place at h
 obtain ⟨hi,_⟩:=List.findIdx?_eq_some_iff_getElem.mp h
 exact hi
theorem strV {x y : Str} : decide (V.str x = V.str y) = decide (x = y):=by
 rw [decide_eq_decide]
 exact ⟨fun h=>V.str.inj h,fun h=>by rw [h]⟩
def signs : List Nat:="abcdefghijklmnopqrstuvwxyz.,-'".toList.map Char.toNat
theorem zgt : ∀ c ∈ signs,PyData.canLay0 (.str (sg c)) = true:=by decide +kernel
theorem zkA : (Str.ofString "abcdefghijklmnopqrstuvwxyz.,-'").cps.toList = signs:=by decide +kernel
theorem ziS {i : Int} (h0 : 0 <= i) (h1 : i < 30) : ∃ c,c ∈ signs /\ atI (Str.ofString "abcdefghijklmnopqrstuvwxyz.,-'").cps.toList i = some c:=by
 rw [zkA]
 have hl : signs.length = 30:=by decide +kernel
 have hk : i.toNat < signs.length:=by omega
 have ek : i = ((i.toNat : Nat) : Int):=by omega
 have q : atI signs ((i.toNat : Nat) : Int) = some signs[i.toNat]:=zbi (List.getElem?_eq_getElem hk)
 rw [<- ek] at q
 exact ⟨signs[i.toNat],List.getElem_mem hk,q⟩
theorem znB (zs : List Int) (lo hi : Option Int) : ∃ ms : List Int,cutV (zs.map V.int) lo hi = ms.map V.int /\ ms.length <= zs.length:=by
 unfold cutV
 rw [<- List.map_drop,<- List.map_take]
 exact ⟨_,rfl,by rw [List.length_take,List.length_drop]; omega⟩
end Cs
namespace L2
open PySem PySem.Spec PyProof.Rows
section
variable {X : Cx}
def eqI (z : Int) : Value -> Bool
 | .int i _=>i == z
 | _=>false
end
end L2
namespace Mt
open PySem L2
end Mt
namespace Mt
open PySem L2
end Mt
namespace Mt
open PySem L2
end Mt
namespace Mt
open PySem L2
theorem zcd (p : Int -> Bool) : ∀ l : List Int,(l.filter p).sum = (l.map fun b=>if p b then b else 0).sum
 | []=>rfl
 | b :: l=>by
   rw [List.filter_cons,List.map_cons,List.sum_cons,<- zcd p l]
   by_cases h : p b = true
   ·rw [if_pos h,if_pos h,List.sum_cons]
   ·rw [if_neg h,if_neg h,Int.zero_add]
def bitsL : List Int:=[1,2,4,8,16,32,64]
def zaL (a c : Int) : Int:=(bitsL.filter fun b=>decide (a / b % 2 = 1) && decide (c / b % 2 = 0)).sum
theorem two (x : Int) : 0 <= x % 2 /\ x % 2 <= 1:=by omega
def sb (p : Bool) : Int:=if p then 1 else 0
end Mt
namespace L2
open PySem PySem.Spec PyProof.Rows
section
variable {κ : Type} [DecidableEq κ]
def valV (kvs : List (κ × V)) (k : κ) : Option V:=(kvs.find? fun kv=>decide (kv.1 = k)).map (·.2)
def putK (kvs : List (κ × V)) (k : κ) (v : V) : List (κ × V) :=
 if (kvs.any fun kv=>decide (kv.1 = k)) = true then kvs.map (fun kv=>if kv.1 = k then (kv.1,v) else kv) else kvs ++ [(k,v)]
def zsF (kvs : List (κ × V)) (k : κ) : List (κ × V):=kvs.filter fun kv=>decide (kv.1 ≠ k)
theorem KV.any {kvs : List (κ × V)} {vs : List (κ × Value)} (r : KV kvs vs) (k : κ) : (kvs.any fun kv=>decide (kv.1 = k)) = vs.any fun kv=>decide (kv.1 = k):=by
 unfold KV at r
 induction r with
 | nil=>rfl
 | cons h t ih=>rw [List.any_cons,List.any_cons,ih,h.1]
theorem KV.drop {kvs : List (κ × V)} {vs : List (κ × Value)} (r : KV kvs vs) (k : κ) : KV (zsF kvs k) (without vs k):=by
 unfold KV at r ⊢
 unfold zsF without
 induction r with
 | nil=>exact .nil
 | @cons p q ps qs h t ih =>
   obtain ⟨h1,h2⟩:=h
   rw [List.filter_cons,List.filter_cons]
   by_cases e : p.1 = k
   ·have a : ¬ decide (p.1 ≠ k) = true:=by simp [e]
    have b : ¬ decide (q.1 ≠ k) = true:=by simp [h1.symm.trans e]
    rw [if_neg a,if_neg b]; exact ih
   ·have e' : ¬ q.1 = k:=fun z=>e (h1.trans z)
    have a : decide (p.1 ≠ k) = true:=by simp [e]
    have b : decide (q.1 ≠ k) = true:=by simp [e']
    rw [if_pos a,if_pos b]; exact .cons ⟨h1,h2⟩ ih
theorem KV.keys {kvs : List (κ × V)} {vs : List (κ × Value)} (r : KV kvs vs) : kvs.map (·.1) = vs.map (·.1):=by
 unfold KV at r
 induction r with
 | nil=>rfl
 | cons h t ih=>rw [List.map_cons,List.map_cons,ih,h.1]
theorem KV.length {kvs : List (κ × V)} {vs : List (κ × Value)} (r : KV kvs vs) : kvs.length = vs.length:=Paired.length r
end
abbrev KT (H : Hp) : List (List Key × V) -> List (List Key × Addr × Value) -> Prop:=Paired fun p q=>p.1 = q.1 /\ H q.2.1 = some (.tup (p.1.map kV)) /\ RelV p.2 q.2.2
theorem KT.keeps {H H' : Hp} {kvs : List (List Key × V)} {xs : List (List Key × Addr × Value)} (r : KT H kvs xs) (ht : ∀ b ys,H b = some (.tup ys) -> H' b = some (.tup ys)) : KT H' kvs xs :=
 Paired.mapP r fun _ _ z=>⟨z.1,ht _ _ z.2.1,z.2.2⟩
section
variable {P : Program} {w : World} {H : Hp} {h : Heap} {a : Addr}
end
def DGet (H : Hp) (a : Addr) (y : V) (r : Option V) : Prop :=
 (∃ kvs k,Rd H a (.dK kvs) /\ y = kV k /\ r = valV kvs k) \/ ∃ kvs k b,Rd H a (.dT kvs) /\ y = .ref b /\ H b = some (.tup (k.map kV)) /\ r = valV kvs k
def DPut (H : Hp) (a : Addr) (y v : V) (H' : Hp) : Prop :=
 (∃ kvs k,H a = some (.dK kvs) /\ y = kV k /\ kvs.length < sizeLine /\ H' = upd H a (.dK (putK kvs k v))) \/
 ∃ kvs k b,H a = some (.dT kvs) /\ y = .ref b /\ H b = some (.tup (k.map kV)) /\ kvs.length < sizeLine /\ H' = upd H a (.dT (putK kvs k v))
theorem DGet.k {H : Hp} {a : Addr} {kvs : List (Key × V)} {k : Key} (e : H a = some (.dK kvs)) : DGet H a (kV k) (valV kvs k):=.inl ⟨kvs,k,.inl e,rfl,rfl⟩
theorem DGet.t {H : Hp} {a b : Addr} {kvs : List (List Key × V)} {k : List Key} (e : H a = some (.dT kvs)) (eb : H b = some (.tup (k.map kV))) : DGet H a (.ref b) (valV kvs k):=.inr ⟨kvs,k,b,.inl e,rfl,eb,rfl⟩
theorem DPut.k {H : Hp} {a : Addr} {kvs : List (Key × V)} {k : Key} {v : V} (e : H a = some (.dK kvs)) (hl : kvs.length < sizeLine) : DPut H a (kV k) v (upd H a (.dK (putK kvs k v))):=.inl ⟨kvs,k,e,rfl,hl,rfl⟩
theorem DPut.t {H : Hp} {a b : Addr} {kvs : List (List Key × V)} {k : List Key} {v : V} (e : H a = some (.dT kvs)) (eb : H b = some (.tup (k.map kV))) (hl : kvs.length < sizeLine) :
 DPut H a (.ref b) v (upd H a (.dT (putK kvs k v))):=.inr ⟨kvs,k,b,e,rfl,eb,hl,rfl⟩
section
variable {X : Cx} {pins : List (Addr × Obj)} {σ : St} {H : Hp} {s : Shared} {a : Addr} {y v : V} {u r : Value} {o : Option V} {A : Around} {E : Value -> Shared -> Prop}
end
section
variable {X : Cx} {pins : List (Addr × Obj)} {σ : St} {H : Hp} {s : Shared} {a : Addr} {kvs : List (Key × V)} {k : Key} {u : Value} {A : Around} {E : Value -> Shared -> Prop}
end
section
variable {X : Cx} {o i e value : Expr} {pos pos' tpos : Pos} {td ty tv : TE}
end
section
variable {X : Cx} {pos : Pos}
end
structure M1 (X : Cx) (o : Expr) (m : Str) (apos : Pos) (e : Expr) (cpos : Pos) : Prop where
 base : attributeBase o m X.env (eval o X.env) = eval o X.env
 few : ((backTo cpos (starEach [e] X.env)).all (fun x=>!x.1) && (backToKw cpos (keywordEach [] X.env)).all (fun x=>x.1.isSome)
  && decide (([e] : List Expr).length + ([] : List Keyword).length + (if ([] : List Keyword).isEmpty then 0 else 1) < 30)) = true
 line : (apos.endLine == cpos.line) = true
 trees : backTo cpos (starEach [e] X.env) = [(false,eval e X.env)]
structure M2 (X : Cx) (o : Expr) (m : Str) (apos : Pos) (e f : Expr) (cpos : Pos) : Prop where
 base : attributeBase o m X.env (eval o X.env) = eval o X.env
 few : ((backTo cpos (starEach [e,f] X.env)).all (fun x=>!x.1) && (backToKw cpos (keywordEach [] X.env)).all (fun x=>x.1.isSome)
  && decide (([e,f] : List Expr).length + ([] : List Keyword).length + (if ([] : List Keyword).isEmpty then 0 else 1) < 30)) = true
 line : (apos.endLine == cpos.line) = true
 trees : backTo cpos (starEach [e,f] X.env) = [(false,eval e X.env),(false,eval f X.env)]
section
variable {X : Cx} {pins : List (Addr × Obj)} {σ : St} {H : Hp} {s : Shared} {a : Addr} {y d : V} {u r : Value} {o : Option V} {A : Around} {E : Value -> Shared -> Prop}
end
section
variable {X : Cx} {o e f : Expr} {apos cpos : Pos} {td ty tx : TE}
end
section
variable {X : Cx} {pins : List (Addr × Obj)} {σ : St} {H : Hp} {s : Shared} {a : Addr} {kvs : List (Key × V)} {A : Around} {E : Value -> Shared -> Prop}
end
section
variable {X : Cx} {pins : List (Addr × Obj)} {σ : St} {H : Hp} {s : Shared} {a : Addr} {y : V} {u : Value} {A : Around} {E : Value -> Shared -> Prop}
end
end L2
namespace L2
open PySem PySem.Spec PyProof.Rows
section
variable {X : Cx}
end
section
variable {κ : Type} [DecidableEq κ]
end
end L2
namespace Cs
open PySem L2
theorem zdl {rs : List Row} {x : Str} {k : Nat} (h : place rs x = some k) : ∃ r,rs[k]? = some r /\ r.s = x:=by
 unfold place at h
 obtain ⟨hi,h1,_⟩:=List.findIdx?_eq_some_iff_getElem.mp h
 exact ⟨rs[k],List.getElem?_eq_getElem hi,of_decide_eq_true h1⟩
end Cs
namespace L2
open PySem
end L2
namespace L2
open PySem PySem.Spec PyProof.Rows
def znQ (g : Nat -> Int) (n : Nat) (m : Int) : Prop:=(∃ i,i < n /\ g i = m) /\ ∀ i,i < n -> m <= g i
theorem znQ.one {g : Nat -> Int} : znQ g 1 (g 0):=⟨⟨0,by omega,rfl⟩,fun i hi=>by
 have e : i = 0:=by omega
 subst e
 exact Int.le_refl _⟩
theorem znQ.no {g : Nat -> Int} {n : Nat} {m : Int} (h : znQ g n m) (hl : ¬ g n < m) : znQ g (n + 1) m:=⟨by obtain ⟨i,hi,e⟩:=h.1; exact ⟨i,by omega,e⟩,fun i hi=>by
 by_cases e : i = n
 ·subst e; omega
 ·exact h.2 i (by omega)⟩
section
variable {P : Program} {w : World} {A : Around} {R : Result -> Shared -> Prop} {it : Addr} {fp wr : List Addr} {n : Nat} {Pr : Nat -> Value -> Prop} {St : Nat -> Heap -> Prop}
end
section
variable {P : Program} {w : World} {A : Around} {E : Value -> Shared -> Prop} {s : Shared}
end
section
variable {X : Cx}
end
section
variable {X : Cx} (K : PySem.W.Frag) (hK : X.K = K)
include hK
end
end L2
namespace L2
open PySem PySem.Spec PyProof.Rows
section
variable {X : Cx} {a b : Expr} {rest : List Expr} {pos : Pos} {ta tb : TE}
end
section
variable {X : Cx} {a b : Expr} {rest : List Expr} {pos : Pos} {ta tb : TE} (K : PySem.W.Frag) (hK : X.K = K)
include hK
end
end L2
namespace Ln
open PySem L2
def abc : List Nat:=[97,98,99,100,101,102]
theorem znh : ∀ c ∈ abc,PyData.canLay0 (.str (sg c)) = true:=by decide +kernel
theorem zqv : (abc.map sg).Nodup:=by decide +kernel
structure AbcCase (rs : List Cs.Row) : Prop where
 sg : (rs.map fun r=>r.s) = abc.map sg
 wd : ∀ r ∈ rs,1 <= r.w /\ r.w <= 100
theorem AbcCase.len {rs : List Cs.Row} (h : AbcCase rs) : rs.length = 6:=by
 have:=congrArg List.length h.sg
 rwa [List.length_map,List.length_map] at this
theorem AbcCase.nd {rs : List Cs.Row} (h : AbcCase rs) : (rs.map fun r=>r.s).Nodup:=by rw [h.sg]; exact zqv
theorem AbcCase.place {rs : List Cs.Row} (h : AbcCase rs) {c : Nat} (hc : c ∈ abc) : (Cs.place rs (L2.sg c)).isSome = true:=by
 have h1 : L2.sg c ∈ rs.map fun r=>r.s:=by rw [h.sg]; exact List.mem_map_of_mem hc
 obtain ⟨r,hr,e⟩:=List.mem_map.mp h1
 unfold Cs.place
 rw [List.findIdx?_isSome,List.any_eq_true]
 exact ⟨r,hr,decide_eq_true e⟩
theorem AbcCase.lay {rs : List Cs.Row} (h : AbcCase rs) : ∀ r ∈ rs,PyData.canLay0 (.str r.s) = true:=fun r hr=>by
 have h1 : r.s ∈ rs.map fun r=>r.s:=List.mem_map_of_mem (f:=fun r=>r.s) hr
 rw [h.sg] at h1
 obtain ⟨c,hc,e⟩:=List.mem_map.mp h1
 rw [<- e]
 exact znh c hc
theorem zfl {K : PySem.W.Frag} {H : Hp} : ∀ {ws : List Str},(∀ x ∈ ws,PyData.canLay0 (.str x) = true) -> DenL K H (ws.map V.str) (ws.map PyData.str)
 | [],_=>.nil
 | x :: ws,h=>.cons (.str _ (h x List.mem_cons_self)) (zfl fun y hy=>h y (List.mem_cons_of_mem _ hy))
end Ln
namespace L2
open PySem PySem.Spec PyProof.Rows
section
variable {X : Cx} {tg : Expr}
end
end L2
namespace L2
open PySem PySem.Spec PyProof.Rows
section
variable {X : Cx} {pins : List (Addr × Obj)} {σ : St} {H : Hp} {s : Shared} {h' : Heap}
theorem Inv.turned4 {t' : Nat} {ch : List Addr} (I : Inv X pins σ H s) (k : ∀ b u,b ∉ ch -> s.heap.get? b = some u -> h'.get? b = some u) (hf : ∀ b ∈ ch,FpOk X pins H b) : Inv X pins σ H { s with heap:=h',toks:=t' }:=by
 have nch : ∀ b u,H b = some u -> b ∉ ch:=fun b u e z=>by rw [(hf b z).1] at e; cases e
 refine I.step (g':=s.gens) (d':=s.drawn) (ch:=ch) (fun b hb=>?_) (fun b u _ _ hc e _=>k b u hc e) (fun b u _ _ hc e _=>⟨u.slots,k b u hc e⟩)
  (fun _ _ _ _ n=>n) (fun b u hc e=>⟨u,k b u hc e⟩) (fun _ _ e=>e) (fun _ _ _ e=>e) (fun b ps e=>⟨#[],by rw [e]; simp⟩) (fun m hm=>?_) (fun b u e=>?_) I.bare
 ·obtain ⟨f0,f1,f2,f3,f4,f5⟩:=hf b hb
  exact ⟨f3,f1,f4,f5⟩
 ·obtain ⟨ob,es,ep,ho,r⟩:=hm
  exact ⟨ob,es,ep,k _ ob (fun z=>(hf _ z).2.1 rfl) ho,r⟩
 ·refine (I.hok b u e).stay (fun c v hc q=>k c v ?_ q) (fun _ q=>q) fun _ _ q=>q
  rcases hc with z | z
  ·rw [z]; exact nch b u e
  ·exact nch c _ z
end
def Itz (K : PySem.W.Frag) (a b : Addr) : It :=
 ⟨fun i H=>∃ xs ys x y,SqL K H a xs /\ SqL K H b ys /\ xs[i]? = some x /\ ys[i]? = some y,
  fun i H v H'=>∃ t x y,v = .ref t /\ H t = none /\ (∀ xs,SqL K H a xs -> xs[i]? = some x) /\ (∀ ys,SqL K H b ys -> ys[i]? = some y) /\ H' = upd H t (.tup [x,y]),
  fun i H=>∃ xs ys,SqL K H a xs /\ SqL K H b ys /\ (xs.length <= i \/ ys.length <= i)⟩
theorem zlM {P : Program} {w : World} {K : PySem.W.Frag} {es : List Expr} {k1 : Nat} {tp : Pos} (a b z TI TO i1 i2 : Addr) (D : ZipApart z TI TO i1 i2 a b) :
 Turn P w K (.Tuple es k1 tp) (Itz K a b) [z,TO,i1,i2,TI] z (fun i h=>IsZip h z TI TO .none /\ IsPair h TI (.ref i1) (.ref i2) /\ (∃ u v,IsPair h TO u v) /\ h.IsListIter i1 a i /\ h.IsListIter i2 b i) where
 mem:=by simp
 obj:=fun i h st c hc=>by
  obtain ⟨e1,e2,⟨u,v,e3⟩,⟨o4,e4,c4,d4⟩,⟨o5,e5,c5,d5⟩⟩:=st
  simp only [List.mem_cons,List.not_mem_nil,or_false] at hc
  rcases hc with rfl | rfl | rfl | rfl | rfl
  ·refine ⟨_,e1,fun v q=>?_⟩
   have q' : Data.fields _ = Data.cell v:=q
   cases q'
  ·refine ⟨_,e3,fun v q=>?_⟩
   have q' : Data.seq _ _ = Data.cell v:=q
   cases q'
  ·exact ⟨o4,e4,fun v q=>by rw [d4] at q; cases q⟩
  ·exact ⟨o5,e5,fun v q=>by rw [d5] at q; cases q⟩
  ·refine ⟨_,e2,fun v q=>?_⟩
   have q' : Data.seq _ _ = Data.cell v:=q
   cases q'
 keep:=fun i h h' st k=>by
  obtain ⟨e1,e2,⟨u,v,e3⟩,e4,e5⟩:=st
  exact ⟨k z (by simp) _ e1,k TI (by simp) _ e2,⟨u,v,k TO (by simp) _ e3⟩,e4.at fun o e=>k i1 (by simp) o e,e5.at fun o e=>k i2 (by simp) o e⟩
 item:=by
  intro X hP hw hK hc i pins s σ H E I hf st hg
  subst hP hw hK
  obtain ⟨xs,ys,x,y,hqx,hqy,hx,hy⟩:=hg
  obtain ⟨itx,rx,px,hzx⟩:=I.list hqx
  obtain ⟨ity,ry,py,hzy⟩:=I.list hqy
  obtain ⟨ux,hux,rux⟩:=rx.get hx
  obtain ⟨uy,huy,ruy⟩:=ry.get hy
  obtain ⟨hz,hTI,⟨u,v,hTO⟩,hi1,hi2⟩:=st
  have hzL : z < s.heap.objs.size:=Heap.lt_size hz
  refine wpAny_pyNext_zip_item D hz hTI hTO hi1 hi2 px.isList py.isList (x:=ux) (y:=uy) (by simpa using hux) (by simpa using huy) fun h1 hz1 hTO1 hi11 hi21 ht1 hsz1 hk1=>⟨_,rfl,?_⟩
  refine wpAny_letOwnedTupleGo_zip hz1 fun h2 hz2 hs2=>?_
  replace hs2 : Heap.SameBut z h1 h2:=hs2
  have ht2 : h2.get? s.heap.objs.size = some { cls:=.type "tuple",data:=.seq #[ux,uy] }:=(hs2.2 _ (Nat.ne_of_gt hzL)).trans ht1
  have kk : ∀ c o,c ∉ [z,TO,i1,i2] -> s.heap.get? c = some o -> h2.get? c = some o:=fun c o hc q=>by
   have n1 : c ≠ z:=fun e=>hc (by simp [e])
   have n2 : c ≠ TO:=fun e=>hc (by simp [e])
   have n3 : c ≠ i1:=fun e=>hc (by simp [e])
   have n4 : c ≠ i2:=fun e=>hc (by simp [e])
   exact (hs2.2 c n1).trans (hk1 c o n1 n2 n3 n4 q)
  have hn : H s.heap.objs.size = none:=I.hok.fresh (Nat.le_refl _)
  have hf4 : ∀ c ∈ [z,TO,i1,i2],FpOk X pins H c:=fun c hc=>hf c (by
   simp only [List.mem_cons,List.not_mem_nil,or_false] at hc ⊢
   rcases hc with e | e | e | e <;> simp [e])
  have I2 : Inv X pins σ (upd H s.heap.objs.size (.tup [x,y])) { s with heap:=h2,toks:=s.toks } :=
   I.turnLay kk hf4 (Nat.le_refl _) ⟨Nat.le_of_ble_eq_true rfl,[ux,uy],.cons rux (.cons ruy .nil),⟨_,ht2,rfl,0,rfl⟩⟩
  have hTI2 : IsPair h2 TI (.ref i1) (.ref i2):=(hs2.2 _ D.TIz).trans (hk1 TI _ D.TIz D.TITO D.TIi1 D.TIi2 hTI)
  refine ⟨.ref s.heap.objs.size,_,I2,rfl,⟨_,x,y,rfl,hn,fun zs h=>by rw [I.list_inj h hqx]; exact hx,fun zs h=>by rw [I.list_inj h hqy]; exact hy,rfl⟩,
   ⟨hz2,hTI2,⟨ux,uy,(hs2.2 _ D.TOz).trans hTO1⟩,hi11.extBut hs2.extBut D.i1z,hi21.extBut hs2.extBut D.i2z⟩,fun c hc=>?_⟩
  rw [zah]
  ·exact (hf c hc).1
  ·have lt : ∀ d o,s.heap.get? d = some o -> d ≠ s.heap.objs.size:=fun d o e=>Nat.ne_of_lt (Heap.lt_size e)
   obtain ⟨o4,e4,_⟩:=hi1
   obtain ⟨o5,e5,_⟩:=hi2
   simp only [List.mem_cons,List.not_mem_nil,or_false] at hc
   rcases hc with rfl | rfl | rfl | rfl | rfl
   ·exact lt _ _ hz
   ·exact lt _ _ hTO
   ·exact lt _ _ e4
   ·exact lt _ _ e5
   ·exact lt _ _ hTI
 done:=by
  intro X hP hw hK hc i pins s σ H E I hf st hg
  subst hP hw hK
  obtain ⟨xs,ys,hqx,hqy,hx⟩:=hg
  obtain ⟨itx,rx,px,hzx⟩:=I.list hqx
  obtain ⟨ity,ry,py,hzy⟩:=I.list hqy
  obtain ⟨hz,hTI,⟨u,v,hTO⟩,hi1,hi2⟩:=st
  have hlx:=rx.length
  have hly:=ry.length
  refine wpAny_pyNext_zip_end (I.ok.hd hc) D hz hTI hTO hi1 hi2 px.isList py.isList ?_ fun h' eb=>⟨rfl,?_⟩
  ·rcases hx with h | h
   ·exact .inl (by simp; omega)
   ·exact .inr (by simp; omega)
  ·have hf4 : ∀ c ∈ [z,TO,i1,i2],FpOk X pins H c:=fun c hc=>hf c (by
    simp only [List.mem_cons,List.not_mem_nil,or_false] at hc ⊢
    rcases hc with e | e | e | e <;> simp [e])
   exact I.turned4 (t':=s.toks) (fun c o hc q=>eb c o (fun e=>hc (by simp [e])) (fun e=>hc (by simp [e])) (fun e=>hc (by simp [e])) (fun e=>hc (by simp [e])) q) hf4
 self:=fun _ _ _ _ _ st h=>wpAny_pyIter_zip st.1 h
theorem zoL : bootBuiltins "zip" = some (.type "zip"):=by decide +kernel
section
variable {X : Cx} {es : List Expr} {k1 : Nat} {tp : Pos}
def iZip (K : PySem.W.Frag) (ta : TA) : TI:=fun σ H R=>ta σ H fun vs H1=>∃ a b,vs = [.ref a,.ref b] /\ (∃ xs,SqL K H1 a xs) /\ (∃ ys,SqL K H1 b ys) /\ R (Itz K a b) H1
theorem zop {a b : Expr} {ta : TA} {p pos : Pos} (hg : Gl X "zip") (hm : X.mg "zip" = none) (ha : PA X [a,b] ta) (hs : starEach [a,b] X.env = [(false,eval a X.env),(false,eval b X.env)]:=by rfl) (hs2 : starEach [b] X.env = [(false,eval b X.env)]:=by rfl) :
 PI X (.Tuple es k1 tp) (.Call (.Name "zip" p) [a,b] [] pos) (iZip X.K ta):=by
 intro pins s σ H R I h
 refine wpAny_Call_Name_kw (zfz I hg hm zoL ?_)
 refine PyProof.Rows.callWith_type1 (thn (ha pos pins s σ H _ I h) fun us s1 ⟨vs,H1,I1,r1,q1⟩=>?_) (by rw [hs,hs2]) (by rw [hs2]; rfl)
 obtain ⟨l1,l2,rfl,⟨xs,hqx⟩,⟨ys,hqy⟩,q⟩:=q1
 obtain ⟨u1,u2,rfl,ru1,ru2⟩:=zpP r1
 cases ru1
 cases ru2
 obtain ⟨itx,rx,px,hzx⟩:=I1.list hqx
 obtain ⟨ity,ry,py,hzy⟩:=I1.list hqy
 have a1 : l1 < s1.heap.objs.size:=by obtain ⟨_,e,_⟩:=px.isList; exact Heap.lt_size e
 have a2 : l2 < s1.heap.objs.size:=by obtain ⟨_,e,_⟩:=py.isList; exact Heap.lt_size e
 refine call_zip_2 px.isList py.isList fun h' hz hTI hTO hi1 hi2 hsz hk=>?_
 refine wpAny_pyIter_zip hz ?_
 refine ⟨s1.heap.objs.size + 4,[s1.heap.objs.size + 4,s1.heap.objs.size + 3,s1.heap.objs.size,s1.heap.objs.size + 1,s1.heap.objs.size + 2],_,_,H1,rfl,I1.kept (t':=s1.toks) hk,zlM l1 l2 _ _ _ _ _ (zipApart_new a1 a2),⟨hz,hTI,⟨_,_,hTO⟩,hi1,hi2⟩,fun c hc=>?_,q⟩
 have hge : s1.heap.objs.size <= c:=by
  simp only [List.mem_cons,List.not_mem_nil,or_false] at hc
  rcases hc with rfl | rfl | rfl | rfl | rfl <;> omega
 exact I1.fpOk hge (I1.hok.fresh hge)
end
end L2
namespace L2
open PySem PySem.Spec PyProof.Rows
theorem zlH {K : PySem.W.Frag} {a b : Addr} {xs ys : List V} {g : TG} {tc : TT} {te : TE} {D : Addr} {σ : St} {H : Hp} {Q : VK} (hxy : ys.length <= xs.length) (Pv : Nat -> List V -> St -> Hp -> Prop) (h0 : Pv 0 [] σ (upd H D (.lst []))) (hl : ∀ i zs σ H,i <= ys.length -> Pv i zs σ H -> SqL K H a xs /\ SqL K H b ys)
 (hs : ∀ i x y t zs σ H,xs[i]? = some x -> ys[i]? = some y -> i < ys.length -> Pv i zs σ H -> H t = none -> g (.ref t) σ (upd H t (.tup [x,y])) fun σ2 H4=>tc σ2 H4 fun b H5=>if b = true then te σ2 H5 (zlV D ys.length i Pv σ2) else znP ys.length i Pv σ2 H5)
 (hd : ∀ zs σ H,Pv ys.length zs σ H -> Q (.ref D) H) :
 znW (Itz K a b) g tc te D Q σ H:=by
 refine ⟨fun i m σ H=>m = ys.length - i /\ i <= ys.length /\ ∃ zs,Pv i zs σ H,⟨ys.length,by simp,Nat.zero_le _,[],h0⟩,?_⟩
 rintro i m σ H ⟨rfl,hi,zs,p⟩
 obtain ⟨qx,qy⟩:=hl i zs σ H hi p
 by_cases hlt : i < ys.length
 ·have hlx : i < xs.length:=by omega
  refine .inr ⟨⟨xs,ys,xs[i],ys[i],qx,qy,by simp [hlx],by simp [hlt]⟩,fun v H' y=>?_⟩
  obtain ⟨t,x,y,rfl,hn,hx,hy,rfl⟩:=y
  exact hs i x y t zs σ _ (hx xs qx) (hy ys qy) hlt p hn
 ·have e : i = ys.length:=by omega
  subst e
  exact .inl ⟨⟨xs,ys,qx,qy,.inr (Nat.le_refl _)⟩,hd zs σ H p⟩
section
variable {X : Cx} (K : PySem.W.Frag) (hK : X.K = K)
include hK
theorem znK {es : List Expr} {k1 : Nat} {tp : Pos} {a b : Expr} {ta : TA} {p pos : Pos} (hg : Gl X "zip") (hm : X.mg "zip" = none) (ha : PA X [a,b] ta) (hs : starEach [a,b] X.env = [(false,eval a X.env),(false,eval b X.env)]:=by rfl) (hs2 : starEach [b] X.env = [(false,eval b X.env)]:=by rfl) :
 PI X (.Tuple es k1 tp) (.Call (.Name "zip" p) [a,b] [] pos) (iZip K ta):=by subst hK; exact zop hg hm ha hs hs2
end
end L2
namespace Lns
open PySem L2
def zcY (no : Addr) (H : Hp) (v : V) (ws : List Str) : Prop:=∃ p,v = .ref p /\ p ≠ no /\ H p = some (.lst (ws.map V.str))
theorem zcY.same {no : Addr} {H H' : Hp} {v : V} {ws : List Str} (h : zcY no H v ws) (s : Same H H') : zcY no H' v ws:=let ⟨p,e,n,h⟩:=h; ⟨p,e,n,s _ _ h⟩
theorem zdz {no : Addr} {H H' : Hp} {xs : List V} {ls : List (List Str)} (h : Paired (zcY no H) xs ls) (s : Same H H') : Paired (zcY no H') xs ls:=Paired.mapP h fun _ _ z=>z.same s
theorem zgU {no : Addr} {H : Hp} {o : HO} {xs : List V} {ls : List (List Str)} (h : Paired (zcY no H) xs ls) : Paired (zcY no (upd H no o)) xs ls :=
 Paired.mapP h fun _ _ ⟨p,e,n,z⟩=>⟨p,e,n,by rw [zah n]; exact z⟩
theorem zdr {no : Addr} {H : Hp} {xs : List V} {ls : List (List Str)} (h : Paired (zcY no H) xs ls) : xs.length = ls.length:=Paired.length h
theorem zfI (x : Str) : x ++ ("" : Str) = x:=by
 show (⟨x.cps ++ (#[] : Array Nat)⟩ : Str) = x
 rw [Array.append_empty]
def zbh (ws : List Str) : Str:=Txt.join " " ws
def keyT : List (List Str) -> Str
 | []=>""
 | l :: r=>zbh l ++ "/" ++ keyT r
theorem zkc (l : List Str) : keyT [l] = zbh l ++ "/":=zfI _
theorem zlN : ∀ ls : List (List Str),Txt.join "" (ls.map fun l=>zbh l ++ "/") = keyT ls:=by
 intro ls
 unfold Txt.join
 rw [StrLaws.glued_eq_join]
 induction ls with
 | nil=>rfl
 | cons l r ih =>
   cases r with
   | nil=>exact (zkc l).symm
   | cons l2 r =>
     show (zbh l ++ "/") ++ "" ++ Str.join "" ((l2 :: r).map fun l=>zbh l ++ "/") = zbh l ++ "/" ++ keyT (l2 :: r)
     rw [ih,zfI]
def Fit (ls : List (List Str)) : Prop:=ls.length <= 100 /\ ∀ l ∈ ls,l.length <= 100 /\ ∀ x ∈ l,x.length <= 100
theorem ziW {α : Type} (f : α -> Nat) (B : Nat) : ∀ l : List α,(∀ x ∈ l,f x <= B) -> (l.map f).sum <= l.length * B
 | [],_=>by simp
 | x :: l,h=>by
   have h1:=h x List.mem_cons_self
   have h2:=ziW f B l fun y hy=>h y (List.mem_cons_of_mem _ hy)
   rw [List.map_cons,List.sum_cons,List.length_cons,Nat.succ_mul]
   omega
theorem zed {α : Type} (f : α -> Nat) (B N : Nat) (l : List α) (h : ∀ x ∈ l,f x <= B) (hn : l.length <= N) : (l.map f).sum <= N * B :=
 Nat.le_trans (ziW f B l h) (Nat.mul_le_mul_right _ hn)
theorem zjA {l : List Str} (h1 : l.length <= 100) (h2 : ∀ x ∈ l,x.length <= 100) : (l.map (·.length)).sum + l.length * (Str.ofString " ").length <= 16777216:=by
 have a:=zed (fun x : Str=>x.length) 100 100 l h2 h1
 have e : (Str.ofString " ").length = 1:=by decide
 rw [e]
 have a : (l.map (·.length)).sum <= 100 * 100:=a
 omega
theorem zhp {l : List Str} (h1 : l.length <= 100) (h2 : ∀ x ∈ l,x.length <= 100) : (zbh l).length <= 10100:=by
 have a:=zed (fun x : Str=>x.length) 100 100 l h2 h1
 have a : (l.map (·.length)).sum <= 100 * 100:=a
 have b:=StrLaws.join_length_le " " l
 have e : (Str.ofString " ").length = 1:=by decide
 unfold zbh Txt.join
 rw [StrLaws.glued_eq_join]
 have b : (Str.join " " l).length <= (l.map (·.length)).sum + l.length * (Str.ofString " ").length:=b
 rw [e] at b
 omega
theorem zjm {ls : List (List Str)} (h : Fit ls) : ((ls.map fun l=>zbh l ++ "/").map (·.length)).sum + (ls.map fun l=>zbh l ++ "/").length * (Str.ofString "").length <= 16777216:=by
 rw [List.map_map,List.length_map]
 have a:=zed ((fun x : Str=>x.length) ∘ fun l=>zbh l ++ "/") 10101 100 ls (fun l hl=>by
  obtain ⟨h1,h2⟩:=h.2 l hl
  have:=zhp h1 h2
  show (zbh l ++ "/").length <= 10101
  rw [Str.length_append]
  have e : (Str.ofString "/").length = 1:=by decide
  have e : ("/" : Str).length = 1:=e
  omega) h.1
 have e : (Str.ofString "").length = 0:=by decide
 rw [e]
 have a : (ls.map ((fun x : Str=>x.length) ∘ fun l=>zbh l ++ "/")).sum <= 100 * 10101:=a
 have a : (ls.map ((·.length) ∘ fun l=>zbh l ++ "/")).sum <= 100 * 10101:=a
 omega
theorem zms {α : Type} (f : α -> V) (ini : List α) (last : α) : cutV ((ini ++ [last]).map f) none (some (-1)) = ini.map f:=by
 have e1 : ((ini ++ [last]).map f).length = ini.length + 1:=by rw [List.length_map,List.length_append]; rfl
 have h0 : HT.sIx (ini.length + 1) 0 none = 0:=rfl
 have h1 : HT.sIx (ini.length + 1) (ini.length + 1) (some (-1)) = ini.length:=by
  unfold HT.sIx
  simp
  omega
 unfold cutV
 rw [e1,h0,h1,List.drop_zero,Nat.sub_zero,List.map_append]
 exact List.take_left' (by rw [List.length_map])
end Lns
namespace L2
open PySem PySem.Spec PyProof.Rows PySem.Builtin PySem.Builtin.Str
section
variable {X : Cx}
theorem zgJ : ∀ (tk : Nat) (xs : List Str),Vals (xs.map V.str) (strsFrom tk xs)
 | _,[]=>.nil
 | tk,x :: r=>.cons ⟨tk,rfl⟩ (zgJ (tk + 1) r)
theorem zgM (x y : Str) : (partsBetween x (occurrences x y 0 x.length (x.length + 1)) y.length).length <= x.length + 2:=by
 unfold partsBetween
 have:=StrLaws.occ_length_le x y 0 x.length (x.length + 1)
 simp only [List.length_map,List.length_zip,List.length_cons,List.length_append]
 omega
theorem split_len (x y : Str) : (Txt.split x y).length <= x.length + 2:=by
 have:=zgM x y
 unfold Txt.split
 split
 ·show 1 <= _
  omega
 ·split
  ·show 1 <= _
   omega
  ·exact this
def rSplit : V -> List V -> Hp -> VK -> Prop:=fun x xs H Q=>∃ z y,x = .str z /\ xs = [.str y] /\ 1 <= y.length /\ z.length <= 90000 /\ ∀ D,H D = none -> Q (.ref D) (upd H D (.lst ((Txt.split z y).map V.str)))
theorem ziY : MtR X "str.split" rSplit:=by
 intro pins s σ H v0 xs v us Q I rx rs h
 obtain ⟨x,y,rfl,rfl,hy1,hx,q⟩:=h
 obtain ⟨t,rfl⟩:=rx
 obtain ⟨u0,rfl,ru⟩:=zfa rs
 obtain ⟨u,rfl⟩:=ru
 have hy : (y.length == 0) = false:=by
  rw [beq_eq_false_iff_ne]
  omega
 have hl:=zgM x y
 have hq:=q s.heap.objs.size I.fresh
 have hz : (Txt.split x y).length <= sizeLine:=Nat.le_trans (split_len x y) (zay (by omega))
 cases h1 : (decide (x.length < y.length) || decide (strKind x < strKind y))
 ·cases hf : (occurrences x y 0 x.length (x.length + 1)).isEmpty
  ·have e : Txt.split x y = partsBetween x (occurrences x y 0 x.length (x.length + 1)) y.length:=by
    unfold Txt.split
    rw [if_neg (ne_true_of_eq_false h1),if_neg (ne_true_of_eq_false hf)]
   rw [e] at hq hz
   refine call_meets F.slot_str_split (typeIs_str _ _ _) F.entry_str_split (F.args_str_split_2 _ _) (meets_str_split_sep x y t u h1 hy hf (zay (by omega)) hz) ?_
   exact ⟨.ref _,_,I.lnew (zgJ _ _) (by rw [List.length_map]; exact hz),rfl,hq⟩
  ·have e : Txt.split x y = [x]:=by
    unfold Txt.split
    rw [if_neg (ne_true_of_eq_false h1),if_pos hf]
   rw [e] at hq
   exact call_meets F.slot_str_split (typeIs_str _ _ _) F.entry_str_split (F.args_str_split_2 _ _) (meets_str_split_not_found x y t u h1 hy hf)
    ⟨.ref _,_,I.lnew (t':=s.toks) (its:=[.str x t]) (ys:=[.str x]) (.cons ⟨t,rfl⟩ .nil) (by show 1 <= sizeLine; exact zay (by omega)),rfl,hq⟩
 ·have e : Txt.split x y = [x]:=by
   unfold Txt.split
   rw [if_pos h1]
  rw [e] at hq
  exact call_meets F.slot_str_split (typeIs_str _ _ _) F.entry_str_split (F.args_str_split_2 _ _) (meets_str_split_cannot_occur x y t u h1)
   ⟨.ref _,_,I.lnew (t':=s.toks) (its:=[.str x t]) (ys:=[.str x]) (.cons ⟨t,rfl⟩ .nil) (by show 1 <= sizeLine; exact zay (by omega)),rfl,hq⟩
end
end L2
namespace Lns
open PySem L2
theorem zlc {x y : Str} (h : x.cps.toList = y.cps.toList) : x = y:=Str.ext' (Array.toList_inj.mp h)
theorem zaC (x y : Str) : (x ++ y).cps.toList = x.cps.toList ++ y.cps.toList:=by rw [Str.cps_append,Array.toList_append]
theorem zmw (x y : Str) : Txt.split x y ≠ []:=by
 unfold Txt.split
 split
 ·simp
 ·split
  ·simp
  ·rw [StrLaws.partsBetween_eq]
   obtain ⟨p,r,e⟩:=StrLaws.partsFrom_ne x y.length 0 (Builtin.Str.occurrences x y 0 x.length (x.length + 1))
   rw [e]
   simp
def zuy (x : Str) : Prop:=32 ∉ x.cps.toList /\ 47 ∉ x.cps.toList
theorem zfi (ws : List Str) : zbh ws = Str.join ⟨#[32]⟩ ws:=by
 unfold zbh Txt.join
 rw [StrLaws.glued_eq_join]
 rfl
theorem zmS {α : Type} (ini : List α) (last : α) : atI (ini ++ [last]) (-1) = some last:=by
 have h : ixN (ini.length + 1) (-1) = some ini.length:=by
  unfold ixN
  rw [if_neg (by omega),if_pos (by omega)]
  congr 1
  omega
 unfold atI
 rw [List.length_append]
 show ((ixN (ini.length + 1) (-1)).bind _) = _
 rw [h]
 show (ini ++ [last])[ini.length]? = _
 rw [List.getElem?_append_right (Nat.le_refl _),Nat.sub_self]
 rfl
def zhc (H0 : Hp) (no : Addr) (H : Hp) (v : V) (ws : List Str) : Prop:=∃ p,v = .ref p /\ p ≠ no /\ H0 p = none /\ H p = some (.lst (ws.map V.str))
theorem zhc.n {H0 : Hp} {no : Addr} {H : Hp} {xs : List V} {ls : List (List Str)} (h : Paired (zhc H0 no H) xs ls) : Paired (zcY no H) xs ls:=Paired.mapP h fun _ _ ⟨p,e,n,_,z⟩=>⟨p,e,n,z⟩
theorem zhB {H0 : Hp} {no : Addr} {H H' : Hp} {xs : List V} {ls : List (List Str)} (h : Paired (zhc H0 no H) xs ls) (s : Same H H') : Paired (zhc H0 no H') xs ls:=Paired.mapP h fun _ _ ⟨p,e,n,f,z⟩=>⟨p,e,n,f,s _ _ z⟩
theorem zjv {H0 : Hp} {no : Addr} {H : Hp} {o : HO} {xs : List V} {ls : List (List Str)} (h : Paired (zhc H0 no H) xs ls) : Paired (zhc H0 no (upd H no o)) xs ls :=
 Paired.mapP h fun _ _ ⟨p,e,n,f,z⟩=>⟨p,e,n,f,by rw [zah n]; exact z⟩
theorem zjF {H0 : Hp} {no : Addr} {H : Hp} {xs : List V} {ls : List (List Str)} (h : Paired (zhc H0 no H) xs ls) : xs.length = ls.length:=Paired.length h
theorem ziT {α β : Type} {F : α -> β -> Prop} : ∀ {a c : List α} {b d : List β},Paired F a b -> Paired F c d -> Paired F (a ++ c) (b ++ d)
 | _,_,_,_,.nil,h=>h
 | _,_,_,_,.cons r t,h=>.cons r (ziT t h)
def zqO (H0 : Hp) (no : Addr) (B : Nat) (H : Hp) (v : V) : Prop:=∃ p ws,v = .ref p /\ p ≠ no /\ H0 p = none /\ H p = some (.lst ws) /\ ws.length <= B
theorem zqO.same {H0 : Hp} {no : Addr} {B : Nat} {H H' : Hp} {v : V} (h : zqO H0 no B H v) (s : Same H H') : zqO H0 no B H' v:=let ⟨p,ws,e,n,f,z,b⟩:=h; ⟨p,ws,e,n,f,s _ _ z,b⟩
def isS (c : Nat) : Bool:=!decide (c = 32) && !decide (c = 47)
def zbs (rs : List Cs.Row) : Bool -> List Nat -> Bool
 | _,[]=>true
 | p,c :: r=>if isS c = true then (Cs.place rs (sg c)).isSome && zbs rs true r else p && zbs rs false r
def zaQ (rs : List Cs.Row) (ks : List Nat) (i : Nat) : Bool :=
 match ks[i]? with
 | none=>false
 | some c=>if isS c = true then (Cs.place rs (sg c)).isSome else decide (0 < i) && (match ks[i - 1]? with | none=>false | some d=>isS d)
theorem zlz {rs : List Cs.Row} : ∀ {ks : List Nat} {p : Bool},zbs rs p ks = true -> ∀ (i : Nat) c,ks[i]? = some c ->
 if isS c = true then (Cs.place rs (sg c)).isSome = true else (i = 0 /\ p = true) \/ ∃ j d,i = j + 1 /\ ks[j]? = some d /\ isS d = true
 | [],_,_,i,c,h=>by simp at h
 | k :: r,p,ok,0,c,h=>by
   have h : k = c:=by simpa using h
   subst h
   unfold zbs at ok
   by_cases hs : isS k = true
   ·rw [if_pos hs] at ok ⊢
    exact (Bool.and_eq_true_iff.mp ok).1
   ·rw [if_neg hs] at ok ⊢
    exact .inl ⟨rfl,(Bool.and_eq_true_iff.mp ok).1⟩
 | k :: r,p,ok,i + 1,c,h=>by
   have h : r[i]? = some c:=by simpa using h
   unfold zbs at ok
   by_cases hs : isS k = true
   ·rw [if_pos hs] at ok
    have ih:=zlz (Bool.and_eq_true_iff.mp ok).2 i c h
    by_cases hc : isS c = true
    ·rw [if_pos hc] at ih ⊢
     exact ih
    ·rw [if_neg hc] at ih ⊢
     rcases ih with ⟨rfl,_⟩ | ⟨j,d,rfl,hj,hd⟩
     ·exact .inr ⟨0,k,rfl,rfl,hs⟩
     ·exact .inr ⟨j + 1,d,rfl,by simpa using hj,hd⟩
   ·rw [if_neg hs] at ok
    have ih:=zlz (Bool.and_eq_true_iff.mp ok).2 i c h
    by_cases hc : isS c = true
    ·rw [if_pos hc] at ih ⊢
     exact ih
    ·rw [if_neg hc] at ih ⊢
     rcases ih with ⟨_,e⟩ | ⟨j,d,rfl,hj,hd⟩
     ·cases e
     ·exact .inr ⟨j + 1,d,rfl,by simpa using hj,hd⟩
theorem znN {rs : List Cs.Row} {ks : List Nat} (ok : zbs rs false ks = true) {i : Nat} (hi : i < ks.length) : zaQ rs ks i = true:=by
 have h:=zlz ok i ks[i] (List.getElem?_eq_getElem hi)
 unfold zaQ
 rw [List.getElem?_eq_getElem hi]
 show (if isS ks[i] = true then _ else _) = true
 by_cases hs : isS ks[i] = true
 ·rw [if_pos hs] at h ⊢
  exact h
 ·rw [if_neg hs] at h ⊢
  rcases h with ⟨_,e⟩ | ⟨j,d,rfl,hj,hd⟩
  ·cases e
  ·rw [show j + 1 - 1 = j from rfl,hj]
   show (decide (0 < j + 1) && isS d) = true
   rw [hd]
   simp
theorem zhv {rs : List Cs.Row} : ∀ {w : List Nat} {p : Bool} (r : List Nat),(∀ c ∈ w,isS c = true /\ (Cs.place rs (sg c)).isSome = true) -> zbs rs p (w ++ r) = zbs rs (p || !w.isEmpty) r
 | [],p,r,_=>by simp
 | c :: w,p,r,h=>by
   obtain ⟨h1,h2⟩:=h c List.mem_cons_self
   have ih:=zhv (w:=w) (p:=true) r fun d hd=>h d (List.mem_cons_of_mem _ hd)
   show zbs rs p (c :: (w ++ r)) = _
   conv=>lhs; unfold zbs
   rw [if_pos h1,h2,ih]
   simp
def zbU (rs : List Cs.Row) (x : Str) : Prop:=1 <= x.length /\ ∀ c ∈ x.cps.toList,isS c = true /\ (Cs.place rs (sg c)).isSome = true
theorem zbU.ne {rs : List Cs.Row} {x : Str} (h : zbU rs x) : (!x.cps.toList.isEmpty) = true:=by
 have h1:=h.1
 unfold Str.length at h1
 cases e : x.cps.toList with
 | nil =>
   have : x.cps.toList.length = 0:=by rw [e]; rfl
   rw [Array.length_toList] at this
   omega
 | cons a b=>rfl
theorem zbU.plain {rs : List Cs.Row} {x : Str} (h : zbU rs x) : zuy x:=by
 constructor
 ·intro z
  have:=(h.2 _ z).1
  revert this
  decide
 ·intro z
  have:=(h.2 _ z).1
  revert this
  decide
theorem zkP {rs : List Cs.Row} (r : List Nat) : ∀ {l : List Str} {p : Bool},l ≠ [] -> (∀ x ∈ l,zbU rs x) -> zbs rs p ((zbh l).cps.toList ++ r) = zbs rs true r
 | [],_,h,_=>absurd rfl h
 | [x],p,_,h=>by
   have hx:=h x List.mem_cons_self
   rw [zfi]
   show zbs rs p (x.cps.toList ++ r) = _
   rw [zhv r hx.2,hx.ne]
   simp
 | x :: y :: l,p,_,h=>by
   have hx:=h x List.mem_cons_self
   have ih:=zkP r (l:=y :: l) (p:=false) (by simp) fun z hz=>h z (List.mem_cons_of_mem _ hz)
   rw [zfi] at ih ⊢
   have e : (Str.join ⟨#[32]⟩ (x :: y :: l)).cps.toList ++ r = x.cps.toList ++ (32 :: ((Str.join ⟨#[32]⟩ (y :: l)).cps.toList ++ r)):=by
    show (x ++ ⟨#[32]⟩ ++ Str.join ⟨#[32]⟩ (y :: l)).cps.toList ++ r = _
    rw [zaC,zaC,List.append_assoc,List.append_assoc]
    rfl
   rw [e,zhv _ hx.2,hx.ne]
   conv=>lhs; unfold zbs
   rw [if_neg (by decide),ih]
   simp
theorem zhC {rs : List Cs.Row} : ∀ {ls : List (List Str)} {p : Bool},(∀ l ∈ ls,l ≠ [] /\ ∀ x ∈ l,zbU rs x) -> zbs rs p (keyT ls).cps.toList = true
 | [],_,_=>rfl
 | l :: r,p,h=>by
   obtain ⟨h1,h2⟩:=h l List.mem_cons_self
   have ih:=zhC (ls:=r) (p:=false) fun z hz=>h z (List.mem_cons_of_mem _ hz)
   have e : (keyT (l :: r)).cps.toList = (zbh l).cps.toList ++ (47 :: (keyT r).cps.toList):=by
    show (zbh l ++ "/" ++ keyT r).cps.toList = _
    rw [zaC,zaC,List.append_assoc]
    rfl
   rw [e,zkP _ h1 h2]
   unfold zbs
   rw [if_neg (by decide),ih]
   rfl
theorem zfJ : ∀ (ls : List (List Str)),ls ≠ [] -> ∃ a,(keyT ls).cps.toList = a ++ [47]
 | [],h=>absurd rfl h
 | [l],_=>⟨(zbh l).cps.toList,by
    rw [zkc,zaC]
    rfl⟩
 | l :: l2 :: r,_=>by
   obtain ⟨a,e⟩:=zfJ (l2 :: r) (by simp)
   refine ⟨(zbh l ++ "/").cps.toList ++ a,?_⟩
   show (zbh l ++ "/" ++ keyT (l2 :: r)).cps.toList = _
   rw [zaC,e,List.append_assoc]
end Lns
namespace L2
open PySem PySem.Spec PyProof.Rows
section
variable {M : Model} {A : Around} {E : Value -> Shared -> Prop} {s : Shared}
def zbc (S : List Addr) (ch : List Addr) (h h' : Heap) : Prop:=∀ b o,h.get? b = some o -> b ∉ ch -> (b ∉ S -> h'.get? b = some o) /\ ∃ sl,h'.get? b = some { o with slots:=sl }
theorem zbc.trans {S ch : List Addr} {h h1 h2 : Heap} (x : zbc S ch h h1) (y : zbc S ch h1 h2) : zbc S ch h h2:=fun b o e n=>by
 obtain ⟨x1,sl,x2⟩:=x b o e n
 refine ⟨fun hb=>?_,?_⟩
 ·exact (y b o (x1 hb) n).1 hb
 ·obtain ⟨_,sl2,y2⟩:=y b _ x2 n
  exact ⟨sl2,y2⟩
theorem zeT (o : Obj) (f) : (o.mapFields f).dict = o.dict:=by
 obtain ⟨c,d,dt,sl⟩:=o
 cases dt <;> rfl
def zdA (P : Heap -> Value -> Prop) (h : Heap) (e : Addr) (cls : Value) (dx : Option Addr) : Prop :=
 ∃ oe vs hd,h.get? e = some oe /\ oe.cls = cls /\ oe.dict = dx /\ oe.data = .fields vs /\ vs[1]? = some hd /\ P h hd
def TbAt (F : Addr -> Prop) (e : Addr) (x : Value) (h : Heap) (hd : Value) : Prop:=∃ T oT ts,hd = .ref T /\ F T /\ T ≠ e /\ h.get? T = some oT /\ oT.data = .fields ts /\ ts[3]? = some x
theorem ziP {base : Heap} {env : Env} {outer : List Env} {L e : Addr} {oe : Obj} {vs : Array Value} {head : Value} {hadNext : Bool} {Q : Unit -> Shared -> Prop}
 (hfr : A.frames = some (env :: outer)) (hl : s.heap.FunFrames base (env :: outer)) (hf : env.frame = some L)
 (he : s.heap.get? e = some oe) (hd : oe.data = .fields vs) (hsz : 1 < vs.size)
 (h : ∀ h',s.heap.objs.size <= h'.objs.size -> zbc ((env :: outer).filterMap (·.frame)) [e] s.heap h' -> zdA (TbAt (fun b=>s.heap.objs.size <= b) e (rawInt L)) h' e oe.cls oe.dict -> Q () { s with heap:=h' }) :
 wpAny M A (do let a <- frameOf env; let pl <- entryPlaceOf L hadNext; let b <- EntryCells.newEntry head a .none (rawInt L) .none pl; setField (.ref e) 1 b) Q E s:=by
 have hene : e ∉ (env :: outer).filterMap (·.frame):=fun hm=>by
  obtain ⟨_,o,ho,hnf⟩:=hl.mem hm
  rw [he] at ho; injection ho with ho; subst ho; exact hnf vs hd
 refine wpAny_bind (wpAny_frameOf_fun hfr hl hf fun h₁ hs₁=>?_)
 refine wpAny_bind (wpAny_entryPlaceOf fun pl hpl=>?_)
 unfold EntryCells.newEntry newFields
 refine wpAny_bind (wpAny_newObj_type ?_ (hpl.sizeOk5 _ _ _ _ _))
 have he₁ : h₁.get? e = some oe:=(hs₁.2.1 e hene).trans he
 have he₂:=Heap.get?_push_of_some (h:=h₁) { cls:=.type "traceback",dict:=none,data:=.fields ([head,.ref L,.none,rawInt L,.none] ++ (if pl.isEmpty then List.replicate 6 Value.none else pl)).toArray } he₁
 refine wpAny_setField he₂ hd hsz ?_
 have hTe : h₁.objs.size ≠ e:=Nat.ne_of_gt (Heap.lt_size he₁)
 have hd₃:=Obj.data_mapFields hd (·.setIfInBounds 1 (Value.ref h₁.objs.size))
 have he₃:=Heap.get?_update_self (Obj.mapFields (·.setIfInBounds 1 (Value.ref h₁.objs.size))) he₂ (Obj.isFreed_of_fields hd₃)
 have hT₃:=(Heap.get?_update_other (h₁.push { cls:=.type "traceback",dict:=none,data:=.fields ([head,.ref L,.none,rawInt L,.none] ++ (if pl.isEmpty then List.replicate 6 Value.none else pl)).toArray })
  (Obj.mapFields (·.setIfInBounds 1 (Value.ref h₁.objs.size))) (Ne.symm hTe)).trans (Heap.get?_push_size h₁ rfl)
 have hsz1 : h₁.objs.size = s.heap.objs.size:=hs₁.1
 refine h _ ?_ ?_ ?_
 ·rw [Heap.size_after_update,Heap.size_push,hsz1]
  exact Nat.le_succ _
 ·intro b o hb hn
  have hbe : b ≠ e:=fun q=>hn (List.mem_singleton.mpr q)
  have keep : ∀ o,h₁.get? b = some o -> ((h₁.push { cls:=.type "traceback",dict:=none,data:=.fields ([head,.ref L,.none,rawInt L,.none] ++ (if pl.isEmpty then List.replicate 6 Value.none else pl)).toArray }).update e (Obj.mapFields (·.setIfInBounds 1 (Value.ref h₁.objs.size)))).get? b = some o:=fun o hb=>by
   rw [Heap.get?_update_other _ _ (Ne.symm hbe)]
   exact Heap.get?_push_of_some _ hb
  refine ⟨fun hS=>keep o ((hs₁.2.1 b hS).trans hb),?_⟩
  obtain ⟨sl,hs⟩:=hs₁.2.2 b o hb
  exact ⟨sl,keep _ hs⟩
 ·exact ⟨_,_,.ref h₁.objs.size,he₃,Obj.cls_mapFields _ _,zeT _ _,hd₃,by simp [hsz],h₁.objs.size,_,_,rfl,Nat.le_of_eq hsz1.symm,hTe,hT₃,rfl,by simp⟩
theorem zdA.mono {P P' : Heap -> Value -> Prop} {h : Heap} {e : Addr} {cls : Value} {dx : Option Addr} (x : zdA P h e cls dx) (f : ∀ hd,P h hd -> P' h hd) : zdA P' h e cls dx :=
 let ⟨oe,vs,hd,a,b,c,d,g,p⟩:=x
 ⟨oe,vs,hd,a,b,c,d,g,f hd p⟩
theorem TbAt.mono {F F' : Addr -> Prop} {e : Addr} {x : Value} {h : Heap} {hd : Value} (t : TbAt F e x h hd) (f : ∀ b,F b -> F' b) : TbAt F' e x h hd :=
 let ⟨T,oT,ts,a,b,c⟩:=t
 ⟨T,oT,ts,a,f T b,c⟩
def HdOk (F : Addr -> Prop) (e L : Addr) (h : Heap) (hd : Value) : Prop:=hd = .none \/ ∃ x,TbAt F e x h hd
def Recs (F : Addr -> Prop) (h : Heap) (ch : List Addr) : Prop:=∀ b ∈ ch,F b /\ ∃ o vs,h.get? b = some o /\ o.data = .fields vs
theorem zjR (S ch : List Addr) (h : Heap) : zbc S ch h h:=fun _ o e _=>⟨fun _=>e,o.slots,e⟩
theorem zlJ {F : Addr -> Prop} {base : Heap} {env : Env} {outer : List Env} {L e : Addr} {cls : Value} {dx : Option Addr} {Q : Unit -> Shared -> Prop}
 (hfr : A.frames = some (env :: outer)) (hl : s.heap.FunFrames base (env :: outer)) (hf : env.frame = some L) (hF : ∀ b,s.heap.objs.size <= b -> F b) (hFe : F e)
 (hx : zdA (HdOk F e L) s.heap e cls dx)
 (h : ∀ h' ch,Recs F s.heap ch -> s.heap.objs.size <= h'.objs.size -> zbc ((env :: outer).filterMap (·.frame)) ch s.heap h' -> zdA (TbAt F e (rawInt L)) h' e cls dx -> Q () { s with heap:=h' }) :
 wpAny M A (noteFrame (.ref e) env) Q E s:=by
 obtain ⟨oe,vs,hd,he,rfl,rfl,hdt,h1,hp⟩:=hx
 have hsz : 1 < vs.size:=(Array.getElem?_eq_some_iff.mp h1).1
 unfold noteFrame
 simp only [hf]
 refine wpAny_bind (wpAny_field he hdt h1 ?_)
 rcases hp with rfl | ⟨x,T,oT,ts,rfl,hFT,hTe,hT,hdT,h3⟩
 ·rw [if_neg (by decide)]
  exact ziP hfr hl hf he hdt hsz fun h' hs hst hx=>h h' [e] (fun b hb=>by rw [List.mem_singleton.mp hb]; exact ⟨hFe,_,_,he,hdt⟩) hs hst (hx.mono fun hd t=>t.mono hF)
 by_cases hxL : (x == rawInt L) = true
 ·rw [if_pos (show (Value.ref T != Value.none) = true from by simp)]
  refine wpAny_bind (wpAny_field hT hdT h3 ?_)
  rw [if_pos hxL]
  have h3 : ts[3]? = some (rawInt L):=by rw [h3,eq_of_beq hxL]
  exact wpAny_pure (h s.heap [] (fun b hb=>nomatch hb) (Nat.le_refl _) (zjR _ _ _) ⟨oe,vs,_,he,rfl,rfl,hdt,h1,T,oT,ts,rfl,hFT,hTe,hT,hdT,h3⟩)
 ·rw [if_pos (show (Value.ref T != Value.none) = true from by simp)]
  refine wpAny_bind (wpAny_field hT hdT h3 ?_)
  rw [if_neg hxL]
  refine wpAny_bind (wpAny_setField hT hdT (Array.getElem?_eq_some_iff.mp h3).1 ?_)
  have other : ∀ b,b ≠ T -> (s.heap.update T (Obj.mapFields (·.setIfInBounds 3 Value.none))).get? b = s.heap.get? b:=fun b hb=>Heap.get?_update_other _ _ (Ne.symm hb)
  have noRecord : ∀ b o,s.heap.get? b = some o -> (∀ vs,o.data ≠ .fields vs) -> b ≠ T:=fun b o hb hnf q=>by
   rw [q,hT] at hb; injection hb with hb; subst hb; exact hnf ts hdT
  have hsz0 : (s.heap.update T (Obj.mapFields (·.setIfInBounds 3 Value.none))).objs.size = s.heap.objs.size:=Heap.size_after_update ..
  refine ziP (s:={ s with heap:=s.heap.update T (Obj.mapFields (·.setIfInBounds 3 Value.none)) }) hfr (hl.of_keeps fun b o hb hnf=>⟨o,(other b (noRecord b o hb hnf)).trans hb,rfl⟩) hf ((other e (Ne.symm hTe)).trans he) hdt hsz fun h' hs hst hx=>?_
  refine h h' [e,T] (fun b hb=>?_) (Nat.le_trans (Nat.le_of_eq hsz0.symm) hs) (fun b o hb hn=>?_) (hx.mono fun hd t=>t.mono fun b hb=>hF b (Nat.le_trans (Nat.le_of_eq hsz0.symm) hb))
  ·rcases List.mem_cons.mp hb with rfl | hb
   ·exact ⟨hFe,_,_,he,hdt⟩
   ·rw [List.mem_singleton.mp hb]
    exact ⟨hFT,_,_,hT,hdT⟩
  ·have hbT : b ≠ T:=fun q=>hn (by rw [q]; exact List.mem_cons_of_mem _ List.mem_cons_self)
   exact hst b o ((other b hbT).trans hb) fun q=>hn (by rw [List.mem_singleton.mp q]; exact List.mem_cons_self)
theorem zjx {F : Addr -> Prop} {S : List Addr} {e : Addr} {cls x : Value} {dx : Option Addr} {fr : Option Addr} {Q : Unit -> Shared -> Prop} (hFe : F e) (hx : zdA (TbAt F e x) s.heap e cls dx)
 (h : ∀ h' ch,Recs F s.heap ch -> s.heap.objs.size <= h'.objs.size -> zbc S ch s.heap h' -> zdA (TbAt F e (fr.elim .none fun f=>rawInt f)) h' e cls dx -> Q () { s with heap:=h' }) :
 wpAny M A (setFlight (.ref e) fr) Q E s:=by
 obtain ⟨oe,vs,hd,he,rfl,rfl,hdt,h1,T,oT,ts,rfl,hFT,hTe,hT,hdT,h3⟩:=hx
 unfold setFlight
 refine wpAny_bind (wpAny_field he hdt h1 ?_)
 rw [if_pos (show (Value.ref T != Value.none) = true from by simp)]
 have h3s:=(Array.getElem?_eq_some_iff.mp h3).1
 refine wpAny_setField hT hdT h3s (h _ [T] (fun b hb=>by rw [List.mem_singleton.mp hb]; exact ⟨hFT,_,_,hT,hdT⟩) (Nat.le_of_eq (Heap.size_after_update ..).symm) (fun b o hb hn=>?_) ?_)
 ·have hbT : T ≠ b:=fun q=>hn (by rw [q]; exact List.mem_cons_self)
  have k:=(Heap.get?_update_other s.heap (Obj.mapFields (·.setIfInBounds 3 (fr.elim Value.none fun f=>rawInt f))) hbT).trans hb
  exact ⟨fun _=>k,o.slots,k⟩
 ·have hdT3:=Obj.data_mapFields hdT (·.setIfInBounds 3 (fr.elim Value.none fun f=>rawInt f))
  exact ⟨oe,vs,_,(Heap.get?_update_other _ _ hTe).trans he,rfl,rfl,hdt,h1,T,_,_,rfl,hFT,hTe,Heap.get?_update_self _ hT (Obj.isFreed_of_fields hdT3),hdT3,by simp [h3s]⟩
end
def Fr0 (X : Cx) (H : Hp) (b : Addr) : Prop:=X.s₀.heap.objs.size <= b /\ H b = none /\ ∀ p ∈ X.pn,p.1 ≠ b
section
variable {X : Cx} {pins : List (Addr × Obj)} {σ : St} {H : Hp} {s : Shared}
theorem zsE {P : Program} {w : World} {H : Hp} {h h' : Heap} (hok : HOk P w H h) (k : ∀ b o,h.get? b = some o -> H b ≠ none -> h'.get? b = some o) : HOk P w H h':=fun a o e =>
 (hok a o e).stay (fun b u hb q=>k b u q (by
   rcases hb with rfl | hb
   ·rw [e]; exact fun z=>nomatch z
   ·rw [hb]; exact fun z=>nomatch z)) (fun _ q=>q) fun _ _ q=>q
theorem Inv.exc {h' : Heap} {ch : List Addr} (I : Inv X [] σ H s) (hr : Recs (Fr0 X H) s.heap ch) (st : zbc (frs X.stack) ch s.heap h') : Inv X [] σ H { s with heap:=h' }:=by
 have nch : ∀ b,H b ≠ none -> b ∉ ch:=fun b hb q=>hb (hr b q).1.2.1
 have nfr : ∀ b,H b ≠ none -> b ∉ frs X.stack:=fun b hb q=>hb (I.stkFree b q)
 refine Inv.call' (ch:=ch) I rfl ⟨fun b o q _ hb hx=>(st b o q hx).1 hb,fun b o q _ _ hx=>(st b o q hx).2,fun _ _ _ q _=>q,fun b o q hx=>?_,fun _ _ q=>q,fun _ _ _ q=>q,fun b ps q=>⟨#[],by rw [Array.append_empty]; exact q⟩⟩
  (zsE I.hok fun b o q hb=>(st b o q (nch b hb)).1 (nfr b hb)) I.bare fun b hb=>?_
 ·obtain ⟨sl,z⟩:=(st b o q hx).2
  exact ⟨_,z⟩
 ·obtain ⟨⟨h1,h2,h3⟩,o,vs,ho,hd⟩:=hr b hb
  refine ⟨.inr h1,fun q=>?_,fun x c hc q=>?_,fun p hp=>?_⟩
  ·obtain ⟨m,⟨o2,es,ep,ho2,hd2,_⟩,_⟩:=I.loc
   rw [<- q,ho] at ho2
   cases ho2
   rw [hd] at hd2
   cases hd2
  ·obtain ⟨v,o2,ho2,hd2⟩:=I.cell x c hc
   rw [q,ho] at ho2
   cases ho2
   rw [hd] at hd2
   cases hd2
  ·rw [List.append_nil] at hp
   exact h3 p hp
end
def Fly (X : Cx) (E : St -> XK) (ev : Value) (s : Shared) : Prop:=∃ e cls dx σ H L,ev = .ref e /\ X.env.frame = some L /\ Inv X [] σ H s /\ Fr0 X H e /\ zdA (HdOk (Fr0 X H) e L) s.heap e cls dx /\ E σ cls dx H
abbrev CX1 (P : Program) (w : World) : CXT:=fun outer H s E ev s'=>∃ e cls dx H',ev = .ref e /\ s'.os = s.os /\ AllBare s'.gens /\ Un (frs outer) [] H H' s.heap s'.heap /\ HOk P w H' s'.heap /\
 (s.heap.objs.size <= e /\ H' e = none) /\ zdA (TbAt (fun b=>s.heap.objs.size <= b /\ H' b = none) e .none) s'.heap e cls dx /\ E cls dx H'
section
variable {X : Cx} {pins : List (Addr × Obj)} {σ : St} {H : Hp} {s : Shared}
theorem Inv.nopins (I : Inv X pins σ H s) : Inv X [] σ H s:=⟨I.ok,I.os,I.bare,I.base,I.loc,I.cell,I.free,I.freeC,fun p hp=>I.pin p (List.mem_append_left _ (by rwa [List.append_nil] at hp)),I.hok,I.len⟩
theorem Inv.pnlt (I : Inv X pins σ H s) {b : Addr} (h : s.heap.objs.size <= b) : ∀ p ∈ X.pn,p.1 ≠ b:=fun p hp q=>by
 have:=Heap.lt_size (I.pin p (List.mem_append_left _ hp)).1
 exact absurd (Nat.lt_of_lt_of_le this h) (by rw [q]; exact Nat.lt_irrefl _)
theorem Inv.fr0 (I : Inv X pins σ H s) {b : Addr} (h : s.heap.objs.size <= b) : Fr0 X H b:=⟨Nat.le_trans I.sz h,I.hok.fresh h,I.pnlt h⟩
theorem zfH {E : St -> XK} {A : Around} {M : Model} {ev : Value} {N : Value -> Shared -> Prop} {Q : Unit -> Shared -> Prop} (hA : A.frames = some X.stack) (hst : X.stack = X.env :: X.outer) (h : Fly X E ev s)
 (q : ∀ h' e cls dx σ H L,ev = .ref e -> X.env.frame = some L -> Inv X [] σ H { s with heap:=h' } -> Fr0 X H e -> zdA (TbAt (Fr0 X H) e (rawInt L)) h' e cls dx -> E σ cls dx H -> Q () { s with heap:=h' }) :
 wpAny M A (noteFrame ev X.env) Q N s:=by
 obtain ⟨e,cls,dx,σ,H,L,rfl,hL,I,he,hx,hE⟩:=h
 have hl:=I.stack
 rw [hst] at hA hl
 refine zlJ hA hl hL (fun b hb=>I.fr0 hb) he hx fun h' ch hr hs st hx'=>?_
 exact q h' e cls dx σ H L rfl hL (I.exc hr (by rw [hst]; exact st)) he hx' hE
theorem zdW {A : Around} {M : Model} {N : Value -> Shared -> Prop} {Q : Unit -> Shared -> Prop} {e : Addr} {cls x : Value} {dx fr : Option Addr} (I : Inv X [] σ H s) (he : Fr0 X H e)
 (hx : zdA (TbAt (Fr0 X H) e x) s.heap e cls dx) (q : ∀ h',Inv X [] σ H { s with heap:=h' } -> zdA (TbAt (Fr0 X H) e (fr.elim .none fun f=>rawInt f)) h' e cls dx -> Q () { s with heap:=h' }) :
 wpAny M A (setFlight (.ref e) fr) Q N s :=
 zjx (S:=frs X.stack) he hx fun h' _ hr _ st hx'=>q h' (I.exc hr st) hx'
theorem zhW {E : St -> XK} {M : Model} (hst : X.stack = X.env :: X.outer) : PassesOwn M X.A X.env (Fly X E):=by
 intro ev s h
 have hA : X.A.frames = some X.stack:=let ⟨_,_,_,_,_,_,_,_,I,_⟩:=h; I.ok.frames
 refine zfH hA hst h fun h' e cls dx σ H L hev hL I he hx hE=>?_
 subst hev
 obtain ⟨oe,vs,hd,ho,hc,hdi,hdt,h1,T,oT,ts,rfl,r⟩:=id hx
 unfold cameBackBy
 refine wpAny_bind (wpAny_field (s:={ s with heap:=h' }) ho hdt h1 ?_)
 rw [if_neg (show ¬ ((Value.ref T == Value.none) = true) from by simp)]
 rw [hL]
 exact zdW (s:={ s with heap:=h' }) (fr:=some L) I he hx fun h2 I2 hx2=>⟨e,cls,dx,σ,H,L,rfl,hL,I2,he,hx2.mono fun hd t=>.inr ⟨_,t⟩,hE⟩
theorem PSs.wishTo {E' : Value -> Shared -> Prop} {st : List Stmt} {t : TS} (h : PSs (X.wish E') st t) (hE : ∀ e s,E' e s -> X.xe e s) : PSs X st t:=fun pins s σ H D I hw =>
 wpAny_mono (h pins s σ H D (I.wish _) hw) (fun _ _ q=>q.unwish) hE
end
def zmO (sp : Sp) (E : St -> XK) (t : TA) : TE:=fun σ H Q=>t σ H fun vs H1=>sp vs H1 Q (E σ)
section
variable {X : Cx} {k : Nat} {f L : Addr} {fd : FuncData} {ps : List Str} {sp : Sp} {E : St -> XK} {x : Str} {p pos : Pos} {e : Expr} {es : List Expr} {t : TA}
theorem zid {pins : List (Addr × Obj)} {σ : St} {H : Hp} {s : Shared} {Q : VK} {us : List Value} {vs : List V} (hL : X.env.frame = some L) (F : FnOk X.prog X.w X.K X.mg X.base (CX1 X.prog X.w) k f fd ps sp) (hr : Room k X.A) (hb : zdM X.K fd ps [])
 (I : Inv (X.wish (Fly X E)) pins σ H s) (r : Vals vs us) (h : sp vs H Q (E σ)) : wpAny (model X.prog X.w) X.A (call (.ref f) us) (EP (X.wish (Fly X E)) pins σ Q) (Fly X E) s:=by
 have hl : (us ++ []).length = ps.length:=by rw [List.append_nil,<- r.length]; exact F.len _ _ _ _ h
 have hb0:=hb s us I.kIn hl
 rw [List.append_nil] at hb0
 refine wpAny_call (codeAny_mono (F.run X.A X.stack s H ⟨us,[]⟩ us vs Q (E σ) hr I.env0 hb0 r h) fun r s' hq=>?_)
 cases r with
 | error ev =>
   have hq : CX1 X.prog X.w X.stack H s (E σ) ev s':=hq
   obtain ⟨e,cls,dx,H',rfl,os,bare,un,hok,⟨h1,h2⟩,hx,hE⟩:=hq
   have I0:=I.unwish
   have I1 : Inv X pins σ H' s':=I0.call' (ch:=[]) os un hok bare fun b z=>absurd z (by simp)
   exact ⟨e,cls,dx,σ,H',L,rfl,hL,I1.nopins,⟨Nat.le_trans I0.sz h1,h2,I0.pnlt h1⟩,hx.mono fun hd t=>.inr ⟨_,t.mono fun b hb=>⟨Nat.le_trans I0.sz hb.1,hb.2,I0.pnlt hb.1⟩⟩,hE⟩
 | ok fl =>
   cases fl with
   | ret u=>exact I.after hq
   | next=>exact False.elim hq
   | brk=>exact False.elim hq
   | cont=>exact False.elim hq
theorem zlR (hL : X.env.frame = some L) (F : FnOk X.prog X.w X.K X.mg X.base (CX1 X.prog X.w) k f fd ps sp) (hr : Room k X.A) (hg : Gl X x) (hm : X.mg x = some (.ref f)) (hk : PySem.W.keepIn X.K (.ref f) = true) (hb : zdM X.K fd ps [])
 (ha : PA (X.wish (Fly X E)) (e :: es) t) (hdb : (x == ("__debug__" : Str)) = false:=by decide) (he : starEach (e :: es) X.env = (false,eval e X.env) :: starEach es X.env:=by rfl) (hpl : (backTo pos (starEach es X.env)).any (·.1) = false:=by rfl) :
 PE (X.wish (Fly X E)) (.Call (.Name x p) (e :: es) [] pos) (zmO sp E t):=by
 intro pins s σ H Q I h
 refine wpAny_Call_Name_kw (zcE I hg hm ?_ hdb)
 refine PySem.W.callWith_K (h₀:=X.base) I.ok.mod.kin hk (thn (ha pos pins s σ H _ I h) fun us s1 ⟨vs,H1,I1,r,q⟩=>⟨I1.kIn,?_⟩) he hpl
 exact zid hL F hr hb I1 r q
end
section
variable {P : Program} {w : World} {K : PySem.W.Frag} {mg : Str -> Option Value} {base : Heap}
abbrev cxF (P : Program) (w : World) (K : PySem.W.Frag) (mg : Str -> Option Value) (base : Heap) (N : List Str) (qual : Str) (scope : Scope) (f : Addr) (cd : Value) (A : Around) (outer : List Env) (s : Shared) (H : Hp) (E : XK) : Cx :=
 (cxOf (CX1 P w) P w K mg base N qual scope f cd A outer s H E).wish (Fly (cxOf (CX1 P w) P w K mg base N qual scope f cd A outer s H E) fun _=>E)
theorem zfo {N : List Str} {qual : Str} {scope : Scope} {f : Addr} {cd : Value} {A : Around} {outer : List Env} {s : Shared} {H : Hp} {E : XK} :
 ∀ ev s',Fly (cxOf (CX1 P w) P w K mg base N qual scope f cd A outer s H E) (fun _=>E) ev s' -> (cxOf (CX1 P w) P w K mg base N qual scope f cd A outer s H E).xe ev s':=by
 intro ev s' h
 show wpAny (model P w) (A.deeper (envOfC qual scope s.heap.objs.size f cd)) (leaving (envOfC qual scope s.heap.objs.size f cd) ev) _ _ s'
 unfold leaving
 refine wpAny_bind (zfH (X:=cxOf (CX1 P w) P w K mg base N qual scope f cd A outer s H E) (let ⟨_,_,_,_,_,_,_,_,I,_⟩:=h; I.ok.frames) rfl h fun h' e cls dx σ H1 L hev hL I he hx hE=>?_)
 subst hev
 refine zdW (s:={ s' with heap:=h' }) (fr:=none) I he hx fun h2 I2 hx2=>?_
 exact ⟨e,cls,dx,H1,rfl,I2.os,I2.bare,I2.base,I2.hok,⟨he.1,he.2.1⟩,hx2.mono fun hd t=>t.mono fun b hb=>⟨hb.1,hb.2.1⟩,hE⟩
theorem Fun.okX {x qual : Str} {st : Stmt} {f : Addr} {fd : FuncData} {N ps : List Str} {k : Nat} {sp : Sp} (F : Fun K x qual st f fd) (S : FnScope N ps (zab st)) (len : ∀ vs H Q E,sp vs H Q E -> vs.length = ps.length)
 (hbody : ∀ (cdv : Value) (A : Around) (outer : List Env) (s : Shared) (H : Hp) (vs : List V) (Q : VK) (E : XK),Room k (A.deeper (envOfC qual (zab st) s.heap.objs.size f cdv)) -> sp vs H Q E ->
   ∃ t,PSs (cxF P w K mg base N qual (zab st) f cdv A outer s H E) (zaj st) t /\ t { nx:=fun _ H'=>Q .non H',rt:=Q } (start N vs) H) : FnOk P w K mg base (CX1 P w) (k + 1) f fd ps sp:=by
 obtain ⟨oc,od,kV,doc,pm,an,cdv,ct,osl,rfl,lk,hcd⟩:=F.ex
 refine zmp lk hcd S len fun A outer s H vs Q E hr hsp=>?_
 obtain ⟨t,h,q⟩:=hbody cdv A outer s H vs Q E hr hsp
 exact ⟨t,h.wishTo zfo,q⟩
end
end L2
namespace L2
open PySem PySem.Spec PyProof.Rows PySem.W PySem.Calls
abbrev bmV : List Value:=[.type "ValueError",.type "Exception",.type "BaseException",.type "object"]
section
variable {prog : Program} {w : World} {A : Around} {R : Result -> Shared -> Prop} {h : Heap} {g : Array GenState} {d : Drawn} {t : Nat} {os : OsState}
variable {nm q : Str} {C N : Addr} {bs bm : List Value} {hdct : Bool} {sn : List Str} {sub : List Value} {ab : Bool} {col : Option Bool} {dd : Option Addr} {k0 k1 k2 k3 k5 : Option Value}
abbrev zbC (C : Addr) (t : Addr) (dx : Option Addr) : Obj:={ cls:=.ref C,dict:=dx,data:=.fields #[.ref t,.none,.none,.none,.bool false,.none] }
theorem zfL {E : Value -> Shared -> Prop} {f : Addr} {mN : Str -> Option Value} {rest : List Value} {Q : Fin -> Shared -> Prop} (T : OwnTail h bmV bm) (hC : h.get? C = some (excClassObj nm q C N bs bm hdct sn sub ab col dd k0 k1 k2 k3 k5 "ValueError.__new__")) (hn : h.Ns N mN)
 (hni : mN "__init__" = some (.ref f)) (hb : ∀ self,Looks (model prog w) h (bindSpecial (.ref f) self) (.ref f,[self])) (hrest : rest.length <= sizeLine)
 (hq : codeAny (model prog w) A (.call (.ref f) ⟨.ref (h.objs.size + 1) :: rest,[]⟩) (fun r s'=>match r with | .ok (.ret v)=>v = .none /\ Q (.done (.ret (.ref (h.objs.size + 1)))) s' | .ok _=>False | .error x=>E x s')
   ⟨(h.push { cls:=.type "tuple",data:=.seq rest.toArray }).push (zbC C h.objs.size none),g,d,t,os⟩) :
 wpAny (model prog w) A (Builtin.«type.__call__» ⟨.ref C :: rest,[]⟩) Q E ⟨h,g,d,t,os⟩:=by
 have F:=PySem.F.excBase_ValueError
 have hBn : bmV.contains (.type "ValueError") = true:=by decide
 repeat (first | with_reducible refine wpAny_loadPart_at hC ?_ | with_reducible refine wpAny_madeBy_exc hC ?_ | wp_step)
 refine codeAny_call_builtin_code (Code.quiet_builtin _ F.quiet) (wpAny_check_new_subU F hBn T hC ?_)
 refine codeAny_exc_new_subU F hBn F T hC ?_ hrest
 show wpAny _ _ _ _ _ _
 have hC₁:=Heap.get?_push_of_some { cls:=.ref C,data:=.fields #[.ref h.objs.size,.none,.none,.none,.bool false,.none] }
  (Heap.get?_push_of_some { cls:=.type "tuple",data:=.seq rest.toArray } hC)
 have hn₁ : ((h.push { cls:=.type "tuple",data:=.seq rest.toArray }).push { cls:=.ref C,data:=.fields #[.ref h.objs.size,.none,.none,.none,.bool false,.none] }).Ns N mN :=
  let ⟨o,es,ep,e,r⟩:=hn; ⟨o,es,ep,Heap.get?_push_of_some _ (Heap.get?_push_of_some _ e),r⟩
 have hget : ((h.push { cls:=.type "tuple",data:=.seq rest.toArray }).push
  { cls:=.ref C,data:=.fields #[.ref h.objs.size,.none,.none,.none,.bool false,.none] }).get? (h.objs.size + 1) = some
  { cls:=.ref C,data:=.fields #[.ref h.objs.size,.none,.none,.none,.bool false,.none] }:=by heap_get
 have hcC : (Value.ref C :: bm).contains (.ref C) = true:=by simp
 have T₁:=T.keeps (h':=(h.push { cls:=.type "tuple",data:=.seq rest.toArray }).push { cls:=.ref C,data:=.fields #[.ref h.objs.size,.none,.none,.none,.bool false,.none] })
  fun b o e=>Heap.get?_push_of_some _ (Heap.get?_push_of_some _ e)
 have b1:=(hb (.ref (h.objs.size + 1))).keeps (h':=(h.push { cls:=.type "tuple",data:=.seq rest.toArray }).push { cls:=.ref C,data:=.fields #[.ref h.objs.size,.none,.none,.none,.bool false,.none] })
  fun b o e=>Heap.get?_push_of_some _ (Heap.get?_push_of_some _ e)
 unfold isInstance
 repeat (first | with_reducible refine wpAny_loadPart_at hget ?_ | (with_reducible refine wpAny_isSubtype_exc hC₁ ?_; rw [hcC]) | wp_step)
 show wpAny _ _ (typeLookup (.ref C) _) _ _ _
 refine wpAny_typeLookup_tail hC₁ hn₁ T₁ F.mroIs F.init.lookup ?_
 rw [hni]
 refine wpAny_holding (wpAny_bind (b1.here ?_))
 refine wpAny_bind (wpAny_call ?_)
 refine codeAny_mono hq fun r s' z=>?_
 rcases r with e | (v | _ | _ | _) <;> first | exact z | exact z.elim | skip
 obtain ⟨rfl,z⟩:=z
 exact wpAny_pure (wpAny_pure z)
theorem zlL {f : Addr} {mN : Str -> Option Value} {rest : List Value} (T : OwnTail h bmV bm) (hC : h.get? C = some (excClassObj nm q C N bs bm hdct sn sub ab col dd k0 k1 k2 k3 k5 "ValueError.__new__")) (hn : h.Ns N mN)
 (hni : mN "__init__" = some (.ref f)) (hb : ∀ self,Looks (model prog w) h (bindSpecial (.ref f) self) (.ref f,[self])) (hrest : rest.length <= sizeLine)
 (hq : codeAny (model prog w) (A.under (.builtin "type.__call__" ⟨.ref C :: rest,[]⟩)) (.call (.ref f) ⟨.ref (h.objs.size + 1) :: rest,[]⟩) (InitBack (h.objs.size + 1) R)
   ⟨(h.push { cls:=.type "tuple",data:=.seq rest.toArray }).push (zbC C h.objs.size none),g,d,t,os⟩) :
 codeAny (model prog w) A (.call (.ref C) ⟨rest,[]⟩) R ⟨h,g,d,t,os⟩:=by
 have f1:=tc_lookup
 have f2:=PySem.tc_bind (.ref C)
 have hT : (⟨h,g,d,t,os⟩ : Shared).TypeIs (.ref C) "type":=⟨_,hC,rfl⟩
 refine codeAny_of_tree ?_
 show wpAny _ _ (callAny (.ref C) _) _ _ _
 repeat (any_goals (first | assumption | with_reducible refine wpAny_loadPart_at hC ?_ | wp_step))
 refine ⟨rfl,?_⟩
 refine codeAny_call_builtin_at (Code.quiet_builtin _ (by decide +kernel)) entry_typeCall (wpAny_check_type_call_sub hC ?_)
 exact zfL T hC hn hni hb hrest (codeAny_mono hq fun r s' z=>by
  rcases r with e | (v | _ | _ | _) <;> first | exact z | exact z.elim)
end
theorem zjq {K : PySem.W.Frag} {h : Heap} {N : Addr} {mg : Str -> Option Value} {n : Str} {v : Value} (X : K.In h) (G : h.Ns N mg) (e : nsIn K N n = some (some v)) : mg n = some v:=by
 obtain ⟨o,es,ep,ho,hd,_,hf⟩:=G
 unfold nsIn at e
 split at e
 ·rename_i c d es' n' sl q
  have:=X _ _ q
  rw [ho] at this
  cases this
  cases hd
  split at e
  ·rename_i en he
   cases e
   rw [<- hf]
   unfold nsFind findBy
   rw [<- Array.find?_toList,he]
   rfl
  ·split at e <;> cases e
 ·cases e
def zbg (K : PySem.W.Frag) (C : Addr) (init : Option Addr) : Bool:=match K.lookup C with
 | some ⟨.type "type",_,.cls cd,sl⟩=>(match cd.mro,sl.toList with
   | .ref C' :: bm,[_,_,_,_,some (.builtin n),_]=>C' == C && n == "ValueError.__new__" && !cd.hasDel && tailIn K bmV bm && nsOkIn K cd.ns && nsIn K cd.ns "__init__" == some (init.map Value.ref)
   | _,_=>false)
 | _=>false
theorem zei {K : PySem.W.Frag} {h : Heap} {C : Addr} {init : Option Addr} (X : K.In h) (q : zbg K C init = true) :
 ∃ bm N nm qn bs hd sn sub ab col dd k0 k1 k2 k3 k5 mN,h.get? C = some (excClassObj nm qn C N bs bm hd sn sub ab col dd k0 k1 k2 k3 k5 "ValueError.__new__") /\ h.Ns N mN /\ mN "__init__" = init.map Value.ref /\ OwnTail h bmV bm:=by
 unfold zbg at q
 split at q
 ·rename_i dd cd sl ho
  split at q
  ·rename_i C' bm k0 k1 k2 k3 n k5 hm hs
   simp only [Bool.and_eq_true,beq_iff_eq,Bool.not_eq_true'] at q
   obtain ⟨⟨⟨⟨⟨rfl,rfl⟩,hdel⟩,ht⟩,hok⟩,hni⟩:=q
   obtain ⟨nm,bs,mro,ns,qn,hd,sn,sub,ab,col,del⟩:=cd
   dsimp only at hm hdel hok hni
   subst hm hdel
   have hsl : sl = #[k0,k1,k2,k3,some (.builtin "ValueError.__new__"),k5]:=by
    obtain ⟨l⟩:=sl
    simp only at hs
    rw [hs]
   subst hsl
   have G : h.Ns ns (h.nsMap ns):=.of_isNs (isNs_of_in X hok)
   refine ⟨bm,ns,nm,qn,bs,hd,sn,sub,ab,col,dd,k0,k1,k2,k3,k5,_,X _ _ ho,G,?_,tail_of_in X ht⟩
   cases init with
   | none=>exact ns_none_of X G hni
   | some f=>exact zjq X G hni
  ·cases q
 ·cases q
theorem zkB {K : PySem.W.Frag} {h h' : Heap} {C : Addr} {init : Option Addr} (X : K.In h) (X' : K.In h') (q : zbg K C init = true) : h'.get? C = h.get? C:=by
 unfold zbg at q
 split at q
 ·rename_i ho
  rw [X _ _ ho,X' _ _ ho]
 ·cases q
abbrev XO (e C : Addr) (dx : Option Addr) : HO:=.ext fun h=>∃ t,h.get? e = some (zbC C t dx)
structure MkX (K : PySem.W.Frag) (C f : Addr) : Prop where
 cls : zbg K C (some f) = true
 fn : PySem.W.isFn K (.ref f) = true
 kp : PySem.W.keepIn K (.ref C) = true
section
variable {X : Cx} {CX : CXT} {k : Nat} {f C : Addr} {fd : FuncData} {ps : List Str} {sp : Sp} {x m : Str} {p pos apos : Pos} {e o : Expr} {es : List Expr} {ta : TE} {t : TA} {pins : List (Addr × Obj)} {σ : St} {H : Hp} {s : Shared}
theorem Inv.exmade {vs : List Value} (I : Inv X pins σ H s) : Inv X pins σ (upd H (s.heap.objs.size + 1) (XO (s.heap.objs.size + 1) C none))
 { s with heap:=(s.heap.push { cls:=.type "tuple",data:=.seq vs.toArray }).push (zbC C s.heap.objs.size none) }:=by
 have e2 : ((s.heap.push { cls:=.type "tuple",data:=.seq vs.toArray }).push (zbC C s.heap.objs.size none)).get? (s.heap.objs.size + 1) = some (zbC C s.heap.objs.size none):=by
  have:=Heap.get?_push_size (s.heap.push { cls:=.type "tuple",data:=.seq vs.toArray }) (o:=zbC C s.heap.objs.size none) rfl
  rwa [Heap.size_push] at this
 refine I.laid (t':=s.toks) (fun b u q=>Heap.get?_push_of_some _ (Heap.get?_push_of_some _ q)) (Nat.le_succ _) ⟨⟨_,e2⟩,⟨_,e2⟩,?_⟩
 rintro h1 h2 ⟨t,e⟩ k
 exact ⟨t,k _ e⟩
theorem zlx {Q : VK} {us : List Value} {vs : List V} (M : MkX X.K C f) (F : FnOk X.prog X.w X.K X.mg X.base CX0 k f fd ps sp) (hr : Room (k + 1) X.A) (hb : zdM X.K fd ps []) (I : Inv X pins σ H s) (r : Vals vs us) (hlen : vs.length <= 10)
 (hq : sp (.ref (s.heap.objs.size + 1) :: vs) (upd H (s.heap.objs.size + 1) (XO (s.heap.objs.size + 1) C none)) (fun v H2=>v = .non /\ Q (.ref (s.heap.objs.size + 1)) H2) E0) :
 wpAny (model X.prog X.w) X.A (call (.ref C) us) (EP X pins σ Q) X.xe s:=by
 have I2:=Inv.exmade (C:=C) (vs:=us) I
 have r2 : Vals (V.ref (s.heap.objs.size + 1) :: vs) (Value.ref (s.heap.objs.size + 1) :: us):=.cons rfl r
 have hl : (Value.ref (s.heap.objs.size + 1) :: us ++ []).length = ps.length:=by
  have e:=r2.length
  rw [F.len _ _ _ _ hq] at e
  rw [List.append_nil]
  exact e.symm
 obtain ⟨bm,N,nm,qn,bs,hd,sn,sub,ab,col,dd,k0,k1,k2,k3,k5,mN,hC,hn,hni,T⟩:=zei I.kIn M.cls
 have hus : us.length <= sizeLine:=zay (by have:=r.length; omega)
 have hb0:=hb { s with heap:=(s.heap.push { cls:=.type "tuple",data:=.seq us.toArray }).push (zbC C s.heap.objs.size none) } (Value.ref (s.heap.objs.size + 1) :: us) I2.kIn hl
 rw [List.append_nil] at hb0
 obtain ⟨hp,g,d,tk,os⟩:=s
 refine wpAny_call (zlL T hC hn hni (fun self=>bind_fn I.kIn self (beq_iff_eq.mp M.fn)) hus (codeAny_mono (F.run _ X.stack _ _ ⟨Value.ref (hp.objs.size + 1) :: us,[]⟩ (Value.ref (hp.objs.size + 1) :: us) _ _ E0 (hr.make C us [])
  (I2.env0.make C us []) hb0 r2 hq) fun r s' hq'=>?_))
 cases r with
 | error e=>exact False.elim hq'
 | ok fl =>
   cases fl with
   | ret u =>
     obtain ⟨v,H',I3,rv,ev,q3⟩:=I2.after hq'
     subst ev
     exact ⟨rv,⟨V.ref (hp.objs.size + 1),H',I3,rfl,q3⟩⟩
   | next=>exact False.elim hq'
   | brk=>exact False.elim hq'
   | cont=>exact False.elim hq'
end
end L2
namespace L2
open PySem PySem.Spec PyProof.Rows PySem.W PySem.Calls Builtin Builtin.ObjectAttr
theorem zht {h : Heap} {o : Obj} {b : Addr} (hb : b < h.objs.size) : (h.push o).get? b = h.get? b:=by
 have e : (h.push o).objs[b]? = h.objs[b]?:=by
  cases h
  simp [Heap.push,Array.getElem?_push]
  intro q
  exact absurd q (Nat.ne_of_lt hb)
 unfold Heap.get?
 rw [e]
def zhP : List Value -> Bool
 | []=>false
 | .ref c :: r=>zhP r
 | v :: r=>(v :: r) == bmV
theorem zgd (self : Value) : ∀ {l : List Value},zhP l = true -> refuseLoop self "__setattr__" l = pure () /\ l.contains (.type "object") = true
 | [],e=>by cases e
 | v :: r,e=>by
   cases v with
   | ref c =>
     have ih:=zgd self (l:=r) e
     rw [refuseLoop_ref,List.contains_cons,ih.2]
     exact ⟨ih.1,Bool.or_true _⟩
   | _ =>
     have e2:=beq_iff_eq.mp (show ((_ :: r) == bmV) = true from e)
     rw [e2]
     exact ⟨PySem.F.store_ValueError.passes self,by decide⟩
section
variable {prog : Program} {w : World} {A : Around} {K : PySem.W.Frag} {C x : Addr} {s : Shared} {R : Result -> Shared -> Prop}
theorem zlK {ox : Obj} {od : Option Obj} {name : Str} {tk : Tok} {v : Value} {cd : ClassData} (X : K.In s.heap) (I : PySem.W.InstAt s.heap x ox C od) (hc : clsIn K C = some cd) (ho : zhP cd.mro = true) (ha : findIn K (.ref C) name = some none)
 (h : wpAny (model prog w) A.in1 (storeInOwnDict (.ref x) (.ref C) (.str name tk) name v false)
   (fun fin s'=>match fin with | .done f=>R (.ok f) s' | .again c'=>c'.quiet = true /\ codeAny (model prog w) A c' R s') (fun e s'=>R (.error e) s') s) :
 codeAny (model prog w) A (.call (.builtin "object.__setattr__") ⟨[.ref x,.str name tk,v],[]⟩) R s:=by
 have SF:=PySem.F.store_object
 have ne : cd.mro.isEmpty = false:=by cases q : cd.mro with | nil=>rw [q] at ho; cases ho | cons _ _=>rfl
 have sub : Looks (model prog w) s.heap (isInstance (.ref x) (.type "object")) true:=I.type.andThen (looks_mroIn X (by unfold mroIn; rw [hc,Option.bind_some,if_neg (by rw [ne]; decide),(zgd (.ref x) ho).2]))
 refine codeAny_call_builtin SF.slot.plain SF.entry (@check_slot (model prog w) _ _ s "object.__setattr__" "object" "__setattr__" (.ref x) [.str name tk,v] [] _ SF.kind SF.split sub (SF.args (.ref x) (.str name tk) v) ?_)
 have hm : Looks (model prog w) s.heap (mroOf (.ref C)) cd.mro:=(looks_clsIn X hc).andThen .now
 rw [osa_eq,refuse_eq]
 refine wpAny_bind (wpAny_bind (I.type.here (wpAny_bind (hm.here ?_))))
 rw [(zgd (.ref x) ho).1]
 refine wpAny_pure (wpAny_bind (I.type.here (wpAny_bind ((looks_findIn X ha).here (wpAny_bind ?_)))))
 exact wpAny_pure h
structure XF (K : PySem.W.Frag) (C : Addr) (f : Str) : Prop where
 cd : ∃ cd,clsIn K C = some cd /\ zhP cd.mro = true /\ cd.hasDict = true
 sa : findIn K (.ref C) "__setattr__" = some (some (.builtin "object.__setattr__"))
 no : findIn K (.ref C) f = some none
theorem znm {E : Value -> Shared -> Prop} {t : Addr} {name : Str} {v : Value} {Q : Unit -> Shared -> Prop} (X : K.In s.heap) (hx : s.heap.get? x = some (zbC C t none)) (F : XF K C name)
 (h : ∀ h' k,s.heap.objs.size <= h'.objs.size -> (∀ b o,b ≠ x -> s.heap.get? b = some o -> h'.get? b = some o) -> h'.get? x = some (zbC C t (some s.heap.objs.size)) -> h'.Ns1 s.heap.objs.size (fun y=>if y = name then some v else none) -> Q () { s with heap:=h',toks:=k }) :
 wpAny (model prog w) A (setAttr (.ref x) name v) Q E s:=by
 obtain ⟨⟨cd,hc,ht,hd⟩,hsa,hno⟩:=F
 have J : PySem.W.InstAt s.heap x (zbC C t none) C none:=⟨hx,rfl,rfl,True.intro⟩
 refine set_plain X J hsa (zlK (s:={ s with toks:=s.toks + 1 }) X J hc ht hno ?_)
 have hxd : x ≠ s.heap.objs.size:=Nat.ne_of_lt (Heap.lt_size hx)
 refine wpAny_bind (wpAny_pure (wpAny_bind (wpAny_bind (wpAny_loadPart (s:={ s with toks:=s.toks + 1 }) hx (wpAny_bind (PySem.W.Looks.here (s:={ s with toks:=s.toks + 1 }) (looks_clsIn X hc) ?_))))))
 rw [hd]
 show wpAny _ _ (do
  let d <- alloc { cls:=Value.type "dict",data:=Data.dict #[] }
  update x fun o=>{ o with dict:=some d }
  dictMade (.ref C) x d) _ _ _
 refine wpAny_bind (wpAny_alloc (wpAny_bind ?_))
 have hx1:=Heap.get?_push_of_some (h:=s.heap) emptyDict hx
 refine wpAny_update (o:=zbC C t none) (s:={ s with heap:=s.heap.push emptyDict,toks:=s.toks + 1 }) hx1 ?_
 show wpAny _ _ (pure (some s.heap.objs.size)) _ _ _
 refine wpAny_pure ?_
 have e1 : (s.heap.push emptyDict).get? s.heap.objs.size = some emptyDict:=Heap.get?_push_size s.heap rfl
 have e2 : ((s.heap.push emptyDict).update x fun o=>{ o with dict:=some s.heap.objs.size }).get? s.heap.objs.size = some emptyDict:=(Heap.get?_update_other _ _ hxd).trans e1
 have e3 : ((s.heap.push emptyDict).update x fun o=>{ o with dict:=some s.heap.objs.size }).get? x = some (zbC C t (some s.heap.objs.size)):=Heap.get?_update_self _ hx1 rfl
 have n1 : ((s.heap.push emptyDict).update x fun o=>{ o with dict:=some s.heap.objs.size }).Ns1 s.heap.objs.size (fun _=>none):=Heap.Ns1.of_empty ⟨emptyDict,#[],_,e2,rfl,(fun e he=>absurd he (by simp)),fun _=>rfl⟩
 have k1 : ∀ b o,b ≠ x -> s.heap.get? b = some o -> ((s.heap.push emptyDict).update x fun o=>{ o with dict:=some s.heap.objs.size }).get? b = some o:=fun b o hb q=>(Heap.get?_update_other _ _ (Ne.symm hb)).trans (Heap.get?_push_of_some _ q)
 have z1 : ((s.heap.push emptyDict).update x fun o=>{ o with dict:=some s.heap.objs.size }).objs.size = s.heap.objs.size + 1:=by rw [Heap.size_after_update,Heap.size_push]
 generalize ((s.heap.push emptyDict).update x fun o=>{ o with dict:=some s.heap.objs.size }) = h1 at e2 e3 n1 k1 z1 ⊢
 refine wpAny_bind (wpAny_pure (wpAny_bind ?_))
 refine wpAny_nsSet1 (s:={ s with heap:=h1,toks:=s.toks + 1 }) n1 fun h' hn2 hs2=>?_
 obtain ⟨oD,esD,epD,hoD,hdD,hcD⟩:=hn2.count (PySem.Within.cons (ns:=[]) name v (fun y hy=>absurd rfl hy))
 refine wpAny_bind (wpAny_lookBehind hoD (by rw [hdD]; exact pastItsLine_dict (Nat.le_trans hcD (Nat.le_trans (zay (show 1 <= 100000 by decide)) (Nat.le_succ _)))) ?_)
 refine wpAny_pure (h h' _ ?_ (fun b o hb q=>?_) ?_ hn2)
 ·rw [hs2.1]
  show s.heap.objs.size <= h1.objs.size
  omega
 ·have hbd : b ≠ s.heap.objs.size:=Nat.ne_of_lt (Heap.lt_size q)
  exact (hs2.2 b hbd).trans (k1 b o hb q)
 ·exact (hs2.2 x hxd).trans e3
end
section
variable {X : Cx} {pins : List (Addr × Obj)} {σ : St} {H : Hp} {s : Shared}
theorem Inv.exset {e C t : Addr} {y : V} {u : Value} {f : Str} {h' : Heap} {k : Nat} (I : Inv X pins σ H s) (he : H e = some (XO e C none)) (ry : RelV y u)
 (k1 : ∀ b o,b ≠ e -> s.heap.get? b = some o -> h'.get? b = some o) (e3 : h'.get? e = some (zbC C t (some s.heap.objs.size))) (n1 : h'.Ns1 s.heap.objs.size (fun z=>if z = f then some u else none)) :
 Inv X pins σ (upd (upd H s.heap.objs.size (.xd [(f,y)])) e (XO e C (some s.heap.objs.size))) { s with heap:=h',toks:=k }:=by
 obtain ⟨oD,es,ep,hoD,r⟩:=id n1
 have hfr : oD.isFreed = false:=(Heap.get?_some_iff.mp hoD).2
 have g1 : (s.heap.push oD).get? s.heap.objs.size = some oD:=Heap.get?_push_size s.heap hfr
 have hed : e ≠ s.heap.objs.size:=Nat.ne_of_lt (I.hok.lt he)
 have I1:=I.laid (a:=s.heap.objs.size) (o:=.xd [(f,y)]) (h':=s.heap.push oD) (t':=s.toks) (fun b u q=>Heap.get?_push_of_some _ q) (Nat.le_refl _) ⟨_,⟨oD,es,ep,g1,r⟩,fun g=>by
  show RelO (List.lookup g [(f,y)]) (if g = f then some u else none)
  by_cases q : g = f
  ·rw [if_pos q,q]
   simp
   exact ry
  ·rw [if_neg q]
   have : List.lookup g [(f,y)] = none:=by simp [q]
   rw [this]
   exact True.intro⟩
 refine I1.write (x:=e) (e:=e) (h':=h') (o:=XO e C (some s.heap.objs.size)) (t':=k) (by rw [zah hed,he]; exact True.intro) (.inl rfl) (fun b v hb q=>?_) ⟨_,e3⟩ ⟨⟨_,e3⟩,⟨_,e3⟩,?_⟩
 ·by_cases hbd : b = s.heap.objs.size
  ·subst hbd
   rw [g1] at q
   cases q
   exact hoD
  ·refine k1 b v hb ?_
   have hlt:=Heap.lt_size q
   rw [Heap.size_push] at hlt
   have hlt2 : b < s.heap.objs.size:=Nat.lt_of_le_of_ne (Nat.lt_succ_iff.mp hlt) hbd
   rwa [zht hlt2] at q
 ·rintro h1 h2 ⟨t,q⟩ kk
  exact ⟨t,kk _ q⟩
def sXF (K : PySem.W.Frag) (ta tv : TE) (f : Str) : TS:=fun D σ H=>tv σ H fun y H1=>ta σ H1 fun x H2=>∃ e C,x = .ref e /\ H2 e = some (XO e C none) /\ XF K C f /\ ∀ dx,H2 dx = none -> D.nx σ (upd (upd H2 dx (.xd [(f,y)])) e (XO e C (some dx)))
theorem zlu {o value : Expr} {f : Str} {pos pos' : Pos} {ta tv : TE} (ha : PE X o ta) (hv : PE X value tv) (hs : swapsWith value (some (.Attribute o f pos')) pos.line X.env = pure false) : PS X (.Assign [.Attribute o f pos'] value pos) (sXF X.K ta tv f):=by
 intro pins s σ H D I h
 refine plainObj_wpAny_Assign_Attribute (thn (hv pins s σ H _ I h) fun u s1 ⟨y,H1,I1,ry,q⟩=>thn (ha pins s1 σ H1 _ I1 q) fun ov s2 ⟨x,H2,I2,rx,e,C,ex,ea,F,q2⟩=>?_) hs
 subst ex
 obtain rfl : ov = Value.ref e:=rx
 obtain ⟨⟨t,he⟩,_⟩:=I2.hok e _ ea
 refine znm I2.kIn he F fun h' k _ k1 e3 n1=>?_
 exact ⟨σ,_,I2.exset ea ry k1 e3 n1,q2 _ I2.fresh⟩
end
end L2
namespace L2
open PySem PySem.Spec PyProof.Rows PySem.W PySem.Calls
structure BI (K : PySem.W.Frag) (CB : Addr) : Prop where
 reads : readsIn K CB (.type "type") = true
 find : findCls K (.ref CB) (.type "type") "__init__" = some (.val (.builtin "ValueError.__init__"))
 ga : specialIn K (.ref CB) "__getattribute__" = some (some (.builtin "type.__getattribute__"))
section
variable {X : Cx} {pins : List (Addr × Obj)} {σ : St} {H : Hp} {s : Shared}
theorem zlh {e C : Addr} {dx init : Option Addr} {u : Value} {Q : VK} (I : Inv X pins σ H s) (he : H e = some (XO e C dx)) (hC : zbg X.K C init = true) (q : Q .non H) :
 wpAny (model X.prog X.w) X.A (call (.builtin "ValueError.__init__") [.ref e,u]) (EP X pins σ Q) X.xe s:=by
 obtain ⟨⟨t0,hx⟩,_⟩:=I.hok e _ he
 obtain ⟨bm,N,nm,qn,bs,hd,sn,sub,ab,col,dd,k0,k1,k2,k3,k5,mN,hC,hn,hni,T⟩:=zei I.kIn hC
 have F:=PySem.F.excBase_ValueError
 obtain ⟨hp,g,d,tk,os⟩:=s
 refine wpAny_call (codeAny_call_builtin F.init.plain F.initEntry (wpAny_check_init_subU F T hC hx rfl ?_))
 wp_walk
 have hx : hp.get? e = some (zbC C t0 dx):=hx
 have I1:=I.kept (h':=hp.push { cls:=Value.type "tuple",data:=Data.seq #[u] }) (t':=tk) (fun b u q=>Heap.get?_push_of_some _ q)
 have g2 : ((hp.push { cls:=Value.type "tuple",data:=Data.seq #[u] }).update e (Obj.mapFields fun x=>x.setIfInBounds 0 (Value.ref hp.objs.size))).get? e = some (zbC C hp.objs.size dx) :=
  Heap.get?_update_self _ (Heap.get?_push_of_some _ hx) rfl
 have I2:=I1.write (x:=e) (e:=e) (o:=XO e C dx) (h':=(hp.push { cls:=Value.type "tuple",data:=Data.seq #[u] }).update e (Obj.mapFields fun x=>x.setIfInBounds 0 (Value.ref hp.objs.size))) (t':=tk)
  (by rw [he]; exact True.intro) (.inl rfl) (fun b v hb q=>(Heap.get?_update_other _ _ (Ne.symm hb)).trans q) ⟨_,g2⟩ ⟨⟨_,g2⟩,⟨_,g2⟩,fun h1 h2 ⟨t,z⟩ kk=>⟨t,kk _ z⟩⟩
 have eH : upd H e (XO e C dx) = H:=by
  funext b
  by_cases hb : b = e
  ·subst hb
   rw [upd_same,he]
  ·rw [zah hb]
 rw [eH] at I2
 exact ⟨.non,H,I2,rfl,q⟩
def tBI (K : PySem.W.Frag) (t : TA) : TE:=fun σ H Q=>t σ H fun vs H1=>∃ e C dx init x,vs = [.ref e,.str x] /\ H1 e = some (XO e C dx) /\ zbg K C init = true /\ Q .non H1
theorem ziA {CB : Addr} {x : Str} {np apos pos : Pos} {e : Expr} {es : List Expr} {t : TA} {pl : Sem Bool} (F : BI X.K CB) (hg : Gl X x) (hm : X.mg x = some (.ref CB)) (ha : PA X (e :: es) t) (hdb : (x == ("__debug__" : Str)) = false:=by decide)
 (hst : starEach (e :: es) X.env = (false,eval e X.env) :: starEach es X.env:=by rfl) (hpl : (backTo pos (starEach es X.env)).any (·.1) = false:=by rfl)
 (ht : eval (.Call (.Attribute (.Name x np) "__init__" apos) (e :: es) [] pos) X.env = (do
   let ov <- eval (.Name x np) X.env
   standAt apos.atName
   let (f,first) <- holding [ov] (getMethod ov "__init__" pl)
   callWith pos f first (backTo pos (starEach (e :: es) X.env)) (backToKw pos (keywordEach [] X.env))):=by rfl) :
 PE X (.Call (.Attribute (.Name x np) "__init__" apos) (e :: es) [] pos) (tBI X.K t):=by
 intro pins s σ H Q I h
 refine PySem.W.methodCall_KW (pl:=pl) (zcE I hg hm ?_ hdb) ht
 refine method_cls I.kIn F.ga (cls_value I.kIn F.reads F.find rfl ?_)
 have hA:=ha pos pins { s with toks:=s.toks + 1 } σ H _ (I.tok _) h
 rw [hst] at hA ⊢
 refine Calls.callWith_builtin (by show (false || (backTo pos (starEach es X.env)).any (·.1)) = false; rw [hpl] <;> rfl) (Calls.evalArgs_plain ?_)
 refine thn hA fun us s2 ⟨vs,H2,I2,r2,ex,C,dx,init,z,evs,he,hC,q⟩=>?_
 subst evs
 cases r2 with
 | cons r1 r2 =>
   cases r2 with
   | cons r2 r3 =>
     cases r3
     obtain rfl:=(show _ = Value.ref ex from r1)
     exact zlh I2 he hC q
def tFmt (tv : TE) : TE:=fun σ H Q=>tv σ H fun v H1=>∃ i : Int,v = .int i /\ i.natAbs <= 1000000000 /\ ∀ x : Str,x.length <= 2000 -> Q (.str x) H1
theorem zhb {n : Nat} (h : n <= 1000000000) : n.log2 < 1920:=by
 by_cases h0 : n = 0
 ·subst h0
  decide
 ·have h1 : n < 2 ^ 30:=Nat.lt_of_le_of_lt h (by decide)
  exact Nat.lt_trans ((Nat.log2_lt h0).mpr h1) (by decide)
theorem zmU {value : Expr} {pos : Pos} {tv : TE} (hv : PE X value tv) : PE X (.FormattedValue value (-1) none pos) (tFmt tv):=by
 intro pins s σ H Q I h
 refine wpAny_FormattedValue_plain (thn (hv pins s σ H _ I h) fun v s1 ⟨y,H1,I1,ry,i,ey,hi,q⟩=>?_)
 subst ey
 obtain ⟨t,rfl⟩:=ry
 have hl : (Str.ofString (toString i)).length <= 2000:=by
  have e:=int_text_length_le (k:=1920) (by decide) (zhb hi)
  rw [PySem.ofString_length]
  omega
 exact wpAny_formatField_int (zhb hi) ⟨.str _,H1,I1.tok _,⟨_,rfl⟩,q _ hl⟩
def tJ2 (t1 t2 : TE) : TE:=fun σ H Q=>t1 σ H fun a H1=>∃ x1 : Str,a = .str x1 /\ x1.length <= 2000 /\ t2 σ H1 fun b H2=>∃ x2 : Str,b = .str x2 /\ x2.length <= 2000 /\ ∀ x,Q (.str x) H2
theorem zuS {v1 v2 : Expr} {pos : Pos} {t1 t2 : TE} (h1 : PE X v1 t1) (h2 : PE X v2 t2) : PE X (.JoinedStr [v1,v2] pos) (tJ2 t1 t2):=by
 intro pins s σ H Q I h
 refine wpAny_JoinedStr ?_
 show wpAny _ _ (eval v1 X.env) _ _ _
 refine thn (h1 pins s σ H _ I h) fun a s1 ⟨y1,H1,I1,r1,x1,e1,l1,q1⟩=>?_
 subst e1
 obtain ⟨t1',rfl⟩:=r1
 have z0 : (Str.empty ++ x1).length = x1.length:=by rw [Str.length_append]; show 0 + _ = _; omega
 refine ⟨x1,t1',rfl,by rw [z0]; exact zay (by omega),?_⟩
 show wpAny _ _ (eval v2 X.env) _ _ _
 refine thn (h2 pins s1 σ H1 _ I1 q1) fun b s2 ⟨y2,H2,I2,r2,x2,e2,l2,q2⟩=>?_
 subst e2
 obtain ⟨t2',rfl⟩:=r2
 have z1 : (Str.empty ++ x1 ++ x2).length <= sizeLine:=by rw [Str.length_append,z0]; exact zay (by omega)
 exact ⟨x2,t2',rfl,z1,z1,.str _,H2,I2.tok _,⟨_,rfl⟩,q2 _⟩
def tJ3 (t1 t2 t3 : TE) : TE:=fun σ H Q=>t1 σ H fun a H1=>∃ x1 : Str,a = .str x1 /\ x1.length <= 2000 /\ t2 σ H1 fun b H2=>∃ x2 : Str,b = .str x2 /\ x2.length <= 2000 /\ t3 σ H2 fun c H3=>∃ x3 : Str,c = .str x3 /\ x3.length <= 2000 /\ ∀ x,Q (.str x) H3
theorem zvd {v1 v2 v3 : Expr} {pos : Pos} {t1 t2 t3 : TE} (h1 : PE X v1 t1) (h2 : PE X v2 t2) (h3 : PE X v3 t3) : PE X (.JoinedStr [v1,v2,v3] pos) (tJ3 t1 t2 t3):=by
 intro pins s σ H Q I h
 refine wpAny_JoinedStr ?_
 show wpAny _ _ (eval v1 X.env) _ _ _
 refine thn (h1 pins s σ H _ I h) fun a s1 ⟨y1,H1,I1,r1,x1,e1,l1,q1⟩=>?_
 subst e1
 obtain ⟨t1',rfl⟩:=r1
 have z0 : (Str.empty ++ x1).length = x1.length:=by rw [Str.length_append]; show 0 + _ = _; omega
 refine ⟨x1,t1',rfl,by rw [z0]; exact zay (by omega),?_⟩
 show wpAny _ _ (eval v2 X.env) _ _ _
 refine thn (h2 pins s1 σ H1 _ I1 q1) fun b s2 ⟨y2,H2,I2,r2,x2,e2,l2,q2⟩=>?_
 subst e2
 obtain ⟨t2',rfl⟩:=r2
 have z1 : (Str.empty ++ x1 ++ x2).length = x1.length + x2.length:=by rw [Str.length_append,z0]
 refine ⟨x2,t2',rfl,by rw [z1]; exact zay (by omega),?_⟩
 show wpAny _ _ (eval v3 X.env) _ _ _
 refine thn (h3 pins s2 σ H2 _ I2 q2) fun c s3 ⟨y3,H3,I3,r3,x3,e3,l3,q3⟩=>?_
 subst e3
 obtain ⟨t3',rfl⟩:=r3
 have z2 : (Str.empty ++ x1 ++ x2 ++ x3).length <= sizeLine:=by rw [Str.length_append,z1]; exact zay (by omega)
 exact ⟨x3,t3',rfl,z2,z2,.str _,H3,I3.tok _,⟨_,rfl⟩,q3 _⟩
end
end L2
namespace L2
open PySem PySem.Spec PyProof.Rows PySem.W PySem.Calls
def unt (H : Hp) (e : Addr) : Hp:=fun b=>if b = e then none else H b
theorem zdT {H : Hp} {e : Addr} : unt H e e = none:=by unfold unt; rw [if_pos rfl]
theorem ziC {H : Hp} {e b : Addr} (h : b ≠ e) : unt H e b = H b:=by unfold unt; rw [if_neg h]
section
variable {M : Model} {A : Around} {E : Value -> Shared -> Prop} {env : Env}
variable {nm q : Str} {C N : Addr} {bs bm : List Value} {hdct : Bool} {sn : List Str} {sub : List Value} {ab : Bool} {col : Option Bool} {dd : Option Addr} {k0 k1 k2 k3 k5 : Option Value} {newId : String}
theorem zjs {s : Shared} {x : Sem Value} {Q : Flow -> Shared -> Prop} (hbase : bm.contains (.type "BaseException") = true) (hh : A.handled = none)
 (h : wpAny M A x (fun v s₁=>∃ e t dx,v = .ref e /\ s₁.heap.get? C = some (excClassObj nm q C N bs bm hdct sn sub ab col dd k0 k1 k2 k3 k5 newId) /\ s₁.heap.get? e = some (zbC C t dx) /\ E (.ref e) s₁) E s) :
 wpAny M A (raiseStmt env (some x) none) Q E s:=by
 have hcB : (Value.ref C :: bm).contains (.type "BaseException") = true:=by rw [List.contains_cons,hbase,Bool.or_true]
 unfold raiseStmt
 refine wpAny_bind (wpAny_mono h (fun v s₁ h₁=>?_) fun _ _ x=>x)
 obtain ⟨e,t,dx,rfl,hC,he,hE⟩:=h₁
 obtain ⟨hp,g,d,tk,os⟩:=s₁
 have he : hp.get? e = some { cls:=.ref C,dict:=dx,data:=.fields #[.ref t,.none,.none,.none,.bool false,.none] }:=he
 repeat (first | with_reducible refine wpAny_loadPart_at he ?_ | with_reducible refine wpAny_loadPart_at hC ?_ | (with_reducible refine wpAny_isSubtype_exc hC ?_; rw [hcB]) | wp_step)
 exact wpAny_raiseNew_none hh hE
end
section
variable {prog : Program} {w : World} {A : Around} {E : Value -> Shared -> Prop} {h : Heap} {g : Array GenState} {d : Drawn} {t : Nat} {os : OsState}
variable {nm q : Str} {C N : Addr} {bs bm : List Value} {hdct : Bool} {sn : List Str} {sub : List Value} {ab : Bool} {col : Option Bool} {dd : Option Addr} {k0 k1 k2 k3 k5 : Option Value}
end
section
variable {X : Cx} {pins : List (Addr × Obj)} {σ : St} {H : Hp} {s : Shared}
theorem Inv.unt {e : Addr} {φ : Heap -> Prop} (I : Inv X pins σ H s) (he : H e = some (.ext φ)) : Inv X pins σ (unt H e) s:=by
 have hn : ∀ b,H b = none -> L2.unt H e b = none:=fun b h=>by
  by_cases q : b = e
  ·rw [q,zdT]
  ·rw [ziC q]; exact h
 have hk : ∀ b o,H b = some o -> (∀ φ,o ≠ .ext φ) -> L2.unt H e b = some o:=fun b o h ho=>by
  rw [ziC (fun q=>?_)]
  ·exact h
  ·rw [q,he] at h
   cases h
   exact ho _ rfl
 refine ⟨I.ok,I.os,I.bare,⟨I.base.keep,I.base.slot,fun b o q n hx=>hn b (I.base.free b o q n hx),I.base.there,fun b xs q=>hk b _ (I.base.tups b xs q) (fun φ z=>nomatch z),fun b o u q=>hk b _ (I.base.frzs b o u q) (fun φ z=>nomatch z),fun b ps q=>?_⟩,I.loc,I.cell,hn _ I.free,fun x c h=>hn _ (I.freeC x c h),fun p hp=>?_,fun b o q=>?_,I.len⟩
 ·obtain ⟨more,z⟩:=I.base.tbls b ps q
  exact ⟨more,hk b _ z (fun φ w=>nomatch w)⟩
 ·obtain ⟨a,b,c⟩:=I.pin p hp
  exact ⟨a,hn _ b,c⟩
 ·have hb : b ≠ e:=fun z=>by rw [z,zdT] at q; cases q
  rw [ziC hb] at q
  exact (I.hok b o q).stay (fun _ _ _ z=>z) (fun c z=>hk c _ z (fun φ w=>nomatch w)) fun c xs z=>hk c _ z (fun φ w=>nomatch w)
def zsy (C : Addr) (sp : Sp) (E : St -> XK) (σ : St) (vs : List V) (H1 : Hp) : Prop:=vs.length <= 10 /\ ∀ e,H1 e = none -> sp (.ref e :: vs) (upd H1 e (XO e C none)) (fun v H2=>v = .non /\ V.ref e = .ref e /\ ∃ dx,H2 e = some (XO e C dx) /\ E σ (.ref C) dx (L2.unt H2 e)) E0
theorem zkf {E : St -> XK} {R : St -> List V -> Hp -> Prop} {k : Nat} {f C L : Addr} {fd : FuncData} {ps : List Str} {sp : Sp} {x : Str} {np cpos pos : Pos} {e : Expr} {es : List Expr} {t : TA} (hL : X.env.frame = some L) (hcm : X.calm = true)
 (M : MkX X.K C f) (F : FnOk X.prog X.w X.K X.mg X.base CX0 k f fd ps sp) (hr : Room (k + 1) X.A) (hg : Gl X x) (hm : X.mg x = some (.ref C)) (hb : zdM X.K fd ps []) (hR : ∀ σ vs H1,R σ vs H1 -> zsy C sp E σ vs H1)
 (ha : PA (X.wish (Fly X E)) (e :: es) t) (hdb : (x == ("__debug__" : Str)) = false:=by decide) (he : starEach (e :: es) X.env = (false,eval e X.env) :: starEach es X.env:=by rfl) (hpl : (backTo cpos (starEach es X.env)).any (·.1) = false:=by rfl) :
 PS (X.wish (Fly X E)) (.Raise (some (.Call (.Name x np) (e :: es) [] cpos)) none pos) (fun _ σ H=>t σ H (R σ)):=by
 intro pins s σ H D I h
 obtain ⟨bm,N,nm,qn,bs,hd,sn,sub,ab,col,dd,k0,k1,k2,k3,k5,mN,hC,hn,hni,T⟩:=zei I.kIn M.cls
 have hbase : bm.contains (.type "BaseException") = true:=T.hasType (by decide)
 rw [arm_exec_Raise]
 refine wpAny_bind (wpAny_standAt (zjs (C:=C) (nm:=nm) (q:=qn) (N:=N) (bs:=bs) (bm:=bm) (hdct:=hd) (sn:=sn) (sub:=sub) (ab:=ab) (col:=col) (dd:=dd) (k0:=k0) (k1:=k1) (k2:=k2) (k3:=k3) (k5:=k5) (newId:="ValueError.__new__") hbase (I.ok.hd hcm) ?_))
 show wpAny _ _ (do let v <- eval (.Call (.Name x np) (e :: es) [] cpos) X.env; standAt pos; pure v) _ _ _
 refine wpAny_bind (wpAny_mono (wpAny_Call_Name_kw (zcE I hg hm ?_ hdb)) (fun v s₃ h₃=>wpAny_bind (wpAny_standAt (wpAny_pure h₃))) fun _ _ z=>z)
 refine PySem.W.callWith_K (h₀:=X.base) I.ok.mod.kin M.kp (thn (ha cpos pins s σ H _ I h) fun us s1 ⟨vs,H1,I1,r,q0⟩=>⟨I1.kIn,?_⟩) he hpl
 obtain ⟨hl,q⟩:=hR σ vs H1 q0
 refine thn (zlx (X:=X.wish (Fly X E)) (Q:=fun v H2=>v = .ref (s1.heap.objs.size + 1) /\ ∃ dx,H2 (s1.heap.objs.size + 1) = some (XO (s1.heap.objs.size + 1) C dx) /\ E σ (.ref C) dx (L2.unt H2 (s1.heap.objs.size + 1))) M F hr hb I1 r hl ?_) fun v s2 ⟨y,H2,I2,ry,ey,dx,he2,hE2⟩=>?_
 ·exact q (s1.heap.objs.size + 1) (I1.hok.fresh (Nat.le_succ _))
 ·subst ey
  obtain rfl : v = Value.ref (s1.heap.objs.size + 1):=ry
  obtain ⟨⟨t2,ho2⟩,_⟩:=I2.hok _ _ he2
  refine ⟨_,t2,dx,rfl,(zkB I.kIn I2.kIn M.cls).trans hC,ho2,?_⟩
  exact ⟨_,.ref C,dx,σ,_,L,rfl,hL,(I2.unwish.nopins).unt he2,⟨Nat.le_trans I1.sz (Nat.le_succ _),zdT,I1.unwish.pnlt (Nat.le_succ _)⟩,⟨_,_,.none,ho2,rfl,rfl,rfl,rfl,.inl rfl⟩,hE2⟩
end
end L2
namespace L2
open PySem PySem.Spec PyProof.Rows PySem.W PySem.Calls
section
variable {M : Model} {A : Around} {E : Value -> Shared -> Prop} {s : Shared}
theorem find_erase {α : Type} {p : α -> Bool} : ∀ {l : List α} {i : Nat},(∀ x,l[i]? = some x -> p x = false) -> (l.eraseIdx i).find? p = l.find? p
 | [],_,_=>rfl
 | x :: l,0,h=>by
   have hx:=h x rfl
   show l.find? p = (x :: l).find? p
   rw [List.find?_cons,hx]
 | x :: l,i + 1,h=>by
   have ih:=find_erase (l:=l) (i:=i) fun y hy=>h y (by simpa using hy)
   show (x :: l.eraseIdx i).find? p = (x :: l).find? p
   rw [List.find?_cons,List.find?_cons,ih]
theorem zqC {a : Addr} {m} {name : Str} {Q : Bool -> Shared -> Prop} (hn : s.heap.Ns a m)
 (hQ : ∀ h' m',h'.Ns a m' -> (∀ y,y ≠ name -> m' y = m y) -> Heap.SameBut a s.heap h' -> Q (m name).isSome { s with heap:=h' }) : wpAny M A (nsDel a name) Q E s:=by
 obtain ⟨o,es,ep,ho,hd,hk,hm⟩:=id hn
 have hany : es.any (·.refKey) = false:=by
  rw [Array.any_eq_false']; intro e he; obtain ⟨n,t,h⟩:=hk e he; simp [DictEntry.refKey,h]
 have hsome : (m name).isSome = es.any (·.key.isStr name):=by
  rw [<- hm name]; simp only [nsFind,findBy,Option.isSome_map]
  rw [Bool.eq_iff_iff]; simp only [Array.find?_isSome,Array.any_eq_true]
  constructor
  ·rintro ⟨x,hx,hp⟩; obtain ⟨i,hi,rfl⟩:=Array.mem_iff_getElem.mp hx; exact ⟨i,hi,hp⟩
  ·rintro ⟨i,hi,hp⟩; exact ⟨_,Array.getElem_mem hi,hp⟩
 have hhas : nsHas name o = pure (es.any (·.key.isStr name)):=by
  rw [nsHas_eq]; unfold nsHasByArray; rw [hd]
  show (if (es.any fun x=>x.key.isStr name) = true then _ else _) = _
  generalize (es.any fun x=>x.key.isStr name) = b
  cases b <;> simp [hany]
 unfold nsDel
 refine wpAny_bind (wpAny_loadPart ho ?_)
 rw [hhas]
 refine wpAny_bind (wpAny_pure ?_)
 rw [<- hsome]
 cases hmn : (m name).isSome
 ·have:=hQ s.heap m hn (fun _ _=>rfl) (.refl ..)
  rw [hmn] at this
  exact wpAny_pure this
 ·refine wpAny_bind (wpAny_updatePart ho (wpAny_pure ?_))
  have key : ∃ m',(s.heap.update a (Obj.dropName name)).Ns a m' /\ ∀ y,y ≠ name -> m' y = m y:=by
   obtain ⟨cl,d,dt,sl⟩:=o
   subst hd
   cases hi : es.findIdx? (·.key.isStr name) with
   | some i =>
     refine ⟨_,⟨_,_,ep + 1,Heap.get?_update_self _ ho (by simp only [Obj.dropName_eq,Obj.dropNameByArray,hi] <;> rfl),(by simp only [Obj.dropName_eq,Obj.dropNameByArray,hi] <;> rfl),hk.erase i,fun _=>rfl⟩,fun y hy=>?_⟩
     rw [<- hm y]
     show nsFind (es.eraseIdxIfInBounds i) y = nsFind es y
     obtain ⟨l⟩:=es
     simp only [nsFind,findBy,List.eraseIdxIfInBounds_toArray,List.find?_toArray,List.findIdx?_toArray] at hi ⊢
     rw [L2.find_erase fun x hx=>?_]
     obtain ⟨hil,hp,_⟩:=List.findIdx?_eq_some_iff_getElem.mp hi
     have ex : l[i] = x:=by
      rw [List.getElem?_eq_getElem hil] at hx
      exact Option.some.inj hx
     rw [ex] at hp
     cases hk2 : x.key with
     | str z t =>
       rw [hk2] at hp
       have hz : z = name:=by simpa [Value.isStr] using hp
       show (z == y) = false
       rw [hz,beq_eq_false_iff_ne]
       exact fun e=>hy e.symm
     | _=>rfl
   | none=>exact ⟨_,⟨_,_,ep,Heap.get?_update_self _ ho (by simp only [Obj.dropName_eq,Obj.dropNameByArray,hi] <;> rfl),(by simp only [Obj.dropName_eq,Obj.dropNameByArray,hi] <;> rfl),hk,fun _=>rfl⟩,fun y _=>hm y⟩
  obtain ⟨m',hm',hy⟩:=key
  have:=hQ _ m' hm' hy (Heap.SameBut.update ..)
  rw [hmn] at this
  exact this
theorem zkO {env : Env} {n : Str} {pos : Pos} {m : Str -> Option Value} {Q : Unit -> Shared -> Prop} (hl : env.kindOf n = some .local) (hn : s.heap.Ns env.locals m)
 (hp : (env.scope.kind == .class || (env.scope.kind == .module && env.locals != env.globals)) = false)
 (h : ∀ h' m',h'.Ns env.locals m' -> (∀ y,y ≠ n -> m' y = m y) -> Heap.SameBut env.locals s.heap h' -> Q () { s with heap:=h',toks:=s.toks + 1 }) :
 wpAny M A (do bindName env n .none; unbindBehindTheSuite env n pos) Q E s:=by
 refine wpAny_bind (wpAny_bindName (wpAny_storeName_local hl hn (fun h₁ hn₁ hs₁=>?_) hp))
 unfold unbindBehindTheSuite
 refine wpAny_onRaise ?_
 unfold unbindName
 refine wpAny_bind (wpAny_point (wpAny_bind ?_))
 unfold deleteName
 simp only [hl,hp]
 rw [if_neg (by decide)]
 refine wpAny_bind (zqC hn₁ fun h₂ m₂ hn₂ hy hs₂=>?_)
 simp only [if_true,Option.isSome_some,Bool.not_true,Bool.false_eq_true,if_false]
 exact wpAny_pure (wpAny_point (h h₂ m₂ hn₂ (fun y hyn=>by rw [hy y hyn,if_neg hyn]) (hs₁.trans hs₂)))
end
section
variable {X : Cx} {pins : List (Addr × Obj)} {σ : St} {H : Hp} {s : Shared}
theorem zgb {M : Model} {A : Around} {E : Value -> Shared -> Prop} {i : Nat} {x : Str} {pos : Pos} {Q : Unit -> Shared -> Prop} (I : Inv X pins σ H s) (hN : X.N.Nodup) (hi : X.N[i]? = some x) (hk : X.env.scope.names.lookup x = some .local)
 (h : ∀ s',Inv X pins (σ.set i none) H s' -> Q () s') : wpAny M A (do bindName X.env x .none; unbindBehindTheSuite X.env x pos) Q E s:=by
 obtain ⟨m,hn,hl⟩:=id I.loc
 have hcls : (X.env.scope.kind == .class || (X.env.scope.kind == .module && X.env.locals != X.env.globals)) = false:=by rw [I.ok.kind]; rfl
 have hiσ : i < σ.length:=by rw [I.len]; exact (List.getElem?_eq_some_iff.mp hi).1
 have cne:=I.cne
 refine zkO hk hn hcls fun h' m' hn' hy hs=>?_
 obtain ⟨oL,_,_,hoL,_⟩:=id hn
 refine h _ ⟨I.ok,I.os,I.bare,⟨fun b o e n hb hx=>?_,fun b o e n hb hx=>?_,I.base.free,fun b o e hx=>?_,I.base.tups,I.base.frzs,I.base.tbls⟩,⟨_,hn',fun j y v' e1 e2 e3=>?_⟩,fun y c e=>?_,I.free,I.freeC,fun p hp=>?_,fun b ob e=>?_,by simpa using I.len⟩
 ·exact (hs.2 b (Nat.ne_of_lt (Nat.lt_of_lt_of_le (Heap.lt_size e) I.ok.above))).trans (I.base.keep b o e n hb hx)
 ·obtain ⟨sl,e1⟩:=I.base.slot b o e n hb hx
  exact ⟨sl,(hs.2 b (Nat.ne_of_lt (Nat.lt_of_lt_of_le (Heap.lt_size e) I.ok.above))).trans e1⟩
 ·obtain ⟨o',e1⟩:=I.base.there b o e hx
  exact ⟨o',(hs.2 b (Nat.ne_of_lt (Nat.lt_of_lt_of_le (Heap.lt_size e) I.ok.above))).trans e1⟩
 ·by_cases hj : j = i
  ·subst hj
   rw [List.getElem?_set_self hiσ] at e2
   cases e2
  ·rw [List.getElem?_set_ne (Ne.symm hj)] at e2
   obtain ⟨u',r',q⟩:=hl j y v' e1 e2 e3
   refine ⟨u',r',?_⟩
   rcases q with ⟨k,e⟩ | ⟨k,c,e,z⟩
   ·refine .inl ⟨k,?_⟩
    have : y ≠ x:=fun e=>hj (zfW hN e1 (e ▸ hi))
    rw [hy y this,e]
   ·exact .inr ⟨k,c,e,z.sameBut hs (cne y c e)⟩
 ·obtain ⟨w',z⟩:=I.cell y c e
  exact ⟨w',z.sameBut hs (cne y c e)⟩
 ·obtain ⟨e,n,ne,nf,d⟩:=I.pin p hp
  exact ⟨(hs.2 p.1 ne).trans e,n,ne,nf,d⟩
 ·refine (I.hok b ob e).stay (fun c w' hc q=>(hs.2 c ?_).trans q) (fun _ q=>q) fun _ _ q=>q
  rintro rfl
  rcases hc with rfl | hc
  ·rw [I.free] at e; cases e
  ·rw [I.free] at hc; cases hc
abbrev Cx.suite (X : Cx) (e : Addr) : Cx:={ X with A:=X.A.mark (some (.ref e)),calm:=false,xe:=fun _ _=>False }
theorem Inv.suite (I : Inv X pins σ H s) (e : Addr) : Inv (X.suite e) pins σ H s :=
 ⟨⟨I.ok.mod,I.ok.kind,I.ok.glob,I.ok.blt,I.ok.above,I.ok.inj,I.ok.has,I.ok.cab,(fun z=>nomatch z),I.ok.frames,I.ok.stk,I.ok.exf,I.ok.bs,I.ok.bsz,I.ok.noex,I.ok.exfs,I.ok.funs,I.ok.frf⟩,I.os,I.bare,I.base,I.loc,I.cell,I.free,I.freeC,I.pin,I.hok,I.len⟩
theorem Inv.unsuite {e : Addr} {A : Around} {c : Bool} {xe : Value -> Shared -> Prop} (hA : A.frames = some X.stack) (hd : c = true -> A.handled = none) (I : Inv (X.suite e) pins σ H s) : Inv { X with A:=A,calm:=c,xe:=xe } pins σ H s :=
 ⟨⟨I.ok.mod,I.ok.kind,I.ok.glob,I.ok.blt,I.ok.above,I.ok.inj,I.ok.has,I.ok.cab,hd,hA,I.ok.stk,I.ok.exf,I.ok.bs,I.ok.bsz,I.ok.noex,I.ok.exfs,I.ok.funs,I.ok.frf⟩,I.os,I.bare,I.base,I.loc,I.cell,I.free,I.freeC,I.pin,I.hok,I.len⟩
end
end L2
namespace L2
open PySem PySem.Spec PyProof.Rows PySem.W PySem.Calls
theorem zlW {K : PySem.W.Frag} {h : Heap} {C : Addr} {init : Option Addr} {nm q : Str} {N : Addr} {bs bm : List Value} {hdct : Bool} {sn : List Str} {sub : List Value} {ab : Bool} {col : Option Bool} {dd : Option Addr} {k0 k1 k2 k3 k5 : Option Value} {newId : String}
 (X : K.In h) (hq : zbg K C init = true) (hC : h.get? C = some (excClassObj nm q C N bs bm hdct sn sub ab col dd k0 k1 k2 k3 k5 newId)) (v : Value) : mroIn K C v = some ((Value.ref C :: bm).contains v):=by
 unfold zbg at hq
 split at hq
 ·rename_i ho
  have e:=X _ _ ho
  rw [hC] at e
  cases e
  unfold mroIn clsIn
  rw [ho]
  rfl
 ·cases hq
section
variable {M : Model} {A : Around} {E : Value -> Shared -> Prop} {h : Heap} {g : Array GenState} {d : Drawn} {t : Nat} {os : OsState}
theorem znt {K : PySem.W.Frag} {e C B : Addr} {oe : Obj} {init initB : Option Addr} {b : Bool} {Q : Bool -> Shared -> Prop} (X : K.In h) (hC : zbg K C init = true) (hB : zbg K B initB = true) (he : h.get? e = some oe) (hcls : oe.cls = .ref C)
 (hm : mroIn K C (.ref B) = some b) (hq : Q b ⟨h,g,d,t,os⟩) : wpAny M A (excMatches (.ref e) (.ref B)) Q E ⟨h,g,d,t,os⟩:=by
 obtain ⟨bm,N,nm,qn,bs,hd,sn,sub,ab,col,dd,k0,k1,k2,k3,k5,mN,oC,_,_,T⟩:=zei X hC
 obtain ⟨bm2,N2,nm2,qn2,bs2,hd2,sn2,sub2,ab2,col2,dd2,j0,j1,j2,j3,j5,mN2,oB,_,_,T2⟩:=zei X hB
 have hcm : (Value.ref C :: bm).contains (.ref B) = b:=by
  have:=zlW X hC oC (.ref B)
  rw [hm] at this
  exact (Option.some.inj this).symm
 have hbB : (Value.ref B :: bm2).contains (.type "BaseException") = true:=by rw [List.contains_cons,T2.hasType (show bmV.contains (.type "BaseException") = true by decide),Bool.or_true]
 have f:=tc_notTuple
 unfold excMatches
 repeat (first | (with_reducible refine wpAny_loadPart_at he ?_; rw [hcls]) | with_reducible refine wpAny_loadPart_at oB ?_ | with_reducible refine wpAny_loadPart_at oC ?_ | (with_reducible refine wpAny_isSubtype_exc oB ?_; rw [hbB]) | (with_reducible refine wpAny_isSubtype_exc oC ?_; rw [hcm]) | wp_step)
 cases b <;> (wp_walk; exact hq)
end
abbrev XE (e C : Addr) (dx : Option Addr) : HO:=.ext fun h=>∃ o vs,h.get? e = some o /\ o.cls = .ref C /\ o.dict = dx /\ o.data = .fields vs
abbrev THd:=Ends -> St -> Value -> Option Addr -> Hp -> Prop
def PHs (X : Cx) (hs : List ExceptHandler) (th : THd) : Prop:=∀ (e : Addr) (cls : Value) (dx : Option Addr) (σ : St) (H : Hp) (s : Shared) (D : Ends),Inv X [] σ H s -> Fr0 X H e -> zdA (TbAt (Fr0 X H) e .none) s.heap e cls dx -> th D σ cls dx H ->
 wpAny (model X.prog X.w) X.A (handleBy (.ref e) X.env hs) (SP X [] D) X.xe s
def zvl : THd:=fun _ _ _ _ _=>False
theorem zmG {X : Cx} : PHs X [] zvl:=fun _ _ _ _ _ _ _ _ _ _ h=>h.elim
def Dg (i : Nat) (D : Ends) : Ends:={ nx:=fun σ H=>D.nx (σ.set i none) H,rt:=D.rt,bk:=fun σ H=>D.bk (σ.set i none) H,ct:=fun σ H=>D.ct (σ.set i none) H }
def tHd (K : PySem.W.Frag) (B : Addr) (i : Nat) (ts : TS) (tr : THd) : THd:=fun D σ cls dx H=>∃ C init b,cls = .ref C /\ zbg K C init = true /\ mroIn K C (.ref B) = some b /\
 (if b = true then ∀ e,H e = none -> ts (Dg i D) (σ.set i (some (.ref e))) (upd H e (XE e C dx)) else tr D σ cls dx H)
section
variable {X : Cx} {σ : St} {H : Hp} {s : Shared}
theorem Inv.track {e C : Addr} {dx : Option Addr} {o : Obj} {vs : Array Value} (I : Inv X [] σ H s) (he : Fr0 X H e) (ho : s.heap.get? e = some o) (hc : o.cls = .ref C) (hdx : o.dict = dx) (hd : o.data = .fields vs) : Inv X [] σ (upd H e (XE e C dx)) s:=by
 obtain ⟨h1,h2,h3⟩:=he
 have hk : ∀ b u,H b = some u -> upd H e (XE e C dx) b = some u:=fun b u q=>by rw [zah (zan q h2)]; exact q
 have hne : ∀ b,b ≠ e -> H b = none -> upd H e (XE e C dx) b = none:=fun b hb q=>by rw [zah hb]; exact q
 have hl : X.env.locals ≠ e:=fun q=>by
  obtain ⟨m,⟨o2,es,ep,ho2,hd2,_⟩,_⟩:=I.loc
  rw [q,ho] at ho2
  cases ho2
  rw [hd] at hd2
  cases hd2
 refine ⟨I.ok,I.os,I.bare,⟨I.base.keep,I.base.slot,fun b u q n hx=>hne b (fun z=>?_) (I.base.free b u q n hx),I.base.there,fun b xs q=>hk b _ (I.base.tups b xs q),fun b u v q=>hk b _ (I.base.frzs b u v q),fun b ps q=>?_⟩,I.loc,I.cell,hne _ hl I.free,fun x c h=>hne _ (fun z=>?_) (I.freeC x c h),fun p hp=>?_,fun b u q=>?_,I.len⟩
 ·rw [z] at q
  exact absurd (Heap.lt_size q) (Nat.not_lt.mpr h1)
 ·obtain ⟨more,z⟩:=I.base.tbls b ps q
  exact ⟨more,hk b _ z⟩
 ·obtain ⟨v,o2,ho2,hd2⟩:=I.cell x c h
  rw [z,ho] at ho2
  cases ho2
  rw [hd] at hd2
  cases hd2
 ·obtain ⟨p1,p2,p3⟩:=I.pin p hp
  rw [List.append_nil] at hp
  exact ⟨p1,hne _ (h3 p hp) p2,p3⟩
 ·by_cases hb : b = e
  ·subst hb
   rw [upd_same] at q
   cases q
   refine ⟨⟨o,vs,ho,hc,hdx,hd⟩,⟨o,ho⟩,?_⟩
   rintro g1 g2 ⟨o',vs',a1,a2⟩ kk
   exact ⟨o',vs',kk _ a1,a2⟩
  ·rw [zah hb] at q
   exact (I.hok b u q).stay (fun _ _ _ z=>z) (fun c z=>hk c _ z) fun c xs z=>hk c _ z
theorem znc {B : Addr} {initB : Option Addr} {x n : Str} {i : Nat} {np hpos : Pos} {b₀ : Stmt} {suite : List Stmt} {rest : List ExceptHandler} {ts : TS} {tr : THd} (hg : Gl X x) (hm : X.mg x = some (.ref B)) (hB : zbg X.K B initB = true)
 (hN : X.N.Nodup) (hi : X.N[i]? = some n) (hk : X.env.scope.names.lookup n = some .local) (hsuite : ∀ e,PSs (X.suite e) (b₀ :: suite) ts) (hrest : PHs X rest tr) (hdb : (x == ("__debug__" : Str)) = false:=by decide) :
 PHs X (.ExceptHandler (some (.Name x np)) (some n) (b₀ :: suite) hpos :: rest) (tHd X.K B i ts tr):=by
 rintro e cls dx σ H s D I he hx ⟨C,init,b,rfl,hC,hmr,hb⟩
 obtain ⟨oe,vs,hd,ho,hc,hdi,hdt,h1,hT⟩:=id hx
 refine wpAny_handleBy_cons (codeAny_handlers_test (zcE (X:=X.suite e) (I.suite e) hg hm ?_ hdb)) (by intro q; cases q)
 obtain ⟨hp,g,d,tk,os⟩:=s
 refine znt I.kIn hC hB ho hc hmr ?_
 cases b with
 | false=>exact hrest e (.ref C) dx σ H _ D I he hx hb
 | true =>
   refine codeAny_handlers_suite_as ?_
   refine zdW (s:=⟨hp,g,d,tk,os⟩) (fr:=none) I he hx fun h2 I2 hx2=>?_
   obtain ⟨oe2,vs2,hd2,ho2,hc2,hdi2,hdt2,h12,hT2⟩:=id hx2
   have I3:=I2.track he ho2 hc2 hdi2 hdt2
   refine zgg (v:=.ref e) I3 hN hi (.inl hk) rfl (fun s' I4=>?_) (.inr hk)
   have hb2:=hb e he.2.1
   refine wpAny_mono (hsuite e [] s' (σ.set i (some (.ref e))) _ (Dg i D) (I4.suite e) hb2) (fun f s3 q=>?_) fun _ _ z=>z.elim
   cases f with
   | next =>
     obtain ⟨σ',H',I5,q⟩:=q
     exact zgb (X:=X) (I5.unsuite (X:=X) (A:=X.A) (c:=X.calm) (xe:=X.xe) I.ok.frames I.ok.hd) hN hi hk fun s5 I6=>⟨_,H',I6,q⟩
   | brk =>
     obtain ⟨σ',H',I5,q⟩:=q
     exact zgb (X:=X) (I5.unsuite (X:=X) (A:=X.A) (c:=X.calm) (xe:=X.xe) I.ok.frames I.ok.hd) hN hi hk fun s5 I6=>⟨_,H',I6,q⟩
   | cont =>
     obtain ⟨σ',H',I5,q⟩:=q
     exact zgb (X:=X) (I5.unsuite (X:=X) (A:=X.A) (c:=X.calm) (xe:=X.xe) I.ok.frames I.ok.hd) hN hi hk fun s5 I6=>⟨_,H',I6,q⟩
   | ret u =>
     obtain ⟨v,σ',H',I5,r5,q⟩:=q
     exact zgb (X:=X) (I5.unsuite (X:=X) (A:=X.A) (c:=X.calm) (xe:=X.xe) I.ok.frames I.ok.hd) hN hi hk fun s5 I6=>⟨v,_,H',I6,r5,q⟩
abbrev Cx.pinned (X : Cx) (pn : List (Addr × Obj)) : Cx:={ X with pn:=pn }
theorem Inv.heldP {pins : List (Addr × Obj)} (I : Inv X pins σ H s) : Inv (X.pinned (X.pn ++ pins)) [] σ H s :=
 ⟨⟨I.ok.mod,I.ok.kind,I.ok.glob,I.ok.blt,I.ok.above,I.ok.inj,I.ok.has,I.ok.cab,I.ok.hd,I.ok.frames,I.ok.stk,I.ok.exf,I.ok.bs,I.ok.bsz,I.ok.noex,I.ok.exfs,I.ok.funs,I.ok.frf⟩,I.os,I.bare,I.base,I.loc,I.cell,I.free,I.freeC,fun p hp=>I.pin p (by rwa [List.append_nil] at hp),I.hok,I.len⟩
theorem Inv.unheldP {pins : List (Addr × Obj)} (I : Inv (X.pinned (X.pn ++ pins)) [] σ H s) : Inv X pins σ H s :=
 ⟨⟨I.ok.mod,I.ok.kind,I.ok.glob,I.ok.blt,I.ok.above,I.ok.inj,I.ok.has,I.ok.cab,I.ok.hd,I.ok.frames,I.ok.stk,I.ok.exf,I.ok.bs,I.ok.bsz,I.ok.noex,I.ok.exfs,I.ok.funs,I.ok.frf⟩,I.os,I.bare,I.base,I.loc,I.cell,I.free,I.freeC,fun p hp=>I.pin p (by rw [List.append_nil]; exact hp),I.hok,I.len⟩
theorem SP.unheldP {pins : List (Addr × Obj)} {D : Ends} {f : Flow} {s' : Shared} (h : SP (X.pinned (X.pn ++ pins)) [] D f s') : SP X pins D f s':=by
 cases f with
 | next=>obtain ⟨σ',H',I,q⟩:=h; exact ⟨σ',H',I.unheldP,q⟩
 | brk=>obtain ⟨σ',H',I,q⟩:=h; exact ⟨σ',H',I.unheldP,q⟩
 | cont=>obtain ⟨σ',H',I,q⟩:=h; exact ⟨σ',H',I.unheldP,q⟩
 | ret u=>obtain ⟨v,σ',H',I,r,q⟩:=h; exact ⟨v,σ',H',I.unheldP,r,q⟩
theorem zmI {body : List Stmt} {h₀ : ExceptHandler} {hs : List ExceptHandler} {pos : Pos} {tb : Ends -> TS} {th : THd} (hst : X.stack = X.env :: X.outer) (hb : ∀ D pn,PSs ((X.pinned pn).wish (Fly (X.pinned pn) (th D))) body (tb D)) (hh : ∀ pn,PHs (X.pinned pn) (h₀ :: hs) th) :
 PS X (.Try body (h₀ :: hs) [] [] pos) (fun D σ H=>tb D D σ H):=by
 intro pins s σ H D I h
 have I0:=I.heldP
 refine wpAny_Try_except (wpAny_mono (hb D (X.pn ++ pins) [] s σ H D (I0.wish _) h) (fun f s1 q=>?_) fun ev s1 q=>?_)
 ·cases f with
  | next =>
    obtain ⟨σ',H',I',q⟩:=q
    exact wpAny_execs_nil ⟨σ',H',I'.unwish.unheldP,q⟩
  | ret v=>exact SP.unheldP (SP.unwish q)
  | brk=>exact SP.unheldP (SP.unwish q)
  | cont=>exact SP.unheldP (SP.unwish q)
 ·refine zfH (X:=X.pinned (X.pn ++ pins)) I0.ok.frames hst q fun h' e cls dx σ1 H1 L hev hL I1 he hx hE=>?_
  subst hev
  exact zdW (s:={ s1 with heap:=h' }) (fr:=none) I1 he hx fun h2 I2 hx2=>thn (hh (X.pn ++ pins) e cls dx σ1 H1 _ D I2 he hx2 hE) fun f s3 q=>SP.unheldP q
end
end L2
namespace L2
open PySem PySem.Spec PyProof.Rows PySem.W PySem.Calls Builtin Builtin.ObjectAttr
structure XG (K : PySem.W.Frag) (C : Addr) : Prop where
 ga : findIn K (.ref C) "__getattribute__" = some (some (.builtin "BaseException.__getattribute__"))
 gt : findIn K (.ref C) "__getattr__" = some none
 be : mroIn K C (.type "BaseException") = some true
 ob : mroIn K C (.type "object") = some true
 cc : findIn K (.ref C) "__class__" = some (some (.builtin "object.__class__"))
 hd : ∃ cd,clsIn K C = some cd /\ cd.hasDict = true
section
variable {prog : Program} {w : World} {A : Around} {E : Value -> Shared -> Prop} {s : Shared} {K : PySem.W.Frag} {x C : Addr} {ox : Obj} {od : Option Obj} {name : Str}
theorem slot_bga : Slot "ValueError" "__getattribute__" "BaseException.__getattribute__":=PySem.F.excAttr_ValueError.ga
theorem zgV {expr fill : Bool} {tk : Tok} {Q : Value -> Shared -> Prop} (X : K.In s.heap) (I : PySem.W.InstAt s.heap x ox C od) (G : XG K C)
 (h : wpAny (model prog w) A.in1 (Builtin.«object.__getattribute__» ⟨[.ref x,.str name tk],[]⟩) (fun fin s'=>match fin with | .done (.ret v)=>wpAny (model prog w) A (handedOut v) Q E s' | _=>False) (fun _ _=>False) s) :
 wpAny (model prog w) A (getAttrBy (.ref x) (.str name tk) fill expr) Q E s:=by
 have hf : (Value.builtin "BaseException.__getattribute__" == Value.builtin "object.__getattribute__") = false:=by decide +kernel
 unfold getAttrBy
 refine wpAny_holding (wpAny_bind (I.type.here (wpAny_bind ((looks_findIn X G.ga).here ?_))))
 dsimp only
 rw [hf,Bool.and_false,if_neg (by decide)]
 unfold getAttrByItsOwn
 have hk : Looks (model prog w) s.heap (hookBefore (.ref C)) none:=looks_hook X (by rw [if_pos (show onTheHeap (Value.ref C) = true from rfl)]; exact G.gt)
 refine wpAny_bind (hk.here (wpAny_bind (wpAny_attempt (wpAny_holding ?_))))
 unfold callGetattribute
 rw [show (expr && onTheHeap (Value.builtin "BaseException.__getattribute__")) = false from Bool.and_false _,if_neg (by decide)]
 unfold boundAndCalled
 rw [slot_bga.bind]
 refine wpAny_bind (wpAny_pure ?_)
 show wpAny _ _ (call (.builtin "BaseException.__getattribute__") [.ref x,.str name tk]) _ _ _
 refine wpAny_call (codeAny_call_builtin slot_bga.plain PySem.F.entry_bexc_ga ?_)
 refine @check_slot (model prog w) _ _ s "BaseException.__getattribute__" "BaseException" "__getattribute__" (.ref x) [.str name tk] [] _ (by decide +kernel) (by decide +kernel) (I.type.andThen (looks_mroIn X G.be)) (PySem.F.args_bexc_ga _ _) ?_
 refine wpAny_mono h (fun fin s' z=>?_) fun _ _ z=>z.elim
 rcases fin with (_ | _ | _ | _) | _ <;> first | exact z | exact z.elim
theorem zjt {expr : Bool} {v : Value} {Q : Value -> Shared -> Prop} (X : K.In s.heap) (I : PySem.W.InstAt s.heap x ox C od) (G : XG K C) (hf : findObj K C od name = some (.value v)) (hh : handedIn v = true) (h : Q v { s with toks:=s.toks + 1 }) :
 wpAny (model prog w) A (getAttr (.ref x) name expr) Q E s:=by
 unfold getAttr
 refine wpAny_bind (wpAny_mkText (zgV (s:={ s with toks:=s.toks + 1 }) X I G ?_))
 unfold Builtin.«object.__getattribute__»
 refine wpAny_bind (wpAny_pure (wpAny_bind (wpAny_pure (wpAny_bind (PySem.W.Looks.here (s:={ s with toks:=s.toks + 1 }) I.type (wpAny_bind (PySem.W.Looks.here (s:={ s with toks:=s.toks + 1 }) (looks_find X I hf) ?_)))))))
 refine wpAny_pure ?_
 show wpAny _ _ (handedOut v) _ _ _
 rw [handedOut_of hh]
 exact wpAny_pure h
theorem zjh {Q : Option Value -> Shared -> Prop} (X : K.In s.heap) (I : PySem.W.InstAt s.heap x ox C od) (G : XG K C) (hn : specialIn K (.builtin "object.__class__") "__get__" = some (some (.builtin "getset_descriptor.__get__"))) (htk : takesIn K (.builtin "object.__class__") = some true)
 (h : Q (some (.ref C)) { s with toks:=s.toks + 1 }) : wpAny (model prog w) A (getAttr? (.ref x) "__class__") Q E s:=by
 have hf : findObj K C od "__class__" = some (.bind (.builtin "getset_descriptor.__get__") (.builtin "object.__class__")):=by
  obtain ⟨cd,hc,_⟩:=G.hd
  unfold findObj
  rw [hc,Option.bind_some,G.cc,Option.bind_some]
  simp [hn,htk]
 unfold getAttr? getAttrBy?
 refine wpAny_bind (wpAny_mkText (wpAny_bind (wpAny_attempt (zgV (s:={ s with toks:=s.toks + 1 }) X I G ?_))))
 unfold Builtin.«object.__getattribute__»
 refine wpAny_bind (wpAny_pure (wpAny_bind (wpAny_pure (wpAny_bind (PySem.W.Looks.here (s:={ s with toks:=s.toks + 1 }) I.type (wpAny_bind (PySem.W.Looks.here (s:={ s with toks:=s.toks + 1 }) (looks_find X I hf) ?_)))))))
 show wpAny _ _ (bindTo (.builtin "getset_descriptor.__get__") (.builtin "object.__class__") (.ref x) (.ref C)) _ _ _
 unfold bindTo
 refine wpAny_bind (wpAny_holding (wpAny_call (class_get (s:={ s with toks:=s.toks + 1 }) (ox:=ox) (od:=od) X I G.ob ?_)))
 refine wpAny_pure ?_
 show wpAny _ _ (handedOut (.ref C)) _ _ _
 exact handed_on rfl (wpAny_pure h)
theorem zlX (G : XG K C) (hn : specialIn K (.builtin "object.__class__") "__get__" = some (some (.builtin "getset_descriptor.__get__"))) (htk : takesIn K (.builtin "object.__class__") = some true) :
 KitX K (.ref x) (.ref C) (fun h=>∃ ox od,PySem.W.InstAt h x ox C od) where
 ty:=fun _ _ _ ⟨_,_,I⟩=>I.type
 it:=fun _ _ X _=>by
  obtain ⟨cd,hc,_⟩:=G.hd
  unfold clsIn at hc
  split at hc
  ·rename_i ho
   intro A' Q' E' s' k q
   unfold isType loadHead
   exact wpAny_bind (wpAny_loadPart (k _ _ (X _ _ ho)) (wpAny_pure q))
  ·cases hc
 ne:=fun h tp dd its n sl X htp=>by
  obtain ⟨cd,hc,_⟩:=G.hd
  refine Bool.eq_false_iff.mpr fun q=>?_
  have e : C = tp:=Value.ref.inj (beq_iff_eq.mp q)
  subst e
  unfold clsIn at hc
  split at hc
  ·rename_i ho
   have z:=(X _ _ ho).symm.trans htp
   cases z
  ·cases hc
 ca:=fun X ⟨_,_,I⟩ k=>zjh X I G hn htk k
end
theorem znn {K : PySem.W.Frag} : specialIn K (.builtin "object.__class__") "__get__" = some (some (.builtin "getset_descriptor.__get__")):=by rfl
theorem zlj {K : PySem.W.Frag} : takesIn K (.builtin "object.__class__") = some true:=by rfl
end L2
namespace L2
open PySem PySem.Spec PyProof.Rows PySem.W PySem.Calls
section
variable {X : Cx} {pins : List (Addr × Obj)} {σ : St} {H : Hp} {s : Shared}
theorem znT {e C : Addr} {dx : Option Addr} (I : Inv X pins σ H s) (he : H e = some (XE e C dx)) (hd : ∀ a,dx = some a -> ∃ o,s.heap.get? a = some o) : ∃ ox od,PySem.W.InstAt s.heap e ox C od:=by
 obtain ⟨⟨o,vs,ho,hc,hdx,hdt⟩,_⟩:=I.hok e _ he
 have hno : notCls o = true:=by unfold notCls; rw [hdt]
 cases hq : dx with
 | none=>exact ⟨o,none,ho,hc,hno,by rw [hdx,hq]; exact True.intro⟩
 | some a =>
   obtain ⟨oa,ha⟩:=hd a hq
   exact ⟨o,some oa,ho,hc,hno,by rw [hdx,hq]; exact ha⟩
def tXG (K : PySem.W.Frag) (ta : TE) (f : Str) : TE:=fun σ H Q=>ta σ H fun x H1=>∃ e C dx fs v,x = .ref e /\ H1 e = some (XE e C (some dx)) /\ H1 dx = some (.xd fs) /\ XG K C /\ zbr K C f /\ fs.lookup f = some v /\ Q v H1
theorem zuG {e : Expr} {f : Str} {pos : Pos} {ta : TE} (he : PE X e ta) (hb : attributeBase e f X.env (eval e X.env) = eval e X.env) : PE X (.Attribute e f pos) (tXG X.K ta f):=by
 intro pins s σ H Q I h
 refine zky hb (thn (he pins s σ H _ I h) fun u s1 ⟨x,H1,I1,rx,ea,C,dx,fs,v,ex,h1,h2,G,n,l,q⟩=>?_)
 subst ex
 obtain rfl : u = Value.ref ea:=rx
 obtain ⟨⟨o,vs,ho,hc,hdx,hdt⟩,_⟩:=I1.hok ea _ h1
 obtain ⟨mA,n1,r⟩:=(show zdb X.prog X.w H1 s1.heap dx (.xd fs) from I1.hok dx _ h2)
 obtain ⟨od,hod,hl⟩:=zgs n1
 obtain ⟨u,hu,ru⟩:=RelO.some_of (v:=v) (o:=mA f) (by rw [<- l]; exact r f)
 have J : PySem.W.InstAt s1.heap ea o C (some od):=⟨ho,hc,by unfold notCls; rw [hdt],by rw [hdx]; exact hod⟩
 obtain ⟨cd,hcd,hhd⟩:=G.hd
 have hh : hasDictIn X.K C = true:=by unfold hasDictIn; rw [hcd]; exact hhd
 exact zjt I1.kIn J G (findObj_own hh n rfl (by rw [hl,hu])) (zhe ru) ⟨v,H1,I1.tok _,ru,q⟩
def clsV : V -> Option Value
 | .ref B=>some (.ref B)
 | .ty n=>some (.type n)
 | _=>none
theorem zme {c : V} {u v : Value} (h : clsV c = some v) (r : RelV c u) : u = v:=by
 cases c <;> cases h <;> exact r
def rIsX (K : PySem.W.Frag) : List V -> Hp -> VK -> Prop:=fun xs H Q=>∃ e C dx c v b,xs = [.ref e,c] /\ H e = some (XE e C dx) /\ (∀ a,dx = some a -> ∃ fs,H a = some (.xd fs)) /\ XG K C /\ clsV c = some v /\ kitOne K (.ref C) v = some b /\ Q (.bl b) H
theorem zmt : zdh X (.builtin "isinstance") (rIsX X.K):=by
 intro pins s σ H xs us Q I r h
 obtain ⟨e,C,dx,c,v,b,rfl,he,hd,G,hc,hk,q⟩:=h
 obtain ⟨u,w',rfl,rx,rt⟩:=zpP r
 obtain rfl : u = Value.ref e:=rx
 obtain rfl:=zme hc rt
 exact kia_one (zlX G znn zlj) I.kIn (znT I he fun a ha=>let ⟨fs,z⟩:=hd a ha; let ⟨_,⟨o,_,_,z2,_⟩,_⟩:=(show zdb X.prog X.w H s.heap a (.xd fs) from I.hok a _ z); ⟨o,z2⟩) hk (fun z=>nomatch z) fun tk=>⟨.bl b,H,I.tok _,rfl,q⟩
variable {K : PySem.W.Frag} (hK : X.K = K)
include hK
theorem zeI : zdh X (.builtin "isinstance") (rIsX K):=by subst hK; exact zmt
theorem zoP {e : Expr} {f : Str} {pos : Pos} {ta : TE} (he : PE X e ta) (hb : attributeBase e f X.env (eval e X.env) = eval e X.env:=by rfl) : PE X (.Attribute e f pos) (tXG K ta f):=by subst hK; exact zuG he hb
end
end L2
namespace L2
open PySem PySem.Spec PyProof.Rows
structure RoomH (k : Nat) (A : Around) : Prop where
 dp : A.depth + 3 * k + 5 < recursionLimit
 un : A.units + 16 * k + 200 < cLine
theorem Room.h {k : Nat} {A : Around} (r : Room k A) (e : Option Value) : RoomH k (A.mark e):=⟨r.dp,r.un⟩
theorem RoomH.deeper {k : Nat} {A : Around} (r : RoomH (k + 1) A) (env : Env) : RoomH k (A.deeper env) :=
 ⟨by have:=r.dp; show A.depth + 1 + 3 * k + 5 < _; omega,by have:=r.un; show A.units + 3 + 16 * k + 200 < _; omega⟩
structure FnOkH (P : Program) (w : World) (K : PySem.W.Frag) (mg : Str -> Option Value) (base : Heap) (k : Nat) (f : Addr) (fd : FuncData) (ps : List Str) (sp : Sp) : Prop where
 len : ∀ vs H Q E,sp vs H Q E -> vs.length = ps.length
 run : ∀ (A : Around) (outer : List Env) (s : Shared) (H : Hp) (args : Args) (us : List Value) (vs : List V) (Q : VK),RoomH k A -> Env0 P w K mg base A outer s H -> BindsTo s fd args (ps.zip us) -> Vals vs us -> sp vs H Q E0 ->
  codeAny (model P w) A (.call (.ref f) args) (CR CX0 outer P w H s Q E0) s
abbrev cxH (P : Program) (w : World) (K : PySem.W.Frag) (mg : Str -> Option Value) (base : Heap) (N : List Str) (qual : Str) (scope : Scope) (f : Addr) (cd : Value) (A : Around) (outer : List Env) (s : Shared) (H : Hp) : Cx :=
 { cxOf CX0 P w K mg base N qual scope f cd A outer s H E0 with calm:=false,xe:=fun _ _=>False }
section
variable {P : Program} {w : World} {K : PySem.W.Frag} {mg : Str -> Option Value} {base : Heap}
theorem zjw {N ps : List Str} {qual : Str} {scope : Scope} {f : Addr} {cd : Value} {A : Around} {outer : List Env} {s s1 : Shared} {H : Hp} {us : List Value} {vs : List V}
 (S : FnScope N ps scope) (e0 : Env0 P w K mg base A outer s H) (hl : vs.length = ps.length) (r : Vals vs us)
 (x : InCallC s s.heap.objs.size (bindL (envOfC qual scope s.heap.objs.size f cd).kindOf (ps.zip us) fun _=>none) (cellsFrom (s.heap.objs.size + 1) scope.names []) (bindC (envOfC qual scope s.heap.objs.size f cd).kindOf (ps.zip us) fun _=>none) s1) :
 Inv (cxH P w K mg base N qual scope f cd A outer s H) [] (start N vs) H s1:=by
 have e1 : Env0 P w K mg base { A with handled:=none } outer s H:=⟨e0.frames,e0.mod,e0.bs,e0.bsz,e0.funs,e0.frf,e0.hok,e0.bare⟩
 have I:=zgo (CX:=CX0) (E:=E0) (A:={ A with handled:=none }) (qual:=qual) (f:=f) (cd:=cd) S rfl e1 hl r x
 exact ⟨⟨I.ok.mod,I.ok.kind,I.ok.glob,I.ok.blt,I.ok.above,I.ok.inj,I.ok.has,I.ok.cab,(fun z=>nomatch z),Around.frames_deeper e0.frames,I.ok.stk,I.ok.exf,I.ok.bs,I.ok.bsz,I.ok.noex,I.ok.exfs,I.ok.funs,I.ok.frf⟩,I.os,I.bare,I.base,I.loc,I.cell,I.free,I.freeC,I.pin,I.hok,I.len⟩
theorem Fun.okH {x qual : Str} {st : Stmt} {f : Addr} {fd : FuncData} {N ps : List Str} {k : Nat} {sp : Sp} (F : Fun K x qual st f fd) (S : FnScope N ps (zab st)) (len : ∀ vs H Q E,sp vs H Q E -> vs.length = ps.length)
 (hbody : ∀ (cdv : Value) (A : Around) (outer : List Env) (s : Shared) (H : Hp) (vs : List V) (Q : VK),RoomH k (A.deeper (envOfC qual (zab st) s.heap.objs.size f cdv)) -> sp vs H Q E0 ->
   ∃ t,PSs (cxH P w K mg base N qual (zab st) f cdv A outer s H) (zaj st) t /\ t { nx:=fun _ H'=>Q .non H',rt:=Q } (start N vs) H) : FnOkH P w K mg base (k + 1) f fd ps sp:=by
 obtain ⟨oc,od,kV,doc,pm,an,cdv,ct,osl,rfl,lk,hcd⟩:=F.ex
 refine ⟨len,fun A outer s H args us vs Q hr e0 hb r hsp=>?_⟩
 have KX : K.In s.heap:=e0.mod.kin.keeps fun b o e=>(e0.bs b o e).1
 have lim : s.heap.NoLimit:=e0.mod.nolimit.keeps fun b o e=>(e0.bs b o e).1
 have hkind : ∀ y ∈ ps.zip us,(zab st).names.lookup y.1 = some .local \/ ((zab st).names.lookup y.1 = some .cell /\ ((cellsFrom (s.heap.objs.size + 1) (zab st).names []).lookup y.1).isSome = true):=fun ⟨n,v⟩ hy =>
  (S.par n (List.of_mem_zip hy).1).elim .inl fun q=>.inr ⟨q,PySem.W.cellsFrom_some _ _ _ (.inl q)⟩
 have hdep : A.depth < recursionLimit:=by have:=hr.dp; omega
 refine codeAny_call_function hdep (KX _ _ lk) rfl S.co S.gen rfl (PySem.W.codeRec_of KX hcd) (hb _ _ _ _ ?_)
 refine wpAny_newFunctionEnv_cells S.kind hkind fun env he s1 x=>?_
 subst he
 refine ⟨lim.keeps x.toInCall.keep,codeAny_func ?_⟩
 obtain ⟨t,ht,hq⟩:=hbody cdv A outer s H vs Q (hr.deeper _) hsp
 have I:=zjw (qual:=qual) (f:=f) (cd:=cdv) S e0 (len _ _ _ _ hsp) r x
 refine wpAny_mono (ht [] s1 (start N vs) H _ I hq) (fun fl s' hs=>?_) fun e s' hs=>False.elim hs
 cases fl with
 | ret u =>
   obtain ⟨v,σ',H',J,rv,q⟩:=hs
   exact ⟨v,H',J.os,J.bare,J.base,J.hok,rv,q⟩
 | next =>
   obtain ⟨σ',H',J,q⟩:=hs
   exact ⟨V.non,H',J.os,J.bare,J.base,J.hok,rfl,q⟩
 | brk=>exact let ⟨_,_,_,q⟩:=hs; False.elim q
 | cont=>exact let ⟨_,_,_,q⟩:=hs; False.elim q
end
section
variable {X : Cx} {k : Nat} {f : Addr} {fd : FuncData} {ps : List Str} {sp : Sp} {x : Str} {p pos : Pos} {e : Expr} {es : List Expr} {t : TA}
theorem zlS (F : FnOkH X.prog X.w X.K X.mg X.base k f fd ps sp) (hr : RoomH k X.A) (hg : Gl X x) (hm : X.mg x = some (.ref f)) (hk : PySem.W.keepIn X.K (.ref f) = true) (hb : zdM X.K fd ps [])
 (ha : PA X (e :: es) t) (hdb : (x == ("__debug__" : Str)) = false:=by decide) (he : starEach (e :: es) X.env = (false,eval e X.env) :: starEach es X.env:=by rfl) (hpl : (backTo pos (starEach es X.env)).any (·.1) = false:=by rfl) :
 PE X (.Call (.Name x p) (e :: es) [] pos) (zlZ sp [] E0 t):=by
 intro pins s σ H Q I h
 refine wpAny_Call_Name_kw (zcE I hg hm ?_ hdb)
 refine PySem.W.callWith_K (h₀:=X.base) I.ok.mod.kin hk (thn (ha pos pins s σ H _ I h) fun us s1 ⟨vs,H1,I1,r,q⟩=>⟨I1.kIn,?_⟩) he hpl
 have q : sp (vs ++ []) H1 Q E0:=q
 rw [List.append_nil] at q
 have hl : (us ++ []).length = ps.length:=by rw [List.append_nil,<- r.length]; exact F.len _ _ _ _ q
 have hb0:=hb s1 us I1.kIn hl
 rw [List.append_nil] at hb0
 refine wpAny_call (codeAny_mono (F.run X.A X.stack s1 H1 ⟨us,[]⟩ us vs Q hr I1.env0 hb0 r q) fun r s' hq=>?_)
 cases r with
 | error ev=>exact False.elim hq
 | ok fl =>
   cases fl with
   | ret u=>exact I1.after hq
   | next=>exact False.elim hq
   | brk=>exact False.elim hq
   | cont=>exact False.elim hq
end
end L2
namespace L2
open PySem PySem.Spec PyProof.Rows PySem.W PySem.Calls
structure NsF (K : PySem.W.Frag) (N : Addr) (init : Option Addr) : Prop where
 lk : ∃ oc od es n sl,K.lookup N = some ⟨oc,od,.dict es n,sl⟩ /\ (es.all fun e=>match e.key with | .str _ _=>true | _=>false) = true
 ni : nsIn K N "__init__" = some (init.map Value.ref)
theorem NsF.ok {K : PySem.W.Frag} {N : Addr} {init : Option Addr} (h : NsF K N init) : nsOkIn K N = true:=by
 obtain ⟨oc,od,es,n,sl,e,q⟩:=h.lk
 unfold nsOkIn
 rw [e]
 exact q
theorem znI {K : PySem.W.Frag} {R : Addr} {oc : Value} {od : Option Addr} {cd : ClassData} {sl : Array (Option Value)} (lk : K.lookup R = some ⟨oc,od,.cls cd,sl⟩) (n : NsF K cd.ns none) : tailIn K bmV (.ref R :: bmV) = true:=by
 have hb : tailIn K bmV bmV = true:=by
  unfold tailIn
  rw [Bool.or_eq_true]
  exact .inl (beq_self_eq_true _)
 unfold tailIn
 rw [Bool.or_eq_true]
 refine .inr ?_
 dsimp only
 rw [lk]
 dsimp only
 rw [n.ok,hb,n.ni]
 rfl
theorem zhL {K : PySem.W.Frag} {C : Addr} {init od : Option Addr} {cd : ClassData} {sl : Array (Option Value)} {bm : List Value} {k0 k1 k2 k3 k5 : Option Value} (lk : K.lookup C = some ⟨.type "type",od,.cls cd,sl⟩) (cm : cd.mro = .ref C :: bm)
 (hs : sl.toList = [k0,k1,k2,k3,some (.builtin "ValueError.__new__"),k5]) (hdel : cd.hasDel = false) (ht : tailIn K bmV bm = true) (n : NsF K cd.ns init) : zbg K C init = true:=by
 unfold zbg
 rw [lk]
 show (match cd.mro,sl.toList with
  | .ref C' :: bm,[_,_,_,_,some (.builtin n),_]=>C' == C && n == "ValueError.__new__" && !cd.hasDel && tailIn K bmV bm && nsOkIn K cd.ns && nsIn K cd.ns "__init__" == some (init.map Value.ref)
  | _,_=>false) = true
 rw [cm,hs]
 show (C == C && "ValueError.__new__" == "ValueError.__new__" && !cd.hasDel && tailIn K bmV bm && nsOkIn K cd.ns && nsIn K cd.ns "__init__" == some (init.map Value.ref)) = true
 rw [hdel,ht,n.ok,n.ni]
 simp
def xAsk (K : PySem.W.Frag) (C : Addr) : Bool :=
 findIn K (.ref C) "__getattribute__" == some (some (.builtin "BaseException.__getattribute__")) && findIn K (.ref C) "__getattr__" == some none && mroIn K C (.type "BaseException") == some true && mroIn K C (.type "object") == some true &&
 findIn K (.ref C) "__class__" == some (some (.builtin "object.__class__")) && (clsIn K C).any (·.hasDict) && PySem.W.keepIn K (.ref C) && typeIn K (.ref C) == some (.type "type") && mroIn K C (.type "ValueError") == some true
structure XQ (K : PySem.W.Frag) (C : Addr) : Prop where
 g : XG K C
 kp : PySem.W.keepIn K (.ref C) = true
 ty : typeIn K (.ref C) = some (.type "type")
 ve : mroIn K C (.type "ValueError") = some true
theorem zmZ {K : PySem.W.Frag} {C : Addr} (h : xAsk K C = true) : XQ K C:=by
 simp only [xAsk,Bool.and_eq_true,beq_iff_eq] at h
 obtain ⟨⟨⟨⟨⟨⟨⟨⟨h1,h2⟩,h3⟩,h4⟩,h5⟩,h6⟩,h7⟩,h8⟩,h9⟩:=h
 obtain ⟨cd,hc,hd⟩:=any_some h6
 exact ⟨⟨h1,h2,h3,h4,h5,cd,hc,hd⟩,h7,h8,h9⟩
def xFld (K : PySem.W.Frag) (C f : Addr) (fld : Str) : Bool :=
 (clsIn K C).any (fun cd=>zhP cd.mro && cd.hasDict) && findIn K (.ref C) "__setattr__" == some (some (.builtin "object.__setattr__")) && findIn K (.ref C) fld == some none && PySem.W.isFn K (.ref f)
theorem zpp {K : PySem.W.Frag} {C f : Addr} {fld : Str} (h : xFld K C f fld = true) : XF K C fld /\ PySem.W.isFn K (.ref f) = true:=by
 simp only [xFld,Bool.and_eq_true,beq_iff_eq] at h
 obtain ⟨⟨⟨h1,h2⟩,h3⟩,h4⟩:=h
 obtain ⟨cd,hc,hd⟩:=any_some h1
 rw [Bool.and_eq_true] at hd
 exact ⟨⟨⟨cd,hc,hd.1,hd.2⟩,h2,h3⟩,h4⟩
theorem znf {K : PySem.W.Frag} {C : Addr} (h1 : findIn K (.ref C) "__getattribute__" = some (some (.builtin "BaseException.__getattribute__"))) (h2 : findIn K (.ref C) "__getattr__" = some none) (h3 : mroIn K C (.type "BaseException") = some true) (h4 : mroIn K C (.type "object") = some true)
 (h5 : findIn K (.ref C) "__class__" = some (some (.builtin "object.__class__"))) (h6 : hasDictIn K C = true) (h7 : PySem.W.keepIn K (.ref C) = true) (h8 : typeIn K (.ref C) = some (.type "type")) (h9 : mroIn K C (.type "ValueError") = some true) : xAsk K C = true:=by
 unfold xAsk
 have h6 : (clsIn K C).any (·.hasDict) = true:=h6
 rw [h1,h2,h3,h4,h5,h6,h7,h8,h9]
 simp
theorem zox {K : PySem.W.Frag} {C f : Addr} {fld : Str} {oc : Value} {od : Option Addr} {cd : ClassData} {sl : Array (Option Value)} (lk : K.lookup C = some ⟨oc,od,.cls cd,sl⟩) (cm : zhP cd.mro = true) (hd : cd.hasDict = true)
 (h2 : findIn K (.ref C) "__setattr__" = some (some (.builtin "object.__setattr__"))) (h3 : findIn K (.ref C) fld = some none) (h4 : PySem.W.isFn K (.ref f) = true) : xFld K C f fld = true:=by
 have hc : clsIn K C = some cd:=by
  unfold clsIn
  rw [lk]
 unfold xFld
 rw [hc,h2,h3,h4]
 show ((zhP cd.mro && cd.hasDict) && _ && _ && _) = true
 rw [cm,hd]
 simp
theorem zna {K : PySem.W.Frag} {C B : Addr} {initB : Option Addr} {b : Bool} (hB : zbg K B initB = true) (q : XQ K B) (h : mroIn K C (.ref B) = some b) (hs : C = B -> b = true) : kitOne K (.ref C) (.ref B) = some b:=by
 unfold kitOne
 by_cases e : C = B
 ·subst e
  rw [if_pos (by simp),hs rfl]
 ·rw [if_neg (fun z=>e (Value.ref.inj (beq_iff_eq.mp z)))]
  unfold kitCls
  have hc : (clsIn K B).isSome = true:=by
   unfold zbg at hB
   split at hB
   ·rename_i ho
    unfold clsIn
    rw [ho]
    rfl
   ·cases hB
  show (if ((clsIn K B).isSome && typeIn K (.ref B) == some (.type "type")) = true then subIn K (.ref C) (.ref B) else none) = some b
  rw [hc,q.ty,if_pos (by simp)]
  exact h
theorem zlC {K : PySem.W.Frag} {C : Addr} (q : XQ K C) : kitOne K (.ref C) (.type "ValueError") = some true:=by
 unfold kitOne
 rw [if_neg (fun z=>by cases beq_iff_eq.mp z)]
 exact q.ve
structure CI (K : PySem.W.Frag) (mg : Str -> Option Value) (x qual : Str) (st : Stmt) (ps : List Str) (C f : Addr) (fd : FuncData) (fld : Str) : Prop where
 mg : mg x = some (.ref C)
 cls : zbg K C (some f) = true
 q : XQ K C
 xf : XF K C fld
 fn : PySem.W.isFn K (.ref f) = true
 fi : Fun K "__init__" qual st f fd
 ba : ∀ us : List Value,us.length = ps.length -> bindArgs fd ⟨us,[]⟩ = pure (ps.zip us)
structure CN (K : PySem.W.Frag) (mg : Str -> Option Value) (x : Str) (C : Addr) : Prop where
 mg : mg x = some (.ref C)
 cls : zbg K C none = true
 q : XQ K C
def zdY (C : Addr) (fld : Str) : Sp:=fun vs H Q _=>∃ (e : Addr) (i : Int),vs = [.ref e,.int i] /\ H e = some (XO e C none) /\ i.natAbs <= 1000000000 /\ ∀ dx,H dx = none -> Q .non (upd (upd H dx (.xd [(fld,.int i)])) e (XO e C (some dx)))
def tRz (C : Addr) (fld : Str) (E : St -> XK) (t : TA) : TS:=fun _ σ H=>t σ H fun vs H1=>∃ i : Int,vs = [.int i] /\ i.natAbs <= 1000000000 /\ ∀ dx,H1 dx = none -> E σ (.ref C) (some dx) (upd H1 dx (.xd [(fld,.int i)]))
section
variable {X : Cx} {k j : Nat} {f C : Addr} {fd : FuncData} {ps : List Str} {sp : Sp} {x qual fld : Str} {st : Stmt} {p np cpos pos : Pos} {e : Expr} {es : List Expr} {t : TA} {E : St -> XK} {L : Addr}
theorem zmd {H1 : Hp} {ea dx : Addr} {o o' y : HO} (he : H1 ea = none) (hn : dx ≠ ea) : unt (upd (upd (upd H1 ea o) dx y) ea o') ea = upd H1 dx y:=by
 funext b
 by_cases hb : b = ea
 ·subst hb
  rw [zdT,zah hn.symm,he]
 ·rw [ziC hb,zah hb]
  by_cases hd : b = dx
  ·subst hd
   rw [upd_same,upd_same]
  ·rw [zah hd,zah hd,zah hb]
theorem zld (d : CI X.K X.mg x qual st ps C f fd fld) (F : FnOk X.prog X.w X.K X.mg X.base CX0 j f fd ps (zdY C fld)) (hr : Room k X.A) (hg : Gl X x) (hL : X.env.frame = some L) (hcm : X.calm = true) (ha : PA (X.wish (Fly X E)) (e :: es) t) (hjk : j + 1 <= k:=by decide) (hdb : (x == ("__debug__" : Str)) = false:=by decide)
 (he : starEach (e :: es) X.env = (false,eval e X.env) :: starEach es X.env:=by rfl) (hpl : (backTo cpos (starEach es X.env)).any (·.1) = false:=by rfl) :
 PS (X.wish (Fly X E)) (.Raise (some (.Call (.Name x np) (e :: es) [] cpos)) none pos) (tRz C fld E t):=by
 refine zkf (R:=fun σ vs H1=>∃ i : Int,vs = [.int i] /\ i.natAbs <= 1000000000 /\ ∀ dx,H1 dx = none -> E σ (.ref C) (some dx) (upd H1 dx (.xd [(fld,.int i)]))) hL hcm ⟨d.cls,d.fn,d.q.kp⟩ F (hr.mono hjk) hg d.mg (.all d.ba) (fun σ vs H1 h1=>?_) ha hdb he hpl
 obtain ⟨i,rfl,hi,q⟩:=h1
 refine ⟨by show 1 <= 10; decide,fun ea hea=>⟨ea,i,rfl,upd_same,hi,fun dx hdx=>⟨rfl,rfl,some dx,upd_same,?_⟩⟩⟩
 have hne : dx ≠ ea:=fun z=>by rw [z,upd_same] at hdx; cases hdx
 rw [zah hne] at hdx
 rw [zmd hea hne]
 exact q dx hdx
theorem zgZ (d : D X.K X.mg x st ps f fd) (F : FnOk X.prog X.w X.K X.mg X.base (CX1 X.prog X.w) j f fd ps sp) (hr : Room k X.A) (hg : Gl X x) (hL : X.env.frame = some L) (ha : PA (X.wish (Fly X E)) (e :: es) t) (hjk : j <= k:=by decide) (hdb : (x == ("__debug__" : Str)) = false:=by decide)
 (he : starEach (e :: es) X.env = (false,eval e X.env) :: starEach es X.env:=by rfl) (hpl : (backTo pos (starEach es X.env)).any (·.1) = false:=by rfl) :
 PE (X.wish (Fly X E)) (.Call (.Name x p) (e :: es) [] pos) (zmO sp E t):=zlR hL (F.mono hjk) hr hg d.mg d.fn.kp (.all d.ba) ha hdb he hpl
theorem RoomH.mono {A : Around} (r : RoomH k A) (h : j <= k) : RoomH j A:=⟨by have:=r.dp; omega,by have:=r.un; omega⟩
theorem zmH (d : D X.K X.mg x st ps f fd) (F : FnOkH X.prog X.w X.K X.mg X.base j f fd ps sp) (hr : RoomH k X.A) (hg : Gl X x) (ha : PA X (e :: es) t) (hjk : j <= k:=by decide) (hdb : (x == ("__debug__" : Str)) = false:=by decide)
 (he : starEach (e :: es) X.env = (false,eval e X.env) :: starEach es X.env:=by rfl) (hpl : (backTo pos (starEach es X.env)).any (·.1) = false:=by rfl) :
 PE X (.Call (.Name x p) (e :: es) [] pos) (zlZ sp [] E0 t):=zlS F (hr.mono hjk) hg d.mg d.fn.kp (.all d.ba) ha hdb he hpl
end
theorem ziF {X : Cx} (K : PySem.W.Frag) (hK : X.K = K) {B : Addr} {initB : Option Addr} {x n : Str} {i : Nat} {np hpos : Pos} {b₀ : Stmt} {suite : List Stmt} {rest : List ExceptHandler} {ts : TS} {tr : THd} (hg : Gl X x) (hm : X.mg x = some (.ref B)) (hB : zbg K B initB = true)
 (hN : X.N.Nodup) (hi : X.N[i]? = some n) (hk : X.env.scope.names.lookup n = some .local) (hsuite : ∀ e,PSs (X.suite e) (b₀ :: suite) ts) (hrest : PHs X rest tr) (hdb : (x == ("__debug__" : Str)) = false:=by decide) :
 PHs X (.ExceptHandler (some (.Name x np)) (some n) (b₀ :: suite) hpos :: rest) (tHd K B i ts tr):=by subst hK; exact znc hg hm hB hN hi hk hsuite hrest hdb
end L2
namespace L2
open PySem PySem.Spec PyProof.Rows PySem.W PySem.Calls
section
variable {prog : Program} {w : World} {A : Around} {env : Env} {R : Except Value Flow -> Shared -> Prop} {s : Shared}
end
section
variable {X : Cx}
end
end L2
namespace L2
open PySem PySem.Spec PyProof.Rows
section
variable {X : Cx}
end
end L2
namespace Cs
open PySem L2
def SgOk (n : Nat) (x : Str) : Prop:=x.length <= n /\ ∀ c ∈ x.cps.toList,c < 128
end Cs
namespace Cs
open PySem L2
theorem SgOk.lay {n : Nat} {x : Str} (h : SgOk n x) : PyData.canLay0 (.str x) = true:=by
 show (x.cps.all fun c=>decide (c < 0x110000)) = true
 rw [<- Array.all_toList,List.all_eq_true]
 intro c hc
 have:=h.2 c hc
 exact decide_eq_true (by omega)
def ziw (x : Str) : Bool:=match x.cps.toList with
 | [c]=>decide (c ∈ signs)
 | _=>false
def zmK (r : Row) : Bool:=ziw r.s && decide (1 <= r.w /\ r.w <= 99) && decide (0 <= r.t /\ r.t <= 127) && decide (0 <= r.n /\ r.n <= 40)
def zli (ah : List Row) (r : Row) : Bool:=zmK r && (place ah r.s).isNone && !decide (r.t ∈ ah.map fun x=>x.t)
def zcL (rs : List Row) (k : Nat) : Prop:=∀ i r,i < k -> rs[i]? = some r -> zli (rs.take i) r = true
inductive Looks (rs : List Row) : Option Nat -> Prop
 | none0 : rs = [] -> Looks rs (some 0)
 | bad {k : Nat} {r : Row} : zcL rs k -> rs[k]? = some r -> zli (rs.take k) r = false -> Looks rs (some k)
 | good : rs ≠ [] -> zcL rs rs.length -> Looks rs none
theorem Looks.uniq {rs : List Row} {a b : Option Nat} (ha : Looks rs a) (hb : Looks rs b) : a = b:=by
 have lt : ∀ {k : Nat} {r : Row},rs[k]? = some r -> k < rs.length:=fun h=>(List.getElem?_eq_some_iff.mp h).1
 cases ha with
 | none0 e =>
   cases hb with
   | none0 _=>rfl
   | bad _ h _=>rw [e] at h; simp at h
   | good n _=>exact absurd e n
 | bad a1 h1 s1 =>
   cases hb with
   | none0 e=>rw [e] at h1; simp at h1
   | bad a2 h2 s2 =>
     rename_i k r k' r'
     rcases Nat.lt_trichotomy k k' with z | z | z
     ·have:=a2 k r z h1
      rw [s1] at this
      cases this
     ·rw [z]
     ·have:=a1 k' r' z h2
      rw [s2] at this
      cases this
   | good _ a2 =>
     have:=a2 _ _ (lt h1) h1
     rw [s1] at this
     cases this
 | good n a1 =>
   cases hb with
   | none0 e=>exact absurd e n
   | bad a2 h2 s2 =>
     have:=a1 _ _ (lt h2) h2
     rw [s2] at this
     cases this
   | good _ _=>rfl
theorem zga {α : Type} [DecidableEq α] : ∀ {xs ys : List α},xs.Nodup -> (∀ x ∈ xs,x ∈ ys) -> xs.length <= ys.length
 | [],_,_,_=>Nat.zero_le _
 | x :: xs,ys,h,hs=>by
   obtain ⟨h1,h2⟩:=List.nodup_cons.mp h
   have hx:=hs x List.mem_cons_self
   have ih:=zga (xs:=xs) (ys:=ys.erase x) h2 fun y hy=>by
    have hne : y ≠ x:=fun e=>h1 (by rw [<- e]; exact hy)
    exact (List.mem_erase_of_ne hne).mpr (hs y (List.mem_cons_of_mem _ hy))
   rw [List.length_erase_of_mem hx] at ih
   have:=List.length_pos_of_mem hx
   rw [List.length_cons]
   omega
theorem zje {x : Str} (h : ziw x = true) : x ∈ signs.map sg:=by
 unfold ziw at h
 split at h
 ·rename_i c e
  refine List.mem_map.mpr ⟨c,of_decide_eq_true h,?_⟩
  exact (Lns.zlc e).symm
 ·cases h
theorem zjN {ah : List Row} {r : Row} (h : zli ah r = true) : ziw r.s = true /\ place ah r.s = none:=by
 unfold zli zmK at h
 simp only [Bool.and_eq_true] at h
 exact ⟨h.1.1.1.1.1,Option.isNone_iff_eq_none.mp h.1.2⟩
theorem zeS {rs : List Row} {x : Str} (h : place rs x = none) : x ∉ rs.map fun r=>r.s:=by
 unfold place at h
 rw [List.findIdx?_eq_none_iff] at h
 intro hm
 obtain ⟨r,hr,e⟩:=List.mem_map.mp hm
 have:=h r hr
 rw [decide_eq_true e] at this
 cases this
theorem zcL.signs {rs : List Row} {k : Nat} (h : zcL rs k) (hk : k <= rs.length) : ((rs.take k).map fun r=>r.s).Nodup /\ ∀ x ∈ (rs.take k).map fun r=>r.s,x ∈ signs.map sg:=by
 induction k with
 | zero=>exact ⟨by simp,fun x hx=>by simp at hx⟩
 | succ k ih =>
   obtain ⟨i1,i2⟩:=ih (fun i r hi hr=>h i r (by omega) hr) (by omega)
   have hr : rs[k]? = some rs[k]:=List.getElem?_eq_getElem (by omega)
   obtain ⟨s1,s2⟩:=zjN (h k _ (Nat.lt_succ_self k) hr)
   have e : rs.take (k + 1) = rs.take k ++ [rs[k]]:=by rw [List.take_add_one,hr]; rfl
   rw [e,List.map_append]
   constructor
   ·rw [List.nodup_append]
    refine ⟨i1,by simp,fun a ha b hb=>?_⟩
    have hb : b = rs[k].s:=List.mem_singleton.mp hb
    intro z
    rw [z,hb] at ha
    exact zeS s2 ha
   ·intro x hx
    rcases List.mem_append.mp hx with z | z
    ·exact i2 x z
    ·rw [List.mem_singleton.mp z]
     exact zje s1
theorem zcL.few {rs : List Row} {k : Nat} (h : zcL rs k) (hk : k <= rs.length) : k <= 30:=by
 obtain ⟨h1,h2⟩:=h.signs hk
 have:=zga h1 h2
 rw [List.length_map,List.length_take,Nat.min_eq_left hk,List.length_map] at this
 exact this
theorem zcL.succ {rs : List Row} {k : Nat} {r : Row} (h : zcL rs k) (hr : rs[k]? = some r) (hs : zli (rs.take k) r = true) : zcL rs (k + 1):=fun i r' hi hr'=>by
 by_cases e : i = k
 ·subst e
  rw [hr] at hr'
  cases hr'
  exact hs
 ·exact h i r' (by omega) hr'
end Cs
namespace L2
open PySem PySem.Spec PyProof.Rows
section
variable {X : Cx}
def rCount : V -> List V -> Hp -> VK -> Prop:=fun x vs H Q=>∃ (l : Addr) (ns : List Int) (z : Int),x = .ref l /\ vs = [.int z] /\ H l = some (.lst (ns.map V.int)) /\ Q (.int (ns.count z : Nat)) H
theorem zfn (z : Int) : ∀ (ns : List Int) (its : List Value),Vals (ns.map V.int) its -> its.countP (eqI z) = ns.count z
 | [],_,h=>by
   cases h
   rfl
 | n :: ns,_,h=>by
   cases h with
   | cons r t =>
     obtain ⟨tk,rfl⟩:=r
     rw [List.countP_cons,List.count_cons,zfn z ns _ t]
     rfl
theorem zmj : MtR X "list.count" rCount:=by
 intro pins s σ H x vs v us Q I rx rv h
 obtain ⟨l,ns,z,rfl,rfl,hH,q⟩:=h
 cases rx
 obtain ⟨u,rfl,ru⟩:=rv.one
 obtain ⟨t,rfl⟩:=ru
 obtain ⟨zz,its,n,r,hl,e⟩:=I.lstM hH
 rw [List.length_map] at hl
 have at_ : ∀ (m : Nat) (hm : m < its.length),∃ t',its[m] = .int (ns[m]'(by omega)) t':=fun m hm=>by
  obtain ⟨u,hu,ru⟩:=r.get (i:=m) (x:=.int (ns[m]'(by omega))) (by rw [List.getElem?_map,List.getElem?_eq_getElem (by omega)]; rfl)
  rw [List.getElem?_eq_getElem hm] at hu
  obtain ⟨t',rfl⟩:=ru
  exact ⟨t',Option.some.inj hu⟩
 refine call_meets F.slot_list_count ⟨_,e,rfl⟩ F.entry_list_count (F.args_list_count_2 _ _)
  (MeetsSeq.list_count l its.toArray n (.int z t) (eqI z) (fun y hy=>?_)) ⟨e,?_⟩
 ·obtain ⟨m,hm,ey⟩:=List.getElem_of_mem (show y ∈ its by simpa using hy)
  obtain ⟨t',e'⟩:=at_ m hm
  rw [<- ey,e']
  exact MeetsSeq.EqGives.int _ _ _ _
 ·rw [show its.toArray.toList = its from rfl,zfn z ns its r]
  exact ⟨.int (ns.count z : Nat),H,I.tok _,⟨_,rfl⟩,q⟩
end
end L2
namespace Lan
open PySem L2
abbrev Mx:=Str × Int
def zbP (H : Hp) (v : V) (m : Mx) : Prop:=∃ a,v = .ref a /\ H a = some (.tup [.str m.1,.int m.2])
theorem zhj {H H' : Hp} {xs : List V} {ms : List Mx} (h : Paired (zbP H) xs ms) (s : Same H H') : Paired (zbP H') xs ms:=Paired.mapP h fun _ _ ⟨a,e,z⟩=>⟨a,e,s _ _ z⟩
theorem zfU {H : Hp} {p : Addr} {ys : List V} {o : HO} {xs : List V} {ms : List Mx} (h : Paired (zbP H) xs ms) (hp : H p = some (.lst ys)) : Paired (zbP (upd H p o)) xs ms :=
 Paired.mapP h fun _ _ ⟨a,e,z⟩=>⟨a,e,by rw [zah (zcP z hp (fun q=>by cases q))]; exact z⟩
theorem ziu {H : Hp} {v : V} {m : Mx} (h : zbP H v m) : ∀ n : Nat,Paired (zbP H) (List.replicate n v) (List.replicate n m)
 | 0=>.nil
 | n + 1=>.cons h (ziu h n)
def zeE (H0 : Hp) (no : Addr) (H : Hp) (v : V) (ms : List Mx) : Prop:=∃ p xs,v = .ref p /\ p ≠ no /\ H0 p = none /\ H p = some (.lst xs) /\ Paired (zbP H) xs ms
theorem zjC {H0 H H' : Hp} {no : Addr} {zs : List V} {ls : List (List Mx)} (h : Paired (zeE H0 no H) zs ls) (s : Same H H') : Paired (zeE H0 no H') zs ls :=
 Paired.mapP h fun _ _ ⟨p,xs,e,n,f,z,m⟩=>⟨p,xs,e,n,f,s _ _ z,zhj m s⟩
theorem zmm {H0 H : Hp} {no : Addr} {ys : List V} {o : HO} {zs : List V} {ls : List (List Mx)} (h : Paired (zeE H0 no H) zs ls) (hn : H no = some (.lst ys)) : Paired (zeE H0 no (upd H no o)) zs ls :=
 Paired.mapP h fun _ _ ⟨p,xs,e,n,f,z,m⟩=>⟨p,xs,e,n,f,by rw [zah n]; exact z,zfU m hn⟩
theorem zjY {H0 H : Hp} {no : Addr} {zs : List V} {ls : List (List Mx)} {p : Addr} (h : Paired (zeE H0 no H) zs ls) (hp : H p = none) : V.ref p ∉ zs:=by
 intro hm
 obtain ⟨i,hi,e⟩:=List.getElem_of_mem hm
 obtain ⟨_,_,p2,xs,e2,_,_,z,_⟩:=Cs.zbq h (List.getElem?_eq_getElem hi)
 rw [e] at e2
 cases e2
 rw [hp] at z
 cases z
end Lan
namespace Unl
open PySem L2 PySem.Builtin.Str
theorem zfh (x : Str) (a : Nat) : ∀ n,((List.range n).map fun (k : Nat)=>a + k).filterMap (x.cps[·]?) = (x.cps.toList.drop a).take n
 | 0=>rfl
 | n + 1=>by
   rw [List.range_succ,List.map_append,List.filterMap_append,zfh x a n,List.take_add_one,List.getElem?_drop]
   congr 1
   show List.filterMap _ [a + n] = _
   rw [Array.getElem?_toList,List.filterMap_cons,List.filterMap_nil]
   cases x.cps[a + n]? <;> rfl
theorem ziy {a b : Int} {p m : Nat} (ha : a = (p : Int)) (hb : (b - a).toNat = m) : sliceRange a b 1 = (List.range m).map fun (k : Nat)=>p + k:=by
 subst ha
 unfold sliceRange
 simp only [show (1 : Int) > 0 by decide,if_true]
 have e : (if (p : Int) < b then (b - p + 1 - 1) / 1 else 0).toNat = m:=by
  split <;> omega
 rw [e]
 refine List.map_congr_left fun k _=>?_
 omega
theorem ziE {x : Str} {lo hi : Option Int} {p m : Nat} (e : strSliceIndices lo hi 1 x.length = (List.range m).map fun (k : Nat)=>p + k) (hm : m = x.length -> p = 0) : (Txt.slice x lo hi).cps.toList = (x.cps.toList.drop p).take m:=by
 have hl : x.cps.toList.length = x.length:=Array.length_toList
 unfold Txt.slice
 rw [e]
 split
 ·rename_i h
  simp only [List.length_map,List.length_range,beq_self_eq_true,Bool.true_and,beq_iff_eq] at h
  rw [hm h,List.drop_zero,List.take_of_length_le (by omega)]
 ·show ((((List.range m).map fun (k : Nat)=>p + k).filterMap (x.cps[·]?)).toArray).toList = _
  rw [zfh]
theorem zfY (x : Str) {z : Int} (n : Nat) (hz : z = (n : Int)) : (Txt.slice x none (some z)).cps.toList = x.cps.toList.take n:=by
 have hl : x.cps.toList.length = x.length:=Array.length_toList
 have e : strSliceIndices none (some z) 1 x.length = (List.range (min n x.length)).map fun (k : Nat)=>0 + k:=by
  unfold strSliceIndices
  simp only [show (1 : Int) > 0 by decide,if_true]
  exact ziy rfl (by split <;> omega)
 rw [ziE e (fun _=>rfl),List.drop_zero,<- hl,<- List.take_take,List.take_length]
theorem zdy (x : Str) {z : Int} (n : Nat) (hz : z = (n : Int)) : (Txt.slice x (some z) none).cps.toList = x.cps.toList.drop n:=by
 have hl : x.cps.toList.length = x.length:=Array.length_toList
 have e : strSliceIndices (some z) none 1 x.length = (List.range (x.length - min n x.length)).map fun (k : Nat)=>min n x.length + k:=by
  unfold strSliceIndices
  simp only [show (1 : Int) > 0 by decide,if_true]
  exact ziy (by split <;> omega) (by split <;> omega)
 rw [ziE e (fun _=>by omega),List.take_of_length_le (by rw [List.length_drop]; omega)]
 by_cases h : n <= x.length
 ·rw [Nat.min_eq_left h]
 ·rw [Nat.min_eq_right (by omega),List.drop_of_length_le (by omega),List.drop_of_length_le (by omega)]
def zcG (m : Nat) (x : Str) : Prop:=x.cps.toList.length <= m /\ ∀ c ∈ x.cps.toList,c < 0x110000
theorem zcG.len {m : Nat} {x : Str} (h : zcG m x) : x.length <= m:=by
 have hl : x.cps.toList.length = x.length:=Array.length_toList
 rw [<- hl]
 exact h.1
theorem zcG.lay {m : Nat} {x : Str} (h : zcG m x) : PyData.canLay0 (.str x) = true:=by
 show (x.cps.all fun c=>decide (c < 0x110000)) = true
 rw [<- Array.all_toList,List.all_eq_true]
 exact fun c hc=>decide_eq_true (h.2 c hc)
theorem zcG.take {m : Nat} {x y : Str} {n : Nat} (h : zcG m x) (e : y.cps.toList = x.cps.toList.take n) : zcG m y :=
 ⟨by rw [e]; exact Nat.le_trans (List.length_take_le' ..) h.1,fun c hc=>h.2 c (by rw [e] at hc; exact List.mem_of_mem_take hc)⟩
theorem zcG.drop {m : Nat} {x y : Str} {n : Nat} (h : zcG m x) (e : y.cps.toList = x.cps.toList.drop n) : zcG m y :=
 ⟨by rw [e,List.length_drop]; exact Nat.le_trans (Nat.sub_le ..) h.1,fun c hc=>h.2 c (by rw [e] at hc; exact List.mem_of_mem_drop hc)⟩
theorem zcG.mid {m : Nat} {x y t d : Str} {n e : Nat} (h : zcG m x) (hy : zcG 1 y) (e1 : t.cps.toList = x.cps.toList.take n) (e2 : d.cps.toList = x.cps.toList.drop e) (he : n <= e) : zcG (m + 1) (t ++ y ++ d):=by
 have q : (t ++ y ++ d).cps.toList = t.cps.toList ++ y.cps.toList ++ d.cps.toList:=by
  show (t.cps ++ y.cps ++ d.cps).toList = _
  rw [Array.toList_append,Array.toList_append]
 refine ⟨?_,fun c hc=>?_⟩
 ·rw [q,List.length_append,List.length_append,e1,e2,List.length_take,List.length_drop]
  have:=h.1
  have:=hy.1
  omega
 ·rw [q,e1,e2] at hc
  rcases List.mem_append.mp hc with z | z
  ·rcases List.mem_append.mp z with z | z
   ·exact h.2 c (List.mem_of_mem_take z)
   ·exact hy.2 c z
  ·exact h.2 c (List.mem_of_mem_drop z)
theorem zcG.cut {m : Nat} {x t d : Str} {n e : Nat} (h : zcG m x) (e1 : t.cps.toList = x.cps.toList.take n) (e2 : d.cps.toList = x.cps.toList.drop e) (he : n <= e) : zcG (m + 1) (t ++ d):=by
 have q : (t ++ d).cps.toList = t.cps.toList ++ d.cps.toList:=Array.toList_append
 refine ⟨?_,fun c hc=>?_⟩
 ·rw [q,List.length_append,e1,e2,List.length_take,List.length_drop]
  have:=h.1
  omega
 ·rw [q,e1,e2] at hc
  rcases List.mem_append.mp hc with z | z
  ·exact h.2 c (List.mem_of_mem_take z)
  ·exact h.2 c (List.mem_of_mem_drop z)
def cp : List Nat -> List Nat -> Nat
 | a :: x,b :: y=>if a = b then cp x y + 1 else 0
 | _,_=>0
def un : Nat -> List Str -> List Str -> Option (Nat × Nat)
 | k,t :: ts,s :: ss=>if t = s then un (k + 1) ts ss else some (k,cp t.cps.toList s.cps.toList)
 | _,[],[]=>none
 | k,_,_=>some (k,0)
def UnAt (H : Hp) (v : V) : Option (Nat × Nat) -> Prop
 | none=>v = .non
 | some (i,p)=>∃ t,v = .ref t /\ H t = some (.tup [.int i,.int p])
theorem UnAt.same {H H' : Hp} {v : V} {o : Option (Nat × Nat)} (h : UnAt H v o) (hs : Same H H') : UnAt H' v o:=by
 cases o with
 | none=>exact h
 | some ip =>
   obtain ⟨t,e,ht⟩:=h
   exact ⟨t,e,hs _ _ ht⟩
end Unl
namespace L2
open PySem PySem.Spec PyProof.Rows
structure FS (ns : List Str) (fs : List (Str × V)) (vals : List (Option V)) : Prop where
 lk : ∀ m,fs.lookup m = (ns.idxOf? m).bind fun i=>(vals[i]?).join
 ln : vals.length = ns.length
 nd : (fs.map (·.1)).Nodup
 sb : ∀ x ∈ fs.map (·.1),x ∈ ns
 fw : ns.length < 1000
theorem ziH (f : Str) (v : V) : ∀ fs : List (Str × V),(f ∈ fs.map (·.1) -> (putF f v fs).map (·.1) = fs.map (·.1)) /\ (f ∉ fs.map (·.1) -> (putF f v fs).map (·.1) = fs.map (·.1) ++ [f])
 | []=>⟨fun h=>by simp at h,fun _=>rfl⟩
 | (k,x) :: r=>by
   obtain ⟨i1,i2⟩:=ziH f v r
   rw [show putF f v ((k,x) :: r) = (if k = f then (k,v) :: r else (k,x) :: putF f v r) from rfl]
   by_cases hk : k = f
   ·rw [if_pos hk]
    exact ⟨fun _=>rfl,fun h=>absurd (by rw [<- hk]; simp) h⟩
   ·rw [if_neg hk]
    refine ⟨fun h=>?_,fun h=>?_⟩
    ·rw [List.map_cons] at h
     rcases List.mem_cons.mp h with h | h
     ·exact absurd h.symm hk
     ·rw [List.map_cons,i1 h,List.map_cons]
    ·rw [List.map_cons,i2 fun z=>h (by rw [List.map_cons]; exact List.mem_cons_of_mem _ z),List.map_cons]
     rfl
theorem FS.nil {ns : List Str} (h : ns.length < 1000) : FS ns [] (List.replicate ns.length none):=by
 refine ⟨fun m=>?_,List.length_replicate,List.nodup_nil,(fun x hx=>nomatch hx),h⟩
 cases e : ns.idxOf? m with
 | none=>rfl
 | some i =>
   show none = ((List.replicate ns.length (none : Option V))[i]?).join
   rw [List.getElem?_replicate]
   split <;> rfl
theorem FS.len {ns : List Str} {fs : List (Str × V)} {vals : List (Option V)} (h : FS ns fs vals) : fs.length < 1000:=by
 have h1:=Cs.zga h.nd h.sb
 have h2:=h.fw
 rw [List.length_map] at h1
 omega
theorem FS.get {ns : List Str} {fs : List (Str × V)} {vals : List (Option V)} {m : Str} {i : Nat} {v : V} (h : FS ns fs vals) (hi : ns.idxOf? m = some i) (hv : vals[i]? = some (some v)) : fs.lookup m = some v:=by
 rw [h.lk m,hi]
 show (vals[i]?).join = _
 rw [hv]
 rfl
theorem FS.no {ns : List Str} {fs : List (Str × V)} {vals : List (Option V)} {m : Str} (h : FS ns fs vals) (hi : ns.idxOf? m = none) : fs.lookup m = none:=by
 rw [h.lk m,hi]
 rfl
theorem zmF {ns : List Str} {f : Str} {i : Nat} (h : ns.idxOf? f = some i) : ns[i]? = some f:=by
 unfold List.idxOf? at h
 obtain ⟨hi,e,_⟩:=List.findIdx?_eq_some_iff_getElem.mp h
 rw [List.getElem?_eq_getElem hi,beq_iff_eq.mp e]
theorem FS.put {ns : List Str} {fs : List (Str × V)} {vals : List (Option V)} {f : Str} {i : Nat} (y : V) (h : FS ns fs vals) (hi : ns.idxOf? f = some i) : FS ns (putF f y fs) (vals.set i (some y)):=by
 have hat:=zmF hi
 have hil : i < vals.length:=by
  have:=(List.getElem?_eq_some_iff.mp hat).1
  rw [h.ln]
  exact this
 obtain ⟨k1,k2⟩:=ziH f y fs
 refine ⟨fun m=>?_,by rw [List.length_set]; exact h.ln,?_,?_,h.fw⟩
 ·rw [zda]
  by_cases e : m = f
  ·rw [if_pos e,e,hi]
   show _ = ((vals.set i (some y))[i]?).join
   rw [List.getElem?_set,if_pos rfl,if_pos hil]
   rfl
  ·rw [if_neg e,h.lk m]
   cases ej : ns.idxOf? m with
   | none=>rfl
   | some j =>
     have hj:=zmF ej
     have hne : i ≠ j:=fun z=>by
      rw [z,hj] at hat
      exact e (Option.some.inj hat)
     show (vals[j]?).join = ((vals.set i (some y))[j]?).join
     rw [List.getElem?_set,if_neg hne]
 ·by_cases e : f ∈ fs.map (·.1)
  ·rw [k1 e]
   exact h.nd
  ·rw [k2 e,List.nodup_append]
   refine ⟨h.nd,by simp,fun a ha b hb=>?_⟩
   rw [List.mem_singleton.mp hb]
   exact fun z=>e (z ▸ ha)
 ·intro x hx
  by_cases e : f ∈ fs.map (·.1)
  ·rw [k1 e] at hx
   exact h.sb x hx
  ·rw [k2 e] at hx
   rcases List.mem_append.mp hx with hx | hx
   ·exact h.sb x hx
   ·rw [List.mem_singleton.mp hx]
    exact List.mem_of_getElem? hat
def zcq (C : Addr) (ns : List Str) (H : Hp) (a : Addr) (vals : List (Option V)) : Prop:=∃ dx fs,H a = some (.ins C dx fs) /\ FS ns fs vals
theorem zcq.same {C : Addr} {ns : List Str} {H H' : Hp} {a : Addr} {vals : List (Option V)} (h : zcq C ns H a vals) (s : Same H H') : zcq C ns H' a vals:=let ⟨dx,fs,e,f⟩:=h; ⟨dx,fs,s _ _ e,f⟩
def ztD (C : Addr) (ns : List Str) (ta : TE) (i : Nat) : TE:=fun σ H Q=>ta σ H fun x H1=>∃ a vals v,x = .ref a /\ zcq C ns H1 a vals /\ vals[i]? = some (some v) /\ Q v H1
def ztC (C : Addr) (ns : List Str) (ta tv : TE) (i : Nat) : TS:=fun D σ H=>tv σ H fun y H1=>ta σ H1 fun x H2=>∃ a vals,x = .ref a /\ zcq C ns H2 a vals /\
 ∀ H3,zcq C ns H3 a (vals.set i (some y)) -> (∀ b,b ≠ a -> H3 b = H2 b) -> D.nx σ H3
def zmD (C : Addr) (ns : List Str) (sp : Sp) (E : XK) (ta : TE) (t : TA) : TE:=fun σ H Q=>ta σ H fun x H1=>∃ a vals,x = .ref a /\ zcq C ns H1 a vals /\ t σ H1 fun vs H2=>sp (x :: vs) H2 Q E
structure DM (K : PySem.W.Frag) (x qual : Str) (st : Stmt) (ps : List Str) (C f : Addr) (fd : FuncData) : Prop where
 fn : Fun K x qual st f fd
 ba : ∀ us : List Value,us.length = ps.length -> bindArgs fd ⟨us,[]⟩ = pure (ps.zip us)
 me : Meth K C x f
section
variable {X : Cx} {K : PySem.W.Frag} (hK : X.K = K) {ns : List Str} {C : Addr} {o e value : Expr} {es : List Expr} {f : Str} {i : Nat} {pos pos' apos : Pos} {ta tv : TE} {t : TA} {k j : Nat} {g : Addr} {fd : FuncData} {ps : List Str} {sp : Sp} {m qual : Str} {st : Stmt}
include hK
theorem pfld (c : Cls K C) (n : zbr K C f) (hi : ns.idxOf? f = some i) (he : PE X o ta) (hb : attributeBase o f X.env (eval o X.env) = eval o X.env:=by rfl) : PE X (.Attribute o f pos) (ztD C ns ta i):=by
 subst hK
 intro pins s σ H Q I h
 refine zky hb (thn (he pins s σ H _ I h) fun u s1 ⟨x,H1,I1,rx,a,vals,v,ex,⟨dx,fs,ea,F⟩,hv,q⟩=>?_)
 subst ex
 obtain rfl : u = Value.ref a:=rx
 exact zjL I1 ea c n (F.get hi hv) fun u' s2 I2 ru=>⟨v,H1,I2,ru,q⟩
theorem zbX (c : Cls K C) (n : zbr K C f) (hi : ns.idxOf? f = some i) (ha : PE X o ta) (hv : PE X value tv) (hs : swapsWith value (some (.Attribute o f pos')) pos.line X.env = pure false:=by rfl) : PS X (.Assign [.Attribute o f pos'] value pos) (ztC C ns ta tv i):=by
 subst hK
 intro pins s σ H D I h
 refine plainObj_wpAny_Assign_Attribute (thn (hv pins s σ H _ I h) fun u s1 ⟨y,H1,I1,ry,q⟩=>thn (ha pins s1 σ H1 _ I1 q) fun ov s2 ⟨x,H2,I2,rx,a,vals,ex,⟨dx,fs,ea,F⟩,q2⟩=>?_) hs
 subst ex
 obtain rfl : ov = Value.ref a:=rx
 exact zjf I2 ea c n F.len ry fun s3 I3=>⟨σ,_,I3,q2 _ ⟨dx,_,upd_same,F.put y hi⟩ fun b hb=>zah hb⟩
theorem zoQ (c : Cls K C) (d : DM K m qual st ps C g fd) (F : FnOk X.prog X.w X.K X.mg X.base CX0 j g fd ps sp) (hr : Room k X.A) (hi : ns.idxOf? m = none) (he : PE X o ta) (ha : PA X (e :: es) t) (hjk : j <= k:=by decide)
 (hst : starEach (e :: es) X.env = (false,eval e X.env) :: starEach es X.env:=by rfl) (hpl : (backTo pos (starEach es X.env)).any (·.1) = false:=by rfl) {pl : Sem Bool}
 (ht : eval (.Call (.Attribute o m apos) (e :: es) [] pos) X.env = (do
   let ov <- eval o X.env
   standAt apos.atName
   let (f,first) <- holding [ov] (getMethod ov m pl)
   callWith pos f first (backTo pos (starEach (e :: es) X.env)) (backToKw pos (keywordEach [] X.env))):=by rfl) :
 PE X (.Call (.Attribute o m apos) (e :: es) [] pos) (zmD C ns sp E0 ta t):=by
 subst hK
 intro pins s σ H Q I h
 refine PySem.W.methodCall_KW (pl:=pl) (thn (he pins s σ H _ I h) fun u s1 ⟨x,H1,I1,rx,a,vals,ex,⟨dx,fs,ea,FF⟩,q⟩=>?_) ht
 subst ex
 obtain rfl : u = Value.ref a:=rx
 refine zft I1 ea c d.me (FF.no hi) ?_
 refine PySem.W.callWith_K (first:=[.ref a]) (h₀:=X.base) I.ok.mod.kin d.me.kp (thn (ha pos pins s1 σ H1 _ I1 q) fun us s2 ⟨vs,H2,I2,r,q2⟩=>⟨I2.kIn,?_⟩) hst hpl
 exact zke (us:=.ref a :: us) (vs:=.ref a :: vs) (F.mono hjk) hr (.all d.ba) .nil zmX I2 (.cons rfl r) (by rw [List.append_nil]; exact q2)
theorem zbS (c : Cls K C) (d : DM K m qual st ps C g fd) (F : FnOk X.prog X.w X.K X.mg X.base CX0 j g fd ps sp) (hr : Room k X.A) (hi : ns.idxOf? m = none) (he : PE X o ta) (hjk : j <= k:=by decide) {pl : Sem Bool}
 (ht : eval (.Call (.Attribute o m apos) [] [] pos) X.env = (do
   let ov <- eval o X.env
   standAt apos.atName
   let (f,first) <- holding [ov] (getMethod ov m pl)
   callWith pos f first (backTo pos (starEach [] X.env)) (backToKw pos (keywordEach [] X.env))):=by rfl) :
 PE X (.Call (.Attribute o m apos) [] [] pos) (zmD C ns sp E0 ta tNil):=by
 subst hK
 intro pins s σ H Q I h
 refine PySem.W.methodCall_KW (pl:=pl) (thn (he pins s σ H _ I h) fun u s1 ⟨x,H1,I1,rx,a,vals,ex,⟨dx,fs,ea,FF⟩,q⟩=>?_) ht
 subst ex
 obtain rfl : u = Value.ref a:=rx
 refine zft I1 ea c d.me (FF.no hi) ?_
 exact PySem.W.callWith_K0 (first:=[.ref a]) I1.kIn d.me.kp (zke (us:=[.ref a]) (vs:=[.ref a]) (F.mono hjk) hr (.all d.ba) .nil zmX I1 (.cons rfl .nil) q)
end
structure FunD (K : PySem.W.Frag) (x qual : Str) (st : Stmt) (f : Addr) (fd : FuncData) : Prop where
 ex : ∃ (oc : Value) (od : Option Addr) (dV kV doc pm : Value) (an : Option Addr) (cdv ct : Value) (osl : Array (Option Value)),
  fd = PySem.W.fnOf x qual (zak st) (zaj st) (zab st) dV kV doc pm an cdv ct /\ K.lookup f = some ⟨oc,od,.func fd,osl⟩ /\ PySem.W.codeIn K cdv qual = true
 kp : PySem.W.keepIn K (.ref f) = true
section
variable {P : Program} {w : World} {K : PySem.W.Frag} {mg : Str -> Option Value} {base : Heap}
theorem FunD.ok {x qual : Str} {st : Stmt} {f : Addr} {fd : FuncData} {N ps : List Str} {k : Nat} {sp : Sp} (F : FunD K x qual st f fd) (S : FnScope N ps (zab st)) (len : ∀ vs H Q E,sp vs H Q E -> vs.length = ps.length)
 (hbody : ∀ (cdv : Value) (A : Around) (outer : List Env) (s : Shared) (H : Hp) (vs : List V) (Q : VK) (E : XK),Room k (A.deeper (envOfC qual (zab st) s.heap.objs.size f cdv)) -> sp vs H Q E ->
   ∃ t,PSs (cxOf CX0 P w K mg base N qual (zab st) f cdv A outer s H E).nox (zaj st) t /\ t { nx:=fun _ H'=>Q .non H',rt:=Q } (start N vs) H) : FnOk P w K mg base CX0 (k + 1) f fd ps sp:=by
 obtain ⟨oc,od,dV,kV,doc,pm,an,cdv,ct,osl,rfl,lk,hcd⟩:=F.ex
 refine zmp lk hcd S len fun A outer s H vs Q E hr hsp=>?_
 obtain ⟨t,h,q⟩:=hbody cdv A outer s H vs Q E hr hsp
 exact ⟨t,h.nox,q⟩
theorem FunD.okX {x qual : Str} {st : Stmt} {f : Addr} {fd : FuncData} {N ps : List Str} {k : Nat} {sp : Sp} (F : FunD K x qual st f fd) (S : FnScope N ps (zab st)) (len : ∀ vs H Q E,sp vs H Q E -> vs.length = ps.length)
 (hbody : ∀ (cdv : Value) (A : Around) (outer : List Env) (s : Shared) (H : Hp) (vs : List V) (Q : VK) (E : XK),Room k (A.deeper (envOfC qual (zab st) s.heap.objs.size f cdv)) -> sp vs H Q E ->
   ∃ t,PSs (cxF P w K mg base N qual (zab st) f cdv A outer s H E) (zaj st) t /\ t { nx:=fun _ H'=>Q .non H',rt:=Q } (start N vs) H) : FnOk P w K mg base (CX1 P w) (k + 1) f fd ps sp:=by
 obtain ⟨oc,od,dV,kV,doc,pm,an,cdv,ct,osl,rfl,lk,hcd⟩:=F.ex
 refine zmp lk hcd S len fun A outer s H vs Q E hr hsp=>?_
 obtain ⟨t,h,q⟩:=hbody cdv A outer s H vs Q E hr hsp
 exact ⟨t,h.wishTo zfo,q⟩
theorem us1 {P : List Value -> Prop} (h : ∀ a,P [a]) : ∀ us : List Value,us.length = 1 -> P us
 | [a],_=>h a
theorem us2 {P : List Value -> Prop} (h : ∀ a b,P [a,b]) : ∀ us : List Value,us.length = 2 -> P us
 | [a,b],_=>h a b
theorem us3 {P : List Value -> Prop} (h : ∀ a b c,P [a,b,c]) : ∀ us : List Value,us.length = 3 -> P us
 | [a,b,c],_=>h a b c
theorem us4 {P : List Value -> Prop} (h : ∀ a b c d,P [a,b,c,d]) : ∀ us : List Value,us.length = 4 -> P us
 | [a,b,c,d],_=>h a b c d
theorem us5 {P : List Value -> Prop} (h : ∀ a b c d e,P [a,b,c,d,e]) : ∀ us : List Value,us.length = 5 -> P us
 | [a,b,c,d,e],_=>h a b c d e
theorem zkL {us ds : List Value} {n : Nat} (h : (us ++ ds).length = n) : us.length = n - ds.length:=by
 rw [List.length_append] at h
 omega
structure DI (K : PySem.W.Frag) (mg : Str -> Option Value) (x qual : Str) (st : Stmt) (ps : List Str) (C f : Addr) (fd : FuncData) : Prop where
 mg : mg x = some (.ref C)
 cl : Cls K C
 mkr : Mk K C f
 fn : FunD K "__init__" qual st f fd
 b0 : zdM K fd ps []
 b1 : zdM K fd ps [.none]
end
section
variable {X : Cx} {k j : Nat} {C f : Addr} {fd : FuncData} {ps : List Str} {sp : Sp} {x qual : Str} {st : Stmt} {p pos : Pos} {e : Expr} {es : List Expr} {t : TA}
end
def rIxP (K : PySem.W.Frag) : R2:=fun x y H Q=>rIxT K x y H Q \/ rIxS x y H Q
theorem zlP {X : Cx} (K : PySem.W.Frag) (hK : X.K = K) : IxR X (rIxP K):=by
 subst hK
 intro value slice pins s σ H x y v u Q I rx ry h hs
 rcases h with h | h
 ·exact zmL value slice pins s σ H x y v u Q I rx ry h hs
 ·exact zdq value slice pins s σ H x y v u Q I rx ry h hs
end L2
namespace Mc
open PySem L2
abbrev Mx:=Lan.Mx
abbrev Part:=Option Mx
structure Cf where
 rs : List Cs.Row
 keys : Str
 cast : Int
structure Ms where
 lanes : List (List Mx)
 line : List Part
 heat : List Part
 togo : Int
 bar : List Mx
 texts : List Str
 at_ : Nat
 done : Int
 waits : Int
def key (c : Cf) (m : Ms) : Option Nat:=c.keys.cps.toList[m.at_]?
def keyS (c : Cf) (m : Ms) : Str:=match key c m with
 | some k=>sg k
 | none=>""
def zby (ls : List (List Mx)) (k : Nat) : Bool:=match ls[k]? with
 | some l=>l.isEmpty
 | none=>true
def zaL (c : Cf) (m : Ms) : Bool:=match Cs.place c.rs (keyS c m) with
 | some k=>zby m.lanes k
 | none=>false
def zhO (c : Cf) (m : Ms) : Bool:=zaL c m && m.heat.isEmpty && m.bar.isEmpty
def zcm (c : Cf) (m : Ms) : Bool:=(key c m).isNone && m.line.isEmpty && m.heat.isEmpty && m.bar.isEmpty
def zcv (ls : List (List Mx)) (k : Nat) (x : Mx) : List (List Mx):=match ls[k]? with
 | some l=>ls.set k (l ++ [x])
 | none=>ls
def fall (c : Cf) (m : Ms) : Ms:=match m.bar with
 | []=>m
 | x :: r=>match Mt.zbO (c.rs.map fun r=>r.t) x.2 with
   | some k=>{ m with bar:=r,lanes:=zcv m.lanes k x }
   | none=>m
def zbb : Part -> Str
 | none=>" "
 | some x=>x.1
def zaP (l : List Part) : Str:=Txt.join "" (l.map zbb)
def mats (l : List Part) : List Mx:=l.filterMap id
def cool (m : Ms) : Ms:=if m.heat.isEmpty = true then m else
 if m.togo - 1 <= 0 then { m with togo:=m.togo - 1,texts:=m.texts ++ [zaP m.heat],bar:=m.bar ++ mats m.heat,heat:=[] } else { m with togo:=m.togo - 1 }
def send (c : Cf) (m : Ms) : Ms:=if m.heat.isEmpty = true then { m with heat:=m.line,togo:=c.cast,line:=[],at_:=m.at_ + 1 } else m
def take (m : Ms) (p : Part) : Ms:={ m with line:=m.line ++ [p],at_:=m.at_ + 1 }
def pick (m : Ms) (k : Nat) : Ms:=match m.lanes[k]? with
 | some (x :: r)=>take { m with lanes:=m.lanes.set k r } (some x)
 | _=>m
def strike (c : Cf) (m : Ms) : Ms:=match key c m with
 | none=>m
 | some k=>if k = 47 then send c m else if k = 32 then take m none else if zaL c m = true then { m with waits:=m.waits + 1 } else match Cs.place c.rs (sg k) with
   | some j=>pick m j
   | none=>m
def tick (c : Cf) (m : Ms) : Ms:=let m1:=strike c (cool (fall c m)); { m1 with done:=m1.done + 1 }
def still (c : Cf) (m : Ms) : Bool:=zcm c m || zhO c m
def OkM (c : Cf) (x : Mx) : Prop:=PyData.canLay0 (.str x.1) = true /\ x.1.length <= 1 /\ 0 <= x.2 /\ x.2 < 128 /\ ∃ k,Mt.zbO (c.rs.map fun r=>r.t) x.2 = some k /\ k < c.rs.length
def cnt (m : Ms) : Nat:=(m.lanes.map List.length).sum + m.line.length + m.heat.length + m.bar.length
structure OkC (c : Cf) : Prop where
 few : c.rs.length <= 30
 short : c.keys.length <= 90000
 known : ∀ k ∈ c.keys.cps.toList,k = 47 \/ k = 32 \/ ((Cs.place c.rs (sg k)).isSome = true /\ k ≠ 47 /\ k ≠ 32)
 ends : c.keys.cps.toList = [] \/ ∃ a,c.keys.cps.toList = a ++ [47]
 noWedge : Cs.place c.rs (sg 47) = none /\ Cs.place c.rs (sg 32) = none /\ Cs.place c.rs "" = none
 cast1 : 1 <= c.cast
 th : ∀ r ∈ c.rs,0 <= r.t /\ r.t < 128
 lay : PyData.canLay0 (.str c.keys) = true
structure Ok (c : Cf) (m : Ms) : Prop where
 cf : OkC c
 ln : m.lanes.length = c.rs.length
 lm : ∀ l ∈ m.lanes,∀ x ∈ l,OkM c x
 im : ∀ x,some x ∈ m.line -> OkM c x
 hm : ∀ x,some x ∈ m.heat -> OkM c x
 bm : ∀ x ∈ m.bar,OkM c x
 le : m.at_ <= c.keys.cps.toList.length
 en : m.at_ = c.keys.cps.toList.length -> m.line = []
 sz : cnt m <= 2000 + m.at_
 tx : m.texts.length + (if m.heat.isEmpty = true then 0 else 1) <= m.at_
 tl : ∀ t ∈ m.texts,PyData.canLay0 (.str t) = true
 tg : m.heat ≠ [] -> 1 <= m.togo
theorem zii {c : Cf} {m : Ms} (h : Ok c m) : m.at_ <= 90000:=by
 have h1:=h.le
 have h2:=h.cf.short
 have h3 : c.keys.cps.toList.length = c.keys.length:=Array.length_toList
 omega
theorem zfT (ls : List (List Mx)) (k : Nat) (l l' : List Mx) (h : ls[k]? = some l) : ((ls.set k l').map List.length).sum + l.length = (ls.map List.length).sum + l'.length:=by
 induction ls generalizing k with
 | nil=>simp at h
 | cons a r ih =>
   cases k with
   | zero =>
     have e : a = l:=Option.some.inj h
     subst e
     show (l'.length + (r.map List.length).sum) + a.length = (a.length + (r.map List.length).sum) + l'.length
     omega
   | succ j =>
     have:=ih j h
     show (a.length + ((r.set j l').map List.length).sum) + l.length = (a.length + (r.map List.length).sum) + l'.length
     omega
theorem znU {ls : List (List Mx)} {k : Nat} {l : List Mx} (h : ls[k]? = some l) : l.length <= (ls.map List.length).sum:=by
 have:=zfT ls k l [] h
 have e : ([] : List Mx).length = 0:=rfl
 omega
theorem zfG (l : List Part) : (mats l).length <= l.length:=List.length_filterMap_le _ _
theorem zmz {l : List Part} {x : Mx} (h : x ∈ mats l) : some x ∈ l:=by
 obtain ⟨y,hy,e⟩:=List.mem_filterMap.mp h
 have e : y = some x:=e
 rw [<- e]
 exact hy
theorem Ok.fall {c : Cf} {m : Ms} (h : Ok c m) : Ok c (fall c m):=by
 unfold Mc.fall
 cases hb : m.bar with
 | nil=>exact h
 | cons x r =>
   have hx:=h.bm x (by rw [hb]; exact List.mem_cons_self)
   obtain ⟨_,_,_,_,k,hk,hkl⟩:=hx
   show Ok c (match Mt.zbO (c.rs.map fun r=>r.t) x.2 with
    | some k=>{ m with bar:=r,lanes:=zcv m.lanes k x }
    | none=>m)
   rw [hk]
   have hkl' : k < m.lanes.length:=by rw [h.ln]; exact hkl
   have hg : m.lanes[k]? = some m.lanes[k]:=List.getElem?_eq_getElem hkl'
   have ea : zcv m.lanes k x = m.lanes.set k (m.lanes[k] ++ [x]):=by unfold zcv; rw [hg]
   refine ⟨h.cf,?_,?_,h.im,h.hm,?_,h.le,h.en,?_,h.tx,h.tl,h.tg⟩
   ·show (zcv m.lanes k x).length = _
    rw [ea,List.length_set]
    exact h.ln
   ·intro l hl y hy
    have hl : l ∈ zcv m.lanes k x:=hl
    rw [ea] at hl
    rcases List.mem_or_eq_of_mem_set hl with hl | hl
    ·exact h.lm l hl y hy
    ·rw [hl] at hy
     rcases List.mem_append.mp hy with hy | hy
     ·exact h.lm _ (List.getElem_mem hkl') y hy
     ·rw [List.mem_singleton.mp hy]
      exact h.bm x (by rw [hb]; exact List.mem_cons_self)
   ·intro y hy
    exact h.bm y (by rw [hb]; exact List.mem_cons_of_mem _ hy)
   ·have hs:=h.sz
    have h1:=zfT m.lanes k _ (m.lanes[k] ++ [x]) hg
    rw [List.length_append] at h1
    unfold cnt at hs ⊢
    rw [hb] at hs
    show ((zcv m.lanes k x).map List.length).sum + m.line.length + m.heat.length + r.length <= 2000 + m.at_
    rw [ea]
    have e1 : [x].length = 1:=rfl
    have e2 : (x :: r).length = r.length + 1:=rfl
    omega
theorem zff (x : Str) (xs : List Str) : Txt.join "" (x :: xs) = x ++ Txt.join "" xs:=by
 unfold Txt.join
 rw [StrLaws.glued_eq_join,StrLaws.glued_eq_join]
 cases xs with
 | nil=>exact (Lns.zfI x).symm
 | cons y r =>
   show x ++ "" ++ Str.join "" (y :: r) = _
   rw [Lns.zfI]
theorem zjS {x y : Str} (hx : PyData.canLay0 (.str x) = true) (hy : PyData.canLay0 (.str y) = true) : PyData.canLay0 (.str (x ++ y)) = true:=by
 have hx : (x.cps.all fun c=>decide (c < 0x110000)) = true:=hx
 have hy : (y.cps.all fun c=>decide (c < 0x110000)) = true:=hy
 show ((x ++ y).cps.all fun c=>decide (c < 0x110000)) = true
 have e : (x ++ y).cps.toList = x.cps.toList ++ y.cps.toList:=Array.toList_append
 rw [<- Array.all_toList] at hx hy ⊢
 rw [e,List.all_append,hx,hy]
 rfl
theorem zmo {c : Cf} {l : List Part} (h : ∀ x,some x ∈ l -> OkM c x) : PyData.canLay0 (.str (zaP l)) = true:=by
 unfold zaP
 induction l with
 | nil=>decide +kernel
 | cons p r ih =>
   have ih:=ih fun x hx=>h x (List.mem_cons_of_mem _ hx)
   have e : Txt.join "" ((p :: r).map zbb) = zbb p ++ Txt.join "" (r.map zbb):=zff _ _
   rw [e]
   have hp : PyData.canLay0 (.str (zbb p)) = true:=by
    cases p with
    | none=>decide +kernel
    | some x=>exact (h x List.mem_cons_self).1
   exact zjS hp ih
theorem Ok.cool {c : Cf} {m : Ms} (h : Ok c m) : Ok c (cool m):=by
 unfold Mc.cool
 split
 ·exact h
 ·rename_i he
  have hne : m.heat ≠ []:=fun z=>he (by rw [z]; rfl)
  have ht:=h.tg hne
  split
  ·refine ⟨h.cf,h.ln,h.lm,h.im,(fun x hx=>by cases hx),?_,h.le,h.en,?_,?_,?_,fun z=>absurd rfl z⟩
   ·intro x hx
    rcases List.mem_append.mp hx with hx | hx
    ·exact h.bm x hx
    ·exact h.hm x (zmz hx)
   ·have hs:=h.sz
    have hl:=zfG m.heat
    unfold cnt at hs ⊢
    show (m.lanes.map List.length).sum + m.line.length + 0 + (m.bar ++ mats m.heat).length <= 2000 + m.at_
    rw [List.length_append]
    omega
   ·have h1:=h.tx
    rw [if_neg he] at h1
    show (m.texts ++ [zaP m.heat]).length + 0 <= m.at_
    rw [List.length_append]
    show m.texts.length + 1 + 0 <= _
    omega
   ·intro t ht
    rcases List.mem_append.mp ht with ht | ht
    ·exact h.tl t ht
    ·rw [List.mem_singleton.mp ht]
     exact zmo h.hm
  ·rename_i hg
   exact ⟨h.cf,h.ln,h.lm,h.im,h.hm,h.bm,h.le,h.en,h.sz,h.tx,h.tl,fun _=>by show 1 <= m.togo - 1; omega⟩
theorem zku {c : Cf} {m : Ms} {k : Nat} (h : key c m = some k) : m.at_ < c.keys.cps.toList.length:=(List.getElem?_eq_some_iff.mp h).1
theorem zlO {c : Cf} {m : Ms} {k : Nat} (h : OkC c) (hk : key c m = some k) (e : m.at_ + 1 = c.keys.cps.toList.length) : k = 47:=by
 unfold key at hk
 rcases h.ends with z | ⟨a,z⟩
 ·rw [z] at e
  cases e
 ·rw [z] at e hk
  rw [List.length_append] at e
  have e : m.at_ + 1 = a.length + 1:=e
  rw [List.getElem?_append_right (by omega),show m.at_ - a.length = 0 by omega] at hk
  exact (Option.some.inj hk).symm
theorem Ok.send {c : Cf} {m : Ms} (h : Ok c m) (hl : m.at_ < c.keys.cps.toList.length) : Ok c (send c m):=by
 unfold Mc.send
 split
 ·rename_i he
  have hn : m.heat = []:=List.isEmpty_iff.mp he
  refine ⟨h.cf,h.ln,h.lm,(fun x hx=>by cases hx),h.im,h.bm,hl,fun _=>rfl,?_,?_,h.tl,fun _=>h.cf.cast1⟩
  ·have hs:=h.sz
   unfold cnt at hs ⊢
   rw [hn] at hs
   have e : ([] : List Part).length = 0:=rfl
   show (m.lanes.map List.length).sum + 0 + m.line.length + m.bar.length <= 2000 + (m.at_ + 1)
   omega
  ·have h1:=h.tx
   rw [if_pos he] at h1
   show m.texts.length + (if m.line.isEmpty = true then 0 else 1) <= m.at_ + 1
   split <;> omega
 ·exact h
theorem Ok.take {c : Cf} {m : Ms} {k : Nat} {p : Part} (h : Ok c m) (hk : key c m = some k) (h47 : k ≠ 47) (hp : ∀ x,p = some x -> OkM c x) (hs : cnt m + 1 <= 2000 + (m.at_ + 1)) : Ok c (take m p):=by
 have hl:=zku hk
 refine ⟨h.cf,h.ln,h.lm,?_,h.hm,h.bm,hl,?_,?_,?_,h.tl,h.tg⟩
 ·intro x hx
  rcases List.mem_append.mp hx with hx | hx
  ·exact h.im x hx
  ·exact hp x (List.mem_singleton.mp hx).symm
 ·intro e
  exact absurd (zlO h.cf hk e) h47
 ·unfold cnt at hs ⊢
  show (m.lanes.map List.length).sum + (m.line ++ [p]).length + m.heat.length + m.bar.length <= 2000 + (m.at_ + 1)
  rw [List.length_append]
  show (m.lanes.map List.length).sum + (m.line.length + 1) + m.heat.length + m.bar.length <= 2000 + (m.at_ + 1)
  omega
 ·have:=h.tx
  show m.texts.length + (if m.heat.isEmpty = true then 0 else 1) <= m.at_ + 1
  omega
theorem Ok.pick {c : Cf} {m : Ms} {k j : Nat} (h : Ok c m) (hk : key c m = some k) (h47 : k ≠ 47) : Ok c (pick m j):=by
 unfold Mc.pick
 split
 ·rename_i x r hx
  have h1:=zfT m.lanes j _ r hx
  have e2 : (x :: r).length = r.length + 1:=rfl
  have hb : Ok c { m with lanes:=m.lanes.set j r }:=by
   refine ⟨h.cf,by show (m.lanes.set j r).length = _; rw [List.length_set]; exact h.ln,?_,h.im,h.hm,h.bm,h.le,h.en,?_,h.tx,h.tl,h.tg⟩
   ·intro l hl y hy
    rcases List.mem_or_eq_of_mem_set hl with hl | hl
    ·exact h.lm l hl y hy
    ·rw [hl] at hy
     exact h.lm _ (List.mem_of_getElem? hx) y (List.mem_cons_of_mem _ hy)
   ·have hs:=h.sz
    unfold cnt at hs ⊢
    show ((m.lanes.set j r).map List.length).sum + m.line.length + m.heat.length + m.bar.length <= 2000 + m.at_
    omega
  refine hb.take hk h47 (fun y e=>?_) ?_
  ·cases e
   exact h.lm _ (List.mem_of_getElem? hx) x List.mem_cons_self
  ·have hs:=h.sz
   unfold cnt at hs ⊢
   show ((m.lanes.set j r).map List.length).sum + m.line.length + m.heat.length + m.bar.length + 1 <= 2000 + (m.at_ + 1)
   omega
 ·exact h
theorem Ok.strike {c : Cf} {m : Ms} (h : Ok c m) : Ok c (strike c m):=by
 unfold Mc.strike
 split
 ·exact h
 ·rename_i k hk
  split
  ·exact h.send (zku hk)
  ·rename_i h47
   split
   ·exact h.take hk h47 (fun x e=>by cases e) (by have:=h.sz; omega)
   ·split
    ·exact ⟨h.cf,h.ln,h.lm,h.im,h.hm,h.bm,h.le,h.en,h.sz,h.tx,h.tl,h.tg⟩
    ·split
     ·exact h.pick hk h47
     ·exact h
theorem Ok.tick {c : Cf} {m : Ms} (h : Ok c m) : Ok c (tick c m):=by
 have g:=h.fall.cool.strike
 exact ⟨g.cf,g.ln,g.lm,g.im,g.hm,g.bm,g.le,g.en,g.sz,g.tx,g.tl,g.tg⟩
def wt (c : Cf) (k : Nat) : Nat:=if k = 47 then 1 + c.cast.toNat else if k = 32 then 1 else 2
def left (c : Cf) (m : Ms) : Nat:=((c.keys.cps.toList.drop m.at_).map (wt c)).sum
def work (c : Cf) (m : Ms) : Nat:=left c m + (mats m.line).length + (mats m.heat).length + (if m.heat.isEmpty = true then 0 else m.togo.toNat) + m.bar.length
theorem zlD {c : Cf} {m : Ms} {k : Nat} (h : key c m = some k) : left c m = wt c k + ((c.keys.cps.toList.drop (m.at_ + 1)).map (wt c)).sum:=by
 unfold left
 have hl:=zku h
 rw [List.drop_eq_getElem_cons hl]
 have e : c.keys.cps.toList[m.at_] = k:=by
  unfold key at h
  rw [List.getElem?_eq_getElem hl] at h
  exact Option.some.inj h
 rw [e]
 rfl
theorem zlB {c : Cf} {m : Ms} (h : Ok c m) : work c (fall c m) + (if m.bar.isEmpty = true then 0 else 1) = work c m:=by
 unfold Mc.fall
 cases hb : m.bar with
 | nil=>rfl
 | cons x r =>
   obtain ⟨_,_,_,_,k,hk,_⟩:=h.bm x (by rw [hb]; exact List.mem_cons_self)
   show work c (match Mt.zbO (c.rs.map fun r=>r.t) x.2 with
    | some k=>{ m with bar:=r,lanes:=zcv m.lanes k x }
    | none=>m) + 1 = work c m
   rw [hk]
   unfold work
   rw [hb]
   show left c m + (mats m.line).length + (mats m.heat).length + (if m.heat.isEmpty = true then 0 else m.togo.toNat) + r.length + 1 = left c m + (mats m.line).length + (mats m.heat).length + (if m.heat.isEmpty = true then 0 else m.togo.toNat) + (r.length + 1)
   omega
theorem zlg {c : Cf} {m : Ms} (h : Ok c m) : work c (cool m) + (if m.heat.isEmpty = true then 0 else 1) = work c m:=by
 unfold Mc.cool
 split
 ·rfl
 ·rename_i he
  have hne : m.heat ≠ []:=fun z=>he (by rw [z]; rfl)
  have ht:=h.tg hne
  split
  ·unfold work
   rw [if_neg he]
   show left c m + (mats m.line).length + 0 + 0 + (m.bar ++ mats m.heat).length + 1 = left c m + (mats m.line).length + (mats m.heat).length + m.togo.toNat + m.bar.length
   rw [List.length_append]
   omega
  ·unfold work
   have e1 : (if m.heat.isEmpty = true then 0 else m.togo.toNat) = m.togo.toNat:=if_neg he
   have e2 : (if m.heat.isEmpty = true then 0 else (m.togo - 1).toNat) = (m.togo - 1).toNat:=if_neg he
   show left c m + (mats m.line).length + (mats m.heat).length + (if m.heat.isEmpty = true then 0 else (m.togo - 1).toNat) + m.bar.length + 1 = left c m + (mats m.line).length + (mats m.heat).length + (if m.heat.isEmpty = true then 0 else m.togo.toNat) + m.bar.length
   rw [e1,e2]
   omega
theorem zqf {c : Cf} {m : Ms} {k : Nat} (h : Ok c m) (hk : key c m = some k) (h47 : k ≠ 47) (h32 : k ≠ 32) (hl : zaL c m = false) : ∃ j,Cs.place c.rs (sg k) = some j /\ ∃ x r,m.lanes[j]? = some (x :: r):=by
 have hm : k ∈ c.keys.cps.toList:=List.mem_of_getElem? hk
 rcases h.cf.known k hm with z | z | ⟨z,_,_⟩
 ·exact absurd z h47
 ·exact absurd z h32
 obtain ⟨j,hj⟩:=Option.isSome_iff_exists.mp z
 refine ⟨j,hj,?_⟩
 have hjl : j < m.lanes.length:=by rw [h.ln]; exact Cs.zdB hj
 have hg : m.lanes[j]? = some m.lanes[j]:=List.getElem?_eq_getElem hjl
 unfold zaL keyS at hl
 rw [hk] at hl
 have hl : (match Cs.place c.rs (sg k) with | some k=>zby m.lanes k | none=>false) = false:=hl
 rw [hj] at hl
 have hl : zby m.lanes j = false:=hl
 unfold zby at hl
 rw [hg] at hl
 have hl : (m.lanes[j]).isEmpty = false:=hl
 rw [hg]
 cases he : m.lanes[j] with
 | nil=>rw [he] at hl; cases hl
 | cons x r=>exact ⟨x,r,rfl⟩
def ziU (c : Cf) (m : Ms) : Bool:=match key c m with
 | none=>false
 | some k=>if k = 47 then m.heat.isEmpty else if k = 32 then true else !zaL c m
theorem zgl (l : List Part) (p : Part) : (mats (l ++ [p])).length = (mats l).length + (match p with | none=>0 | some _=>1):=by
 unfold mats
 rw [List.filterMap_append,List.length_append]
 cases p <;> rfl
theorem zhD {c : Cf} {m : Ms} (h : Ok c m) : work c (strike c m) + (if ziU c m = true then 1 else 0) <= work c m:=by
 unfold Mc.strike ziU
 cases hk : key c m with
 | none=>exact Nat.le_refl _
 | some k =>
   have hl:=zlD hk
   have hc:=h.cf.cast1
   show work c (if k = 47 then Mc.send c m else if k = 32 then Mc.take m none else if zaL c m = true then { m with waits:=m.waits + 1 } else match Cs.place c.rs (sg k) with
    | some j=>Mc.pick m j
    | none=>m) + (if (if k = 47 then m.heat.isEmpty else if k = 32 then true else !zaL c m) = true then 1 else 0) <= work c m
   by_cases h47 : k = 47
   ·rw [if_pos h47,if_pos h47]
    unfold Mc.send
    cases he : m.heat.isEmpty with
    | false=>exact Nat.le_refl _
    | true =>
      have hn : m.heat = []:=List.isEmpty_iff.mp he
      rw [if_pos rfl,if_pos rfl]
      have e : wt c k = 1 + c.cast.toNat:=by unfold wt; rw [if_pos h47]
      have e3 : (if m.line.isEmpty = true then 0 else c.cast.toNat) <= c.cast.toNat:=by split <;> omega
      have e4 : work c m = wt c k + ((c.keys.cps.toList.drop (m.at_ + 1)).map (wt c)).sum + (mats m.line).length + 0 + 0 + m.bar.length:=by
       unfold work
       rw [hl,if_pos he,hn]
       rfl
      rw [e4]
      show ((c.keys.cps.toList.drop (m.at_ + 1)).map (wt c)).sum + 0 + (mats m.line).length + (if m.line.isEmpty = true then 0 else c.cast.toNat) + m.bar.length + 1 <= _
      omega
   ·rw [if_neg h47,if_neg h47]
    by_cases h32 : k = 32
    ·rw [if_pos h32,if_pos h32,if_pos rfl]
     unfold work
     rw [hl]
     have e : wt c k = 1:=by unfold wt; rw [if_neg h47,if_pos h32]
     have e2 : (mats (m.line ++ [none])).length = (mats m.line).length + 0:=zgl m.line none
     show ((c.keys.cps.toList.drop (m.at_ + 1)).map (wt c)).sum + (mats (m.line ++ [none])).length + (mats m.heat).length + (if m.heat.isEmpty = true then 0 else m.togo.toNat) + m.bar.length + 1 <= _
     omega
    ·rw [if_neg h32,if_neg h32]
     have e : wt c k = 2:=by unfold wt; rw [if_neg h47,if_neg h32]
     cases hla : zaL c m with
     | true=>exact Nat.le_refl _
     | false =>
       rw [if_neg (by decide),if_pos (by decide)]
       obtain ⟨j,hj,x,r,hx⟩:=zqf h hk h47 h32 hla
       rw [hj]
       show work c (Mc.pick m j) + 1 <= _
       have ep : Mc.pick m j = Mc.take { m with lanes:=m.lanes.set j r } (some x):=by unfold Mc.pick; rw [hx]
       rw [ep]
       unfold work
       rw [hl]
       have e2 : (mats (m.line ++ [some x])).length = (mats m.line).length + 1:=zgl m.line (some x)
       show ((c.keys.cps.toList.drop (m.at_ + 1)).map (wt c)).sum + (mats (m.line ++ [some x])).length + (mats m.heat).length + (if m.heat.isEmpty = true then 0 else m.togo.toNat) + m.bar.length + 1 <= _
       omega
theorem zix (c : Cf) (m : Ms) : (Mc.fall c m).at_ = m.at_ /\ (Mc.fall c m).line = m.line /\ (Mc.fall c m).heat = m.heat /\ (Mc.fall c m).togo = m.togo /\ (Mc.fall c m).texts = m.texts /\ (Mc.fall c m).done = m.done /\ (Mc.fall c m).waits = m.waits:=by
 unfold Mc.fall
 split
 ·exact ⟨rfl,rfl,rfl,rfl,rfl,rfl,rfl⟩
 ·split <;> exact ⟨rfl,rfl,rfl,rfl,rfl,rfl,rfl⟩
theorem ziZ (m : Ms) : (Mc.cool m).at_ = m.at_ /\ (Mc.cool m).line = m.line /\ (Mc.cool m).lanes = m.lanes /\ (Mc.cool m).done = m.done /\ (Mc.cool m).waits = m.waits:=by
 unfold Mc.cool
 split
 ·exact ⟨rfl,rfl,rfl,rfl,rfl⟩
 ·split <;> exact ⟨rfl,rfl,rfl,rfl,rfl⟩
theorem zln {c : Cf} {m : Ms} (h : Ok c m) (hs : still c m = false) : work c (tick c m) < work c m:=by
 have h1:=zlB h
 have h2:=zlg h.fall
 have h3:=zhD h.fall.cool
 have ew : work c (tick c m) = work c (Mc.strike c (Mc.cool (Mc.fall c m))):=rfl
 rw [ew]
 obtain ⟨f1,f2,f3,f4,f5,f6,f7⟩:=zix c m
 obtain ⟨c1,c2,c3,c4,c5⟩:=ziZ (Mc.fall c m)
 by_cases hb : m.bar.isEmpty = true
 ·by_cases hh : m.heat.isEmpty = true
  ·have ef : Mc.fall c m = m:=by
    unfold Mc.fall
    rw [List.isEmpty_iff.mp hb]
   have ec : Mc.cool m = m:=by
    unfold Mc.cool
    rw [if_pos hh]
   rw [ef,ec] at h3 ⊢
   have ht : ziU c m = true:=by
    unfold still zcm zhO at hs
    rw [hb,hh,Bool.and_true,Bool.and_true,Bool.and_true,Bool.and_true,Bool.or_eq_false_iff] at hs
    unfold ziU
    cases hk : key c m with
    | none =>
      have hl : m.at_ = c.keys.cps.toList.length:=by
       have h1:=h.le
       have h2:=List.getElem?_eq_none_iff.mp hk
       omega
      rw [hk,h.en hl] at hs
      exact absurd hs.1 (by decide)
    | some k =>
      show (if k = 47 then m.heat.isEmpty else if k = 32 then true else !zaL c m) = true
      rw [hh,hs.2]
      split
      ·rfl
      ·split <;> rfl
   rw [if_pos ht] at h3
   omega
  ·rw [f3,if_neg hh] at h2
   omega
 ·rw [if_neg hb] at h1
  omega
def runF (c : Cf) : Nat -> Ms -> Ms
 | 0,m=>m
 | n + 1,m=>if still c m = true then m else runF c n (tick c m)
def fin (c : Cf) (m : Ms) : Ms:=runF c (work c m) m
theorem zjG {c : Cf} {m : Ms} (h : still c m = true) : ∀ n,runF c n m = m
 | 0=>rfl
 | n + 1=>by
   show (if still c m = true then m else runF c n (tick c m)) = m
   rw [if_pos h]
theorem znA {c : Cf} {m : Ms} (h : still c m = false) (n : Nat) : runF c (n + 1) m = runF c n (tick c m):=by
 show (if still c m = true then m else runF c n (tick c m)) = _
 rw [h]
 rfl
end Mc
namespace Mc
open PySem L2
def zcf (H : Hp) (v : V) : Part -> Prop
 | none=>v = .str " "
 | some x=>Lan.zbP H v x
def LnAt (H : Hp) (a : Addr) (ms : List Mx) : Prop:=∃ xs,H a = some (.lst xs) /\ Paired (Lan.zbP H) xs ms
def zkN (H : Hp) (a : Addr) (ps : List Part) : Prop:=∃ xs,H a = some (.lst xs) /\ Paired (zcf H) xs ps
structure Adr where
 L : Addr
 c : Addr
 l : Addr
 h : Addr
 b : Addr
 t : Addr
 ls : List Addr
def Adr.all (A : Adr) : List Addr:=A.L :: A.c :: A.l :: A.h :: A.b :: A.t :: A.ls
def Keep (S : Addr -> Prop) (H H' : Hp) : Prop:=∀ b o,H b = some o -> (S b \/ ∃ xs,o = .tup xs) -> H' b = some o
theorem Keep.of_same {S : Addr -> Prop} {H H' : Hp} (s : Same H H') : Keep S H H':=fun b o h _=>s b o h
theorem Keep.lst {H : Hp} {a : Addr} {ys : List V} {o : HO} (h : H a = some (.lst ys)) : Keep (fun b=>b ≠ a) H (upd H a o):=fun b u hb hs=>by
 rcases hs with hs | ⟨xs,e⟩
 ·rw [zah hs]
  exact hb
 ·subst e
  rw [zah (zcP hb h fun z=>by cases z)]
  exact hb
theorem Keep.fld {H H' : Hp} {p C dx : Addr} {fs : List (Str × V)} (h : H p = some (.ins C dx fs)) (k : ∀ b,b ≠ p -> H' b = H b) : Keep (fun b=>b ≠ p) H H':=fun b u hb hs=>by
 rcases hs with hs | ⟨xs,e⟩
 ·rw [k b hs]
  exact hb
 ·subst e
  rw [k b (zcP hb h fun z=>by cases z)]
  exact hb
theorem Keep.trans {S : Addr -> Prop} {H H1 H2 : Hp} (a : Keep S H H1) (b : Keep S H1 H2) : Keep S H H2:=fun x o h hs=>b x o (a x o h hs) hs
theorem zdp {S : Addr -> Prop} {H H' : Hp} {v : V} {x : Mx} (k : Keep S H H') (h : Lan.zbP H v x) : Lan.zbP H' v x:=let ⟨a,e,z⟩:=h; ⟨a,e,k _ _ z (.inr ⟨_,rfl⟩)⟩
theorem zef {S : Addr -> Prop} {H H' : Hp} {v : V} {x : Part} (k : Keep S H H') (h : zcf H v x) : zcf H' v x:=by
 cases x with
 | none=>exact h
 | some x=>exact zdp k h
theorem zcC {S : Addr -> Prop} {H H' : Hp} {xs : List V} {ms : List Mx} (k : Keep S H H') (h : Paired (Lan.zbP H) xs ms) : Paired (Lan.zbP H') xs ms:=Paired.mapP h fun _ _ z=>zdp k z
theorem zfu {S : Addr -> Prop} {H H' : Hp} {xs : List V} {ms : List Part} (k : Keep S H H') (h : Paired (zcf H) xs ms) : Paired (zcf H') xs ms:=Paired.mapP h fun _ _ z=>zef k z
theorem zbJ {S : Addr -> Prop} {H H' : Hp} {xs : List V} {rs : List Cs.Row} (k : Keep S H H') (h : Paired (Cs.zbp H) xs rs) : Paired (Cs.zbp H') xs rs:=Paired.mapP h fun _ _ ⟨a,e,z⟩=>⟨a,e,k _ _ z (.inr ⟨_,rfl⟩)⟩
theorem LnAt.keep {S : Addr -> Prop} {H H' : Hp} {a : Addr} {ms : List Mx} (k : Keep S H H') (hs : S a) (h : LnAt H a ms) : LnAt H' a ms:=let ⟨xs,e,z⟩:=h; ⟨xs,k _ _ e (.inl hs),zcC k z⟩
theorem zkN.keep {S : Addr -> Prop} {H H' : Hp} {a : Addr} {ms : List Part} (k : Keep S H H') (hs : S a) (h : zkN H a ms) : zkN H' a ms:=let ⟨xs,e,z⟩:=h; ⟨xs,k _ _ e (.inl hs),zfu k z⟩
theorem zbA {S : Addr -> Prop} {H H' : Hp} (k : Keep S H H') : ∀ {ls : List Addr} {ms : List (List Mx)},(∀ a ∈ ls,S a) -> Paired (LnAt H) ls ms -> Paired (LnAt H') ls ms
 | _,_,_,.nil=>.nil
 | _,_,hs,.cons r t=>.cons (r.keep k (hs _ List.mem_cons_self)) (zbA k (fun a ha=>hs a (List.mem_cons_of_mem _ ha)) t)
theorem zkC {H H' : Hp} {p : Addr} {ms' : List Mx} (k : Keep (fun b=>b ≠ p) H H') (hp : LnAt H' p ms') : ∀ {ls : List Addr} {ms : List (List Mx)} (i : Nat),Paired (LnAt H) ls ms -> ls.Nodup -> ls[i]? = some p -> Paired (LnAt H') ls (ms.set i ms')
 | _,_,_,.nil,_,h=>by simp at h
 | _,_,0,.cons r t,hn,h=>by
   have h : _ = p:=Option.some.inj h
   subst h
   obtain ⟨hn1,_⟩:=List.nodup_cons.mp hn
   exact .cons hp (zbA k (fun a ha e=>hn1 (e ▸ ha)) t)
 | _,_,i + 1,.cons r t,hn,h=>by
   obtain ⟨hn1,hn2⟩:=List.nodup_cons.mp hn
   exact .cons (r.keep k fun e=>hn1 (e ▸ List.mem_of_getElem? h)) (zkC k hp i t hn2 h)
structure Lists (c : Cf) (H : Hp) (A : Adr) (m : Ms) : Prop where
 rows : ∃ xs,H A.c = some (.lst xs) /\ Paired (Cs.zbp H) xs c.rs
 lan : H A.L = some (.lst (A.ls.map V.ref))
 lns : Paired (LnAt H) A.ls m.lanes
 lin : zkN H A.l m.line
 het : zkN H A.h m.heat
 bar : LnAt H A.b m.bar
 txt : H A.t = some (.lst (m.texts.map V.str))
theorem Lists.keep {S : Addr -> Prop} {c : Cf} {H H' : Hp} {A : Adr} {m : Ms} (h : Lists c H A m) (k : Keep S H H') (hs : ∀ a ∈ A.all,S a) : Lists c H' A m:=by
 unfold Adr.all at hs
 obtain ⟨xs,e1,e2⟩:=h.rows
 exact ⟨⟨xs,k _ _ e1 (.inl (hs _ (by simp))),zbJ k e2⟩,k _ _ h.lan (.inl (hs _ (by simp))),zbA k (fun a ha=>hs a (by simp [ha])) h.lns,h.lin.keep k (hs _ (by simp)),h.het.keep k (hs _ (by simp)),h.bar.keep k (hs _ (by simp)),k _ _ h.txt (.inl (hs _ (by simp)))⟩
theorem Lists.is {c : Cf} {H : Hp} {A : Adr} {m : Ms} (h : Lists c H A m) : ∀ a ∈ A.all,∃ xs,H a = some (.lst xs):=by
 intro a ha
 obtain ⟨xs,e1,_⟩:=h.rows
 obtain ⟨x2,e2,_⟩:=h.lin
 obtain ⟨x3,e3,_⟩:=h.het
 obtain ⟨x4,e4,_⟩:=h.bar
 unfold Adr.all at ha
 simp only [List.mem_cons] at ha
 rcases ha with rfl | rfl | rfl | rfl | rfl | rfl | ha
 ·exact ⟨_,h.lan⟩
 ·exact ⟨_,e1⟩
 ·exact ⟨_,e2⟩
 ·exact ⟨_,e3⟩
 ·exact ⟨_,e4⟩
 ·exact ⟨_,h.txt⟩
 ·obtain ⟨i,hi,e⟩:=List.getElem_of_mem ha
  obtain ⟨_,_,xs,ex,_⟩:=Cs.zbq h.lns (List.getElem?_eq_getElem hi)
  rw [e] at ex
  exact ⟨xs,ex⟩
def vals (c : Cf) (A : Adr) (m : Ms) : List (Option V):=[some (.ref A.L),some (.ref A.c),some (.str c.keys),some (.int (m.at_ : Int)),some (.int c.cast),some (.ref A.l),some (.ref A.h),some (.int m.togo),some (.ref A.b),some (.ref A.t),some (.int m.done),some (.int m.waits)]
structure Mac (C : Addr) (ns : List Str) (c : Cf) (H : Hp) (p : Addr) (A : Adr) (m : Ms) : Prop where
 ins : zcq C ns H p (vals c A m)
 nd : A.all.Nodup
 li : Lists c H A m
structure Step (p : Addr) (A : Adr) (H : Hp) (A' : Adr) (H' : Hp) : Prop where
 fr : ∀ b o,H b = some o -> ((b ≠ p /\ b ∉ A.all) \/ ∃ xs,o = .tup xs) -> H' b = some o
 nw : ∀ b ∈ A'.all,b ∈ A.all \/ H b = none
 al : ∀ b o,H b = some o -> ∃ o',H' b = some o'
theorem Step.of_same {p : Addr} {A : Adr} {H H' : Hp} (s : Same H H') : Step p A H A H':=⟨fun b o h _=>s b o h,fun b h=>.inl h,fun b o h=>⟨o,s b o h⟩⟩
theorem Step.trans {p : Addr} {A A1 A2 : Adr} {H H1 H2 : Hp} (a : Step p A H A1 H1) (b : Step p A1 H1 A2 H2) : Step p A H A2 H2:=by
 refine ⟨fun x o h hs=>?_,fun x hx=>?_,fun x o h=>?_⟩
 ·refine b.fr x o (a.fr x o h hs) (hs.imp (fun ⟨h1,h2⟩=>⟨h1,fun z=>?_⟩) id)
  rcases a.nw x z with z | z
  ·exact h2 z
  ·rw [h] at z
   cases z
 ·rcases b.nw x hx with z | z
  ·exact a.nw x z
  ·refine .inr ?_
   cases e : H x with
   | none=>rfl
   | some o =>
     obtain ⟨o',e'⟩:=a.al x o e
     rw [z] at e'
     cases e'
 ·obtain ⟨o1,h1⟩:=a.al x o h
  exact b.al x o1 h1
theorem Mac.pne {C : Addr} {ns : List Str} {c : Cf} {H : Hp} {p : Addr} {A : Adr} {m : Ms} (h : Mac C ns c H p A m) : ∀ a ∈ A.all,a ≠ p:=fun a ha=>by
 obtain ⟨xs,e⟩:=h.li.is a ha
 obtain ⟨dx,fs,e2,_⟩:=h.ins
 exact zcP e e2 fun z=>by cases z
theorem Mac.same {C : Addr} {ns : List Str} {c : Cf} {H H' : Hp} {p : Addr} {A : Adr} {m : Ms} (h : Mac C ns c H p A m) (s : Same H H') : Mac C ns c H' p A m:=⟨h.ins.same s,h.nd,h.li.keep (Keep.of_same (S:=fun _=>True) s) fun _ _=>trivial⟩
theorem Mac.apart {C C' : Addr} {ns : List Str} {c : Cf} {H H' : Hp} {p q : Addr} {A B B' : Adr} {m : Ms} (h : Mac C ns c H p A m) (s : Step q B H B' H') (hq : p ≠ q) (hB : p ∉ B.all) (hA : ∀ a ∈ A.all,a ≠ q /\ a ∉ B.all) : Mac C ns c H' p A m:=by
 obtain ⟨dx,fs,e,F⟩:=h.ins
 exact ⟨⟨dx,fs,s.fr _ _ e (.inl ⟨hq,hB⟩),F⟩,h.nd,h.li.keep (S:=fun b=>b ≠ q /\ b ∉ B.all) (fun b o hb hs=>s.fr b o hb hs) hA⟩
theorem Mac.fields {C : Addr} {ns : List Str} {c : Cf} {H H' : Hp} {p : Addr} {A' : Adr} {m' : Ms} {vs : List (Option V)} (h0 : zcq C ns H p vs) (h : zcq C ns H' p (vals c A' m')) (k : ∀ b,b ≠ p -> H' b = H b) (l : Lists c H A' m') (n : A'.all.Nodup) : Mac C ns c H' p A' m':=by
 obtain ⟨dx,fs,e,_⟩:=h0
 refine ⟨h,n,l.keep (Keep.fld e k) fun a ha=>?_⟩
 obtain ⟨xs,ex⟩:=l.is a ha
 exact zcP ex e fun z=>by cases z
theorem Step.lst {H : Hp} {p a : Addr} {A : Adr} {ys : List V} {o : HO} (ha : a ∈ A.all) (h : H a = some (.lst ys)) : Step p A H A (upd H a o):=by
 refine ⟨fun b u hb hs=>?_,fun b hb=>.inl hb,fun b u hb=>?_⟩
 ·exact Keep.lst h b u hb (hs.imp (fun z e=>z.2 (e ▸ ha)) id)
 ·by_cases e : b = a
  ·rw [e]
   exact ⟨_,upd_same⟩
  ·exact ⟨u,by rw [zah e]; exact hb⟩
theorem zfA {C : Addr} {ns : List Str} {H : Hp} {p a : Addr} {ys : List V} {o : HO} {vs : List (Option V)} (h : zcq C ns H p vs) (ha : H a = some (.lst ys)) : zcq C ns (upd H a o) p vs:=by
 obtain ⟨dx,fs,e,F⟩:=h
 exact ⟨dx,fs,by rw [zah (zcP e ha fun z=>by cases z)]; exact e,F⟩
structure Dis (A : Adr) : Prop where
 Lc : A.L ≠ A.c
 Ll : A.L ≠ A.l
 Lh : A.L ≠ A.h
 Lb : A.L ≠ A.b
 Lt : A.L ≠ A.t
 cl : A.c ≠ A.l
 ch : A.c ≠ A.h
 cb : A.c ≠ A.b
 ct : A.c ≠ A.t
 lh : A.l ≠ A.h
 lb : A.l ≠ A.b
 lt : A.l ≠ A.t
 hb : A.h ≠ A.b
 ht : A.h ≠ A.t
 bt : A.b ≠ A.t
 ls : ∀ q ∈ A.ls,q ≠ A.L /\ q ≠ A.c /\ q ≠ A.l /\ q ≠ A.h /\ q ≠ A.b /\ q ≠ A.t
 nd : A.ls.Nodup
theorem ziX {A : Adr} (h : A.all.Nodup) : Dis A:=by
 unfold Adr.all at h
 simp only [List.nodup_cons,List.mem_cons,not_or] at h
 obtain ⟨⟨a1,a2,a3,a4,a5,a6⟩,⟨b1,b2,b3,b4,b5⟩,⟨c1,c2,c3,c4⟩,⟨d1,d2,d3⟩,⟨e1,e2⟩,f1,n⟩:=h
 refine ⟨a1,a2,a3,a4,a5,b1,b2,b3,b4,c1,c2,c3,d1,d2,e1,fun q hq=>⟨?_,?_,?_,?_,?_,?_⟩,n⟩
 all_goals
  intro e
  rw [e] at hq
  contradiction
theorem Mac.setLane {C : Addr} {ns : List Str} {c : Cf} {H : Hp} {p q : Addr} {A : Adr} {m : Ms} {k : Nat} {ys xs : List V} {l : List Mx} (h : Mac C ns c H p A m) (hq : A.ls[k]? = some q) (hy : H q = some (.lst ys)) (hx : Paired (Lan.zbP H) xs l) :
 Mac C ns c (upd H q (.lst xs)) p A { m with lanes:=m.lanes.set k l }:=by
 have d:=ziX h.nd
 have kp : Keep (fun b=>b ≠ q) H (upd H q (.lst xs)):=Keep.lst hy
 obtain ⟨n1,n2,n3,n4,n5,n6⟩:=d.ls q (List.mem_of_getElem? hq)
 obtain ⟨zs,e1,e2⟩:=h.li.rows
 exact ⟨zfA h.ins hy,h.nd,⟨⟨zs,kp _ _ e1 (.inl n2.symm),zbJ kp e2⟩,kp _ _ h.li.lan (.inl n1.symm),zkC kp ⟨xs,upd_same,zcC kp hx⟩ k h.li.lns d.nd hq,h.li.lin.keep kp n3.symm,h.li.het.keep kp n4.symm,h.li.bar.keep kp n5.symm,kp _ _ h.li.txt (.inl n6.symm)⟩⟩
theorem Mac.setBar {C : Addr} {ns : List Str} {c : Cf} {H : Hp} {p : Addr} {A : Adr} {m : Ms} {ys xs : List V} {l : List Mx} (h : Mac C ns c H p A m) (hy : H A.b = some (.lst ys)) (hx : Paired (Lan.zbP H) xs l) :
 Mac C ns c (upd H A.b (.lst xs)) p A { m with bar:=l }:=by
 have d:=ziX h.nd
 have kp : Keep (fun b=>b ≠ A.b) H (upd H A.b (.lst xs)):=Keep.lst hy
 obtain ⟨zs,e1,e2⟩:=h.li.rows
 exact ⟨zfA h.ins hy,h.nd,⟨⟨zs,kp _ _ e1 (.inl d.cb),zbJ kp e2⟩,kp _ _ h.li.lan (.inl d.Lb),zbA kp (fun a ha=>(d.ls a ha).2.2.2.2.1) h.li.lns,h.li.lin.keep kp d.lb,h.li.het.keep kp d.hb,⟨xs,upd_same,zcC kp hx⟩,kp _ _ h.li.txt (.inl d.bt.symm)⟩⟩
theorem Mac.setTxt {C : Addr} {ns : List Str} {c : Cf} {H : Hp} {p : Addr} {A : Adr} {m : Ms} {ys : List V} {l : List Str} (h : Mac C ns c H p A m) (hy : H A.t = some (.lst ys)) :
 Mac C ns c (upd H A.t (.lst (l.map V.str))) p A { m with texts:=l }:=by
 have d:=ziX h.nd
 have kp : Keep (fun b=>b ≠ A.t) H (upd H A.t (.lst (l.map V.str))):=Keep.lst hy
 obtain ⟨zs,e1,e2⟩:=h.li.rows
 exact ⟨zfA h.ins hy,h.nd,⟨⟨zs,kp _ _ e1 (.inl d.ct),zbJ kp e2⟩,kp _ _ h.li.lan (.inl d.Lt),zbA kp (fun a ha=>(d.ls a ha).2.2.2.2.2) h.li.lns,h.li.lin.keep kp d.lt,h.li.het.keep kp d.ht,h.li.bar.keep kp d.bt,upd_same⟩⟩
theorem Mac.setLine {C : Addr} {ns : List Str} {c : Cf} {H : Hp} {p : Addr} {A : Adr} {m : Ms} {ys xs : List V} {l : List Part} (h : Mac C ns c H p A m) (hy : H A.l = some (.lst ys)) (hx : Paired (zcf H) xs l) :
 Mac C ns c (upd H A.l (.lst xs)) p A { m with line:=l }:=by
 have d:=ziX h.nd
 have kp : Keep (fun b=>b ≠ A.l) H (upd H A.l (.lst xs)):=Keep.lst hy
 obtain ⟨zs,e1,e2⟩:=h.li.rows
 exact ⟨zfA h.ins hy,h.nd,⟨⟨zs,kp _ _ e1 (.inl d.cl),zbJ kp e2⟩,kp _ _ h.li.lan (.inl d.Ll),zbA kp (fun a ha=>(d.ls a ha).2.2.1) h.li.lns,⟨xs,upd_same,zfu kp hx⟩,h.li.het.keep kp d.lh.symm,h.li.bar.keep kp d.lb.symm,kp _ _ h.li.txt (.inl d.lt.symm)⟩⟩
def mxD (m : Mx) : PyData:=.tuple [.str m.1,.int m.2]
def zdO : Part -> PyData
 | none=>.str " "
 | some x=>mxD x
theorem zjW {K : PySem.W.Frag} {H : Hp} {v : V} {x : Mx} (h : Lan.zbP H v x) (hl : PyData.canLay0 (.str x.1) = true) : Den K H v (mxD x):=by
 obtain ⟨t,rfl,e⟩:=h
 exact .tup (SqT.of e) (.cons (.str _ hl) (.cons (.int _) .nil))
theorem ziG {K : PySem.W.Frag} {H : Hp} {v : V} {p : Part} (h : zcf H v p) (hl : ∀ x,p = some x -> PyData.canLay0 (.str x.1) = true) : Den K H v (zdO p):=by
 cases p with
 | none =>
   have h : v = .str " ":=h
   rw [h]
   exact .str _ (by decide +kernel)
 | some x=>exact zjW h (hl x rfl)
theorem zgr {K : PySem.W.Frag} {H : Hp} : ∀ {xs : List V} {ms : List Mx},Paired (Lan.zbP H) xs ms -> (∀ m ∈ ms,PyData.canLay0 (.str m.1) = true) -> DenL K H xs (ms.map mxD)
 | _,_,.nil,_=>.nil
 | _,_,.cons h r,c=>.cons (zjW h (c _ List.mem_cons_self)) (zgr r fun x hx=>c x (List.mem_cons_of_mem _ hx))
theorem zfj {K : PySem.W.Frag} {H : Hp} : ∀ {xs : List V} {ms : List Part},Paired (zcf H) xs ms -> (∀ x,some x ∈ ms -> PyData.canLay0 (.str x.1) = true) -> DenL K H xs (ms.map zdO)
 | _,_,.nil,_=>.nil
 | _,_,.cons h r,c=>.cons (ziG h fun x e=>c x (by rw [e]; exact List.mem_cons_self)) (zfj r fun x hx=>c x (List.mem_cons_of_mem _ hx))
theorem LnAt.den {K : PySem.W.Frag} {H : Hp} {a : Addr} {ms : List Mx} (h : LnAt H a ms) (hl : ∀ m ∈ ms,PyData.canLay0 (.str m.1) = true) : Den K H (.ref a) (.list (ms.map mxD)):=let ⟨_,e,z⟩:=h; .lst (SqL.of e) (zgr z hl)
theorem zkN.den {K : PySem.W.Frag} {H : Hp} {a : Addr} {ms : List Part} (h : zkN H a ms) (hl : ∀ x,some x ∈ ms -> PyData.canLay0 (.str x.1) = true) : Den K H (.ref a) (.list (ms.map zdO)):=let ⟨_,e,z⟩:=h; .lst (SqL.of e) (zfj z hl)
theorem zbY {K : PySem.W.Frag} {H : Hp} {a : Addr} (h : H a = some (.lst [])) : Den K H (.ref a) (.list []):=.lst (SqL.of h) .nil
theorem zbZ {α : Type} (f : α -> PyData) (l : List α) : PyData.eqv (.list (l.map f)) (.list []) = l.isEmpty:=by
 cases l with
 | nil=>rfl
 | cons a r=>rfl
theorem zbW (d : PyData) : min d.depth (PyData.list []).depth <= 64:=by
 have : (PyData.list []).depth = 1:=rfl
 omega
end Mc
namespace Mc
open PySem L2
theorem zfe {c : Cf} {m : Ms} (h : Cs.place c.rs (keyS c m) = none) : zaL c m = false:=by
 unfold zaL
 rw [h]
theorem zjo {c : Cf} {m : Ms} {k : Nat} (h : Cs.place c.rs (keyS c m) = some k) : zaL c m = zby m.lanes k:=by
 unfold zaL
 rw [h]
theorem zjP {ls : List (List Mx)} {k : Nat} {l : List Mx} (h : ls[k]? = some l) : zby ls k = l.isEmpty:=by
 unfold zby
 rw [h]
theorem Mac.lane {C : Addr} {ns : List Str} {c : Cf} {H : Hp} {p : Addr} {A : Adr} {m : Ms} {k : Nat} (h : Mac C ns c H p A m) (O : Ok c m) (hk : k < c.rs.length) : ∃ q l,A.ls[k]? = some q /\ m.lanes[k]? = some l /\ LnAt H q l /\ atI (A.ls.map V.ref) (k : Int) = some (.ref q):=by
 have hl : k < m.lanes.length:=by rw [O.ln]; exact hk
 obtain ⟨q,hq,hln⟩:=Cs.zeD h.li.lns (List.getElem?_eq_getElem hl)
 exact ⟨q,_,hq,List.getElem?_eq_getElem hl,hln,zbi (by rw [List.getElem?_map,hq]; rfl)⟩
theorem Ok.llay {c : Cf} {m : Ms} {k : Nat} {l : List Mx} (O : Ok c m) (h : m.lanes[k]? = some l) : ∀ x ∈ l,PyData.canLay0 (.str x.1) = true:=fun x hx=>(O.lm l (List.mem_of_getElem? h) x hx).1
theorem Ok.hlay {c : Cf} {m : Ms} (O : Ok c m) : ∀ x,some x ∈ m.heat -> PyData.canLay0 (.str x.1) = true:=fun x hx=>(O.hm x hx).1
theorem Ok.ilay {c : Cf} {m : Ms} (O : Ok c m) : ∀ x,some x ∈ m.line -> PyData.canLay0 (.str x.1) = true:=fun x hx=>(O.im x hx).1
theorem Ok.blay {c : Cf} {m : Ms} (O : Ok c m) : ∀ x ∈ m.bar,PyData.canLay0 (.str x.1) = true:=fun x hx=>(O.bm x hx).1
theorem Step.flds {H H' : Hp} {p C : Addr} {ns : List Str} {A : Adr} {vs vs' : List (Option V)} (h : zcq C ns H p vs) (h' : zcq C ns H' p vs') (k : ∀ b,b ≠ p -> H' b = H b) : Step p A H A H':=by
 obtain ⟨dx,fs,e,_⟩:=h
 obtain ⟨dx',fs',e',_⟩:=h'
 refine ⟨fun b o hb hs=>?_,fun b hb=>.inl hb,fun b o hb=>?_⟩
 ·rcases hs with ⟨hs,_⟩ | ⟨xs,z⟩
  ·rw [k b hs]
   exact hb
  ·subst z
   rw [k b (zcP hb e fun z=>by cases z)]
   exact hb
 ·by_cases z : b = p
  ·rw [z]
   exact ⟨_,e'⟩
  ·exact ⟨o,by rw [k b z]; exact hb⟩
theorem Mac.setF {C : Addr} {ns : List Str} {c : Cf} {H H' : Hp} {p : Addr} {A : Adr} {m m' : Ms} (h : Mac C ns c H p A m) (i : zcq C ns H' p (vals c A m')) (k : ∀ b,b ≠ p -> H' b = H b)
 (e1 : m'.lanes = m.lanes) (e2 : m'.line = m.line) (e3 : m'.heat = m.heat) (e4 : m'.bar = m.bar) (e5 : m'.texts = m.texts) : Mac C ns c H' p A m':=by
 refine Mac.fields h.ins i k ⟨h.li.rows,h.li.lan,?_,?_,?_,?_,?_⟩ h.nd
 ·rw [e1]; exact h.li.lns
 ·rw [e2]; exact h.li.lin
 ·rw [e3]; exact h.li.het
 ·rw [e4]; exact h.li.bar
 ·rw [e5]; exact h.li.txt
theorem zhg {H : Hp} {xs : List V} {ps : List Part} {i : Nat} {x : V} (h : Paired (zcf H) xs ps) (hx : xs[i]? = some x) : ∃ p,ps[i]? = some p /\ zcf H x p:=Cs.zbq h hx
theorem zgp {ps : List Part} {i : Nat} {p : Part} (h : ps[i]? = some p) : mats (ps.take (i + 1)) = mats (ps.take i) ++ p.toList:=by
 unfold mats
 rw [List.take_add_one,h,List.filterMap_append]
 cases p <;> rfl
theorem nd_h {A : Adr} {e : Addr} (n : A.all.Nodup) (h : e ∉ A.all) : ({ A with h:=e } : Adr).all.Nodup:=by
 unfold Adr.all at n h ⊢
 simp only [List.nodup_cons,List.mem_cons,not_or] at n h ⊢
 obtain ⟨⟨a1,a2,a3,a4,a5,a6⟩,⟨b1,b2,b3,b4,b5⟩,⟨c1,c2,c3,c4⟩,⟨d1,d2,d3⟩,⟨e1,e2⟩,f1,n⟩:=n
 obtain ⟨h1,h2,h3,h4,h5,h6,h7⟩:=h
 exact ⟨⟨a1,a2,Ne.symm h1,a4,a5,a6⟩,⟨b1,Ne.symm h2,b3,b4,b5⟩,⟨Ne.symm h3,c2,c3,c4⟩,⟨h5,h6,h7⟩,⟨e1,e2⟩,f1,n⟩
theorem nd_s {A : Adr} {e : Addr} (n : A.all.Nodup) (h : e ∉ A.all) : ({ A with h:=A.l,l:=e } : Adr).all.Nodup:=by
 unfold Adr.all at n h ⊢
 simp only [List.nodup_cons,List.mem_cons,not_or] at n h ⊢
 obtain ⟨⟨a1,a2,a3,a4,a5,a6⟩,⟨b1,b2,b3,b4,b5⟩,⟨c1,c2,c3,c4⟩,⟨d1,d2,d3⟩,⟨e1,e2⟩,f1,n⟩:=n
 obtain ⟨h1,h2,h3,h4,h5,h6,h7⟩:=h
 exact ⟨⟨a1,Ne.symm h1,a2,a4,a5,a6⟩,⟨Ne.symm h2,b1,b3,b4,b5⟩,⟨h3,h5,h6,h7⟩,⟨c2,c3,c4⟩,⟨e1,e2⟩,f1,n⟩
theorem Mac.new {C : Addr} {ns : List Str} {c : Cf} {H : Hp} {p : Addr} {A : Adr} {m : Ms} {e : Addr} (h : Mac C ns c H p A m) (he : H e = none) : e ∉ A.all:=fun z=>by
 obtain ⟨xs,ex⟩:=h.li.is e z
 rw [he] at ex
 cases ex
theorem zjO {c : Cf} {l : List Part} (h : ∀ x,some x ∈ l -> OkM c x) (hl : l.length <= 100000) : ((l.map zbb).map (·.length)).sum + (l.map zbb).length * (Str.ofString "").length <= 16777216:=by
 have h1:=Lns.zed (fun x : Str=>x.length) 1 100000 (l.map zbb) (fun x hx=>by
  obtain ⟨p,hp,rfl⟩:=List.mem_map.mp hx
  cases p with
  | none=>exact Nat.le_refl 1
  | some x=>exact (h x hp).2.1) (by rw [List.length_map]; exact hl)
 have e : (Str.ofString "").length = 0:=by decide
 rw [e,Nat.mul_zero]
 have h1 : ((l.map zbb).map (·.length)).sum <= 100000 * 1:=h1
 omega
theorem zmk : PyData.eqv (.str " ") (.str " ") = true:=by decide +kernel
theorem Step.free {p : Addr} {A A' : Adr} {H H' : Hp} {b : Addr} (s : Step p A H A' H') (h : H' b = none) : H b = none:=by
 cases e : H b with
 | none=>rfl
 | some o =>
   obtain ⟨o',e'⟩:=s.al b o e
   rw [h] at e'
   cases e'
theorem Step.to {p : Addr} {A A1 A' : Adr} {H H' : Hp} (s : Step p A H A1 H') (h : ∀ b ∈ A'.all,b ∈ A1.all \/ H b = none) : Step p A H A' H':=⟨s.fr,fun b hb=>(h b hb).elim (s.nw b) .inr,s.al⟩
theorem zve {A : Adr} {e : Addr} {H : Hp} (he : H e = none) : ∀ b ∈ ({ A with h:=e } : Adr).all,b ∈ A.all \/ H b = none:=by
 intro b hb
 unfold Adr.all at hb ⊢
 simp only [List.mem_cons] at hb ⊢
 rcases hb with rfl | rfl | rfl | rfl | rfl | rfl | hb
 ·exact .inl (.inl rfl)
 ·exact .inl (.inr (.inl rfl))
 ·exact .inl (.inr (.inr (.inl rfl)))
 ·exact .inr he
 ·exact .inl (.inr (.inr (.inr (.inr (.inl rfl)))))
 ·exact .inl (.inr (.inr (.inr (.inr (.inr (.inl rfl))))))
 ·exact .inl (.inr (.inr (.inr (.inr (.inr (.inr hb))))))
theorem zuz {A : Adr} {e : Addr} {H : Hp} (he : H e = none) : ∀ b ∈ ({ A with h:=A.l,l:=e } : Adr).all,b ∈ A.all \/ H b = none:=by
 intro b hb
 unfold Adr.all at hb ⊢
 simp only [List.mem_cons] at hb ⊢
 rcases hb with rfl | rfl | rfl | rfl | rfl | rfl | hb
 ·exact .inl (.inl rfl)
 ·exact .inl (.inr (.inl rfl))
 ·exact .inr he
 ·exact .inl (.inr (.inr (.inl rfl)))
 ·exact .inl (.inr (.inr (.inr (.inr (.inl rfl)))))
 ·exact .inl (.inr (.inr (.inr (.inr (.inr (.inl rfl))))))
 ·exact .inl (.inr (.inr (.inr (.inr (.inr (.inr hb))))))
theorem sgD {c d : Nat} : decide (V.str (sg c) = V.str (sg d)) = decide (c = d):=by
 rw [Cs.strV,decide_eq_decide]
 refine ⟨fun h=>?_,fun h=>by rw [h]⟩
 have h : (#[c] : Array Nat) = #[d]:=congrArg Str.cps h
 simpa using h
theorem zlv {c : Cf} {m : Ms} {k : Nat} (h : key c m = some k) : keyS c m = sg k:=by
 unfold keyS
 rw [h]
theorem zlE {c : Cf} {m : Ms} (h : key c m = none) : keyS c m = "":=by
 unfold keyS
 rw [h]
def zbf (rs : List Cs.Row) : List (List Mx):=rs.map fun r=>List.replicate r.n.toNat (r.s,r.t)
def start (rs : List Cs.Row) : Ms:=⟨zbf rs,[],[],0,[],[],0,0,0⟩
theorem zju {H0 H : Hp} {no : Addr} {zs : List V} {ms : List (List Mx)} (h : Paired (Lan.zeE H0 no H) zs ms) (hn : zs.Nodup) : ∃ ls : List Addr,zs = ls.map V.ref /\ Paired (LnAt H) ls ms /\ (no :: ls).Nodup /\ ∀ z ∈ ls,H0 z = none:=by
 induction h with
 | nil=>exact ⟨[],rfl,.nil,by simp,fun z hz=>nomatch hz⟩
 | cons x t ih =>
   obtain ⟨p,xs,e,n,f,z,m⟩:=x
   obtain ⟨hn1,hn2⟩:=List.nodup_cons.mp hn
   obtain ⟨ls,e2,h2,h3,h4⟩:=ih hn2
   obtain ⟨h31,h32⟩:=List.nodup_cons.mp h3
   refine ⟨p :: ls,by rw [e,e2]; rfl,.cons ⟨xs,z,m⟩ h2,?_,fun y hy=>?_⟩
   ·rw [List.nodup_cons,List.nodup_cons]
    refine ⟨fun hz=>?_,fun hz=>?_,h32⟩
    ·rcases List.mem_cons.mp hz with hz | hz
     ·exact n hz.symm
     ·exact h31 hz
    ·rw [e,e2] at hn1
     exact hn1 (List.mem_map_of_mem hz)
   ·rcases List.mem_cons.mp hy with hy | hy
    ·rw [hy]; exact f
    ·exact h4 y hy
def Off (p : Addr) (H H' : Hp) : Prop:=∀ b o,b ≠ p -> H b = some o -> H' b = some o
theorem Off.of_same {p : Addr} {H H' : Hp} (s : Same H H') : Off p H H':=fun b o _ h=>s b o h
theorem Off.of_fld {p : Addr} {H H' : Hp} (k : ∀ b,b ≠ p -> H' b = H b) : Off p H H':=fun b o hb h=>(k b hb).trans h
theorem Off.trans {p : Addr} {H H1 H2 : Hp} (a : Off p H H1) (b : Off p H1 H2) : Off p H H2:=fun x o hx h=>b x o hx (a x o hx h)
theorem Off.free {p C : Addr} {ns : List Str} {vs : List (Option V)} {H H' : Hp} {b : Addr} (o : Off p H H') (i : zcq C ns H' p vs) (h : H' b = none) : H b = none:=by
 cases e : H b with
 | none=>rfl
 | some x =>
   have hb : b ≠ p:=fun z=>by
    obtain ⟨dx,fs,e',_⟩:=i
    rw [z,e'] at h
    cases h
   rw [o b x hb e] at h
   cases h
theorem Off.keep {p C : Addr} {ns : List Str} {vs : List (Option V)} {H H' : Hp} (i : zcq C ns H p vs) (o : Off p H H') : Keep (fun b=>b ≠ p) H H':=fun b u hb hs=>by
 obtain ⟨dx,fs,e,_⟩:=i
 rcases hs with hs | ⟨xs,z⟩
 ·exact o b u hs hb
 ·subst z
  exact o b _ (zcP hb e fun z=>by cases z) hb
theorem zlf {p C q : Addr} {ns : List Str} {vs : List (Option V)} {H : Hp} {xs : List V} (i : zcq C ns H p vs) (h : H q = some (.lst xs)) : q ≠ p:=by
 obtain ⟨dx,fs,e,_⟩:=i
 exact zcP h e fun z=>by cases z
theorem zdw {p C q : Addr} {ns : List Str} {vs : List (Option V)} {H : Hp} (i : zcq C ns H p vs) (h : H q = none) : q ≠ p:=fun e=>by
 obtain ⟨dx,fs,e',_⟩:=i
 rw [e,e'] at h
 cases h
def Wd (rs : List Cs.Row) (m : Nat) (x : Str) : Prop:=1 <= x.length /\ x.length <= m /\ ∀ c ∈ x.cps.toList,c ∈ Cs.signs /\ (Cs.place rs (sg c)).isSome = true
theorem zaH : ∀ c ∈ Cs.signs,Lns.isS c = true /\ c < 0x110000 /\ c ≠ 47 /\ c ≠ 32:=by decide +kernel
theorem Wd.settable {rs : List Cs.Row} {m : Nat} {x : Str} (h : Wd rs m x) : Lns.zbU rs x:=⟨h.1,fun c hc=>⟨(zaH c (h.2.2 c hc).1).1,(h.2.2 c hc).2⟩⟩
theorem Wd.lay {rs : List Cs.Row} {m : Nat} {x : Str} (h : Wd rs m x) : PyData.canLay0 (.str x) = true:=by
 show (x.cps.all fun c=>decide (c < 0x110000)) = true
 rw [<- Array.all_toList,List.all_eq_true]
 exact fun c hc=>decide_eq_true (zaH c (h.2.2 c hc).1).2.1
structure Lines (rs : List Cs.Row) (ls : List (List Str)) : Prop where
 few : ls.length <= 64
 one : ∀ l ∈ ls,l ≠ [] /\ l.length <= 63 /\ ∀ x ∈ l,Wd rs 5 x
theorem Lines.fit {rs : List Cs.Row} {ls : List (List Str)} (h : Lines rs ls) : Lns.Fit ls:=by
 have hf:=h.few
 refine ⟨by omega,fun l hl=>?_⟩
 obtain ⟨_,h2,h3⟩:=h.one l hl
 exact ⟨by omega,fun x hx=>by have:=(h3 x hx).2.1; omega⟩
theorem Lines.ok {rs : List Cs.Row} {ls : List (List Str)} (h : Lines rs ls) : ∀ l ∈ ls,l ≠ [] /\ ∀ x ∈ l,Lns.zbU rs x:=fun l hl=>⟨(h.one l hl).1,fun x hx=>((h.one l hl).2.2 x hx).settable⟩
structure Sep (p : Addr) (A : Adr) (q : Addr) (B : Adr) : Prop where
 pq : p ≠ q
 pB : p ∉ B.all
 qA : q ∉ A.all
 AB : ∀ a ∈ A.all,a ∉ B.all
theorem Sep.symm {p q : Addr} {A B : Adr} (h : Sep p A q B) : Sep q B p A:=⟨h.pq.symm,h.qA,h.pB,fun a ha hb=>h.AB a hb ha⟩
theorem Mac.has {C : Addr} {ns : List Str} {c : Cf} {H : Hp} {p : Addr} {A : Adr} {m : Ms} (h : Mac C ns c H p A m) : (∃ o,H p = some o) /\ ∀ a ∈ A.all,∃ o,H a = some o:=by
 refine ⟨?_,fun a ha=>?_⟩
 ·obtain ⟨dx,fs,e,_⟩:=h.ins
  exact ⟨_,e⟩
 ·obtain ⟨xs,e⟩:=h.li.is a ha
  exact ⟨_,e⟩
theorem Sep.step {C : Addr} {ns : List Str} {c : Cf} {H H' : Hp} {p q : Addr} {A A' B : Adr} {m : Ms} (h : Sep p A q B) (s : Step p A H A' H') (M : Mac C ns c H q B m) : Sep p A' q B:=by
 obtain ⟨⟨oq,hq⟩,hB⟩:=M.has
 refine ⟨h.pq,h.pB,fun z=>?_,fun a ha hb=>?_⟩
 ·rcases s.nw q z with z | z
  ·exact h.qA z
  ·rw [hq] at z
   cases z
 ·rcases s.nw a ha with z | z
  ·exact h.AB a z hb
  ·obtain ⟨o,e⟩:=hB a hb
   rw [e] at z
   cases z
theorem Mac.other {C : Addr} {ns : List Str} {c : Cf} {H H' : Hp} {p q : Addr} {A A' B : Adr} {m : Ms} (M : Mac C ns c H q B m) (h : Sep p A q B) (s : Step p A H A' H') : Mac C ns c H' q B m :=
 M.apart (C':=C) s h.pq.symm h.qA fun a ha=>⟨fun e=>h.pB (e ▸ ha),fun z=>h.AB a z ha⟩
theorem zkE (c : Cf) (m : Ms) : (send c m).done = m.done:=by
 unfold send
 split <;> rfl
theorem zkz (m : Ms) (k : Nat) : (pick m k).done = m.done:=by
 unfold pick
 split <;> rfl
theorem zil (c : Cf) (m : Ms) : (strike c m).done = m.done:=by
 unfold strike
 split
 ·rfl
 ·split
  ·exact zkE c m
  ·split
   ·rfl
   ·split
    ·rfl
    ·split
     ·exact zkz _ _
     ·rfl
theorem zkT (c : Cf) (m : Ms) : (tick c m).done = m.done + 1:=by
 show (strike c (cool (fall c m))).done + 1 = _
 rw [zil,(ziZ (fall c m)).2.2.2.1,(zix c m).2.2.2.2.2.1]
structure Rows (rs : List Cs.Row) : Prop where
 few : rs.length <= 30
 sg : ∀ r ∈ rs,∃ c ∈ Cs.signs,r.s = L2.sg c
 th : ∀ r ∈ rs,0 <= r.t /\ r.t < 128
 mn : ∀ r ∈ rs,0 <= r.n /\ r.n <= 40
theorem Rows.none {rs : List Cs.Row} (R : Rows rs) {x : Str} (h : ∀ c ∈ Cs.signs,L2.sg c ≠ x) : Cs.place rs x = Option.none:=Cs.zfg fun j r _ hr=>by
 obtain ⟨c,hc,e⟩:=R.sg r (List.mem_of_getElem? hr)
 rw [e]
 exact h c hc
theorem zia {c d : Nat} (h : L2.sg c = L2.sg d) : c = d:=by
 have h : (#[c] : Array Nat) = #[d]:=congrArg Str.cps h
 simpa using h
theorem Rows.sign {rs : List Cs.Row} (R : Rows rs) {k : Nat} (h : (Cs.place rs (L2.sg k)).isSome = true) : k ∈ Cs.signs:=by
 obtain ⟨j,hj⟩:=Option.isSome_iff_exists.mp h
 obtain ⟨r,hr,e⟩:=Cs.zdl hj
 obtain ⟨c,hc,e2⟩:=R.sg r (List.mem_of_getElem? hr)
 rw [e] at e2
 rw [zia e2]
 exact hc
theorem Rows.okC {rs : List Cs.Row} (R : Rows rs) {ls : List (List Str)} {z : Int} (hk : (Lns.keyT ls).length <= 90000) (hs : ∀ l ∈ ls,l ≠ [] /\ ∀ x ∈ l,Lns.zbU rs x) (hz : 1 <= z) : OkC ⟨rs,Lns.keyT ls,z⟩:=by
 have ok : Lns.zbs rs false (Lns.keyT ls).cps.toList = true:=Lns.zhC hs
 have kn : ∀ k ∈ (Lns.keyT ls).cps.toList,k = 47 \/ k = 32 \/ ((Cs.place rs (L2.sg k)).isSome = true /\ k ≠ 47 /\ k ≠ 32):=fun k hk=>by
  obtain ⟨i,hi,e⟩:=List.getElem_of_mem hk
  have h:=Lns.zlz ok i k (by rw [List.getElem?_eq_getElem hi,e])
  by_cases h1 : k = 47
  ·exact .inl h1
  by_cases h2 : k = 32
  ·exact .inr (.inl h2)
  have hs : Lns.isS k = true:=by
   unfold Lns.isS
   rw [decide_eq_false h1,decide_eq_false h2]
   rfl
  rw [if_pos hs] at h
  exact .inr (.inr ⟨h,h1,h2⟩)
 refine ⟨R.few,hk,kn,?_,⟨R.none fun c hc e=>?_,R.none fun c hc e=>?_,R.none fun c hc e=>?_⟩,hz,R.th,?_⟩
 ·by_cases e : ls = []
  ·rw [e]
   exact .inl rfl
  ·exact .inr (Lns.zfJ ls e)
 ·exact (zaH c hc).2.2.1 (zia e)
 ·exact (zaH c hc).2.2.2 (zia e)
 ·cases e
 ·show ((Lns.keyT ls).cps.all fun c=>decide (c < 0x110000)) = true
  rw [<- Array.all_toList,List.all_eq_true]
  intro k hk
  refine decide_eq_true ?_
  rcases kn k hk with h | h | ⟨h,_,_⟩
  ·omega
  ·omega
  ·exact (zaH k (R.sign h)).2.1
theorem zgW {cs : List Int} {t : Int} (h : t ∈ cs) : ∃ k,Mt.zbO cs t = some k /\ k < cs.length:=by
 cases e : Mt.zbO cs t with
 | none =>
   unfold Mt.zbO at e
   rw [List.findIdx?_eq_none_iff] at e
   have:=e t h
   rw [Mt.zml] at this
   cases this
 | some k =>
   refine ⟨k,rfl,?_⟩
   unfold Mt.zbO at e
   obtain ⟨hi,_⟩:=List.findIdx?_eq_some_iff_getElem.mp e
   exact hi
theorem Rows.okM {rs : List Cs.Row} (R : Rows rs) {c : Cf} (hc : c.rs = rs) {r : Cs.Row} (h : r ∈ rs) : OkM c (r.s,r.t):=by
 obtain ⟨d,hd,e⟩:=R.sg r h
 obtain ⟨h1,h2⟩:=R.th r h
 obtain ⟨k,hk,hkl⟩:=zgW (cs:=c.rs.map fun r=>r.t) (t:=r.t) (by rw [hc]; exact List.mem_map_of_mem h)
 refine ⟨?_,?_,h1,h2,k,hk,by rw [List.length_map] at hkl; exact hkl⟩
 ·show PyData.canLay0 (.str r.s) = true
  rw [e]
  exact Cs.zgt d hd
 ·show r.s.length <= 1
  rw [e]
  exact Nat.le_refl _
theorem zjg {rs : List Cs.Row} (h : ∀ r ∈ rs,0 <= r.n /\ r.n <= 40) : ((zbf rs).map List.length).sum <= rs.length * 40:=by
 unfold zbf
 rw [List.map_map]
 refine Lns.ziW (List.length ∘ fun r : Cs.Row=>List.replicate r.n.toNat (r.s,r.t)) 40 rs fun r hr=>?_
 show (List.replicate r.n.toNat (r.s,r.t)).length <= 40
 rw [List.length_replicate]
 have:=h r hr
 omega
theorem Rows.ok {rs : List Cs.Row} (R : Rows rs) {c : Cf} (hc : c.rs = rs) (O : OkC c) : Ok c (start rs):=by
 have hf:=R.few
 refine ⟨O,?_,fun l hl x hx=>?_,(fun x hx=>nomatch hx),(fun x hx=>nomatch hx),(fun x hx=>nomatch hx),Nat.zero_le _,fun _=>rfl,?_,Nat.le_refl _,(fun x hx=>nomatch hx),fun z=>absurd rfl z⟩
 ·show (zbf rs).length = c.rs.length
  unfold zbf
  rw [List.length_map,hc]
 ·obtain ⟨r,hr,rfl⟩:=List.mem_map.mp hl
  rw [List.eq_of_mem_replicate hx]
  exact R.okM hc hr
 ·have h:=zjg R.mn
  show ((zbf rs).map List.length).sum + 0 + 0 + 0 <= 2000 + 0
  omega
theorem ziq {rs : List Cs.Row} {l : List Str} {n : Nat} (h1 : l.length <= n) (h2 : ∀ x ∈ l,Wd rs 5 x) : (Lns.zbh l).length <= n * 6:=by
 have a:=Lns.zed (fun x : Str=>x.length) 5 n l (fun x hx=>(h2 x hx).2.1) h1
 have a : (l.map (·.length)).sum <= n * 5:=a
 have b:=StrLaws.join_length_le " " l
 have e : (Str.ofString " ").length = 1:=by decide
 unfold Lns.zbh Txt.join
 rw [StrLaws.glued_eq_join]
 have b : (Str.join " " l).length <= (l.map (·.length)).sum + l.length * (Str.ofString " ").length:=b
 rw [e] at b
 omega
theorem zgj {rs : List Cs.Row} {n : Nat} : ∀ {ls : List (List Str)},(∀ l ∈ ls,l.length <= n /\ ∀ x ∈ l,Wd rs 5 x) -> (Lns.keyT ls).length <= ls.length * (n * 6 + 1)
 | [],_=>Nat.le_trans (Nat.le_of_eq (show (Str.ofString "").length = 0 by decide)) (Nat.zero_le _)
 | l :: r,h=>by
   obtain ⟨h1,h2⟩:=h l List.mem_cons_self
   have a:=ziq h1 h2
   have b:=zgj fun l hl=>h l (List.mem_cons_of_mem _ hl)
   show (Lns.zbh l ++ "/" ++ Lns.keyT r).length <= _
   rw [Str.length_append,Str.length_append,List.length_cons,Nat.succ_mul]
   have e : ("/" : Str).length = 1:=by decide
   omega
theorem Lines.short {rs : List Cs.Row} {ls : List (List Str)} (h : Lines rs ls) : (Lns.keyT ls).length <= 90000:=by
 have a:=zgj (n:=63) fun l hl=>(h.one l hl).2
 have b:=h.few
 have c : ls.length * (63 * 6 + 1) <= 64 * (63 * 6 + 1):=Nat.mul_le_mul_right _ b
 omega
theorem Step.list {C : Addr} {ns : List Str} {c : Cf} {H H' : Hp} {p X : Addr} {A A' : Adr} {m : Ms} {ys : List V} (s : Step p A H A' H') (M : Mac C ns c H p A m) (h : H X = some (.lst ys)) (n : X ∉ A.all) : H' X = some (.lst ys) /\ X ∉ A'.all:=by
 refine ⟨s.fr X _ h (.inl ⟨zlf M.ins h,n⟩),fun z=>?_⟩
 rcases s.nw X z with z | z
 ·exact n z
 ·rw [h] at z
  cases z
theorem zlm {C dx p : Addr} {H H' : Hp} (hp : H p = none) (hd : H dx = none) (o : Off p (upd (upd H dx (.own p)) p (.ins C dx [])) H') : Same H H':=fun b u hb=>by
 have n1:=zan hb hp
 exact o b u n1 (by rw [zah n1,zah (zan hb hd)]; exact hb)
theorem zlU {C dx p b : Addr} {H : Hp} (hp : H p = none) (hd : H dx = none) (h : upd (upd H dx (.own p)) p (.ins C dx []) b = none) : H b = none:=by
 cases e : H b with
 | none=>rfl
 | some u =>
   rw [zah (zan e hp),zah (zan e hd),e] at h
   cases h
theorem ix0 (v : V) (vs : List V) : seqIndex? 0 (v :: vs).length = some 0:=by
 have h : decide ((0 : Int) < ((v :: vs).length : Int)) = true:=decide_eq_true (by rw [List.length_cons]; omega)
 show (if (decide ((0 : Int) <= 0) && decide ((0 : Int) < ((v :: vs).length : Int))) = true then some (Int.toNat 0) else none) = some 0
 rw [h]
 rfl
end Mc
namespace Mc
open PySem L2
structure Rt (c : Cf) : Prop where
 fl : ∀ (j : Nat) r,c.rs[j]? = some r -> Mt.zbO (c.rs.map fun r=>r.t) r.t = some j
 pl : ∀ (j : Nat) r,c.rs[j]? = some r -> Cs.place c.rs r.s = some j
 sg : ∀ r ∈ c.rs,∃ k ∈ Cs.signs,r.s = L2.sg k
 gd : Lns.zbs c.rs false c.keys.cps.toList = true
def out (m : Ms) (x : Mx) : Nat:=(mats m.line).count x + (mats m.heat).count x + m.bar.count x
def flat (ts : List (List Nat)) : List Nat:=ts.flatMap fun t=>t ++ [47]
def cps (t : Str) : List Nat:=t.cps.toList
def hot (m : Ms) : List Nat:=if m.heat.isEmpty = true then [] else cps (zaP m.heat) ++ [47]
def Own (c : Cf) (x : Mx) : Prop:=∃ (j : Nat) (r : Cs.Row),c.rs[j]? = some r /\ x = (r.s,r.t)
structure Gd (c : Cf) (m : Ms) : Prop where
 ow : ∀ (j : Nat) l,m.lanes[j]? = some l -> ∃ r,c.rs[j]? = some r /\ ∀ x ∈ l,x = (r.s,r.t)
 il : ∀ x ∈ mats m.line,Own c x
 ih : ∀ x ∈ mats m.heat,Own c x
 ib : ∀ x ∈ m.bar,Own c x
 ct : ∀ (j : Nat) r l,c.rs[j]? = some r -> m.lanes[j]? = some l -> l.length + out m (r.s,r.t) = r.n.toNat
 tx : flat (m.texts.map cps) ++ hot m ++ cps (zaP m.line) = c.keys.cps.toList.take m.at_
 lm : ∀ t ∈ m.texts,∀ r ∈ c.rs,∀ k,r.s = L2.sg k -> (cps t).count k <= r.n.toNat
 pn : ∀ t ∈ m.texts,47 ∉ cps t
theorem zdS (l : List Part) : cps (zaP l) = l.flatMap fun p=>cps (zbb p):=by
 unfold zaP
 induction l with
 | nil=>rfl
 | cons p r ih =>
   have e : Txt.join "" ((p :: r).map zbb) = zbb p ++ Txt.join "" (r.map zbb):=zff _ _
   rw [e]
   show (zbb p ++ Txt.join "" (r.map zbb)).cps.toList = _
   have e2 : (zbb p ++ Txt.join "" (r.map zbb)).cps.toList = (zbb p).cps.toList ++ (Txt.join "" (r.map zbb)).cps.toList:=Array.toList_append
   rw [e2,List.flatMap_cons]
   show _ ++ cps (Txt.join "" (r.map zbb)) = _
   rw [ih]
   rfl
theorem ziB (l : List Part) (p : Part) : cps (zaP (l ++ [p])) = cps (zaP l) ++ cps (zbb p):=by
 rw [zdS,zdS,List.flatMap_append]
 simp
theorem zmJ (k : Nat) : cps (L2.sg k) = [k]:=rfl
theorem znd {c : Cf} (R : Rt c) {r r' : Cs.Row} {j j' : Nat} (h : c.rs[j]? = some r) (h' : c.rs[j']? = some r') (e : r'.s = r.s) : r' = r:=by
 have h1:=R.pl j r h
 have h2:=R.pl j' r' h'
 rw [e,h1] at h2
 cases h2
 rw [h] at h'
 exact (Option.some.inj h').symm
theorem zey (p : Part) (l : List Part) : mats (p :: l) = p.toList ++ mats l:=by
 unfold mats
 cases p <;> rfl
theorem zds {c : Cf} (R : Rt c) {r : Cs.Row} {j k : Nat} (h : c.rs[j]? = some r) (hk : r.s = L2.sg k) : ∀ {l : List Part},(∀ x ∈ mats l,Own c x) -> (cps (zaP l)).count k = (mats l).count (r.s,r.t)
 | [],_=>rfl
 | p :: l,hl=>by
   have ih:=zds R h hk (l:=l) fun x hx=>hl x (by rw [zey]; exact List.mem_append_right _ hx)
   rw [zdS] at ih ⊢
   rw [List.flatMap_cons,List.count_append,ih,zey,List.count_append]
   congr 1
   obtain ⟨d,hd,ed⟩:=R.sg r (List.mem_of_getElem? h)
   have ekd : k = d:=zia (hk.symm.trans ed)
   have hkp:=zaH d hd
   cases p with
   | none =>
     show List.count k [32] = 0
     rw [List.count_eq_zero]
     intro z
     rw [List.mem_singleton] at z
     exact hkp.2.2.2 (ekd ▸ z)
   | some x =>
     obtain ⟨j',r',h',e⟩:=hl x (by rw [zey]; exact List.mem_append_left _ (by simp))
     subst e
     obtain ⟨d',_,e'⟩:=R.sg r' (List.mem_of_getElem? h')
     show List.count k (cps r'.s) = List.count (r.s,r.t) [(r'.s,r'.t)]
     rw [e',zmJ]
     by_cases ek : k = d'
     ·have es : r'.s = r.s:=by rw [e',hk,ek]
      have er:=znd R h h' es
      rw [<- e',er,ek]
      simp
     ·have hne : ¬ (L2.sg d',r'.t) = (r.s,r.t):=fun z=>by
       have z1:=congrArg Prod.fst z
       rw [hk] at z1
       exact ek (zia z1).symm
      rw [List.count_eq_zero.mpr (fun z=>ek (List.mem_singleton.mp z)),List.count_eq_zero.mpr (fun z=>hne (List.mem_singleton.mp z).symm)]
theorem zmr {c : Cf} (R : Rt c) {l : List Part} (h : ∀ x ∈ mats l,Own c x) : 47 ∉ cps (zaP l):=by
 rw [zdS]
 intro z
 obtain ⟨p,hp,hz⟩:=List.mem_flatMap.mp z
 cases p with
 | none =>
   have hz : 47 ∈ ([32] : List Nat):=hz
   exact absurd hz (by decide)
 | some x =>
   obtain ⟨j,r,hr,e⟩:=h x (List.mem_filterMap.mpr ⟨some x,hp,rfl⟩)
   subst e
   obtain ⟨d,hd,ed⟩:=R.sg r (List.mem_of_getElem? hr)
   have hz : 47 ∈ cps r.s:=hz
   rw [ed,zmJ,List.mem_singleton] at hz
   exact (zaH d hd).2.2.1 hz.symm
theorem zlq {m : Ms} {x y : Mx} {r : List Mx} (h : m.bar = y :: r) : out m x = out { m with bar:=r } x + (if y = x then 1 else 0):=by
 unfold out
 rw [h,List.count_cons]
 show _ + (List.count x r + if (y == x) = true then 1 else 0) = (mats m.line).count x + (mats m.heat).count x + r.count x + _
 by_cases e : y = x
 ·rw [if_pos e,if_pos (by rw [e]; exact beq_self_eq_true x)]
  omega
 ·rw [if_neg e,if_neg (fun z=>e (beq_iff_eq.mp z))]
  omega
theorem zfC {ls : List (List Mx)} {i j : Nat} {v l : List Mx} (h : (ls.set j v)[i]? = some l) : (i = j /\ l = v) \/ (i ≠ j /\ ls[i]? = some l):=by
 rw [List.getElem?_set] at h
 by_cases e : j = i
 ·rw [if_pos e] at h
  split at h
  ·exact .inl ⟨e.symm,(Option.some.inj h).symm⟩
  ·cases h
 ·rw [if_neg e] at h
  exact .inr ⟨fun z=>e z.symm,h⟩
theorem Gd.fall {c : Cf} {m : Ms} (R : Rt c) (O : Ok c m) (g : Gd c m) : Gd c (fall c m):=by
 unfold Mc.fall
 cases hb : m.bar with
 | nil=>exact g
 | cons x r =>
   obtain ⟨j,q,hq,ex⟩:=g.ib x (by rw [hb]; exact List.mem_cons_self)
   have hfl:=R.fl j q hq
   have e2 : x.2 = q.t:=by rw [ex]
   show Gd c (match Mt.zbO (c.rs.map fun r=>r.t) x.2 with
    | some k=>{ m with bar:=r,lanes:=zcv m.lanes k x }
    | none=>m)
   rw [e2,hfl]
   show Gd c { m with bar:=r,lanes:=zcv m.lanes j x }
   have hjl : j < m.lanes.length:=by rw [O.ln]; exact (List.getElem?_eq_some_iff.mp hq).1
   have hg : m.lanes[j]? = some m.lanes[j]:=List.getElem?_eq_getElem hjl
   have ea : zcv m.lanes j x = m.lanes.set j (m.lanes[j] ++ [x]):=by unfold zcv; rw [hg]
   rw [ea]
   refine ⟨?_,g.il,g.ih,fun y hy=>g.ib y (by rw [hb]; exact List.mem_cons_of_mem _ hy),?_,g.tx,g.lm,g.pn⟩
   ·intro i l hl
    rcases zfC hl with ⟨rfl,rfl⟩ | ⟨hne,hl⟩
    ·obtain ⟨q',hq',ho⟩:=g.ow i _ hg
     rw [hq] at hq'
     cases hq'
     refine ⟨q,hq,fun y hy=>?_⟩
     rcases List.mem_append.mp hy with hy | hy
     ·exact ho y hy
     ·rw [List.mem_singleton.mp hy]
      exact ex
    ·exact g.ow i l hl
   ·intro i q' l hq' hl
    rcases zfC hl with ⟨rfl,rfl⟩ | ⟨hne,hl⟩
    ·rw [hq] at hq'
     cases hq'
     have h1:=g.ct i q _ hq hg
     rw [zlq (x:=(q.s,q.t)) hb,if_pos ex] at h1
     rw [List.length_append]
     show m.lanes[i].length + 1 + out { m with bar:=r } (q.s,q.t) = _
     omega
    ·have h1:=g.ct i q' l hq' hl
     rw [zlq (x:=(q'.s,q'.t)) hb,if_neg (fun z=>?_)] at h1
     ·exact h1
     ·rw [ex] at z
      have z1:=congrArg Prod.fst z
      have h2:=R.pl j q hq
      rw [show q.s = q'.s from z1,R.pl i q' hq'] at h2
      exact hne (Option.some.inj h2)
theorem Gd.cool {c : Cf} {m : Ms} (R : Rt c) (O : Ok c m) (g : Gd c m) : Gd c (cool m):=by
 unfold Mc.cool
 split
 ·exact g
 ·rename_i he
  split
  ·refine ⟨g.ow,g.il,(fun x hx=>nomatch hx),?_,?_,?_,?_,?_⟩
   ·intro x hx
    rcases List.mem_append.mp hx with hx | hx
    ·exact g.ib x hx
    ·exact g.ih x hx
   ·intro j r l hr hl
    have h1:=g.ct j r l hr hl
    unfold out at h1 ⊢
    show l.length + ((mats m.line).count (r.s,r.t) + 0 + (m.bar ++ mats m.heat).count (r.s,r.t)) = _
    rw [List.count_append]
    omega
   ·have h1:=g.tx
    unfold hot at h1 ⊢
    rw [if_neg he] at h1
    rw [<- h1]
    show flat ((m.texts ++ [zaP m.heat]).map cps) ++ [] ++ cps (zaP m.line) = _
    unfold flat
    rw [List.map_append,List.flatMap_append]
    simp
   ·intro t ht r hr k hk
    rcases List.mem_append.mp ht with ht | ht
    ·exact g.lm t ht r hr k hk
    ·rw [List.mem_singleton.mp ht]
     obtain ⟨j,hj,e⟩:=List.getElem_of_mem hr
     have hr' : c.rs[j]? = some r:=by rw [List.getElem?_eq_getElem hj,e]
     rw [zds R hr' hk g.ih]
     have hjl : j < m.lanes.length:=by rw [O.ln]; exact hj
     have h1:=g.ct j r _ hr' (List.getElem?_eq_getElem hjl)
     unfold out at h1
     omega
   ·intro t ht
    rcases List.mem_append.mp ht with ht | ht
    ·exact g.pn t ht
    ·rw [List.mem_singleton.mp ht]
     exact zmr R g.ih
  ·refine ⟨g.ow,g.il,g.ih,g.ib,g.ct,?_,g.lm,g.pn⟩
   have h1:=g.tx
   unfold hot at h1 ⊢
   exact h1
theorem zdk {c : Cf} {m : Ms} {k : Nat} (h : key c m = some k) : c.keys.cps.toList.take (m.at_ + 1) = c.keys.cps.toList.take m.at_ ++ [k]:=by
 rw [List.take_add_one,show c.keys.cps.toList[m.at_]? = some k from h]
 rfl
theorem Gd.line_ne {c : Cf} {m : Ms} (R : Rt c) (g : Gd c m) (h : key c m = some 47) : m.line ≠ []:=by
 intro e
 have hon:=Lns.zlz R.gd m.at_ 47 h
 rw [if_neg (by decide)] at hon
 rcases hon with ⟨_,z⟩ | ⟨i,d,hi,hd,hs⟩
 ·cases z
 ·have h1:=g.tx
  rw [e,hi] at h1
  have hil : i < c.keys.cps.toList.length:=(List.getElem?_eq_some_iff.mp hd).1
  rw [List.take_add_one,hd] at h1
  have h1 : flat (m.texts.map cps) ++ hot m ++ [] = c.keys.cps.toList.take i ++ [d]:=h1
  rw [List.append_nil] at h1
  have hd47 : d ≠ 47:=fun z=>by rw [z] at hs; exact absurd hs (by decide)
  by_cases hh : m.heat.isEmpty = true
  ·have hot0 : hot m = []:=by unfold hot; rw [if_pos hh]
   rw [hot0,List.append_nil] at h1
   rcases List.eq_nil_or_concat m.texts with z | ⟨a,t,z⟩
   ·rw [z] at h1
    have h2:=congrArg List.length h1
    rw [List.length_append] at h2
    have h2 : 0 = _ + 1:=h2
    omega
   ·rw [z] at h1
    unfold flat at h1
    rw [List.concat_eq_append,List.map_append,List.flatMap_append] at h1
    have h1 : (a.map cps).flatMap (fun t=>t ++ [47]) ++ (cps t ++ [47] ++ []) = c.keys.cps.toList.take i ++ [d]:=by simpa using h1
    rw [List.append_nil,<- List.append_assoc] at h1
    have h3:=(List.append_inj' h1 rfl).2
    cases h3
    exact hd47 rfl
  ·have hot1 : hot m = cps (zaP m.heat) ++ [47]:=by unfold hot; rw [if_neg hh]
   rw [hot1,<- List.append_assoc] at h1
   have h3:=(List.append_inj' h1 rfl).2
   cases h3
   exact hd47 rfl
theorem Gd.send {c : Cf} {m : Ms} (R : Rt c) (g : Gd c m) (hk : key c m = some 47) : Gd c (send c m):=by
 unfold Mc.send
 split
 ·rename_i he
  have hn : m.heat = []:=List.isEmpty_iff.mp he
  refine ⟨g.ow,(fun x hx=>nomatch hx),g.il,g.ib,?_,?_,g.lm,g.pn⟩
  ·intro j r l hr hl
   have h1:=g.ct j r l hr hl
   unfold out at h1 ⊢
   rw [hn] at h1
   have e : (mats []).count (r.s,r.t) = 0:=rfl
   show l.length + (0 + (mats m.line).count (r.s,r.t) + m.bar.count (r.s,r.t)) = _
   omega
  ·have hne:=g.line_ne R hk
   have hl : m.line.isEmpty = false:=by
    cases e : m.line with
    | nil=>exact absurd e hne
    | cons _ _=>rfl
   have h1:=g.tx
   unfold hot at h1
   rw [if_pos he] at h1
   show flat (m.texts.map cps) ++ (if m.line.isEmpty = true then [] else cps (zaP m.line) ++ [47]) ++ [] = c.keys.cps.toList.take (m.at_ + 1)
   rw [hl,if_neg (by decide),zdk hk,<- h1]
   simp
 ·exact g
theorem zdQ (l : List Part) (p : Part) : mats (l ++ [p]) = mats l ++ p.toList:=by
 unfold mats
 rw [List.filterMap_append]
 cases p <;> rfl
theorem Gd.gap {c : Cf} {m : Ms} (g : Gd c m) (hk : key c m = some 32) : Gd c (take m none):=by
 refine ⟨g.ow,?_,g.ih,g.ib,?_,?_,g.lm,g.pn⟩
 ·intro x hx
  have hx : x ∈ mats (m.line ++ [none]):=hx
  rw [zdQ] at hx
  exact g.il x (by simpa using hx)
 ·intro j r l hr hl
  have h1:=g.ct j r l hr hl
  unfold out at h1 ⊢
  show l.length + ((mats (m.line ++ [none])).count (r.s,r.t) + _ + _) = _
  rw [zdQ,Option.toList_none,List.append_nil]
  exact h1
 ·show flat (m.texts.map cps) ++ hot m ++ cps (zaP (m.line ++ [none])) = c.keys.cps.toList.take (m.at_ + 1)
  rw [ziB,zdk hk,<- g.tx,List.append_assoc]
  simp only [List.append_assoc]
  rfl
theorem Gd.pick {c : Cf} {m : Ms} {k j : Nat} (R : Rt c) (O : Ok c m) (g : Gd c m) (hk : key c m = some k) (hj : Cs.place c.rs (L2.sg k) = some j) : Gd c (pick m j):=by
 unfold Mc.pick
 split
 ·rename_i x r hx
  obtain ⟨q,hq,hqs⟩:=Cs.zdl hj
  obtain ⟨q',hq',ho⟩:=g.ow j _ hx
  rw [hq] at hq'
  cases hq'
  have ex:=ho x List.mem_cons_self
  have hjl : j < m.lanes.length:=(List.getElem?_eq_some_iff.mp hx).1
  refine ⟨?_,?_,g.ih,g.ib,?_,?_,g.lm,g.pn⟩
  ·intro i l hl
   rcases zfC hl with ⟨rfl,rfl⟩ | ⟨hne,hl⟩
   ·exact ⟨q,hq,fun y hy=>ho y (List.mem_cons_of_mem _ hy)⟩
   ·exact g.ow i l hl
  ·intro y hy
   have hy : y ∈ mats (m.line ++ [some x]):=hy
   rw [zdQ] at hy
   rcases List.mem_append.mp hy with hy | hy
   ·exact g.il y hy
   ·have : y = x:=by simpa using hy
    rw [this]
    exact ⟨j,q,hq,ex⟩
  ·intro i q' l hq' hl
   have hl : (m.lanes.set j r)[i]? = some l:=hl
   have eo : out (take { m with lanes:=m.lanes.set j r } (some x)) (q'.s,q'.t) = out m (q'.s,q'.t) + (if x = (q'.s,q'.t) then 1 else 0):=by
    unfold out
    show (mats (m.line ++ [some x])).count (q'.s,q'.t) + (mats m.heat).count (q'.s,q'.t) + m.bar.count (q'.s,q'.t) = _
    rw [zdQ,List.count_append]
    have e1 : (some x : Part).toList.count (q'.s,q'.t) = if x = (q'.s,q'.t) then 1 else 0:=by
     show List.count (q'.s,q'.t) [x] = _
     by_cases e : x = (q'.s,q'.t)
     ·rw [if_pos e,e]
      simp
     ·rw [if_neg e]
      exact List.count_eq_zero.mpr fun z=>e (List.mem_singleton.mp z).symm
    rw [e1]
    omega
   rw [eo]
   rcases zfC hl with ⟨rfl,rfl⟩ | ⟨hne,hl⟩
   ·rw [hq] at hq'
    cases hq'
    have h1:=g.ct i q _ hq hx
    have e3 : (x :: l).length = l.length + 1:=rfl
    rw [if_pos ex]
    omega
   ·have h1:=g.ct i q' l hq' hl
    rw [if_neg fun z=>?_]
    ·exact h1
    ·rw [ex] at z
     have z1:=congrArg Prod.fst z
     have h2:=R.pl j q hq
     rw [show q.s = q'.s from z1,R.pl i q' hq'] at h2
     exact hne (Option.some.inj h2)
  ·show flat (m.texts.map cps) ++ hot m ++ cps (zaP (m.line ++ [some x])) = c.keys.cps.toList.take (m.at_ + 1)
   rw [ziB,zdk hk,<- g.tx]
   have e : cps (zbb (some x)) = [k]:=by
    show cps x.1 = [k]
    rw [ex]
    show cps q.s = [k]
    rw [hqs]
    rfl
   rw [e]
   simp only [List.append_assoc]
 ·exact g
theorem Gd.strike {c : Cf} {m : Ms} (R : Rt c) (O : Ok c m) (g : Gd c m) : Gd c (strike c m):=by
 unfold Mc.strike
 split
 ·exact g
 ·rename_i k hk
  split
  ·rename_i h47
   rw [h47] at hk
   exact g.send R hk
  ·split
   ·rename_i h32
    rw [h32] at hk
    exact g.gap hk
   ·split
    ·exact ⟨g.ow,g.il,g.ih,g.ib,g.ct,g.tx,g.lm,g.pn⟩
    ·split
     ·rename_i j hj
      exact g.pick R O hk hj
     ·exact g
theorem Gd.tick {c : Cf} {m : Ms} (R : Rt c) (O : Ok c m) (g : Gd c m) : Gd c (tick c m):=by
 have h:=((g.fall R O).cool R O.fall).strike R O.fall.cool
 exact ⟨h.ow,h.il,h.ih,h.ib,h.ct,h.tx,h.lm,h.pn⟩
theorem Gd.run {c : Cf} (R : Rt c) : ∀ (n : Nat) {m : Ms},Ok c m -> Gd c m -> Gd c (runF c n m)
 | 0,_,_,g=>g
 | n + 1,m,O,g=>by
   cases hs : still c m with
   | true =>
     rw [zjG hs]
     exact g
   | false =>
     rw [znA hs]
     exact Gd.run R n O.tick (g.tick R O)
theorem Gd.fin {c : Cf} {m : Ms} (R : Rt c) (O : Ok c m) (g : Gd c m) : Gd c (fin c m):=Gd.run R _ O g
theorem Gd.start {c : Cf} (h : ∀ r ∈ c.rs,0 <= r.n) : Gd c (start c.rs):=by
 have lane : ∀ (j : Nat) l,(zbf c.rs)[j]? = some l -> ∃ r,c.rs[j]? = some r /\ l = List.replicate r.n.toNat (r.s,r.t):=fun j l hl=>by
  unfold zbf at hl
  rw [List.getElem?_map] at hl
  obtain ⟨r,hr,rfl⟩:=Option.map_eq_some_iff.mp hl
  exact ⟨r,hr,rfl⟩
 refine ⟨fun j l hl=>?_,(fun x hx=>nomatch hx),(fun x hx=>nomatch hx),(fun x hx=>nomatch hx),fun j r l hr hl=>?_,rfl,(fun t ht=>nomatch ht),(fun t ht=>nomatch ht)⟩
 ·obtain ⟨r,hr,rfl⟩:=lane j l hl
  exact ⟨r,hr,fun x hx=>List.eq_of_mem_replicate hx⟩
 ·obtain ⟨r',hr',rfl⟩:=lane j l hl
  rw [hr] at hr'
  cases hr'
  rw [List.length_replicate]
  rfl
end Mc
namespace Mc
open PySem L2
end Mc
namespace L2
open PySem PySem.Spec PyProof.Rows PySem.Builtin PySem.Builtin.Str
section
variable {X : Cx} {a : Expr} {ta : TE}
end
theorem zfm (c : Nat) : ∀ {ps : List Str},ps ≠ [] -> (∀ p ∈ ps,c ∉ p.cps.toList) -> (Str.join ⟨#[c]⟩ ps).cps.toList.count c + 1 = ps.length
 | [],h,_=>absurd rfl h
 | [p],_,h=>by
   show List.count c p.cps.toList + 1 = 1
   rw [List.count_eq_zero.mpr (h p List.mem_cons_self)]
 | p :: p2 :: ps,_,h=>by
   have ih:=zfm c (ps:=p2 :: ps) (by simp) fun x hx=>h x (List.mem_cons_of_mem _ hx)
   show List.count c (p ++ ⟨#[c]⟩ ++ Str.join ⟨#[c]⟩ (p2 :: ps)).cps.toList + 1 = _
   rw [Lns.zaC,Lns.zaC,List.count_append,List.count_append,List.count_eq_zero.mpr (h p List.mem_cons_self)]
   have e : List.count c (⟨#[c]⟩ : Str).cps.toList = 1:=by
    show List.count c [c] = 1
    simp
   rw [e]
   show 0 + 1 + _ + 1 = (p2 :: ps).length + 1
   omega
theorem zkr (x : Str) (c : Nat) : (occurrences x ⟨#[c]⟩ 0 x.length (x.length + 1)).length = x.cps.toList.count c:=by
 obtain ⟨f,hG,hn⟩:=StrLaws.occ_tight x ⟨#[c]⟩ (Nat.le_refl 1)
 have hf:=StrLaws.parts_free x c _ _ _ hG hn
 have hj : Str.join ⟨#[c]⟩ (partsBetween x (occurrences x ⟨#[c]⟩ 0 x.length (x.length + 1)) 1) = x:=by
  rw [<- StrLaws.glued_eq_join]
  exact StrLaws.glued_between_self x ⟨#[c]⟩ (x.length + 1)
 have hne : partsBetween x (occurrences x ⟨#[c]⟩ 0 x.length (x.length + 1)) 1 ≠ []:=by
  rw [StrLaws.partsBetween_eq]
  obtain ⟨p,r,e⟩:=StrLaws.partsFrom_ne x 1 0 (occurrences x ⟨#[c]⟩ 0 x.length (x.length + 1))
  rw [e]
  simp
 have h:=zfm c hne (by rw [StrLaws.partsBetween_eq]; exact hf)
 rw [hj] at h
 unfold partsBetween at h
 simp only [List.length_map,List.length_zip,List.length_cons,List.length_append] at h
 have h1 : ([x.length] : List Nat).length = 1:=rfl
 omega
section
variable {X : Cx}
def rCountS : V -> List V -> Hp -> VK -> Prop:=fun x xs H Q=>∃ (z : Str) (c : Nat),x = .str z /\ xs = [.str (sg c)] /\ Q (.int (z.cps.toList.count c : Nat)) H
theorem zlb : MtR X "str.count" rCountS:=by
 intro pins s σ H x xs v us Q I rx rs h
 obtain ⟨z,c,rfl,rfl,q⟩:=h
 obtain ⟨t,rfl⟩:=rx
 obtain ⟨u0,rfl,ru⟩:=zfa rs
 obtain ⟨u,rfl⟩:=ru
 have e:=zkr z c
 have q2 : Q (.int ((occurrences z (sg c) 0 z.length (z.length + 1)).length : Nat)) H:=by
  have e : (occurrences z (sg c) 0 z.length (z.length + 1)).length = z.cps.toList.count c:=e
  rw [e]
  exact q
 exact call_gives F.slot_str_count (typeIs_str _ _ _) F.entry_str_count (F.args_str_count_2 _ _) (gives_str_count z (sg c) t u) ⟨.int _,H,I.tok _,⟨_,rfl⟩,q2⟩
end
end L2
namespace Mc
open PySem L2
end Mc
namespace L2
open PySem PySem.Spec PyProof.Rows
section
variable {X : Cx}
end
end L2
namespace L2
open PySem PySem.Spec PyProof.Rows
section
variable {X : Cx} {es : List Expr} {k1 : Nat} {tp : Pos}
end
end L2
namespace Mc
open PySem L2
def Bad (rs : List Cs.Row) (T : List Nat) (j : Nat) : Prop:=∃ k,T[j]? = some k /\ ∃ r ∈ rs,r.s = L2.sg k /\ r.n < ((T.take (j + 1)).count k : Int)
def zpU (rs : List Cs.Row) (ls : List (List Str)) (i j : Nat) : Prop:=(∀ (a : Nat) l,a < i -> ls[a]? = some l -> ∀ b,¬ Bad rs (cps (Lns.zbh l)) b) /\ ∀ l,ls[i]? = some l -> ∀ b,b < j -> ¬ Bad rs (cps (Lns.zbh l)) b
structure StopAt (rs : List Cs.Row) (ls : List (List Str)) (i j : Nat) : Prop where
 ahead : zpU rs ls i j
 bad : ∃ l,ls[i]? = some l /\ Bad rs (cps (Lns.zbh l)) j
theorem StopAt.uniq {rs : List Cs.Row} {ls : List (List Str)} {i j i' j' : Nat} (h : StopAt rs ls i j) (h' : StopAt rs ls i' j') : i = i' /\ j = j':=by
 obtain ⟨l,hl,hb⟩:=h.bad
 obtain ⟨l',hl',hb'⟩:=h'.bad
 rcases Nat.lt_trichotomy i i' with z | z | z
 ·exact absurd hb (h'.ahead.1 i l z hl j)
 ·subst z
  rw [hl] at hl'
  cases hl'
  rcases Nat.lt_trichotomy j j' with y | y | y
  ·exact absurd hb (h'.ahead.2 l hl j y)
  ·exact ⟨rfl,y⟩
  ·exact absurd hb' (h.ahead.2 l hl j' y)
 ·exact absurd hb' (h.ahead.1 i' l' z hl' j')
theorem zcd (p : List Str -> Bool) : ∀ ls : List (List Str),((ls.filter p).map List.length).sum <= (ls.map List.length).sum
 | []=>Nat.le_refl _
 | l :: r=>by
   have ih:=zcd p r
   rw [List.filter_cons,List.map_cons,List.sum_cons]
   split
   ·rw [List.map_cons,List.sum_cons]
    omega
   ·omega
end Mc
namespace Mc
open PySem L2
theorem Mac.aside {C : Addr} {ns : List Str} {c : Cf} {H : Hp} {p X : Addr} {A : Adr} {m : Ms} {ys : List V} {o : HO} (h : Mac C ns c H p A m) (hx : H X = some (.lst ys)) (n : X ∉ A.all) : Mac C ns c (upd H X o) p A m:=by
 obtain ⟨dx,fs,ea,F⟩:=h.ins
 have hpx : p ≠ X:=fun e=>by rw [e,hx] at ea; cases ea
 exact ⟨⟨dx,fs,by rw [zah hpx]; exact ea,F⟩,h.nd,h.li.keep (Keep.lst hx) fun a ha e=>n (by rw [<- e]; exact ha)⟩
theorem Step.same {p : Addr} {A A' : Adr} {H H1 H2 : Hp} (s : Step p A H1 A' H2) (h : Same H H1) (hp : H p = none) (hA : ∀ b ∈ A.all,H b = none) : Same H H2 /\ ∀ b ∈ A'.all,H b = none:=by
 refine ⟨fun b o hb=>s.fr b o (h b o hb) (.inl ⟨fun e=>?_,fun e=>?_⟩),fun b hb=>?_⟩
 ·rw [e,hp] at hb; cases hb
 ·rw [hA b e] at hb; cases hb
 ·rcases s.nw b hb with z | z
  ·exact hA b z
  ·exact h.free z
def cntS (x s : Str) : Nat:=(cps x).count (s.cps.toList.headD 0)
def freeR (rs : List Cs.Row) (x : Str) : List Cs.Row:=rs.map fun r=>⟨r.s,r.w,r.t,(cntS x r.s : Int)⟩
def outsR : List Cs.Row -> List (List Mx) -> List Int
 | r :: rs,l :: ls=>(r.n - ((l.length : Nat) : Int)) :: outsR rs ls
 | _,_=>[]
theorem zet {rs : List Cs.Row} {ls : List (List Mx)} {i : Nat} {r : Cs.Row} {l : List Mx} (h1 : rs[i]? = some r) (h2 : ls[i]? = some l) : (outsR rs ls)[i]? = some (r.n - ((l.length : Nat) : Int)):=by
 induction rs generalizing ls i with
 | nil=>simp at h1
 | cons r0 rs ih =>
   cases ls with
   | nil=>simp at h2
   | cons l0 ls =>
     cases i with
     | zero=>cases h1; cases h2; rfl
     | succ i=>exact ih (ls:=ls) (i:=i) h1 h2
theorem zgI {rs : List Cs.Row} {ls : List (List Mx)} (h : ls.length = rs.length) : (outsR rs ls).length = rs.length:=by
 induction rs generalizing ls with
 | nil=>cases ls <;> rfl
 | cons r0 rs ih =>
   cases ls with
   | nil=>cases h
   | cons l0 ls=>exact congrArg (·+ 1) (ih (Nat.succ.inj h))
def up1 (d o : Int) (x : Int × Int) : Int × Int:=if x.1 < o then (o,d) else x
def upN (d : Int) : List Int -> List (Int × Int) -> List (Int × Int)
 | o :: os,x :: xs=>up1 d o x :: upN d os xs
 | _,xs=>xs
theorem zeq (d : Int) (os : List Int) (ps : List (Int × Int)) : (upN d os ps).length = ps.length:=by
 induction os generalizing ps with
 | nil=>cases ps <;> rfl
 | cons o os ih =>
   cases ps with
   | nil=>rfl
   | cons x xs=>exact congrArg (·+ 1) (ih xs)
theorem zge (d : Int) (ps : List (Int × Int)) : upN d [] ps = ps:=by cases ps <;> rfl
theorem zmT (d : Int) (os : List Int) (ps : List (Int × Int)) {k : Nat} (h : os.length <= k) : (upN d os ps)[k]? = ps[k]?:=by
 induction os generalizing ps k with
 | nil=>rw [zge]
 | cons o os ih =>
   cases ps with
   | nil=>rfl
   | cons x xs =>
     cases k with
     | zero=>simp at h
     | succ k=>exact ih xs (k:=k) (Nat.le_of_succ_le_succ h)
theorem zlT (d : Int) (os : List Int) (o : Int) (ps : List (Int × Int)) {x : Int × Int} (h : ps[os.length]? = some x) : upN d (os ++ [o]) ps = (upN d os ps).set os.length (up1 d o x):=by
 induction os generalizing ps with
 | nil =>
   cases ps with
   | nil=>simp at h
   | cons y ys =>
     have h : y = x:=Option.some.inj h
     subst h
     show up1 d o y :: upN d [] ys = _
     rw [zge]
     rfl
 | cons o' os ih =>
   cases ps with
   | nil=>simp at h
   | cons y ys =>
     show up1 d o' y :: upN d (os ++ [o]) ys = (up1 d o' y :: upN d os ys).set (os.length + 1) _
     rw [List.set_cons_succ,ih ys h]
inductive Pk (c : Cf) : Ms -> List (Int × Int) -> List (Int × Int) -> Prop
 | stop {m : Ms} {ps : List (Int × Int)} : still c m = true -> Pk c m ps ps
 | go {m : Ms} {ps qs : List (Int × Int)} : still c m = false -> Pk c (tick c m) (upN (tick c m).done (outsR c.rs (tick c m).lanes) ps) qs -> Pk c m ps qs
theorem Pk.uniq {c : Cf} {m : Ms} {ps qs qs' : List (Int × Int)} (h : Pk c m ps qs) (h' : Pk c m ps qs') : qs = qs':=by
 induction h with
 | stop hs =>
   cases h' with
   | stop _=>rfl
   | go hs' _=>rw [hs] at hs'; cases hs'
 | go hs _ ih =>
   cases h' with
   | stop hs'=>rw [hs] at hs'; cases hs'
   | go _ h2=>exact ih h2
theorem Pk.len {c : Cf} {m : Ms} {ps qs : List (Int × Int)} (h : Pk c m ps qs) : qs.length = ps.length:=by
 induction h with
 | stop _=>rfl
 | go _ _ ih=>rw [ih,zeq]
theorem zmQ (d o : Int) (x : Int × Int) : x.1 <= (up1 d o x).1 /\ o <= (up1 d o x).1:=by
 unfold up1
 split
 ·rename_i h
  exact ⟨Int.le_of_lt h,Int.le_refl _⟩
 ·rename_i h
  exact ⟨Int.le_refl _,Int.not_lt.mp h⟩
theorem zkS (d : Int) {os : List Int} {ps : List (Int × Int)} {k : Nat} {x : Int × Int} {o : Int} (hx : ps[k]? = some x) (ho : os[k]? = some o) : (upN d os ps)[k]? = some (up1 d o x):=by
 induction os generalizing ps k with
 | nil=>simp at ho
 | cons o' os ih =>
   cases ps with
   | nil=>simp at hx
   | cons y ys =>
     cases k with
     | zero=>cases hx; cases ho; rfl
     | succ k=>exact ih (ps:=ys) (k:=k) hx ho
theorem zsK (d : Int) {os : List Int} {ps : List (Int × Int)} {k : Nat} {x : Int × Int} (hx : ps[k]? = some x) : ∃ y,(upN d os ps)[k]? = some y /\ x.1 <= y.1:=by
 cases ho : os[k]? with
 | none=>exact ⟨x,by rw [zmT _ _ _ (List.getElem?_eq_none_iff.mp ho)]; exact hx,Int.le_refl _⟩
 | some o=>exact ⟨_,zkS d hx ho,(zmQ d o x).1⟩
theorem Pk.ge {c : Cf} {m : Ms} {ps qs : List (Int × Int)} (h : Pk c m ps qs) : ∀ {k : Nat} {x : Int × Int},ps[k]? = some x -> ∃ y,qs[k]? = some y /\ x.1 <= y.1:=by
 induction h with
 | stop _=>exact fun hx=>⟨_,hx,Int.le_refl _⟩
 | go _ _ ih =>
   intro k x hx
   obtain ⟨y,hy,h1⟩:=zsK _ hx
   obtain ⟨z,hz,h2⟩:=ih hy
   exact ⟨z,hz,Int.le_trans h1 h2⟩
theorem Pk.out {c : Cf} {m : Ms} {ps qs : List (Int × Int)} (h : Pk c m ps qs) (hs : still c m = false) {k : Nat} {x : Int × Int} {o : Int} (hx : ps[k]? = some x) (ho : (outsR c.rs (tick c m).lanes)[k]? = some o) : ∃ y,qs[k]? = some y /\ o <= y.1:=by
 cases h with
 | stop h=>rw [hs] at h; cases h
 | go _ h =>
   obtain ⟨y,hy,h2⟩:=h.ge (zkS _ hx ho)
   exact ⟨y,hy,Int.le_trans (zmQ _ o x).2 h2⟩
theorem Pk.next {c : Cf} {m : Ms} {ps qs : List (Int × Int)} (h : Pk c m ps qs) (hs : still c m = false) : Pk c (tick c m) (upN (tick c m).done (outsR c.rs (tick c m).lanes) ps) qs:=by
 cases h with
 | stop h=>rw [hs] at h; cases h
 | go _ h=>exact h
structure NdAt (C : Addr) (ns : List Str) (c : Cf) (H0 H : Hp) (p n q f : Addr) (A : Adr) (m : Ms) (fs : List V) (ps : List (Int × Int)) : Prop where
 mac : Mac C ns c H p A m
 sm : Same H0 H
 new : ∀ b ∈ A.all,H0 b = none
 pn : H0 p = none
 nn : H0 n = none
 qn : H0 q = none
 fn : H0 f = none
 nq : n ≠ q
 nf : n ≠ f
 qf : q ≠ f
 na : n ∉ A.all
 qa : q ∉ A.all
 fa : f ∉ A.all
 hn : H n = some (.lst ((ps.map fun x=>x.1).map V.int))
 hq : H q = some (.lst ((ps.map fun x=>x.2).map V.int))
 hf : H f = some (.lst fs)
 rows : Paired (Cs.zbp H) fs c.rs
theorem NdAt.same {C : Addr} {ns : List Str} {c : Cf} {H0 H H' : Hp} {p n q f : Addr} {A : Adr} {m : Ms} {fs : List V} {ps : List (Int × Int)} (h : NdAt C ns c H0 H p n q f A m fs ps) (s : Same H H') : NdAt C ns c H0 H' p n q f A m fs ps :=
 ⟨h.mac.same s,h.sm.trans s,h.new,h.pn,h.nn,h.qn,h.fn,h.nq,h.nf,h.qf,h.na,h.qa,h.fa,s _ _ h.hn,s _ _ h.hq,s _ _ h.hf,Cs.zar h.rows s⟩
theorem NdAt.step {C : Addr} {ns : List Str} {c : Cf} {H0 H H' : Hp} {p n q f : Addr} {A A' : Adr} {m m' : Ms} {fs : List V} {ps : List (Int × Int)} (h : NdAt C ns c H0 H p n q f A m fs ps) (s : Step p A H A' H') (M : Mac C ns c H' p A' m') : NdAt C ns c H0 H' p n q f A' m' fs ps:=by
 obtain ⟨s1,s2⟩:=s.same h.sm h.pn h.new
 obtain ⟨n1,n2⟩:=s.list h.mac h.hn h.na
 obtain ⟨q1,q2⟩:=s.list h.mac h.hq h.qa
 obtain ⟨f1,f2⟩:=s.list h.mac h.hf h.fa
 exact ⟨M,s1,s2,h.pn,h.nn,h.qn,h.fn,h.nq,h.nf,h.qf,n2,q2,f2,n1,q1,f1,zbJ (S:=fun b=>b ≠ p /\ b ∉ A.all) (fun b o hb hs=>s.fr b o hb hs) h.rows⟩
theorem NdAt.setN {C : Addr} {ns : List Str} {c : Cf} {H0 H : Hp} {p n q f : Addr} {A : Adr} {m : Ms} {fs : List V} {ps : List (Int × Int)} {vs : List V} (h : NdAt C ns c H0 H p n q f A m fs ps) :
 Mac C ns c (upd H n (.lst vs)) p A m /\ Same H0 (upd H n (.lst vs)) /\ upd H n (.lst vs) q = some (.lst ((ps.map fun x=>x.2).map V.int)) /\ upd H n (.lst vs) f = some (.lst fs) /\ Paired (Cs.zbp (upd H n (.lst vs))) fs c.rs :=
 ⟨h.mac.aside h.hn h.na,zau h.sm h.nn,by rw [zah h.nq.symm]; exact h.hq,by rw [zah h.nf.symm]; exact h.hf,Cs.zcM h.rows h.hn fun z e=>by cases e⟩
theorem NdAt.set {C : Addr} {ns : List Str} {c : Cf} {H0 H H1 : Hp} {p n q f : Addr} {A : Adr} {m : Ms} {fs : List V} {ps qs : List (Int × Int)} (h : NdAt C ns c H0 H p n q f A m fs ps) (s : Same (upd H n (.lst ((qs.map fun x=>x.1).map V.int))) H1) :
 NdAt C ns c H0 (upd H1 q (.lst ((qs.map fun x=>x.2).map V.int))) p n q f A m fs qs:=by
 obtain ⟨a1,a2,a3,a4,a5⟩:=h.setN (vs:=(qs.map fun x=>x.1).map V.int)
 have hq1:=s _ _ a3
 have b1:=a1.same s
 exact ⟨b1.aside hq1 h.qa,zau (a2.trans s) h.qn,h.new,h.pn,h.nn,h.qn,h.fn,h.nq,h.nf,h.qf,h.na,h.qa,h.fa,by rw [zah h.nq]; exact s _ _ upd_same,upd_same,by rw [zah h.qf.symm]; exact s _ _ a4,Cs.zcM (Cs.zar a5 s) hq1 fun z e=>by cases e⟩
def needs0 (n : Nat) : List (Int × Int):=List.replicate n (0,0)
end Mc
namespace Mc
open PySem L2
def core (m : Ms) : Ms:={ m with lanes:=[] }
structure Alike (c c' : Cf) : Prop where
 keys : c'.keys = c.keys
 cast : c'.cast = c.cast
 sgs : (c'.rs.map fun r=>r.s) = c.rs.map fun r=>r.s
 ths : (c'.rs.map fun r=>r.t) = c.rs.map fun r=>r.t
theorem Alike.get {c c' : Cf} (A : Alike c c') {j : Nat} {r r' : Cs.Row} (h : c.rs[j]? = some r) (h' : c'.rs[j]? = some r') : r'.s = r.s /\ r'.t = r.t:=by
 have e1:=congrArg (fun l=>l[j]?) A.sgs
 have e2:=congrArg (fun l=>l[j]?) A.ths
 simp only [List.getElem?_map,h,h',Option.map_some] at e1 e2
 exact ⟨Option.some.inj e1,Option.some.inj e2⟩
theorem zgL (rs : List Cs.Row) (x : Str) : Cs.place rs x = (rs.map fun r=>r.s).findIdx? fun s=>decide (s = x):=by
 unfold Cs.place
 rw [List.findIdx?_map]
 rfl
theorem Alike.place {c c' : Cf} (A : Alike c c') (x : Str) : Cs.place c'.rs x = Cs.place c.rs x:=by rw [zgL,zgL,A.sgs]
theorem Alike.key {c c' : Cf} (A : Alike c c') {m m' : Ms} (h : core m = core m') : key c' m' = key c m:=by
 have e : (core m).at_ = (core m').at_:=congrArg Ms.at_ h
 have e : m.at_ = m'.at_:=e
 unfold Mc.key
 rw [A.keys,e]
theorem zgk {c c' : Cf} (A : Alike c c') {m m' : Ms} (h : core m = core m') : core (fall c m) = core (fall c' m'):=by
 obtain ⟨l,a,b,d,e,f,g,i,j⟩:=m
 obtain ⟨l',a',b',d',e',f',g',i',j'⟩:=m'
 cases h
 unfold fall
 cases e with
 | nil=>rfl
 | cons x r =>
   show core (match Mt.zbO (c.rs.map fun r=>r.t) x.2 with | some k=>_ | none=>_) = core (match Mt.zbO (c'.rs.map fun r=>r.t) x.2 with | some k=>_ | none=>_)
   rw [A.ths]
   cases Mt.zbO (c.rs.map fun r=>r.t) x.2 with
   | none=>rfl
   | some k=>rfl
theorem zhn {m m' : Ms} (h : core m = core m') : core (cool m) = core (cool m'):=by
 obtain ⟨l,a,b,d,e,f,g,i,j⟩:=m
 obtain ⟨l',a',b',d',e',f',g',i',j'⟩:=m'
 cases h
 unfold cool
 by_cases h1 : b.isEmpty = true
 ·rw [if_pos h1,if_pos h1]
  rfl
 ·rw [if_neg h1,if_neg h1]
  by_cases h2 : d - 1 <= 0
  ·rw [if_pos h2,if_pos h2]
   rfl
  ·rw [if_neg h2,if_neg h2]
   rfl
theorem zhQ {c : Cf} {m : Ms} {k j : Nat} (g : Gd c m) (hk : key c m = some k) (hp : Cs.place c.rs (sg k) = some j) (hl : zaL c m = false) : ∃ r t,c.rs[j]? = some r /\ m.lanes[j]? = some ((r.s,r.t) :: t):=by
 have e : keyS c m = sg k:=by unfold keyS; rw [hk]
 unfold zaL at hl
 rw [e,hp] at hl
 have hl : zby m.lanes j = false:=hl
 unfold zby at hl
 cases hj : m.lanes[j]? with
 | none=>rw [hj] at hl; cases hl
 | some l =>
   rw [hj] at hl
   cases l with
   | nil=>cases hl
   | cons x t =>
     obtain ⟨r,hr,hx⟩:=g.ow j _ hj
     exact ⟨r,t,hr,by rw [hx x List.mem_cons_self]⟩
theorem zhw {c c' : Cf} (A : Alike c c') {m m' : Ms} (g : Gd c m) (g' : Gd c' m') (h : core m = core m') (hl : ∀ k j,key c m = some k -> Cs.place c.rs (sg k) = some j -> zaL c m = false /\ zaL c' m' = false) (hkn : ∀ k,key c m = some k -> k = 47 \/ k = 32 \/ (Cs.place c.rs (sg k)).isSome = true) : core (strike c m) = core (strike c' m'):=by
 have ek:=A.key h
 unfold strike
 rw [ek]
 cases hk : key c m with
 | none=>exact h
 | some k =>
   show core (if k = 47 then _ else _) = core (if k = 47 then _ else _)
   by_cases h1 : k = 47
   ·rw [if_pos h1,if_pos h1]
    unfold send
    have e1 : (core m).heat = (core m').heat:=congrArg Ms.heat h
    have e1 : m.heat = m'.heat:=e1
    rw [<- e1,A.cast]
    by_cases h2 : m.heat.isEmpty = true
    ·rw [if_pos h2,if_pos h2]
     obtain ⟨l,a,b,d,e,f,g,i,j⟩:=m
     obtain ⟨l',a',b',d',e',f',g',i',j'⟩:=m'
     cases h
     rfl
    ·rw [if_neg h2,if_neg h2]
     exact h
   ·rw [if_neg h1,if_neg h1]
    by_cases h2 : k = 32
    ·rw [if_pos h2,if_pos h2]
     obtain ⟨l,a,b,d,e,f,g,i,j⟩:=m
     obtain ⟨l',a',b',d',e',f',g',i',j'⟩:=m'
     cases h
     rfl
    ·rw [if_neg h2,if_neg h2]
     cases hp : Cs.place c.rs (sg k) with
     | none =>
       rcases hkn k hk with z | z | z
       ·exact absurd z h1
       ·exact absurd z h2
       ·rw [hp] at z; cases z
     | some j =>
       obtain ⟨l1,l2⟩:=hl k j hk hp
       obtain ⟨r,t,hr,hj⟩:=zhQ g hk hp l1
       obtain ⟨r',t',hr',hj'⟩:=zhQ g' (ek.trans hk) ((A.place _).trans hp) l2
       obtain ⟨e1,e2⟩:=A.get hr hr'
       rw [l1,l2,A.place,hp,if_neg (fun z=>nomatch z),if_neg (fun z=>nomatch z)]
       show core (pick m j) = core (pick m' j)
       unfold pick
       rw [hj,hj',e1,e2]
       obtain ⟨l,a,b,d,e,f,g,i,j⟩:=m
       obtain ⟨l',a',b',d',e',f',g',i',j'⟩:=m'
       cases h
       rfl
theorem zko {c c' : Cf} (A : Alike c c') (R : Rt c) (R' : Rt c') {m m' : Ms} (O : Ok c m) (O' : Ok c' m') (g : Gd c m) (g' : Gd c' m') (h : core m = core m') (hl : ∀ k j,key c (cool (fall c m)) = some k -> Cs.place c.rs (sg k) = some j -> zaL c (cool (fall c m)) = false /\ zaL c' (cool (fall c' m')) = false) : core (tick c m) = core (tick c' m'):=by
 have h1:=zhn (zgk A h)
 have hs:=zhw A ((g.fall R O).cool R O.fall) ((g'.fall R' O').cool R' O'.fall) h1 hl fun k hk=>by
  rcases O.cf.known k (List.mem_of_getElem? hk) with z | z | z
  ·exact .inl z
  ·exact .inr (.inl z)
  ·exact .inr (.inr z.1)
 unfold tick
 generalize strike c (cool (fall c m)) = n at hs
 generalize strike c' (cool (fall c' m')) = n' at hs
 obtain ⟨l,a,b,d,e,f,g,i,j⟩:=n
 obtain ⟨l',a',b',d',e',f',g',i',j'⟩:=n'
 cases hs
 rfl
def Bd (c : Cf) (m : Ms) : Prop:=∀ (j : Nat) r k,c.rs[j]? = some r -> r.s = sg k -> m.bar.count (r.s,r.t) <= (flat (m.texts.map cps)).count k
theorem Bd.fall {c : Cf} {m : Ms} (b : Bd c m) : Bd c (fall c m):=by
 intro j r k hr hk
 have h:=b j r k hr hk
 unfold Mc.fall
 cases hb : m.bar with
 | nil =>
   show m.bar.count _ <= _
   exact h
 | cons x t =>
   rw [hb] at h
   show (match Mt.zbO (c.rs.map fun r : Cs.Row=>r.t) x.2 with | some k=>({ m with bar:=t,lanes:=zcv m.lanes k x } : Ms) | none=>m).bar.count _ <= (flat ((match Mt.zbO (c.rs.map fun r : Cs.Row=>r.t) x.2 with | some k=>({ m with bar:=t,lanes:=zcv m.lanes k x } : Ms) | none=>m).texts.map cps)).count k
   cases Mt.zbO (c.rs.map fun r : Cs.Row=>r.t) x.2 with
   | none =>
     show m.bar.count _ <= _
     rw [hb]
     exact h
   | some q=>exact Nat.le_trans (List.Sublist.count_le _ (List.sublist_cons_self x t)) h
theorem zll (ts : List (List Nat)) (t : List Nat) : flat (ts ++ [t]) = flat ts ++ (t ++ [47]):=by
 unfold flat
 rw [List.flatMap_append]
 simp
theorem Bd.cool {c : Cf} {m : Ms} (R : Rt c) (g : Gd c m) (b : Bd c m) : Bd c (cool m):=by
 intro j r k hr hk
 have h:=b j r k hr hk
 unfold Mc.cool
 by_cases h1 : m.heat.isEmpty = true
 ·rw [if_pos h1]
  exact h
 ·rw [if_neg h1]
  by_cases h2 : m.togo - 1 <= 0
  ·rw [if_pos h2]
   show (m.bar ++ mats m.heat).count _ <= (flat ((m.texts ++ [zaP m.heat]).map cps)).count k
   rw [List.map_append,List.map_cons,List.map_nil,zll,List.count_append,List.count_append,List.count_append,zds R hr hk g.ih]
   omega
  ·rw [if_neg h2]
   exact h
theorem zkQ (c : Cf) (m : Ms) : (strike c m).bar = m.bar /\ (strike c m).texts = m.texts:=by
 unfold strike
 cases key c m with
 | none=>exact ⟨rfl,rfl⟩
 | some k =>
   show (if k = 47 then _ else _ : Ms).bar = _ /\ (if k = 47 then _ else _ : Ms).texts = _
   by_cases h1 : k = 47
   ·rw [if_pos h1]
    unfold send
    split <;> exact ⟨rfl,rfl⟩
   ·rw [if_neg h1]
    by_cases h2 : k = 32
    ·rw [if_pos h2]
     exact ⟨rfl,rfl⟩
    ·rw [if_neg h2]
     split
     ·exact ⟨rfl,rfl⟩
     ·split
      ·unfold pick
       split <;> exact ⟨rfl,rfl⟩
      ·exact ⟨rfl,rfl⟩
theorem Bd.tick {c : Cf} {m : Ms} (R : Rt c) (O : Ok c m) (g : Gd c m) (b : Bd c m) : Bd c (tick c m):=by
 have h:=Bd.cool R (g.fall R O) b.fall
 obtain ⟨e1,e2⟩:=zkQ c (Mc.cool (Mc.fall c m))
 intro j r k hr hk
 have:=h j r k hr hk
 show (strike c (Mc.cool (Mc.fall c m))).bar.count _ <= (flat ((strike c (Mc.cool (Mc.fall c m))).texts.map cps)).count k
 rw [e1,e2]
 exact this
theorem zdV {c : Cf} {m : Ms} (R : Rt c) (O : Ok c m) (g : Gd c m) (b : Bd c m) (hn : ∀ r ∈ c.rs,r.n = (cntS c.keys r.s : Int)) {k j : Nat} (hk : key c m = some k) (hp : Cs.place c.rs (sg k) = some j) : zaL c m = false:=by
 have e : keyS c m = sg k:=by unfold keyS; rw [hk]
 have hj : j < c.rs.length:=by
  unfold Cs.place at hp
  exact (List.findIdx?_eq_some_iff_getElem.mp hp).1
 obtain ⟨r,hr⟩ : ∃ r,c.rs[j]? = some r:=⟨_,List.getElem?_eq_getElem hj⟩
 have hrs : r.s = sg k:=by
  unfold Cs.place at hp
  obtain ⟨h1,h2,_⟩:=List.findIdx?_eq_some_iff_getElem.mp hp
  rw [List.getElem?_eq_getElem hj] at hr
  cases hr
  exact of_decide_eq_true h2
 obtain ⟨l,hl⟩ : ∃ l,m.lanes[j]? = some l:=⟨_,List.getElem?_eq_getElem (by rw [O.ln]; exact hj)⟩
 unfold zaL
 rw [e,hp]
 show zby m.lanes j = false
 unfold zby
 rw [hl]
 cases l with
 | cons x t=>rfl
 | nil =>
   have hct:=g.ct j r [] hr hl
   have hnn:=hn r (List.mem_of_getElem? hr)
   have hcn : cntS c.keys r.s = c.keys.cps.toList.count k:=by rw [hrs]; rfl
   have h1:=zds R hr hrs g.il
   have h2:=zds R hr hrs g.ih
   have h3:=b j r k hr hrs
   have htx:=congrArg (List.count k) g.tx
   rw [List.count_append,List.count_append] at htx
   have hhot : (cps (zaP m.heat)).count k <= (hot m).count k:=by
    unfold hot
    by_cases hh : m.heat.isEmpty = true
    ·rw [if_pos hh,List.isEmpty_iff.mp hh]
     exact Nat.le_refl _
    ·rw [if_neg hh,List.count_append]
     exact Nat.le_add_right _ _
   have hnext:=congrArg (List.count k) (zdk hk)
   rw [List.count_append,List.count_singleton_self] at hnext
   have hle : (c.keys.cps.toList.take (m.at_ + 1)).count k <= c.keys.cps.toList.count k:=List.Sublist.count_le _ (List.take_sublist _ _)
   unfold out at hct
   rw [List.length_nil] at hct
   omega
theorem zmx {m m' : Ms} (h : core m = core m') (x : Mx) : out m x = out m' x:=by
 obtain ⟨l,a,b,d,e,f,g,i,j⟩:=m
 obtain ⟨l',a',b',d',e',f',g',i',j'⟩:=m'
 cases h
 rfl
theorem zeu {c : Cf} {m : Ms} {k j : Nat} (O : Ok c m) (hk : key c m = some k) (hp : Cs.place c.rs (sg k) = some j) (hl : zaL c m = false) : strike c m = pick m j:=by
 unfold strike
 rw [hk]
 show (if k = 47 then _ else _) = _
 rw [if_neg (fun e=>by rw [e,O.cf.noWedge.1] at hp; cases hp),if_neg (fun e=>by rw [e,O.cf.noWedge.2.1] at hp; cases hp),if_neg (by rw [hl]; exact fun z=>nomatch z),hp]
theorem zdl {c : Cf} {k j : Nat} (hp : Cs.place c.rs (sg k) = some j) : ∃ r,c.rs[j]? = some r /\ r.s = sg k:=by
 unfold Cs.place at hp
 obtain ⟨h1,h2,_⟩:=List.findIdx?_eq_some_iff_getElem.mp hp
 exact ⟨_,List.getElem?_eq_getElem h1,of_decide_eq_true h2⟩
theorem zfy {c c' : Cf} (A : Alike c c') (R' : Rt c') {m1 m' : Ms} (O1 : Ok c m1) (g1 : Gd c m1) (O' : Ok c' m') (g' : Gd c' m') (b' : Bd c' m') (hn' : ∀ r ∈ c'.rs,r.n = (cntS c'.keys r.s : Int)) (h : core m1 = core (cool (fall c' m')))
 {ps qs : List (Int × Int)} (hpk : Pk c' m' ps qs) (hs : still c' m' = false) (hps : ps.length = c'.rs.length) (hw : ∀ (j : Nat) r y,c.rs[j]? = some r -> qs[j]? = some y -> y.1 <= r.n) {k j : Nat} (hk : key c m1 = some k) (hp : Cs.place c.rs (sg k) = some j) : zaL c m1 = false:=by
 have O1':=O'.fall.cool
 have g1':=(g'.fall R' O').cool R' O'.fall
 have b1':=Bd.cool R' (g'.fall R' O') b'.fall
 have hk':=(A.key h).trans hk
 have hp':=(A.place (sg k)).trans hp
 have hl':=zdV R' O1' g1' b1' hn' hk' hp'
 obtain ⟨r',t',hr',hj'⟩:=zhQ g1' hk' hp' hl'
 have hst:=zeu O1' hk' hp' hl'
 have hln : (tick c' m').lanes = (cool (fall c' m')).lanes.set j t':=by
  show (strike c' (cool (fall c' m'))).lanes = _
  rw [hst]
  unfold pick
  rw [hj']
  rfl
 have hjl : j < (cool (fall c' m')).lanes.length:=(List.getElem?_eq_some_iff.mp hj').1
 have hget : (tick c' m').lanes[j]? = some t':=by rw [hln,List.getElem?_set_self hjl]
 obtain ⟨px,hpx⟩ : ∃ px,ps[j]? = some px:=⟨_,List.getElem?_eq_getElem (by rw [hps,<- O1'.ln]; exact hjl)⟩
 obtain ⟨y,hy,hle⟩:=hpk.out hs hpx (zet hr' hget)
 obtain ⟨r,hr,hrs⟩:=zdl hp
 have hyr:=hw j r y hr hy
 obtain ⟨e1,e2⟩:=A.get hr hr'
 have hct':=g1'.ct j r' _ hr' hj'
 rw [List.length_cons] at hct'
 have hnn:=hn' r' (List.mem_of_getElem? hr')
 have hj : j < c.rs.length:=(List.getElem?_eq_some_iff.mp hr).1
 obtain ⟨l,hl⟩ : ∃ l,m1.lanes[j]? = some l:=⟨_,List.getElem?_eq_getElem (by rw [O1.ln]; exact hj)⟩
 have hct:=g1.ct j r l hr hl
 have ho:=zmx h (r.s,r.t)
 rw [e1,e2] at hct'
 have e : keyS c m1 = sg k:=by unfold keyS; rw [hk]
 unfold zaL
 rw [e,hp]
 show zby m1.lanes j = false
 unfold zby
 rw [hl]
 cases l with
 | cons x t=>rfl
 | nil =>
   rw [List.length_nil] at hct
   omega
theorem zhF {c c' : Cf} (A : Alike c c') (R : Rt c) (R' : Rt c') {m m' : Ms} (O : Ok c m) (O' : Ok c' m') (g : Gd c m) (g' : Gd c' m') (b' : Bd c' m') (hn' : ∀ r ∈ c'.rs,r.n = (cntS c'.keys r.s : Int)) (h : core m = core m')
 {ps qs : List (Int × Int)} (hpk : Pk c' m' ps qs) (hs : still c' m' = false) (hps : ps.length = c'.rs.length) (hw : ∀ (j : Nat) r y,c.rs[j]? = some r -> qs[j]? = some y -> y.1 <= r.n) : core (tick c m) = core (tick c' m'):=by
 have h1:=zhn (zgk A h)
 have O1:=O.fall.cool
 have g1:=(g.fall R O).cool R O.fall
 refine zko A R R' O O' g g' h fun k j hk hp=>⟨zfy A R' O1 g1 O' g' b' hn' h1 hpk hs hps hw hk hp,?_⟩
 exact zdV R' O'.fall.cool ((g'.fall R' O').cool R' O'.fall) (Bd.cool R' (g'.fall R' O') b'.fall) hn' ((A.key h1).trans hk) ((A.place (sg k)).trans hp)
theorem zdF {c c' : Cf} (A : Alike c c') {m m' : Ms} (h : core m = core m') : zcm c m = zcm c' m':=by
 have ek:=A.key h
 unfold zcm
 rw [ek]
 obtain ⟨l,a,b,d,e,f,g,i,j⟩:=m
 obtain ⟨l',a',b',d',e',f',g',i',j'⟩:=m'
 cases h
 rfl
theorem zeG {c : Cf} {m : Ms} (O : Ok c m) (h : zaL c m = true) : ∃ k j,key c m = some k /\ Cs.place c.rs (sg k) = some j:=by
 unfold zaL at h
 cases hk : key c m with
 | none =>
   have e : keyS c m = "":=by unfold keyS; rw [hk]
   rw [e,O.cf.noWedge.2.2] at h
   cases h
 | some k =>
   have e : keyS c m = sg k:=by unfold keyS; rw [hk]
   rw [e] at h
   cases hp : Cs.place c.rs (sg k) with
   | none=>rw [hp] at h; cases h
   | some j=>exact ⟨k,j,rfl,hp⟩
theorem zfv {c : Cf} {m : Ms} (R : Rt c) (O : Ok c m) (g : Gd c m) (b : Bd c m) (hn : ∀ r ∈ c.rs,r.n = (cntS c.keys r.s : Int)) : still c m = zcm c m:=by
 unfold still zhO
 cases hl : zaL c m with
 | false=>simp
 | true =>
   obtain ⟨k,j,hk,hp⟩:=zeG O hl
   rw [zdV R O g b hn hk hp] at hl
   cases hl
theorem zhh {c c' : Cf} (A : Alike c c') (R' : Rt c') {m m' : Ms} (O : Ok c m) (O' : Ok c' m') (g : Gd c m) (g' : Gd c' m') (b' : Bd c' m') (hn' : ∀ r ∈ c'.rs,r.n = (cntS c'.keys r.s : Int)) (h : core m = core m')
 {ps qs : List (Int × Int)} (hpk : Pk c' m' ps qs) (hps : ps.length = c'.rs.length) (hw : ∀ (j : Nat) r y,c.rs[j]? = some r -> qs[j]? = some y -> y.1 <= r.n) : still c m = still c' m':=by
 have hr:=zdF A h
 have hf:=zfv R' O' g' b' hn'
 cases hs : still c' m' with
 | true =>
   rw [hs] at hf
   unfold still
   rw [hr,<- hf]
   rfl
 | false =>
   rw [hs] at hf
   unfold still
   rw [hr,<- hf]
   show zhO c m = false
   unfold zhO
   cases hl : zaL c m with
   | false=>rfl
   | true =>
     cases hh : m.heat.isEmpty with
     | false=>rfl
     | true =>
       cases hb : m.bar.isEmpty with
       | false=>rfl
       | true =>
         obtain ⟨k,j,hk,hp⟩:=zeG O hl
         have hb' : (core m).bar = (core m').bar:=congrArg Ms.bar h
         have hb' : m.bar = m'.bar:=hb'
         have hh' : (core m).heat = (core m').heat:=congrArg Ms.heat h
         have hh' : m.heat = m'.heat:=hh'
         have e1 : fall c' m' = m':=by
          unfold fall
          rw [<- hb',List.isEmpty_iff.mp hb]
         have e2 : cool m' = m':=by
          unfold cool
          rw [<- hh',if_pos hh]
         have:=zfy A R' O g O' g' b' hn' (by rw [e1,e2]; exact h) hpk hs hps hw hk hp
         rw [hl] at this
         cases this
theorem zjn {c : Cf} {m : Ms} (R : Rt c) (O : Ok c m) (g : Gd c m) (b : Bd c m) (hn : ∀ r ∈ c.rs,r.n = (cntS c.keys r.s : Int)) : (tick c m).waits = m.waits:=by
 have O1:=O.fall.cool
 have g1:=(g.fall R O).cool R O.fall
 have b1:=Bd.cool R (g.fall R O) b.fall
 have e1 : (cool (fall c m)).waits = m.waits:=by
  have h1 : ∀ n : Ms,(cool n).waits = n.waits:=fun n=>by
   unfold cool
   split
   ·rfl
   ·split <;> rfl
  have h2 : (fall c m).waits = m.waits:=by
   unfold fall
   split
   ·rfl
   ·split <;> rfl
  rw [h1,h2]
 show (strike c (cool (fall c m))).waits = m.waits
 rw [<- e1]
 generalize cool (fall c m) = n at O1 g1 b1
 cases hk : key c n with
 | none =>
   unfold strike
   rw [hk]
 | some k =>
   cases hp : Cs.place c.rs (sg k) with
   | some j =>
     have hl:=zdV R O1 g1 b1 hn hk hp
     rw [zeu O1 hk hp hl]
     unfold pick
     split <;> rfl
   | none =>
     have hl : zaL c n = false:=by
      have e : keyS c n = sg k:=by unfold keyS; rw [hk]
      unfold zaL
      rw [e,hp]
     unfold strike
     rw [hk]
     show (if k = 47 then _ else _ : Ms).waits = _
     split
     ·unfold send
      split <;> rfl
     ·split
      ·rfl
      ·rw [hl,if_neg (fun z=>nomatch z),hp]
theorem Pk.le {c : Cf} {m : Ms} {ps qs : List (Int × Int)} (R : Rt c) (h : Pk c m ps qs) : Ok c m -> Gd c m -> (∀ (j : Nat) r x,c.rs[j]? = some r -> ps[j]? = some x -> x.1 <= r.n) -> ∀ (j : Nat) r y,c.rs[j]? = some r -> qs[j]? = some y -> y.1 <= r.n:=by
 induction h with
 | stop _=>exact fun _ _ h=>h
 | @go m ps qs hs _ ih =>
   intro O g h
   refine ih O.tick (g.tick R O) fun j r x hr hx=>?_
   have hj : j < c.rs.length:=(List.getElem?_eq_some_iff.mp hr).1
   obtain ⟨l,hl⟩ : ∃ l,(tick c m).lanes[j]? = some l:=⟨_,List.getElem?_eq_getElem (by rw [O.tick.ln]; exact hj)⟩
   have hjp : j < ps.length:=by
    have:=(List.getElem?_eq_some_iff.mp hx).1
    rwa [zeq] at this
   have hp : ps[j]? = some (ps[j]'hjp):=List.getElem?_eq_getElem hjp
   rw [zkS _ hp (zet hr hl)] at hx
   cases hx
   unfold up1
   split
   ·show r.n - _ <= r.n
    omega
   ·exact h j r _ hr hp
end Mc
namespace Mc
open PySem L2
theorem zkM {K : PySem.W.Frag} {H H' : Hp} {a : Addr} {xs : List V} (e : Same H H') (h : SqT K H a xs) : SqT K H' a xs:=by
 rcases h with (h | ⟨o,h⟩) | h
 ·exact .inl (.inl (e _ _ h))
 ·exact .inl (.inr ⟨o,e _ _ h⟩)
 ·exact .inr h
mutual
theorem zlF {K : PySem.W.Frag} {H H' : Hp} (s : Same H H') : ∀ (d : PyData) (v : V),Den K H v d -> Den K H' v d
 | .none,v,h=>by cases h with | non=>exact .non
 | .bool b,v,h=>by cases h with | bl=>exact .bl _
 | .int i,v,h=>by cases h with | int=>exact .int _
 | .str x,v,h=>by cases h with | str _ q=>exact .str _ q
 | .list ds,v,h=>by cases h with | lst h1 q=>exact .lst (s.seq h1) (zen s ds _ q)
 | .tuple ds,v,h=>by cases h with | tup h1 q=>exact .tup (zkM s h1) (zen s ds _ q)
 | .dict _,v,h=>by cases h
theorem zen {K : PySem.W.Frag} {H H' : Hp} (s : Same H H') : ∀ (ds : List PyData) (xs : List V),DenL K H xs ds -> DenL K H' xs ds
 | [],xs,h=>by cases h with | nil=>exact .nil
 | d :: ds,xs,h=>by
   cases h with
   | cons h1 h2=>exact .cons (zlF s d _ h1) (zen s ds _ h2)
end
structure Duo (C : Addr) (ns : List Str) (c0 c1 : Cf) (H : Hp) (p0 p1 : Addr) (A0 A1 : Adr) (m0 m1 : Ms) (y0 y1 : List V) (Xs : List (Addr × List V)) : Prop where
 a0 : Mac C ns c0 H p0 A0 m0
 a1 : Mac C ns c1 H p1 A1 m1
 sp : Sep p0 A0 p1 A1
 x0 : ∀ X ∈ Xs,X.1 ∉ A0.all
 x1 : ∀ X ∈ Xs,X.1 ∉ A1.all
 hx : ∀ X ∈ Xs,H X.1 = some (.lst X.2)
 r0 : Paired (Cs.zbp H) y0 c0.rs
 r1 : Paired (Cs.zbp H) y1 c1.rs
theorem Duo.same {C : Addr} {ns : List Str} {c0 c1 : Cf} {H H' : Hp} {p0 p1 : Addr} {A0 A1 : Adr} {m0 m1 : Ms} {y0 y1 : List V} {Xs : List (Addr × List V)} (h : Duo C ns c0 c1 H p0 p1 A0 A1 m0 m1 y0 y1 Xs) (s : Same H H') : Duo C ns c0 c1 H' p0 p1 A0 A1 m0 m1 y0 y1 Xs :=
 ⟨h.a0.same s,h.a1.same s,h.sp,h.x0,h.x1,fun X hX=>s _ _ (h.hx X hX),Cs.zar h.r0 s,Cs.zar h.r1 s⟩
theorem Duo.symm {C : Addr} {ns : List Str} {c0 c1 : Cf} {H : Hp} {p0 p1 : Addr} {A0 A1 : Adr} {m0 m1 : Ms} {y0 y1 : List V} {Xs : List (Addr × List V)} (h : Duo C ns c0 c1 H p0 p1 A0 A1 m0 m1 y0 y1 Xs) : Duo C ns c1 c0 H p1 p0 A1 A0 m1 m0 y1 y0 Xs :=
 ⟨h.a1,h.a0,h.sp.symm,h.x1,h.x0,h.hx,h.r1,h.r0⟩
theorem Duo.set {C : Addr} {ns : List Str} {c0 c1 : Cf} {H : Hp} {p0 p1 X : Addr} {A0 A1 : Adr} {m0 m1 : Ms} {y0 y1 vs vs' : List V} {Xs : List (Addr × List V)} (h : Duo C ns c0 c1 H p0 p1 A0 A1 m0 m1 y0 y1 ((X,vs) :: Xs)) (n : ∀ Y ∈ Xs,Y.1 ≠ X) : Duo C ns c0 c1 (upd H X (.lst vs')) p0 p1 A0 A1 m0 m1 y0 y1 ((X,vs') :: Xs):=by
 have hX : H X = some (.lst vs):=h.hx (X,vs) List.mem_cons_self
 have n0 : X ∉ A0.all:=h.x0 (X,vs) List.mem_cons_self
 have n1 : X ∉ A1.all:=h.x1 (X,vs) List.mem_cons_self
 refine ⟨h.a0.aside hX n0,h.a1.aside hX n1,h.sp,fun Y hY=>?_,fun Y hY=>?_,fun Y hY=>?_,Cs.zcM h.r0 hX (fun z e=>by cases e),Cs.zcM h.r1 hX (fun z e=>by cases e)⟩
 ·rcases List.mem_cons.mp hY with rfl | hY
  ·exact n0
  ·exact h.x0 Y (List.mem_cons_of_mem _ hY)
 ·rcases List.mem_cons.mp hY with rfl | hY
  ·exact n1
  ·exact h.x1 Y (List.mem_cons_of_mem _ hY)
 ·rcases List.mem_cons.mp hY with rfl | hY
  ·exact upd_same
  ·rw [zah (n Y hY)]
   exact h.hx Y (List.mem_cons_of_mem _ hY)
theorem Duo.more {C : Addr} {ns : List Str} {c0 c1 : Cf} {H : Hp} {p0 p1 X : Addr} {A0 A1 : Adr} {m0 m1 : Ms} {y0 y1 vs : List V} {Xs : List (Addr × List V)} (h : Duo C ns c0 c1 H p0 p1 A0 A1 m0 m1 y0 y1 Xs) (hX : H X = none) : Duo C ns c0 c1 (upd H X (.lst vs)) p0 p1 A0 A1 m0 m1 y0 y1 ((X,vs) :: Xs):=by
 have s:=zaf hX (.lst vs)
 refine ⟨h.a0.same s,h.a1.same s,h.sp,fun Y hY=>?_,fun Y hY=>?_,fun Y hY=>?_,Cs.zar h.r0 s,Cs.zar h.r1 s⟩
 ·rcases List.mem_cons.mp hY with rfl | hY
  ·exact h.a0.new hX
  ·exact h.x0 Y hY
 ·rcases List.mem_cons.mp hY with rfl | hY
  ·exact h.a1.new hX
  ·exact h.x1 Y hY
 ·rcases List.mem_cons.mp hY with rfl | hY
  ·exact upd_same
  ·exact s _ _ (h.hx Y hY)
structure Fx (c c' : Cf) (qs : List (Int × Int)) : Prop where
 al : Alike c c'
 R : Rt c
 R' : Rt c'
 hn : ∀ r ∈ c.rs,0 <= r.n
 hn' : ∀ r ∈ c'.rs,r.n = (cntS c'.keys r.s : Int)
 hw : ∀ (j : Nat) r y,c.rs[j]? = some r -> qs[j]? = some y -> y.1 <= r.n
def GdP (x : Int × Int) : Prop:=(x.1 = 0 /\ x.2 = 0) \/ (0 < x.1 /\ 0 < x.2)
structure Go (c c' : Cf) (m m' : Ms) (ps qs : List (Int × Int)) : Prop where
 o : Ok c m
 o' : Ok c' m'
 g : Gd c m
 g' : Gd c' m'
 b' : Bd c' m'
 h : core m = core m'
 pk : Pk c' m' ps qs
 ln : ps.length = c'.rs.length
 w : m'.waits = 0
 d : 0 <= m'.done
 gp : ∀ x ∈ ps,GdP x
theorem Go.still {c c' : Cf} {m m' : Ms} {ps qs : List (Int × Int)} (F : Fx c c' qs) (G : Go c c' m m' ps qs) : Mc.still c m = Mc.still c' m':=zhh F.al F.R' G.o G.o' G.g G.g' G.b' F.hn' G.h G.pk G.ln F.hw
theorem zrw {d : Int} (hd : 0 < d) (os : List Int) {ps : List (Int × Int)} (h : ∀ x ∈ ps,GdP x) : ∀ x ∈ upN d os ps,GdP x:=by
 induction os generalizing ps with
 | nil=>rw [zge]; exact h
 | cons o os ih =>
   cases ps with
   | nil=>exact h
   | cons y ys =>
     intro x hx
     rcases List.mem_cons.mp hx with rfl | hx
     ·have hy:=h y List.mem_cons_self
      unfold up1
      split
      ·rename_i hlt
       refine .inr ⟨?_,hd⟩
       show 0 < o
       rcases hy with ⟨h1,_⟩ | ⟨h1,_⟩ <;> omega
      ·exact hy
     ·exact ih (fun z hz=>h z (List.mem_cons_of_mem _ hz)) x hx
theorem Go.next {c c' : Cf} {m m' : Ms} {ps qs : List (Int × Int)} (F : Fx c c' qs) (G : Go c c' m m' ps qs) (hs : Mc.still c' m' = false) : Go c c' (tick c m) (tick c' m') (upN (tick c' m').done (outsR c'.rs (tick c' m').lanes) ps) qs:=by
 have hd : (tick c' m').done = m'.done + 1:=zkT c' m'
 have h0:=G.d
 exact ⟨G.o.tick,G.o'.tick,G.g.tick F.R G.o,G.g'.tick F.R' G.o',G.b'.tick F.R' G.o' G.g',zhF F.al F.R F.R' G.o G.o' G.g G.g' G.b' F.hn' G.h G.pk hs G.ln F.hw,G.pk.next hs,by rw [zeq]; exact G.ln,by rw [zjn F.R' G.o' G.g' G.b' F.hn']; exact G.w,by rw [hd]; omega,zrw (by rw [hd]; omega) _ G.gp⟩
theorem Go.rest {c c' : Cf} {m m' : Ms} {ps qs : List (Int × Int)} (F : Fx c c' qs) (G : Go c c' m m' ps qs) (hs : Mc.still c' m' = true) : zcm c m = true /\ ps = qs:=by
 refine ⟨?_,?_⟩
 ·rw [zdF F.al G.h,<- zfv F.R' G.o' G.g' G.b' F.hn']
  exact hs
 ·cases G.pk with
  | stop _=>rfl
  | go h _=>rw [hs] at h; cases h
def co (x q : Int × Int) : Int:=if x.1 = q.1 then x.2 else 0
end Mc
namespace L2
open PySem PySem.Spec PyProof.Rows PySem.W PySem.Calls
section
variable {X : Cx} {pins : List (Addr × Obj)} {σ : St} {H : Hp} {s : Shared}
end
section
variable {X : Cx} {k j : Nat} {f C : Addr} {fd : FuncData} {ps : List Str} {x qual fld : Str} {st : Stmt} {p pos : Pos} {e : Expr} {es : List Expr} {t : TA}
end
end L2
namespace L2
open PySem PySem.Spec PyProof.Rows
theorem ziO {c : Nat} {xs : Array Nat} : ∀ (n : Nat) (acc : Array Nat),c ∈ ((List.replicate n xs).foldl (·++ ·) acc).toList -> c ∈ acc.toList \/ c ∈ xs.toList
 | 0,acc,h=>.inl h
 | n + 1,acc,h=>by
   rw [List.replicate_succ,List.foldl_cons] at h
   rcases ziO n _ h with z | z
   ·rw [Array.toList_append] at z
    exact (List.mem_append.mp z)
   ·exact .inr z
theorem zgD {xs : Array Nat} : ∀ (n : Nat) (acc : Array Nat),((List.replicate n xs).foldl (·++ ·) acc).size = acc.size + xs.size * n
 | 0,acc=>by rw [Nat.mul_zero]; rfl
 | n + 1,acc=>by
   rw [List.replicate_succ,List.foldl_cons,zgD n,Array.size_append,Nat.mul_succ]
   omega
section
variable {X : Cx}
end
end L2
namespace Hd
open PySem PySem.W PyProof.Rows L2
noncomputable section
abbrev qr (n : Nat) : Value:=.ref n
abbrev qi (n : Nat) : Value:=.int (Int.ofNat n) 0
abbrev qs (x : String) (t : Nat) : Value:=.str (Str.ofString x) t
abbrev qt (x : String) : Value:=.type x
abbrev qb (x : String) : Value:=.builtin x
abbrev qe (P : Params) (x : String) (t : Nat) (v : Value) : DictEntry:=⟨PyData.keyHash P (Str.ofString x),.str (Str.ofString x) t,v⟩
abbrev qF (x y : String) (st : Stmt) (dV kV doc pm : Value) (an : Option Addr) (cd ct : Value) : Data:=.func (fnOf (Str.ofString x) (Str.ofString y) (zak st) (zaj st) (zab st) dV kV doc pm an cd ct)
abbrev qG (g b : Addr) (x y : String) (st : Stmt) (dV kV doc pm : Value) (an : Option Addr) (cd ct : Value) : Data:=.func { name:=Str.ofString x,qualname:=Str.ofString y,params:=zak st,body:=.stmts (zaj st),scope:=zab st,globals:=g,closure:=[],defaults:=dV,kwdefaults:=kV,doc,pyModule:=pm,annotations:=an,code:=cd,closureTuple:=ct,builtins:=b }
abbrev qT (l : List Value) : Obj:=⟨.type "tuple",.none,.seq l.toArray 0,#[]⟩
abbrev qN (l : List Value) : Obj:=⟨.none,.none,.fields l.toArray,#[]⟩
abbrev qf (x y : String) (st : Stmt) (pm cd : Value) : Obj:=⟨.type "function",.none,qF x y st .none .none .none pm .none cd .none,#[]⟩
abbrev qg (x y : String) (st : Stmt) : Obj:=⟨.none,.none,qG 0 0 x y st .none .none .none .none .none .none .none,#[]⟩
abbrev qC (x y : String) (t l a b d f r1 : Nat) (g : Bool) (r2 : Nat) (v1 v2 v3 v4 : Value) (k t3 : Nat) : Obj:=⟨.type "code",.none,.fields #[qs x t,qs y (t + 1),qs "/claim/cut.py" (t + 2),qi l,qi a,qi b,qi d,qi f,qr r1,.bool g,qi 181,qr r2,v1,v2,v3,v4,qi k,qi l,qs "/claim/cut.py" t3],#[]⟩
structure HD where
 N : Nat
 n1 : Nat
 n2 : Nat
 n3 : Nat
 n4 : Nat
 d1 : Drawn
 k1 : Nat
 d2 : Drawn
 k2 : Nat
 d3 : Drawn
 k3 : Nat
 many : Nat
 few : Nat
 fp : Pos
 p1 : Pos
 p2 : Pos
 p3 : Pos
 cd : Value
 fr : Nat
 ann : Option Value
def alt : List Obj -> List Obj × List Obj
 | []=>([],[])
 | a :: l=>let r:=alt l; (a :: r.2,r.1)
def tree : Nat -> List Obj -> BT
 | 0,_=>.nil
 | n + 1,l=>match l with
   | []=>.nil
   | a :: l=>let r:=alt l; .node a (tree n r.1) (tree n r.2)
abbrev envH (p : Program) (D : HD) : Env:={ scope:=p.main.scope,locals:=mainNs,globals:=mainNs,cells:=[],code:=D.cd,frame:=some D.fr }
abbrev zdu (p : Program) (D : HD) : Code:=.body (behindTheImports p) (envH p D)
abbrev S0 (w : World) (os : OsState) : Shared:=⟨boot_heap w.params,Array.mk [],boot_drawn,boot_toks,os⟩
abbrev SA (D : HD) (L : Life) (A : Params -> List Obj) (w : World) (os : OsState) : Shared:=⟨⟨⟨A w.params⟩,L⟩,Array.mk [],D.d1,D.k1,os⟩
abbrev SB (D : HD) (L : Life) (A : Params -> List Obj) (w : World) (os : OsState) : SharedT:=⟨tree 12 (A w.params),D.few,L,Array.mk [],D.d2,D.k2,os⟩
abbrev SC (D : HD) (L : Life) (O : Params -> List Obj) (w : World) (os : OsState) : SharedT:=⟨tree 12 (O w.params),D.many,L,Array.mk [],D.d3,D.k3,os⟩
abbrev SF (D : HD) (L : Life) (O : Params -> List Obj) (w : World) (os : OsState) : Shared:=⟨⟨⟨O w.params⟩,L⟩,Array.mk [],D.d3,D.k3,os⟩
abbrev tbF:=PySem.W.Fast.tw14364793385576792824
abbrev Pre (p : Program) (D : HD) (L : Life) (A : Params -> List Obj) : Prop:=∀ (w : World) (os : OsState),PySem.W.Fast.tw15667345088766844465 tbF p w 11 D.ann D.n1 (S0 w os) (topStub p) =
 some (SA D L A w os,⟨PySem.W.Fast.tw11892475500146522536 tbF (zdu p D),zdu p D,D.p1,[topFrame D.fp]⟩)
abbrev Blk (p : Program) (D : HD) (L : Life) (A : Params -> List Obj) : Prop:=∀ (w : World) (os : OsState),PySem.W.Fast.tw14374325043358763698 tbF p w 11 D.ann 1 (D.n2 + 1) (SA D L A w os) (blockOf (behindTheImports p) (envH p D) (zdu p D) D.p1 [topFrame D.fp]) =
 some (.next,(SB D L A w os).abs,zdu p D,D.p2)
abbrev Go (p : Program) (D : HD) (L : Life) (A O : Params -> List Obj) : Prop:=∀ (w : World) (os : OsState),PySem.W.Fast.tw10110043849684766642 tbF p w 11 D.ann 1 (D.n3 + 1) (SB D L A w os) (piecesOf (behindTheImports p) (envH p D) (zdu p D) D.p2 [topFrame D.fp]) =
 some (.next,SC D L O w os,zdu p D,D.p3)
abbrev Fin (p : Program) (D : HD) (L : Life) (O : Params -> List Obj) : Prop:=∀ (w : World) (os : OsState),PySem.W.Fast.tw14082659384304107361 tbF p w 11 D.ann (D.n4 + 1) (SC D L O w os).abs ⟨doneF .next,zdu p D,D.p3,[topFrame D.fp]⟩ = some (SF D L O w os)
theorem zmy : treeTable = tbF:=PySem.W.Fast.te14364793385576792824
theorem zkX {p : Program} {D : HD} {L : Life} {A O : Params -> List Obj} (h1 : Pre p D L A) (h2 : Blk p D L A) (h3 : Go p D L A O) (h4 : Fin p D L O) (w : World) (os : OsState) :
 topRun treeTable p w 11 D.ann (D.n1 + ((D.n2 + 1) + ((D.n3 + 1) + (D.n4 + 1)))) (S0 w os) (topStub p) = some (SF D L O w os):=by
 have e1 : topGo treeTable p w 11 D.ann D.n1 (S0 w os) (topStub p) = some (SA D L A w os,⟨denote treeTable (zdu p D),zdu p D,D.p1,[topFrame D.fp]⟩):=by
  rw [PySem.W.Fast.te15667345088766844465,PySem.W.Fast.te11892475500146522536,zmy]; exact h1 w os
 have e2 : segRun treeTable p w 11 D.ann 1 (D.n2 + 1) (SA D L A w os) (blockOf (behindTheImports p) (envH p D) (zdu p D) D.p1 [topFrame D.fp]) = some (.next,(SB D L A w os).abs,zdu p D,D.p2):=by
  rw [PySem.W.Fast.te14374325043358763698,zmy]; exact h2 w os
 have e3 : segRunT treeTable p w 11 D.ann 1 (D.n3 + 1) (SB D L A w os) (piecesOf (behindTheImports p) (envH p D) (zdu p D) D.p2 [topFrame D.fp]) = some (.next,SC D L O w os,zdu p D,D.p3):=by
  rw [PySem.W.Fast.te10110043849684766642,zmy]; exact h3 w os
 have e4 : topRun treeTable p w 11 D.ann (D.n4 + 1) (SC D L O w os).abs ⟨doneF .next,zdu p D,D.p3,[topFrame D.fp]⟩ = some (SF D L O w os):=by
  rw [PySem.W.Fast.te14082659384304107361,zmy]; exact h4 w os
 refine go_top e1 (piece_block e2 ?_)
 have:=piece_app (rest:=[]) (segRun_of e3) (piece_nil (env:=envH p D) e4)
 rw [List.append_nil] at this
 exact this
abbrev HF (L : Life) (O : Params -> List Obj) (w : World) : Heap:=⟨⟨O w.params⟩,L⟩
abbrev imF:=PySem.W.Fast.tw5923862056798008813
theorem zux : importedModules = imF:=PySem.W.Fast.te5923862056798008813
abbrev Lk1 (p : Program) (D : HD) (L : Life) (O : Params -> List Obj) : Prop:=∀ (w : World) (os : OsState),
 (staticsOk (imF p.main.body) (boot_heap w.params) (HF L O w) && namesBound p (HF L O w) && gensDone (SF D L O w os) && laidKept (boot_heap w.params) (HF L O w)) = true
abbrev Lk2 (p q : Program) (D : HD) (L : Life) (O : Params -> List Obj) (Xt : Shared -> Bool) : Prop:=∀ (w : World) (os : OsState),
 PySem.W.Fast.tw4187177175401517315 q [] (imF p.main.body) Xt true (SF D L O w os) = openGood q []
abbrev Lk3 (D : HD) (L : Life) (O : Params -> List Obj) (K : Params -> Frag) (as : List Addr) : Prop:=∀ (w : World) (os : OsState),
 as.map (SF D L O w os).heap.get? = (K w.params).map fun x=>some x.2
theorem zkD (w : World) (D : HD) (ha : D.ann = some (.ref 6)) : ((boot_heap w.params).isNs mainGlobals && (Array.mk [] : Array GenState).size == 0,(boot_heap w.params).objs.size,(boot_heap w.params).nsMap mainGlobals "__annotations__") = (true,11,D.ann):=by
 rw [ha]; kernel_rfl
theorem znp {p q : Program} {D : HD} {L : Life} {A O : Params -> List Obj} {Xt : Shared -> Bool} {K : Params -> Frag} {as : List Addr} {N : Nat} {e : ∀ P,as = (K P).map (·.1)}
 (h0 : opening p = plainProg p.main.scope.names) (h0' : ∀ s,fenceModules? p s = some s) (h6 : Nat.ble 600 N = true) (ha : D.ann = some (.ref 6)) (hn : Nat.ble (D.n1 + ((D.n2 + 1) + ((D.n3 + 1) + (D.n4 + 1)))) N = true)
 (h1 : Pre p D L A) (h2 : Blk p D L A) (h3 : Go p D L A O) (h4 : Fin p D L O) (l1 : Lk1 p D L O) (l2 : Lk2 p q D L O Xt) (l3 : Lk3 D L O K as) :
 LeftO p q [] Xt (Hook.obs (kHook K as e)) (Hook.val (kHook K as e)) N :=
 LeftO.of_pieces (H₀:=boot_heap) (H₁:=fun P=>⟨⟨O P⟩,L⟩) (gs₀:=Array.mk []) (gs₁:=Array.mk []) (d₁:=D.d3) (k₁:=D.k3) (m₀:=11) (ann:=D.ann) (boot_open h0 h6 h0') (fun w=>zkD w D ha) (zkX h1 h2 h3 h4) hn fun w=>funext fun os=>by
  have a1:=l1 w os
  have a2:=l2 w os
  rw [<- zux] at a1 a2
  rw [<- PySem.W.Fast.te4187177175401517315] at a2
  exact looks_pair a1 (looks_pair a2 (l3 w os))
abbrev zrT:=PySem.W.Fast.tw9446332074065402090
abbrev zpA (s : Stmt) : Pos:=match s with
 | .FunctionDef _ _ _ _ _ _ _ _ _ p=>p
 | _=>⟨0,0,0,0⟩
abbrev zoa (x : String) (s : Stmt) : DefRec:=⟨Str.ofString x,zak s,zaj s,zab s,zpA s⟩
abbrev XtH (l : OpenLaw) (q : Program) : Shared -> Bool:=fun s=>xlAt q [] s && recOk (RowW.records l.row.toRowW) s
theorem holds {l : OpenLaw} {q : Program} {K : Params -> Frag} {as : List Addr} {e : ∀ P,as = (K P).map (·.1)} {N : Nat} {x : String} {st : Stmt} (said : zrT l = true)
 (left : LeftO l.row.prog q [] (XtH l q) (Hook.obs (kHook K as e)) (Hook.val (kHook K as e)) N) (hdef : defOf q l.row.name = some (zoa x st,[]))
 (hp : l.row.prog.theDef l.row.name = some (zak st,zaj st,zab st)) (hk : kwWritten? (zak st).kwonlyargs (zak st).kw_defaults = some []) (hwr : (!l.row.writes || l.row.records.isEmpty) = true)
 (ok : (chainsOk q && opensWell l.row.prog && (frees l.row.toRowW && l.row.within.isEmpty)) = true) (hb : l.row.prog.bare) (hw : l.row.toRowW.promised)
 (call : WalkO q [] (XL q []) (Hook.says (kHook K as e)) l.row.toRowW (zoa x st) [] fun f vs=>PySem.call f vs) : l.Holds :=
 have said : l.wellSaid = true:=(congrFun PySem.W.Fast.te9446332074065402090 l).trans said
 holds_law said fun rs=>holds_open (d:=zoa x st) (kwd:=[]) left (Hook.of _) (Hook.keeps _) (fun s z=>xl_of s (Bool.and_eq_true_iff.mp z).1) XL.keeps hdef hp hk (fun s z=>recFacts_of (Bool.and_eq_true_iff.mp z).2) hwr rs ok hb hw call
end
end Hd
namespace L2
open PySem PySem.Spec PyProof.Rows
section
variable {X : Cx}
end
end L2
namespace Mc
open PySem L2
abbrev ky (x : String) : Key:=Sum.inr (Str.ofString x)
def nowK (c : Cf) (A : Adr) (m : Ms) : List (Key × V):=[(ky "lanes",.ref A.L),(ky "row",.str c.keys),(ky "next",.int (m.at_ : Int)),(ky "line",.ref A.l),(ky "inside",.ref A.h),(ky "left",.int m.togo),(ky "casting",.int c.cast),(ky "bar",.ref A.b),(ky "slugs",.ref A.t),(ky "waits",.int m.waits),(ky "done",.int m.done)]
structure Now (c : Cf) (H : Hp) (d : Addr) (A : Adr) (m : Ms) : Prop where
 dic : H d = some (.dK (nowK c A m))
 nd : A.all.Nodup
 li : Lists c H A m
theorem Now.get {c : Cf} {H : Hp} {d : Addr} {A : Adr} {m : Ms} {k : Key} {v : V} (h : Now c H d A m) (e : valV (nowK c A m) k = some v) : DGet H d (kV k) (some v):=by
 have:=DGet.k (k:=k) h.dic
 rw [e] at this
 exact this
theorem Now.same {c : Cf} {H H' : Hp} {d : Addr} {A : Adr} {m : Ms} (h : Now c H d A m) (s : Same H H') : Now c H' d A m:=⟨s _ _ h.dic,h.nd,h.li.keep (Keep.of_same (S:=fun _=>True) s) fun _ _=>trivial⟩
theorem Now.apart {c : Cf} {H H' : Hp} {d q : Addr} {A B B' : Adr} {m : Ms} (h : Now c H d A m) (s : Step q B H B' H') (hq : d ≠ q) (hB : d ∉ B.all) (hA : ∀ a ∈ A.all,a ≠ q /\ a ∉ B.all) : Now c H' d A m :=
 ⟨s.fr _ _ h.dic (.inl ⟨hq,hB⟩),h.nd,h.li.keep (S:=fun b=>b ≠ q /\ b ∉ B.all) (fun b o hb hs=>s.fr b o hb hs) hA⟩
theorem znH {H : Hp} {d a : Addr} {kvs : List (Key × V)} {ys : List V} {o : HO} (h : H d = some (.dK kvs)) (ha : H a = some (.lst ys)) : upd H a o d = some (.dK kvs):=by
 rw [zah (zcP h ha fun z=>by cases z)]
 exact h
theorem Now.lane {c : Cf} {H : Hp} {p : Addr} {A : Adr} {m : Ms} {k : Nat} (h : Now c H p A m) (O : Ok c m) (hk : k < c.rs.length) : ∃ q l,A.ls[k]? = some q /\ m.lanes[k]? = some l /\ LnAt H q l /\ atI (A.ls.map V.ref) (k : Int) = some (.ref q):=by
 have hl : k < m.lanes.length:=by rw [O.ln]; exact hk
 obtain ⟨q,hq,hln⟩:=Cs.zeD h.li.lns (List.getElem?_eq_getElem hl)
 exact ⟨q,_,hq,List.getElem?_eq_getElem hl,hln,zbi (by rw [List.getElem?_map,hq]; rfl)⟩
theorem Now.new {c : Cf} {H : Hp} {p : Addr} {A : Adr} {m : Ms} {e : Addr} (h : Now c H p A m) (he : H e = none) : e ∉ A.all:=fun z=>by
 obtain ⟨xs,ex⟩:=h.li.is e z
 rw [he] at ex
 cases ex
end Mc
namespace L2
open PySem PySem.Spec PyProof.Rows
end L2
namespace Mc
open PySem L2
theorem Now.aside {c : Cf} {H : Hp} {d X : Addr} {A : Adr} {m : Ms} {ys : List V} {o : HO} (h : Now c H d A m) (hx : H X = some (.lst ys)) (n : X ∉ A.all) : Now c (upd H X o) d A m :=
 ⟨znH h.dic hx,h.nd,h.li.keep (Keep.lst hx) fun a ha e=>n (by rw [<- e]; exact ha)⟩
theorem Step.listN {c : Cf} {H H' : Hp} {d X : Addr} {A A' : Adr} {m : Ms} {ys : List V} (s : Step d A H A' H') (N : Now c H d A m) (h : H X = some (.lst ys)) (n : X ∉ A.all) : H' X = some (.lst ys) /\ X ∉ A'.all:=by
 refine ⟨s.fr X _ h (.inl ⟨zcP h N.dic (fun z=>by cases z),n⟩),fun z=>?_⟩
 rcases s.nw X z with z | z
 ·exact n z
 ·rw [h] at z
  cases z
structure NwAt (c : Cf) (H0 H : Hp) (d n q : Addr) (B : Adr) (m : Ms) (ps : List (Int × Int)) : Prop where
 now : Now c H d B m
 sm : Same H0 H
 new : ∀ b ∈ B.all,H0 b = none
 dn : H0 d = none
 nn : H0 n = none
 qn : H0 q = none
 nq : n ≠ q
 na : n ∉ B.all
 qa : q ∉ B.all
 hn : H n = some (.lst ((ps.map fun x=>x.1).map V.int))
 hq : H q = some (.lst ((ps.map fun x=>x.2).map V.int))
theorem NwAt.same {c : Cf} {H0 H H' : Hp} {d n q : Addr} {B : Adr} {m : Ms} {ps : List (Int × Int)} (h : NwAt c H0 H d n q B m ps) (s : Same H H') : NwAt c H0 H' d n q B m ps :=
 ⟨h.now.same s,h.sm.trans s,h.new,h.dn,h.nn,h.qn,h.nq,h.na,h.qa,s _ _ h.hn,s _ _ h.hq⟩
theorem NwAt.step {c : Cf} {H0 H H' : Hp} {d n q : Addr} {B B' : Adr} {m m' : Ms} {ps : List (Int × Int)} (h : NwAt c H0 H d n q B m ps) (s : Step d B H B' H') (N : Now c H' d B' m') : NwAt c H0 H' d n q B' m' ps:=by
 obtain ⟨s1,s2⟩:=s.same h.sm h.dn h.new
 obtain ⟨n1,n2⟩:=s.listN h.now h.hn h.na
 obtain ⟨q1,q2⟩:=s.listN h.now h.hq h.qa
 exact ⟨N,s1,s2,h.dn,h.nn,h.qn,h.nq,n2,q2,n1,q1⟩
theorem NwAt.setN {c : Cf} {H0 H : Hp} {d n q : Addr} {B : Adr} {m : Ms} {ps : List (Int × Int)} {vs : List V} (h : NwAt c H0 H d n q B m ps) :
 Now c (upd H n (.lst vs)) d B m /\ Same H0 (upd H n (.lst vs)) /\ upd H n (.lst vs) q = some (.lst ((ps.map fun x=>x.2).map V.int)) :=
 ⟨h.now.aside h.hn h.na,zau h.sm h.nn,by rw [zah h.nq.symm]; exact h.hq⟩
theorem NwAt.set {c : Cf} {H0 H H1 : Hp} {d n q : Addr} {B : Adr} {m : Ms} {ps qs : List (Int × Int)} (h : NwAt c H0 H d n q B m ps) (s : Same (upd H n (.lst ((qs.map fun x=>x.1).map V.int))) H1) :
 NwAt c H0 (upd H1 q (.lst ((qs.map fun x=>x.2).map V.int))) d n q B m qs:=by
 obtain ⟨a1,a2,a3⟩:=h.setN (vs:=(qs.map fun x=>x.1).map V.int)
 have hq1:=s _ _ a3
 exact ⟨(a1.same s).aside hq1 h.qa,zau (a2.trans s) h.qn,h.new,h.dn,h.nn,h.qn,h.nq,h.na,h.qa,by rw [zah h.nq]; exact s _ _ upd_same,upd_same⟩
theorem zmh {c : Cf} (O : OkC c) (hm : ∀ r ∈ c.rs,OkM c (r.s,r.t)) (hs : ((zbf c.rs).map List.length).sum <= 2000) : Ok c (start c.rs):=by
 refine ⟨O,?_,fun l hl x hx=>?_,(fun x hx=>nomatch hx),(fun x hx=>nomatch hx),(fun x hx=>nomatch hx),Nat.zero_le _,fun _=>rfl,?_,Nat.le_refl _,(fun x hx=>nomatch hx),fun z=>absurd rfl z⟩
 ·show (zbf c.rs).length = c.rs.length
  unfold zbf
  rw [List.length_map]
 ·obtain ⟨r,hr,rfl⟩:=List.mem_map.mp hl
  rw [List.eq_of_mem_replicate hx]
  exact hm r hr
 ·show ((zbf c.rs).map List.length).sum + 0 + 0 + 0 <= 2000 + 0
  omega
theorem zkt {rs : List Cs.Row} : ∀ {ls : List (List Str)},(∀ l ∈ ls,l ≠ [] /\ ∀ x ∈ l,Wd rs 5 x) -> (Lns.keyT ls).length <= 7 * (ls.map List.length).sum
 | [],_=>Nat.le_trans (Nat.le_of_eq (show (Str.ofString "").length = 0 by decide)) (Nat.zero_le _)
 | l :: r,h=>by
   obtain ⟨h1,h2⟩:=h l List.mem_cons_self
   have a:=ziq (Nat.le_refl l.length) h2
   have b:=zkt fun l hl=>h l (List.mem_cons_of_mem _ hl)
   have c : 0 < l.length:=List.length_pos_iff.mpr h1
   show (Lns.zbh l ++ "/" ++ Lns.keyT r).length <= _
   rw [Str.length_append,Str.length_append,List.map_cons,List.sum_cons]
   have e : ("/" : Str).length = 1:=by decide
   omega
end Mc
namespace L2
open PySem PySem.Spec PyProof.Rows PySem.W PySem.Calls
def zsB (C : Addr) (sp : Sp) (dvs : List V) (E : St -> XK) (t : TA) : TE:=fun σ H Q=>t σ H fun vs H1=>∀ x dx,H1 x = none -> H1 dx = none -> dx ≠ x -> sp (.ref x :: (vs ++ dvs)) (upd (upd H1 dx (.own x)) x (.ins C dx [])) (fun v H2=>v = .non /\ Q (.ref x) H2) (E σ)
section
variable {X : Cx} {k j : Nat} {C f L : Addr} {fd : FuncData} {ps : List Str} {sp : Sp} {E : St -> XK} {x qual : Str} {st : Stmt} {p pos : Pos} {e : Expr} {es : List Expr} {t : TA} {ds : List Value} {dvs : List V}
theorem zks {pins : List (Addr × Obj)} {σ : St} {H : Hp} {s : Shared} {Q : VK} {us : List Value} {vs : List V} (hL : X.env.frame = some L) (M : Mk X.K C f) (F : FnOk X.prog X.w X.K X.mg X.base (CX1 X.prog X.w) k f fd ps sp) (hr : Room (k + 1) X.A) (hb : zdM X.K fd ps ds) (hd : Vals dvs ds)
 (I : Inv (X.wish (Fly X E)) pins σ H s) (r : Vals vs us)
 (h : ∀ x dx,H x = none -> H dx = none -> dx ≠ x -> sp (.ref x :: (vs ++ dvs)) (upd (upd H dx (.own x)) x (.ins C dx [])) (fun v H2=>v = .non /\ Q (.ref x) H2) (E σ)) :
 wpAny (model X.prog X.w) X.A (call (.ref C) us) (EP (X.wish (Fly X E)) pins σ Q) (Fly X E) s:=by
 have hq:=h (s.heap.objs.size + 1) s.heap.objs.size (I.hok.fresh (Nat.le_succ _)) (I.hok.fresh (Nat.le_refl _)) (Nat.ne_of_lt (Nat.lt_succ_self _))
 have I2:=Inv.made (C:=C) I
 have r2 : Vals (V.ref (s.heap.objs.size + 1) :: (vs ++ dvs)) (Value.ref (s.heap.objs.size + 1) :: (us ++ ds)):=.cons rfl (r.append hd)
 have hl : (Value.ref (s.heap.objs.size + 1) :: us ++ ds).length = ps.length:=by
  have e:=r2.length
  rw [F.len _ _ _ _ hq] at e
  exact e.symm
 refine wpAny_call (zmi (f:=f) I.kIn M.makes M.init (beq_iff_eq.mp M.fn) (codeAny_mono (F.run _ X.stack _ _ ⟨Value.ref (s.heap.objs.size + 1) :: us,[]⟩ (Value.ref (s.heap.objs.size + 1) :: (us ++ ds)) _ _ (E σ) (hr.make C us [])
  (I2.env0.make C us []) (hb _ (Value.ref (s.heap.objs.size + 1) :: us) I2.kIn hl) r2 hq) fun r s' hq'=>?_))
 cases r with
 | error ev =>
   have hq' : CX1 X.prog X.w X.stack _ _ (E σ) ev s':=hq'
   obtain ⟨e,cls,dx,H',rfl,os,bare,un,hok,⟨h1,h2⟩,hx,hE⟩:=hq'
   have I0:=I2.unwish
   have I1 : Inv X pins σ H' s':=I0.call' (ch:=[]) os un hok bare fun b z=>absurd z (by simp)
   exact ⟨e,cls,dx,σ,H',L,rfl,hL,I1.nopins,⟨Nat.le_trans I0.sz h1,h2,I0.pnlt h1⟩,hx.mono fun hd t=>.inr ⟨_,t.mono fun b hb=>⟨Nat.le_trans I0.sz hb.1,hb.2,I0.pnlt hb.1⟩⟩,hE⟩
 | ok fl =>
   cases fl with
   | ret u =>
     obtain ⟨v,H',I3,rv,ev,q3⟩:=I2.after hq'
     subst ev
     exact ⟨rv,⟨V.ref (s.heap.objs.size + 1),H',I3,rfl,q3⟩⟩
   | next=>exact False.elim hq'
   | brk=>exact False.elim hq'
   | cont=>exact False.elim hq'
theorem zmV (d : DI X.K X.mg x qual st ps C f fd) (F : FnOk X.prog X.w X.K X.mg X.base (CX1 X.prog X.w) j f fd ps sp) (hr : Room k X.A) (hg : Gl X x) (hL : X.env.frame = some L) (ha : PA (X.wish (Fly X E)) (e :: es) t) (hjk : j + 1 <= k:=by decide) (hdb : (x == ("__debug__" : Str)) = false:=by decide)
 (he : starEach (e :: es) X.env = (false,eval e X.env) :: starEach es X.env:=by rfl) (hpl : (backTo pos (starEach es X.env)).any (·.1) = false:=by rfl) :
 PE (X.wish (Fly X E)) (.Call (.Name x p) (e :: es) [] pos) (zsB C sp [.non] E t):=by
 intro pins s σ H Q I h
 refine wpAny_Call_Name_kw (zcE I hg d.mg ?_ hdb)
 refine PySem.W.callWith_K (h₀:=X.base) I.ok.mod.kin d.mkr.kp (thn (ha pos pins s σ H _ I h) fun us s1 ⟨vs,H1,I1,r,q⟩=>⟨I1.kIn,?_⟩) he hpl
 exact zks (ds:=[.none]) (dvs:=[.non]) hL d.mkr F (hr.mono hjk) d.b1 (.cons rfl .nil) I1 r q
end
end L2
namespace L2
open PySem PySem.Spec PyProof.Rows
section
variable {X : Cx}
def zut : R2:=fun a b H Q=>∃ (x : Str) (n : Int),a = .int n /\ b = .str x /\ 1 <= n /\ n <= 100 /\ x.length <= 1000 /\ ∀ y : Str,(∀ c ∈ y.cps.toList,c ∈ x.cps.toList) -> y.length <= x.length * n.toNat -> Q (.str y) H
theorem znZ : OpR X (binaryOp .Mult) zut:=by
 intro pins s σ H a b v u Q I ra rb h
 obtain ⟨x,n,rfl,rfl,h1,h2,h3,q⟩:=h
 obtain ⟨t,rfl⟩:=ra
 obtain ⟨t',rfl⟩:=rb
 have hmul : x.length * n.toNat <= 100000:=Nat.le_trans (Nat.mul_le_mul h3 (show n.toNat <= 100 by omega)) (by decide)
 have hone : x.length <= x.length * n.toNat:=Nat.le_mul_of_pos_right _ (by omega)
 refine lm_binaryOp_repeat_right (T:="str") (U:="int") (by decide) (fun s'=>typeIs_int s' n t) (typeIs_str s x t') F.fills_int_mul noFill_str_mul F.slot_int_mul lm_noRepeat_int repeat_str F.slot_int_index.lookup
  (call_gives F.slot_int_mul (typeIs_int s n t) F.entry_int_mul (F.args_int_mul_2 _ _) (AutoIntG3.int___mul___int_str_0 n t x t')
    ⟨rfl,typeIs_str s x t',call_gives F.slot_str_mul (typeIs_str s x t') F.entry_str_mul (F.args_str_mul_2 _ _) (gives_str_mul x n t' t ?_ (fun _ _=>?_) (fun _ _=>?_)) ?_⟩)
 ·rw [decide_eq_false (by omega),decide_eq_false (by omega)]
  rfl
 ·have hd : (1000 : Int) <= (2 ^ 63 - 1) / n:=by
   rw [Int.le_ediv_iff_mul_le (by omega)]
   omega
  omega
 ·show decide (x.length * n.toNat > sizeLine) = false
  rw [decide_eq_false]
  rw [sizeLine_eq]
  omega
 ·rw [if_neg (by omega)]
  split
  ·exact ⟨.str x,H,I,⟨t',rfl⟩,q x (fun _ h=>h) hone⟩
  ·have hz : ((List.replicate n.toNat x.cps).foldl (·++ ·) #[]).size = x.length * n.toNat:=by
    rw [zgD]
    show 0 + x.length * n.toNat = _
    omega
   refine ⟨?_,.str _,H,I.tok _,⟨_,rfl⟩,q _ (fun c hc=>?_) (Nat.le_of_eq hz)⟩
   ·show ((List.replicate n.toNat x.cps).foldl (·++ ·) #[]).size <= sizeLine
    rw [hz,sizeLine_eq]
    omega
   rcases ziO _ _ hc with z | z
   ·cases z
   ·exact z
end
end L2
namespace L2
open PySem PySem.Spec PyProof.Rows PySem.W PySem.Calls
def zqD (f1 f2 : Addr) (sp1 sp2 : Sp) (E : St -> XK) (tf : TE) (t : TA) : TE:=fun σ H Q=>tf σ H fun v H1=>(v = .ref f1 /\ t σ H1 fun vs H2=>sp1 vs H2 Q (E σ)) \/ (v = .ref f2 /\ t σ H1 fun vs H2=>sp2 vs H2 Q (E σ))
section
variable {X : Cx} {k j1 j2 : Nat} {f1 f2 L : Addr} {fd1 fd2 : FuncData} {ps1 ps2 : List Str} {sp1 sp2 : Sp} {E : St -> XK} {x1 x2 : Str} {st1 st2 : Stmt} {p pos : Pos} {o i e : Expr} {es : List Expr} {tf : TE} {t : TA}
theorem zvi (d1 : D X.K X.mg x1 st1 ps1 f1 fd1) (d2 : D X.K X.mg x2 st2 ps2 f2 fd2) (F1 : FnOk X.prog X.w X.K X.mg X.base (CX1 X.prog X.w) j1 f1 fd1 ps1 sp1) (F2 : FnOk X.prog X.w X.K X.mg X.base (CX1 X.prog X.w) j2 f2 fd2 ps2 sp2) (hr : Room k X.A) (hL : X.env.frame = some L)
 (hf : PE (X.wish (Fly X E)) (.Subscript o i p) tf) (ha : PA (X.wish (Fly X E)) (e :: es) t) (h1 : j1 <= k:=by decide) (h2 : j2 <= k:=by decide)
 (he : starEach (e :: es) X.env = (false,eval e X.env) :: starEach es X.env:=by rfl) (hpl : (backTo pos (starEach es X.env)).any (·.1) = false:=by rfl) :
 PE (X.wish (Fly X E)) (.Call (.Subscript o i p) (e :: es) [] pos) (zqD f1 f2 sp1 sp2 E tf t):=by
 intro pins s σ H Q I h
 show wpAny _ _ (do callWith pos (<- eval (.Subscript o i p) X.env) [] (backTo pos (starEach (e :: es) X.env)) (backToKw pos (keywordEach [] X.env))) _ _ _
 refine wpAny_bind (thn (hf pins s σ H _ I h) fun fv s1 ⟨v,H1,I1,rv,q⟩=>?_)
 rcases q with ⟨rfl,q⟩ | ⟨rfl,q⟩
 ·cases rv
  refine PySem.W.callWith_K (h₀:=X.base) I1.ok.mod.kin d1.fn.kp (thn (ha pos pins s1 σ H1 _ I1 q) fun us s2 ⟨vs,H2,I2,r,q2⟩=>⟨I2.kIn,?_⟩) he hpl
  exact zid hL (F1.mono h1) hr (.all d1.ba) I2 r q2
 ·cases rv
  refine PySem.W.callWith_K (h₀:=X.base) I1.ok.mod.kin d2.fn.kp (thn (ha pos pins s1 σ H1 _ I1 q) fun us s2 ⟨vs,H2,I2,r,q2⟩=>⟨I2.kIn,?_⟩) he hpl
  exact zid hL (F2.mono h2) hr (.all d2.ba) I2 r q2
end
end L2
namespace L2
open PySem
/-- behind a statement the rest and the names are lets: the proofs' terms stay small -/
theorem hideSeq {t u : TS} {D : Ends} {σ : St} {H : Hp} (h : let D' : Ends:={ D with nx:=u D }; t D' σ H) : tSeq t u D σ H:=h
theorem hideAll {t u : TS} {D : Ends} {σ : St} {H : Hp} (h : let D' : Ends:={ D with nx:=u D }; let σ' : St:=σ; t D' σ' H) : tSeq t u D σ H:=h
theorem exE {α β : Type} {f : β} {g : α -> β} {P : α -> Prop} {w : α} (e : f = g w) (h : P w) : ∃ v,f = g v /\ P v:=⟨w,e,h⟩
theorem gNameH {i : Nat} {v : V} {σ : St} {H : Hp} {Q : St -> Hp -> Prop} (h : Q (σ.set i (some v)) H) : zmq i v σ H Q:=h
end L2
namespace Lw
open PySem L2
set_option maxHeartbeats 4000000
section

def top (i : Nat) : Stmt:=PySem.Challenge.pw_linecaster_k49_needs_refused.main.body.getD i (.Pass ⟨0,0,0,0⟩)
abbrev s_wall : Stmt:=top 0
theorem sc_wall : FnScope ["k"] ["k"] (zab s_wall):=⟨rfl,rfl,rfl,by decide +kernel,rfl,by decide +kernel,by decide +kernel⟩
abbrev s_has_all : Stmt:=top 6
theorem zjk : FnScope ["teeth","others"] ["teeth","others"] (zab s_has_all):=⟨rfl,rfl,rfl,by decide +kernel,rfl,by decide +kernel,by decide +kernel⟩
abbrev s_falls_at : Stmt:=top 7
theorem zhy : FnScope ["codes","teeth","channel","code"] ["codes","teeth"] (zab s_falls_at):=⟨rfl,rfl,rfl,by decide +kernel,rfl,by decide +kernel,by decide +kernel⟩
abbrev s_channel_of : Stmt:=top 9
theorem zgc : FnScope ["case","sign","number","channel"] ["case","sign"] (zab s_channel_of):=⟨rfl,rfl,rfl,by decide +kernel,rfl,by decide +kernel,by decide +kernel⟩
abbrev s_codes_of_ : Stmt:=top 10
theorem zgC : FnScope ["case"] ["case"] (zab s_codes_of_):=⟨rfl,rfl,rfl,by decide +kernel,rfl,by decide +kernel,by decide +kernel⟩
abbrev s_is_sign_key : Stmt:=top 14
theorem zeV : FnScope ["key"] ["key"] (zab s_is_sign_key):=⟨rfl,rfl,rfl,by decide +kernel,rfl,by decide +kernel,by decide +kernel⟩
abbrev s_goes_on : Stmt:=top 15
theorem zjM : FnScope ["case","keys","at"] ["case","keys","at"] (zab s_goes_on):=⟨rfl,rfl,rfl,by decide +kernel,rfl,by decide +kernel,by decide +kernel⟩
abbrev s_look_at_keys : Stmt:=top 16
theorem zeC : FnScope ["case","keys","at"] ["case","keys"] (zab s_look_at_keys):=⟨rfl,rfl,rfl,by decide +kernel,rfl,by decide +kernel,by decide +kernel⟩
abbrev s_lines_of : Stmt:=top 17
theorem zie : FnScope ["case","keys"] ["case","keys"] (zab s_lines_of):=⟨rfl,rfl,rfl,by decide +kernel,rfl,by decide +kernel,by decide +kernel⟩
abbrev s_can_break : Stmt:=top 19
theorem sc_can_break : FnScope ["case","ahead","channel","teeth","sign","width","own","many"] ["case","ahead","channel","teeth"] (zab s_can_break):=⟨rfl,rfl,rfl,by decide +kernel,rfl,by decide +kernel,by decide +kernel⟩
abbrev s_channels_of : Stmt:=top 20
theorem zeN : FnScope ["case","broken","channels","ahead","at","part","channel","lost","sign","width","own","many"] ["case","broken"] (zab s_channels_of):=⟨rfl,rfl,rfl,by decide +kernel,rfl,by decide +kernel,by decide +kernel⟩
abbrev s_free_case : Stmt:=top 25
theorem zha : FnScope ["case","keys"] ["case","keys"] (zab s_free_case):=⟨rfl,rfl,rfl,by decide +kernel,rfl,by decide +kernel,by decide +kernel⟩
abbrev s_numbers_out : Stmt:=top 26
theorem zeL : FnScope ["free","machine"] ["free","machine"] (zab s_numbers_out):=⟨rfl,rfl,rfl,by decide +kernel,rfl,by decide +kernel,by decide +kernel⟩
abbrev s_needs_and_peaks : Stmt:=top 27
theorem zdi : FnScope ["case","keys","casting","free","machine","needs","peaks","channel","out"] ["case","keys","casting"] (zab s_needs_and_peaks):=⟨rfl,rfl,rfl,by decide +kernel,rfl,by decide +kernel,by decide +kernel⟩
abbrev s_need_of : Stmt:=top 28
theorem zjb : FnScope ["case","keys","casting","needs","peaks"] ["case","keys","casting"] (zab s_need_of):=⟨rfl,rfl,rfl,by decide +kernel,rfl,by decide +kernel,by decide +kernel⟩
abbrev s_peaks_of : Stmt:=top 29
theorem zhA : FnScope ["case","keys","casting","needs","peaks"] ["case","keys","casting"] (zab s_peaks_of):=⟨rfl,rfl,rfl,by decide +kernel,rfl,by decide +kernel,by decide +kernel⟩
abbrev s_law_cell_at : Stmt:=top 31
theorem zeX : FnScope ["_law_script","_law_k"] ["_law_script","_law_k"] (zab s_law_cell_at):=⟨rfl,rfl,rfl,by decide +kernel,rfl,by decide +kernel,by decide +kernel⟩
abbrev s_law_mixed : Stmt:=top 32
theorem zgR : FnScope ["_law_cell","_law_k"] ["_law_cell","_law_k"] (zab s_law_mixed):=⟨rfl,rfl,rfl,by decide +kernel,rfl,by decide +kernel,by decide +kernel⟩
abbrev s_law_bits : Stmt:=top 33
theorem zhR : FnScope ["_law_one","_law_many"] ["_law_one"] (zab s_law_bits):=⟨rfl,rfl,rfl,by decide +kernel,rfl,by decide +kernel,by decide +kernel⟩
abbrev s_law_teeth : Stmt:=top 34
theorem zhd : FnScope ["_law_number","_law_many","_law_teeth_here","_law_k","_law_one"] ["_law_number","_law_many"] (zab s_law_teeth):=⟨rfl,rfl,rfl,by decide +kernel,rfl,by decide +kernel,by decide +kernel⟩
abbrev s_law_case : Stmt:=top 35
theorem zhK : FnScope ["_law_script","_law_most","_law_signs","_law_number","_law_teeth_here","_law_case_here","_law_k","_law_one","_law_sign"] ["_law_script","_law_most"] (zab s_law_case):=⟨rfl,rfl,rfl,by decide +kernel,rfl,by decide +kernel,by decide +kernel⟩
abbrev s_law_lines : Stmt:=top 36
theorem zgH : FnScope ["_law_cells","_law_case_here","_law_lines_here","_law_k","_law_cell","_law_number","_law_word","_law_j"] ["_law_cells","_law_case_here"] (zab s_law_lines):=⟨rfl,rfl,rfl,by decide +kernel,rfl,by decide +kernel,by decide +kernel⟩
abbrev s_law_keys : Stmt:=top 37
theorem zhN : FnScope ["_law_lines_here"] ["_law_lines_here"] (zab s_law_keys):=⟨rfl,rfl,rfl,by decide +kernel,rfl,by decide +kernel,by decide +kernel⟩
abbrev s_law_spoilt : Stmt:=top 38
theorem zfS : FnScope ["_law_keys_here","_law_number","_law_case_here","_law_at","_law_signs","_law_strange","_law_sign","_law_put"] ["_law_keys_here","_law_number","_law_case_here"] (zab s_law_spoilt):=⟨rfl,rfl,rfl,by decide +kernel,rfl,by decide +kernel,by decide +kernel⟩
abbrev s_law_refused : Stmt:=top 39
theorem zeO : FnScope ["_law_e"] ["_law_e"] (zab s_law_refused):=⟨rfl,rfl,rfl,by decide +kernel,rfl,by decide +kernel,by decide +kernel⟩
abbrev s_law_due : Stmt:=top 40
theorem zjH : FnScope ["_law_case_here","_law_keys_here","_law_e"] ["_law_case_here","_law_keys_here"] (zab s_law_due):=⟨rfl,rfl,rfl,by decide +kernel,rfl,by decide +kernel,by decide +kernel⟩
abbrev s_law_told : Stmt:=top 41
theorem zig : FnScope ["_law_case_here","_law_keys_here","_law_way","_law_found","_law_e"] ["_law_case_here","_law_keys_here","_law_way"] (zab s_law_told):=⟨rfl,rfl,rfl,by decide +kernel,rfl,by decide +kernel,by decide +kernel⟩
abbrev s_law : Stmt:=top 42
theorem zrH : FnScope ["_law_script","_law_case_here","_law_keys_here","_law_k","_law_cell","_law_number","_law_some","_law_due_here"] ["_law_script"] (zab s_law):=⟨rfl,rfl,rfl,by decide +kernel,rfl,by decide +kernel,by decide +kernel⟩
abbrev s_init_NoCase : Stmt:=zai (top 3) 0
theorem zeU : FnScope ["self","at"] ["self","at"] (zab s_init_NoCase):=⟨rfl,rfl,rfl,by decide +kernel,rfl,by decide +kernel,by decide +kernel⟩
abbrev s_init_NoKeys : Stmt:=zai (top 4) 0
theorem zeP : FnScope ["self","at"] ["self","at"] (zab s_init_NoKeys):=⟨rfl,rfl,rfl,by decide +kernel,rfl,by decide +kernel,by decide +kernel⟩
abbrev zdx : List Str:=["lying","case","played","struck","casting","line","heated","to_go","hanging","texts","done","waits"]
theorem zaE : zdx.idxOf? ("lying" : Str) = some 0:=by decide +kernel
theorem zbj : zdx.idxOf? ("case" : Str) = some 1:=by decide +kernel
theorem zbx : zdx.idxOf? ("played" : Str) = some 2:=by decide +kernel
theorem zaw : zdx.idxOf? ("struck" : Str) = some 3:=by decide +kernel
theorem zbT : zdx.idxOf? ("casting" : Str) = some 4:=by decide +kernel
theorem zaR : zdx.idxOf? ("line" : Str) = some 5:=by decide +kernel
theorem zaq : zdx.idxOf? ("heated" : Str) = some 6:=by decide +kernel
theorem zaM : zdx.idxOf? ("to_go" : Str) = some 7:=by decide +kernel
theorem zaz : zdx.idxOf? ("hanging" : Str) = some 8:=by decide +kernel
theorem zct : zdx.idxOf? ("texts" : Str) = some 9:=by decide +kernel
theorem zbo : zdx.idxOf? ("done" : Str) = some 10:=by decide +kernel
theorem zbH : zdx.idxOf? ("waits" : Str) = some 11:=by decide +kernel
abbrev s_Machine_init : Stmt:=zai (top 23) 0
theorem zeo : FnScope ["self","case","keys","casting","broken"] ["self","case","keys","casting","broken"] (zab s_Machine_init):=⟨rfl,rfl,rfl,by decide +kernel,rfl,by decide +kernel,by decide +kernel⟩
abbrev s_Machine_next_key : Stmt:=zai (top 23) 1
theorem zdg : FnScope ["self"] ["self"] (zab s_Machine_next_key):=⟨rfl,rfl,rfl,by decide +kernel,rfl,by decide +kernel,by decide +kernel⟩
theorem zbe : zdx.idxOf? ("next_key" : Str) = none:=by decide +kernel
abbrev s_Machine_lacks_matrix : Stmt:=zai (top 23) 2
theorem zcn : FnScope ["self","channel"] ["self"] (zab s_Machine_lacks_matrix):=⟨rfl,rfl,rfl,by decide +kernel,rfl,by decide +kernel,by decide +kernel⟩
theorem zbk : zdx.idxOf? ("lacks_matrix" : Str) = none:=by decide +kernel
abbrev s_Machine_stuck : Stmt:=zai (top 23) 3
theorem zdI : FnScope ["self"] ["self"] (zab s_Machine_stuck):=⟨rfl,rfl,rfl,by decide +kernel,rfl,by decide +kernel,by decide +kernel⟩
theorem zdJ : zdx.idxOf? ("stuck" : Str) = none:=by decide +kernel
abbrev s_Machine_resting : Stmt:=zai (top 23) 4
theorem zdo : FnScope ["self"] ["self"] (zab s_Machine_resting):=⟨rfl,rfl,rfl,by decide +kernel,rfl,by decide +kernel,by decide +kernel⟩
theorem zdt : zdx.idxOf? ("resting" : Str) = none:=by decide +kernel
abbrev s_Machine_move_bar : Stmt:=zai (top 23) 5
theorem zdf : FnScope ["self","matrix"] ["self"] (zab s_Machine_move_bar):=⟨rfl,rfl,rfl,by decide +kernel,rfl,by decide +kernel,by decide +kernel⟩
theorem zcZ : zdx.idxOf? ("move_bar" : Str) = none:=by decide +kernel
abbrev s_Machine_move_caster : Stmt:=zai (top 23) 6
theorem zcu : FnScope ["self"] ["self"] (zab s_Machine_move_caster):=⟨rfl,rfl,rfl,by decide +kernel,rfl,by decide +kernel,by decide +kernel⟩
theorem zcx : zdx.idxOf? ("move_caster" : Str) = none:=by decide +kernel
abbrev s_Machine_move_line : Stmt:=zai (top 23) 7
theorem zcT : FnScope ["self","key"] ["self"] (zab s_Machine_move_line):=⟨rfl,rfl,rfl,by decide +kernel,rfl,by decide +kernel,by decide +kernel⟩
theorem zcV : zdx.idxOf? ("move_line" : Str) = none:=by decide +kernel
abbrev s_Machine_send_line : Stmt:=zai (top 23) 8
theorem zcS : FnScope ["self"] ["self"] (zab s_Machine_send_line):=⟨rfl,rfl,rfl,by decide +kernel,rfl,by decide +kernel,by decide +kernel⟩
theorem zcO : zdx.idxOf? ("send_line" : Str) = none:=by decide +kernel
abbrev s_Machine_take : Stmt:=zai (top 23) 9
theorem zdZ : FnScope ["self","part"] ["self","part"] (zab s_Machine_take):=⟨rfl,rfl,rfl,by decide +kernel,rfl,by decide +kernel,by decide +kernel⟩
theorem zcA : zdx.idxOf? ("take" : Str) = none:=by decide +kernel
abbrev s_Machine_tick : Stmt:=zai (top 23) 10
theorem zer : FnScope ["self"] ["self"] (zab s_Machine_tick):=⟨rfl,rfl,rfl,by decide +kernel,rfl,by decide +kernel,by decide +kernel⟩
theorem zeh : zdx.idxOf? ("tick" : Str) = none:=by decide +kernel
abbrev s_Machine_ticks : Stmt:=zai (top 23) 12
theorem zdL : FnScope ["self"] ["self"] (zab s_Machine_ticks):=⟨rfl,rfl,rfl,by decide +kernel,rfl,by decide +kernel,by decide +kernel⟩
theorem zdH : zdx.idxOf? ("ticks" : Str) = none:=by decide +kernel
abbrev s_Machine_channels : Stmt:=zai (top 23) 15
theorem zdd : FnScope ["self"] ["self"] (zab s_Machine_channels):=⟨rfl,rfl,rfl,by decide +kernel,rfl,by decide +kernel,by decide +kernel⟩
theorem no_Machine_channels : zdx.idxOf? ("channels" : Str) = none:=by decide +kernel
abbrev s_Machine_numbers_lying : Stmt:=zai (top 23) 16
theorem zca : FnScope ["self"] ["self"] (zab s_Machine_numbers_lying):=⟨rfl,rfl,rfl,by decide +kernel,rfl,by decide +kernel,by decide +kernel⟩
theorem zcg : zdx.idxOf? ("numbers_lying" : Str) = none:=by decide +kernel
set_option genInjectivity false
set_option genSizeOf false
structure Ad where
 f_wall : Addr
 d_wall : FuncData
 f_has_all : Addr
 d_has_all : FuncData
 f_falls_at : Addr
 d_falls_at : FuncData
 f_channel_of : Addr
 d_channel_of : FuncData
 f_codes_of_ : Addr
 d_codes_of_ : FuncData
 f_is_sign_key : Addr
 d_is_sign_key : FuncData
 f_goes_on : Addr
 d_goes_on : FuncData
 f_look_at_keys : Addr
 d_look_at_keys : FuncData
 f_lines_of : Addr
 d_lines_of : FuncData
 f_can_break : Addr
 d_can_break : FuncData
 f_channels_of : Addr
 d_channels_of : FuncData
 f_free_case : Addr
 d_free_case : FuncData
 f_numbers_out : Addr
 d_numbers_out : FuncData
 f_needs_and_peaks : Addr
 d_needs_and_peaks : FuncData
 f_need_of : Addr
 d_need_of : FuncData
 f_peaks_of : Addr
 d_peaks_of : FuncData
 f_law_cell_at : Addr
 d_law_cell_at : FuncData
 f_law_mixed : Addr
 d_law_mixed : FuncData
 f_law_bits : Addr
 d_law_bits : FuncData
 f_law_teeth : Addr
 d_law_teeth : FuncData
 f_law_case : Addr
 d_law_case : FuncData
 f_law_lines : Addr
 d_law_lines : FuncData
 f_law_keys : Addr
 d_law_keys : FuncData
 f_law_spoilt : Addr
 d_law_spoilt : FuncData
 f_law_refused : Addr
 d_law_refused : FuncData
 f_law_due : Addr
 d_law_due : FuncData
 f_law_told : Addr
 d_law_told : FuncData
 f_law : Addr
 d_law : FuncData
 c_Machine : Addr
 f_Machine_init : Addr
 d_Machine_init : FuncData
 f_Machine_next_key : Addr
 d_Machine_next_key : FuncData
 f_Machine_lacks_matrix : Addr
 d_Machine_lacks_matrix : FuncData
 f_Machine_stuck : Addr
 d_Machine_stuck : FuncData
 f_Machine_resting : Addr
 d_Machine_resting : FuncData
 f_Machine_move_bar : Addr
 d_Machine_move_bar : FuncData
 f_Machine_move_caster : Addr
 d_Machine_move_caster : FuncData
 f_Machine_move_line : Addr
 d_Machine_move_line : FuncData
 f_Machine_send_line : Addr
 d_Machine_send_line : FuncData
 f_Machine_take : Addr
 d_Machine_take : FuncData
 f_Machine_tick : Addr
 d_Machine_tick : FuncData
 f_Machine_ticks : Addr
 d_Machine_ticks : FuncData
 f_Machine_channels : Addr
 d_Machine_channels : FuncData
 f_Machine_numbers_lying : Addr
 d_Machine_numbers_lying : FuncData
 c_CasterError : Addr
 c_NoCase : Addr
 f_init_NoCase : Addr
 d_init_NoCase : FuncData
 c_NoKeys : Addr
 f_init_NoKeys : Addr
 d_init_NoKeys : FuncData
 t_GAP_KEY : Tok
 t_SEND_KEY : Tok
 t_WEDGE : Tok
structure Tx (K : PySem.W.Frag) (mg : Str -> Option Value) (a : Ad) : Prop where
 wall : D K mg "_wall" s_wall ["k"] a.f_wall a.d_wall
 has_all : D K mg "has_all" s_has_all ["teeth","others"] a.f_has_all a.d_has_all
 falls_at : D K mg "falls_at" s_falls_at ["codes","teeth"] a.f_falls_at a.d_falls_at
 channel_of : D K mg "channel_of" s_channel_of ["case","sign"] a.f_channel_of a.d_channel_of
 codes_of_ : D K mg "codes_of" s_codes_of_ ["case"] a.f_codes_of_ a.d_codes_of_
 is_sign_key : D K mg "is_sign_key" s_is_sign_key ["key"] a.f_is_sign_key a.d_is_sign_key
 goes_on : D K mg "goes_on" s_goes_on ["case","keys","at"] a.f_goes_on a.d_goes_on
 look_at_keys : D K mg "look_at_keys" s_look_at_keys ["case","keys"] a.f_look_at_keys a.d_look_at_keys
 lines_of : D K mg "lines_of" s_lines_of ["case","keys"] a.f_lines_of a.d_lines_of
 can_break : D K mg "can_break" s_can_break ["case","ahead","channel","teeth"] a.f_can_break a.d_can_break
 channels_of : D K mg "channels_of" s_channels_of ["case","broken"] a.f_channels_of a.d_channels_of
 free_case : D K mg "free_case" s_free_case ["case","keys"] a.f_free_case a.d_free_case
 numbers_out : D K mg "numbers_out" s_numbers_out ["free","machine"] a.f_numbers_out a.d_numbers_out
 needs_and_peaks : D K mg "needs_and_peaks" s_needs_and_peaks ["case","keys","casting"] a.f_needs_and_peaks a.d_needs_and_peaks
 need_of : D K mg "need_of" s_need_of ["case","keys","casting"] a.f_need_of a.d_need_of
 peaks_of : D K mg "peaks_of" s_peaks_of ["case","keys","casting"] a.f_peaks_of a.d_peaks_of
 law_cell_at : D K mg "_law_cell_at" s_law_cell_at ["_law_script","_law_k"] a.f_law_cell_at a.d_law_cell_at
 law_mixed : D K mg "_law_mixed" s_law_mixed ["_law_cell","_law_k"] a.f_law_mixed a.d_law_mixed
 law_bits : D K mg "_law_bits" s_law_bits ["_law_one"] a.f_law_bits a.d_law_bits
 law_teeth : D K mg "_law_teeth" s_law_teeth ["_law_number","_law_many"] a.f_law_teeth a.d_law_teeth
 law_case : D K mg "_law_case" s_law_case ["_law_script","_law_most"] a.f_law_case a.d_law_case
 law_lines : D K mg "_law_lines" s_law_lines ["_law_cells","_law_case_here"] a.f_law_lines a.d_law_lines
 law_keys : D K mg "_law_keys" s_law_keys ["_law_lines_here"] a.f_law_keys a.d_law_keys
 law_spoilt : D K mg "_law_spoilt" s_law_spoilt ["_law_keys_here","_law_number","_law_case_here"] a.f_law_spoilt a.d_law_spoilt
 law_refused : D K mg "_law_refused" s_law_refused ["_law_e"] a.f_law_refused a.d_law_refused
 law_due : D K mg "_law_due" s_law_due ["_law_case_here","_law_keys_here"] a.f_law_due a.d_law_due
 law_told : D K mg "_law_told" s_law_told ["_law_case_here","_law_keys_here","_law_way"] a.f_law_told a.d_law_told
 law : D K mg "law" s_law ["_law_script"] a.f_law a.d_law
 Machine : DI K mg "Machine" "Machine.__init__" s_Machine_init ["self","case","keys","casting","broken"] a.c_Machine a.f_Machine_init a.d_Machine_init
 Machine_next_key : DM K "next_key" "Machine.next_key" s_Machine_next_key ["self"] a.c_Machine a.f_Machine_next_key a.d_Machine_next_key
 Machine_lacks_matrix : DM K "lacks_matrix" "Machine.lacks_matrix" s_Machine_lacks_matrix ["self"] a.c_Machine a.f_Machine_lacks_matrix a.d_Machine_lacks_matrix
 Machine_stuck : DM K "stuck" "Machine.stuck" s_Machine_stuck ["self"] a.c_Machine a.f_Machine_stuck a.d_Machine_stuck
 Machine_resting : DM K "resting" "Machine.resting" s_Machine_resting ["self"] a.c_Machine a.f_Machine_resting a.d_Machine_resting
 Machine_move_bar : DM K "move_bar" "Machine.move_bar" s_Machine_move_bar ["self"] a.c_Machine a.f_Machine_move_bar a.d_Machine_move_bar
 Machine_move_caster : DM K "move_caster" "Machine.move_caster" s_Machine_move_caster ["self"] a.c_Machine a.f_Machine_move_caster a.d_Machine_move_caster
 Machine_move_line : DM K "move_line" "Machine.move_line" s_Machine_move_line ["self"] a.c_Machine a.f_Machine_move_line a.d_Machine_move_line
 Machine_send_line : DM K "send_line" "Machine.send_line" s_Machine_send_line ["self"] a.c_Machine a.f_Machine_send_line a.d_Machine_send_line
 Machine_take : DM K "take" "Machine.take" s_Machine_take ["self","part"] a.c_Machine a.f_Machine_take a.d_Machine_take
 Machine_tick : DM K "tick" "Machine.tick" s_Machine_tick ["self"] a.c_Machine a.f_Machine_tick a.d_Machine_tick
 Machine_ticks : DM K "ticks" "Machine.ticks" s_Machine_ticks ["self"] a.c_Machine a.f_Machine_ticks a.d_Machine_ticks
 Machine_channels : DM K "channels" "Machine.channels" s_Machine_channels ["self"] a.c_Machine a.f_Machine_channels a.d_Machine_channels
 Machine_numbers_lying : DM K "numbers_lying" "Machine.numbers_lying" s_Machine_numbers_lying ["self"] a.c_Machine a.f_Machine_numbers_lying a.d_Machine_numbers_lying
 n_Machine_lying : zbr K a.c_Machine "lying"
 n_Machine_case : zbr K a.c_Machine "case"
 n_Machine_played : zbr K a.c_Machine "played"
 n_Machine_struck : zbr K a.c_Machine "struck"
 n_Machine_casting : zbr K a.c_Machine "casting"
 n_Machine_line : zbr K a.c_Machine "line"
 n_Machine_heated : zbr K a.c_Machine "heated"
 n_Machine_to_go : zbr K a.c_Machine "to_go"
 n_Machine_hanging : zbr K a.c_Machine "hanging"
 n_Machine_texts : zbr K a.c_Machine "texts"
 n_Machine_done : zbr K a.c_Machine "done"
 n_Machine_waits : zbr K a.c_Machine "waits"
 cl_CasterError : CN K mg "CasterError" a.c_CasterError
 cl_NoCase : CI K mg "NoCase" "NoCase.__init__" s_init_NoCase ["self","at"] a.c_NoCase a.f_init_NoCase a.d_init_NoCase "at"
 cl_NoKeys : CI K mg "NoKeys" "NoKeys.__init__" s_init_NoKeys ["self","at"] a.c_NoKeys a.f_init_NoKeys a.d_init_NoKeys "at"
 bi : BI K a.c_CasterError
 m_NoCase_CasterError : PySem.W.mroIn K a.c_NoCase (.ref a.c_CasterError) = some true
 m_NoCase_NoCase : PySem.W.mroIn K a.c_NoCase (.ref a.c_NoCase) = some true
 m_NoCase_NoKeys : PySem.W.mroIn K a.c_NoCase (.ref a.c_NoKeys) = some false
 m_NoKeys_CasterError : PySem.W.mroIn K a.c_NoKeys (.ref a.c_CasterError) = some true
 m_NoKeys_NoCase : PySem.W.mroIn K a.c_NoKeys (.ref a.c_NoCase) = some false
 m_NoKeys_NoKeys : PySem.W.mroIn K a.c_NoKeys (.ref a.c_NoKeys) = some true
 g_GAP_KEY : mg "GAP_KEY" = some (.str " " a.t_GAP_KEY)
 g_SEND_KEY : mg "SEND_KEY" = some (.str "/" a.t_SEND_KEY)
 g_WEDGE : mg "WEDGE" = some (.str " " a.t_WEDGE)
 b_ValueError : mg "ValueError" = none
 b_enumerate : mg "enumerate" = none
 b_int : mg "int" = none
 b_isinstance : mg "isinstance" = none
 b_len : mg "len" = none
 b_list : mg "list" = none
 b_range : mg "range" = none
 b_sorted : mg "sorted" = none
 b_zip : mg "zip" = none
abbrev lawLevel : Nat:=10
end
end Lw
namespace Lw
open PySem L2
set_option maxHeartbeats 4000000
section
variable {P : Program} {w : World} {K : PySem.W.Frag} {mg : Str -> Option Value} {base : Heap} {a : Ad}
local macro_rules | `(tactic| walk_at "hk")=>`(tactic| first | assumption | exact upd_same | exact zaf (by assumption) _ _ _ (by walk_at "hk"))
local macro_rules | `(tactic| walk_at "rd1")=>`(tactic| first | (with_reducible refine hideAll ?_; intro Dzz σzz) | with_reducible refine gNameH ?_ | refine ⟨_,rfl,?_⟩ | refine ⟨_,_,rfl,rfl,?_⟩ | refine ⟨_,_,_,_,rfl,rfl,SqL.of (by walk_at "hk"),(by assumption),?_⟩ | refine And.intro rfl ?_ | refine And.intro (Nat.le_of_ble_eq_true rfl) ?_ | refine And.intro (by first | decide | omega) ?_ | refine And.intro ⟨by first | decide | omega,by first | decide | omega⟩ ?_ | refine And.intro (.inl ⟨by first | decide | omega,by first | decide | omega⟩) ?_ | refine And.intro (.inr ⟨by first | decide | omega,by first | decide | omega⟩) ?_ | refine ⟨_,_,rfl,SqT.of (by first | exact upd_same | assumption),rfl,?_⟩ | refine ⟨_,_,_,rfl,(by assumption),rfl,?_⟩ | refine ⟨_,_,rfl,(by assumption),?_⟩)
local macro_rules | `(tactic| walk_at "rd")=>`(tactic| repeat (walk_at "rd1"))
local macro_rules | `(tactic| walk_at "tg")=>`(tactic| refine ⟨_,_,rfl,?_⟩)
theorem ok_init_NoCase (T : Tx K mg a) : FnOk P w K mg base CX0 1 a.f_init_NoCase a.d_init_NoCase ["self","at"] (zdY a.c_NoCase "at"):=by
 refine T.cl_NoCase.fi.ok zeU (fun vs H Q E h=>?_) (fun cdv A outer s H vs Q E hr h=>?_)
 ·obtain ⟨e,i,rfl,_⟩:=h
  rfl
 obtain ⟨e,i,rfl,he,hi,q⟩:=h
 refine ⟨_,(zac (zaJ (ziA T.bi rfl T.cl_CasterError.mg (zaa (pv 0) (zaa (zvd zbL (zmU (pv 1)) zbL) zad)))) (zae (zlu (pv 0) (pv 1) rfl))),?_⟩
 refine ⟨_,rfl,?_⟩
 refine ⟨_,rfl,by decide,?_⟩
 refine ⟨_,rfl,?_⟩
 refine ⟨i,rfl,hi,fun x hx=>?_⟩
 refine ⟨x,rfl,hx,?_⟩
 refine ⟨_,rfl,by decide,fun y=>?_⟩
 refine ⟨e,a.c_NoCase,none,some a.f_init_NoCase,y,rfl,he,T.cl_NoCase.cls,?_⟩
 refine ⟨_,rfl,?_⟩
 refine ⟨_,rfl,?_⟩
 exact ⟨e,a.c_NoCase,rfl,he,T.cl_NoCase.xf,fun dx hdx=>q dx hdx⟩
theorem zeM (T : Tx K mg a) : FnOk P w K mg base CX0 1 a.f_init_NoKeys a.d_init_NoKeys ["self","at"] (zdY a.c_NoKeys "at"):=by
 refine T.cl_NoKeys.fi.ok zeP (fun vs H Q E h=>?_) (fun cdv A outer s H vs Q E hr h=>?_)
 ·obtain ⟨e,i,rfl,_⟩:=h
  rfl
 obtain ⟨e,i,rfl,he,hi,q⟩:=h
 refine ⟨_,(zac (zaJ (ziA T.bi rfl T.cl_CasterError.mg (zaa (pv 0) (zaa (zuS zbL (zmU (pv 1))) zad)))) (zae (zlu (pv 0) (pv 1) rfl))),?_⟩
 refine ⟨_,rfl,?_⟩
 refine ⟨_,rfl,by decide,?_⟩
 refine ⟨_,rfl,?_⟩
 refine ⟨i,rfl,hi,fun x hx=>?_⟩
 refine ⟨x,rfl,hx,fun y=>?_⟩
 refine ⟨e,a.c_NoKeys,none,some a.f_init_NoKeys,y,rfl,he,T.cl_NoKeys.cls,?_⟩
 refine ⟨_,rfl,?_⟩
 refine ⟨_,rfl,?_⟩
 exact ⟨e,a.c_NoKeys,rfl,he,T.cl_NoKeys.xf,fun dx hdx=>q dx hdx⟩
def zhf : Sp:=fun vs H Q _=>∃ c k : Int,vs = [.int c,.int k] /\ 0 <= k /\ k <= 1000000 /\ ∀ z,0 <= z -> z < 2147483647 -> Q (.int z) H
theorem zcH (T : Tx K mg a) : FnOk P w K mg base CX0 1 a.f_law_mixed a.d_law_mixed ["_law_cell","_law_k"] zhf:=by
 refine T.law_mixed.fn.ok zgR (fun vs H Q E h=>?_) (fun cdv A outer s H vs Q E hr h=>?_)
 ·obtain ⟨c,k,rfl,_⟩:=h
  rfl
 obtain ⟨c,k,rfl,h0,h1,q⟩:=h
 refine ⟨_,(zae (zas (zao zaU (zao zev (zao zaO (zao zaO (zao zaO (zao zaU (pv 0) zag) (zao zev (zao zev zag (pv 1)) (pv 1))) (pv 1)) zag) zag) zag))),?_⟩
 walk_at "rd"
 exact q _ (Int.emod_nonneg _ (by decide)) (Int.emod_lt_of_pos _ (by decide))
theorem znX : ∀ c : Nat,c < 128 -> Mt.pc (c : Int) = ((c % 2 : Nat) : Int) + Mt.pc ((c / 2 : Nat) : Int):=by decide +kernel
def zib : Sp:=fun vs H Q _=>∃ c : Nat,vs = [.int (c : Int)] /\ c < 128 /\ Q (.int (Mt.pc (c : Int))) H
theorem zhJ (T : Tx K mg a) : FnOk P w K mg base CX0 1 a.f_law_bits a.d_law_bits ["_law_one"] zib:=by
 refine T.law_bits.fn.ok zhR (fun vs H Q E h=>?_) (fun cdv A outer s H vs Q E hr h=>?_)
 ·obtain ⟨c,rfl,_⟩:=h
  rfl
 obtain ⟨c,rfl,hc,q⟩:=h
 refine ⟨_,(zac (zav (i:=1) zhR.nd rfl (Or.inl rfl) zag)
  (zac (zfV PassesOwn.never (zaA znz (pv 0) zag (zax _)) (zac (zav (i:=1) zhR.nd rfl (Or.inl rfl) (zao zaO (pv 1) (zao zaU (pv 0) zag)))
  (zae (zav (i:=0) zhR.nd rfl (Or.inl rfl) (zao zbu (pv 0) zag)))))
  (zae (zas (pv 1))))),?_⟩
 walk_at "rd"
 refine ⟨fun m σ H2=>∃ (n : Nat) (s0 : Int),σ = [some (.int (n : Int)),some (.int s0)] /\ H2 = H /\ n < 128 /\ s0 + Mt.pc (n : Int) = Mt.pc (c : Int) /\ n = m,⟨c,c,0,rfl,rfl,hc,by omega,rfl⟩,?_⟩
 rintro m σ H2 ⟨n,s0,rfl,rfl,hn,hs,rfl⟩
 walk_at "rd"
 refine ite2 (fun c1=>?_) (fun c1=>?_)
 ·have c1 : (0 : Int) < (n : Int):=of_decide_eq_true c1
  refine ⟨fun σ' H'=>∃ (n' : Nat) (s1 : Int),σ' = [some (.int (n' : Int)),some (.int s1)] /\ H' = H2 /\ n' < 128 /\ s1 + Mt.pc (n' : Int) = Mt.pc (c : Int) /\ n' < n,fun σ' H' ⟨n',s1,e1,e2,e3,e4,e5⟩=>⟨n',e5,n',s1,e1,e2,e3,e4,rfl⟩,?_⟩
  have hst:=znX n hn
  refine ⟨_,rfl,?_⟩
  refine ⟨_,rfl,?_⟩
  refine ⟨_,_,rfl,rfl,by show (0 : Int) < 2; decide,?_⟩
  refine ⟨_,_,rfl,rfl,?_⟩
  refine ⟨_,rfl,?_⟩
  walk_at "rd1"
  walk_at "rd1"
  refine ⟨n / 2,s0 + ((n % 2 : Nat) : Int),?_,rfl,by omega,by omega,by omega⟩
  rw [Int.natCast_ediv,Int.natCast_emod]
  rfl
 ·have c1 : ¬ (0 : Int) < (n : Int):=fun z=>c1 (decide_eq_true z)
  have h0 : n = 0:=by omega
  subst h0
  walk_at "rd"
  have e : s0 = Mt.pc (c : Int):=by
   have : Mt.pc ((0 : Nat) : Int) = 0:=by decide +kernel
   omega
  rw [<- e] at q
  exact q
def zeQ (K : PySem.W.Frag) : Sp:=fun vs H Q _=>∃ (l : Addr) (k : Int) (ns : List Int),vs = [.ref l,.int k] /\ SqL K H l (ns.map V.int) /\ 0 <= k /\ ∀ z,Q (.int z) H
theorem zeZ (T : Tx K mg a) : FnOk P w K mg base CX0 1 a.f_law_cell_at a.d_law_cell_at ["_law_script","_law_k"] (zeQ K):=by
 refine T.law_cell_at.fn.ok zeX (fun vs H Q E h=>?_) (fun cdv A outer s H vs Q E hr h=>?_)
 ·obtain ⟨l,k,ns,rfl,_⟩:=h
  rfl
 obtain ⟨l,k,ns,rfl,hS,h0,q⟩:=h
 refine ⟨_,(zac (zbM (zaA zqs (pv 1) (zaG (zbQ K rfl) rfl T.b_len zcc (zaa (pv 0) zad)) (zax _)) (zae (zas (zbE (zaY K rfl) (pv 0) (pv 1) (fun _ _=>rfl)))) zaI)
  (zae (zas zag))),?_⟩
 walk_at "rd"
 refine ⟨l,_,rfl,.inl hS,?_⟩
 walk_at "rd"
 refine ite2 (fun c=>?_) (fun c=>?_)
 ·have c':=of_decide_eq_true c
  rw [List.length_map] at c'
  walk_at "rd"
  exact ⟨l,_,_,_,rfl,rfl,hS,zmu h0 c',q _⟩
 ·exact q _
theorem zkF (z : Int) : ∀ zs : List Int,inV (.int z) (zs.map V.int) = decide (z ∈ zs)
 | []=>rfl
 | y :: zs=>by
   have ih:=zkF z zs
   unfold inV at ih ⊢
   rw [List.map_cons,List.any_cons,ih]
   have e : eqV (V.int y) (V.int z) = decide (z = y):=by
    show (y == z) = _
    rw [Bool.eq_iff_iff,beq_iff_eq,decide_eq_true_iff]
    exact eq_comm
   rw [e,<- Bool.decide_or,decide_eq_decide]
   exact List.mem_cons.symm
theorem zgF : ∀ zs : List Int,(zs.map V.int).all zfZ = true
 | []=>rfl
 | y :: zs=>by
   rw [List.map_cons,List.all_cons,zgF zs]
   rfl
/-- how far the next number is that is not among these -/
theorem zqU {ts : List Int} (h : ts.length < 128) (c : Nat) : ∃ d,d < 128 /\ (((c + d) % 128 : Nat) : Int) ∉ ts:=by
 by_cases z : ∃ d,d < 128 /\ (((c + d) % 128 : Nat) : Int) ∉ ts
 ·exact z
 ·exfalso
  have all : ∀ d,d < 128 -> (((c + d) % 128 : Nat) : Int) ∈ ts:=fun d hd=>by
   by_cases y : (((c + d) % 128 : Nat) : Int) ∈ ts
   ·exact y
   ·exact absurd ⟨d,hd,y⟩ z
  have hn : ((List.range 128).map fun d=>(((c + d) % 128 : Nat) : Int)).Nodup:=by
   rw [List.nodup_iff_pairwise_ne,List.pairwise_map]
   refine (List.pairwise_lt_range (n:=128)).imp_of_mem fun {x y} hx hy hxy e=>?_
   have h1:=List.mem_range.mp hx
   have h2:=List.mem_range.mp hy
   omega
  have hf:=Cs.zga hn (ys:=ts) fun x hx=>by
   obtain ⟨d,hd,e⟩:=List.mem_map.mp hx
   rw [<- e]
   exact all d (List.mem_range.mp hd)
  rw [List.length_map,List.length_range] at hf
  omega
def zgm : Sp:=fun vs H Q _=>∃ (n : Int) (m : Nat),vs = [.int n,.int (m : Int)] /\ 0 <= n /\ n < 2147483647 /\ 1 <= m /\ m <= 30 /\
 ∀ (r : Addr) (ts : List Int) (H' : Hp),H r = none -> Same H H' -> H' r = some (.lst (ts.map V.int)) -> ts.length = m -> (∀ t ∈ ts,0 <= t /\ t < 128) -> ts.Nodup -> ts.Pairwise (fun a b=>HT.zbz (Mt.rk b) (Mt.rk a) = false) -> Q (.ref r) H'
theorem zgY (T : Tx K mg a) : FnOk P w K mg base CX0 2 a.f_law_teeth a.d_law_teeth ["_law_number","_law_many"] zgm:=by
 have G_law_bits:=zhJ (P:=P) (w:=w) (base:=base) T
 refine T.law_teeth.fn.ok zhd (fun vs H Q E h=>?_) (fun cdv A outer s H vs Q E hr h=>?_)
 ·obtain ⟨n,m,rfl,_⟩:=h
  rfl
 obtain ⟨n,m,rfl,hn0,hn1,hm1,hm30,q⟩:=h
 refine ⟨_,(zac (zav (i:=2) zhd.nd rfl (Or.inl rfl) (zaF zad))
  (zac (zcX PassesOwn.never rfl (zez rfl T.b_range (zaa (pv 1) zad)) (zal (i:=3) zhd.nd rfl (Or.inl rfl)) (zac (zav (i:=0) zhd.nd rfl (Or.inl rfl) (zao zaU (zao zev (zao zaO (zao zaO (pv 0) (pv 3)) zag) zag) zag))
  (zac (zav (i:=4) zhd.nd rfl (Or.inl rfl) (zao zaU (zao zbu (pv 0) zag) zag))
  (zac (zfV PassesOwn.never (zaA (znb K rfl) (pv 4) (pv 2) (by with_unfolding_all rfl)) (zae (zav (i:=4) zhd.nd rfl (Or.inl rfl) (zao zaU (zao zaO (pv 4) zag) zag))))
  (zae (zaJ (zbt K rfl PySem.F.plainAttrs_list PySem.F.slot_list_append PySem.F.type_list_append zbn (pv 2) (zaa (pv 4) zad))))))))
  (zae (zas (zba rfl (zaZ K rfl (zaG (znw K rfl) rfl T.b_sorted zlk (zaa (zba rfl (zaZ K rfl (pv 2)) (BlkOk.of (N':=["_law_number","_law_many","_law_teeth_here","_law_k","_law_one"]) (ms:=[4]) (k:=0) (by rfl)) (fun _ _ _ _ _=>(zal (i:=4) (show List.Nodup (["_law_number","_law_many","_law_teeth_here","_law_k","_law_one"] : List Str) from by decide +kernel) rfl (Or.inl rfl))) (fun _ _ _ _ _=>zbK) (fun _ _ _ _ _=>(zfs (zaa (zbl T.law_bits G_law_bits hr rfl (zaa (pv 4) zad)) (zaa (pv 4) zad))))) zad))) (BlkOk.of (N':=["_law_number","_law_many","_law_teeth_here","_law_k","_law_one","_law_bits_here"]) (ms:=[4]) (k:=1) (by rfl)) (fun _ _ _ _ _=>(zaV K rfl (n:=2) rfl (zam (zal (i:=5) (show List.Nodup (["_law_number","_law_many","_law_teeth_here","_law_k","_law_one","_law_bits_here"] : List Str) from by decide +kernel) rfl (Or.inl rfl)) (zam (zal (i:=4) (show List.Nodup (["_law_number","_law_many","_law_teeth_here","_law_k","_law_one","_law_bits_here"] : List Str) from by decide +kernel) rfl (Or.inl rfl)) zaW)))) (fun _ _ _ _ _=>zbK) (fun _ _ _ _ _=>(pv 4))))))),?_⟩
 walk_at "rd"
 intro l hl
 have hs1:=zaf hl (.lst [])
 have h1l : upd H l (.lst []) l = some (.lst (([] : List Int).map V.int)):=upd_same
 generalize upd H l (.lst []) = H1 at hs1 h1l ⊢
 walk_at "rd"
 refine zew (lo:=0) (n:=((m : Nat) : Int).toNat) (fun i σ H2=>∃ (nn : Int) (ts : List Int) (v3 v4 : Option V),σ = [some (.int nn),some (.int (m : Int)),some (.ref l),v3,v4] /\ Same H H2 /\ H2 l = some (.lst (ts.map V.int)) /\ 0 <= nn /\ nn < 2147483647 /\ ts.length = i /\ (∀ t ∈ ts,0 <= t /\ t < 128) /\ ts.Nodup)
  ⟨n,[],none,none,rfl,hs1,h1l,hn0,hn1,rfl,(fun t h=>by cases h),List.nodup_nil⟩ ?_ ?_
 ·rintro i σ H2 hi ⟨nn,ts,v3,v4,rfl,hs2,h2l,hnn0,hnn1,htl,htb,htn⟩
  rw [Int.zero_add]
  walk_at "rd"
  have hnum0:=Int.emod_nonneg ((nn + (i : Int) + 1) * 69621) (show (2147483647 : Int) ≠ 0 by decide)
  have hnum1:=Int.emod_lt_of_pos ((nn + (i : Int) + 1) * 69621) (show (0 : Int) < 2147483647 by decide)
  have hc0 : 0 <= (nn + (i : Int) + 1) * 69621 % 2147483647 / 7 % 128 /\ (nn + (i : Int) + 1) * 69621 % 2147483647 / 7 % 128 < 128:=by omega
  generalize hce : (nn + (i : Int) + 1) * 69621 % 2147483647 / 7 % 128 = ce at hc0
  obtain ⟨cn,rfl⟩:=Int.eq_ofNat_of_zero_le hc0.1
  have hcn : cn < 128:=by omega
  obtain ⟨d0,hd0,hd1⟩:=zqU (ts:=ts) (by omega) cn
  have est : (([some (.int nn),some (.int (m : Int)),some (.ref l),v3,v4] : St).set 3 (some (.int (i : Int)))).set 0 (some (.int ((nn + (i : Int) + 1) * 69621 % 2147483647))) = [some (.int ((nn + (i : Int) + 1) * 69621 % 2147483647)),some (.int (m : Int)),some (.ref l),some (.int (i : Int)),v4]:=rfl
  refine ⟨fun mm σ H3=>∃ c : Nat,σ = [some (.int ((nn + (i : Int) + 1) * 69621 % 2147483647)),some (.int (m : Int)),some (.ref l),some (.int (i : Int)),some (.int (c : Int))] /\ H3 = H2 /\ c < 128 /\ (((c + mm) % 128 : Nat) : Int) ∉ ts,⟨d0,cn,by rw [<- hce]; rfl,rfl,hcn,hd1⟩,?_⟩
  rintro mm σ H3 ⟨c,rfl,rfl,hc,hmm⟩
  refine ⟨_,rfl,?_⟩
  refine ⟨_,rfl,?_⟩
  refine ⟨l,_,rfl,.inl (SqL.of h2l),rfl,zgF _,?_⟩
  rw [if_neg (by decide),zkF]
  refine ⟨_,rfl,?_⟩
  refine ite2 (fun c1=>?_) (fun c1=>?_)
  ·have c1 : (c : Int) ∈ ts:=of_decide_eq_true c1
   have hm0 : mm ≠ 0:=fun z=>by
    rw [z,Nat.add_zero,Nat.mod_eq_of_lt hc] at hmm
    exact hmm c1
   refine ⟨fun σ' H'=>∃ c' : Nat,σ' = [some (.int ((nn + (i : Int) + 1) * 69621 % 2147483647)),some (.int (m : Int)),some (.ref l),some (.int (i : Int)),some (.int (c' : Int))] /\ H' = H3 /\ c' < 128 /\ (((c' + (mm - 1)) % 128 : Nat) : Int) ∉ ts,fun σ' H' ⟨c',e1,e2,e3,e4⟩=>⟨mm - 1,by omega,c',e1,e2,e3,e4⟩,?_⟩
   refine ⟨_,rfl,?_⟩
   refine ⟨_,_,rfl,rfl,?_⟩
   refine ⟨_,_,rfl,rfl,by show (0 : Int) < 128; decide,?_⟩
   refine ⟨(c + 1) % 128,?_,rfl,Nat.mod_lt _ (by decide),?_⟩
   ·rw [Int.natCast_emod,Int.natCast_add]
    rfl
   ·rw [Nat.mod_add_mod,show c + 1 + (mm - 1) = c + mm by omega]
    exact hmm
  ·have c1 : (c : Int) ∉ ts:=fun z=>c1 (decide_eq_true z)
   refine ⟨_,rfl,?_⟩
   refine ⟨.inl ⟨rfl,_,SqL.of h2l⟩,?_⟩
   refine ⟨_,rfl,?_⟩
   refine ⟨l,_,_,rfl,rfl,h2l,zcF (by rw [List.length_map]; omega),?_⟩
   refine ⟨_,ts ++ [(c : Int)],_,_,rfl,zau hs2 hl,by rw [upd_same,List.map_append]; rfl,hnum0,hnum1,by rw [List.length_append,htl]; rfl,fun t ht=>?_,?_⟩
   ·rcases List.mem_append.mp ht with h | h
    ·exact htb t h
    ·rw [List.mem_singleton.mp h]
     omega
   ·rw [List.nodup_append]
    refine ⟨htn,by simp,fun x hx y hy=>?_⟩
    rw [List.mem_singleton.mp hy]
    exact fun e=>c1 (e ▸ hx)
 ·rintro σ H2 ⟨nn,ts,v3,v4,rfl,hs2,h2l,hnn0,hnn1,htl,htb,htn⟩
  have hmi : ((m : Nat) : Int).toNat = m:=by omega
  rw [hmi] at htl
  refine ⟨_,rfl,?_⟩
  refine ⟨l,rfl,⟨_,SqL.of h2l⟩,fun D hD=>?_⟩
  refine zaN (a:=l) (xs:=ts.map V.int) (fun i ys σ H3=>∃ (us : List TI2) (v4' : Option V),ys = zch us /\ σ = [some (.int nn),some (.int (m : Int)),some (.ref l),v3,v4'] /\ Same H2 H3 /\ H3 D = some (.lst ys) /\ us.map (·.2) = (ts.take i).map Mt.rk /\ ∀ t ∈ us,H3 t.1 = some (.tup (t.2.map V.int)))
   ?_ ?_ ?_ ?_
  ·exact ⟨[],_,rfl,rfl,zaf hD _,upd_same,rfl,fun t h=>nomatch h⟩
  ·exact fun i ys σ H3 _ ⟨_,_,_,_,hs,_⟩=>hs.seq (SqL.of h2l)
  ·rintro i y ys σ H3 hy hil ⟨us,v4',rfl,rfl,hs3,hh3,hus,huu⟩
   obtain ⟨c,rfl,hci⟩:=zbv hy
   have hcb:=htb c (List.mem_of_getElem? hci)
   obtain ⟨cn,rfl⟩:=Int.eq_ofNat_of_zero_le hcb.1
   have hul : us.length <= i:=by
    have:=congrArg List.length hus
    rw [List.length_map,List.length_map,List.length_take] at this
    omega
   walk_at "rd"
   intro t ht
   have hst:=zaf ht (.tup [.int (Mt.pc (cn : Int)),.int (cn : Int)])
   have hh4:=hst _ _ hh3
   have htt : upd H3 t (.tup [.int (Mt.pc (cn : Int)),.int (cn : Int)]) t = some (.tup ((Mt.rk (cn : Int)).map V.int)):=upd_same
   refine zdj (ys:=zch us) hil hh4 ?_ ⟨us ++ [(t,Mt.rk (cn : Int))],_,?_,rfl,zau (hs3.trans hst) hD,upd_same,?_,?_⟩
   ·unfold zch
    rw [List.length_map]
    rw [List.length_map] at hil
    omega
   ·unfold zch
    rw [List.map_append]
    rfl
   ·rw [List.map_append,hus,List.take_add_one,hci,List.map_append]
    rfl
   ·intro u hu
    rcases List.mem_append.mp hu with hu | hu
    ·have h1:=hst _ _ (huu u hu)
     rw [zah (zcP h1 hh4 (fun e=>by cases e))]
     exact h1
    ·rw [List.mem_singleton.mp hu]
     rw [zah (zcP htt hh4 (fun e=>by cases e))]
     exact htt
  ·rintro ys σ H3 ⟨us,v4',rfl,rfl,hs3,hh3,hus,huu⟩
   rw [List.length_map,List.take_of_length_le (Nat.le_refl _)] at hus
   have hul : us.length = ts.length:=by
    have:=congrArg List.length hus
    rw [List.length_map,List.length_map] at this
    exact this
   have hrk : ∀ t ∈ us,t.2 = Mt.rk (t.2.getD 1 0):=fun t ht=>by
    have : t.2 ∈ ts.map Mt.rk:=by rw [<- hus]; exact List.mem_map_of_mem ht
    obtain ⟨c,_,e⟩:=List.mem_map.mp this
    rw [<- e]
    rfl
   refine ⟨D,us,rfl,SqL.of hh3,fun t ht=>⟨SqT.of (huu t ht),?_⟩,by omega,fun l2 ts' hl2 hpm hpw=>?_⟩
   ·rw [hrk t ht]
    exact fun e=>nomatch e
   refine ⟨l2,rfl,⟨_,SqL.of upd_same⟩,fun D3 hD3=>?_⟩
   refine zaN (a:=l2) (xs:=zch ts') (fun i zs σ H4=>∃ (w4 w5 : Option V),zs = ((ts'.take i).map fun t=>t.2.getD 1 0).map V.int /\ σ = [some (.int nn),some (.int (m : Int)),some (.ref l),v3,w4,w5] /\ Same (upd H3 l2 (.lst (zch ts'))) H4 /\ H4 D3 = some (.lst zs))
    ?_ ?_ ?_ ?_
   ·exact ⟨_,_,rfl,rfl,zaf hD3 _,upd_same⟩
   ·exact fun i zs σ H4 _ ⟨_,_,_,_,hs4,_⟩=>SqL.of (hs4 _ _ upd_same)
   ·rintro i y zs σ H4 hy hil ⟨w4,w5,rfl,rfl,hs4,hh4⟩
    have hil' : i < ts'.length:=by unfold zch at hil; rw [List.length_map] at hil; exact hil
    have hti : ts'[i]? = some ts'[i]:=List.getElem?_eq_getElem hil'
    have ey : y = .ref ts'[i].1:=by
     unfold zch at hy
     rw [List.getElem?_map,hti] at hy
     exact (Option.some.inj hy).symm
    subst ey
    have hmem : ts'[i] ∈ us:=hpm.mem_iff.mp (List.getElem_mem hil')
    have hx:=hs4 _ _ (zaf hl2 (.lst (zch ts')) _ _ (huu _ hmem))
    rw [hrk _ hmem] at hx
    have hx' : H4 ts'[i].1 = some (.tup [.int (Mt.pc (ts'[i].2.getD 1 0)),.int (ts'[i].2.getD 1 0)]):=hx
    refine ⟨_,_,rfl,SqT.of hx',rfl,?_⟩
    walk_at "tg"
    walk_at "tg"
    walk_at "rd"
    refine zdj hil hh4 ?_ ⟨_,_,?_,rfl,zau hs4 hD3,upd_same⟩
    ·rw [List.length_map,List.length_map,List.length_take,hpm.length_eq,hul]
     omega
    ·rw [List.take_add_one,hti,List.map_append,List.map_append]
     rfl
   ·rintro zs σ H4 ⟨w4,w5,rfl,rfl,hs4,hh4⟩
    have e1 : (zch ts').length = ts'.length:=by unfold zch; exact List.length_map _
    rw [e1,List.take_of_length_le (Nat.le_refl _)] at hh4
    have hgd : us.map (fun t=>t.2.getD 1 0) = ts:=by
     have:=congrArg (List.map fun l : List Int=>l.getD 1 0) hus
     rw [List.map_map,List.map_map] at this
     rw [show ((fun t : TI2=>t.2.getD 1 0)) = (fun l : List Int=>l.getD 1 0) ∘ (fun t : TI2=>t.2) from rfl,this]
     exact List.map_id' ts
    have hpm' : (ts'.map fun t=>t.2.getD 1 0).Perm ts:=by
     have:=hpm.map (fun t : TI2=>t.2.getD 1 0)
     rw [hgd] at this
     exact this
    refine q D3 (ts'.map fun t=>t.2.getD 1 0) H4 ?_ ?_ hh4 ?_ ?_ ?_ ?_
    ·exact hs2.free (hs3.free ((zaf hl2 _).free hD3))
    ·exact hs2.trans ((zaB hs3 hl2).trans hs4)
    ·rw [hpm'.length_eq,htl]
    ·exact fun t ht=>htb t (hpm'.mem_iff.mp ht)
    ·exact hpm'.nodup_iff.mpr htn
    ·rw [List.pairwise_map]
     refine hpw.imp_of_mem fun {x y} hx hy e=>?_
     rw [<- hrk x (hpm.mem_iff.mp hx),<- hrk y (hpm.mem_iff.mp hy)]
     exact e
/-- rows as the machine laws draw them -/
structure Row40 (most : Int) (rs : List Cs.Row) : Prop where
 l1 : 1 <= rs.length
 l2 : rs.length <= 6
 sg : ∀ r ∈ rs,∃ c ∈ Cs.signs,r.s = L2.sg c
 wd : ∀ r ∈ rs,1 <= r.w /\ r.w <= 99
 th : ∀ r ∈ rs,0 <= r.t /\ r.t < 128
 mn : ∀ r ∈ rs,0 <= r.n /\ r.n <= most
 nd : (rs.map fun r=>r.t).Nodup
 rt : (rs.map fun r=>r.t).Pairwise (fun a b=>HT.zbz (Mt.rk b) (Mt.rk a) = false)
def zhx (K : PySem.W.Frag) : Sp:=fun vs H Q _=>∃ (l : Addr) (ns : List Int) (most : Int),vs = [.ref l,.int most] /\ SqL K H l (ns.map V.int) /\ 0 <= most /\ most <= 40 /\
 ∀ (r : Addr) (xs : List V) (rs : List Cs.Row) (H' : Hp),H r = none -> Same H H' -> H' r = some (.lst xs) -> Paired (Cs.zbp H') xs rs -> Row40 most rs -> Q (.ref r) H'
theorem zhU (T : Tx K mg a) : FnOk P w K mg base CX0 3 a.f_law_case a.d_law_case ["_law_script","_law_most"] (zhx K):=by
 have G_law_cell_at:=zeZ (P:=P) (w:=w) (base:=base) T
 have G_law_mixed:=zcH (P:=P) (w:=w) (base:=base) T
 have G_law_teeth:=zgY (P:=P) (w:=w) (base:=base) T
 refine T.law_case.fn.ok zhK (fun vs H Q E h=>?_) (fun cdv A outer s H vs Q E hr h=>?_)
 ·obtain ⟨l,ns,most,rfl,_⟩:=h
  rfl
 obtain ⟨l,ns,most,rfl,hS,hm0,hm1,q⟩:=h
 refine ⟨_,(zac (zav (i:=2) zhK.nd rfl (Or.inl rfl) zbL)
  (zac (zav (i:=3) zhK.nd rfl (Or.inl rfl) (zbl T.law_mixed G_law_mixed hr rfl (zaa (zbl T.law_cell_at G_law_cell_at hr rfl (zaa (pv 0) (zaa zag zad))) (zaa zag zad))))
  (zac (zav (i:=4) zhK.nd rfl (Or.inl rfl) (zbl T.law_teeth G_law_teeth hr rfl (zaa (pv 3) (zaa (zao zaO zag (zao zaU (zao zbu (pv 3) zag) zag)) zad))))
  (zac (zav (i:=5) zhK.nd rfl (Or.inl rfl) (zaF zad))
  (zac (zcX PassesOwn.never rfl (zcs K rfl rfl T.b_enumerate (zaa (pv 4) zad)) (zaV K rfl (n:=2) rfl (zam (zal (i:=6) zhK.nd rfl (Or.inl rfl)) (zam (zal (i:=7) zhK.nd rfl (Or.inl rfl)) zaW))) (zac (zav (i:=3) zhK.nd rfl (Or.inl rfl) (zao zaU (zao zev (zao zaO (zao zaO (pv 3) (pv 6)) zag) zag) zag))
  (zac (zav (i:=8) zhK.nd rfl (Or.inl rfl) (zbE zdq (pv 2) (zao zaU (zao zaO (zao zbu (zbl T.law_cell_at G_law_cell_at hr rfl (zaa (pv 0) (zaa zag zad))) zag) (zao zev zag (pv 6))) zag) (fun _ _=>rfl)))
  (zae (zaJ (zbt K rfl PySem.F.plainAttrs_list PySem.F.slot_list_append PySem.F.type_list_append zbn (pv 5) (zaa (zfs (zaa (pv 8) (zaa (zao zaO zag (zao zaU (zao zbu (pv 3) zag) zag)) (zaa (pv 7) (zaa (zao zaU (zao zbu (pv 3) zag) (zao zaO (pv 1) zag)) zad))))) zad)))))))
  (zae (zas (pv 5)))))))),?_⟩
 walk_at "rd"
 refine ⟨l,0,ns,rfl,hS,by decide,fun c0=>?_⟩
 walk_at "rd"
 refine ⟨_,_,rfl,by decide,by decide,fun f hf0 hf1=>?_⟩
 have hk : 0 <= f / 3 % 6 /\ f / 3 % 6 < 6:=by omega
 obtain ⟨k0,hk0⟩:=Int.eq_ofNat_of_zero_le hk.1
 walk_at "rd"
 refine ⟨f,k0 + 1,by rw [hk0]; show [V.int f,V.int (1 + (k0 : Int))] = _; rw [show (1 : Int) + (k0 : Int) = ((k0 + 1 : Nat) : Int) by omega],hf0,hf1,by omega,by omega,fun pt ts H1 hpt0 hs1 hpt htl htb htn htp=>?_⟩
 walk_at "rd"
 intro rc hrc
 have hs2:=zaB (o:=.lst []) hs1 hrc
 have hs12:=zaf hrc (.lst [])
 have h2r : upd H1 rc (.lst []) rc = some (.lst []):=upd_same
 generalize upd H1 rc (.lst []) = H2 at hs2 hs12 h2r ⊢
 have hrc0:=hs1.free hrc
 refine ⟨_,rfl,?_⟩
 refine ⟨pt,rfl,⟨_,SqL.of (hs12 _ _ hpt)⟩,?_⟩
 refine zcp (a:=pt) (xs:=ts.map V.int) (fun i σ H3=>∃ (xs : List V) (rs : List Cs.Row) (nn : Int) (v6 v7 v8 : Option V),σ = [some (.ref l),some (.int most),some (.str "abcdefghijklmnopqrstuvwxyz.,-'"),some (.int nn),some (.ref pt),some (.ref rc),v6,v7,v8] /\ Same H1 H3 /\ H3 rc = some (.lst xs) /\ Paired (Cs.zbp H3) xs rs /\ 0 <= nn /\ nn < 2147483647 /\ (rs.map fun r=>r.t) = ts.take i /\ (∀ r ∈ rs,∃ c ∈ Cs.signs,r.s = sg c) /\ (∀ r ∈ rs,1 <= r.w /\ r.w <= 99) /\ (∀ r ∈ rs,0 <= r.n /\ r.n <= most))
  ⟨[],[],f,none,none,none,rfl,hs12,h2r,.nil,hf0,hf1,rfl,(fun r h=>by cases h),(fun r h=>by cases h),(fun r h=>by cases h)⟩ (by rintro i σ H3 _ ⟨_,_,_,_,_,_,_,hs,_⟩; exact hs.seq (SqL.of hpt)) ?_ ?_
 ·rintro i y tp σ H3 hy ⟨xs,rs,nn,v6,v7,v8,rfl,hs3,hhc,hpd,hn0,hn1,hmt,hsg,hwd,hmn⟩ htp0
  obtain ⟨c,rfl,hci⟩:=zbv hy
  have hil : i < ts.length:=(List.getElem?_eq_some_iff.mp hci).1
  have hxl:=Cs.zaX hpd
  have hrl : rs.length = i:=by
   have:=congrArg List.length hmt
   rw [List.length_map,List.length_take] at this
   omega
  have hs4:=zaf htp0 (.tup [.int i,.int c])
  have h4t : upd H3 tp (.tup [.int i,.int c]) tp = some (.tup [.int i,.int c]):=upd_same
  generalize upd H3 tp (.tup [.int i,.int c]) = H4 at hs4 h4t ⊢
  walk_at "rd"
  walk_at "tg"
  walk_at "tg"
  try refine And.intro rfl ?_
  walk_at "rd"
  have hnum0:=Int.emod_nonneg ((nn + (i : Int) + 1) * 48271) (show (2147483647 : Int) ≠ 0 by decide)
  have hnum1:=Int.emod_lt_of_pos ((nn + (i : Int) + 1) * 48271) (show (0 : Int) < 2147483647 by decide)
  have hs14:=hs3.trans hs4
  refine ⟨l,0,ns,rfl,(hs1.trans hs14).seq hS,by decide,fun c1=>?_⟩
  walk_at "rd"
  obtain ⟨cc,hcs,ec⟩:=Cs.ziS (i:=(c1 / 7 + 11 * (i : Int)) % 30) (by omega) (by omega)
  refine ⟨_,_,_,rfl,rfl,by decide,ec,?_⟩
  clear ec
  have hhc4:=hs4 _ _ hhc
  refine ⟨_,rfl,?_⟩
  refine ⟨.inl ⟨rfl,_,SqL.of hhc4⟩,?_⟩
  walk_at "rd"
  intro t ht
  have hz2:=Int.emod_nonneg (((nn + (i : Int) + 1) * 48271 % 2147483647) / 500) (show most + 1 ≠ 0 by omega)
  have hz3:=Int.emod_lt_of_pos (((nn + (i : Int) + 1) * 48271 % 2147483647) / 500) (show 0 < most + 1 by omega)
  have hst:=zaf ht (.tup (Cs.rowV ⟨sg cc,1 + ((nn + (i : Int) + 1) * 48271 % 2147483647) / 5 % 99,c,((nn + (i : Int) + 1) * 48271 % 2147483647) / 500 % (most + 1)⟩))
  have hhC:=hst _ _ hhc4
  have htC : upd H4 t (.tup (Cs.rowV ⟨sg cc,1 + ((nn + (i : Int) + 1) * 48271 % 2147483647) / 5 % 99,c,((nn + (i : Int) + 1) * 48271 % 2147483647) / 500 % (most + 1)⟩)) t = some (.tup (Cs.rowV ⟨sg cc,1 + ((nn + (i : Int) + 1) * 48271 % 2147483647) / 5 % 99,c,((nn + (i : Int) + 1) * 48271 % 2147483647) / 500 % (most + 1)⟩)):=upd_same
  refine ⟨rc,_,_,rfl,rfl,hhC,zcF (by omega),?_⟩
  refine ⟨xs ++ [.ref t],rs ++ [⟨sg cc,1 + ((nn + (i : Int) + 1) * 48271 % 2147483647) / 5 % 99,c,((nn + (i : Int) + 1) * 48271 % 2147483647) / 500 % (most + 1)⟩],_,_,_,_,rfl,zau (hs14.trans hst) hrc,upd_same,?_,hnum0,hnum1,?_,?_,?_,?_⟩
  ·exact Paired.snoc (Cs.zcM (Cs.zar hpd (hs4.trans hst)) hhC (fun z e=>by cases e)) ⟨t,rfl,by rw [zah (zcP htC hhC (fun e=>by cases e))]; exact htC⟩
  ·rw [List.map_append,hmt,List.take_add_one,hci]
   rfl
  ·intro r hr
   rcases List.mem_append.mp hr with h | h
   ·exact hsg r h
   ·rw [List.mem_singleton.mp h]
    exact ⟨cc,hcs,rfl⟩
  ·intro r hr
   rcases List.mem_append.mp hr with h | h
   ·exact hwd r h
   ·rw [List.mem_singleton.mp h]
    show 1 <= 1 + ((nn + (i : Int) + 1) * 48271 % 2147483647) / 5 % 99 /\ 1 + ((nn + (i : Int) + 1) * 48271 % 2147483647) / 5 % 99 <= 99
    omega
  ·intro r hr
   rcases List.mem_append.mp hr with h | h
   ·exact hmn r h
   ·rw [List.mem_singleton.mp h]
    show 0 <= ((nn + (i : Int) + 1) * 48271 % 2147483647) / 500 % (most + 1) /\ ((nn + (i : Int) + 1) * 48271 % 2147483647) / 500 % (most + 1) <= most
    omega
 ·rintro σ H3 ⟨xs,rs,nn,v6,v7,v8,rfl,hs3,hhc,hpd,hn0,hn1,hmt,hsg,hwd,hmn⟩
  have hxl:=Cs.zaX hpd
  rw [List.length_map,List.take_of_length_le (Nat.le_refl _)] at hmt
  have hrl : rs.length = k0 + 1:=by
   have:=congrArg List.length hmt
   rw [List.length_map] at this
   omega
  refine ⟨_,rfl,?_⟩
  exact q rc xs rs H3 hrc0 (hs1.trans hs3) hhc hpd ⟨by omega,by omega,hsg,hwd,fun r hr=>htb _ (by rw [<- hmt]; exact List.mem_map_of_mem hr),hmn,by rw [hmt]; exact htn,by rw [hmt]; exact htp⟩
def zjJ : Sp:=fun vs H Q _=>∃ t o : Int,vs = [.int t,.int o] /\ 0 <= t /\ 0 <= o /\ o < 128 /\ Q (.bl (Mt.has t o)) H
theorem zjQ (T : Tx K mg a) : FnOk P w K mg base CX0 1 a.f_has_all a.d_has_all ["teeth","others"] zjJ:=by
 refine T.has_all.fn.ok zjk (fun vs H Q E h=>?_) (fun cdv A outer s H vs Q E hr h=>?_)
 ·obtain ⟨t,o,rfl,_⟩:=h
  rfl
 obtain ⟨t,o,rfl,h1,h2,h3,q⟩:=h
 refine ⟨_,(zae (zas (zbG zfE (zao zpY (pv 0) (pv 1)) (pv 1) (zax _)))),?_⟩
 walk_at "rd"
 rw [decV,Mt.znq h1 h2 h3]
 exact q
def zhr (K : PySem.W.Frag) : Sp:=fun vs H Q _=>∃ (l : Addr) (t : Int) (cs : List Int),vs = [.ref l,.int t] /\ SqL K H l (cs.map V.int) /\ (∀ c ∈ cs,0 <= c) /\ 0 <= t /\ t < 128 /\ ∀ H',Same H H' -> Q (Mt.optV (Mt.zbO cs t)) H'
theorem zhq (T : Tx K mg a) : FnOk P w K mg base CX0 2 a.f_falls_at a.d_falls_at ["codes","teeth"] (zhr K):=by
 have G_has_all:=zjQ (P:=P) (w:=w) (base:=base) T
 refine T.falls_at.fn.ok zhy (fun vs H Q E h=>?_) (fun cdv A outer s H vs Q E hr h=>?_)
 ·obtain ⟨l,t,cs,rfl,_⟩:=h
  rfl
 obtain ⟨l,t,cs,rfl,hS,hc,h0,h1,q⟩:=h
 refine ⟨_,(zac (zcX PassesOwn.never rfl (zcs K rfl rfl T.b_enumerate (zaa (pv 0) zad)) (zaV K rfl (n:=2) rfl (zam (zal (i:=2) zhy.nd rfl (Or.inl rfl)) (zam (zal (i:=3) zhy.nd rfl (Or.inl rfl)) zaW))) (zae (zbM (zcz (zbl T.has_all G_has_all hr rfl (zaa (pv 3) (zaa (pv 1) zad)))) (zae (zas (pv 2))) zaI)))
  (zae (zas ziL))),?_⟩
 walk_at "rd"
 refine ⟨⟨_,hS⟩,?_⟩
 refine zcp (a:=l) (xs:=cs.map V.int) (fun i σ H2=>∃ (v1 v2 : Option V),σ = [some (.ref l),some (.int t),v1,v2] /\ Same H H2 /\ ∀ (j : Nat) c',j < i -> cs[j]? = some c' -> Mt.has c' t = false)
  ⟨none,none,rfl,Same.refl _,fun j _ h=>absurd h (Nat.not_lt_zero _)⟩ (by rintro i σ H2 _ ⟨_,_,_,hs,_⟩; exact hs.seq hS) ?_ ?_
 ·rintro i y p σ H2 hy ⟨v1,v2,rfl,hs,hb⟩ hp
  obtain ⟨c,rfl,hci⟩:=zbv hy
  have hs2:=zaB (o:=.tup [.int i,.int c]) hs hp
  walk_at "rd"
  walk_at "tg"
  walk_at "tg"
  walk_at "rd"
  refine ⟨_,_,rfl,hc c (List.mem_of_getElem? hci),h0,h1,?_⟩
  walk_at "rd"
  cases e : Mt.has c t with
  | true =>
    refine iteT ?_
    walk_at "rd"
    have:=q _ hs2
    rw [Mt.zjV hci e hb] at this
    exact this
  | false =>
    refine iteF ?_
    refine ⟨_,_,rfl,hs2,fun j c' hj hc'=>?_⟩
    by_cases z : j = i
    ·subst z
     rw [hci] at hc'
     cases hc'
     exact e
    ·exact hb j c' (by omega) hc'
 ·rintro σ H2 ⟨v1,v2,rfl,hs,hb⟩
  have:=q _ hs
  rw [Mt.zjc (fun j c' hj=>hb j c' (by rw [List.length_map]; exact hj))] at this
  exact this
def zfN (K : PySem.W.Frag) : Sp:=fun vs H Q _=>∃ (l : Addr) (x : Str) (rs : List Cs.Row),vs = [.ref l,.str x] /\ Cs.zdC K H l rs /\ ∀ H',Same H H' -> Q (Mt.optV (Cs.place rs x)) H'
theorem zcl (T : Tx K mg a) : FnOk P w K mg base CX0 1 a.f_channel_of a.d_channel_of ["case","sign"] (zfN K):=by
 refine T.channel_of.fn.ok zgc (fun vs H Q E h=>?_) (fun cdv A outer s H vs Q E hr h=>?_)
 ·obtain ⟨l,x,rs,rfl,_⟩:=h
  rfl
 obtain ⟨l,x,rs,rfl,⟨xs,hS,hp⟩,q⟩:=h
 refine ⟨_,(zac (zcX PassesOwn.never rfl (zcs K rfl rfl T.b_enumerate (zaa (pv 0) zad)) (zaV K rfl (n:=2) rfl (zam (zal (i:=2) zgc.nd rfl (Or.inl rfl)) (zam (zal (i:=3) zgc.nd rfl (Or.inl rfl)) zaW))) (zae (zbM (zaA zfE (zbE (zeb K rfl) (pv 3) zag (fun _ _=>rfl)) (pv 1) (zax _)) (zae (zas (pv 2))) zaI)))
  (zae (zas ziL))),?_⟩
 walk_at "rd"
 try refine ⟨⟨_,hS⟩,?_⟩
 refine zcp (a:=l) (xs:=xs) (fun i σ H2=>∃ (v1 v2 : Option V),σ = [some (.ref l),some (.str x),v1,v2] /\ Same H H2 /\ ∀ (j : Nat) r,j < i -> rs[j]? = some r -> r.s ≠ x)
  ⟨none,none,rfl,Same.refl _,fun j _ h=>absurd h (Nat.not_lt_zero _)⟩ (by rintro i σ H2 _ ⟨_,_,_,hs,_⟩; exact hs.seq hS) ?_ ?_
 ·rintro i y p σ H2 hy ⟨v1,v2,rfl,hs,hb⟩ hpn
  obtain ⟨r,hri,t,rfl,ht⟩:=Cs.zbq hp hy
  have hs2:=zaB (o:=.tup [.int i,.ref t]) hs hpn
  have ht2:=hs2 _ _ ht
  walk_at "rd"
  walk_at "tg"
  walk_at "tg"
  walk_at "rd"
  refine ⟨t,_,_,_,rfl,rfl,SqT.of ht2,rfl,?_⟩
  walk_at "rd"
  rw [Cs.strV]
  by_cases e : r.s = x
  ·rw [decide_eq_true e]
   refine iteT ?_
   walk_at "rd"
   have:=q _ hs2
   rw [Cs.zjB hri e hb] at this
   exact this
  ·rw [decide_eq_false e]
   refine iteF ?_
   refine ⟨_,_,rfl,hs2,fun j r' hj hr'=>?_⟩
   by_cases z : j = i
   ·subst z
    rw [hri] at hr'
    cases hr'
    exact e
   ·exact hb j r' (by omega) hr'
 ·rintro σ H2 ⟨v1,v2,rfl,hs,hb⟩
  have:=q _ hs
  rw [Cs.zfg (fun j r hj=>hb j r (by rw [Cs.zaX hp]; exact hj))] at this
  exact this
theorem zrO {c d : Nat} (h : sg c = sg d) : c = d:=by
 have h : (#[c] : Array Nat) = #[d]:=congrArg Str.cps h
 simpa using h
theorem sgV {c d : Nat} : decide (V.str (sg c) = V.str (sg d)) = decide (c = d):=by
 rw [Cs.strV,decide_eq_decide]
 exact ⟨fun h=>zrO h,fun h=>by rw [h]⟩
def zfc : Sp:=fun vs H Q _=>∃ c : Nat,vs = [.str (sg c)] /\ Q (.bl (Lns.isS c)) H
theorem zeK (T : Tx K mg a) : FnOk P w K mg base CX0 1 a.f_is_sign_key a.d_is_sign_key ["key"] zfc:=by
 refine T.is_sign_key.fn.ok zeV (fun vs H Q E h=>?_) (fun cdv A outer s H vs Q E hr h=>?_)
 ·obtain ⟨c,rfl,_⟩:=h
  rfl
 obtain ⟨c,rfl,q⟩:=h
 have e1 : decide (V.str (sg c) = V.str (Str.ofString " ")) = decide (c = 32):=sgV (d:=32)
 have e2 : decide (V.str (sg c) = V.str (Str.ofString "/")) = decide (c = 47):=sgV (d:=47)
 unfold Lns.isS at q
 refine ⟨_,(zae (zas (zdG (zbG zjl (pv 0) (zbw (v:=.str " ") rfl T.g_GAP_KEY ⟨_,rfl⟩) (zax _)) (zgn (zbG zjl (pv 0) (zbw (v:=.str "/") rfl T.g_SEND_KEY ⟨_,rfl⟩) (zax _)))))),?_⟩
 walk_at "rd"
 rw [e1]
 cases h32 : decide (c = 32) with
 | true =>
   rw [h32] at q
   exact q
 | false =>
   rw [h32] at q
   refine iteT ?_
   walk_at "rd"
   rw [e2]
   exact q
def zjU (K : PySem.W.Frag) : Sp:=fun vs H Q _=>∃ (l : Addr) (x : Str) (i : Nat) (rs : List Cs.Row),vs = [.ref l,.str x,.int (i : Int)] /\ Cs.zdC K H l rs /\ x.length <= 90000 /\ i < x.cps.toList.length /\ ∀ H',Same H H' -> Q (.bl (Lns.zaQ rs x.cps.toList i)) H'
theorem zjE (T : Tx K mg a) : FnOk P w K mg base CX0 2 a.f_goes_on a.d_goes_on ["case","keys","at"] (zjU K):=by
 have G_is_sign_key:=zeK (P:=P) (w:=w) (base:=base) T
 have G_channel_of:=zcl (P:=P) (w:=w) (base:=base) T
 refine T.goes_on.fn.ok zjM (fun vs H Q E h=>?_) (fun cdv A outer s H vs Q E hr h=>?_)
 ·obtain ⟨l,x,i,rs,rfl,_⟩:=h
  rfl
 obtain ⟨l,x,i,rs,rfl,hC,hx,hi,q⟩:=h
 have hxs : x.length <= sizeLine:=zay (by omega)
 have ec : atI x.cps.toList (i : Int) = some x.cps.toList[i]:=zbi (List.getElem?_eq_getElem hi)
 unfold Lns.zaQ at q
 rw [List.getElem?_eq_getElem hi] at q
 generalize x.cps.toList[i] = c at ec q
 have q : ∀ H',Same H H' -> Q (.bl (if Lns.isS c = true then (Cs.place rs (sg c)).isSome else decide (0 < i) && (match x.cps.toList[i - 1]? with | none=>false | some d=>Lns.isS d))) H':=q
 refine ⟨_,(zac (zbM (zcz (zbl T.is_sign_key G_is_sign_key hr rfl (zaa (zbE zdq (pv 1) (pv 2) (fun _ _=>rfl)) zad))) (zae (zas (zkl (zle (zbl T.channel_of G_channel_of hr rfl (zaa (pv 0) (zaa (zbE zdq (pv 1) (pv 2) (fun _ _=>rfl)) zad))))))) zaI)
  (zae (zas (zdG (zbG znz (pv 2) zag (zax _)) (zgn (zbl T.is_sign_key G_is_sign_key hr rfl (zaa (zbE zdq (pv 1) (zao zin (pv 2) zag) (fun _ _=>rfl)) zad))))))),?_⟩
 walk_at "rd"
 refine ⟨_,_,_,rfl,rfl,hxs,ec,?_⟩
 walk_at "rd"
 try refine ⟨_,rfl,?_⟩
 cases hs : Lns.isS c with
 | true =>
   rw [hs] at q
   refine iteT ?_
   walk_at "rd"
   refine ⟨_,_,_,rfl,rfl,hxs,ec,?_⟩
   walk_at "rd"
   refine ⟨l,sg c,rs,rfl,hC,fun H1 hs1=>?_⟩
   have e : (!decide (Mt.optV (Cs.place rs (sg c)) = V.non)) = (Cs.place rs (sg c)).isSome:=by
    cases Cs.place rs (sg c) <;> rfl
   have q:=q H1 hs1
   rw [if_pos rfl,<- e] at q
   exact q
 | false =>
   rw [hs] at q
   refine iteF ?_
   walk_at "rd"
   have q:=q H (Same.refl _)
   rw [if_neg (by decide)] at q
   cases i with
   | zero =>
     refine iteF ?_
     exact q
   | succ j =>
     have hj : j < x.cps.toList.length:=by omega
     have ec2 : atI x.cps.toList (((j + 1 : Nat) : Int) - 1) = some x.cps.toList[j]:=by
      rw [show (((j + 1 : Nat) : Int) - 1) = ((j : Nat) : Int) by omega]
      exact zbi (List.getElem?_eq_getElem hj)
     rw [show j + 1 - 1 = j from rfl,List.getElem?_eq_getElem hj] at q
     have e0 : decide ((0 : Int) < ((j + 1 : Nat) : Int)) = true:=decide_eq_true (by omega)
     rw [e0]
     refine iteT ?_
     walk_at "rd"
     refine ⟨_,_,_,rfl,rfl,hxs,ec2,?_⟩
     walk_at "rd"
     have q : Q (.bl (decide (0 < j + 1) && Lns.isS x.cps.toList[j])) H:=q
     rw [show decide (0 < j + 1) = true from decide_eq_true (by omega),Bool.true_and] at q
     exact q
/-- the number of the first key at which the keys are not good -/
def kAt (rs : List Cs.Row) (cs : List Nat) : Nat:=((List.range cs.length).find? (fun i=>!Lns.zaQ rs cs i)).getD cs.length
theorem zqp {rs : List Cs.Row} {cs : List Nat} {i : Nat} (h : ∀ j,j < i -> Lns.zaQ rs cs j = true) (hi : i < cs.length) (hn : Lns.zaQ rs cs i = false) : kAt rs cs = i:=by
 unfold kAt
 have : (List.range cs.length).find? (fun i=>!Lns.zaQ rs cs i) = some i:=by
  rw [List.find?_eq_some_iff_append]
  refine ⟨by rw [hn]; rfl,List.range i,(List.range (cs.length - i)).map (i + ·) |>.drop 1,?_,fun j hj=>?_⟩
  ·have e : List.range cs.length = List.range i ++ (List.range (cs.length - i)).map (i + ·):=by
    rw [<- List.range_add]
    congr 1
    omega
   rw [e]
   congr 1
   obtain ⟨m,hm⟩ : ∃ m,cs.length - i = m + 1:=⟨cs.length - i - 1,by omega⟩
   rw [hm,List.range_succ_eq_map,List.map_cons]
   rfl
  ·rw [h j (List.mem_range.mp hj)]
   rfl
 rw [this]
 rfl
theorem zmY {rs : List Cs.Row} {cs : List Nat} (h : ∀ j,j < cs.length -> Lns.zaQ rs cs j = true) : kAt rs cs = cs.length:=by
 unfold kAt
 have : (List.range cs.length).find? (fun i=>!Lns.zaQ rs cs i) = none:=by
  rw [List.find?_eq_none]
  intro j hj
  rw [h j (List.mem_range.mp hj)]
  decide
 rw [this]
 rfl
/-- keys that are not good -/
def BadK (rs : List Cs.Row) (cs : List Nat) : Prop:=(∃ i,i < cs.length /\ Lns.zaQ rs cs i = false) \/ ∃ a c,cs = a ++ [c] /\ c ≠ 47
def zcw (rs : List Cs.Row) (cs : List Nat) : Prop:=(∀ i,i < cs.length -> Lns.zaQ rs cs i = true) /\ (cs = [] \/ ∃ a,cs = a ++ [47])
theorem good_or_bad (rs : List Cs.Row) (cs : List Nat) : zcw rs cs \/ BadK rs cs:=by
 by_cases h : ∀ i,i < cs.length -> Lns.zaQ rs cs i = true
 ·rcases List.eq_nil_or_concat cs with e | ⟨a,c,e⟩
  ·exact .inl ⟨h,.inl e⟩
  ·by_cases hc : c = 47
   ·exact .inl ⟨h,.inr ⟨a,by rw [e,hc]; simp⟩⟩
   ·exact .inr (.inr ⟨a,c,by rw [e]; simp,hc⟩)
 ·refine .inr (.inl ?_)
  apply Classical.byContradiction
  intro z
  refine h fun i hi=>?_
  cases e : Lns.zaQ rs cs i with
  | true=>rfl
  | false=>exact absurd ⟨i,hi,e⟩ z
theorem zio {rs : List Cs.Row} {cs : List Nat} (g : zcw rs cs) (b : BadK rs cs) : False:=by
 rcases b with ⟨i,hi,e⟩ | ⟨a,c,e,hc⟩
 ·rw [g.1 i hi] at e
  cases e
 ·rcases g.2 with z | ⟨a',z⟩
  ·rw [z] at e
   simp at e
  ·rw [z] at e
   have:=List.append_inj_right' e rfl
   simp at this
   exact hc this.symm
/-- the lines of a text,cut at each send key,and their words -/
def rawL (x : Str) : List (List Str):=((Txt.split x "/").dropLast).map fun l=>Txt.split l " "
def zes (K : PySem.W.Frag) (C : Addr) : Sp:=fun vs H Q E=>∃ (l : Addr) (x : Str) (rs : List Cs.Row),vs = [.ref l,.str x] /\ Cs.zdC K H l rs /\ x.length <= 90000 /\ (zcw rs x.cps.toList -> ∀ H',Same H H' -> Q .non H') /\
 (BadK rs x.cps.toList -> ∀ H' dx,Same H H' -> H' dx = none -> E (.ref C) (some dx) (upd H' dx (.xd [("at",.int (kAt rs x.cps.toList : Nat))])))
theorem zcI (T : Tx K mg a) : FnOk P w K mg base (CX1 P w) 3 a.f_look_at_keys a.d_look_at_keys ["case","keys"] (zes K a.c_NoKeys):=by
 have G_goes_on:=zjE (P:=P) (w:=w) (base:=base) T
 have G_init_NoKeys:=zeM (P:=P) (w:=w) (base:=base) T
 refine T.look_at_keys.fn.okX zeC (fun vs H Q E h=>?_) (fun cdv A outer s H vs Q E hr h=>?_)
 ·obtain ⟨l,x,rs,rfl,_⟩:=h
  rfl
 obtain ⟨l,x,rs,rfl,hC,hx,q,qx⟩:=h
 have hxs : x.length <= sizeLine:=zay (by omega)
 have hxl : x.cps.toList.length = x.length:=Array.length_toList
 refine ⟨_,(zac (zcX (zhW rfl) rfl (zez rfl T.b_range (zaa (zaG zbF rfl T.b_len zcc (zaa (pv 1) zad)) zad)) (zal (i:=2) zeC.nd rfl (Or.inl rfl)) (zae (zbM (zim (zcz (zbl T.goes_on G_goes_on hr rfl (zaa (pv 0) (zaa (pv 1) (zaa (pv 2) zad)))))) (zae (zld T.cl_NoKeys G_init_NoKeys hr rfl rfl rfl (zaa (pv 2) zad))) zaI)))
  (zae (zbM (PW.pt (zpj (zaA zjl (pv 1) zbL (zax _)) (znE (zaA zjl (zbE zdq (pv 1) (zjT zfw zag) (fun _ _=>rfl)) (zbw (v:=.str "/") rfl T.g_SEND_KEY ⟨_,rfl⟩) (zax _))))) (zae (zld T.cl_NoKeys G_init_NoKeys hr rfl rfl rfl (zaa (zaG zbF rfl T.b_len zcc (zaa (pv 1) zad)) zad))) zaI))),?_⟩
 walk_at "rd"
 refine zew (n:=x.length) (fun i σ H2=>∃ v2 : Option V,σ = [some (.ref l),some (.str x),v2] /\ Same H H2 /\ ∀ j,j < i -> Lns.zaQ rs x.cps.toList j = true) ⟨none,rfl,Same.refl _,fun j h=>absurd h (Nat.not_lt_zero _)⟩ ?_ ?_
 ·rintro i σ H2 hi ⟨v2,rfl,hs,hb⟩
  walk_at "rd"
  refine ⟨l,x,i,rs,by rw [Int.zero_add]; rfl,hC.same hs,hx,by omega,fun H3 hs3=>?_⟩
  refine ⟨_,rfl,?_⟩
  cases hg : Lns.zaQ rs x.cps.toList i with
  | true =>
    refine iteF ?_
    refine ⟨_,rfl,hs.trans hs3,fun j hj=>?_⟩
    by_cases z : j = i
    ·rw [z]; exact hg
    ·exact hb j (by omega)
  | false =>
    refine iteT ?_
    walk_at "rd"
    rw [Int.zero_add]
    intro dx hdx
    have:=qx (.inl ⟨i,by omega,hg⟩) H3 dx (hs.trans hs3) hdx
    rw [zqp hb (by omega) hg] at this
    exact this
 ·rintro σ H2 ⟨v2,rfl,hs,hb⟩
  have hke:=zmY (rs:=rs) (cs:=x.cps.toList) (fun j hj=>hb j (by omega))
  have hall : ∀ i,i < x.cps.toList.length -> Lns.zaQ rs x.cps.toList i = true:=fun i hi=>hb i (by omega)
  walk_at "rd"
  rcases List.eq_nil_or_concat x.cps.toList with he | ⟨a0,c,he⟩
  ·have ex : x = "":=Lns.zlc he
   subst ex
   have e1 : (!decide (V.str (Str.ofString "") = V.str (Str.ofString ""))) = false:=by rw [decide_eq_true rfl]; rfl
   rw [e1]
   try refine iteF ?_
   exact q ⟨hall,.inl rfl⟩ H2 hs
  rw [List.concat_eq_append] at he
  have hne : x ≠ "":=fun e=>by
   rw [e] at he
   have h:=congrArg List.length he
   rw [List.length_append] at h
   have h : 0 = a0.length + 1:=h
   omega
  have e1 : (!decide (V.str x = V.str (Str.ofString ""))) = true:=by rw [Cs.strV,decide_eq_false hne]; rfl
  rw [e1]
  try refine iteT ?_
  have ec : atI x.cps.toList (-1) = some c:=by
   rw [he]
   exact Lns.zmS a0 c
  walk_at "rd"
  refine ⟨_,_,_,rfl,rfl,hxs,ec,?_⟩
  walk_at "rd"
  have e2 : decide (V.str ({ cps:=#[c] } : Str) = V.str (Str.ofString "/")) = decide (c = 47):=sgV (d:=47)
  by_cases hc : c = 47
  ·rw [e2,decide_eq_true hc]
   try refine iteF ?_
   exact q ⟨hall,.inr ⟨a0,by rw [he,hc]⟩⟩ H2 hs
  rw [e2,decide_eq_false hc]
  try refine iteT ?_
  walk_at "rd"
  intro dx hdx
  have:=qx (.inr ⟨a0,c,he,hc⟩) H2 dx hs hdx
  rw [hke,hxl] at this
  exact this
theorem zma (x : Str) : cutV ((Txt.split x "/").map V.str) none (some (-1)) = ((Txt.split x "/").dropLast).map V.str:=by
 have hne:=Lns.zmw x "/"
 have e:=(List.dropLast_concat_getLast hne).symm
 conv=>lhs; rw [e]
 exact Lns.zms V.str _ _
theorem zng {x : Str} : (Txt.split x "/").dropLast.length <= x.length + 1:=by
 rw [List.length_dropLast]
 have:=L2.split_len x "/"
 omega
theorem zlG {x y : Str} (h : y ∈ (Txt.split x "/").dropLast) : y.length <= x.length:=PyProof.Rows.part_short (List.dropLast_subset _ h)
def zih (K : PySem.W.Frag) (C : Addr) : Sp:=fun vs H Q E=>∃ (l : Addr) (x : Str) (rs : List Cs.Row),vs = [.ref l,.str x] /\ Cs.zdC K H l rs /\ x.length <= 90000 /\ (zcw rs x.cps.toList -> ∀ (D : Addr) (zs : List V) H',H D = none -> Same H H' -> H' D = some (.lst zs) -> Paired (Lns.zhc H D H') zs (rawL x) -> Q (.ref D) H') /\
 (BadK rs x.cps.toList -> ∀ H' dx,Same H H' -> H' dx = none -> E (.ref C) (some dx) (upd H' dx (.xd [("at",.int (kAt rs x.cps.toList : Nat))])))
theorem zhI (T : Tx K mg a) : FnOk P w K mg base (CX1 P w) 4 a.f_lines_of a.d_lines_of ["case","keys"] (zih K a.c_NoKeys):=by
 have G_look_at_keys:=zcI (P:=P) (w:=w) (base:=base) T
 refine T.lines_of.fn.okX zie (fun vs H Q E h=>?_) (fun cdv A outer s H vs Q E hr h=>?_)
 ·obtain ⟨l,x,rs,rfl,_⟩:=h
  rfl
 obtain ⟨l,x,rs,rfl,hC,hx,q,qx⟩:=h
 have hxs : x.length <= sizeLine:=zay (by omega)
 refine ⟨_,(zac (zaJ (zgZ T.look_at_keys G_look_at_keys hr rfl rfl (zaa (pv 0) (zaa (pv 1) zad))))
  (zae (zas (zba rfl (zaZ K rfl (zbI (zfX K rfl) (zbt K rfl PySem.F.plainAttrs_str PySem.F.slot_str_split PySem.F.type_str_split ziY (pv 1) (zaa (zbw (v:=.str "/") rfl T.g_SEND_KEY ⟨_,rfl⟩) zad)) zdc (zbN (zjT zfw zag)))) (BlkOk.of (N':=["case","keys","line"]) (ms:=[]) (k:=1) (by rfl)) (fun _ _ _ _ _=>(zal (i:=2) (show List.Nodup (["case","keys","line"] : List Str) from by decide +kernel) rfl (Or.inl rfl))) (fun _ _ _ _ _=>zbK) (fun _ _ _ _ _=>(zbt K rfl PySem.F.plainAttrs_str PySem.F.slot_str_split PySem.F.type_str_split ziY (pv 2) (zaa (zbw (v:=.str " ") rfl T.g_GAP_KEY ⟨_,rfl⟩) zad))))))),?_⟩
 walk_at "rd"
 refine ⟨l,x,rs,rfl,hC,by omega,fun hg H1 hs1=>?_,fun hb H2 dx hs2 hdx=>qx hb H2 dx hs2 hdx⟩
 walk_at "rd"
 intro p2 hp2
 have hs2:=zaf hp2 (.lst ((Txt.split x "/").map V.str))
 have h22 : upd H1 p2 (.lst ((Txt.split x "/").map V.str)) p2 = some (.lst ((Txt.split x "/").map V.str)):=upd_same
 generalize upd H1 p2 (.lst ((Txt.split x "/").map V.str)) = H2 at hs2 h22 ⊢
 walk_at "rd"
 refine ⟨p2,_,rfl,SqL.of h22,fun p3 hp3=>?_⟩
 rw [show cutV ((Txt.split x "/").map V.str) none (some (-1)) = ((Txt.split x "/").dropLast).map V.str from zma x]
 have hs3:=zaf hp3 (.lst (((Txt.split x "/").dropLast).map V.str))
 have h33 : upd H2 p3 (.lst (((Txt.split x "/").dropLast).map V.str)) p3 = some (.lst (((Txt.split x "/").dropLast).map V.str)):=upd_same
 generalize upd H2 p3 (.lst (((Txt.split x "/").dropLast).map V.str)) = H3 at hs3 h33 ⊢
 have hs03:=hs1.trans (hs2.trans hs3)
 have hrl:=zng (x:=x)
 have hrp : ∀ y ∈ (Txt.split x "/").dropLast,y.length <= x.length:=fun y hy=>zlG hy
 unfold rawL at q
 generalize (Txt.split x "/").dropLast = ws at h33 hrl hrp q ⊢
 refine ⟨p3,rfl,⟨_,SqL.of h33⟩,fun D hD=>?_⟩
 refine zaN (a:=p3) (xs:=ws.map V.str) (fun j zs σ H6=>∃ (v2 : Option V),σ = [some (.ref l),some (.str x),v2] /\ Same H3 H6 /\ H6 D = some (.lst zs) /\ Paired (Lns.zhc H D H6) zs ((ws.take j).map fun l=>Txt.split l " "))
  ?_ ?_ ?_ ?_
 ·exact ⟨none,rfl,zaf hD _,upd_same,.nil⟩
 ·rintro j zs σ H6 hj ⟨_,_,hs,_⟩
  exact hs.seq (SqL.of h33)
 ·rintro j y zs σ H6 hy hjl ⟨v2,rfl,hs,hh,hz⟩
  rw [List.getElem?_map] at hy
  obtain ⟨w0,hw0,rfl⟩:=Option.map_eq_some_iff.mp hy
  have hlw:=hrp w0 (List.mem_of_getElem? hw0)
  have hzl:=Lns.zjF hz
  rw [List.length_map,List.length_take] at hzl
  walk_at "rd"
  intro pn hpn
  have hsn:=zaf hpn (.lst ((Txt.split w0 " ").map V.str))
  have hDn : pn ≠ D:=fun e=>by rw [e,hh] at hpn; cases hpn
  refine zdj hjl (hsn _ _ hh) (by omega) ⟨_,rfl,zau (hs.trans hsn) hD,upd_same,?_⟩
  rw [List.take_add_one,hw0,List.map_append]
  exact Paired.snoc (Lns.zjv (Lns.zhB hz hsn)) ⟨pn,rfl,hDn,hs03.free (hs.free hpn),by rw [zah hDn]; exact upd_same⟩
 ·rintro zs σ H6 ⟨v2,rfl,hs6,hh6,hz6⟩
  rw [List.length_map,List.take_of_length_le (Nat.le_refl _)] at hz6
  exact q hg D zs H6 (hs03.free hD) (hs03.trans hs6) hh6 hz6
def zgw (K : PySem.W.Frag) : Sp:=fun vs H Q _=>∃ (l : Addr) (rs : List Cs.Row),vs = [.ref l] /\ Cs.zdC K H l rs /\ rs.length <= 1000 /\ ∀ (r : Addr) H',H r = none -> Same H H' -> H' r = some (.lst ((rs.map fun x=>x.t).map V.int)) -> Q (.ref r) H'
theorem zgB (T : Tx K mg a) : FnOk P w K mg base CX0 1 a.f_codes_of_ a.d_codes_of_ ["case"] (zgw K):=by
 refine T.codes_of_.fn.ok zgC (fun vs H Q E h=>?_) (fun cdv A outer s H vs Q E hr h=>?_)
 ·obtain ⟨l,rs,rfl,_⟩:=h
  rfl
 obtain ⟨l,rs,rfl,⟨xs,hS,hp⟩,hl,q⟩:=h
 refine ⟨_,(zae (zas (zba rfl (zaZ K rfl (pv 0)) (BlkOk.of (N':=["case","sign","width","teeth","many"]) (ms:=[]) (k:=4) (by rfl)) (fun _ _ _ _ _=>(zaV K rfl (n:=4) rfl (zam (zal (i:=1) (show List.Nodup (["case","sign","width","teeth","many"] : List Str) from by decide +kernel) rfl (Or.inl rfl)) (zam (zal (i:=2) (show List.Nodup (["case","sign","width","teeth","many"] : List Str) from by decide +kernel) rfl (Or.inl rfl)) (zam (zal (i:=3) (show List.Nodup (["case","sign","width","teeth","many"] : List Str) from by decide +kernel) rfl (Or.inl rfl)) (zam (zal (i:=4) (show List.Nodup (["case","sign","width","teeth","many"] : List Str) from by decide +kernel) rfl (Or.inl rfl)) zaW)))))) (fun _ _ _ _ _=>zbK) (fun _ _ _ _ _=>(pv 3))))),?_⟩
 have hxl:=Cs.zaX hp
 walk_at "rd"
 intro D hD
 refine zaN (a:=l) (xs:=xs) (fun i ys σ H2=>∃ (v1 v2 v3 v4 : Option V),ys = ((rs.take i).map fun x=>x.t).map V.int /\ σ = [some (.ref l),v1,v2,v3,v4] /\ Same H H2 /\ H2 D = some (.lst ys))
  ?_ ?_ ?_ ?_
 ·exact ⟨none,none,none,none,rfl,rfl,zaf hD _,upd_same⟩
 ·exact fun i ys σ H2 _ ⟨_,_,_,_,_,_,hs,_⟩=>hs.seq hS
 ·rintro i y ys σ H2 hy hil ⟨v1,v2,v3,v4,rfl,rfl,hs,hh⟩
  obtain ⟨r,hri,t,rfl,ht⟩:=Cs.zbq hp hy
  have ht2:=hs _ _ ht
  refine ⟨_,_,rfl,SqT.of ht2,rfl,?_⟩
  walk_at "tg"
  walk_at "tg"
  walk_at "tg"
  walk_at "tg"
  walk_at "rd"
  refine zdj hil hh ?_ ⟨_,_,_,_,?_,rfl,zau hs hD,upd_same⟩
  ·rw [List.length_map,List.length_map,List.length_take]
   omega
  ·rw [List.take_add_one,hri,List.map_append,List.map_append]
   rfl
 ·rintro ys σ H2 ⟨v1,v2,v3,v4,rfl,rfl,hs,hh⟩
  rw [hxl,List.take_of_length_le (Nat.le_refl _)] at hh
  exact q D H2 hD hs hh
abbrev MA (a : Ad) (c : Mc.Cf) (H : Hp) (p : Addr) (A : Mc.Adr) (m : Mc.Ms) : Prop:=Mc.Mac a.c_Machine zdx c H p A m
abbrev IA (a : Ad) (H : Hp) (p : Addr) (vs : List (Option V)) : Prop:=zcq a.c_Machine zdx H p vs
def zhM (a : Ad) : Sp:=fun vs H Q _=>∃ (p : Addr) (A : Mc.Adr) (c : Mc.Cf) (m : Mc.Ms),vs = [.ref p] /\ MA a c H p A m /\ Mc.Ok c m /\ Q (.str (Mc.keyS c m)) H
theorem zbd (T : Tx K mg a) : FnOk P w K mg base CX0 1 a.f_Machine_next_key a.d_Machine_next_key ["self"] (zhM a):=by
 refine T.Machine_next_key.fn.ok zdg (fun vs H Q E h=>?_) (fun cdv A outer s H vs Q E hr h=>?_)
 ·obtain ⟨p,A,c,m,rfl,_⟩:=h
  rfl
 obtain ⟨p,A,c,m,rfl,M,O,q⟩:=h
 have I:=M.ins
 have hxl : c.keys.cps.toList.length = c.keys.length:=Array.length_toList
 have hks:=O.cf.short
 have hsz : c.keys.length <= sizeLine:=zay (by omega)
 refine ⟨_,(zae (zas (ziK (zaA zqs (pfld (K:=K) rfl T.Machine.cl T.n_Machine_struck zaw (pv 0)) (zaG zbF rfl T.b_len zcc (zaa (pfld (K:=K) rfl T.Machine.cl T.n_Machine_played zbx (pv 0)) zad)) (zax _)) (zbE zdq (pfld (K:=K) rfl T.Machine.cl T.n_Machine_played zbx (pv 0)) (pfld (K:=K) rfl T.Machine.cl T.n_Machine_struck zaw (pv 0)) (fun _ _=>rfl)) zbL))),?_⟩
 walk_at "rd"
 unfold Mc.keyS Mc.key at q
 by_cases hl : m.at_ < c.keys.cps.toList.length
 ·rw [decide_eq_true (by omega)]
  refine iteT ?_
  walk_at "rd"
  refine ⟨_,_,_,rfl,rfl,hsz,zbi (List.getElem?_eq_getElem hl),?_⟩
  rw [List.getElem?_eq_getElem hl] at q
  exact q
 ·rw [decide_eq_false (by omega)]
  refine iteF ?_
  rw [List.getElem?_eq_none (by omega)] at q
  exact q
def ziv (a : Ad) (f : Mc.Cf -> Mc.Ms -> V) : Sp:=fun vs H Q _=>∃ (p : Addr) (A : Mc.Adr) (c : Mc.Cf) (m : Mc.Ms),vs = [.ref p] /\ MA a c H p A m /\ Mc.Ok c m /\ ∀ H',Same H H' -> Q (f c m) H'
theorem zbm (T : Tx K mg a) : FnOk P w K mg base CX0 2 a.f_Machine_lacks_matrix a.d_Machine_lacks_matrix ["self"] (ziv a fun c m=>.bl (Mc.zaL c m)):=by
 have G_channel_of:=zcl (P:=P) (w:=w) (base:=base) T
 have G_Machine_next_key:=zbd (P:=P) (w:=w) (base:=base) T
 refine T.Machine_lacks_matrix.fn.ok zcn (fun vs H Q E h=>?_) (fun cdv A outer s H vs Q E hr h=>?_)
 ·obtain ⟨p,A,c,m,rfl,_⟩:=h
  rfl
 obtain ⟨p,A,c,m,rfl,M,O,q⟩:=h
 have I:=M.ins
 refine ⟨_,(zac (zav (i:=1) zcn.nd rfl (Or.inl rfl) (zbl T.channel_of G_channel_of hr rfl (zaa (pfld (K:=K) rfl T.Machine.cl T.n_Machine_case zbj (pv 0)) (zaa (zbS (K:=K) rfl T.Machine.cl T.Machine_next_key G_Machine_next_key hr zbe (pv 0)) zad))))
  (zae (zas (zdG (zkl (zle (pv 1))) (zgn (zbG (keqD K rfl hr.units) (zbE (zaY K rfl) (pfld (K:=K) rfl T.Machine.cl T.n_Machine_lying zaE (pv 0)) (pv 1) (fun _ _=>rfl)) (zaF zad) (zax _))))))),?_⟩
 walk_at "rd"
 refine ⟨p,A,c,m,rfl,M,O,?_⟩
 walk_at "rd"
 obtain ⟨xs,hx1,hx2⟩:=M.li.rows
 refine ⟨A.c,_,c.rs,rfl,⟨xs,SqL.of hx1,hx2⟩,fun H1 hs1=>?_⟩
 have q : ∀ H',Same H H' -> Q (.bl (Mc.zaL c m)) H':=q
 cases hp : Cs.place c.rs (Mc.keyS c m) with
 | none =>
   rw [Mc.zfe hp] at q
   walk_at "rd"
   exact q H1 hs1
 | some k =>
   rw [Mc.zjo hp] at q
   have hk:=Cs.zdB hp
   obtain ⟨lq,l,h1,h2,h3,h4⟩:=M.lane O hk
   rw [Mc.zjP h2] at q
   have M1:=M.same hs1
   have I1:=M1.ins
   refine ⟨_,rfl,?_⟩
   refine ⟨true,rfl,?_⟩
   refine iteT ?_
   refine ⟨_,rfl,?_⟩
   refine ⟨_,_,_,rfl,I1,rfl,?_⟩
   refine ⟨_,rfl,?_⟩
   refine ⟨A.L,_,(k : Int),_,rfl,rfl,SqL.of M1.li.lan,h4,?_⟩
   refine And.intro (Nat.zero_le _) fun e he=>?_
   have hs2:=zaf he (.lst [])
   have h3' : Mc.LnAt (upd H1 e (.lst [])) lq l:=Mc.LnAt.keep (Mc.Keep.of_same (S:=fun _=>True) (hs1.trans hs2)) trivial h3
   refine ⟨_,_,h3'.den (O.llay h2),Mc.zbY upd_same,Mc.zbW _,?_⟩
   have q:=q _ (hs1.trans hs2)
   rw [<- Mc.zbZ Mc.mxD l] at q
   exact q
theorem zdK (T : Tx K mg a) : FnOk P w K mg base CX0 3 a.f_Machine_stuck a.d_Machine_stuck ["self"] (ziv a fun c m=>.bl (Mc.zhO c m)):=by
 have G_Machine_lacks_matrix:=zbm (P:=P) (w:=w) (base:=base) T
 refine T.Machine_stuck.fn.ok zdI (fun vs H Q E h=>?_) (fun cdv A outer s H vs Q E hr h=>?_)
 ·obtain ⟨p,A,c,m,rfl,_⟩:=h
  rfl
 obtain ⟨p,A,c,m,rfl,M,O,q⟩:=h
 have q : ∀ H',Same H H' -> Q (.bl (Mc.zaL c m && m.heat.isEmpty && m.bar.isEmpty)) H':=q
 have I:=M.ins
 refine ⟨_,(zae (zas (zdG (zbS (K:=K) rfl T.Machine.cl T.Machine_lacks_matrix G_Machine_lacks_matrix hr zbk (pv 0)) (zdG (zbG (keqD K rfl hr.units) (pfld (K:=K) rfl T.Machine.cl T.n_Machine_heated zaq (pv 0)) (zaF zad) (zax _)) (zgn (zbG (keqD K rfl hr.units) (pfld (K:=K) rfl T.Machine.cl T.n_Machine_hanging zaz (pv 0)) (zaF zad) (zax _))))))),?_⟩
 walk_at "rd"
 refine ⟨p,A,c,m,rfl,M,O,fun H1 hs1=>?_⟩
 have M1:=M.same hs1
 have I1:=M1.ins
 refine ⟨_,rfl,?_⟩
 cases hl : Mc.zaL c m with
 | false =>
   rw [hl] at q
   refine iteF ?_
   exact q H1 hs1
 | true =>
   rw [hl] at q
   refine iteT ?_
   walk_at "rd"
   refine fun e he=>?_
   have hs2:=zaf he (.lst [])
   have hs12:=hs1.trans hs2
   have M2:=M.same hs12
   refine ⟨_,_,M2.li.het.den O.hlay,Mc.zbY upd_same,Mc.zbW _,?_⟩
   rw [Mc.zbZ Mc.zdO m.heat]
   generalize upd H1 e (.lst []) = H2 at hs2 hs12 M2 ⊢
   have I2:=M2.ins
   refine ⟨_,rfl,?_⟩
   cases hh : m.heat.isEmpty with
   | false =>
     rw [hh] at q
     refine iteF ?_
     exact q H2 hs12
   | true =>
     rw [hh] at q
     refine iteT ?_
     walk_at "rd"
     refine fun e he=>?_
     have hs3:=zaf he (.lst [])
     have M3:=M2.same hs3
     refine ⟨_,_,M3.li.bar.den O.blay,Mc.zbY upd_same,Mc.zbW _,?_⟩
     have q:=q _ (hs12.trans hs3)
     rw [<- Mc.zbZ Mc.mxD m.bar] at q
     exact q
theorem zdm (T : Tx K mg a) : FnOk P w K mg base CX0 3 a.f_Machine_resting a.d_Machine_resting ["self"] (ziv a fun c m=>.bl (Mc.zcm c m)):=by
 have G_Machine_next_key:=zbd (P:=P) (w:=w) (base:=base) T
 refine T.Machine_resting.fn.ok zdo (fun vs H Q E h=>?_) (fun cdv A outer s H vs Q E hr h=>?_)
 ·obtain ⟨p,A,c,m,rfl,_⟩:=h
  rfl
 obtain ⟨p,A,c,m,rfl,M,O,q⟩:=h
 have q : ∀ H',Same H H' -> Q (.bl ((Mc.key c m).isNone && m.line.isEmpty && m.heat.isEmpty && m.bar.isEmpty)) H':=q
 have I:=M.ins
 refine ⟨_,(zae (zas (zdG (zbG zfE (zbS (K:=K) rfl T.Machine.cl T.Machine_next_key G_Machine_next_key hr zbe (pv 0)) zbL (zax _)) (zdG (zbG (keqD K rfl hr.units) (pfld (K:=K) rfl T.Machine.cl T.n_Machine_line zaR (pv 0)) (zaF zad) (zax _)) (zdG (zbG (keqD K rfl hr.units) (pfld (K:=K) rfl T.Machine.cl T.n_Machine_heated zaq (pv 0)) (zaF zad) (zax _)) (zgn (zbG (keqD K rfl hr.units) (pfld (K:=K) rfl T.Machine.cl T.n_Machine_hanging zaz (pv 0)) (zaF zad) (zax _)))))))),?_⟩
 walk_at "rd"
 refine ⟨p,A,c,m,rfl,M,O,?_⟩
 walk_at "rd"
 have ek : decide (V.str (Mc.keyS c m) = V.str (Str.ofString "")) = (Mc.key c m).isNone:=by
  rw [Cs.strV]
  unfold Mc.keyS
  cases Mc.key c m with
  | none=>exact decide_eq_true rfl
  | some k=>exact decide_eq_false fun e=>by cases e
 rw [ek]
 cases hl : (Mc.key c m).isNone with
 | false =>
   rw [hl] at q
   refine iteF ?_
   exact q H (Same.refl _)
 | true =>
   rw [hl] at q
   refine iteT ?_
   walk_at "rd"
   refine fun e he=>?_
   have hs2:=zaf he (.lst [])
   have M2:=M.same hs2
   refine ⟨_,_,M2.li.lin.den O.ilay,Mc.zbY upd_same,Mc.zbW _,?_⟩
   rw [Mc.zbZ Mc.zdO m.line]
   generalize upd H e (.lst []) = H2 at hs2 M2 ⊢
   have I2:=M2.ins
   refine ⟨_,rfl,?_⟩
   cases hh : m.line.isEmpty with
   | false =>
     rw [hh] at q
     refine iteF ?_
     exact q H2 hs2
   | true =>
     rw [hh] at q
     refine iteT ?_
     walk_at "rd"
     refine fun e he=>?_
     have hs3:=zaB (o:=.lst []) hs2 he
     have M3:=M.same hs3
     refine ⟨_,_,M3.li.het.den O.hlay,Mc.zbY upd_same,Mc.zbW _,?_⟩
     rw [Mc.zbZ Mc.zdO m.heat]
     generalize upd H2 e (.lst []) = H3 at hs3 M3 ⊢
     have I3:=M3.ins
     refine ⟨_,rfl,?_⟩
     cases hg : m.heat.isEmpty with
     | false =>
       rw [hg] at q
       refine iteF ?_
       exact q H3 hs3
     | true =>
       rw [hg] at q
       refine iteT ?_
       walk_at "rd"
       refine fun e he=>?_
       have hs4:=zaB (o:=.lst []) hs3 he
       have M4:=M.same hs4
       refine ⟨_,_,M4.li.bar.den O.blay,Mc.zbY upd_same,Mc.zbW _,?_⟩
       have q:=q _ hs4
       rw [<- Mc.zbZ Mc.mxD m.bar] at q
       exact q
theorem ziT {α β : Type} {F : α -> β -> Prop} : ∀ {xs xs' : List α} {ys ys' : List β},Paired F xs ys -> Paired F xs' ys' -> Paired F (xs ++ xs') (ys ++ ys')
 | _,_,_,_,.nil,h=>h
 | _,_,_,_,.cons r t,h=>.cons r (ziT t h)
def ziI (a : Ad) (f : Mc.Cf -> Mc.Ms -> Mc.Ms) : Sp:=fun vs H Q _=>∃ (p : Addr) (A : Mc.Adr) (c : Mc.Cf) (m : Mc.Ms),vs = [.ref p] /\ MA a c H p A m /\ Mc.Ok c m /\ ∀ A' H',MA a c H' p A' (f c m) -> Mc.Step p A H A' H' -> Q .non H'
theorem zde (T : Tx K mg a) : FnOk P w K mg base CX0 3 a.f_Machine_move_bar a.d_Machine_move_bar ["self"] (ziI a Mc.fall):=by
 have G_falls_at:=zhq (P:=P) (w:=w) (base:=base) T
 have G_codes_of_:=zgB (P:=P) (w:=w) (base:=base) T
 refine T.Machine_move_bar.fn.ok zdf (fun vs H Q E h=>?_) (fun cdv A outer s H vs Q E hr h=>?_)
 ·obtain ⟨p,A,c,m,rfl,_⟩:=h
  rfl
 obtain ⟨p,A,c,m,rfl,M,O,q⟩:=h
 have I:=M.ins
 refine ⟨_,(zae (zbM (zaA (kneD K rfl hr.units) (pfld (K:=K) rfl T.Machine.cl T.n_Machine_hanging zaz (pv 0)) (zaF zad) (zax _)) (zac (zav (i:=1) zdf.nd rfl (Or.inl rfl) (zbt K rfl PySem.F.plainAttrs_list PySem.F.slot_list_pop PySem.F.type_list_pop ziD (pfld (K:=K) rfl T.Machine.cl T.n_Machine_hanging zaz (pv 0)) (zaa zag zad)))
  (zae (zaJ (zbt K rfl PySem.F.plainAttrs_list PySem.F.slot_list_append PySem.F.type_list_append zbn (zbE (zaY K rfl) (pfld (K:=K) rfl T.Machine.cl T.n_Machine_lying zaE (pv 0)) (zbl T.falls_at G_falls_at hr rfl (zaa (zbl T.codes_of_ G_codes_of_ hr rfl (zaa (pfld (K:=K) rfl T.Machine.cl T.n_Machine_case zbj (pv 0)) zad)) (zaa (zbE (zeb K rfl) (pv 1) zag (fun _ _=>rfl)) zad))) (fun _ _=>rfl)) (zaa (pv 1) zad))))) zaI)),?_⟩
 walk_at "rd"
 refine fun e he=>?_
 have hs1:=zaf he (.lst [])
 have M1:=M.same hs1
 refine ⟨_,_,M1.li.bar.den O.blay,Mc.zbY upd_same,Mc.zbW _,?_⟩
 rw [Mc.zbZ Mc.mxD m.bar]
 generalize upd H e (.lst []) = H1 at hs1 M1 ⊢
 have I1:=M1.ins
 refine ⟨_,rfl,?_⟩
 unfold Mc.fall at q
 cases hb : m.bar with
 | nil =>
   rw [hb] at q
   refine iteF ?_
   exact q A H1 M1 (Mc.Step.of_same hs1)
 | cons x r =>
   rw [hb] at q
   obtain ⟨o1,o2,o3,o4,k,hk,hkl⟩:=O.bm x (by rw [hb]; exact List.mem_cons_self)
   have q : ∀ A' H',MA a c H' p A' (match Mt.zbO (c.rs.map fun r=>r.t) x.2 with
    | some k=>{ m with bar:=r,lanes:=Mc.zcv m.lanes k x }
    | none=>m) -> Mc.Step p A H A' H' -> Q .non H':=q
   rw [hk] at q
   refine iteT ?_
   walk_at "rd"
   obtain ⟨bs,hb1,hb2⟩:=M1.li.bar
   rw [hb] at hb2
   obtain ⟨v,vs,rfl,hv,hvs⟩ : ∃ v vs,bs = v :: vs /\ Lan.zbP H1 v x /\ Paired (Lan.zbP H1) vs r:=by
    cases hb2 with
    | cons h1 h2=>exact ⟨_,_,rfl,h1,h2⟩
   refine ⟨.inl ⟨rfl,_,SqL.of hb1⟩,?_⟩
   walk_at "rd"
   refine ⟨A.b,_,0,0,v,rfl,rfl,hb1,by decide,by decide,Mc.ix0 _ _,rfl,?_⟩
   have M2 : MA a c (upd H1 A.b (.lst vs)) p A { m with bar:=r }:=M1.setBar hb1 hvs
   have hst2 : Mc.Step p A H A (upd H1 A.b (.lst vs)):=(Mc.Step.of_same hs1).trans (Mc.Step.lst (by unfold Mc.Adr.all; simp) hb1)
   have hv2:=Mc.zdp (Mc.Keep.lst (o:=.lst vs) hb1) hv
   have eer : ((v :: vs).eraseIdx 0) = vs:=rfl
   rw [eer]
   generalize upd H1 A.b (.lst vs) = H2 at M2 hst2 hv2 ⊢
   have I2:=M2.ins
   obtain ⟨t,rfl,ht⟩:=hv2
   walk_at "rd"
   obtain ⟨ws,hw1,hw2⟩:=M2.li.rows
   have hfew:=O.cf.few
   refine ⟨A.c,c.rs,rfl,⟨ws,SqL.of hw1,hw2⟩,by omega,fun pr H3 hpr hs3 hr3=>?_⟩
   have M3:=M2.same hs3
   have ht3:=hs3 _ _ ht
   walk_at "rd"
   refine ⟨t,_,_,_,rfl,rfl,SqT.of ht3,rfl,?_⟩
   refine ⟨pr,x.2,_,rfl,SqL.of hr3,?_,o3,o4,fun H4 hs4=>?_⟩
   ·intro y hy
    obtain ⟨r',hr',rfl⟩:=List.mem_map.mp hy
    exact (O.cf.th r' hr').1
   rw [hk]
   have M4:=M3.same hs4
   have ht4:=hs4 _ _ ht3
   have hst4:=hst2.trans (Mc.Step.of_same (hs3.trans hs4))
   have hln : m.lanes.length = c.rs.length:=O.ln
   have hkl2 : k < m.lanes.length:=by omega
   obtain ⟨lq,hlq,hl5⟩:=Cs.zeD M4.li.lns (List.getElem?_eq_getElem hkl2)
   obtain ⟨ys,hy1,hy2⟩:=hl5
   have hat : atI (A.ls.map V.ref) (k : Int) = some (.ref lq):=zbi (by rw [List.getElem?_map,hlq]; rfl)
   refine ⟨A.L,_,(k : Int),_,rfl,rfl,SqL.of M4.li.lan,hat,?_⟩
   refine ⟨.inl ⟨rfl,_,SqL.of hy1⟩,?_⟩
   refine ⟨_,rfl,?_⟩
   have hlen : ys.length <= 100000:=by
    have h1:=Paired.length hy2
    have h2:=Mc.znU (List.getElem?_eq_getElem hkl2)
    have h3:=O.sz
    have h4:=Mc.zii O
    unfold Mc.cnt at h3
    omega
   refine ⟨lq,ys,_,rfl,rfl,hy1,zcF hlen,?_⟩
   have ea : Mc.zcv m.lanes k x = m.lanes.set k (m.lanes[k] ++ [x]):=by
    unfold Mc.zcv
    rw [List.getElem?_eq_getElem hkl2]
   have M5 : MA a c (upd H4 lq (.lst (ys ++ [.ref t]))) p A { m with bar:=r,lanes:=m.lanes.set k (m.lanes[k] ++ [x]) }:=M4.setLane hlq hy1 (Paired.snoc hy2 ⟨t,rfl,ht4⟩)
   have q : ∀ A' H',MA a c H' p A' { m with bar:=r,lanes:=Mc.zcv m.lanes k x } -> Mc.Step p A H A' H' -> Q .non H':=q
   rw [ea] at q
   have q:=q A _ M5 (hst4.trans (Mc.Step.lst (by unfold Mc.Adr.all; simp [List.mem_of_getElem? hlq]) hy1))
   exact q
theorem zcy (T : Tx K mg a) : FnOk P w K mg base CX0 2 a.f_Machine_move_caster a.d_Machine_move_caster ["self"] (ziI a fun _ m=>Mc.cool m):=by
 refine T.Machine_move_caster.fn.ok zcu (fun vs H Q E h=>?_) (fun cdv A outer s H vs Q E hr h=>?_)
 ·obtain ⟨p,A,c,m,rfl,_⟩:=h
  rfl
 obtain ⟨p,A,c,m,rfl,M,O,q⟩:=h
 have q : ∀ A' H',MA a c H' p A' (Mc.cool m) -> Mc.Step p A H A' H' -> Q .non H':=q
 have I:=M.ins
 refine ⟨_,(zac (zbM (zaA (keqD K rfl hr.units) (pfld (K:=K) rfl T.Machine.cl T.n_Machine_heated zaq (pv 0)) (zaF zad) (zax _)) (zae zne) zaI)
  (zac (zbX (K:=K) rfl T.Machine.cl T.n_Machine_to_go zaM (pv 0) (zao zin (pfld (K:=K) rfl T.Machine.cl T.n_Machine_to_go zaM (pv 0)) zag))
  (zae (zbM (zaA ztK (pfld (K:=K) rfl T.Machine.cl T.n_Machine_to_go zaM (pv 0)) zag (zax _)) (zac (zaJ (zbt K rfl PySem.F.plainAttrs_list PySem.F.slot_list_append PySem.F.type_list_append zbn (pfld (K:=K) rfl T.Machine.cl T.n_Machine_texts zct (pv 0)) (zaa (zbt K rfl PySem.F.plainAttrs_str PySem.F.slot_str_join PySem.F.type_str_join (zfK K rfl) zbL (zaa (zba rfl (zaZ K rfl (pfld (K:=K) rfl T.Machine.cl T.n_Machine_heated zaq (pv 0))) (BlkOk.of (N':=["self","part"]) (ms:=[]) (k:=1) (by rfl)) (fun _ _ _ _ _=>(zal (i:=1) (show List.Nodup (["self","part"] : List Str) from by decide +kernel) rfl (Or.inl rfl))) (fun _ _ _ _ _=>zbK) (fun _ _ _ _ _=>(zbE (zlP K rfl) (pv 1) zag (fun _ _=>rfl)))) zad)) zad)))
  (zac (zaJ (zbt K rfl PySem.F.plainAttrs_list PySem.F.slot_list_extend PySem.F.type_list_extend zkW (pfld (K:=K) rfl T.Machine.cl T.n_Machine_hanging zaz (pv 0)) (zaa (zba rfl (zaZ K rfl (pfld (K:=K) rfl T.Machine.cl T.n_Machine_heated zaq (pv 0))) (BlkOk.of (N':=["self","part"]) (ms:=[]) (k:=1) (by rfl)) (fun _ _ _ _ _=>(zal (i:=1) (show List.Nodup (["self","part"] : List Str) from by decide +kernel) rfl (Or.inl rfl))) (fun _ _ _ _ _=>(zlp (zaA (kneD K rfl hr.units) (pv 1) (zbw (v:=.str " ") rfl T.g_WEDGE ⟨_,rfl⟩) (zax _)))) (fun _ _ _ _ _=>(pv 1))) zad)))
  (zae (zbX (K:=K) rfl T.Machine.cl T.n_Machine_heated zaq (pv 0) (zaF zad))))) zaI)))),?_⟩
 walk_at "rd"
 refine fun e he=>?_
 have hs1:=zaf he (.lst [])
 have M1:=M.same hs1
 refine ⟨_,_,M1.li.het.den O.hlay,Mc.zbY upd_same,Mc.zbW _,?_⟩
 rw [Mc.zbZ Mc.zdO m.heat]
 generalize upd H e (.lst []) = H1 at hs1 M1 ⊢
 have I1:=M1.ins
 refine ⟨_,rfl,?_⟩
 unfold Mc.cool at q
 cases hh : m.heat.isEmpty with
 | true =>
   rw [if_pos hh] at q
   refine iteT ?_
   exact q A H1 M1 (Mc.Step.of_same hs1)
 | false =>
   rw [if_neg (by rw [hh]; decide)] at q
   refine iteF ?_
   walk_at "rd"
   refine fun H2 I2 k2=>?_
   have I2 : IA a H2 p (Mc.vals c A { m with togo:=m.togo - 1 }):=I2
   have M2:=M1.setF I2 k2 rfl rfl rfl rfl rfl
   have st2:=(Mc.Step.of_same (p:=p) (A:=A) hs1).trans (Mc.Step.flds I1 I2 k2)
   have hne : m.heat ≠ []:=fun z=>by rw [z] at hh; cases hh
   have O2 : ∀ x,some x ∈ m.heat -> Mc.OkM c x:=O.hm
   walk_at "rd"
   by_cases ht : m.togo - 1 <= 0
   ·rw [if_pos ht] at q
    rw [decide_eq_true ht]
    refine iteT ?_
    walk_at "rd"
    have hsz:=O.sz
    have hkl:=Mc.zii O
    unfold Mc.cnt at hsz
    obtain ⟨hv,hh1,hh2⟩:=M2.li.het
    have hh2 : Paired (Mc.zcf H2) hv m.heat:=hh2
    have hhl:=Paired.length hh2
    refine ⟨.inl ⟨rfl,_,SqL.of M2.li.txt⟩,?_⟩
    walk_at "rd"
    refine ⟨⟨_,SqL.of hh1⟩,fun D hD=>?_⟩
    refine zaN (a:=A.h) (xs:=hv) (fun i ys σ H3=>∃ (v2 : Option V),ys = ((m.heat.take i).map Mc.zbb).map V.str /\ σ = [some (.ref p),v2] /\ Same H2 H3 /\ H3 D = some (.lst ys))
     ?_ ?_ ?_ ?_
    ·exact ⟨none,rfl,rfl,zaf hD _,upd_same⟩
    ·rintro i ys σ H3 hi ⟨v2,_,_,hs,_⟩
     exact hs.seq (SqL.of hh1)
    ·rintro i y ys σ H3 hy hil ⟨v2,rfl,rfl,hs,hh3⟩
     obtain ⟨pt,hpt,hpa⟩:=Mc.zhg hh2 hy
     have hpa3:=Mc.zef (Mc.Keep.of_same (S:=fun _=>True) hs) hpa
     have hlen : (((m.heat.take i).map Mc.zbb).map V.str).length <= 100000:=by
      rw [List.length_map,List.length_map,List.length_take]
      omega
     have etk : (((m.heat.take (i + 1)).map Mc.zbb).map V.str) = (((m.heat.take i).map Mc.zbb).map V.str) ++ [V.str (Mc.zbb pt)]:=by
      rw [List.take_add_one,hpt,List.map_append,List.map_append]
      rfl
     walk_at "rd"
     cases pt with
     | none =>
       have e : y = .str " ":=hpa3
       subst e
       refine .inr ⟨_,_,32,rfl,rfl,zay (by decide),rfl,?_⟩
       exact zdj hil hh3 hlen ⟨_,etk.symm,rfl,zau hs hD,upd_same⟩
     | some x =>
       obtain ⟨t,rfl,htt⟩:=hpa3
       refine .inl ⟨t,_,_,_,rfl,rfl,SqT.of htt,rfl,?_⟩
       exact zdj hil hh3 hlen ⟨_,etk.symm,rfl,zau hs hD,upd_same⟩
    ·rintro ys σ H3 ⟨v2,rfl,rfl,hs3,hh3⟩
     rw [hhl,List.take_of_length_le (Nat.le_refl _)] at hh3
     have M3:=M2.same hs3
     refine ⟨_,D,_,rfl,rfl,SqL.of hh3,Mc.zjO O2 (by omega),?_⟩
     have htl:=O.tx
     refine ⟨A.t,_,_,rfl,rfl,M3.li.txt,zcF (by rw [List.length_map]; show m.texts.length <= _; omega),?_⟩
     have et : (m.texts.map V.str) ++ [V.str (Txt.join (Str.ofString "") (m.heat.map Mc.zbb))] = (m.texts ++ [Mc.zaP m.heat]).map V.str:=by
      rw [List.map_append]
      rfl
     have M4 : MA a c (upd H3 A.t (.lst ((m.texts.map V.str) ++ [V.str (Txt.join (Str.ofString "") (m.heat.map Mc.zbb))]))) p A { m with togo:=m.togo - 1,texts:=m.texts ++ [Mc.zaP m.heat] }:=by
      rw [et]
      exact M3.setTxt M3.li.txt
     have st4 : Mc.Step p A H A (upd H3 A.t (.lst ((m.texts.map V.str) ++ [V.str (Txt.join (Str.ofString "") (m.heat.map Mc.zbb))]))):=(st2.trans (Mc.Step.of_same hs3)).trans (Mc.Step.lst (by unfold Mc.Adr.all; simp) M3.li.txt)
     generalize upd H3 A.t (.lst ((m.texts.map V.str) ++ [V.str (Txt.join (Str.ofString "") (m.heat.map Mc.zbb))])) = H4 at M4 st4 ⊢
     have I4:=M4.ins
     obtain ⟨hw,hw1,hw2⟩:=M4.li.het
     have hw2 : Paired (Mc.zcf H4) hw m.heat:=hw2
     have hwl:=Paired.length hw2
     obtain ⟨bv,hb1,hb2⟩:=M4.li.bar
     have hbl:=Paired.length hb2
     have hbl : bv.length = m.bar.length:=hbl
     walk_at "rd"
     refine ⟨.inl ⟨rfl,_,SqL.of hb1⟩,?_⟩
     walk_at "rd"
     refine ⟨⟨_,SqL.of hw1⟩,fun D2 hD2=>?_⟩
     refine zaN (a:=A.h) (xs:=hw) (fun i ys σ H5=>∃ (v2 : Option V),Paired (Lan.zbP H5) ys (Mc.mats (m.heat.take i)) /\ σ = [some (.ref p),v2] /\ Same H4 H5 /\ H5 D2 = some (.lst ys))
      ?_ ?_ ?_ ?_
     ·exact ⟨none,.nil,rfl,zaf hD2 _,upd_same⟩
     ·rintro i ys σ H5 hi ⟨v2,_,_,hs,_⟩
      exact hs.seq (SqL.of hw1)
     ·rintro i y ys σ H5 hy hil ⟨v2,hp5,rfl,hs,hh5⟩
      obtain ⟨pt,hpt,hpa⟩:=Mc.zhg hw2 hy
      have hpa5:=Mc.zef (Mc.Keep.of_same (S:=fun _=>True) hs) hpa
      have hmem:=List.mem_of_getElem? hpt
      have hlen : ys.length <= 100000:=by
       have h1:=Paired.length hp5
       have h2:=Mc.zfG (m.heat.take i)
       rw [List.length_take] at h2
       omega
      walk_at "rd"
      refine ⟨_,_,Mc.ziG hpa5 (fun x e=>O.hlay x (e ▸ hmem)),.str _ (by decide +kernel),by show min _ 0 <= 64; omega,?_⟩
      refine ⟨_,rfl,?_⟩
      cases pt with
      | none =>
        have e : (if true = true then !PyData.eqv (Mc.zdO none) (.str (Str.ofString " ")) else PyData.eqv (Mc.zdO none) (.str (Str.ofString " "))) = false:=by
         show (!PyData.eqv (.str " ") (.str " ")) = false
         rw [Mc.zmk]
         rfl
        rw [e]
        refine iteF ?_
        refine zpR hil ⟨_,?_,rfl,hs,hh5⟩
        rw [Mc.zgp hpt,Option.toList_none,List.append_nil]
        exact hp5
      | some x =>
        have e : (if true = true then !PyData.eqv (Mc.zdO (some x)) (.str (Str.ofString " ")) else PyData.eqv (Mc.zdO (some x)) (.str (Str.ofString " "))) = true:=rfl
        rw [e]
        refine iteT ?_
        walk_at "rd"
        refine zdj hil hh5 hlen ⟨_,?_,rfl,zau hs hD2,upd_same⟩
        rw [Mc.zgp hpt]
        exact Paired.snoc (Lan.zfU hp5 hh5) (Mc.zdp (Mc.Keep.lst hh5) hpa5)
     ·rintro ys σ H5 ⟨v2,hp5,rfl,hs5,hh5⟩
      rw [hwl,List.take_of_length_le (Nat.le_refl _)] at hp5
      have M5:=M4.same hs5
      have hyl:=Paired.length hp5
      have hml:=Mc.zfG m.heat
      refine ⟨A.b,D2,bv,ys,rfl,rfl,hs5 _ _ hb1,hh5,zay (by omega),?_⟩
      have hb5:=Lan.zhj hb2 hs5
      have M6 : MA a c (upd H5 A.b (.lst (bv ++ ys))) p A { m with togo:=m.togo - 1,texts:=m.texts ++ [Mc.zaP m.heat],bar:=m.bar ++ Mc.mats m.heat }:=M5.setBar (hs5 _ _ hb1) (ziT hb5 hp5)
      have st6 : Mc.Step p A H A (upd H5 A.b (.lst (bv ++ ys))):=(st4.trans (Mc.Step.of_same hs5)).trans (Mc.Step.lst (by unfold Mc.Adr.all; simp) (hs5 _ _ hb1))
      generalize upd H5 A.b (.lst (bv ++ ys)) = H6 at M6 st6 ⊢
      walk_at "rd"
      refine fun e7 he7=>?_
      have hs7:=zaf he7 (.lst [])
      have M7:=M6.same hs7
      have I7:=M7.ins
      have h77 : upd H6 e7 (.lst []) e7 = some (.lst []):=upd_same
      have hnew:=M6.new he7
      generalize upd H6 e7 (.lst []) = H7 at hs7 M7 I7 h77 ⊢
      walk_at "rd"
      refine fun H8 I8 k8=>?_
      have I8 : IA a H8 p (Mc.vals c { A with h:=e7 } { m with togo:=m.togo - 1,texts:=m.texts ++ [Mc.zaP m.heat],bar:=m.bar ++ Mc.mats m.heat,heat:=[] }):=I8
      have st8:=(st6.trans (Mc.Step.of_same hs7)).trans (Mc.Step.flds I7 I8 k8)
      exact q _ H8 (Mc.Mac.fields I7 I8 k8 ⟨M7.li.rows,M7.li.lan,M7.li.lns,M7.li.lin,⟨[],h77,.nil⟩,M7.li.bar,M7.li.txt⟩ (Mc.nd_h M7.nd hnew)) (st8.to (Mc.zve (st6.free he7)))
   ·rw [if_neg ht] at q
    rw [decide_eq_false ht]
    refine iteF ?_
    exact q A H2 M2 st2
theorem zcQ (T : Tx K mg a) : FnOk P w K mg base CX0 1 a.f_Machine_send_line a.d_Machine_send_line ["self"] (ziI a Mc.send):=by
 refine T.Machine_send_line.fn.ok zcS (fun vs H Q E h=>?_) (fun cdv A outer s H vs Q E hr h=>?_)
 ·obtain ⟨p,A,c,m,rfl,_⟩:=h
  rfl
 obtain ⟨p,A,c,m,rfl,M,O,q⟩:=h
 have I:=M.ins
 refine ⟨_,(zae (zbM (zaA (keqD K rfl hr.units) (pfld (K:=K) rfl T.Machine.cl T.n_Machine_heated zaq (pv 0)) (zaF zad) (zax _)) (zac (zbX (K:=K) rfl T.Machine.cl T.n_Machine_heated zaq (pv 0) (pfld (K:=K) rfl T.Machine.cl T.n_Machine_line zaR (pv 0)))
  (zac (zbX (K:=K) rfl T.Machine.cl T.n_Machine_to_go zaM (pv 0) (pfld (K:=K) rfl T.Machine.cl T.n_Machine_casting zbT (pv 0)))
  (zac (zbX (K:=K) rfl T.Machine.cl T.n_Machine_line zaR (pv 0) (zaF zad))
  (zae (zbX (K:=K) rfl T.Machine.cl T.n_Machine_struck zaw (pv 0) (zao zaO (pfld (K:=K) rfl T.Machine.cl T.n_Machine_struck zaw (pv 0)) zag)))))) zaI)),?_⟩
 walk_at "rd"
 refine fun e he=>?_
 have hs1:=zaf he (.lst [])
 have M1:=M.same hs1
 refine ⟨_,_,M1.li.het.den O.hlay,Mc.zbY upd_same,Mc.zbW _,?_⟩
 rw [Mc.zbZ Mc.zdO m.heat]
 generalize upd H e (.lst []) = H1 at hs1 M1 ⊢
 have I1:=M1.ins
 refine ⟨_,rfl,?_⟩
 unfold Mc.send at q
 cases hh : m.heat.isEmpty with
 | false =>
   rw [if_neg (by rw [hh]; decide)] at q
   refine iteF ?_
   exact q A H1 M1 (Mc.Step.of_same hs1)
 | true =>
   rw [if_pos hh] at q
   refine iteT ?_
   walk_at "rd"
   refine fun H2 I2 k2=>?_
   walk_at "rd"
   refine fun H3 I3 k3=>?_
   walk_at "rd"
   refine fun e4 he4=>?_
   have hs4:=zaf he4 (.lst [])
   have h44 : upd H3 e4 (.lst []) e4 = some (.lst []):=upd_same
   have I4:=I3.same hs4
   have k43 : ∀ b o,H3 b = some o -> upd H3 e4 (.lst []) b = some o:=hs4
   generalize upd H3 e4 (.lst []) = H4 at hs4 h44 I4 k43 ⊢
   walk_at "rd"
   refine fun H5 I5 k5=>?_
   walk_at "rd"
   refine fun H6 I6 k6=>?_
   have I6 : IA a H6 p (Mc.vals c { A with h:=A.l,l:=e4 } { m with heat:=m.line,togo:=c.cast,line:=[],at_:=m.at_ + 1 }):=by
    have e : ((m.at_ : Int) + 1) = ((m.at_ + 1 : Nat) : Int):=by omega
    have I6 : IA a H6 p [some (.ref A.L),some (.ref A.c),some (.str c.keys),some (.int ((m.at_ : Int) + 1)),some (.int c.cast),some (.ref e4),some (.ref A.l),some (.int c.cast),some (.ref A.b),some (.ref A.t),some (.int m.done),some (.int m.waits)]:=I6
    rw [e] at I6
    exact I6
   have k3' : ∀ b,b ≠ p -> H3 b = H1 b:=fun b hb=>(k3 b hb).trans (k2 b hb)
   have k6' : ∀ b,b ≠ p -> H6 b = H4 b:=fun b hb=>(k6 b hb).trans (k5 b hb)
   have M3 : Mc.Lists c H3 A m:=M1.li.keep (by obtain ⟨_,_,z,_⟩:=I1; exact Mc.Keep.fld z k3') (M1.pne)
   have M4 : Mc.Lists c H4 A m:=M3.keep (Mc.Keep.of_same (S:=fun _=>True) hs4) fun _ _=>trivial
   have hnew : e4 ∉ A.all:=fun z=>by
    obtain ⟨xs,ex⟩:=M3.is e4 z
    rw [he4] at ex
    cases ex
   have st3:=(Mc.Step.of_same (p:=p) (A:=A) hs1).trans (Mc.Step.flds I1 I3 k3')
   have st6:=(st3.trans (Mc.Step.of_same hs4)).trans (Mc.Step.flds I4 I6 k6')
   exact q _ H6 (Mc.Mac.fields I4 I6 k6' ⟨M4.rows,M4.lan,M4.lns,⟨[],h44,.nil⟩,M4.lin,M4.bar,M4.txt⟩ (Mc.nd_s M.nd hnew)) (st6.to (Mc.zuz (st3.free he4)))
def znV (a : Ad) : Sp:=fun vs H Q _=>∃ (p : Addr) (A : Mc.Adr) (c : Mc.Cf) (m : Mc.Ms) (v : V) (pt : Mc.Part),vs = [.ref p,v] /\ MA a c H p A m /\ Mc.zcf H v pt /\ m.line.length <= 99999 /\ ∀ A' H',MA a c H' p A' (Mc.take m pt) -> Mc.Step p A H A' H' -> Q .non H'
theorem zel (T : Tx K mg a) : FnOk P w K mg base CX0 1 a.f_Machine_take a.d_Machine_take ["self","part"] (znV a):=by
 refine T.Machine_take.fn.ok zdZ (fun vs H Q E h=>?_) (fun cdv A outer s H vs Q E hr h=>?_)
 ·obtain ⟨p,A,c,m,v,pt,rfl,_⟩:=h
  rfl
 obtain ⟨p,A,c,m,v,pt,rfl,M,hpt,hsz,q⟩:=h
 have I:=M.ins
 obtain ⟨lv,hl1,hl2⟩:=M.li.lin
 have hll:=Paired.length hl2
 refine ⟨_,(zac (zaJ (zbt K rfl PySem.F.plainAttrs_list PySem.F.slot_list_append PySem.F.type_list_append zbn (pfld (K:=K) rfl T.Machine.cl T.n_Machine_line zaR (pv 0)) (zaa (pv 1) zad)))
  (zae (zbX (K:=K) rfl T.Machine.cl T.n_Machine_struck zaw (pv 0) (zao zaO (pfld (K:=K) rfl T.Machine.cl T.n_Machine_struck zaw (pv 0)) zag)))),?_⟩
 walk_at "rd"
 refine ⟨.inl ⟨rfl,_,SqL.of hl1⟩,?_⟩
 walk_at "rd"
 refine ⟨A.l,lv,v,rfl,rfl,hl1,zcF (by omega),?_⟩
 have M2 : MA a c (upd H A.l (.lst (lv ++ [v]))) p A { m with line:=m.line ++ [pt] }:=M.setLine hl1 (Paired.snoc hl2 hpt)
 have st2 : Mc.Step p A H A (upd H A.l (.lst (lv ++ [v]))):=Mc.Step.lst (by unfold Mc.Adr.all; simp) hl1
 generalize upd H A.l (.lst (lv ++ [v])) = H2 at M2 st2 ⊢
 have I2:=M2.ins
 walk_at "rd"
 refine fun H3 I3 k3=>?_
 have I3 : IA a H3 p (Mc.vals c A (Mc.take m pt)):=by
  have e : ((m.at_ : Int) + 1) = ((m.at_ + 1 : Nat) : Int):=by omega
  have I3 : IA a H3 p [some (.ref A.L),some (.ref A.c),some (.str c.keys),some (.int ((m.at_ : Int) + 1)),some (.int c.cast),some (.ref A.l),some (.ref A.h),some (.int m.togo),some (.ref A.b),some (.ref A.t),some (.int m.done),some (.int m.waits)]:=I3
  rw [e] at I3
  exact I3
 exact q A H3 (M2.setF I3 k3 rfl rfl rfl rfl rfl) (st2.trans (Mc.Step.flds I2 I3 k3))
theorem zcR (T : Tx K mg a) : FnOk P w K mg base CX0 3 a.f_Machine_move_line a.d_Machine_move_line ["self"] (ziI a Mc.strike):=by
 have G_Machine_next_key:=zbd (P:=P) (w:=w) (base:=base) T
 have G_Machine_send_line:=zcQ (P:=P) (w:=w) (base:=base) T
 have G_Machine_take:=zel (P:=P) (w:=w) (base:=base) T
 have G_Machine_lacks_matrix:=zbm (P:=P) (w:=w) (base:=base) T
 have G_channel_of:=zcl (P:=P) (w:=w) (base:=base) T
 refine T.Machine_move_line.fn.ok zcT (fun vs H Q E h=>?_) (fun cdv A outer s H vs Q E hr h=>?_)
 ·obtain ⟨p,A,c,m,rfl,_⟩:=h
  rfl
 obtain ⟨p,A,c,m,rfl,M,O,q⟩:=h
 have I:=M.ins
 have hsz:=O.sz
 have hkl:=Mc.zii O
 unfold Mc.cnt at hsz
 refine ⟨_,(zac (zav (i:=1) zcT.nd rfl (Or.inl rfl) (zbS (K:=K) rfl T.Machine.cl T.Machine_next_key G_Machine_next_key hr zbe (pv 0)))
  (zae (zbM (zaA zfE (pv 1) (zbw (v:=.str "/") rfl T.g_SEND_KEY ⟨_,rfl⟩) (zax _)) (zae (zaJ (zbS (K:=K) rfl T.Machine.cl T.Machine_send_line G_Machine_send_line hr zcO (pv 0)))) (zae (zbM (zaA zfE (pv 1) (zbw (v:=.str " ") rfl T.g_GAP_KEY ⟨_,rfl⟩) (zax _)) (zae (zaJ (zoQ (K:=K) rfl T.Machine.cl T.Machine_take G_Machine_take hr zcA (pv 0) (zaa (zbw (v:=.str " ") rfl T.g_WEDGE ⟨_,rfl⟩) zad)))) (zae (zbM (zcz (zbS (K:=K) rfl T.Machine.cl T.Machine_lacks_matrix G_Machine_lacks_matrix hr zbk (pv 0))) (zae (zbX (K:=K) rfl T.Machine.cl T.n_Machine_waits zbH (pv 0) (zao zaO (pfld (K:=K) rfl T.Machine.cl T.n_Machine_waits zbH (pv 0)) zag))) (zae (zbM (zaA zjl (pv 1) zbL (zax _)) (zae (zaJ (zoQ (K:=K) rfl T.Machine.cl T.Machine_take G_Machine_take hr zcA (pv 0) (zaa (zbt K rfl PySem.F.plainAttrs_list PySem.F.slot_list_pop PySem.F.type_list_pop ziD (zbE (zaY K rfl) (pfld (K:=K) rfl T.Machine.cl T.n_Machine_lying zaE (pv 0)) (zbl T.channel_of G_channel_of hr rfl (zaa (pfld (K:=K) rfl T.Machine.cl T.n_Machine_case zbj (pv 0)) (zaa (pv 1) zad))) (fun _ _=>rfl)) (zaa zag zad)) zad)))) zaI))))))))),?_⟩
 walk_at "rd"
 refine ⟨p,A,c,m,rfl,M,O,?_⟩
 unfold Mc.strike at q
 walk_at "rd"
 cases hk : Mc.key c m with
 | none =>
   rw [hk] at q
   have es:=Mc.zlE hk
   have hla : Mc.zaL c m = false:=Mc.zfe (by rw [es]; exact O.cf.noWedge.2.2)
   rw [es,show decide (V.str (Str.ofString "") = V.str (Str.ofString "/")) = false from by rw [Cs.strV]; decide +kernel]
   refine iteF ?_
   walk_at "rd"
   refine ⟨p,A,c,m,rfl,M,O,fun H1 hs1=>?_⟩
   refine ⟨_,rfl,?_⟩
   rw [hla]
   refine iteF ?_
   walk_at "rd"
   try rw [show (!decide (V.str (Str.ofString "") = V.str (Str.ofString ""))) = false from by rw [decide_eq_true rfl]; rfl]
   try refine iteF ?_
   exact q A H1 (M.same hs1) (Mc.Step.of_same hs1)
 | some k =>
   rw [hk] at q
   have q : ∀ (A' : Mc.Adr) (H' : Hp),MA a c H' p A' (if k = 47 then Mc.send c m else if k = 32 then Mc.take m none else if Mc.zaL c m = true then { m with waits:=m.waits + 1 } else match Cs.place c.rs (sg k) with
    | some j=>Mc.pick m j
    | none=>m) -> Mc.Step p A H A' H' -> Q V.non H':=q
   have es:=Mc.zlv hk
   have d47 : decide (V.str (sg k) = V.str (Str.ofString "/")) = decide (k = 47):=Mc.sgD (d:=47)
   have d32 : decide (V.str (sg k) = V.str (Str.ofString " ")) = decide (k = 32):=Mc.sgD (d:=32)
   rw [es,d47]
   by_cases h47 : k = 47
   ·rw [if_pos h47] at q
    rw [decide_eq_true h47]
    refine iteT ?_
    walk_at "rd"
    exact ⟨p,A,c,m,rfl,M,O,q⟩
   ·rw [if_neg h47] at q
    rw [decide_eq_false h47]
    refine iteF ?_
    walk_at "rd"
    rw [d32]
    by_cases h32 : k = 32
    ·rw [if_pos h32] at q
     rw [decide_eq_true h32]
     refine iteT ?_
     walk_at "rd"
     exact ⟨p,A,c,m,_,none,rfl,M,rfl,by omega,q⟩
    ·rw [if_neg h32] at q
     rw [decide_eq_false h32]
     refine iteF ?_
     walk_at "rd"
     refine ⟨p,A,c,m,rfl,M,O,fun H1 hs1=>?_⟩
     have M1:=M.same hs1
     have I1:=M1.ins
     refine ⟨_,rfl,?_⟩
     cases hla : Mc.zaL c m with
     | true =>
       rw [if_pos hla] at q
       refine iteT ?_
       walk_at "rd"
       refine fun H2 I2 k2=>?_
       have I2 : IA a H2 p (Mc.vals c A { m with waits:=m.waits + 1 }):=I2
       exact q A H2 (M1.setF I2 k2 rfl rfl rfl rfl rfl) ((Mc.Step.of_same hs1).trans (Mc.Step.flds I1 I2 k2))
     | false =>
       rw [if_neg (by rw [hla]; decide)] at q
       refine iteF ?_
       obtain ⟨j,hj,x,r,hx⟩:=Mc.zqf O hk h47 h32 hla
       rw [hj] at q
       have q : ∀ (A' : Mc.Adr) (H' : Hp),MA a c H' p A' (Mc.pick m j) -> Mc.Step p A H A' H' -> Q V.non H':=q
       have ep : Mc.pick m j = Mc.take { m with lanes:=m.lanes.set j r } (some x):=by unfold Mc.pick; rw [hx]
       rw [ep] at q
       walk_at "rd"
       obtain ⟨ws,hw1,hw2⟩:=M1.li.rows
       refine ⟨A.c,_,c.rs,rfl,⟨ws,SqL.of hw1,hw2⟩,fun H2 hs2=>?_⟩
       rw [hj]
       have M2:=M1.same hs2
       have hjl:=Cs.zdB hj
       obtain ⟨lq,hlq,hl5⟩:=Cs.zeD M2.li.lns hx
       obtain ⟨ys,hy1,hy2⟩:=hl5
       obtain ⟨v,vs,rfl,hv,hvs⟩ : ∃ v vs,ys = v :: vs /\ Lan.zbP H2 v x /\ Paired (Lan.zbP H2) vs r:=by
        cases hy2 with
        | cons h1 h2=>exact ⟨_,_,rfl,h1,h2⟩
       have hat : atI (A.ls.map V.ref) (j : Int) = some (.ref lq):=zbi (by rw [List.getElem?_map,hlq]; rfl)
       refine ⟨A.L,_,(j : Int),_,rfl,rfl,SqL.of M2.li.lan,hat,?_⟩
       refine ⟨.inl ⟨rfl,_,SqL.of hy1⟩,?_⟩
       walk_at "rd"
       refine ⟨lq,_,0,0,v,rfl,rfl,hy1,by decide,by decide,Mc.ix0 _ _,rfl,?_⟩
       have M3 : MA a c (upd H2 lq (.lst vs)) p A { m with lanes:=m.lanes.set j r }:=M2.setLane hlq hy1 hvs
       have st3 : Mc.Step p A H A (upd H2 lq (.lst vs)):=(Mc.Step.of_same (hs1.trans hs2)).trans (Mc.Step.lst (by unfold Mc.Adr.all; simp [List.mem_of_getElem? hlq]) hy1)
       have hv3:=Mc.zdp (Mc.Keep.lst (o:=.lst vs) hy1) hv
       have eer : ((v :: vs).eraseIdx 0) = vs:=rfl
       rw [eer]
       generalize upd H2 lq (.lst vs) = H3 at M3 st3 hv3 ⊢
       exact ⟨p,A,c,_,v,some x,rfl,M3,hv3,by show m.line.length <= 99999; omega,fun A' H' M' s'=>q A' H' M' (st3.trans s')⟩
def zns (a : Ad) : Sp:=fun vs H Q _=>∃ (p : Addr) (A : Mc.Adr) (c : Mc.Cf) (m : Mc.Ms),vs = [.ref p] /\ MA a c H p A m /\ Mc.Ok c m /\ (Mc.still c m = true -> ∀ H',Same H H' -> Q (.bl false) H') /\ (Mc.still c m = false -> ∀ A' H',MA a c H' p A' (Mc.tick c m) -> Mc.Step p A H A' H' -> Q (.bl true) H')
theorem zeB (T : Tx K mg a) : FnOk P w K mg base CX0 4 a.f_Machine_tick a.d_Machine_tick ["self"] (zns a):=by
 have G_Machine_resting:=zdm (P:=P) (w:=w) (base:=base) T
 have G_Machine_stuck:=zdK (P:=P) (w:=w) (base:=base) T
 have G_Machine_move_bar:=zde (P:=P) (w:=w) (base:=base) T
 have G_Machine_move_caster:=zcy (P:=P) (w:=w) (base:=base) T
 have G_Machine_move_line:=zcR (P:=P) (w:=w) (base:=base) T
 refine T.Machine_tick.fn.ok zer (fun vs H Q E h=>?_) (fun cdv A outer s H vs Q E hr h=>?_)
 ·obtain ⟨p,A,c,m,rfl,_⟩:=h
  rfl
 obtain ⟨p,A,c,m,rfl,M,O,qf,qt⟩:=h
 have I:=M.ins
 unfold Mc.still at qf qt
 refine ⟨_,(zac (zbM (PW.pt (zkb (zcz (zbS (K:=K) rfl T.Machine.cl T.Machine_resting G_Machine_resting hr zdt (pv 0))) (zjZ (zcz (zbS (K:=K) rfl T.Machine.cl T.Machine_stuck G_Machine_stuck hr zdJ (pv 0)))))) (zae (zas znl)) zaI)
  (zac (zaJ (zbS (K:=K) rfl T.Machine.cl T.Machine_move_bar G_Machine_move_bar hr zcZ (pv 0)))
  (zac (zaJ (zbS (K:=K) rfl T.Machine.cl T.Machine_move_caster G_Machine_move_caster hr zcx (pv 0)))
  (zac (zaJ (zbS (K:=K) rfl T.Machine.cl T.Machine_move_line G_Machine_move_line hr zcV (pv 0)))
  (zac (zbX (K:=K) rfl T.Machine.cl T.n_Machine_done zbo (pv 0) (zao zaO (pfld (K:=K) rfl T.Machine.cl T.n_Machine_done zbo (pv 0)) zag))
  (zae (zas znl))))))),?_⟩
 walk_at "rd"
 refine ⟨p,A,c,m,rfl,M,O,fun H1 hs1=>?_⟩
 have M1:=M.same hs1
 have I1:=M1.ins
 refine ⟨_,rfl,?_⟩
 cases hrs : Mc.zcm c m with
 | true =>
   refine iteT ?_
   exact qf (by rw [hrs]; rfl) H1 hs1
 | false =>
   refine iteF ?_
   walk_at "rd"
   refine ⟨p,A,c,m,rfl,M1,O,fun H2 hs2=>?_⟩
   have hs12:=hs1.trans hs2
   have M2:=M.same hs12
   have I2:=M2.ins
   refine ⟨_,rfl,?_⟩
   cases hst : Mc.zhO c m with
   | true =>
     refine iteT ?_
     exact qf (by rw [hrs,hst]; rfl) H2 hs12
   | false =>
     refine iteF ?_
     walk_at "rd"
     refine ⟨p,A,c,m,rfl,M2,O,fun A3 H3 M3 s3=>?_⟩
     have I3:=M3.ins
     walk_at "rd"
     refine ⟨p,A3,c,_,rfl,M3,O.fall,fun A4 H4 M4 s4=>?_⟩
     have I4:=M4.ins
     walk_at "rd"
     refine ⟨p,A4,c,_,rfl,M4,O.fall.cool,fun A5 H5 M5 s5=>?_⟩
     have I5:=M5.ins
     walk_at "rd"
     refine fun H6 I6 k6=>?_
     have I6 : IA a H6 p (Mc.vals c A5 (Mc.tick c m)):=I6
     exact qt (by rw [hrs,hst]; rfl) A5 H6 (M5.setF I6 k6 rfl rfl rfl rfl rfl) (((((Mc.Step.of_same hs12).trans s3).trans s4).trans s5).trans (Mc.Step.flds I5 I6 k6))
def sp_run (a : Ad) : Sp:=fun vs H Q _=>∃ (p : Addr) (A : Mc.Adr) (c : Mc.Cf) (m : Mc.Ms),vs = [.ref p] /\ MA a c H p A m /\ Mc.Ok c m /\ ∀ A' H',MA a c H' p A' (Mc.fin c m) -> Mc.Step p A H A' H' -> Q (.int ((Mc.fin c m).done - m.done)) H'
theorem zdN (T : Tx K mg a) : FnOk P w K mg base CX0 1 a.f_Machine_ticks a.d_Machine_ticks ["self"] (ziv a fun c m=>.int m.done):=by
 refine T.Machine_ticks.fn.ok zdL (fun vs H Q E h=>?_) (fun cdv A outer s H vs Q E hr h=>?_)
 ·obtain ⟨p,A,c,m,rfl,_⟩:=h
  rfl
 obtain ⟨p,A,c,m,rfl,M,O,q⟩:=h
 have I:=M.ins
 refine ⟨_,(zae (zas (pfld (K:=K) rfl T.Machine.cl T.n_Machine_done zbo (pv 0)))),?_⟩
 walk_at "rd"
 exact q H (Same.refl _)
def zka (a : Ad) (F : Mc.Cf -> Mc.Ms -> Hp -> Hp -> Addr -> Prop) : Sp:=fun vs H Q _=>∃ (p : Addr) (A : Mc.Adr) (c : Mc.Cf) (m : Mc.Ms),vs = [.ref p] /\ MA a c H p A m /\ Mc.Ok c m /\ ∀ r H',H r = none -> Same H H' -> F c m H H' r -> Q (.ref r) H'
/-- new lists of matrices -/
def znM (H H' : Hp) (r : Addr) (ms : List (List Mc.Mx)) : Prop:=∃ ls : List Addr,H' r = some (.lst (ls.map V.ref)) /\ Paired (Mc.LnAt H') ls ms /\ (r :: ls).Nodup /\ ∀ z ∈ ls,H z = none
theorem ok_Machine_channels (T : Tx K mg a) : FnOk P w K mg base CX0 1 a.f_Machine_channels a.d_Machine_channels ["self"] (zka a fun c m H H' r=>znM H H' r m.lanes):=by
 refine T.Machine_channels.fn.ok zdd (fun vs H Q E h=>?_) (fun cdv A outer s H vs Q E hr h=>?_)
 ·obtain ⟨p,A,c,m,rfl,_⟩:=h
  rfl
 obtain ⟨p,A,c,m,rfl,M,O,q⟩:=h
 have I:=M.ins
 have hll:=Paired.length M.li.lns
 have hln:=O.ln
 have hfew:=O.cf.few
 refine ⟨_,(zae (zas (zba rfl (zaZ K rfl (pfld (K:=K) rfl T.Machine.cl T.n_Machine_lying zaE (pv 0))) (BlkOk.of (N':=["self","matrices"]) (ms:=[]) (k:=1) (by rfl)) (fun _ _ _ _ _=>(zal (i:=1) (show List.Nodup (["self","matrices"] : List Str) from by decide +kernel) rfl (Or.inl rfl))) (fun _ _ _ _ _=>zbK) (fun _ _ _ _ _=>(zec (ziN K rfl) rfl T.b_list zkK (zaa (pv 1) zad)))))),?_⟩
 walk_at "rd"
 refine ⟨⟨_,SqL.of M.li.lan⟩,fun D hD=>?_⟩
 refine zaN (a:=A.L) (xs:=A.ls.map V.ref) (fun i ys σ H2=>∃ (v2 : Option V) (ls : List Addr),ys = ls.map V.ref /\ σ = [some (.ref p),v2] /\ Same H H2 /\ H2 D = some (.lst ys) /\ Paired (Mc.LnAt H2) ls (m.lanes.take i) /\ (D :: ls).Nodup /\ ∀ z ∈ ls,H z = none)
  ?_ ?_ ?_ ?_
 ·exact ⟨none,[],rfl,rfl,zaf hD _,upd_same,.nil,by simp,fun z hz=>nomatch hz⟩
 ·rintro i ys σ H2 hi ⟨_,_,_,_,hs,_⟩
  exact hs.seq (SqL.of M.li.lan)
 ·rintro i y ys σ H2 hy hil ⟨v2,ls,rfl,rfl,hs,hh,hp,hn,hf⟩
  rw [List.getElem?_map] at hy
  obtain ⟨q1,hq1,rfl⟩:=Option.map_eq_some_iff.mp hy
  obtain ⟨l,hl,xs,hx1,hx2⟩:=Cs.zbq M.li.lns hq1
  have hlp:=Paired.length hp
  rw [List.length_take] at hlp
  rw [List.length_map] at hil
  walk_at "rd"
  refine ⟨q1,xs,rfl,.inl (SqL.of (hs _ _ hx1)),fun r hr=>?_⟩
  have hsr:=zaf hr (.lst xs)
  have hrr : upd H2 r (.lst xs) r = some (.lst xs):=upd_same
  generalize upd H2 r (.lst xs) = H3 at hsr hrr ⊢
  have hh3:=hsr _ _ hh
  have hrD : r ≠ D:=fun e=>by rw [e,hh] at hr; cases hr
  have kp : Mc.Keep (fun b=>b ≠ D) H3 (upd H3 D (.lst (ls.map V.ref ++ [V.ref r]))):=Mc.Keep.lst hh3
  obtain ⟨hn1,hn2⟩:=List.nodup_cons.mp hn
  have hrl : r ∉ ls:=fun z=>by
   obtain ⟨k,hk,e⟩:=List.getElem_of_mem z
   obtain ⟨_,_,ws,hw,_⟩:=Cs.zbq hp (List.getElem?_eq_getElem hk)
   rw [e,hr] at hw
   cases hw
  have hm3:=Mc.zcC (Mc.Keep.of_same (S:=fun _=>True) (hs.trans hsr)) hx2
  have h33:=Mc.zbA (Mc.Keep.of_same (S:=fun _=>True) hsr) (fun _ _=>trivial) hp
  refine zdj (by rw [List.length_map]; exact hil) hh3 (by rw [List.length_map]; omega) ⟨_,ls ++ [r],by rw [List.map_append]; rfl,rfl,zau (hs.trans hsr) hD,upd_same,?_,?_,?_⟩
  ·rw [List.take_add_one,hl]
   exact Paired.snoc (Mc.zbA kp (fun z hz e=>hn1 (e ▸ hz)) h33) ⟨xs,kp _ _ hrr (.inl hrD),Mc.zcC kp hm3⟩
  ·rw [List.nodup_cons,List.nodup_append]
   refine ⟨fun z=>?_,hn2,by simp,fun x hx y hy e=>?_⟩
   ·rcases List.mem_append.mp z with z | z
    ·exact hn1 z
    ·exact hrD (List.mem_singleton.mp z).symm
   ·rw [List.mem_singleton.mp hy] at e
    exact hrl (e ▸ hx)
  ·intro z hz
   rcases List.mem_append.mp hz with hz | hz
   ·exact hf z hz
   ·rw [List.mem_singleton.mp hz]
    exact hs.free hr
 ·rintro ys σ H2 ⟨v2,ls,rfl,rfl,hs,hh,hp,hn,hf⟩
  rw [List.length_map,hll,List.take_of_length_le (Nat.le_refl _)] at hp
  exact q D H2 hD hs ⟨ls,hh,hp,hn,hf⟩
def spF : Sp:=fun _ _ _ _=>False
theorem fnF {CX : CXT} {k : Nat} {f : Addr} {fd : FuncData} {ps : List Str} : FnOk P w K mg base CX k f fd ps spF:=⟨fun _ _ _ _ h=>h.elim,fun _ _ _ _ _ _ _ _ _ _ _ _ _ h=>h.elim⟩
def zeH : Sp:=fun vs H Q _=>∃ (c : Addr) (xs : List V) (rs : List Cs.Row),vs = [.ref c,.non] /\ H c = some (.lst xs) /\ Paired (Cs.zbp H) xs rs /\ rs.length <= 100 /\ (∀ r ∈ rs,0 <= r.n /\ r.n <= 1000) /\
 (∀ (D : Addr) (ls : List Addr) H',H D = none -> Same H H' -> H' D = some (.lst (ls.map V.ref)) -> Paired (Mc.LnAt H') ls (Mc.zbf rs) -> (D :: ls).Nodup -> (∀ z ∈ ls,H z = none) -> Q (.ref D) H')
theorem zep (T : Tx K mg a) : FnOk P w K mg base CX0 2 a.f_channels_of a.d_channels_of ["case","broken"] zeH:=by
 have G_can_break : FnOk P w K mg base CX0 1 a.f_can_break a.d_can_break ["case","ahead","channel","teeth"] spF:=fnF
 refine T.channels_of.fn.ok zeN (fun vs H Q E h=>?_) (fun cdv A outer s H vs Q E hr h=>?_)
 ·obtain ⟨c,xs,rs,rfl,_⟩:=h
  rfl
 obtain ⟨c,xs,rs,rfl,hc,hpd,hrl,hrn,q⟩:=h
 have hxl:=Cs.zaX hpd
 refine ⟨_,(zac (znJ (i:=2) zeN.nd rfl (Or.inl rfl) rfl (zaZ K rfl (pv 0)) (BlkOk.of (N':=["case","broken","channels","ahead","at","part","channel","lost","sign","width","own","many","teeth"]) (ms:=[8,9,11]) (k:=1) (by rfl)) (fun _ _ _ _ _=>(zaV K rfl (n:=4) rfl (zam (zal (i:=8) (show List.Nodup (["case","broken","channels","ahead","at","part","channel","lost","sign","width","own","many","teeth"] : List Str) from by decide +kernel) rfl (Or.inl rfl)) (zam (zal (i:=9) (show List.Nodup (["case","broken","channels","ahead","at","part","channel","lost","sign","width","own","many","teeth"] : List Str) from by decide +kernel) rfl (Or.inl rfl)) (zam (zal (i:=12) (show List.Nodup (["case","broken","channels","ahead","at","part","channel","lost","sign","width","own","many","teeth"] : List Str) from by decide +kernel) rfl (Or.inl rfl)) (zam (zal (i:=11) (show List.Nodup (["case","broken","channels","ahead","at","part","channel","lost","sign","width","own","many","teeth"] : List Str) from by decide +kernel) rfl (Or.inl rfl)) zaW)))))) (fun _ _ _ _ _=>zbK) (fun _ _ _ _ _=>(zao zlr (zaF (zaa (zfs (zaa (pv 8) (zaa (pv 12) zad))) zad)) (pv 11))))
  (zac (zav (i:=3) zeN.nd rfl (Or.inl rfl) (zaF zad))
  (zac (zcX PassesOwn.never rfl (zcs K rfl rfl T.b_enumerate (zaa (ziK (zsX (zmE (pv 1))) (zaF zad) (pv 1)) zad)) (zaV K rfl (n:=2) rfl (zam (zal (i:=4) zeN.nd rfl (Or.inl rfl)) (zam (zal (i:=5) zeN.nd rfl (Or.inl rfl)) zaW))) (zac (zdX (pv 5) (zaV K rfl (n:=2) rfl (zam (zal (i:=6) zeN.nd rfl (Or.inl rfl)) (zam (zal (i:=7) zeN.nd rfl (Or.inl rfl)) zaW))))
  (zac (zbM (zim (zcz (zbl T.can_break G_can_break hr rfl (zaa (pv 0) (zaa (pv 3) (zaa (pv 6) (zaa (pv 7) zad))))))) (zae zmc) zaI)
  (zac (zdX (zbE (zaY K rfl) (pv 0) (pv 6) (fun _ _=>rfl)) (zaV K rfl (n:=4) rfl (zam (zal (i:=8) zeN.nd rfl (Or.inl rfl)) (zam (zal (i:=9) zeN.nd rfl (Or.inl rfl)) (zam (zal (i:=10) zeN.nd rfl (Or.inl rfl)) (zam (zal (i:=11) zeN.nd rfl (Or.inl rfl)) zaW))))))
  (zac (zdX (zfs (zaa (pv 8) (zaa (zao zin (pv 10) (pv 7)) zad))) (zls (zbE (zaY K rfl) (pv 2) (pv 6) (fun _ _=>rfl)) (zbt K rfl PySem.F.plainAttrs_list PySem.F.slot_list_count PySem.F.type_list_count zmj (pv 3) (zaa (pv 6) zad)) zfO))
  (zae (zaJ (zbt K rfl PySem.F.plainAttrs_list PySem.F.slot_list_append PySem.F.type_list_append zbn (pv 3) (zaa (pv 6) zad)))))))))
  (zae (zas (pv 2)))))),?_⟩
 walk_at "rd"
 refine ⟨⟨_,SqL.of hc⟩,fun D hD=>?_⟩
 refine zaN (a:=c) (xs:=xs) (fun j zs σ H2=>∃ (w8 w9 w11 w12 : Option V),σ = [some (.ref c),some .non,none,none,none,none,none,none,w8,w9,none,w11,w12] /\ Same H H2 /\ H2 D = some (.lst zs) /\ Paired (Lan.zeE H D H2) zs ((Mc.zbf rs).take j) /\ zs.Nodup)
  ?_ ?_ ?_ ?_
 ·exact ⟨none,none,none,none,rfl,zaf hD _,upd_same,.nil,List.nodup_nil⟩
 ·rintro j zs σ H2 hj ⟨_,_,_,_,_,hs,_⟩
  exact hs.seq (SqL.of hc)
 ·rintro j y zs σ H2 hy hjl ⟨w8,w9,w11,w12,rfl,hs2,hh2,hz2,hzn⟩
  obtain ⟨r,hrj,t,rfl,ht⟩:=Cs.zbq hpd hy
  have hrb:=hrn r (List.mem_of_getElem? hrj)
  have hzl:=Paired.length hz2
  rw [List.length_take] at hzl
  refine ⟨_,_,rfl,SqT.of (hs2 _ _ ht),rfl,?_⟩
  walk_at "tg"
  walk_at "tg"
  walk_at "tg"
  walk_at "tg"
  try refine And.intro rfl ?_
  walk_at "rd"
  intro pt hpt
  have hs3:=zaf hpt (.tup [.str r.s,.int r.t])
  have h3t : upd H2 pt (.tup [.str r.s,.int r.t]) pt = some (.tup [.str r.s,.int r.t]):=upd_same
  generalize upd H2 pt (.tup [.str r.s,.int r.t]) = H3 at hs3 h3t ⊢
  walk_at "rd"
  intro p1 hp1
  have hs4:=zaf hp1 (.lst [.ref pt])
  have h41 : upd H3 p1 (.lst [.ref pt]) p1 = some (.lst [.ref pt]):=upd_same
  generalize upd H3 p1 (.lst [.ref pt]) = H4 at hs4 h41 ⊢
  walk_at "rd"
  refine ⟨p1,_,_,rfl,rfl,h41,by omega,by omega,zay (by show 1 * r.n.toNat <= _; omega),fun p2 hp2=>?_⟩
  have efl : (List.replicate r.n.toNat [V.ref pt]).flatten = List.replicate r.n.toNat (V.ref pt):=by
   generalize r.n.toNat = n
   induction n with
   | zero=>rfl
   | succ n ih=>rw [List.replicate_succ,List.flatten_cons,ih]; rfl
  rw [efl]
  have hs5:=zaf hp2 (.lst (List.replicate r.n.toNat (V.ref pt)))
  have h52 : upd H4 p2 (.lst (List.replicate r.n.toNat (V.ref pt))) p2 = some (.lst (List.replicate r.n.toNat (V.ref pt))):=upd_same
  generalize upd H4 p2 (.lst (List.replicate r.n.toNat (V.ref pt))) = H5 at hs5 h52 ⊢
  have hs25:=hs3.trans (hs4.trans hs5)
  have hh5:=hs25 _ _ hh2
  have hpD : p2 ≠ D:=fun e=>by rw [e,(hs3.trans hs4) _ _ hh2] at hp2; cases hp2
  have hp20 : H2 p2 = none:=hs3.free (hs4.free hp2)
  refine zdj hjl hh5 (by omega) ⟨_,_,_,_,rfl,zau (hs2.trans hs25) hD,upd_same,?_,?_⟩
  ·have e0 : (Mc.zbf rs)[j]? = some (List.replicate r.n.toNat (r.s,r.t)):=by
    unfold Mc.zbf
    rw [List.getElem?_map,hrj]
    rfl
   rw [List.take_add_one,e0]
   refine Paired.snoc (Lan.zmm (Lan.zjC hz2 hs25) hh5) ⟨p2,_,rfl,hpD,hs2.free hp20,by rw [zah hpD]; exact h52,Lan.zfU (Lan.ziu ⟨pt,rfl,(hs4.trans hs5) _ _ h3t⟩ _) hh5⟩
  ·rw [List.nodup_append]
   refine ⟨hzn,by simp,fun x hx y hy=>?_⟩
   rw [List.mem_singleton.mp hy]
   exact fun e=>Lan.zjY hz2 hp20 (e ▸ hx)
 ·rintro zs σ H2 ⟨w8,w9,w11,w12,rfl,hs2,hh2,hz2,hzn⟩
  rw [hxl,List.take_of_length_le (by unfold Mc.zbf; rw [List.length_map]; exact Nat.le_refl _)] at hz2
  obtain ⟨ls,rfl,hls,hnd,hfr⟩:=Mc.zju hz2 hzn
  walk_at "rd"
  intro ph hph
  have hs3:=zaB (o:=.lst []) hs2 hph
  have hs23:=zaf hph (.lst [])
  generalize upd H2 ph (.lst []) = H3 at hs3 hs23 ⊢
  walk_at "rd"
  intro pe hpe
  have hs4:=zaB (o:=.lst []) hs23 hpe
  have hs04:=zaB (o:=.lst []) hs3 hpe
  have h4e : upd H3 pe (.lst []) pe = some (.lst []):=upd_same
  generalize upd H3 pe (.lst []) = H4 at hs4 hs04 h4e ⊢
  refine ⟨pe,rfl,⟨_,SqL.of h4e⟩,?_⟩
  refine zcp (a:=pe) (xs:=[]) (fun i σ H5=>∃ (v4 v5 v6 v7 v8 v9 v10 v11 : Option V),σ = [some (.ref c),some .non,some (.ref D),some (.ref ph),v4,v5,v6,v7,v8,v9,v10,v11] /\ H5 = H4)
   ⟨none,none,none,none,none,none,none,none,rfl,rfl⟩ (by rintro i σ H5 _ ⟨_,_,_,_,_,_,_,_,_,e⟩; exact by rw [e]; exact SqL.of h4e) ?_ ?_
  ·rintro i y tp σ H5 hy _ _
   cases hy
  ·rintro σ H5 ⟨v4,v5,v6,v7,v8,v9,v10,v11,rfl,rfl⟩
   refine ⟨_,rfl,?_⟩
   exact q D ls H5 hD hs04 (hs4 _ _ hh2) (Mc.zbA (Mc.Keep.of_same (S:=fun _=>True) hs4) (fun _ _=>trivial) hls) hnd hfr
def zdY (a : Ad) : Sp:=fun vs H Q E=>∃ (p pc dx : Addr) (c : Mc.Cf) (xs : List V),vs = [.ref p,.ref pc,.str c.keys,.int c.cast,.non] /\ H p = some (.ins a.c_Machine dx []) /\ H pc = some (.lst xs) /\ Paired (Cs.zbp H) xs c.rs /\ c.rs.length <= 30 /\ c.keys.length <= 90000 /\ (∀ r ∈ c.rs,0 <= r.n /\ r.n <= 1000) /\
 (BadK c.rs c.keys.cps.toList -> ∀ H' dx',Same H H' -> H' dx' = none -> E (.ref a.c_NoKeys) (some dx') (upd H' dx' (.xd [("at",.int (kAt c.rs c.keys.cps.toList : Nat))]))) /\
 (zcw c.rs c.keys.cps.toList -> ∀ A H',MA a c H' p A (Mc.start c.rs) -> Mc.Off p H H' -> (∀ b ∈ A.all,H b = none) -> Q .non H')
theorem zeJ (T : Tx K mg a) : FnOk P w K mg base (CX1 P w) 4 a.f_Machine_init a.d_Machine_init ["self","case","keys","casting","broken"] (zdY a):=by
 have G_look_at_keys:=zcI (P:=P) (w:=w) (base:=base) T
 have G_channels_of:=zep (P:=P) (w:=w) (base:=base) T
 refine T.Machine.fn.okX zeo (fun vs H Q E h=>?_) (fun cdv A outer s H vs Q E hr h=>?_)
 ·obtain ⟨p,pc,dx,c,xs,rfl,_⟩:=h
  rfl
 obtain ⟨p,pc,dx,c,xs,rfl,hp,hc,hpd,hfew,hshort,hrn,qk,q⟩:=h
 have I0 : IA a H p (List.replicate zdx.length none):=⟨dx,[],hp,FS.nil (by decide)⟩
 refine ⟨_,(zac (zaJ (zgZ T.look_at_keys G_look_at_keys hr rfl rfl (zaa (pv 1) (zaa (pv 2) zad))))
  (zac (zbX (K:=K) rfl T.Machine.cl T.n_Machine_lying zaE (pv 0) (zbl T.channels_of G_channels_of hr rfl (zaa (pv 1) (zaa (pv 4) zad))))
  (zac (zbX (K:=K) rfl T.Machine.cl T.n_Machine_case zbj (pv 0) (zec (ziN K rfl) rfl T.b_list zkK (zaa (pv 1) zad)))
  (zac (zbX (K:=K) rfl T.Machine.cl T.n_Machine_played zbx (pv 0) (pv 2))
  (zac (zbX (K:=K) rfl T.Machine.cl T.n_Machine_struck zaw (pv 0) zag)
  (zac (zbX (K:=K) rfl T.Machine.cl T.n_Machine_casting zbT (pv 0) (pv 3))
  (zac (zbX (K:=K) rfl T.Machine.cl T.n_Machine_line zaR (pv 0) (zaF zad))
  (zac (zbX (K:=K) rfl T.Machine.cl T.n_Machine_heated zaq (pv 0) (zaF zad))
  (zac (zbX (K:=K) rfl T.Machine.cl T.n_Machine_to_go zaM (pv 0) zag)
  (zac (zbX (K:=K) rfl T.Machine.cl T.n_Machine_hanging zaz (pv 0) (zaF zad))
  (zac (zbX (K:=K) rfl T.Machine.cl T.n_Machine_texts zct (pv 0) (zaF zad))
  (zac (zbX (K:=K) rfl T.Machine.cl T.n_Machine_done zbo (pv 0) zag)
  (zae (zbX (K:=K) rfl T.Machine.cl T.n_Machine_waits zbH (pv 0) zag)))))))))))))),?_⟩
 walk_at "rd"
 refine ⟨pc,_,c.rs,rfl,⟨xs,SqL.of hc,hpd⟩,hshort,fun hgk H1 hs1=>?_,fun hbk H' dx' hs hd=>qk hbk H' dx' hs hd⟩
 walk_at "rd"
 refine ⟨pc,xs,c.rs,rfl,hs1 _ _ hc,Cs.zar hpd hs1,by omega,hrn,fun D ls H2 hD hs2 hD2 hls hnd hfr=>?_⟩
 have I2:=I0.same (hs1.trans hs2)
 walk_at "rd"
 refine fun H3 I3 k3=>?_
 have o3:=(Mc.Off.of_same (p:=p) (hs1.trans hs2)).trans (Mc.Off.of_fld k3)
 have hpcp:=Mc.zlf I0 hc
 walk_at "rd"
 refine ⟨pc,xs,rfl,.inl (SqL.of (o3 _ _ hpcp hc)),fun e4 he4=>?_⟩
 have hs4:=zaf he4 (.lst xs)
 have h44 : upd H3 e4 (.lst xs) e4 = some (.lst xs):=upd_same
 have I4:=I3.same hs4
 generalize upd H3 e4 (.lst xs) = H4 at hs4 h44 I4 ⊢
 walk_at "rd"
 refine fun H5 I5 k5=>?_
 have o5:=(Mc.Off.of_same (p:=p) hs4).trans (Mc.Off.of_fld k5)
 walk_at "rd"
 refine fun H6 I6 k6=>?_
 walk_at "rd"
 refine fun H7 I7 k7=>?_
 walk_at "rd"
 refine fun H8 I8 k8=>?_
 have o8:=((Mc.Off.of_fld k6).trans (Mc.Off.of_fld k7)).trans (Mc.Off.of_fld k8)
 walk_at "rd"
 refine fun e9 he9=>?_
 have hs9:=zaf he9 (.lst [])
 have h99 : upd H8 e9 (.lst []) e9 = some (.lst []):=upd_same
 have I9:=I8.same hs9
 generalize upd H8 e9 (.lst []) = H9 at hs9 h99 I9 ⊢
 walk_at "rd"
 refine fun H10 I10 k10=>?_
 have o10:=(Mc.Off.of_same (p:=p) hs9).trans (Mc.Off.of_fld k10)
 walk_at "rd"
 refine fun e11 he11=>?_
 have hs11:=zaf he11 (.lst [])
 have h111 : upd H10 e11 (.lst []) e11 = some (.lst []):=upd_same
 have I11:=I10.same hs11
 generalize upd H10 e11 (.lst []) = H11 at hs11 h111 I11 ⊢
 walk_at "rd"
 refine fun H12 I12 k12=>?_
 walk_at "rd"
 refine fun H13 I13 k13=>?_
 have o13:=((Mc.Off.of_same (p:=p) hs11).trans (Mc.Off.of_fld k12)).trans (Mc.Off.of_fld k13)
 walk_at "rd"
 refine fun e14 he14=>?_
 have hs14:=zaf he14 (.lst [])
 have h144 : upd H13 e14 (.lst []) e14 = some (.lst []):=upd_same
 have I14:=I13.same hs14
 generalize upd H13 e14 (.lst []) = H14 at hs14 h144 I14 ⊢
 walk_at "rd"
 refine fun H15 I15 k15=>?_
 have o15:=(Mc.Off.of_same (p:=p) hs14).trans (Mc.Off.of_fld k15)
 walk_at "rd"
 refine fun e16 he16=>?_
 have hs16:=zaf he16 (.lst [])
 have h166 : upd H15 e16 (.lst []) e16 = some (.lst []):=upd_same
 have I16:=I15.same hs16
 generalize upd H15 e16 (.lst []) = H16 at hs16 h166 I16 ⊢
 walk_at "rd"
 refine fun H17 I17 k17=>?_
 walk_at "rd"
 refine fun H18 I18 k18=>?_
 walk_at "rd"
 refine fun H19 I19 k19=>?_
 have o19:=(((Mc.Off.of_same (p:=p) hs16).trans (Mc.Off.of_fld k17)).trans (Mc.Off.of_fld k18)).trans (Mc.Off.of_fld k19)
 have I19 : IA a H19 p (Mc.vals c ⟨D,e4,e9,e11,e14,e16,ls⟩ (Mc.start c.rs)):=I19
 -- from each list's begin to the end
 have o05:=o3.trans o5
 have o08:=o05.trans o8
 have o010:=o08.trans o10
 have o013:=o010.trans o13
 have o015:=o013.trans o15
 have o019:=o015.trans o19
 have f15:=o19
 have f13:=o15.trans f15
 have f10:=o13.trans f13
 have f8:=o10.trans f10
 have f5:=o8.trans f8
 have f3:=o5.trans f5
 have f2:=(Mc.Off.of_fld k3).trans f3
 have f4:=(Mc.Off.of_fld k5).trans f5
 have f9:=(Mc.Off.of_fld k10).trans f10
 have f11:=((Mc.Off.of_fld k12).trans (Mc.Off.of_fld k13)).trans f13
 have f14:=(Mc.Off.of_fld k15).trans f15
 have f16:=((Mc.Off.of_fld k17).trans (Mc.Off.of_fld k18)).trans (Mc.Off.of_fld k19)
 have hDp:=Mc.zlf I2 hD2
 have hlp : ∀ z ∈ ls,z ≠ p:=fun z hz=>Mc.zdw (I0.same hs1) (hfr z hz)
 have n4:=Mc.zdw I3 he4
 have n9:=Mc.zdw I8 he9
 have n11:=Mc.zdw I10 he11
 have n14:=Mc.zdw I13 he14
 have n16:=Mc.zdw I15 he16
 have Lls : Paired (Mc.LnAt H19) ls (Mc.start c.rs).lanes:=Mc.zbA (Mc.Off.keep I2 f2) hlp hls
 have some_ls : ∀ z ∈ ls,∃ ws,H2 z = some (.lst ws):=fun z hz=>by
  obtain ⟨i,hi,e⟩:=List.getElem_of_mem hz
  obtain ⟨_,_,ws,hw,_⟩:=Cs.zbq hls (List.getElem?_eq_getElem hi)
  rw [e] at hw
  exact ⟨ws,hw⟩
 have dif : ∀ {x e : Addr} {Hk : Hp} {ws : List V},Hk x = some (.lst ws) -> Hk e = none -> x ≠ e:=fun h1 h2 z=>by rw [z,h2] at h1; cases h1
 obtain ⟨hn1,hn2⟩:=List.nodup_cons.mp hnd
 have g3:=Mc.Off.of_fld k3
 have g8:=(g3.trans o5).trans o8
 have g10:=g8.trans o10
 have g13:=g10.trans o13
 have g15:=g13.trans o15
 have lsn : ∀ {e : Addr} {Hk : Hp},Mc.Off p H2 Hk -> Hk e = none -> e ∉ ls:=fun o h hz=>by
  obtain ⟨ws,hw⟩:=some_ls _ hz
  rw [o _ _ (hlp _ hz) hw] at h
  cases h
 refine q hgk ⟨D,e4,e9,e11,e14,e16,ls⟩ H19 ⟨I19,?_,⟨⟨xs,f4 _ _ n4 h44,?_⟩,f2 _ _ hDp hD2,Lls,⟨[],f9 _ _ n9 h99,.nil⟩,⟨[],f11 _ _ n11 h111,.nil⟩,⟨[],f14 _ _ n14 h144,.nil⟩,f16 _ _ n16 h166⟩⟩ o019 ?_
 ·unfold Mc.Adr.all
  simp only [List.nodup_cons,List.mem_cons,not_or]
  exact ⟨⟨dif (g3 _ _ hDp hD2) he4,dif (g8 _ _ hDp hD2) he9,dif (g10 _ _ hDp hD2) he11,dif (g13 _ _ hDp hD2) he14,dif (g15 _ _ hDp hD2) he16,hn1⟩,
   ⟨dif (((Mc.Off.of_fld k5).trans o8) _ _ n4 h44) he9,dif ((((Mc.Off.of_fld k5).trans o8).trans o10) _ _ n4 h44) he11,dif (((((Mc.Off.of_fld k5).trans o8).trans o10).trans o13) _ _ n4 h44) he14,dif ((((((Mc.Off.of_fld k5).trans o8).trans o10).trans o13).trans o15) _ _ n4 h44) he16,lsn g3 he4⟩,
   ⟨dif ((Mc.Off.of_fld k10) _ _ n9 h99) he11,dif (((Mc.Off.of_fld k10).trans o13) _ _ n9 h99) he14,dif ((((Mc.Off.of_fld k10).trans o13).trans o15) _ _ n9 h99) he16,lsn g8 he9⟩,
   ⟨dif (((Mc.Off.of_fld k12).trans (Mc.Off.of_fld k13)) _ _ n11 h111) he14,dif ((((Mc.Off.of_fld k12).trans (Mc.Off.of_fld k13)).trans o15) _ _ n11 h111) he16,lsn g10 he11⟩,
   ⟨dif ((Mc.Off.of_fld k15) _ _ n14 h144) he16,lsn g13 he14⟩,lsn g15 he16,hn2⟩
 ·exact Mc.zbJ (Mc.Off.keep I0 o019) hpd
 ·unfold Mc.Adr.all
  intro b hb
  simp only [List.mem_cons] at hb
  rcases hb with rfl | rfl | rfl | rfl | rfl | rfl | hb
  ·exact hs1.free hD
  ·exact o3.free I3 he4
  ·exact o08.free I8 he9
  ·exact o010.free I10 he11
  ·exact o013.free I13 he14
  ·exact o015.free I15 he16
  ·exact hs1.free (hfr b hb)
theorem zcd (ms : List (List Str)) : ((ms.filter fun l=>!l.isEmpty).map List.length).sum <= (ms.map List.length).sum:=by
 induction ms with
 | nil=>exact Nat.le_refl _
 | cons l r ih =>
   rw [List.filter_cons]
   split
   ·rw [List.map_cons,List.map_cons,List.sum_cons,List.sum_cons]
    omega
   ·rw [List.map_cons,List.sum_cons]
    omega
theorem zla {rs : List Cs.Row} {r : Cs.Row} (h : r ∈ rs) : (Cs.place rs r.s).isSome = true:=by
 unfold Cs.place
 rw [List.findIdx?_isSome,List.any_eq_true]
 exact ⟨r,h,decide_eq_true rfl⟩
theorem zfk {no p : Addr} {H : Hp} {o : HO} : ∀ {xs : List V} {ls : List (List Str)},Paired (Lns.zcY no H) xs ls -> V.ref p ∉ xs -> Paired (Lns.zcY no (upd H p o)) xs ls
 | _,_,.nil,_=>.nil
 | _,_,.cons ⟨q,e,n,z⟩ t,hn=>by
   subst e
   exact .cons ⟨q,rfl,n,by rw [zah (fun e=>hn (by rw [e]; exact List.mem_cons_self))]; exact z⟩ (zfk t fun h=>hn (List.mem_cons_of_mem _ h))
def zgK (K : PySem.W.Frag) : Sp:=fun vs H Q _=>∃ (l pc : Addr) (ns : List Int) (xs : List V) (rs : List Cs.Row),vs = [.ref l,.ref pc] /\ SqL K H l (ns.map V.int) /\ ns.length <= 63 /\ H pc = some (.lst xs) /\ Paired (Cs.zbp H) xs rs /\ rs ≠ [] /\ rs.length <= 30 /\ (∀ r ∈ rs,∃ c ∈ Cs.signs,r.s = sg c) /\
 ∀ (r : Addr) (zs : List V) (ls : List (List Str)) H',H r = none -> Same H H' -> H' r = some (.lst zs) -> Paired (Lns.zcY r H') zs ls -> Mc.Lines rs ls -> (ls.map List.length).sum <= ns.length -> Q (.ref r) H'
theorem zgy (T : Tx K mg a) : FnOk P w K mg base CX0 2 a.f_law_lines a.d_law_lines ["_law_cells","_law_case_here"] (zgK K):=by
 have G_law_mixed:=zcH (P:=P) (w:=w) (base:=base) T
 refine T.law_lines.fn.ok zgH (fun vs H Q E h=>?_) (fun cdv A outer s H vs Q E hr h=>?_)
 ·obtain ⟨l,pc,ns,xs,rs,rfl,_⟩:=h
  rfl
 obtain ⟨l,pc,ns,xs,rs,rfl,hS,hnl,hc,hpd,hne,hrl,hsg,q⟩:=h
 have hxl:=Cs.zaX hpd
 have hpos : 0 < rs.length:=List.length_pos_iff.mpr hne
 refine ⟨_,(zac (zav (i:=2) zgH.nd rfl (Or.inl rfl) (zaF (zaa (zaF zad) zad)))
  (zac (zcX PassesOwn.never rfl (zcs K rfl rfl T.b_enumerate (zaa (pv 0) zad)) (zaV K rfl (n:=2) rfl (zam (zal (i:=3) zgH.nd rfl (Or.inl rfl)) (zam (zal (i:=4) zgH.nd rfl (Or.inl rfl)) zaW))) (zac (zav (i:=5) zgH.nd rfl (Or.inl rfl) (zbl T.law_mixed G_law_mixed hr rfl (zaa (pv 4) (zaa (pv 3) zad))))
  (zac (zav (i:=6) zgH.nd rfl (Or.inl rfl) zbL)
  (zac (zcX PassesOwn.never rfl (zez rfl T.b_range (zaa (zao zaO zag (zao zaU (pv 5) zag)) zad)) (zal (i:=7) zgH.nd rfl (Or.inl rfl)) (zac (zav (i:=5) zgH.nd rfl (Or.inl rfl) (zao zaU (zao zev (zao zaO (zao zaO (pv 5) (pv 7)) zag) zag) zag))
  (zae (zav (i:=6) zgH.nd rfl (Or.inl rfl) (zao zaT (pv 6) (zbE (zeb K rfl) (zbE (zaY K rfl) (pv 1) (zao zaU (zao zbu (pv 5) zag) (zaG (zbQ K rfl) rfl T.b_len zcc (zaa (pv 1) zad))) (fun _ _=>rfl)) zag (fun _ _=>rfl)))))))
  (zac (zaJ (zbt K rfl PySem.F.plainAttrs_list PySem.F.slot_list_append PySem.F.type_list_append zbn (zbE (zaY K rfl) (pv 2) (zjT zfw zag) (fun _ _=>rfl)) (zaa (pv 6) zad)))
  (zae (zbM (zaA zfE (zao zaU (pv 5) zag) zag (zax _)) (zae (zaJ (zbt K rfl PySem.F.plainAttrs_list PySem.F.slot_list_append PySem.F.type_list_append zbn (pv 2) (zaa (zaF zad) zad)))) zaI)))))))
  (zae (zas (zba rfl (zaZ K rfl (pv 2)) (BlkOk.of (N':=["_law_cells","_law_case_here","_law_lines_here","_law_k","_law_cell","_law_number","_law_word","_law_j","_law_line"]) (ms:=[]) (k:=1) (by rfl)) (fun _ _ _ _ _=>(zal (i:=8) (show List.Nodup (["_law_cells","_law_case_here","_law_lines_here","_law_k","_law_cell","_law_number","_law_word","_law_j","_law_line"] : List Str) from by decide +kernel) rfl (Or.inl rfl))) (fun _ _ _ _ _=>(zlp (zaA (kneD K rfl hr.units) (pv 8) (zaF zad) (zax _)))) (fun _ _ _ _ _=>(pv 8))))))),?_⟩
 walk_at "rd"
 refine fun p0 hp0=>?_
 have hs1:=zaf hp0 (.lst [])
 have h1p : upd H p0 (.lst []) p0 = some (.lst (([] : List Str).map V.str)):=upd_same
 generalize upd H p0 (.lst []) = H1 at hs1 h1p ⊢
 walk_at "rd"
 refine fun LR hLR=>?_
 have hs2:=zaB (o:=.lst [.ref p0]) hs1 hLR
 have hs12:=zaf hLR (.lst [.ref p0])
 have h2L : upd H1 LR (.lst [.ref p0]) LR = some (.lst ([] ++ [.ref p0])):=upd_same
 generalize upd H1 LR (.lst [.ref p0]) = H2 at hs2 hs12 h2L ⊢
 have hpL : p0 ≠ LR:=fun e=>by rw [<- e,h1p] at hLR; cases hLR
 have hLR0:=hs1.free hLR
 refine ⟨_,rfl,?_⟩
 refine ⟨l,rfl,⟨_,hs2.seq hS⟩,?_⟩
 refine zcp (a:=l) (xs:=ns.map V.int) (fun i σ H3=>∃ (ini : List V) (p : Addr) (ls : List (List Str)) (last : List Str) (v3 v4 v5 v6 v7 : Option V),σ = [some (.ref l),some (.ref pc),some (.ref LR),v3,v4,v5,v6,v7] /\ Same H H3 /\ H3 LR = some (.lst (ini ++ [.ref p])) /\ Paired (Lns.zcY LR H3) ini ls /\ V.ref p ∉ ini /\ p ≠ LR /\ H p = none /\ H3 p = some (.lst (last.map V.str)) /\
  ls.length <= i /\ last.length <= i /\ (ls.map List.length).sum + last.length <= i /\ (∀ l ∈ ls,l ≠ [] /\ l.length <= 63 /\ ∀ x ∈ l,Mc.Wd rs 5 x) /\ ∀ x ∈ last,Mc.Wd rs 5 x)
  ⟨[],p0,[],[],none,none,none,none,none,rfl,hs2,h2L,.nil,(fun z=>nomatch z),hpL,hp0,hs12 _ _ h1p,Nat.le_refl _,Nat.le_refl _,Nat.le_refl _,(fun l hl=>nomatch hl),(fun l hl=>nomatch hl)⟩ (by rintro i σ H3 _ ⟨_,_,_,_,_,_,_,_,_,_,hs,_⟩; exact hs.seq hS) ?_ ?_
 ·rintro i y tp σ H3 hy ⟨ini,p,ls,last,v3,v4,v5,v6,v7,rfl,hs3,hL3,hp3,hpi,hpL,hp0,hpp,hll,hla,hsu,hlo,hlw⟩ htp0
  obtain ⟨c,rfl,hci⟩:=zbv hy
  have hil : i < ns.length:=(List.getElem?_eq_some_iff.mp hci).1
  have hs34:=zaf htp0 (.tup [.int i,.int c])
  have hs4:=zaB (o:=.tup [.int i,.int c]) hs3 htp0
  have h4t : upd H3 tp (.tup [.int i,.int c]) tp = some (.tup [.int i,.int c]):=upd_same
  generalize upd H3 tp (.tup [.int i,.int c]) = H4 at hs34 hs4 h4t ⊢
  have hL4:=hs34 _ _ hL3
  have hpp4:=hs34 _ _ hpp
  have hp4:=Lns.zdz hp3 hs34
  walk_at "rd"
  walk_at "tg"
  walk_at "tg"
  walk_at "rd"
  refine ⟨_,_,rfl,by omega,by omega,fun f hf0 hf1=>?_⟩
  have hf5:=Int.emod_nonneg f (show (5 : Int) ≠ 0 by decide)
  have hf6:=Int.emod_lt_of_pos f (show (0 : Int) < 5 by decide)
  walk_at "rd"
  refine zew (n:=(1 + f % 5).toNat) (fun j σ H5=>∃ (x : Str) (nn : Int) (v7 : Option V),σ = [some (.ref l),some (.ref pc),some (.ref LR),some (.int i),some (.int c),some (.int nn),some (.str x),v7] /\ H5 = H4 /\ 0 <= nn /\ nn < 2147483647 /\ x.length = j /\ ∀ c ∈ x.cps.toList,c ∈ Cs.signs /\ (Cs.place rs (sg c)).isSome = true)
   ⟨"",f,v7,rfl,rfl,hf0,hf1,by decide,fun c h=>by rw [show (Str.ofString "").cps.toList = [] by decide] at h; cases h⟩ ?_ ?_
  ·rintro j σ H5 hj ⟨x,nn,v7,rfl,rfl,hn0,hn1,hxlen,hxp⟩
   rw [Int.zero_add]
   have hb0:=Int.emod_nonneg ((nn + (j : Int) + 1) * 69621) (show (2147483647 : Int) ≠ 0 by decide)
   have hb1:=Int.emod_lt_of_pos ((nn + (j : Int) + 1) * 69621) (show (0 : Int) < 2147483647 by decide)
   have hj5 : (j : Int) <= 5:=by omega
   have hc4:=hs4 _ _ hc
   have hat : ∀ g : Int,0 <= g -> g < 2147483647 -> ∃ (k : Nat) (t : Addr) (c : Nat),g / 7 % (xs.length : Int) = (k : Int) /\ atI xs (k : Int) = some (.ref t) /\ c ∈ Cs.signs /\ (Cs.place rs (sg c)).isSome = true /\ ∃ r : Cs.Row,r.s = sg c /\ H5 t = some (.tup (Cs.rowV r)):=fun g hg0 hg1=>by
    have hy0:=Int.emod_nonneg (g / 7) (show (xs.length : Int) ≠ 0 by omega)
    have hy1:=Int.emod_lt_of_pos (g / 7) (show (0 : Int) < xs.length by omega)
    obtain ⟨k,hk⟩:=Int.eq_ofNat_of_zero_le hy0
    have hkl : k < xs.length:=by omega
    obtain ⟨r,hri,t,et,ht⟩:=Cs.zbq hpd (List.getElem?_eq_getElem hkl)
    have hrm:=List.mem_of_getElem? hri
    obtain ⟨c,hcs,ec⟩:=hsg r hrm
    exact ⟨k,t,c,hk,by rw [<- et]; exact zbi (List.getElem?_eq_getElem hkl),hcs,by rw [<- ec]; exact zla hrm,r,ec,hs4 _ _ ht⟩
   obtain ⟨k,t,d,hk,hatk,hds,hdp,r,er,ht⟩:=hat _ hb0 hb1
   walk_at "rd"
   refine ⟨pc,_,rfl,.inl (SqL.of hc4),?_⟩
   refine ⟨_,_,rfl,rfl,(by show (0 : Int) < _; omega),?_⟩
   dsimp only
   rw [hk]
   refine ⟨pc,_,_,_,rfl,rfl,SqL.of hc4,hatk,?_⟩
   refine ⟨t,_,_,_,rfl,rfl,SqT.of ht,rfl,?_⟩
   refine ⟨_,_,rfl,rfl,zay (by rw [er]; show x.length + 1 <= _; omega),?_⟩
   refine ⟨x ++ r.s,_,_,rfl,rfl,hb0,hb1,?_,fun z hz=>?_⟩
   ·rw [Str.length_append,er,hxlen]
    rfl
   ·rw [er,Str.cps_append,Array.toList_append] at hz
    rcases List.mem_append.mp hz with h | h
    ·exact hxp z h
    ·have : z = d:=by simpa [sg] using h
     rw [this]
     exact ⟨hds,hdp⟩
  ·rintro σ H5 ⟨x,nn,v7,rfl,rfl,hn0,hn1,hxlen,hxp⟩
   have hw : Mc.Wd rs 5 x:=⟨by omega,by omega,hxp⟩
   have hinl:=Lns.zdr hp4
   walk_at "rd"
   refine ⟨LR,_,-1,_,rfl,rfl,SqL.of hL4,Lns.zmS ini _,?_⟩
   refine ⟨.inl ⟨rfl,_,SqL.of hpp4⟩,?_⟩
   walk_at "rd"
   refine ⟨p,_,_,rfl,rfl,hpp4,zcF (by rw [List.length_map]; omega),?_⟩
   have hs6:=zau (o:=.lst (last.map V.str ++ [V.str x])) hs4 hp0
   have hL6 : upd H5 p (.lst (last.map V.str ++ [V.str x])) LR = some (.lst (ini ++ [.ref p])):=by rw [zah hpL.symm]; exact hL4
   have h6p : upd H5 p (.lst (last.map V.str ++ [V.str x])) p = some (.lst ((last ++ [x]).map V.str)):=by rw [upd_same,List.map_append]; rfl
   have hp6:=zfk (o:=.lst (last.map V.str ++ [V.str x])) hp4 hpi
   generalize upd H5 p (.lst (last.map V.str ++ [V.str x])) = H6 at hs6 hL6 h6p hp6 ⊢
   have hlw' : ∀ y ∈ last ++ [x],Mc.Wd rs 5 y:=fun y hy=>by
    rcases List.mem_append.mp hy with hy | hy
    ·exact hlw y hy
    ·rw [List.mem_singleton.mp hy]
     exact hw
   have hla' : (last ++ [x]).length <= i + 1:=by rw [List.length_append]; show _ + 1 <= _; omega
   walk_at "rd"
   refine ite2 (fun _=>?_) (fun _=>?_)
   ·walk_at "rd"
    refine ⟨.inl ⟨rfl,_,SqL.of hL6⟩,?_⟩
    walk_at "rd"
    refine fun e he=>?_
    have hs7:=zaf he (.lst [])
    have h7e : upd H6 e (.lst []) e = some (.lst (([] : List Str).map V.str)):=upd_same
    generalize upd H6 e (.lst []) = H7 at hs7 h7e ⊢
    have hL7:=hs7 _ _ hL6
    have heL : e ≠ LR:=fun z=>by rw [z,hL6] at he; cases he
    refine ⟨LR,_,_,rfl,rfl,hL7,zcF (by rw [List.length_append]; show _ + 1 <= _; omega),?_⟩
    have hp7:=Lns.zdz hp6 hs7
    refine ⟨ini ++ [.ref p],e,ls ++ [last ++ [x]],[],_,_,_,_,_,rfl,zau (hs6.trans hs7) hLR0,upd_same,?_,?_,heL,hs6.free he,by rw [zah heL]; exact h7e,by rw [List.length_append]; show _ + 1 <= _; omega,Nat.zero_le _,?_,?_,fun y hy=>nomatch hy⟩
    ·exact Paired.snoc (Lns.zgU hp7) ⟨p,rfl,hpL,by rw [zah hpL]; exact hs7 _ _ h6p⟩
    ·intro z
     rcases List.mem_append.mp z with z | z
     ·obtain ⟨k,hk,ek⟩:=List.getElem_of_mem z
      obtain ⟨_,_,q1,eq1,_,hq1⟩:=Cs.zbq hp6 (List.getElem?_eq_getElem hk)
      rw [ek] at eq1
      cases eq1
      rw [he] at hq1
      cases hq1
     ·cases List.mem_singleton.mp z
      rw [he] at h6p
      cases h6p
    ·rw [List.map_append,List.sum_append,List.map_cons,List.map_nil,List.sum_cons,List.sum_nil,List.length_append,List.length_nil]
     show _ + (_ + 1 + 0) + 0 <= _
     omega
    ·intro l hl
     rcases List.mem_append.mp hl with hl | hl
     ·exact hlo l hl
     ·rw [List.mem_singleton.mp hl]
      exact ⟨by simp,by omega,hlw'⟩
   ·exact ⟨ini,p,ls,last ++ [x],_,_,_,_,_,rfl,hs6,hL6,hp6,hpi,hpL,hp0,h6p,by omega,hla',by rw [List.length_append]; show _ + (_ + 1) <= _; omega,hlo,hlw'⟩
 ·rintro σ H3 ⟨ini,p,ls,last,v3,v4,v5,v6,v7,rfl,hs3,hL3,hp3,hpi,hpL,hp0,hpp,hll,hla,hsu,hlo,hlw⟩
  rw [List.length_map] at hll hla hsu
  have hall : Paired (Lns.zcY LR H3) (ini ++ [.ref p]) (ls ++ [last]):=Paired.snoc hp3 ⟨p,rfl,hpL,hpp⟩
  have hal : (ini ++ [V.ref p]).length = (ls ++ [last]).length:=Lns.zdr hall
  have halw : ∀ l ∈ ls ++ [last],l.length <= 63 /\ ∀ x ∈ l,Mc.Wd rs 5 x:=fun l hl=>by
   rcases List.mem_append.mp hl with hl | hl
   ·exact (hlo l hl).2
   ·rw [List.mem_singleton.mp hl]
    exact ⟨by omega,hlw⟩
  have hfl : (ls ++ [last]).length <= 64:=by rw [List.length_append]; show _ + 1 <= _; omega
  have hsm : ((ls ++ [last]).map List.length).sum <= ns.length:=by
   rw [List.map_append,List.sum_append,List.map_cons,List.map_nil,List.sum_cons,List.sum_nil]
   omega
  generalize ini ++ [V.ref p] = zs at hL3 hall hal
  generalize ls ++ [last] = ms at hall hal halw hfl hsm
  walk_at "rd"
  refine ⟨⟨_,SqL.of hL3⟩,fun D hD=>?_⟩
  refine zaN (a:=LR) (xs:=zs) (fun i ys σ H4=>∃ (w8 : Option V),σ = [some (.ref l),some (.ref pc),some (.ref LR),v3,v4,v5,v6,v7,w8] /\ Same H3 H4 /\ H4 D = some (.lst ys) /\ Paired (Lns.zcY D H4) ys ((ms.take i).filter fun l=>!l.isEmpty))
   ?_ ?_ ?_ ?_
  ·exact ⟨none,rfl,zaf hD _,upd_same,.nil⟩
  ·rintro i ys σ H4 hi ⟨_,_,hs,_⟩
   exact hs.seq (SqL.of hL3)
  ·rintro i y ys σ H4 hy hil ⟨w8,rfl,hs4,hh4,hy4⟩
   obtain ⟨l1,hl1,q1,rfl,_,hq1⟩:=Cs.zbq hall hy
   have hq4:=hs4 _ _ hq1
   have hqD : q1 ≠ D:=zan hq1 hD
   have hyl:=Lns.zdr hy4
   have hfl2:=List.length_filter_le (fun l : List Str=>!l.isEmpty) (ms.take i)
   rw [List.length_take] at hfl2
   have hlay : ∀ x ∈ l1,PyData.canLay0 (.str x) = true:=fun x hx=>((halw l1 (List.mem_of_getElem? hl1)).2 x hx).lay
   walk_at "rd"
   refine fun e he=>?_
   have hs5:=zaf he (.lst [])
   have hes : upd H4 e (.lst []) e = some (.lst []):=upd_same
   generalize upd H4 e (.lst []) = H5 at hs5 hes ⊢
   have hh5:=hs5 _ _ hh4
   have hy5:=Lns.zdz hy4 hs5
   refine ⟨_,_,.lst (SqL.of (hs5 _ _ hq4)) (Ln.zfl hlay),Mc.zbY hes,Mc.zbW _,?_⟩
   refine ⟨_,rfl,?_⟩
   have ee : (if true = true then !PyData.eqv (.list (l1.map PyData.str)) (.list []) else PyData.eqv (.list (l1.map PyData.str)) (.list [])) = !l1.isEmpty:=by
    rw [if_pos rfl,Mc.zbZ PyData.str l1]
   rw [ee]
   have etk : ((ms.take (i + 1)).filter fun l=>!l.isEmpty) = ((ms.take i).filter fun l=>!l.isEmpty) ++ (if (!l1.isEmpty) = true then [l1] else []):=by
    rw [List.take_add_one,hl1,List.filter_append]
    congr 1
    cases l1 <;> rfl
   cases hb : (!l1.isEmpty) with
   | false =>
     rw [hb,if_neg (by decide),List.append_nil] at etk
     refine iteF ?_
     exact zpR hil ⟨_,rfl,hs4.trans hs5,hh5,by rw [etk]; exact hy5⟩
   | true =>
     rw [hb,if_pos rfl] at etk
     refine iteT ?_
     walk_at "rd"
     refine zdj hil hh5 (by omega) ⟨_,rfl,zau (hs4.trans hs5) hD,upd_same,?_⟩
     rw [etk]
     exact Paired.snoc (Lns.zgU hy5) ⟨q1,rfl,hqD,by rw [zah hqD]; exact hs5 _ _ hq4⟩
  ·rintro ys σ H4 ⟨w8,rfl,hs4,hh4,hy4⟩
   rw [hal,List.take_of_length_le (Nat.le_refl _)] at hy4
   refine q D ys _ H4 (hs3.free hD) (hs3.trans hs4) hh4 hy4 ⟨?_,fun l hl=>?_⟩ ?_
   ·exact Nat.le_trans (List.length_filter_le _ _) hfl
   ·obtain ⟨h1,h2⟩:=List.mem_filter.mp hl
    exact ⟨fun z=>(by rw [z] at h2; exact absurd h2 (by decide)),halw l h1⟩
   ·exact Nat.le_trans (zcd ms) hsm
def zhG (K : PySem.W.Frag) : Sp:=fun vs H Q _=>∃ (p no : Addr) (xs : List V) (ls : List (List Str)),vs = [.ref p] /\ SqL K H p xs /\ Paired (Lns.zcY no H) xs ls /\ Lns.Fit ls /\ ∀ H',Same H H' -> Q (.str (Lns.keyT ls)) H'
theorem zij (T : Tx K mg a) : FnOk P w K mg base CX0 1 a.f_law_keys a.d_law_keys ["_law_lines_here"] (zhG K):=by
 refine T.law_keys.fn.ok zhN (fun vs H Q E h=>?_) (fun cdv A outer s H vs Q E hr h=>?_)
 ·obtain ⟨p,no,xs,ls,rfl,_⟩:=h
  rfl
 obtain ⟨p,no,xs,ls,rfl,hS,hp,hf,q⟩:=h
 have hxl:=Lns.zdr hp
 have hf1:=hf.1
 refine ⟨_,(zae (zas (zbt K rfl PySem.F.plainAttrs_str PySem.F.slot_str_join PySem.F.type_str_join (zfK K rfl) zbL (zaa (zba rfl (zaZ K rfl (pv 0)) (BlkOk.of (N':=["_law_lines_here","_law_line"]) (ms:=[]) (k:=1) (by rfl)) (fun _ _ _ _ _=>(zal (i:=1) (show List.Nodup (["_law_lines_here","_law_line"] : List Str) from by decide +kernel) rfl (Or.inl rfl))) (fun _ _ _ _ _=>zbK) (fun _ _ _ _ _=>(zao zaT (zbt K rfl PySem.F.plainAttrs_str PySem.F.slot_str_join PySem.F.type_str_join (zfK K rfl) zbL (zaa (pv 1) zad)) zbL))) zad)))),?_⟩
 walk_at "rd"
 intro D hD
 refine zaN (a:=p) (xs:=xs) (fun i ys σ H2=>∃ (v2 : Option V),ys = ((ls.take i).map fun l=>Lns.zbh l ++ "/").map V.str /\ σ = [some (.ref p),v2] /\ Same H H2 /\ H2 D = some (.lst ys))
  ?_ ?_ ?_ ?_
 ·exact ⟨none,rfl,rfl,zaf hD _,upd_same⟩
 ·rintro i ys σ H2 hi ⟨v2,_,_,hs,_⟩
  exact hs.seq hS
 ·rintro i x ys σ H2 hx hil ⟨v2,rfl,rfl,hs,hh⟩
  obtain ⟨l,hl,p2,rfl,_,hp2⟩:=Cs.zbq hp hx
  obtain ⟨hl1,hl2⟩:=hf.2 l (List.mem_of_getElem? hl)
  have hll:=Lns.zhp hl1 hl2
  walk_at "rd"
  refine ⟨_,p2,l,rfl,rfl,SqL.of (hs _ _ hp2),Lns.zjA hl1 hl2,?_⟩
  walk_at "rd"
  refine ⟨zay ?_,?_⟩
  ·have e : (Str.ofString "/").length = 1:=by decide
   have e2 : (Txt.join (Str.ofString " ") l).length <= 10100:=hll
   omega
  refine zdj hil hh ?_ ⟨_,?_,rfl,zau hs hD,upd_same⟩
  ·rw [List.length_map,List.length_map,List.length_take]
   omega
  ·rw [List.take_add_one,hl,List.map_append,List.map_append]
   rfl
 ·rintro ys σ H2 ⟨v2,rfl,rfl,hs,hh⟩
  rw [hxl,List.take_of_length_le (Nat.le_refl _)] at hh
  refine ⟨_,D,_,rfl,rfl,SqL.of hh,Lns.zjm hf,?_⟩
  have e:=Lns.zlN ls
  have q:=q _ hs
  rw [<- e] at q
  exact q
/-- a short text of plain signs -/
def zbD (m : Nat) (x : Str) : Prop:=x.cps.toList.length <= m /\ ∀ c ∈ x.cps.toList,c < 128
theorem zbD.len {m : Nat} {x : Str} (h : zbD m x) : x.length <= m:=by
 have hl : x.cps.toList.length = x.length:=Array.length_toList
 rw [<- hl]
 exact h.1
theorem zbD.mono {m n : Nat} {x : Str} (h : zbD m x) (hn : m <= n) : zbD n x:=⟨Nat.le_trans h.1 hn,h.2⟩
theorem zbD.add {m n k : Nat} {x y : Str} (h : zbD m x) (h2 : zbD n y) (hk : m + n <= k) : zbD k (x ++ y):=by
 refine ⟨?_,fun c hc=>?_⟩
 ·rw [Lns.zaC,List.length_append]
  exact Nat.le_trans (Nat.add_le_add h.1 h2.1) hk
 ·rw [Lns.zaC] at hc
  rcases List.mem_append.mp hc with z | z
  ·exact h.2 c z
  ·exact h2.2 c z
theorem zbD.lit {x : Str} {m : Nat} (h : (decide (x.cps.toList.length <= m) && x.cps.toList.all fun c=>decide (c < 128)) = true) : zbD m x:=by
 rw [Bool.and_eq_true,decide_eq_true_iff,List.all_eq_true] at h
 exact ⟨h.1,fun c hc=>of_decide_eq_true (h.2 c hc)⟩
theorem zbD.to {m : Nat} {x : Str} {z : Int} (h : zbD m x) (h0 : 0 <= z) : zbD m (Txt.slice x none (some z)):=by
 obtain ⟨n,rfl⟩:=Int.eq_ofNat_of_zero_le h0
 have e:=Unl.zfY x (z:=(n : Int)) n rfl
 exact ⟨by rw [e]; exact Nat.le_trans (List.length_take_le' ..) h.1,fun c hc=>h.2 c (by rw [e] at hc; exact List.mem_of_mem_take hc)⟩
theorem zbD.fr {m : Nat} {x : Str} {z : Int} (h : zbD m x) (h0 : 0 <= z) : zbD m (Txt.slice x (some z) none):=by
 obtain ⟨n,rfl⟩:=Int.eq_ofNat_of_zero_le h0
 have e:=Unl.zdy x (z:=(n : Int)) n rfl
 exact ⟨by rw [e,List.length_drop]; exact Nat.le_trans (Nat.sub_le ..) h.1,fun c hc=>h.2 c (by rw [e] at hc; exact List.mem_of_mem_drop hc)⟩
theorem zbD.one {c : Nat} (h : c < 128) : zbD 1 (sg c):=⟨Nat.le_refl 1,fun d hd=>by
 have : d = c:=by simpa [sg] using hd
 omega⟩
theorem ziV (c d : Nat) : ∀ (ps : List Str) (p : Str),p ∈ ps -> d ∈ p.cps.toList -> d ∈ (Str.join ⟨#[c]⟩ ps).cps.toList
 | [q],p,hp,hd=>by
   rw [List.mem_singleton.mp hp] at hd
   exact hd
 | q :: q2 :: qs,p,hp,hd=>by
   show d ∈ (q ++ ⟨#[c]⟩ ++ Str.join ⟨#[c]⟩ (q2 :: qs)).cps.toList
   rw [Lns.zaC,Lns.zaC]
   rcases List.mem_cons.mp hp with e | hp
   ·rw [e] at hd
    exact List.mem_append_left _ (List.mem_append_left _ hd)
   ·exact List.mem_append_right _ (ziV c d (q2 :: qs) p hp hd)
theorem zbD.part {m c : Nat} {x y : Str} (h : zbD m x) (hy : y ∈ Txt.split x ⟨#[c]⟩) : zbD m y:=by
 have hl : y.cps.toList.length = y.length:=Array.length_toList
 refine ⟨by rw [hl]; exact Nat.le_trans (PyProof.Rows.part_short hy) h.len,fun d hd=>h.2 d ?_⟩
 have:=ziV c d _ y hy hd
 rw [StrLaws.join_split] at this
 exact this
theorem zbD.lay {m : Nat} {x : Str} (h : zbD m x) : PyData.canLay0 (.str x) = true:=by
 show (x.cps.all fun c=>decide (c < 0x110000)) = true
 rw [<- Array.all_toList,List.all_eq_true]
 exact fun c hc=>decide_eq_true (Nat.lt_trans (h.2 c hc) (by decide))
theorem zbD.put {m : Nat} {x y : Str} {z z2 : Int} (h : zbD m x) (hy : zbD 1 y) (h0 : 0 <= z) (h1 : z <= z2) : zbD (m + 1) (Txt.slice x none (some z) ++ y ++ Txt.slice x (some z2) none):=by
 obtain ⟨n,rfl⟩:=Int.eq_ofNat_of_zero_le h0
 obtain ⟨k,rfl⟩:=Int.eq_ofNat_of_zero_le (Int.le_trans h0 h1)
 have e1:=Unl.zfY x (z:=(n : Int)) n rfl
 have e2:=Unl.zdy x (z:=(k : Int)) k rfl
 have l1:=h.1
 have l2:=hy.1
 refine ⟨?_,fun c hc=>?_⟩
 ·rw [Lns.zaC,Lns.zaC,List.length_append,List.length_append,e1,e2,List.length_take,List.length_drop]
  omega
 ·rw [Lns.zaC,Lns.zaC,e1,e2] at hc
  rcases List.mem_append.mp hc with hc | hc
  ·rcases List.mem_append.mp hc with hc | hc
   ·exact h.2 c (List.mem_of_mem_take hc)
   ·exact hy.2 c hc
  ·exact h.2 c (List.mem_of_mem_drop hc)
theorem zbD.cut {m : Nat} {x : Str} {z z2 : Int} (h : zbD m x) (h0 : 0 <= z) (h1 : z <= z2) : zbD (m + 1) (Txt.slice x none (some z) ++ Txt.slice x (some z2) none):=by
 obtain ⟨n,rfl⟩:=Int.eq_ofNat_of_zero_le h0
 obtain ⟨k,rfl⟩:=Int.eq_ofNat_of_zero_le (Int.le_trans h0 h1)
 have e1:=Unl.zfY x (z:=(n : Int)) n rfl
 have e2:=Unl.zdy x (z:=(k : Int)) k rfl
 have l1:=h.1
 refine ⟨?_,fun c hc=>?_⟩
 ·rw [Lns.zaC,List.length_append,e1,e2,List.length_take,List.length_drop]
  omega
 ·rw [Lns.zaC,e1,e2] at hc
  rcases List.mem_append.mp hc with hc | hc
  ·exact h.2 c (List.mem_of_mem_take hc)
  ·exact h.2 c (List.mem_of_mem_drop hc)
theorem zkp {α : Type} (l : List α) {z : Int} (h0 : 0 <= z) (h1 : z < l.length) : ∃ a,a ∈ l /\ atI l z = some a:=by
 obtain ⟨n,rfl⟩:=Int.eq_ofNat_of_zero_le h0
 have hn : n < l.length:=by omega
 exact ⟨l[n],List.getElem_mem hn,zbi (List.getElem?_eq_getElem hn)⟩
theorem zhY : ∀ c ∈ Cs.signs,c < 128:=by decide +kernel
def zfP (K : PySem.W.Frag) : Sp:=fun vs H Q _=>∃ (x : Str) (n : Int) (pc : Addr) (xs : List V) (rs : List Cs.Row) (m : Nat),vs = [.str x,.int n,.ref pc] /\ zbD m x /\ m <= 40000 /\ 0 <= n /\ H pc = some (.lst xs) /\ Paired (Cs.zbp H) xs rs /\ Row40 5 rs /\ ∀ z,zbD (m + 1) z -> Q (.str z) H
theorem zfF (T : Tx K mg a) : FnOk P w K mg base CX0 1 a.f_law_spoilt a.d_law_spoilt ["_law_keys_here","_law_number","_law_case_here"] (zfP K):=by
 refine T.law_spoilt.fn.ok zfS (fun vs H Q E h=>?_) (fun cdv A outer s H vs Q E hr h=>?_)
 ·obtain ⟨x,n,pc,xs,rs,m,rfl,_⟩:=h
  rfl
 obtain ⟨x,n,pc,xs,rs,m,rfl,hx,hm,hn0,hc,hpd,R,q⟩:=h
 have hxm:=hx.len
 have hxs : x.length <= sizeLine:=zay (by omega)
 have hxl:=Cs.zaX hpd
 have hr1:=R.l1
 have hz0:=Int.emod_nonneg (n / 3) (show (x.length : Int) + 1 ≠ 0 by omega)
 have hy0:=Int.emod_nonneg (n / 500) (show (xs.length : Int) ≠ 0 by omega)
 have hy1:=Int.emod_lt_of_pos (n / 500) (show (0 : Int) < xs.length by omega)
 obtain ⟨k,hk⟩:=Int.eq_ofNat_of_zero_le hy0
 have hkl : k < xs.length:=by omega
 obtain ⟨r,hri,t,et,ht⟩:=Cs.zbq hpd (List.getElem?_eq_getElem hkl)
 obtain ⟨cc,hcs,ecc⟩:=R.sg r (List.mem_of_getElem? hri)
 have hat : atI xs (n / 500 % (xs.length : Int)) = some (.ref t):=by
  rw [hk,<- et]
  exact zbi (List.getElem?_eq_getElem hkl)
 obtain ⟨d,hds,ed⟩:=Cs.ziS (i:=n / 700 % 30) (by omega) (by omega)
 refine ⟨_,(zac (zav (i:=3) zfS.nd rfl (Or.inl rfl) (zao zaU (zao zbu (pv 1) zag) (zao zaO (zaG zbF rfl T.b_len zcc (zaa (pv 0) zad)) zag)))
  (zac (zav (i:=4) zfS.nd rfl (Or.inl rfl) zbL)
  (zac (zav (i:=5) zfS.nd rfl (Or.inl rfl) (zbE zdq (pv 4) (zao zaU (zao zbu (pv 1) zag) zag) (fun _ _=>rfl)))
  (zac (zav (i:=6) zfS.nd rfl (Or.inl rfl) (zao zaT (zao zaT zbL (zbE (zeb K rfl) (zbE (zaY K rfl) (pv 2) (zao zaU (zao zbu (pv 1) zag) (zaG (zbQ K rfl) rfl T.b_len zcc (zaa (pv 2) zad))) (fun _ _=>rfl)) zag (fun _ _=>rfl))) (zao znZ zag (pv 5))))
  (zac (zav (i:=7) zfS.nd rfl (Or.inl rfl) (zbE zdq (pv 6) (zao zaU (zao zbu (pv 1) zag) (zaG zbF rfl T.b_len zcc (zaa (pv 6) zad))) (fun _ _=>rfl)))
  (zac (zbM (zaA zfE (zao zaU (pv 1) zag) zag (zax _)) (zae (zas (zao zaT (zao zaT (zbI zfx (pv 0) zdc (zbN (pv 3))) (pv 7)) (zbI zfx (pv 0) (zbN (pv 3)) zdc)))) zaI)
  (zac (zbM (zaA zfE (zao zaU (pv 1) zag) zag (zax _)) (zae (zas (zao zaT (zbI zfx (pv 0) zdc (zbN (pv 3))) (zbI zfx (pv 0) (zbN (zao zaO (pv 3) zag)) zdc)))) zaI)
  (zae (zas (zao zaT (zao zaT (zbI zfx (pv 0) zdc (zbN (pv 3))) (pv 7)) (zbI zfx (pv 0) (zbN (zao zaO (pv 3) zag)) zdc))))))))))),?_⟩
 walk_at "rd"
 refine ⟨_,_,_,rfl,rfl,by decide,ed,?_⟩
 clear ed
 walk_at "rd"
 refine ⟨pc,_,rfl,.inl (SqL.of hc),?_⟩
 walk_at "rd"
 refine ⟨t,_,_,_,rfl,rfl,SqT.of ht,rfl,?_⟩
 rw [ecc]
 have lsg : ∀ c,(sg c).length = 1:=fun _=>rfl
 have l5 : (Str.ofString " /A\n*").length = 5:=by decide
 refine ⟨_,_,rfl,rfl,zay (by rw [l5,lsg]; decide),?_⟩
 walk_at "rd"
 intro y hy hyl
 have hyl : y.length <= 2:=hyl
 have a5 : zbD 5 (Str.ofString " /A\n*"):=zbD.lit (by decide +kernel)
 have ayl : y.cps.toList.length = y.length:=Array.length_toList
 have ay : zbD 2 y:=⟨by rw [ayl]; exact hyl,fun c h=>by
  have h2:=hy c h
  have : c = d:=by simpa [sg] using h2
  rw [this]
  exact zhY d hds⟩
 have a6:=(a5.add (zbD.one (zhY cc hcs)) (k:=6) (by decide)).add ay (k:=8) (by decide)
 have p6 : 0 < (Str.ofString " /A\n*" ++ sg cc ++ y).length:=by
  rw [Str.length_append,Str.length_append,l5]
  omega
 have n6:=a6.len
 refine ⟨_,_,rfl,rfl,zay (by rw [<- Str.length_append]; omega),?_⟩
 generalize Str.ofString " /A\n*" ++ sg cc ++ y = w6 at a6 p6 n6 ⊢
 have w6l : w6.cps.toList.length = w6.length:=Array.length_toList
 have g0:=Int.emod_nonneg (n / 5000) (show (w6.length : Int) ≠ 0 by omega)
 have g1:=Int.emod_lt_of_pos (n / 5000) (show (0 : Int) < w6.length by omega)
 obtain ⟨u,hu,eu⟩:=zkp w6.cps.toList g0 (by rw [w6l]; exact g1)
 have au:=zbD.one (a6.2 u hu)
 walk_at "rd"
 refine ⟨zay (by omega),?_⟩
 refine ⟨_,_,rfl,rfl,by omega,?_⟩
 refine ⟨_,_,_,rfl,rfl,zay (by omega),eu,?_⟩
 clear eu g0 g1 a6 hu w6l p6 n6
 have a1:=hx.put au hz0 (Int.le_refl _)
 have a2:=hx.cut hz0 (show n / 3 % ((x.length : Int) + 1) <= n / 3 % ((x.length : Int) + 1) + 1 by omega)
 have a3:=hx.put au hz0 (show n / 3 % ((x.length : Int) + 1) <= n / 3 % ((x.length : Int) + 1) + 1 by omega)
 have l1:=(hx.to hz0).len
 have l2:=(hx.fr hz0).len
 have l3:=(hx.fr (z:=n / 3 % ((x.length : Int) + 1) + 1) (by omega)).len
 have lu : (⟨#[u]⟩ : Str).length = 1:=rfl
 walk_at "rd"
 refine ite2 (fun _=>?_) (fun _=>?_)
 ·walk_at "rd"
  refine ⟨zay (by rw [lu]; omega),?_⟩
  walk_at "rd"
  refine ⟨zay (by rw [Str.length_append,lu]; omega),?_⟩
  exact q _ a1
 walk_at "rd"
 refine ite2 (fun _=>?_) (fun _=>?_)
 ·walk_at "rd"
  refine ⟨zay (by omega),?_⟩
  exact q _ a2
 walk_at "rd"
 refine ⟨zay (by rw [lu]; omega),?_⟩
 walk_at "rd"
 refine ⟨zay (by rw [Str.length_append,lu]; omega),?_⟩
 exact q _ a3
theorem zce (T : Tx K mg a) : FnOk P w K mg base CX0 1 a.f_Machine_numbers_lying a.d_Machine_numbers_lying ["self"] (zka a fun c m H H' r=>H' r = some (.lst ((m.lanes.map fun l=>((l.length : Nat) : Int)).map V.int))):=by
 refine T.Machine_numbers_lying.fn.ok zca (fun vs H Q E h=>?_) (fun cdv A outer s H vs Q E hr h=>?_)
 ·obtain ⟨p,A,c,m,rfl,_⟩:=h
  rfl
 obtain ⟨p,A,c,m,rfl,M,O,q⟩:=h
 have I:=M.ins
 have hll:=Paired.length M.li.lns
 have hln:=O.ln
 have hfew:=O.cf.few
 refine ⟨_,(zae (zas (zba rfl (zaZ K rfl (pfld (K:=K) rfl T.Machine.cl T.n_Machine_lying zaE (pv 0))) (BlkOk.of (N':=["self","matrices"]) (ms:=[]) (k:=1) (by rfl)) (fun _ _ _ _ _=>(zal (i:=1) (show List.Nodup (["self","matrices"] : List Str) from by decide +kernel) rfl (Or.inl rfl))) (fun _ _ _ _ _=>zbK) (fun _ _ _ _ _=>(zaG (zbQ K rfl) rfl T.b_len zcc (zaa (pv 1) zad)))))),?_⟩
 walk_at "rd"
 refine ⟨⟨_,SqL.of M.li.lan⟩,fun D hD=>?_⟩
 refine zaN (a:=A.L) (xs:=A.ls.map V.ref) (fun i ys σ H2=>∃ (v2 : Option V),ys = ((m.lanes.take i).map fun l=>((l.length : Nat) : Int)).map V.int /\ σ = [some (.ref p),v2] /\ Same H H2 /\ H2 D = some (.lst ys))
  ?_ ?_ ?_ ?_
 ·exact ⟨none,rfl,rfl,zaf hD _,upd_same⟩
 ·rintro i ys σ H2 hi ⟨_,_,_,hs,_⟩
  exact hs.seq (SqL.of M.li.lan)
 ·rintro i y ys σ H2 hy hil ⟨v2,rfl,rfl,hs,hh⟩
  rw [List.getElem?_map] at hy
  obtain ⟨q1,hq1,rfl⟩:=Option.map_eq_some_iff.mp hy
  obtain ⟨l,hl,xs,hx1,hx2⟩:=Cs.zbq M.li.lns hq1
  have hxl:=Paired.length hx2
  walk_at "rd"
  refine ⟨q1,xs,rfl,.inl (SqL.of (hs _ _ hx1)),?_⟩
  rw [hxl]
  refine zdj hil hh ?_ ⟨_,?_,rfl,zau hs hD,upd_same⟩
  ·rw [List.length_map,List.length_map,List.length_take]
   omega
  ·rw [List.take_add_one,hl,List.map_append,List.map_append]
   rfl
 ·rintro ys σ H2 ⟨v2,rfl,rfl,hs,hh⟩
  rw [List.length_map,hll,List.take_of_length_le (Nat.le_refl _)] at hh
  exact q D H2 hD hs hh
def zgN (K : PySem.W.Frag) : Sp:=fun vs H Q _=>∃ (l : Addr) (x : Str) (rs : List Cs.Row),vs = [.ref l,.str x] /\ Cs.zdC K H l rs /\ rs.length <= 30 /\ (∀ r ∈ rs,∃ c ∈ Cs.signs,r.s = sg c) /\ ∀ (r : Addr) (ys : List V) H',H r = none -> Same H H' -> H' r = some (.lst ys) -> Paired (Cs.zbp H') ys (Mc.freeR rs x) -> Q (.ref r) H'
theorem zgO (T : Tx K mg a) : FnOk P w K mg base CX0 1 a.f_free_case a.d_free_case ["case","keys"] (zgN K):=by
 refine T.free_case.fn.ok zha (fun vs H Q E h=>?_) (fun cdv A outer s H vs Q E hr h=>?_)
 ·obtain ⟨l,x,rs,rfl,_⟩:=h
  rfl
 obtain ⟨l,x,rs,rfl,⟨xs,hS,hp⟩,hrl,hsg,q⟩:=h
 refine ⟨_,(zae (zas (zba rfl (zaZ K rfl (pv 0)) (BlkOk.of (N':=["case","keys","sign","width","teeth","many"]) (ms:=[]) (k:=4) (by rfl)) (fun _ _ _ _ _=>(zaV K rfl (n:=4) rfl (zam (zal (i:=2) (show List.Nodup (["case","keys","sign","width","teeth","many"] : List Str) from by decide +kernel) rfl (Or.inl rfl)) (zam (zal (i:=3) (show List.Nodup (["case","keys","sign","width","teeth","many"] : List Str) from by decide +kernel) rfl (Or.inl rfl)) (zam (zal (i:=4) (show List.Nodup (["case","keys","sign","width","teeth","many"] : List Str) from by decide +kernel) rfl (Or.inl rfl)) (zam (zal (i:=5) (show List.Nodup (["case","keys","sign","width","teeth","many"] : List Str) from by decide +kernel) rfl (Or.inl rfl)) zaW)))))) (fun _ _ _ _ _=>zbK) (fun _ _ _ _ _=>(zfs (zaa (pv 2) (zaa (pv 3) (zaa (pv 4) (zaa (zbt K rfl PySem.F.plainAttrs_str PySem.F.slot_str_count PySem.F.type_str_count zlb (pv 1) (zaa (pv 2) zad)) zad))))))))),?_⟩
 have hxl:=Cs.zaX hp
 walk_at "rd"
 intro D hD
 refine zaN (a:=l) (xs:=xs) (fun i ys σ H2=>∃ (v1 v2 v3 v4 : Option V),σ = [some (.ref l),some (.str x),v1,v2,v3,v4] /\ Same H H2 /\ H2 D = some (.lst ys) /\ Paired (Cs.zbp H2) ys (Mc.freeR (rs.take i) x))
  ?_ ?_ ?_ ?_
 ·exact ⟨none,none,none,none,rfl,zaf hD _,upd_same,.nil⟩
 ·exact fun i ys σ H2 _ ⟨_,_,_,_,_,hs,_⟩=>hs.seq hS
 ·rintro i y ys σ H2 hy hil ⟨v1,v2,v3,v4,rfl,hs,hh,hpy⟩
  obtain ⟨r,hri,t,rfl,ht⟩:=Cs.zbq hp hy
  obtain ⟨d,hd,ed⟩:=hsg r (List.mem_of_getElem? hri)
  have hyl:=Cs.zaX hpy
  have ht2:=hs _ _ ht
  refine ⟨_,_,rfl,SqT.of ht2,rfl,?_⟩
  walk_at "tg"
  walk_at "tg"
  walk_at "tg"
  walk_at "tg"
  walk_at "rd"
  refine ⟨_,d,rfl,by rw [<- ed],?_⟩
  refine ⟨Nat.le_of_ble_eq_true rfl,fun tn htn=>?_⟩
  have hst:=zaf htn (.tup (Cs.rowV ⟨r.s,r.w,r.t,(Mc.cntS x r.s : Int)⟩))
  have htt : upd H2 tn (.tup (Cs.rowV ⟨r.s,r.w,r.t,(Mc.cntS x r.s : Int)⟩)) tn = some (.tup (Cs.rowV ⟨r.s,r.w,r.t,(Mc.cntS x r.s : Int)⟩)):=upd_same
  have en : x.cps.toList.count d = Mc.cntS x r.s:=by rw [ed]; rfl
  rw [en]
  show zlV _ _ _ _ _ _ (upd H2 tn (.tup (Cs.rowV ⟨r.s,r.w,r.t,(Mc.cntS x r.s : Int)⟩)))
  generalize upd H2 tn (.tup (Cs.rowV ⟨r.s,r.w,r.t,(Mc.cntS x r.s : Int)⟩)) = H3 at hst htt ⊢
  have hh3:=hst _ _ hh
  unfold Mc.freeR at hyl
  rw [List.length_map,List.length_take] at hyl
  refine zdj hil hh3 (by omega) ⟨_,_,_,_,rfl,zau (hs.trans hst) hD,upd_same,?_⟩
  unfold Mc.freeR
  rw [List.take_add_one,hri,List.map_append]
  exact Paired.snoc (Cs.zcM (Cs.zar hpy hst) hh3 (fun z e=>by cases e)) ⟨tn,rfl,by rw [zah (zcP htt hh3 (fun e=>by cases e))]; exact htt⟩
 ·rintro ys σ H2 ⟨v1,v2,v3,v4,rfl,hs,hh,hpy⟩
  rw [hxl,List.take_of_length_le (Nat.le_refl _)] at hpy
  exact q D ys H2 hD hs hh hpy
def zfb (a : Ad) : Sp:=fun vs H Q _=>∃ (l p : Addr) (A : Mc.Adr) (c : Mc.Cf) (m : Mc.Ms) (xs : List V),vs = [.ref l,.ref p] /\ MA a c H p A m /\ Mc.Ok c m /\ H l = some (.lst xs) /\ Paired (Cs.zbp H) xs c.rs /\ (∀ r ∈ c.rs,0 <= r.n /\ r.n <= 100000) /\ ∀ (r : Addr) H',H r = none -> Same H H' -> H' r = some (.lst ((Mc.outsR c.rs m.lanes).map V.int)) -> Q (.ref r) H'
theorem zeR (T : Tx K mg a) : FnOk P w K mg base CX0 2 a.f_numbers_out a.d_numbers_out ["free","machine"] (zfb a):=by
 have G_Machine_numbers_lying:=zce (P:=P) (w:=w) (base:=base) T
 refine T.numbers_out.fn.ok zeL (fun vs H Q E h=>?_) (fun cdv A outer s H vs Q E hr h=>?_)
 ·obtain ⟨l,p,A,c,m,xs,rfl,_⟩:=h
  rfl
 obtain ⟨l,p,A,c,m,xs,rfl,M,O,hl,hp,hn,q⟩:=h
 have hxl:=Cs.zaX hp
 have hln:=O.ln
 have hfew:=O.cf.few
 have I:=M.ins
 refine ⟨_,(zae (zas (zba rfl (znK K rfl rfl T.b_zip (zaa (pv 0) (zaa (zbS (K:=K) rfl T.Machine.cl T.Machine_numbers_lying G_Machine_numbers_lying hr zcg (pv 1)) zad))) (BlkOk.of (N':=["free","machine","channel","lying"]) (ms:=[]) (k:=2) (by rfl)) (fun _ _ _ _ _=>(zaV K rfl (n:=2) rfl (zam (zal (i:=2) (show List.Nodup (["free","machine","channel","lying"] : List Str) from by decide +kernel) rfl (Or.inl rfl)) (zam (zal (i:=3) (show List.Nodup (["free","machine","channel","lying"] : List Str) from by decide +kernel) rfl (Or.inl rfl)) zaW)))) (fun _ _ _ _ _=>zbK) (fun _ _ _ _ _=>(zao zin (zbE (zeb K rfl) (pv 2) zag (fun _ _=>rfl)) (pv 3)))))),?_⟩
 walk_at "rd"
 refine ⟨p,A,c,m,rfl,M,O,fun r H1 hr0 hs1 hr1=>?_⟩
 have hl1:=hs1 _ _ hl
 have hp1:=Cs.zar hp hs1
 have hil:=Mc.zgI (rs:=c.rs) (ls:=m.lanes) hln
 have hyl : (m.lanes.map fun l=>((l.length : Nat) : Int)).length = m.lanes.length:=List.length_map _
 refine ⟨l,r,rfl,⟨_,SqL.of hl1⟩,⟨_,SqL.of hr1⟩,fun D hD=>?_⟩
 have hD0:=hs1.free hD
 refine zlH (a:=l) (b:=r) (xs:=xs) (ys:=(m.lanes.map fun l=>((l.length : Nat) : Int)).map V.int) (by rw [List.length_map,hyl,hln,hxl]; exact Nat.le_refl _) (fun i zs σ H6=>∃ (v2 v3 : Option V),zs = ((Mc.outsR c.rs m.lanes).take i).map V.int /\ σ = [some (.ref l),some (.ref p),v2,v3] /\ Same H1 H6 /\ H6 D = some (.lst zs))
  ?_ ?_ ?_ ?_
 ·exact ⟨none,none,rfl,rfl,zaf hD _,upd_same⟩
 ·rintro i zs σ H6 hi ⟨_,_,_,_,hs,_⟩
  exact ⟨hs.seq (SqL.of hl1),hs.seq (SqL.of hr1)⟩
 ·rintro i x y t zs σ H6 hx hy hi ⟨v2,v3,rfl,rfl,hs,hh⟩ ht
  obtain ⟨r0,hr0',t0,rfl,ht0⟩:=Cs.zbq hp1 hx
  rw [List.getElem?_map,List.getElem?_map] at hy
  obtain ⟨y0,hy0,rfl⟩:=Option.map_eq_some_iff.mp hy
  obtain ⟨l0,hl0,rfl⟩:=Option.map_eq_some_iff.mp hy0
  have hget:=Mc.zet hr0' hl0
  have hn0:=hn r0 (List.mem_of_getElem? hr0')
  have ht6:=hs _ _ ht0
  rw [List.length_map,hyl] at hi
  have hst:=zaf ht (.tup [.ref t0,.int ((l0.length : Nat) : Int)])
  have htt : upd H6 t (.tup [.ref t0,.int ((l0.length : Nat) : Int)]) t = some (.tup [.ref t0,.int ((l0.length : Nat) : Int)]):=upd_same
  generalize upd H6 t (.tup [.ref t0,.int ((l0.length : Nat) : Int)]) = H7 at hst htt ⊢
  have ht7:=hst _ _ ht6
  refine ⟨_,_,rfl,SqT.of htt,rfl,?_⟩
  walk_at "tg"
  walk_at "tg"
  try refine And.intro rfl ?_
  refine ⟨_,rfl,?_⟩
  refine ⟨t0,_,_,_,rfl,rfl,SqT.of ht7,rfl,?_⟩
  walk_at "rd"
  refine zdj (by rw [List.length_map,hyl]; exact hi) (hst _ _ hh) (by rw [List.length_map,List.length_take]; omega) ⟨_,_,?_,rfl,zau (hs.trans hst) hD,upd_same⟩
  rw [List.take_add_one,hget,List.map_append]
  rfl
 ·rintro zs σ H6 ⟨v2,v3,rfl,rfl,hs6,hh6⟩
  rw [List.length_map,hyl,hln,List.take_of_length_le (by omega)] at hh6
  exact q D H6 hD0 (hs1.trans hs6) hh6
theorem zod {n k : Nat} (h : k < n) : ixN n (k : Int) = some k:=by
 unfold ixN
 rw [if_pos (by omega),if_pos (by omega)]
 congr 1
theorem zit (n : Nat) : (List.replicate n [V.int 0]).flatten = ((Mc.needs0 n).map fun x=>x.1).map V.int /\ (List.replicate n [V.int 0]).flatten = ((Mc.needs0 n).map fun x=>x.2).map V.int:=by
 unfold Mc.needs0
 induction n with
 | zero=>exact ⟨rfl,rfl⟩
 | succ n ih =>
   rw [List.replicate_succ,List.flatten_cons,List.replicate_succ]
   exact ⟨congrArg (V.int 0 :: ·) ih.1,congrArg (V.int 0 :: ·) ih.2⟩
abbrev NA (a : Ad) (c : Mc.Cf) (H0 H : Hp) (p n q f : Addr) (A : Mc.Adr) (m : Mc.Ms) (fs : List V) (ps : List (Int × Int)) : Prop:=Mc.NdAt a.c_Machine zdx c H0 H p n q f A m fs ps
def zdn (K : PySem.W.Frag) (C : Addr) : Sp:=fun vs H Q E=>∃ (l : Addr) (x : Str) (z : Int) (xs : List V) (rs : List Cs.Row),vs = [.ref l,.str x,.int z] /\ H l = some (.lst xs) /\ Paired (Cs.zbp H) xs rs /\ rs.length <= 30 /\ (∀ r ∈ rs,∃ c ∈ Cs.signs,r.s = sg c) /\ (zcw (Mc.freeR rs x) x.cps.toList -> Mc.Ok ⟨Mc.freeR rs x,x,z⟩ (Mc.start (Mc.freeR rs x))) /\ x.length <= 90000 /\ (∀ r ∈ Mc.freeR rs x,0 <= r.n /\ r.n <= 1000) /\ (BadK (Mc.freeR rs x) x.cps.toList -> ∀ H' dx',Same H H' -> H' dx' = none -> E (.ref C) (some dx') (upd H' dx' (.xd [("at",.int (kAt (Mc.freeR rs x) x.cps.toList : Nat))]))) /\
 (zcw (Mc.freeR rs x) x.cps.toList -> ∀ (t n q : Addr) (qs : List (Int × Int)) H',H t = none -> H n = none -> H q = none -> n ≠ q -> Same H H' -> H' t = some (.tup [.ref n,.ref q]) -> H' n = some (.lst ((qs.map fun x=>x.1).map V.int)) -> H' q = some (.lst ((qs.map fun x=>x.2).map V.int)) -> Mc.Pk ⟨Mc.freeR rs x,x,z⟩ (Mc.start (Mc.freeR rs x)) (Mc.needs0 rs.length) qs -> Q (.ref t) H')
theorem zbR (T : Tx K mg a) : FnOk P w K mg base (CX1 P w) 6 a.f_needs_and_peaks a.d_needs_and_peaks ["case","keys","casting"] (zdn K a.c_NoKeys):=by
 have G_free_case:=zgO (P:=P) (w:=w) (base:=base) T
 have G_numbers_out:=zeR (P:=P) (w:=w) (base:=base) T
 have G_Machine_init:=zeJ (P:=P) (w:=w) (base:=base) T
 have G_Machine_tick:=zeB (P:=P) (w:=w) (base:=base) T
 have G_Machine_ticks:=zdN (P:=P) (w:=w) (base:=base) T
 refine T.needs_and_peaks.fn.okX zdi (fun vs H Q E h=>?_) (fun cdv A outer s H vs Q E hr h=>?_)
 ·obtain ⟨l,x,z,xs,rs,rfl,_⟩:=h
  rfl
 obtain ⟨l,x,z,xs,rs,rfl,hl,hp,hrl,hsg,OS0,hxs,hn,qk,q0⟩:=h
 have hxl:=Cs.zaX hp
 have hfl : (Mc.freeR rs x).length = rs.length:=List.length_map _
 refine ⟨_,(zac (zav (i:=3) zdi.nd rfl (Or.inl rfl) (zbl T.free_case G_free_case hr rfl (zaa (pv 0) (zaa (pv 1) zad))))
  (zac (zav (i:=4) zdi.nd rfl (Or.inl rfl) (zmV T.Machine G_Machine_init hr rfl rfl (zaa (pv 3) (zaa (pv 1) (zaa (pv 2) zad)))))
  (zac (zav (i:=5) zdi.nd rfl (Or.inl rfl) (zao zlr (zaF (zaa zag zad)) (zaG (zbQ K rfl) rfl T.b_len zcc (zaa (pv 0) zad))))
  (zac (zav (i:=6) zdi.nd rfl (Or.inl rfl) (zao zlr (zaF (zaa zag zad)) (zaG (zbQ K rfl) rfl T.b_len zcc (zaa (pv 0) zad))))
  (zac (zfV (zhW rfl) (zcz (zbS (K:=K) rfl T.Machine.cl T.Machine_tick G_Machine_tick hr zeh (pv 4))) (zae (zcX (zhW rfl) rfl (zcs K rfl rfl T.b_enumerate (zaa (zbl T.numbers_out G_numbers_out hr rfl (zaa (pv 3) (zaa (pv 4) zad))) zad)) (zaV K rfl (n:=2) rfl (zam (zal (i:=7) zdi.nd rfl (Or.inl rfl)) (zam (zal (i:=8) zdi.nd rfl (Or.inl rfl)) zaW))) (zae (zbM (zaA znz (pv 8) (zbE (zaY K rfl) (pv 5) (pv 7) (fun _ _=>rfl)) (zax _)) (zac (zdX (pv 8) (zls (pv 5) (pv 7) zfO))
  (zae (zdX (zbS (K:=K) rfl T.Machine.cl T.Machine_ticks G_Machine_ticks hr zdH (pv 4)) (zls (pv 6) (pv 7) zfO)))) zaI)))))
  (zae (zas (zfs (zaa (pv 5) (zaa (pv 6) zad)))))))))),?_⟩
 walk_at "rd"
 refine ⟨l,x,rs,rfl,⟨xs,SqL.of hl,hp⟩,hrl,hsg,fun f fs H1 hf0 hs1 hf1 hpf=>?_⟩
 generalize hrs : Mc.freeR rs x = fr at OS0 hn hpf hfl qk q0
 walk_at "rd"
 refine fun p0 dx0 hp0 hdx0 hne0=>?_
 refine ⟨p0,f,dx0,⟨fr,x,z⟩,fs,rfl,upd_same,?_,?_,(by show fr.length <= 30; omega),hxs,hn,fun hbk H' dx' hs hd=>qk hbk H' dx' (fun b u hb=>hs _ _ (by rw [zah (zan (hs1 _ _ hb) hp0),zah (zan (hs1 _ _ hb) hdx0)]; exact hs1 _ _ hb)) hd,fun hgd A0 H7 M0 off0 fr0=>⟨rfl,?_⟩⟩
 ·rw [zah (zan hf1 hp0),zah (zan hf1 hdx0)]
  exact hf1
 ·exact Cs.zar hpf fun b u hb=>by rw [zah (zan hb hp0),zah (zan hb hdx0)]; exact hb
 have OS:=OS0 hgd
 have q:=q0 hgd
 have hs7:=Mc.zlm hp0 hdx0 off0
 have fr0' : ∀ b ∈ A0.all,H1 b = none:=fun b hb=>Mc.zlU hp0 hdx0 (fr0 b hb)
 have hl7:=hs7 _ _ (hs1 _ _ hl)
 walk_at "rd"
 refine fun e1 he1=>?_
 have hs8:=zaf he1 (.lst [.int 0])
 have h81 : upd H7 e1 (.lst [.int 0]) e1 = some (.lst [.int 0]):=upd_same
 generalize upd H7 e1 (.lst [.int 0]) = H8 at hs8 h81 ⊢
 walk_at "rd"
 refine ⟨l,_,rfl,.inl (SqL.of (hs8 _ _ hl7)),?_⟩
 rw [hxl]
 refine ⟨e1,_,_,rfl,rfl,h81,by omega,by omega,zay (by show 1 * _ <= _; omega),fun nA hnA=>?_⟩
 have etn : ((rs.length : Int)).toNat = rs.length:=by omega
 rw [etn,(zit rs.length).1]
 have hs9:=zaf hnA (.lst (((Mc.needs0 rs.length).map fun x=>x.1).map V.int))
 have h9n : upd H8 nA (.lst (((Mc.needs0 rs.length).map fun x=>x.1).map V.int)) nA = some (.lst (((Mc.needs0 rs.length).map fun x=>x.1).map V.int)):=upd_same
 generalize upd H8 nA (.lst (((Mc.needs0 rs.length).map fun x=>x.1).map V.int)) = H9 at hs9 h9n ⊢
 have hs79:=hs8.trans hs9
 walk_at "rd"
 refine fun e2 he2=>?_
 have hs10:=zaf he2 (.lst [.int 0])
 have h102 : upd H9 e2 (.lst [.int 0]) e2 = some (.lst [.int 0]):=upd_same
 generalize upd H9 e2 (.lst [.int 0]) = H10 at hs10 h102 ⊢
 walk_at "rd"
 refine ⟨l,_,rfl,.inl (SqL.of ((hs79.trans hs10) _ _ hl7)),?_⟩
 rw [hxl]
 refine ⟨e2,_,_,rfl,rfl,h102,by omega,by omega,zay (by show 1 * _ <= _; omega),fun qA hqA=>?_⟩
 rw [etn,(zit rs.length).2]
 have hs11:=zaf hqA (.lst (((Mc.needs0 rs.length).map fun x=>x.2).map V.int))
 have h11q : upd H10 qA (.lst (((Mc.needs0 rs.length).map fun x=>x.2).map V.int)) qA = some (.lst (((Mc.needs0 rs.length).map fun x=>x.2).map V.int)):=upd_same
 generalize upd H10 qA (.lst (((Mc.needs0 rs.length).map fun x=>x.2).map V.int)) = H11 at hs11 h11q ⊢
 have hs711:=hs79.trans (hs10.trans hs11)
 have hf7:=hs7 _ _ hf1
 have N0 : NA a ⟨fr,x,z⟩ H H11 p0 nA qA f A0 (Mc.start fr) fs (Mc.needs0 rs.length):=by
  refine ⟨M0.same hs711,hs1.trans (hs7.trans hs711),fun b hb=>hs1.free (fr0' b hb),hs1.free hp0,hs1.free (hs7.free (hs8.free hnA)),hs1.free (hs7.free (hs79.free (hs10.free hqA))),hf0,?_,?_,?_,?_,?_,?_,(hs10.trans hs11) _ _ h9n,h11q,hs711 _ _ hf7,Cs.zar hpf (hs7.trans hs711)⟩
  ·exact zan (hs10 _ _ h9n) hqA
  ·exact (zan (hs8 _ _ hf7) hnA).symm
  ·exact (zan ((hs79.trans hs10) _ _ hf7) hqA).symm
  ·exact (M0.same hs8).new hnA
  ·exact (M0.same (hs79.trans hs10)).new hqA
  ·exact fun hb=>by rw [fr0' f hb] at hf1; cases hf1
 clear hs711 hs79 hs11 h11q hs10 h102 hs9 h9n hs8 h81 hl7 fr0' hs7 off0 M0 fr0
 refine ⟨fun n σ H12=>∃ (A1 : Mc.Adr) (m1 : Mc.Ms) (ps : List (Int × Int)) (v7 v8 : Option V),σ = [some (.ref l),some (.str x),some (.int z),some (.ref f),some (.ref p0),some (.ref nA),some (.ref qA),v7,v8] /\ NA a ⟨fr,x,z⟩ H H12 p0 nA qA f A1 m1 fs ps /\ Mc.Ok ⟨fr,x,z⟩ m1 /\ ps.length = rs.length /\ (∀ qs,Mc.Pk ⟨fr,x,z⟩ m1 ps qs -> Mc.Pk ⟨fr,x,z⟩ (Mc.start fr) (Mc.needs0 rs.length) qs) /\ Mc.work ⟨fr,x,z⟩ m1 = n,
  ⟨_,A0,Mc.start fr,Mc.needs0 rs.length,none,none,rfl,N0,OS,List.length_replicate,fun qs h=>h,rfl⟩,?_⟩
 rintro n σ H12 ⟨A1,m1,ps,v7,v8,rfl,N1,O1,hpl,hpk,rfl⟩
 have I1:=N1.mac.ins
 refine ⟨_,rfl,?_⟩
 refine ⟨_,_,rfl,I1,?_⟩
 refine ⟨p0,A1,_,m1,rfl,N1.mac,O1,fun hs H13 hs13=>?_,fun hs A2 H13 M2 st2=>?_⟩
 ·refine ⟨_,rfl,?_⟩
  refine iteF ?_
  have N2:=N1.same hs13
  walk_at "rd"
  refine fun t ht=>?_
  exact q t nA qA ps _ (N2.sm.free ht) N2.nn N2.qn N2.nq (zaB N2.sm ht) upd_same (zaf ht _ _ _ N2.hn) (zaf ht _ _ _ N2.hq) (hpk ps (.stop hs))
 ·refine ⟨_,rfl,?_⟩
  refine iteT ?_
  have N2:=N1.step st2 M2
  have O2:=O1.tick
  have hwk:=Mc.zln O1 hs
  have hgo : ∀ qs,Mc.Pk ⟨fr,x,z⟩ (Mc.tick ⟨fr,x,z⟩ m1) (Mc.upN (Mc.tick ⟨fr,x,z⟩ m1).done (Mc.outsR fr (Mc.tick ⟨fr,x,z⟩ m1).lanes) ps) qs -> Mc.Pk ⟨fr,x,z⟩ (Mc.start fr) (Mc.needs0 rs.length) qs:=fun qs h=>hpk qs (.go hs h)
  have hol:=Mc.zgI (rs:=fr) (ls:=(Mc.tick ⟨fr,x,z⟩ m1).lanes) O2.ln
  generalize Mc.tick ⟨fr,x,z⟩ m1 = m2 at N2 O2 hwk hgo hol
  generalize hos : Mc.outsR fr m2.lanes = os at hgo hol
  refine ⟨fun σ' H'=>∃ (v7 v8 : Option V),σ' = [some (.ref l),some (.str x),some (.int z),some (.ref f),some (.ref p0),some (.ref nA),some (.ref qA),v7,v8] /\ NA a ⟨fr,x,z⟩ H H' p0 nA qA f A2 m2 fs (Mc.upN m2.done os ps),?_,?_⟩
  ·rintro σ' H' ⟨w7,w8,rfl,N3⟩
   exact ⟨_,hwk,A2,m2,_,w7,w8,rfl,N3,O2,by rw [Mc.zeq]; exact hpl,hgo,rfl⟩
  have I2:=N2.mac.ins
  walk_at "rd"
  refine ⟨f,p0,A2,⟨fr,x,z⟩,m2,fs,rfl,N2.mac,O2,N2.hf,N2.rows,fun r hr=>by have:=hn r hr; omega,fun r H14 hr0 hs14 hr14=>?_⟩
  have hr14 : H14 r = some (.lst (os.map V.int)):=by rw [<- hos]; exact hr14
  have N4:=N2.same hs14
  have hrn : r ≠ nA:=fun e=>by rw [e,N2.hn] at hr0; cases hr0
  have hrq : r ≠ qA:=fun e=>by rw [e,N2.hq] at hr0; cases hr0
  refine ⟨r,rfl,⟨_,SqL.of hr14⟩,?_⟩
  refine zcp (a:=r) (xs:=os.map V.int) (fun i σ H15=>∃ (v7 v8 : Option V),σ = [some (.ref l),some (.str x),some (.int z),some (.ref f),some (.ref p0),some (.ref nA),some (.ref qA),v7,v8] /\ NA a ⟨fr,x,z⟩ H H15 p0 nA qA f A2 m2 fs (Mc.upN m2.done (os.take i) ps) /\ H15 r = some (.lst (os.map V.int)))
   ⟨_,_,rfl,by rw [List.take_zero,Mc.zge]; exact N4,hr14⟩ (by rintro i σ H15 _ ⟨_,_,_,_,h⟩; exact SqL.of h) ?_ ?_
  ·rintro i y tp σ H15 hy ⟨w7,w8,rfl,N5,hr5⟩ htp
   obtain ⟨o,rfl,hoi⟩:=zbv hy
   have hil : i < os.length:=(List.getElem?_eq_some_iff.mp hoi).1
   have htl : (os.take i).length = i:=by rw [List.length_take]; omega
   have hups:=Mc.zeq m2.done (os.take i) ps
   obtain ⟨px,hpx⟩ : ∃ px,ps[i]? = some px:=⟨_,List.getElem?_eq_getElem (by omega)⟩
   have hge : (Mc.upN m2.done (os.take i) ps)[i]? = some px:=by rw [Mc.zmT _ _ _ (by omega)]; exact hpx
   have hsn : Mc.upN m2.done (os.take (i + 1)) ps = (Mc.upN m2.done (os.take i) ps).set i (Mc.up1 m2.done o px):=by
    rw [List.take_add_one,hoi]
    have:=Mc.zlT m2.done (os.take i) o ps (x:=px) (by rw [htl]; exact hpx)
    rw [htl] at this
    exact this
   have hst:=zaf htp (.tup [.int i,.int o])
   have h6t : upd H15 tp (.tup [.int i,.int o]) tp = some (.tup [.int i,.int o]):=upd_same
   have N6:=N5.same hst
   have hr6:=hst _ _ hr5
   generalize upd H15 tp (.tup [.int i,.int o]) = H16 at hst h6t N6 hr6 ⊢
   generalize Mc.upN m2.done (os.take i) ps = us at hge hsn hups N6
   walk_at "rd"
   walk_at "tg"
   walk_at "tg"
   have hui : i < us.length:=by omega
   have hatN : atI ((us.map fun x=>x.1).map V.int) (i : Int) = some (.int px.1):=zbi (by rw [List.getElem?_map,List.getElem?_map,hge]; rfl)
   have hn6:=N6.hn
   have hq6:=N6.hq
   walk_at "rd"
   try refine ⟨nA,_,_,_,rfl,rfl,SqL.of hn6,hatN,?_⟩
   clear hatN
   walk_at "rd"
   refine ite2 (fun c=>?_) (fun c=>?_)
   ·have c : px.1 < o:=of_decide_eq_true c
    have e1 : Mc.up1 m2.done o px = (o,m2.done):=if_pos c
    rw [e1] at hsn
    have en : ((us.map fun x=>x.1).map V.int).set i (V.int o) = ((us.set i (o,m2.done)).map fun x=>x.1).map V.int:=by rw [List.map_set,List.map_set]
    have eq : ((us.map fun x=>x.2).map V.int).set i (V.int m2.done) = ((us.set i (o,m2.done)).map fun x=>x.2).map V.int:=by rw [List.map_set,List.map_set]
    walk_at "rd"
    refine ⟨nA,_,_,i,rfl,rfl,hn6,zod (by rw [List.length_map,List.length_map]; exact hui),?_⟩
    rw [en]
    obtain ⟨M7,_,hq7,_,_⟩:=N6.setN (vs:=((us.set i (o,m2.done)).map fun x=>x.1).map V.int)
    have hr7 : upd H16 nA (.lst (((us.set i (o,m2.done)).map fun x=>x.1).map V.int)) r = some (.lst (os.map V.int)):=by rw [zah hrn]; exact hr6
    have hset:=fun {H8 : Hp} (s8 : Same (upd H16 nA (.lst (((us.set i (o,m2.done)).map fun x=>x.1).map V.int))) H8)=>N6.set (qs:=us.set i (o,m2.done)) s8
    generalize upd H16 nA (.lst (((us.set i (o,m2.done)).map fun x=>x.1).map V.int)) = H17 at M7 hq7 hr7 hset ⊢
    have I7:=M7.ins
    walk_at "rd"
    refine ⟨p0,A2,_,m2,rfl,M7,O2,fun H18 hs18=>?_⟩
    walk_at "rd"
    refine ⟨qA,_,_,i,rfl,rfl,hs18 _ _ hq7,zod (by rw [List.length_map,List.length_map]; exact hui),?_⟩
    rw [eq]
    refine ⟨_,_,rfl,by rw [hsn]; exact hset hs18,by rw [zah hrq]; exact hs18 _ _ hr7⟩
   ·have c : ¬ px.1 < o:=fun h=>c (decide_eq_true h)
    have e1 : Mc.up1 m2.done o px = px:=if_neg c
    have e2 : us.set i px = us:=by
     apply List.ext_getElem?
     intro k
     rw [List.getElem?_set]
     split
     ·rename_i hk
      rw [<- hk,hge]
     ·rfl
    rw [e1,e2] at hsn
    walk_at "rd"
    exact ⟨_,_,rfl,by rw [hsn]; exact N6,hr6⟩
  ·rintro σ H15 ⟨w7,w8,rfl,N5,hr5⟩
   rw [List.length_map,List.take_of_length_le (Nat.le_refl _)] at N5
   exact ⟨w7,w8,rfl,N5⟩
def zfr (K : PySem.W.Frag) (C : Addr) (w : Bool) : Sp:=fun vs H Q E=>∃ (l : Addr) (x : Str) (z : Int) (xs : List V) (rs : List Cs.Row),vs = [.ref l,.str x,.int z] /\ H l = some (.lst xs) /\ Paired (Cs.zbp H) xs rs /\ rs.length <= 30 /\ (∀ r ∈ rs,∃ c ∈ Cs.signs,r.s = sg c) /\ (zcw (Mc.freeR rs x) x.cps.toList -> Mc.Ok ⟨Mc.freeR rs x,x,z⟩ (Mc.start (Mc.freeR rs x))) /\ x.length <= 90000 /\ (∀ r ∈ Mc.freeR rs x,0 <= r.n /\ r.n <= 1000) /\ (BadK (Mc.freeR rs x) x.cps.toList -> ∀ H' dx',Same H H' -> H' dx' = none -> E (.ref C) (some dx') (upd H' dx' (.xd [("at",.int (kAt (Mc.freeR rs x) x.cps.toList : Nat))]))) /\
 (zcw (Mc.freeR rs x) x.cps.toList -> ∀ (n : Addr) (qs : List (Int × Int)) H',H n = none -> Same H H' -> H' n = some (.lst ((qs.map fun x=>if w then x.1 else x.2).map V.int)) -> Mc.Pk ⟨Mc.freeR rs x,x,z⟩ (Mc.start (Mc.freeR rs x)) (Mc.needs0 rs.length) qs -> Q (.ref n) H')
theorem zji (T : Tx K mg a) : FnOk P w K mg base (CX1 P w) 7 a.f_need_of a.d_need_of ["case","keys","casting"] (zfr K a.c_NoKeys true):=by
 have G_needs_and_peaks:=zbR (P:=P) (w:=w) (base:=base) T
 refine T.need_of.fn.okX zjb (fun vs H Q E h=>?_) (fun cdv A outer s H vs Q E hr h=>?_)
 ·obtain ⟨l,x,z,xs,rs,rfl,_⟩:=h
  rfl
 obtain ⟨l,x,z,xs,rs,rfl,hl,hp,hrl,hsg,OS0,hxs,hn,qk,q0⟩:=h
 refine ⟨_,(zac (zdX (zgZ T.needs_and_peaks G_needs_and_peaks hr rfl rfl (zaa (pv 0) (zaa (pv 1) (zaa (pv 2) zad)))) (zaV K rfl (n:=2) rfl (zam (zal (i:=3) zjb.nd rfl (Or.inl rfl)) (zam (zal (i:=4) zjb.nd rfl (Or.inl rfl)) zaW))))
  (zae (zas (pv 3)))),?_⟩
 walk_at "rd"
 refine ⟨l,x,z,xs,rs,rfl,hl,hp,hrl,hsg,OS0,hxs,hn,qk,fun hgd t n q' qs H' ht hn0 hq0 hnq hs' ht' hn' hq' hpk=>?_⟩
 refine ⟨_,_,rfl,SqT.of ht',rfl,?_⟩
 walk_at "tg"
 walk_at "tg"
 try refine And.intro rfl ?_
 walk_at "rd"
 exact q0 hgd n qs H' hn0 hs' hn' hpk
theorem zhE (T : Tx K mg a) : FnOk P w K mg base (CX1 P w) 7 a.f_peaks_of a.d_peaks_of ["case","keys","casting"] (zfr K a.c_NoKeys false):=by
 have G_needs_and_peaks:=zbR (P:=P) (w:=w) (base:=base) T
 refine T.peaks_of.fn.okX zhA (fun vs H Q E h=>?_) (fun cdv A outer s H vs Q E hr h=>?_)
 ·obtain ⟨l,x,z,xs,rs,rfl,_⟩:=h
  rfl
 obtain ⟨l,x,z,xs,rs,rfl,hl,hp,hrl,hsg,OS0,hxs,hn,qk,q0⟩:=h
 refine ⟨_,(zac (zdX (zgZ T.needs_and_peaks G_needs_and_peaks hr rfl rfl (zaa (pv 0) (zaa (pv 1) (zaa (pv 2) zad)))) (zaV K rfl (n:=2) rfl (zam (zal (i:=3) zhA.nd rfl (Or.inl rfl)) (zam (zal (i:=4) zhA.nd rfl (Or.inl rfl)) zaW))))
  (zae (zas (pv 4)))),?_⟩
 walk_at "rd"
 refine ⟨l,x,z,xs,rs,rfl,hl,hp,hrl,hsg,OS0,hxs,hn,qk,fun hgd t n q' qs H' ht hn0 hq0 hnq hs' ht' hn' hq' hpk=>?_⟩
 refine ⟨_,_,rfl,SqT.of ht',rfl,?_⟩
 walk_at "tg"
 walk_at "tg"
 try refine And.intro rfl ?_
 walk_at "rd"
 exact q0 hgd q' qs H' hq0 hs' hq' hpk
/-! keys are looked at by the signs of a case alone -/
theorem zcb (rs : List Cs.Row) (x y : Str) : Cs.place (Mc.freeR rs x) y = Cs.place rs y:=by
 unfold Cs.place Mc.freeR
 rw [List.findIdx?_map]
 rfl
theorem zeA (rs : List Cs.Row) (x : Str) (ks : List Nat) (i : Nat) : Lns.zaQ (Mc.freeR rs x) ks i = Lns.zaQ rs ks i:=by
 unfold Lns.zaQ
 cases ks[i]? with
 | none=>rfl
 | some c =>
   show (if Lns.isS c = true then (Cs.place (Mc.freeR rs x) (sg c)).isSome else _) = _
   rw [zcb]
theorem zho {rs : List Cs.Row} {x : Str} {cs : List Nat} (h : zcw (Mc.freeR rs x) cs) : zcw rs cs:=⟨fun i hi=>by rw [<- zeA rs x]; exact h.1 i hi,h.2⟩
theorem zir {rs : List Cs.Row} {x : Str} {cs : List Nat} (h : BadK (Mc.freeR rs x) cs) : BadK rs cs:=by
 rcases h with ⟨i,hi,e⟩ | h
 ·exact .inl ⟨i,hi,by rw [<- zeA rs x]; exact e⟩
 ·exact .inr h
theorem ziJ (rs : List Cs.Row) (x : Str) (cs : List Nat) : kAt (Mc.freeR rs x) cs = kAt rs cs:=by
 unfold kAt
 rw [show (fun i=>!Lns.zaQ (Mc.freeR rs x) cs i) = fun i=>!Lns.zaQ rs cs i from funext fun i=>by rw [zeA]]
theorem zdR {rs : List Cs.Row} {x : Str} {r : Cs.Row} (h : r ∈ Mc.freeR rs x) : ∃ r0 ∈ rs,r.s = r0.s /\ r.t = r0.t /\ r.n = (Mc.cntS x r0.s : Int):=by
 obtain ⟨r0,h0,rfl⟩:=List.mem_map.mp h
 exact ⟨r0,h0,rfl,rfl,rfl⟩
theorem zmM (x s : Str) : Mc.cntS x s <= x.length:=by
 unfold Mc.cntS
 have h:=List.count_le_length (a:=s.cps.toList.headD 0) (l:=Mc.cps x)
 have e : (Mc.cps x).length = x.length:=Array.length_toList
 omega
theorem zkR {rs : List Cs.Row} {x : Str} (hx : x.length <= 100) : ∀ r ∈ Mc.freeR rs x,0 <= r.n /\ r.n <= 1000:=fun r hr=>by
 obtain ⟨r0,_,_,_,e⟩:=zdR hr
 have:=zmM x r0.s
 rw [e]
 omega
theorem zjp {rs : List Cs.Row} {cs : List Nat} (g : zcw rs cs) : ∀ k ∈ cs,k = 47 \/ k = 32 \/ ((Cs.place rs (sg k)).isSome = true /\ k ≠ 47 /\ k ≠ 32):=fun k hk=>by
 obtain ⟨i,hi,e⟩:=List.getElem_of_mem hk
 have h:=g.1 i hi
 unfold Lns.zaQ at h
 rw [List.getElem?_eq_getElem hi,e] at h
 dsimp only at h
 by_cases h1 : k = 47
 ·exact .inl h1
 by_cases h2 : k = 32
 ·exact .inr (.inl h2)
 have hs : Lns.isS k = true:=by
  unfold Lns.isS
  rw [decide_eq_false h1,decide_eq_false h2]
  rfl
 rw [if_pos hs] at h
 exact .inr (.inr ⟨h,h1,h2⟩)
theorem zkn {rs : List Cs.Row} (R : Row40 5 rs) {x : Str} (hx : x.length <= 100) {z : Int} (hz : 1 <= z) (g : zcw (Mc.freeR rs x) x.cps.toList) : Mc.Ok ⟨Mc.freeR rs x,x,z⟩ (Mc.start (Mc.freeR rs x)):=by
 have hl2:=R.l2
 have RR : Mc.Rows rs:=⟨by omega,R.sg,R.th,fun r hr=>⟨(R.mn r hr).1,by have:=(R.mn r hr).2; omega⟩⟩
 have hfl : (Mc.freeR rs x).length = rs.length:=List.length_map _
 have kn:=zjp g
 have OC : Mc.OkC ⟨Mc.freeR rs x,x,z⟩:=by
  refine ⟨by show (Mc.freeR rs x).length <= 30; omega,by show x.length <= 90000; omega,kn,g.2,⟨?_,?_,?_⟩,hz,fun r hr=>?_,?_⟩
  ·show Cs.place (Mc.freeR rs x) (sg 47) = none
   rw [zcb]
   exact RR.none fun c hc e=>(Mc.zaH c hc).2.2.1 (Mc.zia e)
  ·show Cs.place (Mc.freeR rs x) (sg 32) = none
   rw [zcb]
   exact RR.none fun c hc e=>(Mc.zaH c hc).2.2.2 (Mc.zia e)
  ·show Cs.place (Mc.freeR rs x) "" = none
   rw [zcb]
   exact RR.none fun c hc e=>by cases e
  ·obtain ⟨r0,h0,_,e,_⟩:=zdR hr
   rw [e]
   exact R.th r0 h0
  ·show (x.cps.all fun c=>decide (c < 0x110000)) = true
   rw [<- Array.all_toList,List.all_eq_true]
   intro k hk
   refine decide_eq_true ?_
   rcases kn k hk with h | h | ⟨h,_,_⟩
   ·omega
   ·omega
   ·rw [zcb] at h
    exact (Mc.zaH k (RR.sign h)).2.1
 refine Mc.zmh OC (fun r hr=>?_) ?_
 ·obtain ⟨r0,h0,e1,e2,_⟩:=zdR hr
  obtain ⟨d,hd,e⟩:=R.sg r0 h0
  obtain ⟨h1,h2⟩:=R.th r0 h0
  obtain ⟨k,hk,hkl⟩:=Mc.zgW (cs:=(Mc.freeR rs x).map fun r=>r.t) (t:=r.t) (List.mem_map_of_mem hr)
  refine ⟨?_,?_,by show 0 <= r.t; rw [e2]; exact h1,by show r.t < 128; rw [e2]; exact h2,k,hk,by rw [List.length_map] at hkl; exact hkl⟩
  ·show PyData.canLay0 (.str r.s) = true
   rw [e1,e]
   exact Cs.zgt d hd
  ·show r.s.length <= 1
   rw [e1,e]
   exact Nat.le_refl _
 ·have h : ((Mc.zbf (Mc.freeR rs x)).map List.length).sum <= (Mc.freeR rs x).length * 100:=by
   unfold Mc.zbf
   rw [List.map_map]
   refine Lns.ziW (List.length ∘ fun r : Cs.Row=>List.replicate r.n.toNat (r.s,r.t)) 100 (Mc.freeR rs x) fun r hr=>?_
   show (List.replicate r.n.toNat (r.s,r.t)).length <= 100
   rw [List.length_replicate]
   obtain ⟨r0,_,_,_,e⟩:=zdR hr
   have:=zmM x r0.s
   rw [e]
   omega
  rw [hfl] at h
  show ((Mc.zbf (Mc.freeR rs x)).map List.length).sum <= 2000
  omega
/-- what is told of keys: nothing,or where they are not good -/
def Due (rs : List Cs.Row) (x : Str) (v : V) : Prop:=(zcw rs x.cps.toList /\ v = .non) \/ (BadK rs x.cps.toList /\ v = .int (kAt rs x.cps.toList : Nat))
theorem Due.uniq {rs : List Cs.Row} {x : Str} {v v' : V} (h : Due rs x v) (h' : Due rs x v') : v = v':=by
 rcases h with ⟨g,e⟩ | ⟨g,e⟩
 ·rcases h' with ⟨g',e'⟩ | ⟨g',e'⟩
  ·rw [e,e']
  ·exact absurd g' (zio g)
 ·rcases h' with ⟨g',e'⟩ | ⟨g',e'⟩
  ·exact absurd g (zio g')
  ·rw [e,e']
theorem zpu (ns : List Int) : ∃ ms : List Int,cutV (ns.map V.int) (some 2) (some 14) = ms.map V.int /\ ms.length <= ns.length /\ ms.length <= 12:=by
 unfold cutV
 rw [<- List.map_drop,<- List.map_take]
 refine ⟨_,rfl,by rw [List.length_take,List.length_drop]; omega,?_⟩
 rw [List.length_take,List.length_map]
 have h1:=HT.zkZ ns.length ns.length 14
 have h2:=HT.zkZ ns.length 0 2
 have h1 : HT.sIx ns.length ns.length (some 14) = min 14 ns.length:=h1
 have h2 : HT.sIx ns.length 0 (some 2) = min 2 ns.length:=h2
 rw [h1,h2]
 omega
theorem zki {rs : List Cs.Row} {ls : List (List Str)} (h : ∀ l ∈ ls,l ≠ [] /\ ∀ x ∈ l,Lns.zbU rs x) : zcw rs (Lns.keyT ls).cps.toList:=by
 refine ⟨fun i hi=>?_,?_⟩
 ·exact Lns.znN (Lns.zhC h) hi
 ·by_cases e : ls = []
  ·rw [e]
   exact .inl rfl
  ·exact .inr (Lns.zfJ ls e)
theorem zis {K : PySem.W.Frag} {mg : Str -> Option Value} {x qual fld : Str} {st : Stmt} {ps : List Str} {fd : FuncData} {C B f : Addr} {b : Bool} (d : CI K mg x qual st ps B f fd fld) (hself : PySem.W.mroIn K C (.ref C) = some true) (h : PySem.W.mroIn K C (.ref B) = some b) : PySem.W.kitOne K (.ref C) (.ref B) = some b :=
 zna d.cls d.q h fun e=>by
  subst e
  rw [hself] at h
  exact (Option.some.inj h).symm
def zeW (a : Ad) : Sp:=fun vs H Q _=>∃ (e dx : Addr) (k : Nat),vs = [.ref e] /\ H e = some (XE e a.c_NoKeys (some dx)) /\ H dx = some (.xd [("at",.int (k : Int))]) /\ Q (.int (k : Int)) H
theorem zcW (T : Tx K mg a) : FnOkH P w K mg base 1 a.f_law_refused a.d_law_refused ["_law_e"] (zeW a):=by
 refine T.law_refused.fn.okH zeO (fun vs H Q E h=>?_) (fun cdv A outer s H vs Q hr h=>?_)
 ·obtain ⟨e,dx,k,rfl,_⟩:=h
  rfl
 obtain ⟨e,dx,k,rfl,he,hd,q⟩:=h
 have ask : ∀ {H2 : Hp},Same H H2 -> ∀ a0,some dx = some a0 -> ∃ fs,H2 a0 = some (.xd fs):=fun hs a0 z=>by cases z; exact ⟨_,hs _ _ hd⟩
 have hg:=T.cl_NoKeys.q.g
 have hself:=T.m_NoKeys_NoKeys
 refine ⟨_,(zac (zbM (PW.pt (zkb (zim (zcz (zaG (zeI (K:=K) rfl) rfl T.b_isinstance zci (zaa (pv 0) (zaa (zbw (v:=.ref a.c_NoKeys) rfl T.cl_NoKeys.mg rfl) zad))))) (zkb (zim (zcz (zaG (zeI (K:=K) rfl) rfl T.b_isinstance zci (zaa (pv 0) (zaa (znO (v:=.ty "ValueError") rfl T.b_ValueError zfQ rfl) zad))))) (zjZ (zcz (zaG (zeI (K:=K) rfl) rfl T.b_isinstance zci (zaa (pv 0) (zaa (zbw (v:=.ref a.c_NoCase) rfl T.cl_NoCase.mg rfl) zad)))))))) (zae (zas (zjT zfw zag))) zaI)
  (zae (zas (zoP (K:=K) rfl (pv 0))))),?_⟩
 walk_at "rd"
 refine ⟨e,_,some dx,_,_,true,rfl,he,ask (Same.refl _),hg,rfl,zis T.cl_NoKeys hself hself,?_⟩
 walk_at "rd"
 refine ⟨e,_,some dx,_,_,true,rfl,he,ask (Same.refl _),hg,rfl,zlC T.cl_NoKeys.q,?_⟩
 walk_at "rd"
 refine ⟨e,_,some dx,_,_,false,rfl,he,ask (Same.refl _),hg,rfl,zis T.cl_NoCase hself T.m_NoKeys_NoCase,?_⟩
 walk_at "rd"
 refine ⟨e,a.c_NoKeys,dx,_,_,rfl,he,hd,hg,(T.cl_NoKeys).xf.no,rfl,?_⟩
 walk_at "rd"
 exact q
def zjr (K : PySem.W.Frag) : Sp:=fun vs H Q _=>∃ (pc : Addr) (x : Str) (xs : List V) (rs : List Cs.Row),vs = [.ref pc,.str x] /\ H pc = some (.lst xs) /\ Paired (Cs.zbp H) xs rs /\ x.length <= 90000 /\ ∀ v H',Same H H' -> Due rs x v -> Q v H'
theorem zjy (T : Tx K mg a) : FnOk P w K mg base CX0 6 a.f_law_due a.d_law_due ["_law_case_here","_law_keys_here"] (zjr K):=by
 have G_lines_of:=zhI (P:=P) (w:=w) (base:=base) T
 have G_law_refused:=zcW (P:=P) (w:=w) (base:=base) T
 refine T.law_due.fn.ok zjH (fun vs H Q E h=>?_) (fun cdv A outer s H vs Q E hr h=>?_)
 ·obtain ⟨pc,x,xs,rs,rfl,_⟩:=h
  rfl
 obtain ⟨pc,x,xs,rs,rfl,hc,hpd,hx,q⟩:=h
 refine ⟨_,(zac (zkU (zmI rfl (fun _ _=>(zae (zaJ (zgZ T.lines_of G_lines_of hr rfl rfl (zaa (pv 0) (zaa (pv 1) zad)))))) (fun _=>(ziF K rfl (i:=2) rfl T.cl_CasterError.mg T.cl_CasterError.cls zjH.nd rfl rfl (fun _=>(zae (zas (zmH T.law_refused G_law_refused (hr.h _) rfl (zaa (pv 2) zad))))) zmG))))
  (zae (zas ziL))),?_⟩
 refine ⟨fun σ H2=>∃ (v2 : Option V),σ = [some (.ref pc),some (.str x),v2] /\ Same H H2 /\ zcw rs x.cps.toList,?_,?_⟩
 ·walk_at "rd"
  refine ⟨pc,x,rs,rfl,⟨xs,SqL.of hc,hpd⟩,hx,fun hgd D0 zs0 H1 hD0 hs1 _ _=>?_,fun hbd' H3 dx hs3 hdx=>?_⟩
  ·walk_at "rd"
   first | exact hgd | exact ⟨none,rfl,hs1,hgd⟩
  ·refine ⟨a.c_NoKeys,some a.f_init_NoKeys,true,rfl,T.cl_NoKeys.cls,T.m_NoKeys_CasterError,iteT ?_⟩
   intro e he0
   generalize hk : kAt rs x.cps.toList = k at he0 ⊢
   have hde : dx ≠ e:=fun z=>by rw [<- z,upd_same] at he0; cases he0
   have he1 : upd (upd H3 dx (.xd [("at",.int (k : Int))])) e (XE e a.c_NoKeys (some dx)) e = some (XE e a.c_NoKeys (some dx)):=upd_same
   have hd1 : upd (upd H3 dx (.xd [("at",.int (k : Int))])) e (XE e a.c_NoKeys (some dx)) dx = some (.xd [("at",.int (k : Int))]):=by rw [zah hde,upd_same]
   have hs4 : Same H (upd (upd H3 dx (.xd [("at",.int (k : Int))])) e (XE e a.c_NoKeys (some dx))):=zaB (zaB hs3 hdx) he0
   generalize upd (upd H3 dx (.xd [("at",.int (k : Int))])) e (XE e a.c_NoKeys (some dx)) = H4 at he1 hd1 hs4 ⊢
   walk_at "rd"
   refine ⟨e,dx,k,rfl,he1,hd1,?_⟩
   exact q _ H4 hs4 (.inr ⟨hbd',by rw [hk]⟩)
 ·rintro σ H2 ⟨v2,rfl,hs2,hgd⟩
  walk_at "rd"
  exact q _ _ hs2 (.inl ⟨hgd,rfl⟩)
def zhS (K : PySem.W.Frag) : Sp:=fun vs H Q _=>∃ (pc : Addr) (x : Str) (z : Int) (xs : List V) (rs : List Cs.Row),vs = [.ref pc,.str x,.int z] /\ (z = 0 \/ z = 1) /\ H pc = some (.lst xs) /\ Paired (Cs.zbp H) xs rs /\ Row40 5 rs /\ x.length <= 100 /\ ∀ v H',Same H H' -> Due rs x v -> Q v H'
theorem zif (T : Tx K mg a) : FnOk P w K mg base CX0 9 a.f_law_told a.d_law_told ["_law_case_here","_law_keys_here","_law_way"] (zhS K):=by
 have G_need_of:=zji (P:=P) (w:=w) (base:=base) T
 have G_peaks_of:=zhE (P:=P) (w:=w) (base:=base) T
 have G_law_refused:=zcW (P:=P) (w:=w) (base:=base) T
 refine T.law_told.fn.ok zig (fun vs H Q E h=>?_) (fun cdv A outer s H vs Q E hr h=>?_)
 ·obtain ⟨pc,x,z,xs,rs,rfl,_⟩:=h
  rfl
 obtain ⟨pc,x,z,xs,rs,rfl,hz,hc,hpd,R,hx,q⟩:=h
 have hl2:=R.l2
 have hxl:=Cs.zaX hpd
 refine ⟨_,(zac (zkU (zmI rfl (fun _ _=>(zae (zav (i:=3) zig.nd rfl (Or.inl rfl) (zvi T.need_of T.peaks_of G_need_of G_peaks_of hr rfl (zbE (zaY K rfl) (zaF (zaa (zbw (v:=.ref a.f_need_of) rfl T.need_of.mg rfl) (zaa (zbw (v:=.ref a.f_peaks_of) rfl T.peaks_of.mg rfl) zad))) (pv 2) (fun _ _=>rfl)) (zaa (pv 0) (zaa (pv 1) (zaa zag zad))))))) (fun _=>(ziF K rfl (i:=4) rfl T.cl_CasterError.mg T.cl_CasterError.cls zig.nd rfl rfl (fun _=>(zae (zas (zmH T.law_refused G_law_refused (hr.h _) rfl (zaa (pv 4) zad))))) zmG))))
  (zae (zas (zbE (zaY K rfl) (zaF (zaa ziL (zaa (zjT zfw zag) zad))) (zec zkd rfl T.b_int zrW (zaa (zbG zjl (zaG (zbQ K rfl) rfl T.b_len zcc (zaa (pv 3) zad)) (zaG (zbQ K rfl) rfl T.b_len zcc (zaa (pv 0) zad)) (zax _)) zad)) (fun _ _=>rfl))))),?_⟩
 refine ⟨fun σ H2=>∃ (n : Addr) (ns : List Int) (v4 : Option V),σ = [some (.ref pc),some (.str x),some (.int z),some (.ref n),v4] /\ Same H H2 /\ zcw rs x.cps.toList /\ H2 n = some (.lst (ns.map V.int)) /\ ns.length = rs.length,?_,?_⟩
 ·walk_at "rd"
  intro pl hpl
  have hs1:=zaf hpl (.lst [.ref a.f_need_of,.ref a.f_peaks_of])
  have h11 : upd H pl (.lst [.ref a.f_need_of,.ref a.f_peaks_of]) pl = some (.lst [.ref a.f_need_of,.ref a.f_peaks_of]):=upd_same
  generalize upd H pl (.lst [.ref a.f_need_of,.ref a.f_peaks_of]) = H1 at hs1 h11 ⊢
  walk_at "rd"
  rcases hz with rfl | rfl
  ·refine ⟨pl,_,_,_,rfl,rfl,SqL.of h11,rfl,?_⟩
   refine .inl ⟨rfl,?_⟩
   walk_at "rd"
   refine ⟨pc,x,2,xs,rs,rfl,hs1 _ _ hc,Cs.zar hpd hs1,by omega,R.sg,fun g=>zkn R hx (by decide) g,by omega,zkR hx,fun hbk H3 dx hs3 hdx=>?_,fun hgk n qs H2 hn0 hs2 hn hpk=>?_⟩
   ·refine ⟨a.c_NoKeys,some a.f_init_NoKeys,true,rfl,T.cl_NoKeys.cls,T.m_NoKeys_CasterError,iteT ?_⟩
    intro e he0
    rw [ziJ] at he0 ⊢
    generalize hk : kAt rs x.cps.toList = k at he0 ⊢
    have hde : dx ≠ e:=fun z=>by rw [<- z,upd_same] at he0; cases he0
    have he1 : upd (upd H3 dx (.xd [("at",.int (k : Int))])) e (XE e a.c_NoKeys (some dx)) e = some (XE e a.c_NoKeys (some dx)):=upd_same
    have hd1 : upd (upd H3 dx (.xd [("at",.int (k : Int))])) e (XE e a.c_NoKeys (some dx)) dx = some (.xd [("at",.int (k : Int))]):=by rw [zah hde,upd_same]
    have hs4 : Same H (upd (upd H3 dx (.xd [("at",.int (k : Int))])) e (XE e a.c_NoKeys (some dx))):=zaB (zaB (hs1.trans hs3) hdx) he0
    generalize upd (upd H3 dx (.xd [("at",.int (k : Int))])) e (XE e a.c_NoKeys (some dx)) = H4 at he1 hd1 hs4 ⊢
    walk_at "rd"
    refine ⟨e,dx,k,rfl,he1,hd1,?_⟩
    exact q _ H4 hs4 (.inr ⟨zir hbk,by rw [hk]⟩)
   ·have hql : qs.length = rs.length:=by rw [hpk.len]; exact List.length_replicate
    exact ⟨n,_,none,rfl,hs1.trans hs2,zho hgk,hn,by rw [List.length_map]; exact hql⟩
  ·refine ⟨pl,_,_,_,rfl,rfl,SqL.of h11,rfl,?_⟩
   refine .inr ⟨rfl,?_⟩
   walk_at "rd"
   refine ⟨pc,x,2,xs,rs,rfl,hs1 _ _ hc,Cs.zar hpd hs1,by omega,R.sg,fun g=>zkn R hx (by decide) g,by omega,zkR hx,fun hbk H3 dx hs3 hdx=>?_,fun hgk n qs H2 hn0 hs2 hn hpk=>?_⟩
   ·refine ⟨a.c_NoKeys,some a.f_init_NoKeys,true,rfl,T.cl_NoKeys.cls,T.m_NoKeys_CasterError,iteT ?_⟩
    intro e he0
    rw [ziJ] at he0 ⊢
    generalize hk : kAt rs x.cps.toList = k at he0 ⊢
    have hde : dx ≠ e:=fun z=>by rw [<- z,upd_same] at he0; cases he0
    have he1 : upd (upd H3 dx (.xd [("at",.int (k : Int))])) e (XE e a.c_NoKeys (some dx)) e = some (XE e a.c_NoKeys (some dx)):=upd_same
    have hd1 : upd (upd H3 dx (.xd [("at",.int (k : Int))])) e (XE e a.c_NoKeys (some dx)) dx = some (.xd [("at",.int (k : Int))]):=by rw [zah hde,upd_same]
    have hs4 : Same H (upd (upd H3 dx (.xd [("at",.int (k : Int))])) e (XE e a.c_NoKeys (some dx))):=zaB (zaB (hs1.trans hs3) hdx) he0
    generalize upd (upd H3 dx (.xd [("at",.int (k : Int))])) e (XE e a.c_NoKeys (some dx)) = H4 at he1 hd1 hs4 ⊢
    walk_at "rd"
    refine ⟨e,dx,k,rfl,he1,hd1,?_⟩
    exact q _ H4 hs4 (.inr ⟨zir hbk,by rw [hk]⟩)
   ·have hql : qs.length = rs.length:=by rw [hpk.len]; exact List.length_replicate
    exact ⟨n,_,none,rfl,hs1.trans hs2,zho hgk,hn,by rw [List.length_map]; exact hql⟩
 ·rintro σ H2 ⟨n,ns,v4,rfl,hs2,hgd,hn,hnl⟩
  walk_at "rd"
  intro p hp
  have hs3:=zaf hp (.lst [.non,.int (-2)])
  have h3p : upd H2 p (.lst [.non,.int (-2)]) p = some (.lst [.non,.int (-2)]):=upd_same
  show (fun x_1 H1=>tCB _ _ _ H1 _) (V.ref p) (upd H2 p (HO.lst [V.non,V.int (-2)]))
  generalize upd H2 p (.lst [.non,.int (-2)]) = H3 at hs3 h3p ⊢
  walk_at "rd"
  refine ⟨n,_,rfl,.inl (SqL.of (hs3 _ _ hn)),?_⟩
  rw [List.length_map,hnl]
  walk_at "rd"
  refine ⟨pc,_,rfl,.inl (SqL.of (hs3 _ _ (hs2 _ _ hc))),?_⟩
  rw [hxl]
  walk_at "rd"
  have e0 : (!decide (V.int (rs.length : Int) = V.int (rs.length : Int))) = false:=by rw [decide_eq_true rfl]; rfl
  rw [e0]
  refine .inr ⟨_,rfl,?_⟩
  refine ⟨p,_,_,_,rfl,rfl,SqL.of h3p,rfl,?_⟩
  exact q _ _ (hs2.trans hs3) (.inl ⟨hgd,rfl⟩)
theorem Due.den {K : PySem.W.Frag} {H : Hp} {rs : List Cs.Row} {x : Str} {v : V} (h : Due rs x v) : ∃ d,Den K H v d /\ d.depth = 0 /\ PyData.eqv d (.int (-1)) = false /\ PyData.eqv d d = true:=by
 rcases h with ⟨_,rfl⟩ | ⟨_,rfl⟩
 ·exact ⟨.none,.non,rfl,rfl,rfl⟩
 ·refine ⟨.int (kAt rs x.cps.toList : Nat),.int _,rfl,?_,?_⟩
  ·exact zpd rfl rfl fun e=>by have:=PyData.int.inj e; omega
  ·exact zlI rfl
def sp_law (K : PySem.W.Frag) : Sp:=fun vs H Q _=>∃ (l : Addr) (ns : List Int),vs = [.ref l] /\ SqL K H l (ns.map V.int) /\ ns.length <= 63 /\ ∀ H',Q (.bl true) H'
theorem ok_law (T : Tx K mg a) : FnOk P w K mg base CX0 lawLevel a.f_law a.d_law ["_law_script"] (sp_law K):=by
 have G_law_case:=zhU (P:=P) (w:=w) (base:=base) T
 have G_law_lines:=zgy (P:=P) (w:=w) (base:=base) T
 have G_law_keys:=zij (P:=P) (w:=w) (base:=base) T
 have G_law_mixed:=zcH (P:=P) (w:=w) (base:=base) T
 have G_law_spoilt:=zfF (P:=P) (w:=w) (base:=base) T
 have G_law_due:=zjy (P:=P) (w:=w) (base:=base) T
 have G_law_told:=zif (P:=P) (w:=w) (base:=base) T
 refine T.law.fn.ok zrH (fun vs H Q E h=>?_) (fun cdv A outer s H vs Q E hr h=>?_)
 ·obtain ⟨l,ns,rfl,_⟩:=h
  rfl
 obtain ⟨l,ns,rfl,hS,hl,q⟩:=h
 refine ⟨_,(zac (zav (i:=1) zrH.nd rfl (Or.inl rfl) (zbl T.law_case G_law_case hr rfl (zaa (pv 0) (zaa zag zad))))
  (zac (zav (i:=2) zrH.nd rfl (Or.inl rfl) (zbl T.law_keys G_law_keys hr rfl (zaa (zbl T.law_lines G_law_lines hr rfl (zaa (zbI (zfX K rfl) (pv 0) (zbN zag) (zbN zag)) (zaa (pv 1) zad))) zad)))
  (zac (zcX PassesOwn.never rfl (zcs K rfl rfl T.b_enumerate (zaa (zao zrn (zaF (zaa zag zad)) (zbI (zfX K rfl) (pv 0) (zbN zag) (zbN zag))) zad)) (zaV K rfl (n:=2) rfl (zam (zal (i:=3) zrH.nd rfl (Or.inl rfl)) (zam (zal (i:=4) zrH.nd rfl (Or.inl rfl)) zaW))) (zac (zav (i:=5) zrH.nd rfl (Or.inl rfl) (zbl T.law_mixed G_law_mixed hr rfl (zaa (pv 4) (zaa (pv 3) zad))))
  (zac (zav (i:=6) zrH.nd rfl (Or.inl rfl) (zbl T.law_spoilt G_law_spoilt hr rfl (zaa (pv 2) (zaa (pv 5) (zaa (pv 1) zad)))))
  (zac (zkU (zbM (zaA zfE (zao zaU (zao zbu (pv 5) zag) zag) zag (zax _)) (zae (zav (i:=6) zrH.nd rfl (Or.inl rfl) (zbl T.law_spoilt G_law_spoilt hr rfl (zaa (pv 6) (zaa (zao zaO (zao zbu (pv 5) zag) zag) (zaa (pv 1) zad)))))) zaI))
  (zac (zav (i:=7) zrH.nd rfl (Or.inl rfl) (zbl T.law_due G_law_due hr rfl (zaa (pv 1) (zaa (pv 6) zad))))
  (zae (zbM (PW.pt (zkb (zaA (keqD K rfl hr.units) (pv 7) (zjT zfw zag) (zax _)) (zkb (zaA (kneD K rfl hr.units) (zbl T.law_told G_law_told hr rfl (zaa (pv 1) (zaa (pv 6) (zaa zag zad)))) (pv 7) (zax _)) (zjZ (zaA (kneD K rfl hr.units) (zbl T.law_told G_law_told hr rfl (zaa (pv 1) (zaa (pv 6) (zaa zag zad)))) (pv 7) (zax _)))))) (zae (zas znl)) zaI)))))))
  (zae (zas (zkl (zmE (zbl T.law_told G_law_told hr rfl (zaa (pv 1) (zaa (pv 2) (zaa zag zad))))))))))),?_⟩
 walk_at "rd"
 refine ⟨l,ns,5,rfl,hS,by decide,by decide,fun pc xs rs H1 hpc0 hs1 hpc hpd R=>?_⟩
 have hl1:=R.l1
 have hl2:=R.l2
 have RR : Mc.Rows rs:=⟨by omega,R.sg,R.th,fun r hr=>⟨(R.mn r hr).1,by have:=(R.mn r hr).2; omega⟩⟩
 walk_at "rd"
 refine ⟨l,_,rfl,hs1.seq hS,fun ps hps=>?_⟩
 obtain ⟨ms,ecut,hml,hms⟩:=zpu ns
 rw [ecut]
 have hs2:=zaf hps (.lst (ms.map V.int))
 have h2s : upd H1 ps (.lst (ms.map V.int)) ps = some (.lst (ms.map V.int)):=upd_same
 generalize upd H1 ps (.lst (ms.map V.int)) = H2 at hs2 h2s ⊢
 have hs02:=hs1.trans hs2
 walk_at "rd"
 refine ⟨ps,pc,ms,xs,rs,rfl,SqL.of h2s,by omega,hs2 _ _ hpc,Cs.zar hpd hs2,(fun e=>by rw [e] at hl1; exact absurd hl1 (by decide)),by omega,R.sg,fun lr zs ls H3 hlr hs3 hlr3 hzl L hsum=>?_⟩
 refine ⟨lr,lr,zs,ls,rfl,SqL.of hlr3,hzl,L.fit,fun H4 hs4=>?_⟩
 have hs04:=hs02.trans (hs3.trans hs4)
 have hs14:=hs2.trans (hs3.trans hs4)
 have OC1:=RR.okC L.short L.ok (z:=1) (by decide)
 have TK : zbD 84 (Lns.keyT ls):=by
  have a:=Mc.zkt (rs:=rs) (ls:=ls) fun l hl=>⟨(L.one l hl).1,(L.one l hl).2.2⟩
  have e : (Lns.keyT ls).cps.toList.length = (Lns.keyT ls).length:=Array.length_toList
  refine ⟨by rw [e]; omega,fun k hk=>?_⟩
  rcases OC1.known k hk with h | h | ⟨h,_,_⟩
  ·omega
  ·omega
  ·exact zhY k (RR.sign h)
 have GK : zcw rs (Lns.keyT ls).cps.toList:=zki L.ok
 clear OC1
 generalize Lns.keyT ls = keys at TK GK ⊢
 have hpc4:=hs14 _ _ hpc
 have hpd4:=Cs.zar hpd hs14
 have hS4:=hs04.seq hS
 clear hzl hlr3
 walk_at "rd"
 intro p5 hp5
 have hs5:=zaf hp5 (.lst [.int 0])
 have h55 : upd H4 p5 (.lst [.int 0]) p5 = some (.lst [.int 0]):=upd_same
 generalize upd H4 p5 (.lst [.int 0]) = H5 at hs5 h55 ⊢
 obtain ⟨ns2,ecut2,hn2⟩:=Cs.znB ns (some 14) (some 54)
 walk_at "rd"
 refine ⟨l,_,rfl,hs5.seq hS4,fun p6 hp6=>?_⟩
 rw [ecut2]
 have hs6:=zaf hp6 (.lst (ns2.map V.int))
 have h66 : upd H5 p6 (.lst (ns2.map V.int)) p6 = some (.lst (ns2.map V.int)):=upd_same
 generalize upd H5 p6 (.lst (ns2.map V.int)) = H6 at hs6 h66 ⊢
 refine ⟨p5,p6,_,_,rfl,rfl,hs6 _ _ h55,h66,zay (by rw [List.length_map]; show 1 + _ <= _; omega),fun p7 hp7=>?_⟩
 have e7 : ([V.int 0] ++ ns2.map V.int) = ((0 : Int) :: ns2).map V.int:=rfl
 rw [e7]
 have hl7 : ((0 : Int) :: ns2).length <= 100:=by rw [List.length_cons]; omega
 generalize (0 : Int) :: ns2 = cs at hl7 ⊢
 have hs7:=zaf hp7 (.lst (cs.map V.int))
 have h77 : upd H6 p7 (.lst (cs.map V.int)) p7 = some (.lst (cs.map V.int)):=upd_same
 generalize upd H6 p7 (.lst (cs.map V.int)) = H7 at hs7 h77 ⊢
 have hs47:=hs5.trans (hs6.trans hs7)
 have hpc7:=hs47 _ _ hpc4
 have hpd7:=Cs.zar hpd4 hs47
 walk_at "rd"
 refine ⟨⟨_,SqL.of h77⟩,?_⟩
 refine zcp (a:=p7) (xs:=cs.map V.int) (fun i σ H8=>∃ (v3 v4 v5 v6 v7 : Option V),σ = [some (.ref l),some (.ref pc),some (.str keys),v3,v4,v5,v6,v7] /\ Same H7 H8)
  ⟨none,none,none,none,none,rfl,Same.refl _⟩ (by rintro i σ H8 _ ⟨_,_,_,_,_,_,hs⟩; exact hs.seq (SqL.of h77)) ?_ ?_
 ·rintro i y tp σ H8 hy ⟨v3,v4,v5,v6,v7,rfl,hs8⟩ htp0
  obtain ⟨c,rfl,hci⟩:=zbv hy
  have hil : i < cs.length:=(List.getElem?_eq_some_iff.mp hci).1
  have hs9':=zaf htp0 (.tup [.int i,.int c])
  have h9t : upd H8 tp (.tup [.int i,.int c]) tp = some (.tup [.int i,.int c]):=upd_same
  generalize upd H8 tp (.tup [.int i,.int c]) = H9 at hs9' h9t ⊢
  have hs9:=hs8.trans hs9'
  have hpc9:=hs9 _ _ hpc7
  have hpd9:=Cs.zar hpd7 hs9
  walk_at "rd"
  walk_at "tg"
  walk_at "tg"
  try refine And.intro rfl ?_
  walk_at "rd"
  refine ⟨_,_,rfl,by omega,by omega,fun f hf0 hf1=>?_⟩
  walk_at "rd"
  refine ⟨keys,f,pc,xs,rs,84,rfl,TK,by decide,hf0,hpc9,hpd9,R,fun z hz=>?_⟩
  walk_at "rd"
  refine ⟨fun σ' H'=>∃ (z : Str),σ' = [some (.ref l),some (.ref pc),some (.str keys),some (.int (i : Int)),some (.int c),some (.int f),some (.str z),v7] /\ H' = H9 /\ zbD 86 z,?_,?_⟩
  ·walk_at "rd"
   refine ite2 (fun _=>?_) (fun _=>?_)
   ·walk_at "rd"
    refine ⟨z,_,pc,xs,rs,85,rfl,hz,by decide,by omega,hpc9,hpd9,R,fun z2 hz2=>?_⟩
    exact ⟨z2,rfl,rfl,hz2⟩
   ·exact ⟨z,rfl,rfl,hz.mono (by decide)⟩
  rintro σ' H9' ⟨z,rfl,rfl,hz⟩
  have hzl:=hz.len
  walk_at "rd"
  refine ⟨pc,z,xs,rs,rfl,hpc9,hpd9,by omega,fun v H10 hs10 hv=>?_⟩
  obtain ⟨d,D1,hd0,hd1,hd2⟩:=hv.den (K:=K) (H:=H10)
  have hpc10:=hs10 _ _ hpc9
  have hpd10:=Cs.zar hpd9 hs10
  walk_at "rd"
  refine ⟨d,.int (-1),D1,.int _,by omega,?_⟩
  refine ⟨_,rfl,?_⟩
  rw [if_neg (by decide),hd1]
  refine iteF ?_
  walk_at "rd"
  refine ⟨pc,z,0,xs,rs,rfl,.inl rfl,hpc10,hpd10,R,by omega,fun v2 H11 hs11 hv2=>?_⟩
  have e2:=hv2.uniq hv
  subst e2
  obtain ⟨d2,D2,hd20,_,hd22⟩:=hv.den (K:=K) (H:=H11)
  walk_at "rd"
  refine ⟨d2,d2,D2,D2,by omega,?_⟩
  refine ⟨_,rfl,?_⟩
  rw [if_pos rfl,hd22]
  refine iteF ?_
  walk_at "rd"
  refine ⟨pc,z,1,xs,rs,rfl,.inr rfl,hs11 _ _ hpc10,Cs.zar hpd10 hs11,R,by omega,fun v3 H12 hs12 hv3=>?_⟩
  have e3:=hv3.uniq hv
  subst e3
  obtain ⟨d3,D3,hd30,_,hd32⟩:=hv.den (K:=K) (H:=H12)
  walk_at "rd"
  refine ⟨d3,d3,D3,D3,by omega,?_⟩
  refine ⟨_,rfl,?_⟩
  rw [if_pos rfl,hd32]
  refine iteF ?_
  exact ⟨_,_,_,_,_,rfl,hs9.trans (hs10.trans (hs11.trans hs12))⟩
 ·rintro σ H8 ⟨v3,v4,v5,v6,v7,rfl,hs8⟩
  have hpc8:=hs8 _ _ hpc7
  have hpd8:=Cs.zar hpd7 hs8
  walk_at "rd"
  refine ⟨pc,keys,0,xs,rs,rfl,.inl rfl,hpc8,hpd8,R,by have:=TK.len; omega,fun v H10 hs10 hv=>?_⟩
  have ev : v = .non:=hv.uniq (.inl ⟨GK,rfl⟩)
  subst ev
  walk_at "rd"
  exact q _
theorem ba1 {fd : FuncData} {ps : List Str} (h : ∀ a : Value,bindArgs fd ⟨[a],[]⟩ = pure (ps.zip [a])) : ∀ us : List Value,us.length = 1 -> bindArgs fd ⟨us,[]⟩ = pure (ps.zip us):=us1 (P:=fun us=>bindArgs fd ⟨us,[]⟩ = pure (ps.zip us)) h
theorem ba2 {fd : FuncData} {ps : List Str} (h : ∀ a b : Value,bindArgs fd ⟨[a,b],[]⟩ = pure (ps.zip [a,b])) : ∀ us : List Value,us.length = 2 -> bindArgs fd ⟨us,[]⟩ = pure (ps.zip us):=us2 (P:=fun us=>bindArgs fd ⟨us,[]⟩ = pure (ps.zip us)) h
theorem ba3 {fd : FuncData} {ps : List Str} (h : ∀ a b c : Value,bindArgs fd ⟨[a,b,c],[]⟩ = pure (ps.zip [a,b,c])) : ∀ us : List Value,us.length = 3 -> bindArgs fd ⟨us,[]⟩ = pure (ps.zip us):=us3 (P:=fun us=>bindArgs fd ⟨us,[]⟩ = pure (ps.zip us)) h
theorem ba4 {fd : FuncData} {ps : List Str} (h : ∀ a b c d : Value,bindArgs fd ⟨[a,b,c,d],[]⟩ = pure (ps.zip [a,b,c,d])) : ∀ us : List Value,us.length = 4 -> bindArgs fd ⟨us,[]⟩ = pure (ps.zip us):=us4 (P:=fun us=>bindArgs fd ⟨us,[]⟩ = pure (ps.zip us)) h
theorem ba5 {fd : FuncData} {ps : List Str} (h : ∀ a b c d e : Value,bindArgs fd ⟨[a,b,c,d,e],[]⟩ = pure (ps.zip [a,b,c,d,e])) : ∀ us : List Value,us.length = 5 -> bindArgs fd ⟨us,[]⟩ = pure (ps.zip us):=us5 (P:=fun us=>bindArgs fd ⟨us,[]⟩ = pure (ps.zip us)) h
theorem bd4 {s : Shared} {fd : FuncData} {ps : List Str} {ds : List Value} (h : ∀ a b c d : Value,BindsTo s fd ⟨[a,b,c,d],[]⟩ (ps.zip ([a,b,c,d] ++ ds))) : ∀ us : List Value,us.length = 4 -> BindsTo s fd ⟨us,[]⟩ (ps.zip (us ++ ds)):=us4 (P:=fun us=>BindsTo s fd ⟨us,[]⟩ (ps.zip (us ++ ds))) h
theorem bd5 {s : Shared} {fd : FuncData} {ps : List Str} {ds : List Value} (h : ∀ a b c d e : Value,BindsTo s fd ⟨[a,b,c,d,e],[]⟩ (ps.zip ([a,b,c,d,e] ++ ds))) : ∀ us : List Value,us.length = 5 -> BindsTo s fd ⟨us,[]⟩ (ps.zip (us ++ ds)):=us5 (P:=fun us=>BindsTo s fd ⟨us,[]⟩ (ps.zip (us ++ ds))) h
theorem txt_mk {K : PySem.W.Frag} {h : Heap} {mg : Str -> Option Value} (X : K.In h) (G : h.Ns mainGlobals mg)
 {f0 : Addr} {od0 an0 : Option Addr} {sl0 : Array (Option Value)} {oc0 kV0 dc0 pm0 cd0 ct0 : Value} {f1 : Addr} {od1 an1 : Option Addr} {sl1 : Array (Option Value)} {oc1 kV1 dc1 pm1 cd1 ct1 : Value} {f2 : Addr} {od2 an2 : Option Addr} {sl2 : Array (Option Value)} {oc2 kV2 dc2 pm2 cd2 ct2 : Value} {f3 : Addr} {od3 an3 : Option Addr} {sl3 : Array (Option Value)} {oc3 kV3 dc3 pm3 cd3 ct3 : Value} {f4 : Addr} {od4 an4 : Option Addr} {sl4 : Array (Option Value)} {oc4 kV4 dc4 pm4 cd4 ct4 : Value} {f5 : Addr} {od5 an5 : Option Addr} {sl5 : Array (Option Value)} {oc5 kV5 dc5 pm5 cd5 ct5 : Value} {f6 : Addr} {od6 an6 : Option Addr} {sl6 : Array (Option Value)} {oc6 kV6 dc6 pm6 cd6 ct6 : Value} {f7 : Addr} {od7 an7 : Option Addr} {sl7 : Array (Option Value)} {oc7 kV7 dc7 pm7 cd7 ct7 : Value} {f8 : Addr} {od8 an8 : Option Addr} {sl8 : Array (Option Value)} {oc8 kV8 dc8 pm8 cd8 ct8 : Value} {f9 : Addr} {od9 an9 : Option Addr} {sl9 : Array (Option Value)} {oc9 kV9 dc9 pm9 cd9 ct9 : Value} {f10 : Addr} {od10 an10 : Option Addr} {sl10 : Array (Option Value)} {oc10 kV10 dc10 pm10 cd10 ct10 : Value} {f11 : Addr} {od11 an11 : Option Addr} {sl11 : Array (Option Value)} {oc11 kV11 dc11 pm11 cd11 ct11 : Value} {f12 : Addr} {od12 an12 : Option Addr} {sl12 : Array (Option Value)} {oc12 kV12 dc12 pm12 cd12 ct12 : Value} {f13 : Addr} {od13 an13 : Option Addr} {sl13 : Array (Option Value)} {oc13 kV13 dc13 pm13 cd13 ct13 : Value} {f14 : Addr} {od14 an14 : Option Addr} {sl14 : Array (Option Value)} {oc14 kV14 dc14 pm14 cd14 ct14 : Value} {f15 : Addr} {od15 an15 : Option Addr} {sl15 : Array (Option Value)} {oc15 kV15 dc15 pm15 cd15 ct15 : Value} {f16 : Addr} {od16 an16 : Option Addr} {sl16 : Array (Option Value)} {oc16 kV16 dc16 pm16 cd16 ct16 : Value} {f17 : Addr} {od17 an17 : Option Addr} {sl17 : Array (Option Value)} {oc17 kV17 dc17 pm17 cd17 ct17 : Value} {f18 : Addr} {od18 an18 : Option Addr} {sl18 : Array (Option Value)} {oc18 kV18 dc18 pm18 cd18 ct18 : Value} {f19 : Addr} {od19 an19 : Option Addr} {sl19 : Array (Option Value)} {oc19 kV19 dc19 pm19 cd19 ct19 : Value} {f20 : Addr} {od20 an20 : Option Addr} {sl20 : Array (Option Value)} {oc20 kV20 dc20 pm20 cd20 ct20 : Value} {f21 : Addr} {od21 an21 : Option Addr} {sl21 : Array (Option Value)} {oc21 kV21 dc21 pm21 cd21 ct21 : Value} {f22 : Addr} {od22 an22 : Option Addr} {sl22 : Array (Option Value)} {oc22 kV22 dc22 pm22 cd22 ct22 : Value} {f23 : Addr} {od23 an23 : Option Addr} {sl23 : Array (Option Value)} {oc23 kV23 dc23 pm23 cd23 ct23 : Value} {f24 : Addr} {od24 an24 : Option Addr} {sl24 : Array (Option Value)} {oc24 kV24 dc24 pm24 cd24 ct24 : Value} {f25 : Addr} {od25 an25 : Option Addr} {sl25 : Array (Option Value)} {oc25 kV25 dc25 pm25 cd25 ct25 : Value} {f26 : Addr} {od26 an26 : Option Addr} {sl26 : Array (Option Value)} {oc26 kV26 dc26 pm26 cd26 ct26 : Value} {f27 : Addr} {od27 an27 : Option Addr} {sl27 : Array (Option Value)} {oc27 kV27 dc27 pm27 cd27 ct27 : Value}
 (a0 : PySem.W.nsIn K mainGlobals "_wall" = some (some (.ref f0))) (l0 : K.lookup f0 = some ⟨oc0,od0,.func (PySem.W.fnOf "_wall" "_wall" (zak s_wall) (zaj s_wall) (zab s_wall) .none kV0 dc0 pm0 an0 cd0 ct0),sl0⟩) (c0 : PySem.W.codeIn K cd0 "_wall" = true) (k0 : PySem.W.keepIn K (.ref f0) = true)
 (a1 : PySem.W.nsIn K mainGlobals "has_all" = some (some (.ref f1))) (l1 : K.lookup f1 = some ⟨oc1,od1,.func (PySem.W.fnOf "has_all" "has_all" (zak s_has_all) (zaj s_has_all) (zab s_has_all) .none kV1 dc1 pm1 an1 cd1 ct1),sl1⟩) (c1 : PySem.W.codeIn K cd1 "has_all" = true) (k1 : PySem.W.keepIn K (.ref f1) = true)
 (a2 : PySem.W.nsIn K mainGlobals "falls_at" = some (some (.ref f2))) (l2 : K.lookup f2 = some ⟨oc2,od2,.func (PySem.W.fnOf "falls_at" "falls_at" (zak s_falls_at) (zaj s_falls_at) (zab s_falls_at) .none kV2 dc2 pm2 an2 cd2 ct2),sl2⟩) (c2 : PySem.W.codeIn K cd2 "falls_at" = true) (k2 : PySem.W.keepIn K (.ref f2) = true)
 (a3 : PySem.W.nsIn K mainGlobals "channel_of" = some (some (.ref f3))) (l3 : K.lookup f3 = some ⟨oc3,od3,.func (PySem.W.fnOf "channel_of" "channel_of" (zak s_channel_of) (zaj s_channel_of) (zab s_channel_of) .none kV3 dc3 pm3 an3 cd3 ct3),sl3⟩) (c3 : PySem.W.codeIn K cd3 "channel_of" = true) (k3 : PySem.W.keepIn K (.ref f3) = true)
 (a4 : PySem.W.nsIn K mainGlobals "codes_of" = some (some (.ref f4))) (l4 : K.lookup f4 = some ⟨oc4,od4,.func (PySem.W.fnOf "codes_of" "codes_of" (zak s_codes_of_) (zaj s_codes_of_) (zab s_codes_of_) .none kV4 dc4 pm4 an4 cd4 ct4),sl4⟩) (c4 : PySem.W.codeIn K cd4 "codes_of" = true) (k4 : PySem.W.keepIn K (.ref f4) = true)
 (a5 : PySem.W.nsIn K mainGlobals "is_sign_key" = some (some (.ref f5))) (l5 : K.lookup f5 = some ⟨oc5,od5,.func (PySem.W.fnOf "is_sign_key" "is_sign_key" (zak s_is_sign_key) (zaj s_is_sign_key) (zab s_is_sign_key) .none kV5 dc5 pm5 an5 cd5 ct5),sl5⟩) (c5 : PySem.W.codeIn K cd5 "is_sign_key" = true) (k5 : PySem.W.keepIn K (.ref f5) = true)
 (a6 : PySem.W.nsIn K mainGlobals "goes_on" = some (some (.ref f6))) (l6 : K.lookup f6 = some ⟨oc6,od6,.func (PySem.W.fnOf "goes_on" "goes_on" (zak s_goes_on) (zaj s_goes_on) (zab s_goes_on) .none kV6 dc6 pm6 an6 cd6 ct6),sl6⟩) (c6 : PySem.W.codeIn K cd6 "goes_on" = true) (k6 : PySem.W.keepIn K (.ref f6) = true)
 (a7 : PySem.W.nsIn K mainGlobals "look_at_keys" = some (some (.ref f7))) (l7 : K.lookup f7 = some ⟨oc7,od7,.func (PySem.W.fnOf "look_at_keys" "look_at_keys" (zak s_look_at_keys) (zaj s_look_at_keys) (zab s_look_at_keys) .none kV7 dc7 pm7 an7 cd7 ct7),sl7⟩) (c7 : PySem.W.codeIn K cd7 "look_at_keys" = true) (k7 : PySem.W.keepIn K (.ref f7) = true)
 (a8 : PySem.W.nsIn K mainGlobals "lines_of" = some (some (.ref f8))) (l8 : K.lookup f8 = some ⟨oc8,od8,.func (PySem.W.fnOf "lines_of" "lines_of" (zak s_lines_of) (zaj s_lines_of) (zab s_lines_of) .none kV8 dc8 pm8 an8 cd8 ct8),sl8⟩) (c8 : PySem.W.codeIn K cd8 "lines_of" = true) (k8 : PySem.W.keepIn K (.ref f8) = true)
 (a9 : PySem.W.nsIn K mainGlobals "can_break" = some (some (.ref f9))) (l9 : K.lookup f9 = some ⟨oc9,od9,.func (PySem.W.fnOf "can_break" "can_break" (zak s_can_break) (zaj s_can_break) (zab s_can_break) .none kV9 dc9 pm9 an9 cd9 ct9),sl9⟩) (c9 : PySem.W.codeIn K cd9 "can_break" = true) (k9 : PySem.W.keepIn K (.ref f9) = true)
 (a10 : PySem.W.nsIn K mainGlobals "channels_of" = some (some (.ref f10))) (l10 : K.lookup f10 = some ⟨oc10,od10,.func (PySem.W.fnOf "channels_of" "channels_of" (zak s_channels_of) (zaj s_channels_of) (zab s_channels_of) .none kV10 dc10 pm10 an10 cd10 ct10),sl10⟩) (c10 : PySem.W.codeIn K cd10 "channels_of" = true) (k10 : PySem.W.keepIn K (.ref f10) = true)
 (a11 : PySem.W.nsIn K mainGlobals "free_case" = some (some (.ref f11))) (l11 : K.lookup f11 = some ⟨oc11,od11,.func (PySem.W.fnOf "free_case" "free_case" (zak s_free_case) (zaj s_free_case) (zab s_free_case) .none kV11 dc11 pm11 an11 cd11 ct11),sl11⟩) (c11 : PySem.W.codeIn K cd11 "free_case" = true) (k11 : PySem.W.keepIn K (.ref f11) = true)
 (a12 : PySem.W.nsIn K mainGlobals "numbers_out" = some (some (.ref f12))) (l12 : K.lookup f12 = some ⟨oc12,od12,.func (PySem.W.fnOf "numbers_out" "numbers_out" (zak s_numbers_out) (zaj s_numbers_out) (zab s_numbers_out) .none kV12 dc12 pm12 an12 cd12 ct12),sl12⟩) (c12 : PySem.W.codeIn K cd12 "numbers_out" = true) (k12 : PySem.W.keepIn K (.ref f12) = true)
 (a13 : PySem.W.nsIn K mainGlobals "needs_and_peaks" = some (some (.ref f13))) (l13 : K.lookup f13 = some ⟨oc13,od13,.func (PySem.W.fnOf "needs_and_peaks" "needs_and_peaks" (zak s_needs_and_peaks) (zaj s_needs_and_peaks) (zab s_needs_and_peaks) .none kV13 dc13 pm13 an13 cd13 ct13),sl13⟩) (c13 : PySem.W.codeIn K cd13 "needs_and_peaks" = true) (k13 : PySem.W.keepIn K (.ref f13) = true)
 (a14 : PySem.W.nsIn K mainGlobals "need_of" = some (some (.ref f14))) (l14 : K.lookup f14 = some ⟨oc14,od14,.func (PySem.W.fnOf "need_of" "need_of" (zak s_need_of) (zaj s_need_of) (zab s_need_of) .none kV14 dc14 pm14 an14 cd14 ct14),sl14⟩) (c14 : PySem.W.codeIn K cd14 "need_of" = true) (k14 : PySem.W.keepIn K (.ref f14) = true)
 (a15 : PySem.W.nsIn K mainGlobals "peaks_of" = some (some (.ref f15))) (l15 : K.lookup f15 = some ⟨oc15,od15,.func (PySem.W.fnOf "peaks_of" "peaks_of" (zak s_peaks_of) (zaj s_peaks_of) (zab s_peaks_of) .none kV15 dc15 pm15 an15 cd15 ct15),sl15⟩) (c15 : PySem.W.codeIn K cd15 "peaks_of" = true) (k15 : PySem.W.keepIn K (.ref f15) = true)
 (a16 : PySem.W.nsIn K mainGlobals "_law_cell_at" = some (some (.ref f16))) (l16 : K.lookup f16 = some ⟨oc16,od16,.func (PySem.W.fnOf "_law_cell_at" "_law_cell_at" (zak s_law_cell_at) (zaj s_law_cell_at) (zab s_law_cell_at) .none kV16 dc16 pm16 an16 cd16 ct16),sl16⟩) (c16 : PySem.W.codeIn K cd16 "_law_cell_at" = true) (k16 : PySem.W.keepIn K (.ref f16) = true)
 (a17 : PySem.W.nsIn K mainGlobals "_law_mixed" = some (some (.ref f17))) (l17 : K.lookup f17 = some ⟨oc17,od17,.func (PySem.W.fnOf "_law_mixed" "_law_mixed" (zak s_law_mixed) (zaj s_law_mixed) (zab s_law_mixed) .none kV17 dc17 pm17 an17 cd17 ct17),sl17⟩) (c17 : PySem.W.codeIn K cd17 "_law_mixed" = true) (k17 : PySem.W.keepIn K (.ref f17) = true)
 (a18 : PySem.W.nsIn K mainGlobals "_law_bits" = some (some (.ref f18))) (l18 : K.lookup f18 = some ⟨oc18,od18,.func (PySem.W.fnOf "_law_bits" "_law_bits" (zak s_law_bits) (zaj s_law_bits) (zab s_law_bits) .none kV18 dc18 pm18 an18 cd18 ct18),sl18⟩) (c18 : PySem.W.codeIn K cd18 "_law_bits" = true) (k18 : PySem.W.keepIn K (.ref f18) = true)
 (a19 : PySem.W.nsIn K mainGlobals "_law_teeth" = some (some (.ref f19))) (l19 : K.lookup f19 = some ⟨oc19,od19,.func (PySem.W.fnOf "_law_teeth" "_law_teeth" (zak s_law_teeth) (zaj s_law_teeth) (zab s_law_teeth) .none kV19 dc19 pm19 an19 cd19 ct19),sl19⟩) (c19 : PySem.W.codeIn K cd19 "_law_teeth" = true) (k19 : PySem.W.keepIn K (.ref f19) = true)
 (a20 : PySem.W.nsIn K mainGlobals "_law_case" = some (some (.ref f20))) (l20 : K.lookup f20 = some ⟨oc20,od20,.func (PySem.W.fnOf "_law_case" "_law_case" (zak s_law_case) (zaj s_law_case) (zab s_law_case) .none kV20 dc20 pm20 an20 cd20 ct20),sl20⟩) (c20 : PySem.W.codeIn K cd20 "_law_case" = true) (k20 : PySem.W.keepIn K (.ref f20) = true)
 (a21 : PySem.W.nsIn K mainGlobals "_law_lines" = some (some (.ref f21))) (l21 : K.lookup f21 = some ⟨oc21,od21,.func (PySem.W.fnOf "_law_lines" "_law_lines" (zak s_law_lines) (zaj s_law_lines) (zab s_law_lines) .none kV21 dc21 pm21 an21 cd21 ct21),sl21⟩) (c21 : PySem.W.codeIn K cd21 "_law_lines" = true) (k21 : PySem.W.keepIn K (.ref f21) = true)
 (a22 : PySem.W.nsIn K mainGlobals "_law_keys" = some (some (.ref f22))) (l22 : K.lookup f22 = some ⟨oc22,od22,.func (PySem.W.fnOf "_law_keys" "_law_keys" (zak s_law_keys) (zaj s_law_keys) (zab s_law_keys) .none kV22 dc22 pm22 an22 cd22 ct22),sl22⟩) (c22 : PySem.W.codeIn K cd22 "_law_keys" = true) (k22 : PySem.W.keepIn K (.ref f22) = true)
 (a23 : PySem.W.nsIn K mainGlobals "_law_spoilt" = some (some (.ref f23))) (l23 : K.lookup f23 = some ⟨oc23,od23,.func (PySem.W.fnOf "_law_spoilt" "_law_spoilt" (zak s_law_spoilt) (zaj s_law_spoilt) (zab s_law_spoilt) .none kV23 dc23 pm23 an23 cd23 ct23),sl23⟩) (c23 : PySem.W.codeIn K cd23 "_law_spoilt" = true) (k23 : PySem.W.keepIn K (.ref f23) = true)
 (a24 : PySem.W.nsIn K mainGlobals "_law_refused" = some (some (.ref f24))) (l24 : K.lookup f24 = some ⟨oc24,od24,.func (PySem.W.fnOf "_law_refused" "_law_refused" (zak s_law_refused) (zaj s_law_refused) (zab s_law_refused) .none kV24 dc24 pm24 an24 cd24 ct24),sl24⟩) (c24 : PySem.W.codeIn K cd24 "_law_refused" = true) (k24 : PySem.W.keepIn K (.ref f24) = true)
 (a25 : PySem.W.nsIn K mainGlobals "_law_due" = some (some (.ref f25))) (l25 : K.lookup f25 = some ⟨oc25,od25,.func (PySem.W.fnOf "_law_due" "_law_due" (zak s_law_due) (zaj s_law_due) (zab s_law_due) .none kV25 dc25 pm25 an25 cd25 ct25),sl25⟩) (c25 : PySem.W.codeIn K cd25 "_law_due" = true) (k25 : PySem.W.keepIn K (.ref f25) = true)
 (a26 : PySem.W.nsIn K mainGlobals "_law_told" = some (some (.ref f26))) (l26 : K.lookup f26 = some ⟨oc26,od26,.func (PySem.W.fnOf "_law_told" "_law_told" (zak s_law_told) (zaj s_law_told) (zab s_law_told) .none kV26 dc26 pm26 an26 cd26 ct26),sl26⟩) (c26 : PySem.W.codeIn K cd26 "_law_told" = true) (k26 : PySem.W.keepIn K (.ref f26) = true)
 (a27 : PySem.W.nsIn K mainGlobals "law" = some (some (.ref f27))) (l27 : K.lookup f27 = some ⟨oc27,od27,.func (PySem.W.fnOf "law" "law" (zak s_law) (zaj s_law) (zab s_law) .none kV27 dc27 pm27 an27 cd27 ct27),sl27⟩) (c27 : PySem.W.codeIn K cd27 "law" = true) (k27 : PySem.W.keepIn K (.ref f27) = true)
 {c_Machine : Addr} (ca_Machine : PySem.W.nsIn K mainGlobals "Machine" = some (some (.ref c_Machine)))
 (pg_Machine : PySem.W.plainGet K c_Machine Str.empty = true) (hd_Machine : PySem.W.hasDictIn K c_Machine = true) (po_Machine : PySem.W.plainOver K c_Machine = true) (sa_Machine : PySem.W.findIn K (.ref c_Machine) "__setattr__" = some (some (.builtin "object.__setattr__"))) (mk_Machine : PySem.W.makesIn K c_Machine = true) (kc_Machine : PySem.W.keepIn K (.ref c_Machine) = true)
 {f_Machine_init : Addr} (a_Machine_init : PySem.W.findIn K (.ref c_Machine) "__init__" = some (some (.ref f_Machine_init))) (i_Machine_init : PySem.W.isFn K (.ref f_Machine_init) = true)
 {od_Machine_init an_Machine_init : Option Addr} {sl_Machine_init : Array (Option Value)} {oc_Machine_init kV_Machine_init dc_Machine_init pm_Machine_init cd_Machine_init ct_Machine_init : Value}
 {T_Machine_init : Addr}
 (l_Machine_init : K.lookup f_Machine_init = some ⟨oc_Machine_init,od_Machine_init,.func (PySem.W.fnOf "__init__" "Machine.__init__" (zak s_Machine_init) (zaj s_Machine_init) (zab s_Machine_init) (.ref T_Machine_init) kV_Machine_init dc_Machine_init pm_Machine_init an_Machine_init cd_Machine_init ct_Machine_init),sl_Machine_init⟩) (c_Machine_init : PySem.W.codeIn K cd_Machine_init "Machine.__init__" = true) (k_Machine_init : PySem.W.keepIn K (.ref f_Machine_init) = true)
 {to_Machine_init : Value} {td_Machine_init : Option Addr} {tn_Machine_init : Nat} {ts_Machine_init : Array (Option Value)} (t_Machine_init : K.lookup T_Machine_init = some ⟨to_Machine_init,td_Machine_init,.seq #[.none] tn_Machine_init,ts_Machine_init⟩)
 {f_Machine_next_key : Addr} (a_Machine_next_key : PySem.W.findIn K (.ref c_Machine) "next_key" = some (some (.ref f_Machine_next_key))) (i_Machine_next_key : PySem.W.isFn K (.ref f_Machine_next_key) = true)
 {od_Machine_next_key an_Machine_next_key : Option Addr} {sl_Machine_next_key : Array (Option Value)} {oc_Machine_next_key kV_Machine_next_key dc_Machine_next_key pm_Machine_next_key cd_Machine_next_key ct_Machine_next_key : Value}
 (l_Machine_next_key : K.lookup f_Machine_next_key = some ⟨oc_Machine_next_key,od_Machine_next_key,.func (PySem.W.fnOf "next_key" "Machine.next_key" (zak s_Machine_next_key) (zaj s_Machine_next_key) (zab s_Machine_next_key) .none kV_Machine_next_key dc_Machine_next_key pm_Machine_next_key an_Machine_next_key cd_Machine_next_key ct_Machine_next_key),sl_Machine_next_key⟩) (c_Machine_next_key : PySem.W.codeIn K cd_Machine_next_key "Machine.next_key" = true) (k_Machine_next_key : PySem.W.keepIn K (.ref f_Machine_next_key) = true)
 {f_Machine_lacks_matrix : Addr} (a_Machine_lacks_matrix : PySem.W.findIn K (.ref c_Machine) "lacks_matrix" = some (some (.ref f_Machine_lacks_matrix))) (i_Machine_lacks_matrix : PySem.W.isFn K (.ref f_Machine_lacks_matrix) = true)
 {od_Machine_lacks_matrix an_Machine_lacks_matrix : Option Addr} {sl_Machine_lacks_matrix : Array (Option Value)} {oc_Machine_lacks_matrix kV_Machine_lacks_matrix dc_Machine_lacks_matrix pm_Machine_lacks_matrix cd_Machine_lacks_matrix ct_Machine_lacks_matrix : Value}
 (l_Machine_lacks_matrix : K.lookup f_Machine_lacks_matrix = some ⟨oc_Machine_lacks_matrix,od_Machine_lacks_matrix,.func (PySem.W.fnOf "lacks_matrix" "Machine.lacks_matrix" (zak s_Machine_lacks_matrix) (zaj s_Machine_lacks_matrix) (zab s_Machine_lacks_matrix) .none kV_Machine_lacks_matrix dc_Machine_lacks_matrix pm_Machine_lacks_matrix an_Machine_lacks_matrix cd_Machine_lacks_matrix ct_Machine_lacks_matrix),sl_Machine_lacks_matrix⟩) (c_Machine_lacks_matrix : PySem.W.codeIn K cd_Machine_lacks_matrix "Machine.lacks_matrix" = true) (k_Machine_lacks_matrix : PySem.W.keepIn K (.ref f_Machine_lacks_matrix) = true)
 {f_Machine_stuck : Addr} (a_Machine_stuck : PySem.W.findIn K (.ref c_Machine) "stuck" = some (some (.ref f_Machine_stuck))) (i_Machine_stuck : PySem.W.isFn K (.ref f_Machine_stuck) = true)
 {od_Machine_stuck an_Machine_stuck : Option Addr} {sl_Machine_stuck : Array (Option Value)} {oc_Machine_stuck kV_Machine_stuck dc_Machine_stuck pm_Machine_stuck cd_Machine_stuck ct_Machine_stuck : Value}
 (l_Machine_stuck : K.lookup f_Machine_stuck = some ⟨oc_Machine_stuck,od_Machine_stuck,.func (PySem.W.fnOf "stuck" "Machine.stuck" (zak s_Machine_stuck) (zaj s_Machine_stuck) (zab s_Machine_stuck) .none kV_Machine_stuck dc_Machine_stuck pm_Machine_stuck an_Machine_stuck cd_Machine_stuck ct_Machine_stuck),sl_Machine_stuck⟩) (c_Machine_stuck : PySem.W.codeIn K cd_Machine_stuck "Machine.stuck" = true) (k_Machine_stuck : PySem.W.keepIn K (.ref f_Machine_stuck) = true)
 {f_Machine_resting : Addr} (a_Machine_resting : PySem.W.findIn K (.ref c_Machine) "resting" = some (some (.ref f_Machine_resting))) (i_Machine_resting : PySem.W.isFn K (.ref f_Machine_resting) = true)
 {od_Machine_resting an_Machine_resting : Option Addr} {sl_Machine_resting : Array (Option Value)} {oc_Machine_resting kV_Machine_resting dc_Machine_resting pm_Machine_resting cd_Machine_resting ct_Machine_resting : Value}
 (l_Machine_resting : K.lookup f_Machine_resting = some ⟨oc_Machine_resting,od_Machine_resting,.func (PySem.W.fnOf "resting" "Machine.resting" (zak s_Machine_resting) (zaj s_Machine_resting) (zab s_Machine_resting) .none kV_Machine_resting dc_Machine_resting pm_Machine_resting an_Machine_resting cd_Machine_resting ct_Machine_resting),sl_Machine_resting⟩) (c_Machine_resting : PySem.W.codeIn K cd_Machine_resting "Machine.resting" = true) (k_Machine_resting : PySem.W.keepIn K (.ref f_Machine_resting) = true)
 {f_Machine_move_bar : Addr} (a_Machine_move_bar : PySem.W.findIn K (.ref c_Machine) "move_bar" = some (some (.ref f_Machine_move_bar))) (i_Machine_move_bar : PySem.W.isFn K (.ref f_Machine_move_bar) = true)
 {od_Machine_move_bar an_Machine_move_bar : Option Addr} {sl_Machine_move_bar : Array (Option Value)} {oc_Machine_move_bar kV_Machine_move_bar dc_Machine_move_bar pm_Machine_move_bar cd_Machine_move_bar ct_Machine_move_bar : Value}
 (l_Machine_move_bar : K.lookup f_Machine_move_bar = some ⟨oc_Machine_move_bar,od_Machine_move_bar,.func (PySem.W.fnOf "move_bar" "Machine.move_bar" (zak s_Machine_move_bar) (zaj s_Machine_move_bar) (zab s_Machine_move_bar) .none kV_Machine_move_bar dc_Machine_move_bar pm_Machine_move_bar an_Machine_move_bar cd_Machine_move_bar ct_Machine_move_bar),sl_Machine_move_bar⟩) (c_Machine_move_bar : PySem.W.codeIn K cd_Machine_move_bar "Machine.move_bar" = true) (k_Machine_move_bar : PySem.W.keepIn K (.ref f_Machine_move_bar) = true)
 {f_Machine_move_caster : Addr} (a_Machine_move_caster : PySem.W.findIn K (.ref c_Machine) "move_caster" = some (some (.ref f_Machine_move_caster))) (i_Machine_move_caster : PySem.W.isFn K (.ref f_Machine_move_caster) = true)
 {od_Machine_move_caster an_Machine_move_caster : Option Addr} {sl_Machine_move_caster : Array (Option Value)} {oc_Machine_move_caster kV_Machine_move_caster dc_Machine_move_caster pm_Machine_move_caster cd_Machine_move_caster ct_Machine_move_caster : Value}
 (l_Machine_move_caster : K.lookup f_Machine_move_caster = some ⟨oc_Machine_move_caster,od_Machine_move_caster,.func (PySem.W.fnOf "move_caster" "Machine.move_caster" (zak s_Machine_move_caster) (zaj s_Machine_move_caster) (zab s_Machine_move_caster) .none kV_Machine_move_caster dc_Machine_move_caster pm_Machine_move_caster an_Machine_move_caster cd_Machine_move_caster ct_Machine_move_caster),sl_Machine_move_caster⟩) (c_Machine_move_caster : PySem.W.codeIn K cd_Machine_move_caster "Machine.move_caster" = true) (k_Machine_move_caster : PySem.W.keepIn K (.ref f_Machine_move_caster) = true)
 {f_Machine_move_line : Addr} (a_Machine_move_line : PySem.W.findIn K (.ref c_Machine) "move_line" = some (some (.ref f_Machine_move_line))) (i_Machine_move_line : PySem.W.isFn K (.ref f_Machine_move_line) = true)
 {od_Machine_move_line an_Machine_move_line : Option Addr} {sl_Machine_move_line : Array (Option Value)} {oc_Machine_move_line kV_Machine_move_line dc_Machine_move_line pm_Machine_move_line cd_Machine_move_line ct_Machine_move_line : Value}
 (l_Machine_move_line : K.lookup f_Machine_move_line = some ⟨oc_Machine_move_line,od_Machine_move_line,.func (PySem.W.fnOf "move_line" "Machine.move_line" (zak s_Machine_move_line) (zaj s_Machine_move_line) (zab s_Machine_move_line) .none kV_Machine_move_line dc_Machine_move_line pm_Machine_move_line an_Machine_move_line cd_Machine_move_line ct_Machine_move_line),sl_Machine_move_line⟩) (c_Machine_move_line : PySem.W.codeIn K cd_Machine_move_line "Machine.move_line" = true) (k_Machine_move_line : PySem.W.keepIn K (.ref f_Machine_move_line) = true)
 {f_Machine_send_line : Addr} (a_Machine_send_line : PySem.W.findIn K (.ref c_Machine) "send_line" = some (some (.ref f_Machine_send_line))) (i_Machine_send_line : PySem.W.isFn K (.ref f_Machine_send_line) = true)
 {od_Machine_send_line an_Machine_send_line : Option Addr} {sl_Machine_send_line : Array (Option Value)} {oc_Machine_send_line kV_Machine_send_line dc_Machine_send_line pm_Machine_send_line cd_Machine_send_line ct_Machine_send_line : Value}
 (l_Machine_send_line : K.lookup f_Machine_send_line = some ⟨oc_Machine_send_line,od_Machine_send_line,.func (PySem.W.fnOf "send_line" "Machine.send_line" (zak s_Machine_send_line) (zaj s_Machine_send_line) (zab s_Machine_send_line) .none kV_Machine_send_line dc_Machine_send_line pm_Machine_send_line an_Machine_send_line cd_Machine_send_line ct_Machine_send_line),sl_Machine_send_line⟩) (c_Machine_send_line : PySem.W.codeIn K cd_Machine_send_line "Machine.send_line" = true) (k_Machine_send_line : PySem.W.keepIn K (.ref f_Machine_send_line) = true)
 {f_Machine_take : Addr} (a_Machine_take : PySem.W.findIn K (.ref c_Machine) "take" = some (some (.ref f_Machine_take))) (i_Machine_take : PySem.W.isFn K (.ref f_Machine_take) = true)
 {od_Machine_take an_Machine_take : Option Addr} {sl_Machine_take : Array (Option Value)} {oc_Machine_take kV_Machine_take dc_Machine_take pm_Machine_take cd_Machine_take ct_Machine_take : Value}
 (l_Machine_take : K.lookup f_Machine_take = some ⟨oc_Machine_take,od_Machine_take,.func (PySem.W.fnOf "take" "Machine.take" (zak s_Machine_take) (zaj s_Machine_take) (zab s_Machine_take) .none kV_Machine_take dc_Machine_take pm_Machine_take an_Machine_take cd_Machine_take ct_Machine_take),sl_Machine_take⟩) (c_Machine_take : PySem.W.codeIn K cd_Machine_take "Machine.take" = true) (k_Machine_take : PySem.W.keepIn K (.ref f_Machine_take) = true)
 {f_Machine_tick : Addr} (a_Machine_tick : PySem.W.findIn K (.ref c_Machine) "tick" = some (some (.ref f_Machine_tick))) (i_Machine_tick : PySem.W.isFn K (.ref f_Machine_tick) = true)
 {od_Machine_tick an_Machine_tick : Option Addr} {sl_Machine_tick : Array (Option Value)} {oc_Machine_tick kV_Machine_tick dc_Machine_tick pm_Machine_tick cd_Machine_tick ct_Machine_tick : Value}
 (l_Machine_tick : K.lookup f_Machine_tick = some ⟨oc_Machine_tick,od_Machine_tick,.func (PySem.W.fnOf "tick" "Machine.tick" (zak s_Machine_tick) (zaj s_Machine_tick) (zab s_Machine_tick) .none kV_Machine_tick dc_Machine_tick pm_Machine_tick an_Machine_tick cd_Machine_tick ct_Machine_tick),sl_Machine_tick⟩) (c_Machine_tick : PySem.W.codeIn K cd_Machine_tick "Machine.tick" = true) (k_Machine_tick : PySem.W.keepIn K (.ref f_Machine_tick) = true)
 {f_Machine_ticks : Addr} (a_Machine_ticks : PySem.W.findIn K (.ref c_Machine) "ticks" = some (some (.ref f_Machine_ticks))) (i_Machine_ticks : PySem.W.isFn K (.ref f_Machine_ticks) = true)
 {od_Machine_ticks an_Machine_ticks : Option Addr} {sl_Machine_ticks : Array (Option Value)} {oc_Machine_ticks kV_Machine_ticks dc_Machine_ticks pm_Machine_ticks cd_Machine_ticks ct_Machine_ticks : Value}
 (l_Machine_ticks : K.lookup f_Machine_ticks = some ⟨oc_Machine_ticks,od_Machine_ticks,.func (PySem.W.fnOf "ticks" "Machine.ticks" (zak s_Machine_ticks) (zaj s_Machine_ticks) (zab s_Machine_ticks) .none kV_Machine_ticks dc_Machine_ticks pm_Machine_ticks an_Machine_ticks cd_Machine_ticks ct_Machine_ticks),sl_Machine_ticks⟩) (c_Machine_ticks : PySem.W.codeIn K cd_Machine_ticks "Machine.ticks" = true) (k_Machine_ticks : PySem.W.keepIn K (.ref f_Machine_ticks) = true)
 {f_Machine_channels : Addr} (a_Machine_channels : PySem.W.findIn K (.ref c_Machine) "channels" = some (some (.ref f_Machine_channels))) (i_Machine_channels : PySem.W.isFn K (.ref f_Machine_channels) = true)
 {od_Machine_channels an_Machine_channels : Option Addr} {sl_Machine_channels : Array (Option Value)} {oc_Machine_channels kV_Machine_channels dc_Machine_channels pm_Machine_channels cd_Machine_channels ct_Machine_channels : Value}
 (l_Machine_channels : K.lookup f_Machine_channels = some ⟨oc_Machine_channels,od_Machine_channels,.func (PySem.W.fnOf "channels" "Machine.channels" (zak s_Machine_channels) (zaj s_Machine_channels) (zab s_Machine_channels) .none kV_Machine_channels dc_Machine_channels pm_Machine_channels an_Machine_channels cd_Machine_channels ct_Machine_channels),sl_Machine_channels⟩) (c_Machine_channels : PySem.W.codeIn K cd_Machine_channels "Machine.channels" = true) (k_Machine_channels : PySem.W.keepIn K (.ref f_Machine_channels) = true)
 {f_Machine_numbers_lying : Addr} (a_Machine_numbers_lying : PySem.W.findIn K (.ref c_Machine) "numbers_lying" = some (some (.ref f_Machine_numbers_lying))) (i_Machine_numbers_lying : PySem.W.isFn K (.ref f_Machine_numbers_lying) = true)
 {od_Machine_numbers_lying an_Machine_numbers_lying : Option Addr} {sl_Machine_numbers_lying : Array (Option Value)} {oc_Machine_numbers_lying kV_Machine_numbers_lying dc_Machine_numbers_lying pm_Machine_numbers_lying cd_Machine_numbers_lying ct_Machine_numbers_lying : Value}
 (l_Machine_numbers_lying : K.lookup f_Machine_numbers_lying = some ⟨oc_Machine_numbers_lying,od_Machine_numbers_lying,.func (PySem.W.fnOf "numbers_lying" "Machine.numbers_lying" (zak s_Machine_numbers_lying) (zaj s_Machine_numbers_lying) (zab s_Machine_numbers_lying) .none kV_Machine_numbers_lying dc_Machine_numbers_lying pm_Machine_numbers_lying an_Machine_numbers_lying cd_Machine_numbers_lying ct_Machine_numbers_lying),sl_Machine_numbers_lying⟩) (c_Machine_numbers_lying : PySem.W.codeIn K cd_Machine_numbers_lying "Machine.numbers_lying" = true) (k_Machine_numbers_lying : PySem.W.keepIn K (.ref f_Machine_numbers_lying) = true)
 (n_Machine_lying : PySem.W.findIn K (.ref c_Machine) "lying" = some none)
 (n_Machine_case : PySem.W.findIn K (.ref c_Machine) "case" = some none)
 (n_Machine_played : PySem.W.findIn K (.ref c_Machine) "played" = some none)
 (n_Machine_struck : PySem.W.findIn K (.ref c_Machine) "struck" = some none)
 (n_Machine_casting : PySem.W.findIn K (.ref c_Machine) "casting" = some none)
 (n_Machine_line : PySem.W.findIn K (.ref c_Machine) "line" = some none)
 (n_Machine_heated : PySem.W.findIn K (.ref c_Machine) "heated" = some none)
 (n_Machine_to_go : PySem.W.findIn K (.ref c_Machine) "to_go" = some none)
 (n_Machine_hanging : PySem.W.findIn K (.ref c_Machine) "hanging" = some none)
 (n_Machine_texts : PySem.W.findIn K (.ref c_Machine) "texts" = some none)
 (n_Machine_done : PySem.W.findIn K (.ref c_Machine) "done" = some none)
 (n_Machine_waits : PySem.W.findIn K (.ref c_Machine) "waits" = some none)
 {c_CasterError : Addr} (ca_CasterError : PySem.W.nsIn K mainGlobals "CasterError" = some (some (.ref c_CasterError)))
 {c_NoCase : Addr} (ca_NoCase : PySem.W.nsIn K mainGlobals "NoCase" = some (some (.ref c_NoCase)))
 {c_NoKeys : Addr} (ca_NoKeys : PySem.W.nsIn K mainGlobals "NoKeys" = some (some (.ref c_NoKeys)))
 {od_CasterError : Option Addr} {cd_CasterError : ClassData} {sl_CasterError : Array (Option Value)} (lk_CasterError : K.lookup c_CasterError = some ⟨.type "type",od_CasterError,.cls cd_CasterError,sl_CasterError⟩)
 {N_CasterError : Addr} (cN_CasterError : cd_CasterError.ns = N_CasterError) {noc_CasterError : Value} {nod_CasterError : Option Addr} {nes_CasterError : Array DictEntry} {nn_CasterError : Nat} {nsl_CasterError : Array (Option Value)} (ln_CasterError : K.lookup N_CasterError = some ⟨noc_CasterError,nod_CasterError,.dict nes_CasterError nn_CasterError,nsl_CasterError⟩)
 (le_CasterError : (nes_CasterError.toList.all fun e=>match e.key with | .str _ _=>true | _=>false) = true) (ni_CasterError : PySem.W.nsIn K N_CasterError "__init__" = some none)
 {k0_CasterError k1_CasterError k2_CasterError k3_CasterError k5_CasterError : Option Value} (cs_CasterError : sl_CasterError.toList = [k0_CasterError,k1_CasterError,k2_CasterError,k3_CasterError,some (.builtin "ValueError.__new__"),k5_CasterError]) (cm_CasterError : cd_CasterError.mro = .ref c_CasterError :: bmV) (ch_CasterError : cd_CasterError.hasDel = false)
 (q1_CasterError : PySem.W.findIn K (.ref c_CasterError) "__getattribute__" = some (some (.builtin "BaseException.__getattribute__"))) (q2_CasterError : PySem.W.findIn K (.ref c_CasterError) "__getattr__" = some none) (q3_CasterError : PySem.W.mroIn K c_CasterError (.type "BaseException") = some true) (q4_CasterError : PySem.W.mroIn K c_CasterError (.type "object") = some true) (q5_CasterError : PySem.W.findIn K (.ref c_CasterError) "__class__" = some (some (.builtin "object.__class__"))) (q6_CasterError : PySem.W.hasDictIn K c_CasterError = true) (q7_CasterError : PySem.W.keepIn K (.ref c_CasterError) = true) (q8_CasterError : PySem.W.typeIn K (.ref c_CasterError) = some (.type "type")) (q9_CasterError : PySem.W.mroIn K c_CasterError (.type "ValueError") = some true)
 {fi_NoCase : Addr} (cn_NoCase : PySem.W.findIn K (.ref c_NoCase) "__init__" = some (some (.ref fi_NoCase)))
 {iod_NoCase ian_NoCase : Option Addr} {isl_NoCase : Array (Option Value)} {ioc_NoCase ikV_NoCase idc_NoCase ipm_NoCase icd_NoCase ict_NoCase : Value}
 (cl_NoCase : K.lookup fi_NoCase = some ⟨ioc_NoCase,iod_NoCase,.func (PySem.W.fnOf "__init__" "NoCase.__init__" (zak s_init_NoCase) (zaj s_init_NoCase) (zab s_init_NoCase) .none ikV_NoCase idc_NoCase ipm_NoCase ian_NoCase icd_NoCase ict_NoCase),isl_NoCase⟩) (cc_NoCase : PySem.W.codeIn K icd_NoCase "NoCase.__init__" = true) (ck_NoCase : PySem.W.keepIn K (.ref fi_NoCase) = true)
 {od_NoCase : Option Addr} {cd_NoCase : ClassData} {sl_NoCase : Array (Option Value)} (lk_NoCase : K.lookup c_NoCase = some ⟨.type "type",od_NoCase,.cls cd_NoCase,sl_NoCase⟩)
 {N_NoCase : Addr} (cN_NoCase : cd_NoCase.ns = N_NoCase) {noc_NoCase : Value} {nod_NoCase : Option Addr} {nes_NoCase : Array DictEntry} {nn_NoCase : Nat} {nsl_NoCase : Array (Option Value)} (ln_NoCase : K.lookup N_NoCase = some ⟨noc_NoCase,nod_NoCase,.dict nes_NoCase nn_NoCase,nsl_NoCase⟩)
 (le_NoCase : (nes_NoCase.toList.all fun e=>match e.key with | .str _ _=>true | _=>false) = true) (ni_NoCase : PySem.W.nsIn K N_NoCase "__init__" = some (some (.ref fi_NoCase)))
 {k0_NoCase k1_NoCase k2_NoCase k3_NoCase k5_NoCase : Option Value} (cs_NoCase : sl_NoCase.toList = [k0_NoCase,k1_NoCase,k2_NoCase,k3_NoCase,some (.builtin "ValueError.__new__"),k5_NoCase]) (cm_NoCase : cd_NoCase.mro = .ref c_NoCase :: .ref c_CasterError :: bmV) (ch_NoCase : cd_NoCase.hasDel = false)
 (q1_NoCase : PySem.W.findIn K (.ref c_NoCase) "__getattribute__" = some (some (.builtin "BaseException.__getattribute__"))) (q2_NoCase : PySem.W.findIn K (.ref c_NoCase) "__getattr__" = some none) (q3_NoCase : PySem.W.mroIn K c_NoCase (.type "BaseException") = some true) (q4_NoCase : PySem.W.mroIn K c_NoCase (.type "object") = some true) (q5_NoCase : PySem.W.findIn K (.ref c_NoCase) "__class__" = some (some (.builtin "object.__class__"))) (q6_NoCase : PySem.W.hasDictIn K c_NoCase = true) (q7_NoCase : PySem.W.keepIn K (.ref c_NoCase) = true) (q8_NoCase : PySem.W.typeIn K (.ref c_NoCase) = some (.type "type")) (q9_NoCase : PySem.W.mroIn K c_NoCase (.type "ValueError") = some true)
 (w1_NoCase : cd_NoCase.hasDict = true) (w2_NoCase : PySem.W.findIn K (.ref c_NoCase) "__setattr__" = some (some (.builtin "object.__setattr__"))) (w3_NoCase : PySem.W.findIn K (.ref c_NoCase) "at" = some none) (w4_NoCase : PySem.W.isFn K (.ref fi_NoCase) = true)
 {fi_NoKeys : Addr} (cn_NoKeys : PySem.W.findIn K (.ref c_NoKeys) "__init__" = some (some (.ref fi_NoKeys)))
 {iod_NoKeys ian_NoKeys : Option Addr} {isl_NoKeys : Array (Option Value)} {ioc_NoKeys ikV_NoKeys idc_NoKeys ipm_NoKeys icd_NoKeys ict_NoKeys : Value}
 (cl_NoKeys : K.lookup fi_NoKeys = some ⟨ioc_NoKeys,iod_NoKeys,.func (PySem.W.fnOf "__init__" "NoKeys.__init__" (zak s_init_NoKeys) (zaj s_init_NoKeys) (zab s_init_NoKeys) .none ikV_NoKeys idc_NoKeys ipm_NoKeys ian_NoKeys icd_NoKeys ict_NoKeys),isl_NoKeys⟩) (cc_NoKeys : PySem.W.codeIn K icd_NoKeys "NoKeys.__init__" = true) (ck_NoKeys : PySem.W.keepIn K (.ref fi_NoKeys) = true)
 {od_NoKeys : Option Addr} {cd_NoKeys : ClassData} {sl_NoKeys : Array (Option Value)} (lk_NoKeys : K.lookup c_NoKeys = some ⟨.type "type",od_NoKeys,.cls cd_NoKeys,sl_NoKeys⟩)
 {N_NoKeys : Addr} (cN_NoKeys : cd_NoKeys.ns = N_NoKeys) {noc_NoKeys : Value} {nod_NoKeys : Option Addr} {nes_NoKeys : Array DictEntry} {nn_NoKeys : Nat} {nsl_NoKeys : Array (Option Value)} (ln_NoKeys : K.lookup N_NoKeys = some ⟨noc_NoKeys,nod_NoKeys,.dict nes_NoKeys nn_NoKeys,nsl_NoKeys⟩)
 (le_NoKeys : (nes_NoKeys.toList.all fun e=>match e.key with | .str _ _=>true | _=>false) = true) (ni_NoKeys : PySem.W.nsIn K N_NoKeys "__init__" = some (some (.ref fi_NoKeys)))
 {k0_NoKeys k1_NoKeys k2_NoKeys k3_NoKeys k5_NoKeys : Option Value} (cs_NoKeys : sl_NoKeys.toList = [k0_NoKeys,k1_NoKeys,k2_NoKeys,k3_NoKeys,some (.builtin "ValueError.__new__"),k5_NoKeys]) (cm_NoKeys : cd_NoKeys.mro = .ref c_NoKeys :: .ref c_CasterError :: bmV) (ch_NoKeys : cd_NoKeys.hasDel = false)
 (q1_NoKeys : PySem.W.findIn K (.ref c_NoKeys) "__getattribute__" = some (some (.builtin "BaseException.__getattribute__"))) (q2_NoKeys : PySem.W.findIn K (.ref c_NoKeys) "__getattr__" = some none) (q3_NoKeys : PySem.W.mroIn K c_NoKeys (.type "BaseException") = some true) (q4_NoKeys : PySem.W.mroIn K c_NoKeys (.type "object") = some true) (q5_NoKeys : PySem.W.findIn K (.ref c_NoKeys) "__class__" = some (some (.builtin "object.__class__"))) (q6_NoKeys : PySem.W.hasDictIn K c_NoKeys = true) (q7_NoKeys : PySem.W.keepIn K (.ref c_NoKeys) = true) (q8_NoKeys : PySem.W.typeIn K (.ref c_NoKeys) = some (.type "type")) (q9_NoKeys : PySem.W.mroIn K c_NoKeys (.type "ValueError") = some true)
 (w1_NoKeys : cd_NoKeys.hasDict = true) (w2_NoKeys : PySem.W.findIn K (.ref c_NoKeys) "__setattr__" = some (some (.builtin "object.__setattr__"))) (w3_NoKeys : PySem.W.findIn K (.ref c_NoKeys) "at" = some none) (w4_NoKeys : PySem.W.isFn K (.ref fi_NoKeys) = true)
 (b1 : PySem.W.readsIn K c_CasterError (.type "type") = true) (b2 : PySem.W.findCls K (.ref c_CasterError) (.type "type") "__init__" = some (.val (.builtin "ValueError.__init__"))) (b3 : PySem.W.specialIn K (.ref c_CasterError) "__getattribute__" = some (some (.builtin "type.__getattribute__")))
 (m_NoCase_CasterError : PySem.W.mroIn K c_NoCase (.ref c_CasterError) = some true)
 (m_NoCase_NoCase : PySem.W.mroIn K c_NoCase (.ref c_NoCase) = some true)
 (m_NoCase_NoKeys : PySem.W.mroIn K c_NoCase (.ref c_NoKeys) = some false)
 (m_NoKeys_CasterError : PySem.W.mroIn K c_NoKeys (.ref c_CasterError) = some true)
 (m_NoKeys_NoCase : PySem.W.mroIn K c_NoKeys (.ref c_NoCase) = some false)
 (m_NoKeys_NoKeys : PySem.W.mroIn K c_NoKeys (.ref c_NoKeys) = some true)
 {t_GAP_KEY : Tok} (y_GAP_KEY : PySem.W.nsIn K mainGlobals "GAP_KEY" = some (some (.str " " t_GAP_KEY)))
 {t_SEND_KEY : Tok} (y_SEND_KEY : PySem.W.nsIn K mainGlobals "SEND_KEY" = some (some (.str "/" t_SEND_KEY)))
 {t_WEDGE : Tok} (y_WEDGE : PySem.W.nsIn K mainGlobals "WEDGE" = some (some (.str " " t_WEDGE)))
 (z_ValueError : PySem.W.nsIn K mainGlobals "ValueError" = some none)
 (z_enumerate : PySem.W.nsIn K mainGlobals "enumerate" = some none)
 (z_int : PySem.W.nsIn K mainGlobals "int" = some none)
 (z_isinstance : PySem.W.nsIn K mainGlobals "isinstance" = some none)
 (z_len : PySem.W.nsIn K mainGlobals "len" = some none)
 (z_list : PySem.W.nsIn K mainGlobals "list" = some none)
 (z_range : PySem.W.nsIn K mainGlobals "range" = some none)
 (z_sorted : PySem.W.nsIn K mainGlobals "sorted" = some none)
 (z_zip : PySem.W.nsIn K mainGlobals "zip" = some none)
 : ∃ a : Ad,Tx K mg a:=by
 have D0 : D K mg "_wall" s_wall ["k"] f0 _:=⟨zat l0 c0 k0,ba1 (fun _=>rfl),PySem.W.mg_of X G a0⟩
 have D1 : D K mg "has_all" s_has_all ["teeth","others"] f1 _:=⟨zat l1 c1 k1,ba2 (fun _ _=>rfl),PySem.W.mg_of X G a1⟩
 have D2 : D K mg "falls_at" s_falls_at ["codes","teeth"] f2 _:=⟨zat l2 c2 k2,ba2 (fun _ _=>rfl),PySem.W.mg_of X G a2⟩
 have D3 : D K mg "channel_of" s_channel_of ["case","sign"] f3 _:=⟨zat l3 c3 k3,ba2 (fun _ _=>rfl),PySem.W.mg_of X G a3⟩
 have D4 : D K mg "codes_of" s_codes_of_ ["case"] f4 _:=⟨zat l4 c4 k4,ba1 (fun _=>rfl),PySem.W.mg_of X G a4⟩
 have D5 : D K mg "is_sign_key" s_is_sign_key ["key"] f5 _:=⟨zat l5 c5 k5,ba1 (fun _=>rfl),PySem.W.mg_of X G a5⟩
 have D6 : D K mg "goes_on" s_goes_on ["case","keys","at"] f6 _:=⟨zat l6 c6 k6,ba3 (fun _ _ _=>rfl),PySem.W.mg_of X G a6⟩
 have D7 : D K mg "look_at_keys" s_look_at_keys ["case","keys"] f7 _:=⟨zat l7 c7 k7,ba2 (fun _ _=>rfl),PySem.W.mg_of X G a7⟩
 have D8 : D K mg "lines_of" s_lines_of ["case","keys"] f8 _:=⟨zat l8 c8 k8,ba2 (fun _ _=>rfl),PySem.W.mg_of X G a8⟩
 have D9 : D K mg "can_break" s_can_break ["case","ahead","channel","teeth"] f9 _:=⟨zat l9 c9 k9,ba4 (fun _ _ _ _=>rfl),PySem.W.mg_of X G a9⟩
 have D10 : D K mg "channels_of" s_channels_of ["case","broken"] f10 _:=⟨zat l10 c10 k10,ba2 (fun _ _=>rfl),PySem.W.mg_of X G a10⟩
 have D11 : D K mg "free_case" s_free_case ["case","keys"] f11 _:=⟨zat l11 c11 k11,ba2 (fun _ _=>rfl),PySem.W.mg_of X G a11⟩
 have D12 : D K mg "numbers_out" s_numbers_out ["free","machine"] f12 _:=⟨zat l12 c12 k12,ba2 (fun _ _=>rfl),PySem.W.mg_of X G a12⟩
 have D13 : D K mg "needs_and_peaks" s_needs_and_peaks ["case","keys","casting"] f13 _:=⟨zat l13 c13 k13,ba3 (fun _ _ _=>rfl),PySem.W.mg_of X G a13⟩
 have D14 : D K mg "need_of" s_need_of ["case","keys","casting"] f14 _:=⟨zat l14 c14 k14,ba3 (fun _ _ _=>rfl),PySem.W.mg_of X G a14⟩
 have D15 : D K mg "peaks_of" s_peaks_of ["case","keys","casting"] f15 _:=⟨zat l15 c15 k15,ba3 (fun _ _ _=>rfl),PySem.W.mg_of X G a15⟩
 have D16 : D K mg "_law_cell_at" s_law_cell_at ["_law_script","_law_k"] f16 _:=⟨zat l16 c16 k16,ba2 (fun _ _=>rfl),PySem.W.mg_of X G a16⟩
 have D17 : D K mg "_law_mixed" s_law_mixed ["_law_cell","_law_k"] f17 _:=⟨zat l17 c17 k17,ba2 (fun _ _=>rfl),PySem.W.mg_of X G a17⟩
 have D18 : D K mg "_law_bits" s_law_bits ["_law_one"] f18 _:=⟨zat l18 c18 k18,ba1 (fun _=>rfl),PySem.W.mg_of X G a18⟩
 have D19 : D K mg "_law_teeth" s_law_teeth ["_law_number","_law_many"] f19 _:=⟨zat l19 c19 k19,ba2 (fun _ _=>rfl),PySem.W.mg_of X G a19⟩
 have D20 : D K mg "_law_case" s_law_case ["_law_script","_law_most"] f20 _:=⟨zat l20 c20 k20,ba2 (fun _ _=>rfl),PySem.W.mg_of X G a20⟩
 have D21 : D K mg "_law_lines" s_law_lines ["_law_cells","_law_case_here"] f21 _:=⟨zat l21 c21 k21,ba2 (fun _ _=>rfl),PySem.W.mg_of X G a21⟩
 have D22 : D K mg "_law_keys" s_law_keys ["_law_lines_here"] f22 _:=⟨zat l22 c22 k22,ba1 (fun _=>rfl),PySem.W.mg_of X G a22⟩
 have D23 : D K mg "_law_spoilt" s_law_spoilt ["_law_keys_here","_law_number","_law_case_here"] f23 _:=⟨zat l23 c23 k23,ba3 (fun _ _ _=>rfl),PySem.W.mg_of X G a23⟩
 have D24 : D K mg "_law_refused" s_law_refused ["_law_e"] f24 _:=⟨zat l24 c24 k24,ba1 (fun _=>rfl),PySem.W.mg_of X G a24⟩
 have D25 : D K mg "_law_due" s_law_due ["_law_case_here","_law_keys_here"] f25 _:=⟨zat l25 c25 k25,ba2 (fun _ _=>rfl),PySem.W.mg_of X G a25⟩
 have D26 : D K mg "_law_told" s_law_told ["_law_case_here","_law_keys_here","_law_way"] f26 _:=⟨zat l26 c26 k26,ba3 (fun _ _ _=>rfl),PySem.W.mg_of X G a26⟩
 have D27 : D K mg "law" s_law ["_law_script"] f27 _:=⟨zat l27 c27 k27,ba1 (fun _=>rfl),PySem.W.mg_of X G a27⟩
 have M_Machine_init : DI K mg "Machine" "Machine.__init__" s_Machine_init ["self","case","keys","casting","broken"] c_Machine f_Machine_init _:=⟨PySem.W.mg_of X G ca_Machine,⟨pg_Machine,hd_Machine,po_Machine,sa_Machine⟩,⟨mk_Machine,a_Machine_init,i_Machine_init,kc_Machine⟩,⟨⟨_,_,_,_,_,_,_,_,_,_,rfl,l_Machine_init,c_Machine_init⟩,k_Machine_init⟩,fun s us XX hl=>bd5 (fun _ _ _ _ _=>BindsTo.of_defaults rfl (XX _ _ t_Machine_init) rfl rfl rfl) us (zkL hl),fun s us XX hl=>bd4 (fun _ _ _ _=>BindsTo.of_defaults rfl (XX _ _ t_Machine_init) rfl rfl rfl) us (zkL hl)⟩
 have M_Machine_next_key : DM K "next_key" "Machine.next_key" s_Machine_next_key ["self"] c_Machine f_Machine_next_key _:=⟨zat l_Machine_next_key c_Machine_next_key k_Machine_next_key,ba1 (fun _=>rfl),⟨a_Machine_next_key,i_Machine_next_key,k_Machine_next_key⟩⟩
 have M_Machine_lacks_matrix : DM K "lacks_matrix" "Machine.lacks_matrix" s_Machine_lacks_matrix ["self"] c_Machine f_Machine_lacks_matrix _:=⟨zat l_Machine_lacks_matrix c_Machine_lacks_matrix k_Machine_lacks_matrix,ba1 (fun _=>rfl),⟨a_Machine_lacks_matrix,i_Machine_lacks_matrix,k_Machine_lacks_matrix⟩⟩
 have M_Machine_stuck : DM K "stuck" "Machine.stuck" s_Machine_stuck ["self"] c_Machine f_Machine_stuck _:=⟨zat l_Machine_stuck c_Machine_stuck k_Machine_stuck,ba1 (fun _=>rfl),⟨a_Machine_stuck,i_Machine_stuck,k_Machine_stuck⟩⟩
 have M_Machine_resting : DM K "resting" "Machine.resting" s_Machine_resting ["self"] c_Machine f_Machine_resting _:=⟨zat l_Machine_resting c_Machine_resting k_Machine_resting,ba1 (fun _=>rfl),⟨a_Machine_resting,i_Machine_resting,k_Machine_resting⟩⟩
 have M_Machine_move_bar : DM K "move_bar" "Machine.move_bar" s_Machine_move_bar ["self"] c_Machine f_Machine_move_bar _:=⟨zat l_Machine_move_bar c_Machine_move_bar k_Machine_move_bar,ba1 (fun _=>rfl),⟨a_Machine_move_bar,i_Machine_move_bar,k_Machine_move_bar⟩⟩
 have M_Machine_move_caster : DM K "move_caster" "Machine.move_caster" s_Machine_move_caster ["self"] c_Machine f_Machine_move_caster _:=⟨zat l_Machine_move_caster c_Machine_move_caster k_Machine_move_caster,ba1 (fun _=>rfl),⟨a_Machine_move_caster,i_Machine_move_caster,k_Machine_move_caster⟩⟩
 have M_Machine_move_line : DM K "move_line" "Machine.move_line" s_Machine_move_line ["self"] c_Machine f_Machine_move_line _:=⟨zat l_Machine_move_line c_Machine_move_line k_Machine_move_line,ba1 (fun _=>rfl),⟨a_Machine_move_line,i_Machine_move_line,k_Machine_move_line⟩⟩
 have M_Machine_send_line : DM K "send_line" "Machine.send_line" s_Machine_send_line ["self"] c_Machine f_Machine_send_line _:=⟨zat l_Machine_send_line c_Machine_send_line k_Machine_send_line,ba1 (fun _=>rfl),⟨a_Machine_send_line,i_Machine_send_line,k_Machine_send_line⟩⟩
 have M_Machine_take : DM K "take" "Machine.take" s_Machine_take ["self","part"] c_Machine f_Machine_take _:=⟨zat l_Machine_take c_Machine_take k_Machine_take,ba2 (fun _ _=>rfl),⟨a_Machine_take,i_Machine_take,k_Machine_take⟩⟩
 have M_Machine_tick : DM K "tick" "Machine.tick" s_Machine_tick ["self"] c_Machine f_Machine_tick _:=⟨zat l_Machine_tick c_Machine_tick k_Machine_tick,ba1 (fun _=>rfl),⟨a_Machine_tick,i_Machine_tick,k_Machine_tick⟩⟩
 have M_Machine_ticks : DM K "ticks" "Machine.ticks" s_Machine_ticks ["self"] c_Machine f_Machine_ticks _:=⟨zat l_Machine_ticks c_Machine_ticks k_Machine_ticks,ba1 (fun _=>rfl),⟨a_Machine_ticks,i_Machine_ticks,k_Machine_ticks⟩⟩
 have M_Machine_channels : DM K "channels" "Machine.channels" s_Machine_channels ["self"] c_Machine f_Machine_channels _:=⟨zat l_Machine_channels c_Machine_channels k_Machine_channels,ba1 (fun _=>rfl),⟨a_Machine_channels,i_Machine_channels,k_Machine_channels⟩⟩
 have M_Machine_numbers_lying : DM K "numbers_lying" "Machine.numbers_lying" s_Machine_numbers_lying ["self"] c_Machine f_Machine_numbers_lying _:=⟨zat l_Machine_numbers_lying c_Machine_numbers_lying k_Machine_numbers_lying,ba1 (fun _=>rfl),⟨a_Machine_numbers_lying,i_Machine_numbers_lying,k_Machine_numbers_lying⟩⟩
 have F_CasterError : NsF K cd_CasterError.ns none:=by rw [cN_CasterError]; exact ⟨⟨_,_,_,_,_,ln_CasterError,by rw [<- Array.all_toList]; exact le_CasterError⟩,ni_CasterError⟩
 have F_NoCase : NsF K cd_NoCase.ns (some fi_NoCase):=by rw [cN_NoCase]; exact ⟨⟨_,_,_,_,_,ln_NoCase,by rw [<- Array.all_toList]; exact le_NoCase⟩,ni_NoCase⟩
 have F_NoKeys : NsF K cd_NoKeys.ns (some fi_NoKeys):=by rw [cN_NoKeys]; exact ⟨⟨_,_,_,_,_,ln_NoKeys,by rw [<- Array.all_toList]; exact le_NoKeys⟩,ni_NoKeys⟩
 have TL : PySem.W.tailIn K bmV (.ref c_CasterError :: bmV) = true:=znI lk_CasterError F_CasterError
 have X_CasterError:=zhL lk_CasterError cm_CasterError cs_CasterError ch_CasterError (by unfold PySem.W.tailIn; rw [Bool.or_eq_true]; exact .inl (beq_self_eq_true _)) F_CasterError
 have Q_CasterError:=zmZ (znf q1_CasterError q2_CasterError q3_CasterError q4_CasterError q5_CasterError q6_CasterError q7_CasterError q8_CasterError q9_CasterError)
 have E_CasterError : CN K mg "CasterError" c_CasterError:=⟨PySem.W.mg_of X G ca_CasterError,X_CasterError,Q_CasterError⟩
 have X_NoCase:=zhL lk_NoCase cm_NoCase cs_NoCase ch_NoCase TL F_NoCase
 have Q_NoCase:=zmZ (znf q1_NoCase q2_NoCase q3_NoCase q4_NoCase q5_NoCase q6_NoCase q7_NoCase q8_NoCase q9_NoCase)
 have W_NoCase:=zpp (zox (f:=fi_NoCase) lk_NoCase (by rw [cm_NoCase]; rfl) w1_NoCase w2_NoCase w3_NoCase w4_NoCase)
 have E_NoCase : CI K mg "NoCase" "NoCase.__init__" s_init_NoCase ["self","at"] c_NoCase fi_NoCase _ "at":=⟨PySem.W.mg_of X G ca_NoCase,X_NoCase,Q_NoCase,W_NoCase.1,W_NoCase.2,zat cl_NoCase cc_NoCase ck_NoCase,fun us hl=>match us,hl with | [_,_],_=>rfl⟩
 have X_NoKeys:=zhL lk_NoKeys cm_NoKeys cs_NoKeys ch_NoKeys TL F_NoKeys
 have Q_NoKeys:=zmZ (znf q1_NoKeys q2_NoKeys q3_NoKeys q4_NoKeys q5_NoKeys q6_NoKeys q7_NoKeys q8_NoKeys q9_NoKeys)
 have W_NoKeys:=zpp (zox (f:=fi_NoKeys) lk_NoKeys (by rw [cm_NoKeys]; rfl) w1_NoKeys w2_NoKeys w3_NoKeys w4_NoKeys)
 have E_NoKeys : CI K mg "NoKeys" "NoKeys.__init__" s_init_NoKeys ["self","at"] c_NoKeys fi_NoKeys _ "at":=⟨PySem.W.mg_of X G ca_NoKeys,X_NoKeys,Q_NoKeys,W_NoKeys.1,W_NoKeys.2,zat cl_NoKeys cc_NoKeys ck_NoKeys,fun us hl=>match us,hl with | [_,_],_=>rfl⟩
 exact ⟨⟨f0,_,f1,_,f2,_,f3,_,f4,_,f5,_,f6,_,f7,_,f8,_,f9,_,f10,_,f11,_,f12,_,f13,_,f14,_,f15,_,f16,_,f17,_,f18,_,f19,_,f20,_,f21,_,f22,_,f23,_,f24,_,f25,_,f26,_,f27,_,c_Machine,f_Machine_init,_,f_Machine_next_key,_,f_Machine_lacks_matrix,_,f_Machine_stuck,_,f_Machine_resting,_,f_Machine_move_bar,_,f_Machine_move_caster,_,f_Machine_move_line,_,f_Machine_send_line,_,f_Machine_take,_,f_Machine_tick,_,f_Machine_ticks,_,f_Machine_channels,_,f_Machine_numbers_lying,_,c_CasterError,c_NoCase,fi_NoCase,_,c_NoKeys,fi_NoKeys,_,t_GAP_KEY,t_SEND_KEY,t_WEDGE⟩,⟨D0,D1,D2,D3,D4,D5,D6,D7,D8,D9,D10,D11,D12,D13,D14,D15,D16,D17,D18,D19,D20,D21,D22,D23,D24,D25,D26,D27,M_Machine_init,M_Machine_next_key,M_Machine_lacks_matrix,M_Machine_stuck,M_Machine_resting,M_Machine_move_bar,M_Machine_move_caster,M_Machine_move_line,M_Machine_send_line,M_Machine_take,M_Machine_tick,M_Machine_ticks,M_Machine_channels,M_Machine_numbers_lying,n_Machine_lying,n_Machine_case,n_Machine_played,n_Machine_struck,n_Machine_casting,n_Machine_line,n_Machine_heated,n_Machine_to_go,n_Machine_hanging,n_Machine_texts,n_Machine_done,n_Machine_waits,E_CasterError,E_NoCase,E_NoKeys,⟨b1,b2,b3⟩,m_NoCase_CasterError,m_NoCase_NoCase,m_NoCase_NoKeys,m_NoKeys_CasterError,m_NoKeys_NoCase,m_NoKeys_NoKeys,PySem.W.mg_of X G y_GAP_KEY,PySem.W.mg_of X G y_SEND_KEY,PySem.W.mg_of X G y_WEDGE,PySem.W.mg_none_of X G z_ValueError,PySem.W.mg_none_of X G z_enumerate,PySem.W.mg_none_of X G z_int,PySem.W.mg_none_of X G z_isinstance,PySem.W.mg_none_of X G z_len,PySem.W.mg_none_of X G z_list,PySem.W.mg_none_of X G z_range,PySem.W.mg_none_of X G z_sorted,PySem.W.mg_none_of X G z_zip⟩⟩
section
open PySem.W PyProof.Rows
open Hd (qr qi qs qt qb qe qF qG qT qN qf qg qC HD)
noncomputable def h_3 (P : Params) : Obj:=⟨(qt "dict"),.none,(.dict #[qe P "__name__" 165 (qs "law_linecaster_k49_needs_refused" 593),qe P "__doc__" 166 .none,qe P "__package__" 167 .none,qe P "__loader__" 168 (qb "__main__.__loader__#opaque"),qe P "__spec__" 169 .none,qe P "__annotations__" 170 (qr 6),qe P "__builtins__" 171 (qr 4),qe P "__file__" 173 (qs "/claim/cut.py" 172),qe P "__cached__" 174 .none,qe P "_wall" 193 (qr 21),qe P "CasterError" 213 (qr 31),qe P "NoCase" 238 (qr 51),qe P "NoKeys" 263 (qr 70),qe P "has_all" 273 (qr 79),qe P "falls_at" 283 (qr 86),qe P "channel_of" 295 (qr 93),qe P "codes_of" 301 (qr 98),qe P "GAP_KEY" 305 (qs " " 304),qe P "SEND_KEY" 307 (qs "/" 306),qe P "is_sign_key" 314 (qr 105),qe P "goes_on" 323 (qr 112),qe P "look_at_keys" 332 (qr 119),qe P "lines_of" 338 (qr 124),qe P "can_break" 354 (qr 131),qe P "channels_of" 360 (qr 136),qe P "WEDGE" 364 (qs " " 363),qe P "Machine" 541 (qr 281),qe P "free_case" 549 (qr 290),qe P "numbers_out" 555 (qr 295),qe P "needs_and_peaks" 570 (qr 302),qe P "need_of" 581 (qr 309),qe P "peaks_of" 592 (qr 316),qe P "_law_cell_at" 602 (qr 323),qe P "_law_mixed" 610 (qr 330),qe P "_law_bits" 618 (qr 337),qe P "_law_teeth" 624 (qr 342),qe P "_law_case" 639 (qr 349),qe P "_law_lines" 645 (qr 354),qe P "_law_keys" 651 (qr 359),qe P "_law_spoilt" 665 (qr 366),qe P "_law_refused" 672 (qr 373),qe P "_law_due" 681 (qr 380),qe P "_law_told" 692 (qr 387),qe P "law" 706 (qr 394)] 44),#[]⟩
noncomputable def h_11 : Obj:=qT []
noncomputable def h_12 : Obj:=qN [(qi 1),(qi 0),(qr 20),(qi 5),(qi 0),(qr 27),(qi 7),(qi 0),(qr 40),(qi 12),(qi 0),(qr 59),(qi 18),(qi 0),(qr 78),(qi 20),(qi 0),(qr 85),(qi 26),(qi 0),(qr 92),(qi 31),(qi 0),(qr 97),(qi 36),(qi 0),(qr 104),(qi 38),(qi 0),(qr 111),(qi 42),(qi 0),(qr 118),(qi 48),(qi 0),(qr 123),(qi 52),(qi 0),(qr 130),(qi 57),(qi 0),(qr 135),(qi 70),(qi 0),(qr 142),(qi 172),(qi 0),(qr 289),(qi 174),(qi 0),(qr 294),(qi 176),(qi 0),(qr 301),(qi 187),(qi 0),(qr 308),(qi 190),(qi 0),(qr 315),(qi 194),(qi 0),(qr 322),(qi 198),(qi 0),(qr 329),(qi 200),(qi 0),(qr 336),(qi 206),(qi 0),(qr 341),(qi 215),(qi 0),(qr 348),(qi 225),(qi 0),(qr 353),(qi 237),(qi 0),(qr 358),(qi 239),(qi 0),(qr 365),(qi 250),(qi 0),(qr 372),(qi 254),(qi 0),(qr 379),(qi 260),(qi 0),(qr 386),(qi 266),(qi 0),(qr 393)]
noncomputable def h_13 : Obj:=qC "<module>" "<module>" 182 1 0 0 0 0 11 false 12 .none .none .none .none 185 186
noncomputable def h_14 : Obj:=⟨(qt "frame"),.none,.plain,#[(.some (qr 13)),(.some (qr 3)),(.some (qr 3)),.none,(.some (qs "__main__" 164)),.none,(.some (qr 0))]⟩
noncomputable def h_15 : Obj:=qT []
noncomputable def h_16 : Obj:=qN []
noncomputable def h_17 : Obj:=qT [(qs "k" 190)]
noncomputable def h_18 : Obj:=qT []
noncomputable def h_19 : Obj:=qg "_wall" "_wall" (top 0)
noncomputable def h_20 : Obj:=qC "_wall" "_wall" 187 1 1 0 0 3 15 true 16 .none (qr 17) (qr 18) (qr 19) 191 192
noncomputable def h_21 : Obj:=qf "_wall" "_wall" (top 0) (qs "__main__" 164) (qr 20)
noncomputable def h_22 : Obj:=qT [(qt "ValueError")]
noncomputable def h_23 : Obj:=⟨(qt "builtin_function_or_method"),.none,(.fields #[(qb "type.__prepare__"),(qt "type")]),#[]⟩
noncomputable def h_24 (P : Params) : Obj:=⟨(qt "dict"),.none,(.dict #[qe P "__module__" 203 (qs "linecaster.errors" 194),qe P "__qualname__" 205 (qs "CasterError" 204),qe P "__firstlineno__" 207 (.int (5) 206),qe P "__static_attributes__" 208 (qr 29)] 4),#[]⟩
noncomputable def h_25 : Obj:=qT []
noncomputable def h_26 : Obj:=qN []
noncomputable def h_27 : Obj:=qC "CasterError" "CasterError" 198 5 0 0 0 0 25 false 26 .none .none .none .none 201 202
noncomputable def h_28 : Obj:=⟨(qt "frame"),.none,.plain,#[(.some (qr 27)),(.some (qr 3)),(.some (qr 24)),.none,(.some (qs "linecaster.errors" 194)),.none,(.some (qr 0))]⟩
noncomputable def h_29 : Obj:=qT []
noncomputable def h_30 (P : Params) : Obj:=⟨(qt "dict"),.none,(.dict #[qe P "__module__" 203 (qs "linecaster.errors" 194),qe P "__firstlineno__" 207 (.int (5) 206),qe P "__static_attributes__" 208 (qr 29),qe P "__weakref__" 210 (qr 32),qe P "__doc__" 211 .none] 3),#[]⟩
noncomputable def h_31 : Obj:=⟨(qt "type"),.none,(.cls ⟨(.ofString "CasterError"),[(qt "ValueError")],[(qr 31),(qt "ValueError"),(qt "Exception"),(qt "BaseException"),(qt "object")],30,(.ofString "CasterError"),true,[],[(qr 51),(qr 70)],false,.none,false⟩),#[(.some (qr 22)),.none,(.some (qs "CasterError" 196)),(.some (qs "CasterError" 204)),(.some (qb "ValueError.__new__")),(.some (.bool true))]⟩
noncomputable def h_32 : Obj:=⟨(qt "getset_descriptor"),.none,(.fields #[(qs "__weakref__" 209),(qr 31),(qb "ExceptionGroup.__weakref__"),.none]),#[]⟩
noncomputable def h_33 : Obj:=⟨(qt "super"),.none,(.fields #[(qr 31),(qr 31),(qr 31)]),#[]⟩
noncomputable def h_34 : Obj:=⟨(qt "builtin_function_or_method"),.none,(.fields #[(qb "object.__init_subclass__"),(qr 31)]),#[]⟩
noncomputable def h_35 : Obj:=qT [(qr 31)]
noncomputable def h_36 : Obj:=⟨(qt "builtin_function_or_method"),.none,(.fields #[(qb "type.__prepare__"),(qt "type")]),#[]⟩
noncomputable def h_37 (P : Params) : Obj:=⟨(qt "dict"),.none,(.dict #[qe P "__module__" 221 (qs "linecaster.errors" 194),qe P "__qualname__" 223 (qs "NoCase" 222),qe P "__firstlineno__" 225 (.int (7) 224),qe P "__init__" 233 (qr 48),qe P "__static_attributes__" 235 (qr 49)] 5),#[]⟩
noncomputable def h_38 : Obj:=qT []
noncomputable def h_39 : Obj:=qN [(qi 9),(qi 4),(qr 47)]
noncomputable def h_40 : Obj:=qC "NoCase" "NoCase" 216 7 0 0 0 0 38 false 39 .none .none .none .none 219 220
noncomputable def h_41 : Obj:=⟨(qt "frame"),.none,.plain,#[(.some (qr 40)),(.some (qr 3)),(.some (qr 37)),.none,(.some (qs "linecaster.errors" 194)),.none,(.some (qr 0))]⟩
noncomputable def h_42 : Obj:=qT []
noncomputable def h_43 : Obj:=qN []
noncomputable def h_44 : Obj:=qT [(qs "self" 229),(qs "at" 230)]
noncomputable def h_45 : Obj:=qT []
noncomputable def h_46 : Obj:=qg "__init__" "NoCase.__init__" (zai (top 3) 0)
noncomputable def h_47 : Obj:=qC "__init__" "NoCase.__init__" 226 9 2 0 0 3 42 true 43 .none (qr 44) (qr 45) (qr 46) 231 232
noncomputable def h_48 : Obj:=qf "__init__" "NoCase.__init__" (zai (top 3) 0) (qs "linecaster.errors" 194) (qr 47)
noncomputable def h_49 : Obj:=qT [(qs "at" 234)]
noncomputable def h_50 (P : Params) : Obj:=⟨(qt "dict"),.none,(.dict #[qe P "__module__" 221 (qs "linecaster.errors" 194),qe P "__firstlineno__" 225 (.int (7) 224),qe P "__init__" 233 (qr 48),qe P "__static_attributes__" 235 (qr 49),qe P "__doc__" 236 .none] 2),#[]⟩
noncomputable def h_51 : Obj:=⟨(qt "type"),.none,(.cls ⟨(.ofString "NoCase"),[(qr 31)],[(qr 51),(qr 31),(qt "ValueError"),(qt "Exception"),(qt "BaseException"),(qt "object")],50,(.ofString "NoCase"),true,[],[],false,.none,false⟩),#[(.some (qr 35)),.none,(.some (qs "NoCase" 214)),(.some (qs "NoCase" 222)),(.some (qb "ValueError.__new__")),(.some (.bool true))]⟩
noncomputable def h_52 : Obj:=⟨(qt "super"),.none,(.fields #[(qr 51),(qr 51),(qr 51)]),#[]⟩
noncomputable def h_53 : Obj:=⟨(qt "builtin_function_or_method"),.none,(.fields #[(qb "object.__init_subclass__"),(qr 51)]),#[]⟩
noncomputable def h_54 : Obj:=qT [(qr 31)]
noncomputable def h_55 : Obj:=⟨(qt "builtin_function_or_method"),.none,(.fields #[(qb "type.__prepare__"),(qt "type")]),#[]⟩
noncomputable def h_56 (P : Params) : Obj:=⟨(qt "dict"),.none,(.dict #[qe P "__module__" 246 (qs "linecaster.errors" 194),qe P "__qualname__" 248 (qs "NoKeys" 247),qe P "__firstlineno__" 250 (.int (12) 249),qe P "__init__" 258 (qr 67),qe P "__static_attributes__" 260 (qr 68)] 5),#[]⟩
noncomputable def h_57 : Obj:=qT []
noncomputable def h_58 : Obj:=qN [(qi 14),(qi 4),(qr 66)]
noncomputable def h_59 : Obj:=qC "NoKeys" "NoKeys" 241 12 0 0 0 0 57 false 58 .none .none .none .none 244 245
noncomputable def h_60 : Obj:=⟨(qt "frame"),.none,.plain,#[(.some (qr 59)),(.some (qr 3)),(.some (qr 56)),.none,(.some (qs "linecaster.errors" 194)),.none,(.some (qr 0))]⟩
noncomputable def h_61 : Obj:=qT []
noncomputable def h_62 : Obj:=qN []
noncomputable def h_63 : Obj:=qT [(qs "self" 254),(qs "at" 255)]
noncomputable def h_64 : Obj:=qT []
noncomputable def h_65 : Obj:=qg "__init__" "NoKeys.__init__" (zai (top 4) 0)
noncomputable def h_66 : Obj:=qC "__init__" "NoKeys.__init__" 251 14 2 0 0 3 61 true 62 .none (qr 63) (qr 64) (qr 65) 256 257
noncomputable def h_67 : Obj:=qf "__init__" "NoKeys.__init__" (zai (top 4) 0) (qs "linecaster.errors" 194) (qr 66)
noncomputable def h_68 : Obj:=qT [(qs "at" 259)]
noncomputable def h_69 (P : Params) : Obj:=⟨(qt "dict"),.none,(.dict #[qe P "__module__" 246 (qs "linecaster.errors" 194),qe P "__firstlineno__" 250 (.int (12) 249),qe P "__init__" 258 (qr 67),qe P "__static_attributes__" 260 (qr 68),qe P "__doc__" 261 .none] 2),#[]⟩
noncomputable def h_70 : Obj:=⟨(qt "type"),.none,(.cls ⟨(.ofString "NoKeys"),[(qr 31)],[(qr 70),(qr 31),(qt "ValueError"),(qt "Exception"),(qt "BaseException"),(qt "object")],69,(.ofString "NoKeys"),true,[],[],false,.none,false⟩),#[(.some (qr 54)),.none,(.some (qs "NoKeys" 239)),(.some (qs "NoKeys" 247)),(.some (qb "ValueError.__new__")),(.some (.bool true))]⟩
noncomputable def h_71 : Obj:=⟨(qt "super"),.none,(.fields #[(qr 70),(qr 70),(qr 70)]),#[]⟩
noncomputable def h_72 : Obj:=⟨(qt "builtin_function_or_method"),.none,(.fields #[(qb "object.__init_subclass__"),(qr 70)]),#[]⟩
noncomputable def h_73 : Obj:=qT []
noncomputable def h_74 : Obj:=qN []
noncomputable def h_75 : Obj:=qT [(qs "teeth" 269),(qs "others" 270)]
noncomputable def h_76 : Obj:=qT []
noncomputable def h_77 : Obj:=qg "has_all" "has_all" (top 6)
noncomputable def h_78 : Obj:=qC "has_all" "has_all" 266 18 2 0 0 3 73 true 74 .none (qr 75) (qr 76) (qr 77) 271 272
noncomputable def h_79 : Obj:=qf "has_all" "has_all" (top 6) (qs "linecaster.bars" 264) (qr 78)
noncomputable def h_80 : Obj:=qT []
noncomputable def h_81 : Obj:=qN []
noncomputable def h_82 : Obj:=qT [(qs "codes" 277),(qs "teeth" 278),(qs "channel" 279),(qs "code" 280)]
noncomputable def h_83 : Obj:=qT []
noncomputable def h_84 : Obj:=qg "falls_at" "falls_at" (top 7)
noncomputable def h_85 : Obj:=qC "falls_at" "falls_at" 274 20 2 0 0 3 80 true 81 .none (qr 82) (qr 83) (qr 84) 281 282
noncomputable def h_86 : Obj:=qf "falls_at" "falls_at" (top 7) (qs "linecaster.bars" 264) (qr 85)
noncomputable def h_87 : Obj:=qT []
noncomputable def h_88 : Obj:=qN []
noncomputable def h_89 : Obj:=qT [(qs "case" 289),(qs "sign" 290),(qs "number" 291),(qs "channel" 292)]
noncomputable def h_90 : Obj:=qT []
noncomputable def h_91 : Obj:=qg "channel_of" "channel_of" (top 9)
noncomputable def h_92 : Obj:=qC "channel_of" "channel_of" 286 26 2 0 0 3 87 true 88 .none (qr 89) (qr 90) (qr 91) 293 294
noncomputable def h_93 : Obj:=qf "channel_of" "channel_of" (top 9) (qs "linecaster.cases" 284) (qr 92)
noncomputable def h_94 : Obj:=qT []
noncomputable def h_95 : Obj:=qN []
noncomputable def h_96 : Obj:=qg "codes_of" "codes_of" (top 10)
noncomputable def h_97 : Obj:=qC "codes_of" "codes_of" 296 31 1 0 0 3 94 true 95 .none .none .none (qr 96) 299 300
noncomputable def h_98 : Obj:=qf "codes_of" "codes_of" (top 10) (qs "linecaster.cases" 284) (qr 97)
noncomputable def h_99 : Obj:=qT []
noncomputable def zuC : Obj:=qN []
noncomputable def zpF : Obj:=qT [(qs "key" 311)]
noncomputable def zpN : Obj:=qT []
noncomputable def zuf : Obj:=qg "is_sign_key" "is_sign_key" (top 14)
noncomputable def zrf : Obj:=qC "is_sign_key" "is_sign_key" 308 36 1 0 0 3 99 true 100 .none (qr 101) (qr 102) (qr 103) 312 313
noncomputable def zrI : Obj:=qf "is_sign_key" "is_sign_key" (top 14) (qs "linecaster.keys" 302) (qr 104)
noncomputable def zpQ : Obj:=qT []
noncomputable def zur : Obj:=qN []
noncomputable def zqa : Obj:=qT [(qs "case" 318),(qs "keys" 319),(qs "at" 320)]
noncomputable def zrs : Obj:=qT []
noncomputable def zuA : Obj:=qg "goes_on" "goes_on" (top 15)
noncomputable def zrL : Obj:=qC "goes_on" "goes_on" 315 38 3 0 0 3 106 true 107 .none (qr 108) (qr 109) (qr 110) 321 322
noncomputable def zsh : Obj:=qf "goes_on" "goes_on" (top 15) (qs "linecaster.keys" 302) (qr 111)
noncomputable def zrG : Obj:=qT []
noncomputable def zua : Obj:=qN []
noncomputable def zps : Obj:=qT [(qs "case" 327),(qs "keys" 328),(qs "at" 329)]
noncomputable def zph : Obj:=qT []
noncomputable def zuo : Obj:=qg "look_at_keys" "look_at_keys" (top 16)
noncomputable def zro : Obj:=qC "look_at_keys" "look_at_keys" 324 42 2 0 0 3 113 true 114 .none (qr 115) (qr 116) (qr 117) 330 331
noncomputable def zqb : Obj:=qf "look_at_keys" "look_at_keys" (top 16) (qs "linecaster.keys" 302) (qr 118)
noncomputable def zoE : Obj:=qT []
noncomputable def ztT : Obj:=qN []
noncomputable def zto : Obj:=qg "lines_of" "lines_of" (top 17)
noncomputable def zrP : Obj:=qC "lines_of" "lines_of" 333 48 2 0 0 3 120 true 121 .none .none .none (qr 122) 336 337
noncomputable def zqd : Obj:=qf "lines_of" "lines_of" (top 17) (qs "linecaster.keys" 302) (qr 123)
noncomputable def zrC : Obj:=qT []
noncomputable def ztY : Obj:=qN []
noncomputable def zpT : Obj:=qT [(qs "case" 344),(qs "ahead" 345),(qs "channel" 346),(qs "teeth" 347),(qs "sign" 348),(qs "width" 349),(qs "own" 350),(qs "many" 351)]
noncomputable def zoW : Obj:=qT []
noncomputable def ztW : Obj:=qg "can_break" "can_break" (top 19)
noncomputable def zsn : Obj:=qC "can_break" "can_break" 341 52 4 0 0 3 125 true 126 .none (qr 127) (qr 128) (qr 129) 352 353
noncomputable def zrr : Obj:=qf "can_break" "can_break" (top 19) (qs "linecaster.matrices" 339) (qr 130)
noncomputable def zoF : Obj:=qT []
noncomputable def ztX : Obj:=qN []
noncomputable def zuV : Obj:=qg "channels_of" "channels_of" (top 20)
noncomputable def zow : Obj:=qC "channels_of" "channels_of" 355 57 2 0 0 3 132 true 133 .none .none .none (qr 134) 358 359
noncomputable def zpc : Obj:=qf "channels_of" "channels_of" (top 20) (qs "linecaster.matrices" 339) (qr 135)
noncomputable def zul : Obj:=qT []
noncomputable def ztI : Obj:=⟨(qt "builtin_function_or_method"),.none,(.fields #[(qb "type.__prepare__"),(qt "type")]),#[]⟩
noncomputable def ztS (P : Params) : Obj:=⟨(qt "dict"),.none,(.dict #[qe P "__module__" 372 (qs "linecaster.machine" 361),qe P "__qualname__" 374 (qs "Machine" 373),qe P "__firstlineno__" 376 (.int (70) 375),qe P "__init__" 387 (qr 151),qe P "next_key" 394 (qr 158),qe P "lacks_matrix" 402 (qr 165),qe P "stuck" 409 (qr 172),qe P "resting" 416 (qr 179),qe P "move_bar" 424 (qr 186),qe P "move_caster" 430 (qr 191),qe P "move_line" 438 (qr 198),qe P "send_line" 445 (qr 205),qe P "take" 453 (qr 212),qe P "tick" 460 (qr 219),qe P "run" 467 (qr 226),qe P "ticks" 474 (qr 233),qe P "slugs" 481 (qr 240),qe P "waited" 488 (qr 247),qe P "channels" 494 (qr 252),qe P "numbers_lying" 500 (qr 257),qe P "gathered" 507 (qr 264),qe P "in_caster" 514 (qr 271),qe P "bar" 521 (qr 278),qe P "__static_attributes__" 534 (qr 279)] 24),#[]⟩
noncomputable def zuq : Obj:=qT []
noncomputable def zvh : Obj:=qN [(qi 72),(qi 4),(qr 150),(qi 87),(qi 4),(qr 157),(qi 90),(qi 4),(qr 164),(qi 94),(qi 4),(qr 171),(qi 97),(qi 4),(qr 178),(qi 100),(qi 4),(qr 185),(qi 105),(qi 4),(qr 190),(qi 114),(qi 4),(qr 197),(qi 125),(qi 4),(qr 204),(qi 132),(qi 4),(qr 211),(qi 136),(qi 4),(qr 218),(qi 145),(qi 4),(qr 225),(qi 148),(qi 4),(qr 232),(qi 151),(qi 4),(qr 239),(qi 154),(qi 4),(qr 246),(qi 157),(qi 4),(qr 251),(qi 160),(qi 4),(qr 256),(qi 163),(qi 4),(qr 263),(qi 166),(qi 4),(qr 270),(qi 169),(qi 4),(qr 277)]
noncomputable def zsZ : Obj:=qC "Machine" "Machine" 367 70 0 0 0 0 140 false 141 .none .none .none .none 370 371
noncomputable def zuB : Obj:=⟨(qt "frame"),.none,.plain,#[(.some (qr 142)),(.some (qr 3)),(.some (qr 139)),.none,(.some (qs "linecaster.machine" 361)),.none,(.some (qr 0))]⟩
noncomputable def zrK : Obj:=qT [.none]
noncomputable def zsM : Obj:=qT []
noncomputable def zuh : Obj:=qN []
noncomputable def zsD : Obj:=qT [(qs "self" 380),(qs "case" 381),(qs "keys" 382),(qs "casting" 383),(qs "broken" 384)]
noncomputable def zpC : Obj:=qT []
noncomputable def zte : Obj:=qg "__init__" "Machine.__init__" (zai (top 23) 0)
noncomputable def zqS : Obj:=qC "__init__" "Machine.__init__" 377 72 5 0 0 3 145 true 146 .none (qr 147) (qr 148) (qr 149) 385 386
noncomputable def zpx : Obj:=⟨(qt "function"),.none,(qF "__init__" "Machine.__init__" (zai (top 23) 0) (qr 144) .none .none (qs "linecaster.machine" 361) .none (qr 150) .none),#[]⟩
noncomputable def zon : Obj:=qT []
noncomputable def zuR : Obj:=qN []
noncomputable def zpI : Obj:=qT [(qs "self" 391)]
noncomputable def zrj : Obj:=qT []
noncomputable def ztL : Obj:=qg "next_key" "Machine.next_key" (zai (top 23) 1)
noncomputable def zqx : Obj:=qC "next_key" "Machine.next_key" 388 87 1 0 0 3 152 true 153 .none (qr 154) (qr 155) (qr 156) 392 393
noncomputable def zsN : Obj:=qf "next_key" "Machine.next_key" (zai (top 23) 1) (qs "linecaster.machine" 361) (qr 157)
noncomputable def zqg : Obj:=qT []
noncomputable def zts : Obj:=qN []
noncomputable def zqB : Obj:=qT [(qs "self" 398),(qs "channel" 399)]
noncomputable def zsJ : Obj:=qT []
noncomputable def zuI : Obj:=qg "lacks_matrix" "Machine.lacks_matrix" (zai (top 23) 2)
noncomputable def zpM : Obj:=qC "lacks_matrix" "Machine.lacks_matrix" 395 90 1 0 0 3 159 true 160 .none (qr 161) (qr 162) (qr 163) 400 401
noncomputable def zsu : Obj:=qf "lacks_matrix" "Machine.lacks_matrix" (zai (top 23) 2) (qs "linecaster.machine" 361) (qr 164)
noncomputable def zsU : Obj:=qT []
noncomputable def zuE : Obj:=qN []
noncomputable def zri : Obj:=qT [(qs "self" 406)]
noncomputable def zrV : Obj:=qT []
noncomputable def ztt : Obj:=qg "stuck" "Machine.stuck" (zai (top 23) 3)
noncomputable def zoS : Obj:=qC "stuck" "Machine.stuck" 403 94 1 0 0 3 166 true 167 .none (qr 168) (qr 169) (qr 170) 407 408
noncomputable def zrU : Obj:=qf "stuck" "Machine.stuck" (zai (top 23) 3) (qs "linecaster.machine" 361) (qr 171)
noncomputable def zqz : Obj:=qT []
noncomputable def zsY : Obj:=qN []
noncomputable def zsS : Obj:=qT [(qs "self" 413)]
noncomputable def zsW : Obj:=qT []
noncomputable def zug : Obj:=qg "resting" "Machine.resting" (zai (top 23) 4)
noncomputable def zpJ : Obj:=qC "resting" "Machine.resting" 410 97 1 0 0 3 173 true 174 .none (qr 175) (qr 176) (qr 177) 414 415
noncomputable def zoA : Obj:=qf "resting" "Machine.resting" (zai (top 23) 4) (qs "linecaster.machine" 361) (qr 178)
noncomputable def zpr : Obj:=qT []
noncomputable def zvg : Obj:=qN []
noncomputable def zsR : Obj:=qT [(qs "self" 420),(qs "matrix" 421)]
noncomputable def zpL : Obj:=qT []
noncomputable def ztl : Obj:=qg "move_bar" "Machine.move_bar" (zai (top 23) 5)
noncomputable def zsz : Obj:=qC "move_bar" "Machine.move_bar" 417 100 1 0 0 3 180 true 181 .none (qr 182) (qr 183) (qr 184) 422 423
noncomputable def zqP : Obj:=qf "move_bar" "Machine.move_bar" (zai (top 23) 5) (qs "linecaster.machine" 361) (qr 185)
noncomputable def zsp : Obj:=qT []
noncomputable def zuH : Obj:=qN []
noncomputable def zta : Obj:=qg "move_caster" "Machine.move_caster" (zai (top 23) 6)
noncomputable def zpg : Obj:=qC "move_caster" "Machine.move_caster" 425 105 1 0 0 3 187 true 188 .none .none .none (qr 189) 428 429
noncomputable def zom : Obj:=qf "move_caster" "Machine.move_caster" (zai (top 23) 6) (qs "linecaster.machine" 361) (qr 190)
noncomputable def zrk : Obj:=qT []
noncomputable def zuu : Obj:=qN []
noncomputable def zqw : Obj:=qT [(qs "self" 434),(qs "key" 435)]
noncomputable def zql : Obj:=qT []
noncomputable def ztw : Obj:=qg "move_line" "Machine.move_line" (zai (top 23) 7)
noncomputable def zrb : Obj:=qC "move_line" "Machine.move_line" 431 114 1 0 0 3 192 true 193 .none (qr 194) (qr 195) (qr 196) 436 437
noncomputable def zsv : Obj:=qf "move_line" "Machine.move_line" (zai (top 23) 7) (qs "linecaster.machine" 361) (qr 197)
noncomputable def zpV : Obj:=qT []
noncomputable def ztr : Obj:=qN []
noncomputable def zrA : Obj:=qT [(qs "self" 442)]
noncomputable def zpy : Obj:=qT []
noncomputable def zvm : Obj:=qg "send_line" "Machine.send_line" (zai (top 23) 8)
noncomputable def zrg : Obj:=qC "send_line" "Machine.send_line" 439 125 1 0 0 3 199 true 200 .none (qr 201) (qr 202) (qr 203) 443 444
noncomputable def zsa : Obj:=qf "send_line" "Machine.send_line" (zai (top 23) 8) (qs "linecaster.machine" 361) (qr 204)
noncomputable def zsc : Obj:=qT []
noncomputable def zuM : Obj:=qN []
noncomputable def zqy : Obj:=qT [(qs "self" 449),(qs "part" 450)]
noncomputable def zqM : Obj:=qT []
noncomputable def zub : Obj:=qg "take" "Machine.take" (zai (top 23) 9)
noncomputable def zpl : Obj:=qC "take" "Machine.take" 446 132 2 0 0 3 206 true 207 .none (qr 208) (qr 209) (qr 210) 451 452
noncomputable def zov : Obj:=qf "take" "Machine.take" (zai (top 23) 9) (qs "linecaster.machine" 361) (qr 211)
noncomputable def zpB : Obj:=qT []
noncomputable def zus : Obj:=qN []
noncomputable def zpz : Obj:=qT [(qs "self" 457)]
noncomputable def zsI : Obj:=qT []
noncomputable def zuW : Obj:=qg "tick" "Machine.tick" (zai (top 23) 10)
noncomputable def zrp : Obj:=qC "tick" "Machine.tick" 454 136 1 0 0 3 213 true 214 .none (qr 215) (qr 216) (qr 217) 458 459
noncomputable def zqY : Obj:=qf "tick" "Machine.tick" (zai (top 23) 10) (qs "linecaster.machine" 361) (qr 218)
noncomputable def zsg : Obj:=qT []
noncomputable def zue : Obj:=qN []
noncomputable def zrZ : Obj:=qT [(qs "self" 464)]
noncomputable def zrE : Obj:=qT []
noncomputable def zuQ : Obj:=qg "run" "Machine.run" (zai (top 23) 11)
noncomputable def zra : Obj:=qC "run" "Machine.run" 461 145 1 0 0 3 220 true 221 .none (qr 222) (qr 223) (qr 224) 465 466
noncomputable def zrd : Obj:=qf "run" "Machine.run" (zai (top 23) 11) (qs "linecaster.machine" 361) (qr 225)
noncomputable def zsV : Obj:=qT []
noncomputable def ztE : Obj:=qN []
noncomputable def zrF : Obj:=qT [(qs "self" 471)]
noncomputable def zqi : Obj:=qT []
noncomputable def zuF : Obj:=qg "ticks" "Machine.ticks" (zai (top 23) 12)
noncomputable def zoH : Obj:=qC "ticks" "Machine.ticks" 468 148 1 0 0 3 227 true 228 .none (qr 229) (qr 230) (qr 231) 472 473
noncomputable def zoo : Obj:=qf "ticks" "Machine.ticks" (zai (top 23) 12) (qs "linecaster.machine" 361) (qr 232)
noncomputable def zqT : Obj:=qT []
noncomputable def ztn : Obj:=qN []
noncomputable def zqW : Obj:=qT [(qs "self" 478)]
noncomputable def zpE : Obj:=qT []
noncomputable def zvn : Obj:=qg "slugs" "Machine.slugs" (zai (top 23) 13)
noncomputable def zqL : Obj:=qC "slugs" "Machine.slugs" 475 151 1 0 0 3 234 true 235 .none (qr 236) (qr 237) (qr 238) 479 480
noncomputable def zqA : Obj:=qf "slugs" "Machine.slugs" (zai (top 23) 13) (qs "linecaster.machine" 361) (qr 239)
noncomputable def zrQ : Obj:=qT []
noncomputable def ztN : Obj:=qN []
noncomputable def zpw : Obj:=qT [(qs "self" 485)]
noncomputable def zok : Obj:=qT []
noncomputable def zuk : Obj:=qg "waited" "Machine.waited" (zai (top 23) 14)
noncomputable def zsx : Obj:=qC "waited" "Machine.waited" 482 154 1 0 0 3 241 true 242 .none (qr 243) (qr 244) (qr 245) 486 487
noncomputable def zsq : Obj:=qf "waited" "Machine.waited" (zai (top 23) 14) (qs "linecaster.machine" 361) (qr 246)
noncomputable def zsd : Obj:=qT []
noncomputable def ztH : Obj:=qN []
noncomputable def ztm : Obj:=qg "channels" "Machine.channels" (zai (top 23) 15)
noncomputable def zqX : Obj:=qC "channels" "Machine.channels" 489 157 1 0 0 3 248 true 249 .none .none .none (qr 250) 492 493
noncomputable def zsk : Obj:=qf "channels" "Machine.channels" (zai (top 23) 15) (qs "linecaster.machine" 361) (qr 251)
noncomputable def zoJ : Obj:=qT []
noncomputable def zth : Obj:=qN []
noncomputable def zuD : Obj:=qg "numbers_lying" "Machine.numbers_lying" (zai (top 23) 16)
noncomputable def zoX : Obj:=qC "numbers_lying" "Machine.numbers_lying" 495 160 1 0 0 3 253 true 254 .none .none .none (qr 255) 498 499
noncomputable def zpq : Obj:=qf "numbers_lying" "Machine.numbers_lying" (zai (top 23) 16) (qs "linecaster.machine" 361) (qr 256)
noncomputable def zot : Obj:=qT []
noncomputable def zvc : Obj:=qN []
noncomputable def zpi : Obj:=qT [(qs "self" 504)]
noncomputable def zqe : Obj:=qT []
noncomputable def zun : Obj:=qg "gathered" "Machine.gathered" (zai (top 23) 17)
noncomputable def zoC : Obj:=qC "gathered" "Machine.gathered" 501 163 1 0 0 3 258 true 259 .none (qr 260) (qr 261) (qr 262) 505 506
noncomputable def zrY : Obj:=qf "gathered" "Machine.gathered" (zai (top 23) 17) (qs "linecaster.machine" 361) (qr 263)
noncomputable def zrM : Obj:=qT []
noncomputable def ztM : Obj:=qN []
noncomputable def zrl : Obj:=qT [(qs "self" 511)]
noncomputable def zoI : Obj:=qT []
noncomputable def zti : Obj:=qg "in_caster" "Machine.in_caster" (zai (top 23) 18)
noncomputable def zpH : Obj:=qC "in_caster" "Machine.in_caster" 508 166 1 0 0 3 265 true 266 .none (qr 267) (qr 268) (qr 269) 512 513
noncomputable def zor : Obj:=qf "in_caster" "Machine.in_caster" (zai (top 23) 18) (qs "linecaster.machine" 361) (qr 270)
noncomputable def zrJ : Obj:=qT []
noncomputable def zuO : Obj:=qN []
noncomputable def zpm : Obj:=qT [(qs "self" 518)]
noncomputable def zpt : Obj:=qT []
noncomputable def ztR : Obj:=qg "bar" "Machine.bar" (zai (top 23) 19)
noncomputable def zoK : Obj:=qC "bar" "Machine.bar" 515 169 1 0 0 3 272 true 273 .none (qr 274) (qr 275) (qr 276) 519 520
noncomputable def zqK : Obj:=qf "bar" "Machine.bar" (zai (top 23) 19) (qs "linecaster.machine" 361) (qr 277)
noncomputable def zsQ : Obj:=qT [(qs "case" 522),(qs "casting" 523),(qs "done" 524),(qs "hanging" 525),(qs "heated" 526),(qs "line" 527),(qs "lying" 528),(qs "played" 529),(qs "struck" 530),(qs "texts" 531),(qs "to_go" 532),(qs "waits" 533)]
noncomputable def zpS (P : Params) : Obj:=⟨(qt "dict"),.none,(.dict #[qe P "__module__" 372 (qs "linecaster.machine" 361),qe P "__firstlineno__" 376 (.int (70) 375),qe P "__init__" 387 (qr 151),qe P "next_key" 394 (qr 158),qe P "lacks_matrix" 402 (qr 165),qe P "stuck" 409 (qr 172),qe P "resting" 416 (qr 179),qe P "move_bar" 424 (qr 186),qe P "move_caster" 430 (qr 191),qe P "move_line" 438 (qr 198),qe P "send_line" 445 (qr 205),qe P "take" 453 (qr 212),qe P "tick" 460 (qr 219),qe P "run" 467 (qr 226),qe P "ticks" 474 (qr 233),qe P "slugs" 481 (qr 240),qe P "waited" 488 (qr 247),qe P "channels" 494 (qr 252),qe P "numbers_lying" 500 (qr 257),qe P "gathered" 507 (qr 264),qe P "in_caster" 514 (qr 271),qe P "bar" 521 (qr 278),qe P "__static_attributes__" 534 (qr 279),qe P "__dict__" 536 (qr 282),qe P "__weakref__" 538 (qr 283),qe P "__doc__" 539 .none] 4),#[]⟩
noncomputable def zpk : Obj:=⟨(qt "type"),.none,(.cls ⟨(.ofString "Machine"),[(qt "object")],[(qr 281),(qt "object")],280,(.ofString "Machine"),true,[],[],false,.none,false⟩),#[.none,.none,(.some (qs "Machine" 365)),(.some (qs "Machine" 373)),(.some (qb "object.__new__")),(.some (.bool true))]⟩
noncomputable def zqH : Obj:=⟨(qt "getset_descriptor"),.none,(.fields #[(qs "__dict__" 535),(qr 281),(qb "function.__dict__"),(qb "function.__dict__#set")]),#[]⟩
noncomputable def zoi : Obj:=⟨(qt "getset_descriptor"),.none,(.fields #[(qs "__weakref__" 537),(qr 281),(qb "ExceptionGroup.__weakref__"),.none]),#[]⟩
noncomputable def ztz : Obj:=⟨(qt "super"),.none,(.fields #[(qr 281),(qr 281),(qr 281)]),#[]⟩
noncomputable def ztO : Obj:=⟨(qt "builtin_function_or_method"),.none,(.fields #[(qb "object.__init_subclass__"),(qr 281)]),#[]⟩
noncomputable def zss : Obj:=qT []
noncomputable def ztZ : Obj:=qN []
noncomputable def zuj : Obj:=qg "free_case" "free_case" (top 25)
noncomputable def zoG : Obj:=qC "free_case" "free_case" 544 172 2 0 0 3 286 true 287 .none .none .none (qr 288) 547 548
noncomputable def zsA : Obj:=qf "free_case" "free_case" (top 25) (qs "linecaster.needs" 542) (qr 289)
noncomputable def zoB : Obj:=qT []
noncomputable def ztq : Obj:=qN []
noncomputable def zuL : Obj:=qg "numbers_out" "numbers_out" (top 26)
noncomputable def zre : Obj:=qC "numbers_out" "numbers_out" 550 174 2 0 0 3 291 true 292 .none .none .none (qr 293) 553 554
noncomputable def zoj : Obj:=qf "numbers_out" "numbers_out" (top 26) (qs "linecaster.needs" 542) (qr 294)
noncomputable def zrm : Obj:=qT []
noncomputable def zuY : Obj:=qN []
noncomputable def zry : Obj:=qT [(qs "case" 559),(qs "keys" 560),(qs "casting" 561),(qs "free" 562),(qs "machine" 563),(qs "needs" 564),(qs "peaks" 565),(qs "channel" 566),(qs "out" 567)]
noncomputable def zpe : Obj:=qT []
noncomputable def ztc : Obj:=qg "needs_and_peaks" "needs_and_peaks" (top 27)
noncomputable def zpW : Obj:=qC "needs_and_peaks" "needs_and_peaks" 556 176 3 0 0 3 296 true 297 .none (qr 298) (qr 299) (qr 300) 568 569
noncomputable def zqR : Obj:=qf "needs_and_peaks" "needs_and_peaks" (top 27) (qs "linecaster.needs" 542) (qr 301)
noncomputable def zoZ : Obj:=qT []
noncomputable def zvk : Obj:=qN []
noncomputable def zrD : Obj:=qT [(qs "case" 574),(qs "keys" 575),(qs "casting" 576),(qs "needs" 577),(qs "peaks" 578)]
noncomputable def zrB : Obj:=qT []
noncomputable def zup : Obj:=qg "need_of" "need_of" (top 28)
noncomputable def zsw : Obj:=qC "need_of" "need_of" 571 187 3 0 0 3 303 true 304 .none (qr 305) (qr 306) (qr 307) 579 580
noncomputable def zrh : Obj:=qf "need_of" "need_of" (top 28) (qs "linecaster.needs" 542) (qr 308)
noncomputable def zqJ : Obj:=qT []
noncomputable def zuJ : Obj:=qN []
noncomputable def zqV : Obj:=qT [(qs "case" 585),(qs "keys" 586),(qs "casting" 587),(qs "needs" 588),(qs "peaks" 589)]
noncomputable def zpG : Obj:=qT []
noncomputable def zvf : Obj:=qg "peaks_of" "peaks_of" (top 29)
noncomputable def zoY : Obj:=qC "peaks_of" "peaks_of" 582 190 3 0 0 3 310 true 311 .none (qr 312) (qr 313) (qr 314) 590 591
noncomputable def zou : Obj:=qf "peaks_of" "peaks_of" (top 29) (qs "linecaster.needs" 542) (qr 315)
noncomputable def zpv : Obj:=qT []
noncomputable def zuT : Obj:=qN []
noncomputable def zrR : Obj:=qT [(qs "_law_script" 598),(qs "_law_k" 599)]
noncomputable def zpO : Obj:=qT []
noncomputable def zuN : Obj:=qg "_law_cell_at" "_law_cell_at" (top 31)
noncomputable def zol : Obj:=qC "_law_cell_at" "_law_cell_at" 595 194 2 0 0 3 317 true 318 .none (qr 319) (qr 320) (qr 321) 600 601
noncomputable def zqt : Obj:=qf "_law_cell_at" "_law_cell_at" (top 31) (qs "law_linecaster_k49_needs_refused" 593) (qr 322)
noncomputable def zqF : Obj:=qT []
noncomputable def zuZ : Obj:=qN []
noncomputable def zsT : Obj:=qT [(qs "_law_cell" 606),(qs "_law_k" 607)]
noncomputable def zrc : Obj:=qT []
noncomputable def ztj : Obj:=qg "_law_mixed" "_law_mixed" (top 32)
noncomputable def zpn : Obj:=qC "_law_mixed" "_law_mixed" 603 198 2 0 0 3 324 true 325 .none (qr 326) (qr 327) (qr 328) 608 609
noncomputable def zqh : Obj:=qf "_law_mixed" "_law_mixed" (top 32) (qs "law_linecaster_k49_needs_refused" 593) (qr 329)
noncomputable def zoT : Obj:=qT []
noncomputable def zuP : Obj:=qN []
noncomputable def zse : Obj:=qT [(qs "_law_one" 614),(qs "_law_many" 615)]
noncomputable def zst : Obj:=qT []
noncomputable def zuU : Obj:=qg "_law_bits" "_law_bits" (top 33)
noncomputable def zqQ : Obj:=qC "_law_bits" "_law_bits" 611 200 1 0 0 3 331 true 332 .none (qr 333) (qr 334) (qr 335) 616 617
noncomputable def zoU : Obj:=qf "_law_bits" "_law_bits" (top 33) (qs "law_linecaster_k49_needs_refused" 593) (qr 336)
noncomputable def zog : Obj:=qT []
noncomputable def zuc : Obj:=qN []
noncomputable def ztg : Obj:=qg "_law_teeth" "_law_teeth" (top 34)
noncomputable def zrq : Obj:=qC "_law_teeth" "_law_teeth" 619 206 2 0 0 3 338 true 339 .none .none .none (qr 340) 622 623
noncomputable def zsG : Obj:=qf "_law_teeth" "_law_teeth" (top 34) (qs "law_linecaster_k49_needs_refused" 593) (qr 341)
noncomputable def zsL : Obj:=qT []
noncomputable def ztx : Obj:=qN []
noncomputable def zoy : Obj:=qT [(qs "_law_script" 628),(qs "_law_most" 629),(qs "_law_signs" 630),(qs "_law_number" 631),(qs "_law_teeth_here" 632),(qs "_law_case_here" 633),(qs "_law_k" 634),(qs "_law_one" 635),(qs "_law_sign" 636)]
noncomputable def zoq : Obj:=qT []
noncomputable def ztF : Obj:=qg "_law_case" "_law_case" (top 35)
noncomputable def zoN : Obj:=qC "_law_case" "_law_case" 625 215 2 0 0 3 343 true 344 .none (qr 345) (qr 346) (qr 347) 637 638
noncomputable def zpa : Obj:=qf "_law_case" "_law_case" (top 35) (qs "law_linecaster_k49_needs_refused" 593) (qr 348)
noncomputable def zsf : Obj:=qT []
noncomputable def ztQ : Obj:=qN []
noncomputable def zuX : Obj:=qg "_law_lines" "_law_lines" (top 36)
noncomputable def zqm : Obj:=qC "_law_lines" "_law_lines" 640 225 2 0 0 3 350 true 351 .none .none .none (qr 352) 643 644
noncomputable def zoz : Obj:=qf "_law_lines" "_law_lines" (top 36) (qs "law_linecaster_k49_needs_refused" 593) (qr 353)
noncomputable def zpf : Obj:=qT []
noncomputable def ztp : Obj:=qN []
noncomputable def ztV : Obj:=qg "_law_keys" "_law_keys" (top 37)
noncomputable def zso : Obj:=qC "_law_keys" "_law_keys" 646 237 1 0 0 3 355 true 356 .none .none .none (qr 357) 649 650
noncomputable def zqk : Obj:=qf "_law_keys" "_law_keys" (top 37) (qs "law_linecaster_k49_needs_refused" 593) (qr 358)
noncomputable def zru : Obj:=qT []
noncomputable def ztb : Obj:=qN []
noncomputable def zqr : Obj:=qT [(qs "_law_keys_here" 655),(qs "_law_number" 656),(qs "_law_case_here" 657),(qs "_law_at" 658),(qs "_law_signs" 659),(qs "_law_strange" 660),(qs "_law_sign" 661),(qs "_law_put" 662)]
noncomputable def zqG : Obj:=qT []
noncomputable def zva : Obj:=qg "_law_spoilt" "_law_spoilt" (top 38)
noncomputable def zqo : Obj:=qC "_law_spoilt" "_law_spoilt" 652 239 3 0 0 3 360 true 361 .none (qr 362) (qr 363) (qr 364) 663 664
noncomputable def zoO : Obj:=qf "_law_spoilt" "_law_spoilt" (top 38) (qs "law_linecaster_k49_needs_refused" 593) (qr 365)
noncomputable def zqI : Obj:=qT []
noncomputable def ztG : Obj:=qN []
noncomputable def zoe : Obj:=qT [(qs "_law_e" 669)]
noncomputable def zrv : Obj:=qT []
noncomputable def zum : Obj:=qg "_law_refused" "_law_refused" (top 39)
noncomputable def zos : Obj:=qC "_law_refused" "_law_refused" 666 250 1 0 0 3 367 true 368 .none (qr 369) (qr 370) (qr 371) 670 671
noncomputable def zoh : Obj:=qf "_law_refused" "_law_refused" (top 39) (qs "law_linecaster_k49_needs_refused" 593) (qr 372)
noncomputable def zsm : Obj:=qT []
noncomputable def ztA : Obj:=qN []
noncomputable def zsC : Obj:=qT [(qs "_law_case_here" 676),(qs "_law_keys_here" 677),(qs "_law_e" 678)]
noncomputable def zrS : Obj:=qT []
noncomputable def zud : Obj:=qg "_law_due" "_law_due" (top 40)
noncomputable def zrN : Obj:=qC "_law_due" "_law_due" 673 254 2 0 0 3 374 true 375 .none (qr 376) (qr 377) (qr 378) 679 680
noncomputable def zrx : Obj:=qf "_law_due" "_law_due" (top 40) (qs "law_linecaster_k49_needs_refused" 593) (qr 379)
noncomputable def zoR : Obj:=qT []
noncomputable def ztk : Obj:=qN []
noncomputable def zsr : Obj:=qT [(qs "_law_case_here" 685),(qs "_law_keys_here" 686),(qs "_law_way" 687),(qs "_law_found" 688),(qs "_law_e" 689)]
noncomputable def zqc : Obj:=qT []
noncomputable def ztU : Obj:=qg "_law_told" "_law_told" (top 41)
noncomputable def zqq : Obj:=qC "_law_told" "_law_told" 682 260 3 0 0 3 381 true 382 .none (qr 383) (qr 384) (qr 385) 690 691
noncomputable def zpK : Obj:=qf "_law_told" "_law_told" (top 41) (qs "law_linecaster_k49_needs_refused" 593) (qr 386)
noncomputable def zqu : Obj:=qT []
noncomputable def zuK : Obj:=qN []
noncomputable def zsb : Obj:=qT [(qs "_law_script" 696),(qs "_law_case_here" 697),(qs "_law_keys_here" 698),(qs "_law_k" 699),(qs "_law_cell" 700),(qs "_law_number" 701),(qs "_law_some" 702),(qs "_law_due_here" 703)]
noncomputable def zsl : Obj:=qT []
noncomputable def ztd : Obj:=qg "law" "law" (top 42)
noncomputable def zrX : Obj:=qC "law" "law" 693 266 1 0 0 3 388 true 389 .none (qr 390) (qr 391) (qr 392) 704 705
noncomputable def zqZ : Obj:=qf "law" "law" (top 42) (qs "law_linecaster_k49_needs_refused" 593) (qr 393)
noncomputable def a_11 (P : Params) : Obj:=h_11
noncomputable def a_12 (P : Params) : Obj:=qN []
noncomputable def a_13 (P : Params) : Obj:=h_13
noncomputable def a_14 (P : Params) : Obj:=h_14
noncomputable def hO (P : Params) : List Obj:=[boot_o_0 P,boot_o_1 P,boot_o_2 P,h_3 P,boot_o_4 P,boot_o_5 P,boot_o_6 P,boot_o_7 P,boot_o_8 P,boot_o_9 P,boot_o_10 P,h_11,h_12,h_13,h_14,h_15,h_16,h_17,h_18,h_19,h_20,h_21,h_22,h_23,h_24 P,h_25,h_26,h_27,h_28,h_29,h_30 P,h_31,h_32,h_33,h_34,h_35,h_36,h_37 P,h_38,h_39,h_40,h_41,h_42,h_43,h_44,h_45,h_46,h_47,h_48,h_49,h_50 P,h_51,h_52,h_53,h_54,h_55,h_56 P,h_57,h_58,h_59,h_60,h_61,h_62,h_63,h_64,h_65,h_66,h_67,h_68,h_69 P,h_70,h_71,h_72,h_73,h_74,h_75,h_76,h_77,h_78,h_79,h_80,h_81,h_82,h_83,h_84,h_85,h_86,h_87,h_88,h_89,h_90,h_91,h_92,h_93,h_94,h_95,h_96,h_97,h_98,h_99,zuC,zpF,zpN,zuf,zrf,zrI,zpQ,zur,zqa,zrs,zuA,zrL,zsh,zrG,zua,zps,zph,zuo,zro,zqb,zoE,ztT,zto,zrP,zqd,zrC,ztY,zpT,zoW,ztW,zsn,zrr,zoF,ztX,zuV,zow,zpc,zul,ztI,ztS P,zuq,zvh,zsZ,zuB,zrK,zsM,zuh,zsD,zpC,zte,zqS,zpx,zon,zuR,zpI,zrj,ztL,zqx,zsN,zqg,zts,zqB,zsJ,zuI,zpM,zsu,zsU,zuE,zri,zrV,ztt,zoS,zrU,zqz,zsY,zsS,zsW,zug,zpJ,zoA,zpr,zvg,zsR,zpL,ztl,zsz,zqP,zsp,zuH,zta,zpg,zom,zrk,zuu,zqw,zql,ztw,zrb,zsv,zpV,ztr,zrA,zpy,zvm,zrg,zsa,zsc,zuM,zqy,zqM,zub,zpl,zov,zpB,zus,zpz,zsI,zuW,zrp,zqY,zsg,zue,zrZ,zrE,zuQ,zra,zrd,zsV,ztE,zrF,zqi,zuF,zoH,zoo,zqT,ztn,zqW,zpE,zvn,zqL,zqA,zrQ,ztN,zpw,zok,zuk,zsx,zsq,zsd,ztH,ztm,zqX,zsk,zoJ,zth,zuD,zoX,zpq,zot,zvc,zpi,zqe,zun,zoC,zrY,zrM,ztM,zrl,zoI,zti,zpH,zor,zrJ,zuO,zpm,zpt,ztR,zoK,zqK,zsQ,zpS P,zpk,zqH,zoi,ztz,ztO,zss,ztZ,zuj,zoG,zsA,zoB,ztq,zuL,zre,zoj,zrm,zuY,zry,zpe,ztc,zpW,zqR,zoZ,zvk,zrD,zrB,zup,zsw,zrh,zqJ,zuJ,zqV,zpG,zvf,zoY,zou,zpv,zuT,zrR,zpO,zuN,zol,zqt,zqF,zuZ,zsT,zrc,ztj,zpn,zqh,zoT,zuP,zse,zst,zuU,zqQ,zoU,zog,zuc,ztg,zrq,zsG,zsL,ztx,zoy,zoq,ztF,zoN,zpa,zsf,ztQ,zuX,zqm,zoz,zpf,ztp,ztV,zso,zqk,zru,ztb,zqr,zqG,zva,zqo,zoO,zqI,ztG,zoe,zrv,zum,zos,zoh,zsm,ztA,zsC,zrS,zud,zrN,zrx,zoR,ztk,zsr,zqc,ztU,zqq,zpK,zqu,zuK,zsb,zsl,ztd,zrX,zqZ]
noncomputable def hA (P : Params) : List Obj:=[boot_o_0 P,boot_o_1 P,boot_o_2 P,boot_o_3 P,boot_o_4 P,boot_o_5 P,boot_o_6 P,boot_o_7 P,boot_o_8 P,boot_o_9 P,boot_o_10 P,a_11 P,a_12 P,a_13 P,a_14 P]
noncomputable def hK (P : Params) : Frag:=(nat_lit 2,boot_o_2 P) :: (nat_lit 3,h_3 P) :: (nat_lit 15,h_15) :: (nat_lit 17,h_17) :: (nat_lit 18,h_18) :: (nat_lit 20,h_20) :: (nat_lit 21,h_21) :: (nat_lit 22,h_22) :: (nat_lit 29,h_29) :: (nat_lit 30,h_30 P) :: (nat_lit 31,h_31) :: (nat_lit 32,h_32) :: (nat_lit 35,h_35) :: (nat_lit 42,h_42) :: (nat_lit 44,h_44) :: (nat_lit 45,h_45) :: (nat_lit 47,h_47) :: (nat_lit 48,h_48) :: (nat_lit 49,h_49) :: (nat_lit 50,h_50 P) :: (nat_lit 51,h_51) :: (nat_lit 54,h_54) :: (nat_lit 61,h_61) :: (nat_lit 63,h_63) :: (nat_lit 64,h_64) :: (nat_lit 66,h_66) :: (nat_lit 67,h_67) :: (nat_lit 68,h_68) :: (nat_lit 69,h_69 P) :: (nat_lit 70,h_70) :: (nat_lit 73,h_73) :: (nat_lit 75,h_75) :: (nat_lit 76,h_76) :: (nat_lit 78,h_78) :: (nat_lit 79,h_79) :: (nat_lit 80,h_80) :: (nat_lit 82,h_82) :: (nat_lit 83,h_83) :: (nat_lit 85,h_85) :: (nat_lit 86,h_86) :: (nat_lit 87,h_87) :: (nat_lit 89,h_89) :: (nat_lit 90,h_90) :: (nat_lit 92,h_92) :: (nat_lit 93,h_93) :: (nat_lit 94,h_94) :: (nat_lit 97,h_97) :: (nat_lit 98,h_98) :: (nat_lit 99,h_99) :: (nat_lit 101,zpF) :: (nat_lit 102,zpN) :: (nat_lit 104,zrf) :: (nat_lit 105,zrI) :: (nat_lit 106,zpQ) :: (nat_lit 108,zqa) :: (nat_lit 109,zrs) :: (nat_lit 111,zrL) :: (nat_lit 112,zsh) :: (nat_lit 113,zrG) :: (nat_lit 115,zps) :: (nat_lit 116,zph) :: (nat_lit 118,zro) :: (nat_lit 119,zqb) :: (nat_lit 120,zoE) :: (nat_lit 123,zrP) :: (nat_lit 124,zqd) :: (nat_lit 125,zrC) :: (nat_lit 127,zpT) :: (nat_lit 128,zoW) :: (nat_lit 130,zsn) :: (nat_lit 131,zrr) :: (nat_lit 132,zoF) :: (nat_lit 135,zow) :: (nat_lit 136,zpc) :: (nat_lit 144,zrK) :: (nat_lit 145,zsM) :: (nat_lit 147,zsD) :: (nat_lit 148,zpC) :: (nat_lit 150,zqS) :: (nat_lit 151,zpx) :: (nat_lit 152,zon) :: (nat_lit 154,zpI) :: (nat_lit 155,zrj) :: (nat_lit 157,zqx) :: (nat_lit 158,zsN) :: (nat_lit 159,zqg) :: (nat_lit 161,zqB) :: (nat_lit 162,zsJ) :: (nat_lit 164,zpM) :: (nat_lit 165,zsu) :: (nat_lit 166,zsU) :: (nat_lit 168,zri) :: (nat_lit 169,zrV) :: (nat_lit 171,zoS) :: (nat_lit 172,zrU) :: (nat_lit 173,zqz) :: (nat_lit 175,zsS) :: (nat_lit 176,zsW) :: (nat_lit 178,zpJ) :: (nat_lit 179,zoA) :: (nat_lit 180,zpr) :: (nat_lit 182,zsR) :: (nat_lit 183,zpL) :: (nat_lit 185,zsz) :: (nat_lit 186,zqP) :: (nat_lit 187,zsp) :: (nat_lit 190,zpg) :: (nat_lit 191,zom) :: (nat_lit 192,zrk) :: (nat_lit 194,zqw) :: (nat_lit 195,zql) :: (nat_lit 197,zrb) :: (nat_lit 198,zsv) :: (nat_lit 199,zpV) :: (nat_lit 201,zrA) :: (nat_lit 202,zpy) :: (nat_lit 204,zrg) :: (nat_lit 205,zsa) :: (nat_lit 206,zsc) :: (nat_lit 208,zqy) :: (nat_lit 209,zqM) :: (nat_lit 211,zpl) :: (nat_lit 212,zov) :: (nat_lit 213,zpB) :: (nat_lit 215,zpz) :: (nat_lit 216,zsI) :: (nat_lit 218,zrp) :: (nat_lit 219,zqY) :: (nat_lit 220,zsg) :: (nat_lit 222,zrZ) :: (nat_lit 223,zrE) :: (nat_lit 225,zra) :: (nat_lit 226,zrd) :: (nat_lit 227,zsV) :: (nat_lit 229,zrF) :: (nat_lit 230,zqi) :: (nat_lit 232,zoH) :: (nat_lit 233,zoo) :: (nat_lit 234,zqT) :: (nat_lit 236,zqW) :: (nat_lit 237,zpE) :: (nat_lit 239,zqL) :: (nat_lit 240,zqA) :: (nat_lit 241,zrQ) :: (nat_lit 243,zpw) :: (nat_lit 244,zok) :: (nat_lit 246,zsx) :: (nat_lit 247,zsq) :: (nat_lit 248,zsd) :: (nat_lit 251,zqX) :: (nat_lit 252,zsk) :: (nat_lit 253,zoJ) :: (nat_lit 256,zoX) :: (nat_lit 257,zpq) :: (nat_lit 258,zot) :: (nat_lit 260,zpi) :: (nat_lit 261,zqe) :: (nat_lit 263,zoC) :: (nat_lit 264,zrY) :: (nat_lit 265,zrM) :: (nat_lit 267,zrl) :: (nat_lit 268,zoI) :: (nat_lit 270,zpH) :: (nat_lit 271,zor) :: (nat_lit 272,zrJ) :: (nat_lit 274,zpm) :: (nat_lit 275,zpt) :: (nat_lit 277,zoK) :: (nat_lit 278,zqK) :: (nat_lit 279,zsQ) :: (nat_lit 280,zpS P) :: (nat_lit 281,zpk) :: (nat_lit 282,zqH) :: (nat_lit 283,zoi) :: (nat_lit 286,zss) :: (nat_lit 289,zoG) :: (nat_lit 290,zsA) :: (nat_lit 291,zoB) :: (nat_lit 294,zre) :: (nat_lit 295,zoj) :: (nat_lit 296,zrm) :: (nat_lit 298,zry) :: (nat_lit 299,zpe) :: (nat_lit 301,zpW) :: (nat_lit 302,zqR) :: (nat_lit 303,zoZ) :: (nat_lit 305,zrD) :: (nat_lit 306,zrB) :: (nat_lit 308,zsw) :: (nat_lit 309,zrh) :: (nat_lit 310,zqJ) :: (nat_lit 312,zqV) :: (nat_lit 313,zpG) :: (nat_lit 315,zoY) :: (nat_lit 316,zou) :: (nat_lit 317,zpv) :: (nat_lit 319,zrR) :: (nat_lit 320,zpO) :: (nat_lit 322,zol) :: (nat_lit 323,zqt) :: (nat_lit 324,zqF) :: (nat_lit 326,zsT) :: (nat_lit 327,zrc) :: (nat_lit 329,zpn) :: (nat_lit 330,zqh) :: (nat_lit 331,zoT) :: (nat_lit 333,zse) :: (nat_lit 334,zst) :: (nat_lit 336,zqQ) :: (nat_lit 337,zoU) :: (nat_lit 338,zog) :: (nat_lit 341,zrq) :: (nat_lit 342,zsG) :: (nat_lit 343,zsL) :: (nat_lit 345,zoy) :: (nat_lit 346,zoq) :: (nat_lit 348,zoN) :: (nat_lit 349,zpa) :: (nat_lit 350,zsf) :: (nat_lit 353,zqm) :: (nat_lit 354,zoz) :: (nat_lit 355,zpf) :: (nat_lit 358,zso) :: (nat_lit 359,zqk) :: (nat_lit 360,zru) :: (nat_lit 362,zqr) :: (nat_lit 363,zqG) :: (nat_lit 365,zqo) :: (nat_lit 366,zoO) :: (nat_lit 367,zqI) :: (nat_lit 369,zoe) :: (nat_lit 370,zrv) :: (nat_lit 372,zos) :: (nat_lit 373,zoh) :: (nat_lit 374,zsm) :: (nat_lit 376,zsC) :: (nat_lit 377,zrS) :: (nat_lit 379,zrN) :: (nat_lit 380,zrx) :: (nat_lit 381,zoR) :: (nat_lit 383,zsr) :: (nat_lit 384,zqc) :: (nat_lit 386,zqq) :: (nat_lit 387,zpK) :: (nat_lit 388,zqu) :: (nat_lit 390,zsb) :: (nat_lit 391,zsl) :: (nat_lit 393,zrX) :: (nat_lit 394,zqZ) :: []
abbrev has : List Addr:=[2,3,15,17,18,20,21,22,29,30,31,32,35,42,44,45,47,48,49,50,51,54,61,63,64,66,67,68,69,70,73,75,76,78,79,80,82,83,85,86,87,89,90,92,93,94,97,98,99,101,102,104,105,106,108,109,111,112,113,115,116,118,119,120,123,124,125,127,128,130,131,132,135,136,144,145,147,148,150,151,152,154,155,157,158,159,161,162,164,165,166,168,169,171,172,173,175,176,178,179,180,182,183,185,186,187,190,191,192,194,195,197,198,199,201,202,204,205,206,208,209,211,212,213,215,216,218,219,220,222,223,225,226,227,229,230,232,233,234,236,237,239,240,241,243,244,246,247,248,251,252,253,256,257,258,260,261,263,264,265,267,268,270,271,272,274,275,277,278,279,280,281,282,283,286,289,290,291,294,295,296,298,299,301,302,303,305,306,308,309,310,312,313,315,316,317,319,320,322,323,324,326,327,329,330,331,333,334,336,337,338,341,342,343,345,346,348,349,350,353,354,355,358,359,360,362,363,365,366,367,369,370,372,373,374,376,377,379,380,381,383,384,386,387,388,390,391,393,394]
abbrev zgz : Life:=⟨[],[],[],0,[],[],false,#[],[],0,false,false,false,0,[2000,10,10],false,0,true,[],[],0,false⟩
abbrev hD : HD:=⟨5024,12,0,2449,1,⟨0,0,0,0⟩,187,⟨0,0,0,0⟩,187,⟨0,0,0,0⟩,707,395,15,⟨0,0,0,0⟩,⟨0,0,0,0⟩,⟨0,0,0,0⟩,⟨266,0,277,63⟩,(qr 13),14,(.some (qr 6))⟩
abbrev hview : Program:={ PySem.Challenge.pw_linecaster_k49_needs_refused with main:={ PySem.Challenge.pw_linecaster_k49_needs_refused.main with body:=[top 0,top 2,top 3,top 4,top 6,top 7,top 9,top 10,top 12,top 13,top 14,top 15,top 16,top 17,top 19,top 20,top 22,top 23,top 25,top 26,top 27,top 28,top 29,top 31,top 32,top 33,top 34,top 35,top 36,top 37,top 38,top 39,top 40,top 41,top 42] } }
theorem hpre : Hd.Pre PySem.Challenge.pw_linecaster_k49_needs_refused hD zgz hA:=fun w os=>by kernel_rfl
theorem hblk : Hd.Blk PySem.Challenge.pw_linecaster_k49_needs_refused hD zgz hA:=fun w os=>by kernel_rfl
theorem hgo : Hd.Go PySem.Challenge.pw_linecaster_k49_needs_refused hD zgz hA hO:=fun w os=>by kernel_rfl
theorem hfin : Hd.Fin PySem.Challenge.pw_linecaster_k49_needs_refused hD zgz hO:=fun w os=>by kernel_rfl
theorem hl1 : Hd.Lk1 PySem.Challenge.pw_linecaster_k49_needs_refused hD zgz hO:=fun w os=>by kernel_rfl
theorem hl3 : Hd.Lk3 hD zgz hO hK has:=fun w os=>by kernel_rfl
theorem hKe : ∀ P,has = (hK P).map (·.1):=fun P=>by kernel_rfl
theorem hl2 : Hd.Lk2 PySem.Challenge.pw_linecaster_k49_needs_refused hview hD zgz hO (Hd.XtH PySem.Challenge.rw_linecaster_k49_needs_refused hview):=fun w os=>by kernel_rfl
theorem hsaid : Hd.zrT PySem.Challenge.rw_linecaster_k49_needs_refused = true:=by kernel_rfl
theorem hleft : LeftO PySem.Challenge.pw_linecaster_k49_needs_refused hview [] (Hd.XtH PySem.Challenge.rw_linecaster_k49_needs_refused hview) (Hook.obs (kHook hK has hKe)) (Hook.val (kHook hK has hKe)) hD.N:=Hd.znp (D:=hD) (L:=zgz) (A:=hA) (O:=hO) (by kernel_rfl) (fun s=>by kernel_rfl) (by kernel_rfl) (by kernel_rfl) (by kernel_rfl) hpre hblk hgo hfin hl1 hl2 hl3
end
end
end Lw
open PySem PySem.W PyProof.Rows
set_option maxRecDepth 100000 in
set_option maxHeartbeats 0 in
theorem PySem.Challenge.cw_linecaster_k49_needs_refused_holds : PySem.Challenge.rw_linecaster_k49_needs_refused.Holds := by
 w_on
 refine Hd.holds (st:=Lw.s_law) (x:="law") (l:=PySem.Challenge.rw_linecaster_k49_needs_refused) (q:=Lw.hview) (K:=Lw.hK) (as:=Lw.has) (e:=Lw.hKe) (N:=Lw.hD.N) Lw.hsaid Lw.hleft (by kernel_rfl) (by kernel_rfl) (by kernel_rfl) (by kernel_rfl) (by decide +kernel) ⟨rfl,rfl,rfl,rfl,rfl,by decide +kernel⟩ ?hw ?hc
 (case hw=>w_witness2)
 k_fill
 refine L2.walk_ofK (l:=PySem.Challenge.rw_linecaster_k49_needs_refused) (n:=63) (k:=Lw.lawLevel) (x:="_law_script") (CX:=L2.CX0) (sp:=Lw.sp_law) rfl (by decide) rfl ⟨rfl,by decide,by decide⟩ (fun w h Y=>PySem.W.kIn_of Y) ?F ?S ?C
 case F =>
  intro w mg fa h KX G hmg
  have T : ∃ a : Lw.Ad,Lw.Tx (L2.KOf KX) mg a:=by
   dsimp only [L2.KOf]
   refine' Lw.txt_mk KX G ?a0 ?l0 ?c0 ?k0 ?a1 ?l1 ?c1 ?k1 ?a2 ?l2 ?c2 ?k2 ?a3 ?l3 ?c3 ?k3 ?a4 ?l4 ?c4 ?k4 ?a5 ?l5 ?c5 ?k5 ?a6 ?l6 ?c6 ?k6 ?a7 ?l7 ?c7 ?k7 ?a8 ?l8 ?c8 ?k8 ?a9 ?l9 ?c9 ?k9 ?a10 ?l10 ?c10 ?k10 ?a11 ?l11 ?c11 ?k11 ?a12 ?l12 ?c12 ?k12 ?a13 ?l13 ?c13 ?k13 ?a14 ?l14 ?c14 ?k14 ?a15 ?l15 ?c15 ?k15 ?a16 ?l16 ?c16 ?k16 ?a17 ?l17 ?c17 ?k17 ?a18 ?l18 ?c18 ?k18 ?a19 ?l19 ?c19 ?k19 ?a20 ?l20 ?c20 ?k20 ?a21 ?l21 ?c21 ?k21 ?a22 ?l22 ?c22 ?k22 ?a23 ?l23 ?c23 ?k23 ?a24 ?l24 ?c24 ?k24 ?a25 ?l25 ?c25 ?k25 ?a26 ?l26 ?c26 ?k26 ?a27 ?l27 ?c27 ?k27 ?ca_Machine ?pg_Machine ?hd_Machine ?po_Machine ?sa_Machine ?mk_Machine ?kc_Machine ?a_Machine_init ?i_Machine_init ?l_Machine_init ?c_Machine_init ?k_Machine_init ?t_Machine_init ?a_Machine_next_key ?i_Machine_next_key ?l_Machine_next_key ?c_Machine_next_key ?k_Machine_next_key ?a_Machine_lacks_matrix ?i_Machine_lacks_matrix ?l_Machine_lacks_matrix ?c_Machine_lacks_matrix ?k_Machine_lacks_matrix ?a_Machine_stuck ?i_Machine_stuck ?l_Machine_stuck ?c_Machine_stuck ?k_Machine_stuck ?a_Machine_resting ?i_Machine_resting ?l_Machine_resting ?c_Machine_resting ?k_Machine_resting ?a_Machine_move_bar ?i_Machine_move_bar ?l_Machine_move_bar ?c_Machine_move_bar ?k_Machine_move_bar ?a_Machine_move_caster ?i_Machine_move_caster ?l_Machine_move_caster ?c_Machine_move_caster ?k_Machine_move_caster ?a_Machine_move_line ?i_Machine_move_line ?l_Machine_move_line ?c_Machine_move_line ?k_Machine_move_line ?a_Machine_send_line ?i_Machine_send_line ?l_Machine_send_line ?c_Machine_send_line ?k_Machine_send_line ?a_Machine_take ?i_Machine_take ?l_Machine_take ?c_Machine_take ?k_Machine_take ?a_Machine_tick ?i_Machine_tick ?l_Machine_tick ?c_Machine_tick ?k_Machine_tick ?a_Machine_ticks ?i_Machine_ticks ?l_Machine_ticks ?c_Machine_ticks ?k_Machine_ticks ?a_Machine_channels ?i_Machine_channels ?l_Machine_channels ?c_Machine_channels ?k_Machine_channels ?a_Machine_numbers_lying ?i_Machine_numbers_lying ?l_Machine_numbers_lying ?c_Machine_numbers_lying ?k_Machine_numbers_lying ?n_Machine_lying ?n_Machine_case ?n_Machine_played ?n_Machine_struck ?n_Machine_casting ?n_Machine_line ?n_Machine_heated ?n_Machine_to_go ?n_Machine_hanging ?n_Machine_texts ?n_Machine_done ?n_Machine_waits ?ca_CasterError ?ca_NoCase ?ca_NoKeys ?lk_CasterError ?cN_CasterError ?ln_CasterError ?le_CasterError ?ni_CasterError ?cs_CasterError ?cm_CasterError ?ch_CasterError ?q1_CasterError ?q2_CasterError ?q3_CasterError ?q4_CasterError ?q5_CasterError ?q6_CasterError ?q7_CasterError ?q8_CasterError ?q9_CasterError ?cn_NoCase ?cl_NoCase ?cc_NoCase ?ck_NoCase ?lk_NoCase ?cN_NoCase ?ln_NoCase ?le_NoCase ?ni_NoCase ?cs_NoCase ?cm_NoCase ?ch_NoCase ?q1_NoCase ?q2_NoCase ?q3_NoCase ?q4_NoCase ?q5_NoCase ?q6_NoCase ?q7_NoCase ?q8_NoCase ?q9_NoCase ?w1_NoCase ?w2_NoCase ?w3_NoCase ?w4_NoCase ?cn_NoKeys ?cl_NoKeys ?cc_NoKeys ?ck_NoKeys ?lk_NoKeys ?cN_NoKeys ?ln_NoKeys ?le_NoKeys ?ni_NoKeys ?cs_NoKeys ?cm_NoKeys ?ch_NoKeys ?q1_NoKeys ?q2_NoKeys ?q3_NoKeys ?q4_NoKeys ?q5_NoKeys ?q6_NoKeys ?q7_NoKeys ?q8_NoKeys ?q9_NoKeys ?w1_NoKeys ?w2_NoKeys ?w3_NoKeys ?w4_NoKeys ?b1 ?b2 ?b3 ?m_NoCase_CasterError ?m_NoCase_NoCase ?m_NoCase_NoKeys ?m_NoKeys_CasterError ?m_NoKeys_NoCase ?m_NoKeys_NoKeys ?y_GAP_KEY ?y_SEND_KEY ?y_WEDGE ?z_ValueError ?z_enumerate ?z_int ?z_isinstance ?z_len ?z_list ?z_range ?z_sorted ?z_zip
   (case a0=>k_is)
   (case l0=>k_is)
   (case c0=>k_is)
   (case k0=>k_is)
   (case a1=>k_is)
   (case l1=>k_is)
   (case c1=>k_is)
   (case k1=>k_is)
   (case a2=>k_is)
   (case l2=>k_is)
   (case c2=>k_is)
   (case k2=>k_is)
   (case a3=>k_is)
   (case l3=>k_is)
   (case c3=>k_is)
   (case k3=>k_is)
   (case a4=>k_is)
   (case l4=>k_is)
   (case c4=>k_is)
   (case k4=>k_is)
   (case a5=>k_is)
   (case l5=>k_is)
   (case c5=>k_is)
   (case k5=>k_is)
   (case a6=>k_is)
   (case l6=>k_is)
   (case c6=>k_is)
   (case k6=>k_is)
   (case a7=>k_is)
   (case l7=>k_is)
   (case c7=>k_is)
   (case k7=>k_is)
   (case a8=>k_is)
   (case l8=>k_is)
   (case c8=>k_is)
   (case k8=>k_is)
   (case a9=>k_is)
   (case l9=>k_is)
   (case c9=>k_is)
   (case k9=>k_is)
   (case a10=>k_is)
   (case l10=>k_is)
   (case c10=>k_is)
   (case k10=>k_is)
   (case a11=>k_is)
   (case l11=>k_is)
   (case c11=>k_is)
   (case k11=>k_is)
   (case a12=>k_is)
   (case l12=>k_is)
   (case c12=>k_is)
   (case k12=>k_is)
   (case a13=>k_is)
   (case l13=>k_is)
   (case c13=>k_is)
   (case k13=>k_is)
   (case a14=>k_is)
   (case l14=>k_is)
   (case c14=>k_is)
   (case k14=>k_is)
   (case a15=>k_is)
   (case l15=>k_is)
   (case c15=>k_is)
   (case k15=>k_is)
   (case a16=>k_is)
   (case l16=>k_is)
   (case c16=>k_is)
   (case k16=>k_is)
   (case a17=>k_is)
   (case l17=>k_is)
   (case c17=>k_is)
   (case k17=>k_is)
   (case a18=>k_is)
   (case l18=>k_is)
   (case c18=>k_is)
   (case k18=>k_is)
   (case a19=>k_is)
   (case l19=>k_is)
   (case c19=>k_is)
   (case k19=>k_is)
   (case a20=>k_is)
   (case l20=>k_is)
   (case c20=>k_is)
   (case k20=>k_is)
   (case a21=>k_is)
   (case l21=>k_is)
   (case c21=>k_is)
   (case k21=>k_is)
   (case a22=>k_is)
   (case l22=>k_is)
   (case c22=>k_is)
   (case k22=>k_is)
   (case a23=>k_is)
   (case l23=>k_is)
   (case c23=>k_is)
   (case k23=>k_is)
   (case a24=>k_is)
   (case l24=>k_is)
   (case c24=>k_is)
   (case k24=>k_is)
   (case a25=>k_is)
   (case l25=>k_is)
   (case c25=>k_is)
   (case k25=>k_is)
   (case a26=>k_is)
   (case l26=>k_is)
   (case c26=>k_is)
   (case k26=>k_is)
   (case a27=>k_is)
   (case l27=>k_is)
   (case c27=>k_is)
   (case k27=>k_is)
   (case ca_Machine=>k_is)
   (case pg_Machine=>k_is)
   (case hd_Machine=>k_is)
   (case po_Machine=>k_is)
   (case sa_Machine=>k_is)
   (case mk_Machine=>k_is)
   (case kc_Machine=>k_is)
   (case a_Machine_init=>k_is)
   (case i_Machine_init=>k_is)
   (case l_Machine_init=>k_is)
   (case c_Machine_init=>k_is)
   (case k_Machine_init=>k_is)
   (case t_Machine_init=>k_is)
   (case a_Machine_next_key=>k_is)
   (case i_Machine_next_key=>k_is)
   (case l_Machine_next_key=>k_is)
   (case c_Machine_next_key=>k_is)
   (case k_Machine_next_key=>k_is)
   (case a_Machine_lacks_matrix=>k_is)
   (case i_Machine_lacks_matrix=>k_is)
   (case l_Machine_lacks_matrix=>k_is)
   (case c_Machine_lacks_matrix=>k_is)
   (case k_Machine_lacks_matrix=>k_is)
   (case a_Machine_stuck=>k_is)
   (case i_Machine_stuck=>k_is)
   (case l_Machine_stuck=>k_is)
   (case c_Machine_stuck=>k_is)
   (case k_Machine_stuck=>k_is)
   (case a_Machine_resting=>k_is)
   (case i_Machine_resting=>k_is)
   (case l_Machine_resting=>k_is)
   (case c_Machine_resting=>k_is)
   (case k_Machine_resting=>k_is)
   (case a_Machine_move_bar=>k_is)
   (case i_Machine_move_bar=>k_is)
   (case l_Machine_move_bar=>k_is)
   (case c_Machine_move_bar=>k_is)
   (case k_Machine_move_bar=>k_is)
   (case a_Machine_move_caster=>k_is)
   (case i_Machine_move_caster=>k_is)
   (case l_Machine_move_caster=>k_is)
   (case c_Machine_move_caster=>k_is)
   (case k_Machine_move_caster=>k_is)
   (case a_Machine_move_line=>k_is)
   (case i_Machine_move_line=>k_is)
   (case l_Machine_move_line=>k_is)
   (case c_Machine_move_line=>k_is)
   (case k_Machine_move_line=>k_is)
   (case a_Machine_send_line=>k_is)
   (case i_Machine_send_line=>k_is)
   (case l_Machine_send_line=>k_is)
   (case c_Machine_send_line=>k_is)
   (case k_Machine_send_line=>k_is)
   (case a_Machine_take=>k_is)
   (case i_Machine_take=>k_is)
   (case l_Machine_take=>k_is)
   (case c_Machine_take=>k_is)
   (case k_Machine_take=>k_is)
   (case a_Machine_tick=>k_is)
   (case i_Machine_tick=>k_is)
   (case l_Machine_tick=>k_is)
   (case c_Machine_tick=>k_is)
   (case k_Machine_tick=>k_is)
   (case a_Machine_ticks=>k_is)
   (case i_Machine_ticks=>k_is)
   (case l_Machine_ticks=>k_is)
   (case c_Machine_ticks=>k_is)
   (case k_Machine_ticks=>k_is)
   (case a_Machine_channels=>k_is)
   (case i_Machine_channels=>k_is)
   (case l_Machine_channels=>k_is)
   (case c_Machine_channels=>k_is)
   (case k_Machine_channels=>k_is)
   (case a_Machine_numbers_lying=>k_is)
   (case i_Machine_numbers_lying=>k_is)
   (case l_Machine_numbers_lying=>k_is)
   (case c_Machine_numbers_lying=>k_is)
   (case k_Machine_numbers_lying=>k_is)
   (case n_Machine_lying=>k_is)
   (case n_Machine_case=>k_is)
   (case n_Machine_played=>k_is)
   (case n_Machine_struck=>k_is)
   (case n_Machine_casting=>k_is)
   (case n_Machine_line=>k_is)
   (case n_Machine_heated=>k_is)
   (case n_Machine_to_go=>k_is)
   (case n_Machine_hanging=>k_is)
   (case n_Machine_texts=>k_is)
   (case n_Machine_done=>k_is)
   (case n_Machine_waits=>k_is)
   (case ca_CasterError=>k_is)
   (case ca_NoCase=>k_is)
   (case ca_NoKeys=>k_is)
   (case lk_CasterError=>k_is)
   (case cN_CasterError=>rfl)
   (case ln_CasterError=>k_is)
   (case le_CasterError=>rfl)
   (case ni_CasterError=>k_is)
   (case cs_CasterError=>rfl)
   (case cm_CasterError=>rfl)
   (case ch_CasterError=>rfl)
   (case q1_CasterError=>k_is)
   (case q2_CasterError=>k_is)
   (case q3_CasterError=>k_is)
   (case q4_CasterError=>k_is)
   (case q5_CasterError=>k_is)
   (case q6_CasterError=>k_is)
   (case q7_CasterError=>k_is)
   (case q8_CasterError=>k_is)
   (case q9_CasterError=>k_is)
   (case cn_NoCase=>k_is)
   (case cl_NoCase=>k_is)
   (case cc_NoCase=>k_is)
   (case ck_NoCase=>k_is)
   (case lk_NoCase=>k_is)
   (case cN_NoCase=>rfl)
   (case ln_NoCase=>k_is)
   (case le_NoCase=>rfl)
   (case ni_NoCase=>k_is)
   (case cs_NoCase=>rfl)
   (case cm_NoCase=>rfl)
   (case ch_NoCase=>rfl)
   (case q1_NoCase=>k_is)
   (case q2_NoCase=>k_is)
   (case q3_NoCase=>k_is)
   (case q4_NoCase=>k_is)
   (case q5_NoCase=>k_is)
   (case q6_NoCase=>k_is)
   (case q7_NoCase=>k_is)
   (case q8_NoCase=>k_is)
   (case q9_NoCase=>k_is)
   (case w1_NoCase=>rfl)
   (case w2_NoCase=>k_is)
   (case w3_NoCase=>k_is)
   (case w4_NoCase=>k_is)
   (case cn_NoKeys=>k_is)
   (case cl_NoKeys=>k_is)
   (case cc_NoKeys=>k_is)
   (case ck_NoKeys=>k_is)
   (case lk_NoKeys=>k_is)
   (case cN_NoKeys=>rfl)
   (case ln_NoKeys=>k_is)
   (case le_NoKeys=>rfl)
   (case ni_NoKeys=>k_is)
   (case cs_NoKeys=>rfl)
   (case cm_NoKeys=>rfl)
   (case ch_NoKeys=>rfl)
   (case q1_NoKeys=>k_is)
   (case q2_NoKeys=>k_is)
   (case q3_NoKeys=>k_is)
   (case q4_NoKeys=>k_is)
   (case q5_NoKeys=>k_is)
   (case q6_NoKeys=>k_is)
   (case q7_NoKeys=>k_is)
   (case q8_NoKeys=>k_is)
   (case q9_NoKeys=>k_is)
   (case w1_NoKeys=>rfl)
   (case w2_NoKeys=>k_is)
   (case w3_NoKeys=>k_is)
   (case w4_NoKeys=>k_is)
   (case b1=>k_is)
   (case b2=>k_is)
   (case b3=>k_is)
   (case m_NoCase_CasterError=>k_is)
   (case m_NoCase_NoCase=>k_is)
   (case m_NoCase_NoKeys=>k_is)
   (case m_NoKeys_CasterError=>k_is)
   (case m_NoKeys_NoCase=>k_is)
   (case m_NoKeys_NoKeys=>k_is)
   (case y_GAP_KEY=>k_is)
   (case y_SEND_KEY=>k_is)
   (case y_WEDGE=>k_is)
   (case z_ValueError=>k_is)
   (case z_enumerate=>k_is)
   (case z_int=>k_is)
   (case z_isinstance=>k_is)
   (case z_len=>k_is)
   (case z_list=>k_is)
   (case z_range=>k_is)
   (case z_sorted=>k_is)
   (case z_zip=>k_is)
  obtain ⟨a,T⟩:=T
  have e0:=hmg.symm.trans T.law.mg
  cases e0
  exact ⟨_,fun s u=>.of_eq (T.law.ba [u] rfl),fun base kb nb=>Lw.ok_law T⟩
 case S=>exact fun K H a ns hl hO hS=>⟨a,ns,rfl,hS,hl,fun _=>rfl⟩
 case C=>exact fun _ _ _ _ z=>z
