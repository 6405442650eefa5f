import PyProof.Rows.All
import Wide.All
import OpenK.AllK
import Wide.FinOn
import Lean
import PyProof.EqAt
import PyProof.EqKinds
import PyProof.TupleCall
import PyProof.P3Eq
import PyProof.NeData
import PyProof.Rows.SortShellK
import PySem.Challenge.RW_linecaster_k73_whole_broken_teeth_found
set_option Elab.async false
set_option linter.all false
set_option maxRecDepth 100000
namespace L2
open PySem PySem.Spec PyProof.Rows
abbrev Key:=Sum Int Str
def zjX : Key -> Value -> Bool
 | .inl k,v=>Value.isInt k v
 | .inr x,v=>Value.isStrOf x v
def keyH (w : World) : Key -> Int
 | .inl k=>hashInt k
 | .inr x=>hashStr w x
theorem zaW : ∀ {k : Key} {v : Value},zjX k v = true -> (∃ i t,k = Sum.inl i /\ v = Value.int i t) \/ (∃ x t,k = Sum.inr x /\ v = Value.str x t)
 | .inl i,v,h=>by
   obtain ⟨t,e⟩:=Value.isInt_shape (k:=i) (v:=v) h
   exact .inl ⟨i,t,rfl,e⟩
 | .inr x,v,h=>by
   obtain ⟨t,e⟩:=Value.isStrOf_shape (x:=x) (v:=v) h
   exact .inr ⟨x,t,rfl,e⟩
theorem zkK (i : Int) (t : Tok) : zjX (.inl i) (.int i t) = true:=by simp [zjX,Value.isInt]
theorem zkQ (x : Str) (t : Tok) : zjX (.inr x) (.str x t) = true:=by simp [zjX,Value.isStrOf]
theorem zpj (a b : Int) : decide ((Sum.inl a : Key) = Sum.inl b) = (a == b):=by
 by_cases e : a = b
 ·subst e; simp
 ·have h : ¬ (Sum.inl a : Key) = Sum.inl b:=fun q=>e (Sum.inl.inj q)
  rw [decide_eq_false h]
  exact (beq_eq_false_iff_ne.mpr e).symm
theorem zoX (a b : Str) : decide ((Sum.inr a : Key) = Sum.inr b) = decide (a = b):=by
 by_cases e : a = b
 ·subst e; simp
 ·have h : ¬ (Sum.inr a : Key) = Sum.inr b:=fun q=>e (Sum.inr.inj q)
  rw [decide_eq_false h,decide_eq_false e]
theorem zsV (a : Int) (b : Str) : decide ((Sum.inl a : Key) = Sum.inr b) = false:=decide_eq_false (fun q=>nomatch q)
theorem zrH (a : Str) (b : Int) : decide ((Sum.inr a : Key) = Sum.inl b) = false:=decide_eq_false (fun q=>nomatch q)
def zaZ (prog : Program) (w : World) : PySem.KeyKind prog w Key where
 is:=zjX
 hash:=keyH w
 inj:=fun v a b ha hb=>by
  rcases zaW ha with ⟨i,t,rfl,rfl⟩ | ⟨x,t,rfl,rfl⟩
  ·rcases zaW hb with ⟨j,u,rfl,e⟩ | ⟨y,u,rfl,e⟩
   ·injection e with e1 _; rw [e1]
   ·exact nomatch e
  ·rcases zaW hb with ⟨j,u,rfl,e⟩ | ⟨y,u,rfl,e⟩
   ·exact nomatch e
   ·injection e with e1 _; rw [e1]
 byValue:=fun k v h=>by
  rcases zaW h with ⟨i,t,rfl,rfl⟩ | ⟨x,t,rfl,rfl⟩ <;> rfl
 pyHash:=fun hv h=>by
  rcases zaW hv with ⟨i,t,rfl,rfl⟩ | ⟨x,t,rfl,rfl⟩
  ·exact wpAny_pyHash_int h
  ·exact wpAny_pyHash_str h
 eqBool:=fun hu hv h=>by
  rcases zaW hu with ⟨i,t,rfl,rfl⟩ | ⟨x,t,rfl,rfl⟩
  ·rcases zaW hv with ⟨j,u,rfl,rfl⟩ | ⟨y,u,rfl,rfl⟩
   ·rw [zpj] at h; exact wpAny_eqBool_int h
   ·rw [zsV] at h; exact SeqAt.EqAt.int_str i t y u _ _ _ _ h
  ·rcases zaW hv with ⟨j,u,rfl,rfl⟩ | ⟨y,u,rfl,rfl⟩
   ·rw [zrH] at h; exact SeqAt.EqAt.str_int x t j u _ _ _ _ h
   ·rw [zoX] at h; exact wpAny_eqBool_str h
 «strs»:=fun k x t v h=>by
  rcases zaW h with ⟨i,u,rfl,e⟩ | ⟨y,u,rfl,e⟩
  ·exact nomatch e
  ·injection e with e1 _
   subst e1
   cases v <;> rfl
theorem ziD (prog : Program) (w : World) (i : Int) (t : Tok) : (zaZ prog w).is (.inl i) (.int i t) = true:=zkK i t
theorem ziL (prog : Program) (w : World) (x : Str) (t : Tok) : (zaZ prog w).is (.inr x) (.str x t) = true:=zkQ x t
end L2
namespace L2
open PySem PySem.Spec PyProof.Rows
inductive V where
 | non | bl (b : Bool) | int (i : Int) | str (x : Str) | byt (b : Array UInt8) | flt (b : UInt64) | ref (a : Addr) | ty (n : String)
 deriving DecidableEq
def RelV : V -> Value -> Prop
 | .non,u=>u = Value.none
 | .bl b,u=>u = Value.bool b
 | .int i,u=>∃ t,u = Value.int i t
 | .str x,u=>∃ t,u = Value.str x t
 | .byt b,u=>∃ t,u = Value.bytes b t
 | .flt b,u=>∃ t,u = Value.float b t
 | .ref a,u=>u = Value.ref a
 | .ty n,u=>u = Value.type n
abbrev Vals : List V -> List Value -> Prop:=Paired RelV
theorem Vals.length {xs : List V} {us : List Value} (r : Vals xs us) : xs.length = us.length:=Paired.length r
theorem Vals.get : ∀ {xs : List V} {us : List Value} {i : Nat} {x : V},Vals xs us -> xs[i]? = some x -> ∃ u,us[i]? = some u /\ RelV x u
 | _,_,_,_,.nil,e=>by simp at e
 | _,_,0,_,.cons r _,e=>by simp at e; subst e; exact ⟨_,rfl,r⟩
 | _,_,i + 1,x,.cons _ t,e=>by
   obtain ⟨u,h1,h2⟩:=Vals.get (i:=i) (x:=x) t (by simpa using e)
   exact ⟨u,by simpa using h1,h2⟩
theorem Vals.set {x : V} {u : Value} (r : RelV x u) : ∀ {xs : List V} {us : List Value} (i : Nat),Vals xs us -> Vals (xs.set i x) (us.set i u)
 | _,_,_,.nil=>.nil
 | _,_,0,.cons _ t=>.cons r t
 | _,_,i + 1,.cons q t=>.cons q (Vals.set r i t)
theorem Vals.append : ∀ {xs ys : List V} {us ws : List Value},Vals xs us -> Vals ys ws -> Vals (xs ++ ys) (us ++ ws)
 | _,_,_,_,.nil,s=>s
 | _,_,_,_,.cons r t,s=>.cons r (Vals.append t s)
theorem Vals.take : ∀ {xs : List V} {us : List Value} (n : Nat),Vals xs us -> Vals (xs.take n) (us.take n)
 | _,_,0,_=>.nil
 | _,_,_ + 1,.nil=>.nil
 | _,_,n + 1,.cons r t=>.cons r (Vals.take n t)
theorem Vals.drop : ∀ {xs : List V} {us : List Value} (n : Nat),Vals xs us -> Vals (xs.drop n) (us.drop n)
 | _,_,0,r=>r
 | _,_,_ + 1,.nil=>.nil
 | _,_,n + 1,.cons _ t=>Vals.drop n t
def RelO : Option V -> Option Value -> Prop
 | some v,some u=>RelV v u
 | none,none=>True
 | _,_=>False
def KV {κ : Type} : List (κ × V) -> List (κ × Value) -> Prop:=Paired fun (p : κ × V) (q : κ × Value)=>p.1 = q.1 /\ RelV p.2 q.2
def kV : Key -> V
 | .inl i=>.int i
 | .inr x=>.str x
inductive HO where
 | lst (xs : List V)
 | tup (xs : List V)
 | dK (kvs : List (Key × V)) | dT (kvs : List (List Key × V))
 | set (S : Int -> Bool) (n : Nat)
 | ins (C dx : Addr) (fs : List (Str × V))
 | own (x : Addr)
 | xd (fs : List (Str × V))
 | met (f x : Addr)
 | rng (lo hi : Int)
 | frz (o : Obj) (u : HO)
 | tbl (ps : Array Value)
 | ext (φ : Heap -> Prop)
abbrev Hp:=Addr -> Option HO
def upd (H : Hp) (a : Addr) (o : HO) : Hp:=fun b=>if b = a then some o else H b
theorem upd_same {H : Hp} {a : Addr} {o : HO} : upd H a o a = some o:=by unfold upd; rw [if_pos rfl]
theorem zai {H : Hp} {a b : Addr} {o : HO} (h : b ≠ a) : upd H a o b = H b:=by unfold upd; rw [if_neg h]
theorem zbZ {H : Hp} {a b : Addr} {o u : HO} (h : H a = some o) (h' : H b = some u) (d : o ≠ u) : a ≠ b:=by
 intro e; subst e; rw [h] at h'; exact d (Option.some.inj h')
theorem zaq {H : Hp} {a b : Addr} {o : HO} (h : H a = some o) (h' : H b = none) : a ≠ b:=by
 intro e; subst e; rw [h] at h'; cases h'
section
variable (P : Program) (w : World)
def zbX (H : Hp) (h : Heap) (a : Addr) : HO -> Prop
 | .lst xs=>xs.length <= sizeLine /\ ∃ (its : List Value) (n : Nat),Vals xs its /\ h.get? a = some { cls:=.type "list",data:=.seq its.toArray n }
 | .tup xs=>xs.length <= sizeLine /\ ∃ its : List Value,Vals xs its /\ IsTup h a its.toArray
 | .dK kvs=>kvs.length <= sizeLine /\ (a == sysModules) = false /\ ∃ vs,KV kvs vs /\ h.DictOf (zaZ P w) a vs
 | .dT kvs=>kvs.length <= sizeLine /\ (a == sysModules) = false /\ ∃ xs : List (List Key × Addr × Value),
    Paired (fun (p : List Key × V) (q : List Key × Addr × Value)=>p.1 = q.1 /\ H q.2.1 = some (.tup (p.1.map kV)) /\ RelV p.2 q.2.2) kvs xs /\
    ∃ o es ep,h.get? a = some o /\ o.ExactDict /\ o.data = .dict es ep /\ es.toList = xs.map (entryOfKey (tupleKind (zaZ P w))) /\ (xs.map (·.1)).Nodup
 | .set S n=>h.SetOf (intKind P w) a S n
 | .ins C dx fs=>H dx = some (.own a) /\ fs.length <= 1000 /\ dx ≠ a /\ h.get? a = some (PySem.W.instObj C dx) /\
    ∃ mA,h.Ns1 dx mA /\ (∀ f,RelO (fs.lookup f) (mA f)) /\ PySem.Within mA (fs.map (·.1))
 | .own _=>∃ o,h.get? a = some o
 | .xd fs=>∃ mA,h.Ns1 a mA /\ ∀ f,RelO (fs.lookup f) (mA f)
 | .rng lo hi=>∃ t u v,h.get? a = some { cls:=.type "range",data:=.fields #[.int lo t,.int hi u,.int 1 v] }
 | .frz o u=>h.get? a = some o /\ zbX H h a u
 | .tbl ps=>h.get? a = some { cls:=.none,data:=.fields ps }
 | .met f x=>h.get? a = some (PySem.W.methodObj (.ref f) (.ref x))
 | .ext φ=>φ h /\ (∃ o,h.get? a = some o) /\ ∀ h1 h2 : Heap,φ h1 -> (∀ o,h1.get? a = some o -> h2.get? a = some o) -> φ h2
def HOk (H : Hp) (h : Heap) : Prop:=∀ a o,H a = some o -> zbX P w H h a o
end
section
variable {P : Program} {w : World} {H H' : Hp} {h h' : Heap} {a : Addr} {o : HO}
theorem zbX.lt (x : zbX P w H h a o) : a < h.objs.size:=by
 cases o with
 | lst xs=>obtain ⟨_,_,_,_,e⟩:=x; exact Heap.lt_size e
 | tup xs=>obtain ⟨_,_,_,p⟩:=x; exact p.lt
 | dK kvs=>obtain ⟨_,_,_,_,o,_,_,e,_⟩:=x; exact Heap.lt_size e
 | dT kvs=>obtain ⟨_,_,_,_,o,_,_,e,_⟩:=x; exact Heap.lt_size e
 | set S n=>obtain ⟨o,_,_,_,e,_⟩:=x; exact Heap.lt_size e
 | ins C dx fs=>obtain ⟨_,_,_,e,_⟩:=x; exact Heap.lt_size e
 | own y=>obtain ⟨_,e⟩:=x; exact Heap.lt_size e
 | xd fs=>obtain ⟨_,⟨_,_,_,e,_⟩,_⟩:=x; exact Heap.lt_size e
 | rng lo hi=>obtain ⟨_,_,_,e⟩:=x; exact Heap.lt_size e
 | frz ob u=>obtain ⟨e,_⟩:=x; exact Heap.lt_size e
 | tbl ps=>exact Heap.lt_size (show h.get? a = some _ from x)
 | met f y=>exact Heap.lt_size (show h.get? a = some _ from x)
 | ext φ=>obtain ⟨_,⟨_,e⟩,_⟩:=x; exact Heap.lt_size e
theorem Paired.mapP {α β : Type} {F G : α -> β -> Prop} : ∀ {l₁ : List α} {l₂ : List β},Paired F l₁ l₂ -> (∀ a b,F a b -> G a b) -> Paired G l₁ l₂
 | _,_,.nil,_=>.nil
 | _,_,.cons r t,f=>.cons (f _ _ r) (Paired.mapP t f)
theorem zbX.stay (x : zbX P w H h a o) (k : ∀ b u,(b = a \/ H b = some (.own a)) -> h.get? b = some u -> h'.get? b = some u)
 (ho : ∀ b,H b = some (.own a) -> H' b = some (.own a)) (ht : ∀ b xs,H b = some (.tup xs) -> H' b = some (.tup xs)) : zbX P w H' h' a o:=by
 induction o with
 | lst xs=>obtain ⟨z,its,n,r,e⟩:=x; exact ⟨z,its,n,r,k _ _ (.inl rfl) e⟩
 | tup xs=>obtain ⟨z,its,r,ob,e,c⟩:=x; exact ⟨z,its,r,ob,k _ _ (.inl rfl) e,c⟩
 | dK kvs=>obtain ⟨z,y,vs,r,ob,es,ep,e,c⟩:=x; exact ⟨z,y,vs,r,ob,es,ep,k _ _ (.inl rfl) e,c⟩
 | dT kvs =>
   obtain ⟨z,y,xs,r,ob,es,ep,e,c⟩:=x
   exact ⟨z,y,xs,Paired.mapP r fun p q z=>⟨z.1,ht _ _ z.2.1,z.2.2⟩,ob,es,ep,k _ _ (.inl rfl) e,c⟩
 | set S n=>obtain ⟨ob,es,ep,t,e,c⟩:=x; exact ⟨ob,es,ep,t,k _ _ (.inl rfl) e,c⟩
 | ins C dx fs =>
   obtain ⟨d,z,ne,e,mA,⟨od,es,ep,e2,c⟩,r⟩:=x
   exact ⟨ho _ d,z,ne,k _ _ (.inl rfl) e,mA,⟨od,es,ep,k _ _ (.inr d) e2,c⟩,r⟩
 | own y=>obtain ⟨ob,e⟩:=x; exact ⟨ob,k _ _ (.inl rfl) e⟩
 | xd fs=>obtain ⟨mA,⟨od,es,ep,e,c⟩,r⟩:=x; exact ⟨mA,⟨od,es,ep,k _ _ (.inl rfl) e,c⟩,r⟩
 | rng lo hi=>obtain ⟨t,u,v,e⟩:=x; exact ⟨t,u,v,k _ _ (.inl rfl) e⟩
 | frz ob u ih=>obtain ⟨e,q⟩:=x; exact ⟨k _ _ (.inl rfl) e,ih q⟩
 | tbl ps =>
   have e : h.get? a = some { cls:=.none,data:=.fields ps }:=x
   show h'.get? a = some { cls:=.none,data:=.fields ps }
   exact k a _ (.inl rfl) e
 | met f y =>
   have e : h.get? a = some (PySem.W.methodObj (.ref f) (.ref y)):=x
   show h'.get? a = some (PySem.W.methodObj (.ref f) (.ref y))
   exact k a _ (.inl rfl) e
 | ext φ=>obtain ⟨p,⟨o,e⟩,st⟩:=x; exact ⟨st _ _ p fun o q=>k _ _ (.inl rfl) q,⟨o,k _ _ (.inl rfl) e⟩,st⟩
theorem HOk.lt (x : HOk P w H h) (e : H a = some o) : a < h.objs.size:=(x a o e).lt
theorem HOk.fresh (x : HOk P w H h) (e : h.objs.size <= a) : H a = none:=by
 cases q : H a with
 | none=>rfl
 | some u=>exact absurd (Nat.lt_of_lt_of_le (x.lt q) e) (Nat.lt_irrefl _)
theorem HOk.kept (x : HOk P w H h) (k : ∀ b u,h.get? b = some u -> h'.get? b = some u) : HOk P w H h':=fun a o e =>
 (x a o e).stay (fun b u _ q=>k b u q) (fun _ q=>q) fun _ _ q=>q
theorem HOk.laid (x : HOk P w H h) (k : ∀ b u,h.get? b = some u -> h'.get? b = some u) (hp : h.objs.size <= a) (new : zbX P w (upd H a o) h' a o) : HOk P w (upd H a o) h':=fun b u e=>by
 have hn:=x.fresh hp
 by_cases hb : b = a
 ·subst hb; rw [upd_same] at e; cases e; exact new
 ·rw [zai hb] at e
  exact (x b u e).stay (fun c v _ q=>k c v q) (fun c q=>by rw [zai (zaq q hn)]; exact q) fun c xs q=>by rw [zai (zaq q hn)]; exact q
end
def Rd (H : Hp) (a : Addr) (u : HO) : Prop:=H a = some u \/ ∃ o,H a = some (.frz o u)
theorem Rd.of {H : Hp} {a : Addr} {u : HO} (h : H a = some u) : Rd H a u:=.inl h
theorem Rd.ok {P : Program} {w : World} {H : Hp} {h : Heap} {a : Addr} {u : HO} (r : Rd H a u) (x : HOk P w H h) : zbX P w H h a u:=by
 rcases r with r | ⟨o,r⟩
 ·exact x a u r
 ·obtain ⟨_,q⟩:=x a _ r
  exact q
def Mut : Option HO -> Prop
 | some (.lst _)=>True
 | some (.dK _)=>True
 | some (.dT _)=>True
 | some (.set _ _)=>True
 | some (.ins _ _ _)=>True
 | some (.ext _)=>True
 | _=>False
section
variable {P : Program} {w : World} {H : Hp} {h h' : Heap} {x e : Addr} {o' : HO}
theorem HOk.write (ok : HOk P w H h) (mu : Mut (H x)) (he : e = x \/ H e = some (.own x)) (k : ∀ b u,b ≠ e -> h.get? b = some u -> h'.get? b = some u) (heo : ∃ u,h'.get? e = some u)
 (new : zbX P w (upd H x o') h' x o') : HOk P w (upd H x o') h':=fun b u q=>by
 have nown : ∀ c y,H c = some (.own y) -> c ≠ x:=fun c y r z=>by subst z; rw [r] at mu; exact mu
 have ntup : ∀ c xs,H c = some (.tup xs) -> c ≠ x:=fun c xs r z=>by subst z; rw [r] at mu; exact mu
 by_cases hb : b = x
 ·subst hb; rw [upd_same] at q; cases q; exact new
 ·rw [zai hb] at q
  by_cases hbe : b = e
  ·have q' : H b = some (.own x):=by
    rcases he with z | z
    ·exact absurd (hbe.trans z) hb
    ·rw [hbe]; exact z
   rw [q] at q'; cases q'
   obtain ⟨v,hv⟩:=heo
   exact ⟨v,by rw [hbe]; exact hv⟩
  ·refine (ok b u q).stay (fun c v hc r=>k c v ?_ r) (fun c r=>by rw [zai (nown c b r)]; exact r) fun c xs r=>by rw [zai (ntup c xs r)]; exact r
   rcases hc with rfl | hc
   ·exact hbe
   ·rintro rfl
    rcases he with z | z
    ·exact nown c b hc z
    ·rw [hc] at z; cases z; exact hb rfl
end
structure Un (fs ex : List Addr) (H H' : Hp) (h h' : Heap) : Prop where
 keep : ∀ b o,h.get? b = some o -> H b = none -> b ∉ fs -> b ∉ ex -> h'.get? b = some o
 slot : ∀ b o,h.get? b = some o -> H b = none -> b ∈ fs -> b ∉ ex -> ∃ sl,h'.get? b = some { o with slots:=sl }
 free : ∀ b o,h.get? b = some o -> H b = none -> b ∉ ex -> H' b = none
 there : ∀ b o,h.get? b = some o -> b ∉ ex -> ∃ o',h'.get? b = some o'
 tups : ∀ b xs,H b = some (.tup xs) -> H' b = some (.tup xs)
 frzs : ∀ b o u,H b = some (.frz o u) -> H' b = some (.frz o u)
 tbls : ∀ b ps,H b = some (.tbl ps) -> ∃ more,H' b = some (.tbl (ps ++ more))
section
variable {fs fs' ex ex' : List Addr} {H H1 H2 : Hp} {h h1 h2 h' : Heap} {a x e : Addr} {o : HO}
theorem Un.any (u : Un fs ex H H1 h h1) {b : Addr} {ob : Obj} (q : h.get? b = some ob) (n : H b = none) (hx : b ∉ ex) : ∃ sl,h1.get? b = some { ob with slots:=sl }:=by
 by_cases hb : b ∈ fs
 ·exact u.slot b ob q n hb hx
 ·exact ⟨ob.slots,u.keep b ob q n hb hx⟩
theorem Un.trans (a : Un fs ex H H1 h h1) (b : Un fs ex H1 H2 h1 h2) : Un fs ex H H2 h h2 where
 keep:=fun c ob q n hc hx=>b.keep c ob (a.keep c ob q n hc hx) (a.free c ob q n hx) hc hx
 slot:=fun c ob q n hc hx=>by
  obtain ⟨sl,e1⟩:=a.slot c ob q n hc hx
  obtain ⟨sl',e2⟩:=b.slot c _ e1 (a.free c ob q n hx) hc hx
  exact ⟨sl',e2⟩
 free:=fun c ob q n hx=>by
  obtain ⟨o',e1⟩:=a.there c ob q hx
  exact b.free c o' e1 (a.free c ob q n hx) hx
 there:=fun c ob q hx=>by
  obtain ⟨o',e1⟩:=a.there c ob q hx
  exact b.there c o' e1 hx
 tups:=fun c xs q=>b.tups c xs (a.tups c xs q)
 frzs:=fun c ob xs q=>b.frzs c ob xs (a.frzs c ob xs q)
 tbls:=fun c ps q=>by
  obtain ⟨m1,e1⟩:=a.tbls c ps q
  obtain ⟨m2,e2⟩:=b.tbls c _ e1
  exact ⟨m1 ++ m2,by rw [e2,Array.append_assoc]⟩
theorem Un.kept (k : ∀ b u,h.get? b = some u -> h'.get? b = some u) : Un fs ex H H h h' :=
 ⟨fun b ob q _ _ _=>k b ob q,fun b ob q _ _ _=>⟨ob.slots,k b ob q⟩,fun _ _ _ n _=>n,fun b ob q _=>⟨ob,k b ob q⟩,fun _ _ q=>q,fun _ _ _ q=>q,fun _ ps q=>⟨#[],by rw [q]; simp⟩⟩
theorem Un.refl : Un fs ex H H h h:=Un.kept fun _ _ q=>q
theorem Un.laid (k : ∀ b u,h.get? b = some u -> h'.get? b = some u) (hp : h.objs.size <= a) (hn : H a = none) : Un fs ex H (upd H a o) h h' where
 keep:=fun b u q _ _ _=>k b u q
 slot:=fun b u q _ _ _=>⟨u.slots,k b u q⟩
 free:=fun b u q n _=>by rw [zai (Nat.ne_of_lt (Nat.lt_of_lt_of_le (Heap.lt_size q) hp))]; exact n
 there:=fun b u q _=>⟨u,k b u q⟩
 tups:=fun b xs q=>by rw [zai (zaq q hn)]; exact q
 frzs:=fun b u xs q=>by rw [zai (zaq q hn)]; exact q
 tbls:=fun b ps q=>⟨#[],by rw [zai (zaq q hn),q]; simp⟩
theorem Un.write (mu : Mut (H x)) (he : e = x \/ H e = some (.own x)) (k : ∀ b u,b ≠ e -> h.get? b = some u -> h'.get? b = some u) (heo : ∃ u,h'.get? e = some u) : Un fs ex H (upd H x o) h h':=by
 have hx : ∀ b,H b = none -> b ≠ x:=fun b n z=>by subst z; rw [n] at mu; exact mu
 have hb : ∀ b,H b = none -> b ≠ e:=fun b n z=>by
  subst z
  rcases he with r | r
  ·exact hx b n r
  ·rw [n] at r; cases r
 have hm : ∀ b u,H b = some u -> ¬ Mut (some u) -> b ≠ x:=fun b u q nm z=>by subst z; rw [q] at mu; exact nm mu
 refine ⟨fun b u q n _ _=>k b u (hb b n) q,fun b u q n _ _=>⟨u.slots,k b u (hb b n) q⟩,fun b u q n _=>by rw [zai (hx b n)]; exact n,fun b u q _=>?_,
  fun b xs q=>by rw [zai (hm b _ q fun z=>z)]; exact q,fun b u xs q=>by rw [zai (hm b _ q fun z=>z)]; exact q,fun b ps q=>⟨#[],by rw [zai (hm b _ q fun z=>z),q]; simp⟩⟩
 by_cases hbe : b = e
 ·subst hbe; exact heo
 ·exact ⟨u,k b u hbe q⟩
end
def trk (h : Heap) (H : Hp) : List Addr:=(List.range h.objs.size).filter fun a=>(H a).isSome
def hidT (h : Heap) (H : Hp) : Heap:=PySem.W.hideAll h (trk h H)
theorem zlm (h : Heap) (H : Hp) : (hidT h H).objs.size = h.objs.size:=PySem.W.hideAll_size _ _
theorem zmf {h : Heap} {H : Hp} {b : Addr} {o : Obj} (e : h.get? b = some o) (n : H b = none) : (hidT h H).get? b = some o :=
 PySem.W.hideAll_get _ e fun hm=>by
  have q : (H b).isSome = true:=(List.mem_filter.mp hm).2
  rw [n] at q; simp at q
theorem znM {h : Heap} {H : Hp} {b : Addr} {o : Obj} (e : (hidT h H).get? b = some o) : h.get? b = some o /\ H b = none:=by
 have e' : h.get? b = some o:=PySem.W.of_hideAll (trk h H) e
 refine ⟨e',?_⟩
 cases q : H b with
 | none=>rfl
 | some x =>
   have hm : b ∈ trk h H:=List.mem_filter.mpr ⟨List.mem_range.mpr (Heap.lt_size e'),by simp [q]⟩
   have z : (hidT h H).get? b = none:=PySem.W.hideAll_none (trk h H) hm
   rw [z] at e; cases e
def zoz (g h : Heap) (L : Addr) : List (Addr × Obj):=(List.range h.objs.size).filterMap fun a=>if a = L \/ (g.get? a).isSome = true then none else (h.get? a).map fun o=>(a,o)
def rest (g h : Heap) (L d : Addr) : List (Addr × Obj):=(zoz g h L).filter fun p=>decide (p.1 ≠ d)
end L2
namespace L2
open PySem PySem.Spec PyProof.Rows
structure Mod (K : PySem.W.Frag) (mg : Str -> Option Value) (base : Heap) : Prop where
 kin : K.In base
 glob : base.Ns mainGlobals mg
 blt : ∃ mb,base.Ns builtinsNs mb /\ ∀ x : Str,x ≠ "__name__" -> mb x = bootBuiltins x
 nolimit : base.NoLimit
structure Cx where
 prog : Program
 w : World
 K : PySem.W.Frag
 mg : Str -> Option Value
 base : Heap
 A : Around
 N : List Str
 s₀ : Shared
 H₀ : Hp
 env : Env
 outer : List Env
 stack : List Env
 ex : List Addr
 fn : Str -> Bool
 calm : Bool
 pn : List (Addr × Obj)
 xe : Value -> Shared -> Prop
def frs (l : List Env) : List Addr:=l.filterMap (·.frame)
abbrev Cx.fs (X : Cx) : List Addr:=frs X.outer
def Vis (sc : Scope) (x : Str) : Prop:=sc.names.lookup x = some .local \/ sc.names.lookup x = some .cell \/ sc.names.lookup x = some .free
def Loc (sc : Scope) (x : Str) : Prop:=sc.names.lookup x = some .local \/ sc.names.lookup x = some .cell
def Look (env : Env) (h : Heap) (m : Str -> Option Value) (x : Str) (u : Value) : Prop :=
 (env.kindOf x = some .local /\ m x = some u) \/ ((env.kindOf x = some .cell \/ env.kindOf x = some .free) /\ ∃ c,env.cells.lookup x = some c /\ h.IsCell c (some u))
structure Cx.Ok (X : Cx) : Prop where
 mod : Mod X.K X.mg X.base
 kind : X.env.scope.kind = .function
 glob : X.env.globals = mainGlobals
 blt : X.env.builtins = builtinsNs
 above : X.s₀.heap.objs.size <= X.env.locals
 inj : ∀ x y c,X.env.cells.lookup x = some c -> X.env.cells.lookup y = some c -> x = y
 has : ∀ x,(X.env.kindOf x = some .cell \/ X.env.kindOf x = some .free) -> ∃ c,X.env.cells.lookup x = some c
 cab : ∀ x c,X.fn x = true -> X.env.cells.lookup x = some c -> X.s₀.heap.objs.size <= c
 hd : X.calm = true -> X.A.handled = none
 frames : X.A.frames = some X.stack
 stk : X.stack = X.outer \/ (X.stack = X.env :: X.outer /\ X.env.frame = some X.env.locals)
 exf : ∀ b ∈ X.ex,b ≠ X.env.locals /\ ∀ x c,X.env.cells.lookup x = some c -> c ≠ b
 bs : ∀ b o,X.base.get? b = some o -> X.s₀.heap.get? b = some o /\ X.H₀ b = none
 bsz : X.base.objs.size <= X.s₀.heap.objs.size
 noex : ∀ b o,X.base.get? b = some o -> b ∉ X.ex
 exfs : ∀ b ∈ X.ex,b ∉ X.fs
 funs : X.s₀.heap.FunFrames X.base X.outer
 frf : ∀ b ∈ X.fs,X.H₀ b = none
structure Inv (X : Cx) (pins : List (Addr × Obj)) (σ : List (Option V)) (H : Hp) (s : Shared) : Prop where
 ok : X.Ok
 os : s.os = X.s₀.os
 bare : AllBare s.gens
 base : Un X.fs X.ex X.H₀ H X.s₀.heap s.heap
 loc : ∃ m,s.heap.Ns X.env.locals m /\ ∀ (i : Nat) (x : Str) (v : V),X.N[i]? = some x -> σ[i]? = some (some v) -> Vis X.env.scope x -> ∃ u,RelV v u /\ Look X.env s.heap m x u
 cell : ∀ x c,X.env.cells.lookup x = some c -> ∃ v,s.heap.IsCell c v
 free : H X.env.locals = none
 freeC : ∀ x c,X.env.cells.lookup x = some c -> H c = none
 pin : ∀ p ∈ X.pn ++ pins,s.heap.get? p.1 = some p.2 /\ H p.1 = none /\ p.1 ≠ X.env.locals /\ p.1 ∉ X.fs /\ ∀ v,p.2.data ≠ .cell v
 hok : HOk X.prog X.w H s.heap
 len : σ.length = X.N.length
section
variable {X : Cx} {pins : List (Addr × Obj)} {σ : List (Option V)} {H H' : Hp} {s : Shared} {h' : Heap}
theorem Cx.Ok.nofr (ok : X.Ok) {b : Addr} {o : Obj} (e : X.base.get? b = some o) : b ∉ X.fs:=fun hb=>by
 have:=(ok.funs.mem hb).1
 rw [e] at this; cases this
theorem Inv.bs (I : Inv X pins σ H s) : ∀ b o,X.base.get? b = some o -> s.heap.get? b = some o /\ H b = none:=fun b o e =>
 ⟨I.base.keep b o (I.ok.bs b o e).1 (I.ok.bs b o e).2 (I.ok.nofr e) (I.ok.noex b o e),I.base.free b o (I.ok.bs b o e).1 (I.ok.bs b o e).2 (I.ok.noex b o e)⟩
theorem Inv.bk (I : Inv X pins σ H s) : ∀ b o,X.base.get? b = some o -> s.heap.get? b = some o:=fun b o e=>(I.bs b o e).1
theorem Inv.mod (I : Inv X pins σ H s) : Mod X.K X.mg X.base:=I.ok.mod
theorem Inv.kIn (I : Inv X pins σ H s) : X.K.In s.heap:=I.ok.mod.kin.keeps I.bk
theorem Inv.nolimit (I : Inv X pins σ H s) : s.heap.NoLimit:=I.ok.mod.nolimit.keeps I.bk
theorem Inv.fr (I : Inv X pins σ H s) : ∃ m,Fr X.base X.env.locals s.heap m :=
 let ⟨m,hn,_⟩:=I.loc
 ⟨m,hn,I.bk,Nat.le_trans I.ok.bsz I.ok.above⟩
theorem Inv.lt (I : Inv X pins σ H s) : X.env.locals < s.heap.objs.size:=let ⟨_,hn,_⟩:=I.loc; hn.lt
theorem Inv.sz (I : Inv X pins σ H s) : X.s₀.heap.objs.size <= s.heap.objs.size:=Nat.le_trans I.ok.above (Nat.le_of_lt I.lt)
theorem Inv.nofs (I : Inv X pins σ H s) {a : Addr} (h : s.heap.objs.size <= a) : a ∉ X.fs:=fun hb=>by
 obtain ⟨_,o,ho,_⟩:=I.ok.funs.mem hb
 exact absurd (Nat.lt_of_lt_of_le (Heap.lt_size ho) (Nat.le_trans I.sz h)) (Nat.lt_irrefl _)
theorem Inv.cne (I : Inv X pins σ H s) : ∀ x c,X.env.cells.lookup x = some c -> c ≠ X.env.locals:=fun x c e z=>by
 obtain ⟨v,o,ho,hd⟩:=I.cell x c e
 obtain ⟨m,⟨o',es,ep,ho',hd',_⟩,_⟩:=I.loc
 rw [z,ho'] at ho; cases ho; rw [hd'] at hd; cases hd
theorem Inv.funs (I : Inv X pins σ H s) : s.heap.FunFrames X.base X.outer:=by
 have all : ∀ (l : List Env),(∀ b ∈ frs l,b ∈ X.fs) -> X.s₀.heap.FunFrames X.base l -> s.heap.FunFrames X.base l:=by
  intro l
  induction l with
  | nil=>intro _ _; trivial
  | cons env r ih =>
    intro hs hl
    obtain ⟨hk,⟨L,o,hf,hn,ho,hd⟩,hr⟩:=hl
    have hL : L ∈ X.fs:=hs L (by unfold frs; rw [List.filterMap_cons,hf]; exact List.mem_cons_self)
    obtain ⟨sl,e⟩:=I.base.slot L o ho (I.ok.frf L hL) hL fun z=>I.ok.exfs L z hL
    exact ⟨hk,⟨L,_,hf,hn,e,hd⟩,ih (fun b hb=>hs b (by unfold frs; rw [List.filterMap_cons,hf]; exact List.mem_cons_of_mem _ hb)) hr⟩
 exact all X.outer (fun _ hb=>hb) I.ok.funs
theorem Inv.stack (I : Inv X pins σ H s) : s.heap.FunFrames X.base X.stack:=by
 rcases I.ok.stk with e | ⟨e,hf⟩
 ·rw [e]; exact I.funs
 ·rw [e]
  obtain ⟨m,hn,_⟩:=I.loc
  refine .cons (by rw [I.ok.kind]; decide) hf hn ?_ I.funs
  exact Heap.get?_none_of_le (Nat.le_trans I.ok.bsz I.ok.above)
theorem Inv.stkSub (I : Inv X pins σ H s) : ∀ b ∈ frs X.stack,b ∈ X.env.locals :: X.fs:=fun b hb=>by
 rcases I.ok.stk with e | ⟨e,hf⟩
 ·rw [e] at hb; exact List.mem_cons_of_mem _ hb
 ·rw [e] at hb
  unfold frs at hb
  rw [List.filterMap_cons,hf] at hb
  exact hb
theorem Inv.stkFree (I : Inv X pins σ H s) : ∀ b ∈ frs X.stack,H b = none:=fun b hb=>by
 rcases List.mem_cons.mp (I.stkSub b hb) with e | hb
 ·rw [e]; exact I.free
 ·obtain ⟨_,o,ho,_⟩:=I.ok.funs.mem hb
  exact I.base.free b o ho (I.ok.frf b hb) fun z=>I.ok.exfs b z hb
theorem Inv.step {g' : Array GenState} {t' : Nat} {d' : Drawn} {ch : List Addr} (I : Inv X pins σ H s)
 (hch : ∀ b ∈ ch,(b ∈ X.ex \/ X.s₀.heap.objs.size <= b) /\ b ≠ X.env.locals /\ (∀ x c,X.env.cells.lookup x = some c -> c ≠ b) /\ ∀ p ∈ X.pn ++ pins,p.1 ≠ b)
 (keep : ∀ b o,b ≠ X.env.locals -> b ∉ X.fs -> b ∉ ch -> s.heap.get? b = some o -> H b = none -> h'.get? b = some o)
 (slot : ∀ b o,b ≠ X.env.locals -> b ∈ X.fs -> b ∉ ch -> s.heap.get? b = some o -> H b = none -> ∃ sl,h'.get? b = some { o with slots:=sl }) (free : ∀ b o,b ∉ ch -> s.heap.get? b = some o -> H b = none -> H' b = none)
 (there : ∀ b o,b ∉ ch -> s.heap.get? b = some o -> ∃ o',h'.get? b = some o')
 (tups : ∀ b xs,H b = some (.tup xs) -> H' b = some (.tup xs)) (frzs : ∀ b o u,H b = some (.frz o u) -> H' b = some (.frz o u)) (tbls : ∀ b ps,H b = some (.tbl ps) -> ∃ more,H' b = some (.tbl (ps ++ more)))
 (ns : ∀ m,s.heap.Ns X.env.locals m -> h'.Ns X.env.locals m) (hok : HOk X.prog X.w H' h') (hg : AllBare g') :
 Inv X pins σ H' { s with heap:=h',gens:=g',drawn:=d',toks:=t' }:=by
 have neL : ∀ b o,X.s₀.heap.get? b = some o -> b ≠ X.env.locals:=fun b o e=>Nat.ne_of_lt (Nat.lt_of_lt_of_le (Heap.lt_size e) I.ok.above)
 have neC : ∀ b o,X.s₀.heap.get? b = some o -> b ∉ X.ex -> b ∉ ch:=fun b o e hx hb=>by
  rcases (hch b hb).1 with z | z
  ·exact hx z
  ·exact absurd (Nat.lt_of_lt_of_le (Heap.lt_size e) z) (Nat.lt_irrefl _)
 have cellK : ∀ x c,X.env.cells.lookup x = some c -> ∀ v,s.heap.IsCell c v -> h'.IsCell c v:=fun x c e v ⟨o,ho,hd⟩=>by
  have nch : c ∉ ch:=fun z=>(hch c z).2.2.1 x c e rfl
  by_cases hc : c ∈ X.fs
  ·obtain ⟨sl,q⟩:=slot c o (I.cne x c e) hc nch ho (I.freeC x c e)
   exact ⟨_,q,hd⟩
  ·exact ⟨o,keep c o (I.cne x c e) hc nch ho (I.freeC x c e),hd⟩
 refine ⟨I.ok,I.os,hg,⟨fun b o e n hb hx=>?_,fun b o e n hb hx=>?_,fun b o e n hx=>?_,fun b o e hx=>?_,fun b xs e=>tups b xs (I.base.tups b xs e),fun b o xs e=>frzs b o xs (I.base.frzs b o xs e),fun b ps e=>?_⟩,?_,fun x c e=>?_,?_,fun x c e=>?_,fun p hp=>?_,hok,I.len⟩
 ·exact keep b o (neL b o e) hb (neC b o e hx) (I.base.keep b o e n hb hx) (I.base.free b o e n hx)
 ·obtain ⟨sl,e1⟩:=I.base.slot b o e n hb hx
  obtain ⟨sl',e2⟩:=slot b _ (neL b o e) hb (neC b o e hx) e1 (I.base.free b o e n hx)
  exact ⟨sl',e2⟩
 ·obtain ⟨o',e1⟩:=I.base.there b o e hx
  exact free b o' (neC b o e hx) e1 (I.base.free b o e n hx)
 ·obtain ⟨o',e1⟩:=I.base.there b o e hx
  exact there b o' (neC b o e hx) e1
 ·obtain ⟨m1,e1⟩:=I.base.tbls b ps e
  obtain ⟨m2,e2⟩:=tbls b _ e1
  exact ⟨m1 ++ m2,by rw [e2,Array.append_assoc]⟩
 ·obtain ⟨m,hn,hl⟩:=I.loc
  refine ⟨m,ns m hn,fun i x v e1 e2 e3=>?_⟩
  obtain ⟨u,r,l⟩:=hl i x v e1 e2 e3
  refine ⟨u,r,?_⟩
  rcases l with l | ⟨k,c,e,z⟩
  ·exact .inl l
  ·exact .inr ⟨k,c,e,cellK x c e _ z⟩
 ·obtain ⟨v,z⟩:=I.cell x c e
  exact ⟨v,cellK x c e v z⟩
 ·obtain ⟨m,⟨o,_,_,ho,_⟩,_⟩:=I.loc
  exact free _ o (fun z=>(hch _ z).2.1 rfl) ho I.free
 ·obtain ⟨v,o,ho,hd⟩:=I.cell x c e
  exact free c o (fun z=>(hch c z).2.2.1 x c e rfl) ho (I.freeC x c e)
 ·obtain ⟨e,n,ne,nf,d⟩:=I.pin p hp
  have nch : p.1 ∉ ch:=fun z=>(hch p.1 z).2.2.2 p hp rfl
  exact ⟨keep p.1 p.2 ne nf nch e n,free p.1 p.2 nch e n,ne,nf,d⟩
theorem Inv.un {t' : Nat} (I : Inv X pins σ H s) (u : Un X.fs [] H H' s.heap h') (hok : HOk X.prog X.w H' h') : Inv X pins σ H' { s with heap:=h',toks:=t' }:=by
 obtain ⟨m,⟨o,es,ep,ho,r⟩,_⟩:=id I.loc
 obtain ⟨sl,hL⟩:=u.any ho I.free (by simp)
 exact I.step (g':=s.gens) (d':=s.drawn) (ch:=[]) (fun _ z=>nomatch z) (fun b o _ hb _ e n=>u.keep b o e n hb (by simp)) (fun b o _ hb _ e n=>u.slot b o e n hb (by simp)) (fun b o _ e n=>u.free b o e n (by simp)) (fun b o _ e=>u.there b o e (by simp)) u.tups u.frzs u.tbls (fun m' hm=>by
  obtain ⟨o',es',ep',ho',r'⟩:=hm
  rw [ho] at ho'; cases ho'
  exact ⟨_,es',ep',hL,r'⟩) hok I.bare
theorem Inv.call {g' : Array GenState} {t' : Nat} {d' : Drawn} {ch : List Addr} (I : Inv X pins σ H s) (u : Un (frs X.stack) ch H H' s.heap h') (hok : HOk X.prog X.w H' h') (hg : AllBare g')
 (hch : ∀ b ∈ ch,(b ∈ X.ex \/ X.s₀.heap.objs.size <= b) /\ b ≠ X.env.locals /\ (∀ x c,X.env.cells.lookup x = some c -> c ≠ b) /\ ∀ p ∈ X.pn ++ pins,p.1 ≠ b) :
 Inv X pins σ H' { s with heap:=h',gens:=g',drawn:=d',toks:=t' }:=by
 obtain ⟨m,⟨o,es,ep,ho,r⟩,_⟩:=id I.loc
 obtain ⟨sl,hL⟩:=u.any ho I.free fun z=>(hch _ z).2.1 rfl
 exact I.step (ch:=ch) hch (fun b o hL hb hc e n=>u.keep b o e n (fun z=>(List.mem_cons.mp (I.stkSub b z)).elim hL hb) hc) (fun b o _ _ hc e n=>u.any e n hc) (fun b o hc e n=>u.free b o e n hc) (fun b o hc e=>u.there b o e hc) u.tups u.frzs u.tbls (fun m' hm=>by
  obtain ⟨o',es',ep',ho',r'⟩:=hm
  rw [ho] at ho'; cases ho'
  exact ⟨_,es',ep',hL,r'⟩) hok hg
theorem Inv.turned {t' : Nat} {it : Addr} (I : Inv X pins σ H s) (k : ∀ b o,b ≠ it -> s.heap.get? b = some o -> h'.get? b = some o) (hn : H it = none) (hL : it ≠ X.env.locals)
 (h1 : it ∈ X.ex \/ X.s₀.heap.objs.size <= it) (h2 : ∀ x c,X.env.cells.lookup x = some c -> c ≠ it) (h3 : ∀ p ∈ X.pn ++ pins,p.1 ≠ it) : Inv X pins σ H { s with heap:=h',toks:=t' }:=by
 have nit : ∀ b u,H b = some u -> b ≠ it:=fun b u e z=>by rw [z,hn] at e; cases e
 refine I.step (g':=s.gens) (d':=s.drawn) (ch:=[it]) (fun b hb=>?_) (fun b o _ _ hc e _=>k b o (fun z=>hc (by simp [z])) e) (fun b o _ _ hc e _=>⟨o.slots,k b o (fun z=>hc (by simp [z])) e⟩) (fun _ _ _ _ n=>n)
  (fun b o hc e=>⟨o,k b o (fun z=>hc (by simp [z])) e⟩) (fun _ _ e=>e) (fun _ _ _ e=>e) (fun b ps e=>⟨#[],by rw [e]; simp⟩) (fun m hm=>?_) (fun b u e=>?_) I.bare
 ·have e : b = it:=by simpa using hb
  subst e
  exact ⟨h1,hL,h2,h3⟩
 ·obtain ⟨o,es,ep,ho,r⟩:=hm
  exact ⟨o,es,ep,k _ o (Ne.symm hL) ho,r⟩
 ·refine (I.hok b u e).stay (fun c v hc q=>k c v ?_ q) (fun _ q=>q) fun _ _ q=>q
  rcases hc with z | z
  ·rw [z]; exact nit b u e
  ·exact nit c _ z
theorem Inv.tok (I : Inv X pins σ H s) (t : Nat) : Inv X pins σ H { s with toks:=t }:=I.un (h':=s.heap) (t':=t) Un.refl I.hok
theorem Inv.kept {t' : Nat} (I : Inv X pins σ H s) (k : ∀ b u,s.heap.get? b = some u -> h'.get? b = some u) : Inv X pins σ H { s with heap:=h',toks:=t' }:=I.un (Un.kept k) (I.hok.kept k)
theorem Inv.laid {a : Addr} {o : HO} {t' : Nat} (I : Inv X pins σ H s) (k : ∀ b u,s.heap.get? b = some u -> h'.get? b = some u) (hp : s.heap.objs.size <= a) (new : zbX X.prog X.w (upd H a o) h' a o) :
 Inv X pins σ (upd H a o) { s with heap:=h',toks:=t' }:=I.un (Un.laid k hp (I.hok.fresh hp)) (I.hok.laid k hp new)
theorem Inv.write {x e : Addr} {o : HO} {t' : Nat} (I : Inv X pins σ H s) (mu : Mut (H x)) (he : e = x \/ H e = some (.own x)) (k : ∀ b u,b ≠ e -> s.heap.get? b = some u -> h'.get? b = some u) (heo : ∃ u,h'.get? e = some u)
 (new : zbX X.prog X.w (upd H x o) h' x o) : Inv X pins σ (upd H x o) { s with heap:=h',toks:=t' }:=I.un (Un.write mu he k heo) (I.hok.write mu he k heo new)
theorem Inv.pins_of {pins' : List (Addr × Obj)} (I : Inv X pins σ H s) (h : ∀ p ∈ pins',s.heap.get? p.1 = some p.2 /\ H p.1 = none /\ p.1 ≠ X.env.locals /\ p.1 ∉ X.fs /\ ∀ v,p.2.data ≠ .cell v) : Inv X pins' σ H s :=
 ⟨I.ok,I.os,I.bare,I.base,I.loc,I.cell,I.free,I.freeC,fun p hp=>(List.mem_append.mp hp).elim (fun z=>I.pin p (List.mem_append_left _ z)) (h p),I.hok,I.len⟩
theorem zjH {N : List Str} (hN : N.Nodup) {i j : Nat} {x : Str} (a : N[i]? = some x) (b : N[j]? = some x) : i = j:=by
 obtain ⟨h1,e1⟩:=List.getElem?_eq_some_iff.mp a
 obtain ⟨h2,e2⟩:=List.getElem?_eq_some_iff.mp b
 exact (List.getElem_inj hN).mp (e1.trans e2.symm)
theorem zgO {M : Model} {A : Around} {E : Value -> Shared -> Prop} {i : Nat} {x : Str} {v : V} {u : Value} {Q : Unit -> Shared -> Prop} (I : Inv X pins σ H s) (hN : X.N.Nodup) (hi : X.N[i]? = some x) (hx : Loc X.env.scope x) (r : RelV v u)
 (h : ∀ s',Inv X pins (σ.set i (some v)) H s' -> (∃ a,Heap.SameBut a s.heap s'.heap /\ (a = X.env.locals \/ X.env.cells.lookup x = some a)) -> Q () s') (hf : X.fn x = true \/ X.env.scope.names.lookup x = some .local:=by first | exact .inl rfl | exact .inr rfl | assumption) : wpAny M A (storeName X.env x u) Q E s:=by
 obtain ⟨m,hn,hl⟩:=id I.loc
 have hcls : (X.env.scope.kind == .class || (X.env.scope.kind == .module && X.env.locals != X.env.globals)) = false:=by rw [I.ok.kind]; rfl
 have hiσ : i < σ.length:=by rw [I.len]; exact (List.getElem?_eq_some_iff.mp hi).1
 have cne:=I.cne
 have tracked : ∀ {a : Addr} {h' : Heap},(∃ o,s.heap.get? a = some o /\ H a = none) -> Heap.SameBut a s.heap h' -> HOk X.prog X.w H h':=fun {a h'} ha hs b ob e=>by
  obtain ⟨_,_,hfree⟩:=ha
  refine (I.hok b ob e).stay (fun c w' hc q=>(hs.2 c ?_).trans q) (fun _ q=>q) fun _ _ q=>q
  rintro rfl
  rcases hc with rfl | hc
  ·rw [hfree] at e; cases e
  ·rw [hfree] at hc; cases hc
 rcases hx with hk | hk
 ·refine wpAny_storeName_local hk hn (fun h' hn' hs=>?_) hcls
  obtain ⟨oL,_,_,hoL,_⟩:=id hn
  refine h _ ⟨I.ok,I.os,I.bare,⟨fun b o e n hb hx=>?_,fun b o e n hb hx=>?_,I.base.free,fun b o e hx=>?_,I.base.tups,I.base.frzs,I.base.tbls⟩,⟨_,hn',fun j y v' e1 e2 e3=>?_⟩,fun y c e=>?_,I.free,I.freeC,fun p hp=>?_,tracked ⟨oL,hoL,I.free⟩ hs,by simpa using I.len⟩ ⟨_,hs,.inl rfl⟩
  ·exact (hs.2 b (Nat.ne_of_lt (Nat.lt_of_lt_of_le (Heap.lt_size e) I.ok.above))).trans (I.base.keep b o e n hb hx)
  ·obtain ⟨sl,e1⟩:=I.base.slot b o e n hb hx
   exact ⟨sl,(hs.2 b (Nat.ne_of_lt (Nat.lt_of_lt_of_le (Heap.lt_size e) I.ok.above))).trans e1⟩
  ·obtain ⟨o',e1⟩:=I.base.there b o e hx
   exact ⟨o',(hs.2 b (Nat.ne_of_lt (Nat.lt_of_lt_of_le (Heap.lt_size e) I.ok.above))).trans e1⟩
  ·by_cases hj : j = i
   ·subst hj
    rw [hi] at e1; cases e1
    rw [List.getElem?_set_self hiσ] at e2
    cases e2
    exact ⟨u,r,.inl ⟨hk,by simp⟩⟩
   ·rw [List.getElem?_set_ne (Ne.symm hj)] at e2
    obtain ⟨u',r',q⟩:=hl j y v' e1 e2 e3
    refine ⟨u',r',?_⟩
    rcases q with ⟨k,e⟩ | ⟨k,c,e,z⟩
    ·refine .inl ⟨k,?_⟩
     have : y ≠ x:=fun e=>hj (zjH hN e1 (e ▸ hi))
     simp [this,e]
    ·exact .inr ⟨k,c,e,z.sameBut hs (cne y c e)⟩
  ·obtain ⟨w',z⟩:=I.cell y c e
   exact ⟨w',z.sameBut hs (cne y c e)⟩
  ·obtain ⟨e,n,ne,nf,d⟩:=I.pin p hp
   exact ⟨(hs.2 p.1 ne).trans e,n,ne,nf,d⟩
 ·have hfn : X.fn x = true:=by
   rcases hf with z | z
   ·exact z
   ·rw [z] at hk; cases hk
  obtain ⟨c,hc⟩:=I.ok.has x (.inl hk)
  obtain ⟨w',z⟩:=I.cell x c hc
  refine wpAny_storeName_cell I.ok.kind hk hc z (fun h' hc' hs=>?_)
  obtain ⟨oc,hoc,hocd⟩:=id z
  refine h { s with heap:=h' } ⟨I.ok,I.os,I.bare,⟨fun b o e n hb hx=>?_,fun b o e n hb hx=>?_,I.base.free,fun b o e hx=>?_,I.base.tups,I.base.frzs,I.base.tbls⟩,⟨m,hn.sameBut hs (Ne.symm (cne x c hc)),fun j y v' e1 e2 e3=>?_⟩,fun y c' e=>?_,I.free,I.freeC,fun p hp=>?_,tracked ⟨oc,hoc,I.freeC x c hc⟩ hs,by simpa using I.len⟩ ⟨c,hs,.inr hc⟩
  ·exact (hs.2 b (Nat.ne_of_lt (Nat.lt_of_lt_of_le (Heap.lt_size e) (I.ok.cab x c hfn hc)))).trans (I.base.keep b o e n hb hx)
  ·obtain ⟨sl,e1⟩:=I.base.slot b o e n hb hx
   exact ⟨sl,(hs.2 b (Nat.ne_of_lt (Nat.lt_of_lt_of_le (Heap.lt_size e) (I.ok.cab x c hfn hc)))).trans e1⟩
  ·obtain ⟨o',e1⟩:=I.base.there b o e hx
   exact ⟨o',(hs.2 b (Nat.ne_of_lt (Nat.lt_of_lt_of_le (Heap.lt_size e) (I.ok.cab x c hfn hc)))).trans e1⟩
  ·by_cases hj : j = i
   ·subst hj
    rw [hi] at e1; cases e1
    rw [List.getElem?_set_self hiσ] at e2
    cases e2
    exact ⟨u,r,.inr ⟨.inl hk,c,hc,hc'⟩⟩
   ·rw [List.getElem?_set_ne (Ne.symm hj)] at e2
    obtain ⟨u',r',q⟩:=hl j y v' e1 e2 e3
    refine ⟨u',r',?_⟩
    rcases q with q | ⟨k,c',e,z'⟩
    ·exact .inl q
    ·refine .inr ⟨k,c',e,z'.sameBut hs ?_⟩
     rintro rfl
     exact hj (zjH hN e1 (I.ok.inj _ _ _ e hc ▸ hi))
  ·by_cases hcc : c' = c
   ·subst hcc; exact ⟨_,hc'⟩
   ·obtain ⟨w2,z2⟩:=I.cell y c' e
    exact ⟨w2,z2.sameBut hs hcc⟩
  ·obtain ⟨e,n,ne,nf,d⟩:=I.pin p hp
   refine ⟨(hs.2 p.1 ?_).trans e,n,ne,nf,d⟩
   intro q
   rw [q,hoc] at e
   have q' : oc = p.2:=Option.some.inj e
   exact d w' (by rw [<- q']; exact hocd)
theorem zjc {M : Model} {A : Around} {E : Value -> Shared -> Prop} {i : Nat} {x : Str} {v : V} {u : Value} {Q : Unit -> Shared -> Prop} (I : Inv X pins σ H s) (hN : X.N.Nodup) (hi : X.N[i]? = some x) (hx : Loc X.env.scope x) (r : RelV v u)
 (h : ∀ s',Inv X pins (σ.set i (some v)) H s' -> Q () s') (hf : X.fn x = true \/ X.env.scope.names.lookup x = some .local:=by first | exact .inl rfl | exact .inr rfl | assumption) : wpAny M A (storeName X.env x u) Q E s :=
 zgO I hN hi hx r (fun s' I' _=>h s' I') hf
theorem Inv.call' {s' : Shared} {ch : List Addr} (I : Inv X pins σ H s) (ho : s'.os = s.os) (u : Un (frs X.stack) ch H H' s.heap s'.heap) (hok : HOk X.prog X.w H' s'.heap) (hg : AllBare s'.gens)
 (hch : ∀ b ∈ ch,(b ∈ X.ex \/ X.s₀.heap.objs.size <= b) /\ b ≠ X.env.locals /\ (∀ x c,X.env.cells.lookup x = some c -> c ≠ b) /\ ∀ p ∈ X.pn ++ pins,p.1 ≠ b) : Inv X pins σ H' s':=by
 obtain ⟨h',g',d',t',o'⟩:=s'
 have e : o' = s.os:=ho
 subst e
 exact I.call (g':=g') (t':=t') (d':=d') u hok hg hch
end
abbrev XK:=Value -> Option Addr -> Hp -> Prop
abbrev St:=List (Option V)
abbrev VK:=V -> Hp -> Prop
abbrev TE:=St -> Hp -> VK -> Prop
abbrev TT:=St -> Hp -> (Bool -> Hp -> Prop) -> Prop
abbrev TA:=St -> Hp -> (List V -> Hp -> Prop) -> Prop
structure Ends where
 nx : St -> Hp -> Prop
 rt : VK
 bk : St -> Hp -> Prop:=fun _ _=>False
 ct : St -> Hp -> Prop:=fun _ _=>False
abbrev TS:=Ends -> St -> Hp -> Prop
def EP (X : Cx) (pins : List (Addr × Obj)) (σ : St) (Q : VK) (u : Value) (s' : Shared) : Prop:=∃ v H',Inv X pins σ H' s' /\ RelV v u /\ Q v H'
def TP (X : Cx) (pins : List (Addr × Obj)) (σ : St) (Q : Bool -> Hp -> Prop) (b : Bool) (s' : Shared) : Prop:=∃ H',Inv X pins σ H' s' /\ Q b H'
def AP (X : Cx) (pins : List (Addr × Obj)) (σ : St) (Q : List V -> Hp -> Prop) (us : List Value) (s' : Shared) : Prop:=∃ vs H',Inv X pins σ H' s' /\ Vals vs us /\ Q vs H'
def SP (X : Cx) (pins : List (Addr × Obj)) (D : Ends) (f : Flow) (s' : Shared) : Prop :=
 match f with
 | .next=>∃ σ' H',Inv X pins σ' H' s' /\ D.nx σ' H'
 | .brk=>∃ σ' H',Inv X pins σ' H' s' /\ D.bk σ' H'
 | .cont=>∃ σ' H',Inv X pins σ' H' s' /\ D.ct σ' H'
 | .ret u=>∃ v σ' H',Inv X pins σ' H' s' /\ RelV v u /\ D.rt v H'
def PE (X : Cx) (e : Expr) (t : TE) : Prop :=
 ∀ (pins : List (Addr × Obj)) (s : Shared) (σ : St) (H : Hp) (Q : VK),Inv X pins σ H s -> t σ H Q -> wpAny (model X.prog X.w) X.A (eval e X.env) (EP X pins σ Q) X.xe s
def PT (X : Cx) (e : Expr) (t : TT) : Prop :=
 ∀ (pins : List (Addr × Obj)) (s : Shared) (σ : St) (H : Hp) (Q : Bool -> Hp -> Prop),Inv X pins σ H s -> t σ H Q -> wpAny (model X.prog X.w) X.A (isTrue e X.env (eval e X.env)) (TP X pins σ Q) X.xe s
def PW (X : Cx) (e : Expr) (t : TT) : Prop :=
 ∀ (whole : Sem Value) (pins : List (Addr × Obj)) (s : Shared) (σ : St) (H : Hp) (Q : Bool -> Hp -> Prop),Inv X pins σ H s -> t σ H Q -> wpAny (model X.prog X.w) X.A (isTrue e X.env whole) (TP X pins σ Q) X.xe s
theorem PW.pt {X : Cx} {e : Expr} {t : TT} (h : PW X e t) : PT X e t:=h _
def PA (X : Cx) (es : List Expr) (t : TA) : Prop :=
 ∀ (pos : Pos) (pins : List (Addr × Obj)) (s : Shared) (σ : St) (H : Hp) (Q : List V -> Hp -> Prop),Inv X pins σ H s -> t σ H Q -> wpAny (model X.prog X.w) X.A (spliced (backTo pos (starEach es X.env))) (AP X pins σ Q) X.xe s
def PS (X : Cx) (st : Stmt) (t : TS) : Prop :=
 ∀ (pins : List (Addr × Obj)) (s : Shared) (σ : St) (H : Hp) (D : Ends),Inv X pins σ H s -> t D σ H -> wpAny (model X.prog X.w) X.A (exec st X.env) (SP X pins D) X.xe s
def PSs (X : Cx) (st : List Stmt) (t : TS) : Prop :=
 ∀ (pins : List (Addr × Obj)) (s : Shared) (σ : St) (H : Hp) (D : Ends),Inv X pins σ H s -> t D σ H -> wpAny (model X.prog X.w) X.A (execs st X.env) (SP X pins D) X.xe s
theorem thn {α : Type} {t : Sem α} {Q Q' : α -> Shared -> Prop} {M : Model} {A : Around} {E : Value -> Shared -> Prop} {s : Shared} (h : wpAny M A t Q E s) (hQ : ∀ a s,Q a s -> Q' a s) : wpAny M A t Q' E s:=wpAny_mono h hQ fun _ _ x=>x
end L2
namespace L2
open PySem PySem.Spec PyProof.Rows
section
variable {X : Cx}
theorem bin {a b : Expr} {ta tb : TE} (ha : PE X a ta) (hb : PE X b tb) {pins : List (Addr × Obj)} {s : Shared} {σ : St} {H : Hp} {R : V -> V -> Hp -> Prop} (I : Inv X pins σ H s) (h : ta σ H fun x H1=>tb σ H1 fun y H2=>R x y H2)
 {α : Type} {Q : α -> Shared -> Prop} {f : Value -> Value -> Sem α}
 (hf : ∀ v u s2 x y H2,Inv X pins σ H2 s2 -> RelV x v -> RelV y u -> R x y H2 -> wpAny (model X.prog X.w) X.A (f v u) Q X.xe s2) :
 wpAny (model X.prog X.w) X.A (eval a X.env) (fun v s₁=>wpAny (model X.prog X.w) X.A (eval b X.env) (fun u s₂=>wpAny (model X.prog X.w) X.A (f v u) Q X.xe s₂) X.xe s₁) X.xe s:=by
 refine thn (ha pins s σ H _ I h) fun v s1 ⟨x,H1,I1,r1,q1⟩=>?_
 refine thn (hb pins s1 σ H1 _ I1 q1) fun u s2 ⟨y,H2,I2,r2,q2⟩=>?_
 exact hf v u s2 x y H2 I2 r1 r2 q2
def tVar (i : Nat) : TE:=fun σ H Q=>∃ v,σ[i]? = some (some v) /\ Q v H
def tC (v : V) : TE:=fun _ H Q=>Q v H
theorem zoU {i : Nat} {x : Str} {pos : Pos} (hN : X.N[i]? = some x) (hv : Vis X.env.scope x) (hd : (x == ("__debug__" : Str)) = false:=by decide) (hcd : (x == ("__classdict__" : Str)) = false:=by decide) : PE X (.Name x pos) (tVar i):=by
 intro pins s σ H Q I h
 obtain ⟨v,e,h⟩:=h
 obtain ⟨m,hn,hl⟩:=I.loc
 obtain ⟨u,r,l⟩:=hl i x v hN e hv
 have fin : EP X pins σ Q u s:=⟨v,H,I,r,h⟩
 rcases l with ⟨hk,hm⟩ | ⟨hk,c,hc,hcell⟩
 ·exact wpAny_Name (wpAny_loadName_local I.ok.kind hk hn hm fin) hd
 ·rcases hk with hk | hk
  ·exact wpAny_Name (wpAny_loadName_cell I.ok.kind hk hc hcell fin) hd
  ·exact wpAny_Name (wpAny_loadName_free I.ok.kind hk hc hcell fin hcd) hd
theorem zag {i j pos} : PE X (.Constant (.int i) j pos) (tC (.int i)):=fun _ _ _ H _ I h=>wpAny_Constant_int ⟨.int i,H,I.tok _,⟨_,rfl⟩,h⟩
theorem zeg {b j pos} : PE X (.Constant (.bool b) j pos) (tC (.bl b)):=fun _ _ _ H _ I h=>Constant_bool ⟨.bl b,H,I,rfl,h⟩
theorem zgG {j pos} : PE X (.Constant .none j pos) (tC .non):=fun _ _ _ H _ I h=>Constant_none ⟨.non,H,I,rfl,h⟩
theorem zea {x j pos} : PE X (.Constant (.str x) j pos) (tC (.str x)):=fun _ _ _ H _ I h=>Calls.Constant_str ⟨.str x,H,I.tok _,⟨_,rfl⟩,h⟩
def Gl (X : Cx) (x : Str) : Prop:=X.env.kindOf x = some .globalImplicit
theorem ziE {E : Value -> Shared -> Prop} {pins : List (Addr × Obj)} {s : Shared} {σ : St} {H : Hp} {x : Str} {u : Value} {pos : Pos} {Q : Value -> Shared -> Prop} (I : Inv X pins σ H s) (hg : Gl X x) (hm : X.mg x = some u) (h : Q u s)
 (hd : (x == ("__debug__" : Str)) = false:=by decide) : wpAny (model X.prog X.w) X.A (eval (.Name x pos) X.env) Q E s :=
 Calls.Name_function_global I.ok.kind hg (Calls.loadGlobal_global (by rw [I.ok.glob]; exact I.mod.glob.keeps I.bk) hm h) hd
theorem zhT {E : Value -> Shared -> Prop} {pins : List (Addr × Obj)} {s : Shared} {σ : St} {H : Hp} {x : Str} {u : Value} {pos : Pos} {Q : Value -> Shared -> Prop} (I : Inv X pins σ H s) (hg : Gl X x) (hm : X.mg x = none) (hv : bootBuiltins x = some u) (h : Q u s)
 (hn : x ≠ "__name__":=by decide) (hd : (x == ("__debug__" : Str)) = false:=by decide) : wpAny (model X.prog X.w) X.A (eval (.Name x pos) X.env) Q E s:=by
 obtain ⟨mb,h1,h2⟩:=I.mod.blt
 exact Calls.Name_function_global I.ok.kind hg (Calls.loadGlobal_builtin (by rw [I.ok.glob]; exact I.mod.glob.keeps I.bk) hm (by rw [I.ok.blt]; exact h1.keeps I.bk) ((h2 x hn).trans hv) h) hd
theorem zdy {x : Str} {v : V} {u : Value} {pos : Pos} (hg : Gl X x) (hm : X.mg x = some u) (r : RelV v u) (hd : (x == ("__debug__" : Str)) = false:=by decide) : PE X (.Name x pos) (tC v) :=
 fun _ _ _ H _ I h=>ziE I hg hm ⟨v,H,I,r,h⟩ hd
variable {a b : Expr} {ta tb : TE} {pos : Pos}
def PC (X : Cx) (op : CmpOp) (a b : Expr) (t : TE) : Prop :=
 ∀ (pins : List (Addr × Obj)) (s : Shared) (σ : St) (H : Hp) (Q : VK),Inv X pins σ H s -> t σ H Q ->
  wpAny (model X.prog X.w) X.A (eval a X.env) (fun v s₁=>wpAny (model X.prog X.w) X.A (eval b X.env) (fun u s₂=>wpAny (model X.prog X.w) X.A (compareOp op v u) (EP X pins σ Q) X.xe s₂) X.xe s₁) X.xe s
theorem zjj (b : Expr) {op : CmpOp} (h : op ≠ .In) (h2 : op ≠ .NotIn) : behindInMarks op b = false:=by
 have e1 : (op == CmpOp.In) = false:=by cases op <;> first | rfl | exact absurd rfl h
 have e2 : (op == CmpOp.NotIn) = false:=by cases op <;> first | rfl | exact absurd rfl h2
 cases b <;> simp [behindInMarks,e1,e2]
def tIsN (ta : TE) : TE:=fun σ H Q=>ta σ H fun x H1=>Q (.bl (decide (x = .non))) H1
def zvc (ta : TE) : TE:=fun σ H Q=>ta σ H fun x H1=>Q (.bl (!decide (x = .non))) H1
theorem RelV.none_iff {x : V} {v : Value} (r : RelV x v) : (v == Value.none) = decide (x = .non):=by
 cases x with
 | non=>cases r; rfl
 | bl _=>cases r; rfl
 | int _=>obtain ⟨t,rfl⟩:=r; rfl
 | str _=>obtain ⟨t,rfl⟩:=r; rfl
 | byt _=>obtain ⟨t,rfl⟩:=r; rfl
 | flt _=>obtain ⟨t,rfl⟩:=r; rfl
 | ref _=>cases r; rfl
 | ty _=>cases r; rfl
theorem zng {j pos'} (ha : PE X a ta) : PC X .Is a (.Constant .none j pos') (tIsN ta):=by
 intro pins s σ H Q I h
 refine thn (ha pins s σ H _ I h) fun v s1 ⟨x,H1,I1,r1,q1⟩=>?_
 exact Constant_none (is_none_gen ⟨.bl _,H1,I1,by rw [r1.none_iff]; rfl,q1⟩)
theorem zkS {j pos'} (ha : PE X a ta) : PC X .IsNot a (.Constant .none j pos') (zvc ta):=by
 intro pins s σ H Q I h
 refine thn (ha pins s σ H _ I h) fun v s1 ⟨x,H1,I1,r1,q1⟩=>?_
 exact Constant_none (isnot_none_gen ⟨.bl _,H1,I1,by rw [r1.none_iff]; rfl,q1⟩)
def tB (t : TE) : TT:=fun σ H Q=>t σ H fun x H1=>∃ c,x = .bl c /\ Q c H1
theorem zku {op : CmpOp} {t : TE} (h : PC X op a b t) (h1 : behindInMarks op b = false:=by first | exact zjj _ (by decide) (by decide) | rfl) : PE X (.Compare a [op] [b] pos) t:=fun pins s σ H Q I hw=>wpAny_Compare1 (h pins s σ H Q I hw) h1
theorem znf {op : CmpOp} {t : TE} (h : PC X op a b t) (h1 : behindInMarks op b = false:=by first | exact zjj _ (by decide) (by decide) | rfl) : PT X (.Compare a [op] [b] pos) (tB t):=by
 intro pins s σ H Q I hw
 refine wpAny_isTrue_Compare1 (thn (h pins s σ H _ I hw) fun v s1 h1=>thn h1 fun u s2 h2=>thn h2 fun c s3 ⟨x,H1,I1,r1,q1⟩=>?_) h1
 obtain ⟨d,rfl,q⟩:=q1
 cases r1
 exact wpAny_truthy_bool ⟨H1,I1,q⟩
theorem zcg {e : Expr} {t : TE} (h : PE X e t) (he : ∀ whole,isTrue e X.env whole = (do let v <- whole; standAt e.pos; holding [v] (truthy v)):=by intro _; rfl) : PT X e (tB t):=by
 intro pins s σ H Q I hw
 refine isTrue_plain (thn (h pins s σ H _ I hw) fun v s1 ⟨x,H1,I1,r1,q1⟩=>?_) (he _)
 obtain ⟨d,rfl,q⟩:=q1
 cases r1
 exact wpAny_truthy_bool ⟨H1,I1,q⟩
variable {tA tB' : TT} {rest : List Expr}
def tAnd (t u : TT) : TT:=fun σ H Q=>t σ H fun c H1=>if c = true then u σ H1 Q else Q false H1
def tOr (t u : TT) : TT:=fun σ H Q=>t σ H fun c H1=>if c = true then Q true H1 else u σ H1 Q
def tNot (t : TT) : TT:=fun σ H Q=>t σ H fun c H1=>Q (!c) H1
theorem zci (ha : PT X a tA) : PW X (.BoolOp .And [a] pos) tA:=by
 intro wh pins s σ H Q I h
 refine isTrue_and (thn (ha pins s σ H Q I h) fun c s1 e=>?_)
 cases c with
 | true=>exact isTrue_and_nil e
 | false=>exact e
theorem zlA (ha : PT X a tA) : PW X (.BoolOp .Or [a] pos) tA:=by
 intro wh pins s σ H Q I h
 refine isTrue_or (thn (ha pins s σ H Q I h) fun c s1 e=>?_)
 cases c with
 | false=>exact isTrue_or_nil e
 | true=>exact e
theorem zdp (ha : PT X a tA) (hb : PW X (.BoolOp .And (b :: rest) pos) tB') : PW X (.BoolOp .And (a :: b :: rest) pos) (tAnd tA tB'):=by
 intro wh pins s σ H Q I h
 refine isTrue_and (thn (ha pins s σ H _ I h) fun c s1 ⟨H1,I1,q1⟩=>?_)
 cases c with
 | true=>exact hb wh pins s1 σ H1 Q I1 q1
 | false=>exact ⟨H1,I1,q1⟩
theorem zoB (ha : PT X a tA) (hb : PW X (.BoolOp .Or (b :: rest) pos) tB') : PW X (.BoolOp .Or (a :: b :: rest) pos) (tOr tA tB'):=by
 intro wh pins s σ H Q I h
 refine isTrue_or (thn (ha pins s σ H _ I h) fun c s1 ⟨H1,I1,q1⟩=>?_)
 cases c with
 | true=>exact ⟨H1,I1,q1⟩
 | false=>exact hb wh pins s1 σ H1 Q I1 q1
theorem zho (ha : PT X a tA) : PT X (.UnaryOp .Not a pos) (tNot tA):=by
 intro pins s σ H Q I h
 exact isTrue_not (ha pins s σ H (fun c H1=>Q (!c) H1) I h)
def zuA (ta tb : TE) : TE:=fun σ H Q=>ta σ H fun x H1=>∃ c,x = .bl c /\ if c = true then tb σ H1 Q else Q (.bl false) H1
theorem zeb {op} {t : TE} (h : PE X a t) : PE X (.BoolOp op [a] pos) t:=fun pins s σ H Q I hw=>BoolOp_one (h pins s σ H Q I hw)
theorem zcH (ha : PE X a ta) (hb : PE X (.BoolOp .And (b :: rest) pos) tb) : PE X (.BoolOp .And (a :: b :: rest) pos) (zuA ta tb):=by
 intro pins s σ H Q I h
 refine BoolOp_and (thn (ha pins s σ H _ I h) fun v s1 ⟨x,H1,I1,r1,q1⟩=>?_)
 obtain ⟨c,rfl,q1⟩:=q1
 cases r1
 refine wpAny_truthy_bool ?_
 cases c with
 | true=>exact hb pins s1 σ H1 Q I1 q1
 | false=>exact ⟨.bl false,H1,I1,rfl,q1⟩
def tIf (t : TT) (ta tb : TE) : TE:=fun σ H Q=>t σ H fun c H1=>if c = true then ta σ H1 Q else tb σ H1 Q
theorem zgb {c : Expr} (hc : PT X c tA) (ha : PE X a ta) (hb : PE X b tb) : PE X (.IfExp c a b pos) (tIf tA ta tb):=by
 intro pins s σ H Q I h
 refine wpAny_IfExp (thn (hc pins s σ H _ I h) fun d s1 ⟨H1,I1,q1⟩=>?_)
 cases d with
 | true=>exact ha pins s1 σ H1 Q I1 q1
 | false=>exact hb pins s1 σ H1 Q I1 q1
end
end L2
namespace L2
open PySem PySem.Spec PyProof.Rows
def SqL (K : PySem.W.Frag) (H : Hp) (a : Addr) (xs : List V) : Prop :=
 Rd H a (.lst xs) \/
  ∃ (o : Obj) (its : Array Value) (n : Nat),K.lookup a = some o /\ o.cls = .type "list" /\ o.dict = none /\ o.data = .seq its n /\ its.size <= sizeLine /\ Vals xs its.toList
def SqT (K : PySem.W.Frag) (H : Hp) (a : Addr) (xs : List V) : Prop :=
 Rd H a (.tup xs) \/
  ∃ (o : Obj) (its : Array Value) (n : Nat),K.lookup a = some o /\ o.cls = .type "tuple" /\ o.data = .seq its n /\ its.size <= sizeLine /\ Vals xs its.toList
def absV : Value -> Option V
 | .none=>some .non
 | .bool b=>some (.bl b)
 | .int i _=>some (.int i)
 | .str x _=>some (.str x)
 | .bytes b _=>some (.byt b)
 | .float b _=>some (.flt b)
 | .ref a=>some (.ref a)
 | .type n=>some (.ty n)
 | _=>none
theorem RelV.abs {x : V} {u : Value} (r : RelV x u) : absV u = some x:=by
 cases x with
 | non=>cases r; rfl
 | bl _=>cases r; rfl
 | int _=>obtain ⟨t,rfl⟩:=r; rfl
 | str _=>obtain ⟨t,rfl⟩:=r; rfl
 | byt _=>obtain ⟨t,rfl⟩:=r; rfl
 | flt _=>obtain ⟨t,rfl⟩:=r; rfl
 | ref _=>cases r; rfl
 | ty _=>cases r; rfl
theorem RelV.inj {x y : V} {u : Value} (r : RelV x u) (q : RelV y u) : x = y:=Option.some.inj (r.abs.symm.trans q.abs)
theorem Vals.inj : ∀ {xs ys : List V} {us : List Value},Vals xs us -> Vals ys us -> xs = ys
 | _,_,_,.nil,.nil=>rfl
 | _,_,_,.cons r t,.cons r' t'=>by rw [r.inj r',Vals.inj t t']
section
variable {X : Cx} {pins : List (Addr × Obj)} {σ : St} {H : Hp} {s : Shared} {a : Addr} {xs ys : List V}
theorem SqL.of {K : PySem.W.Frag} (h : H a = some (.lst xs)) : SqL K H a xs:=.inl (.inl h)
theorem SqT.of {K : PySem.W.Frag} (h : H a = some (.tup xs)) : SqT K H a xs:=.inl (.inl h)
theorem Inv.list (I : Inv X pins σ H s) (h : SqL X.K H a xs) : ∃ its : List Value,Vals xs its /\ PlainL s.heap a its.toArray /\ xs.length <= sizeLine:=by
 rcases h with h | ⟨o,its,n,hk,hc,hd,hs,hz,r⟩
 ·obtain ⟨z,its,n,r,e⟩:=h.ok I.hok
  exact ⟨its,r,⟨_,n,e,rfl,rfl,rfl⟩,z⟩
 ·refine ⟨its.toList,r,⟨o,n,I.kIn a o hk,hc,hd,by simpa using hs⟩,?_⟩
  have e:=r.length
  simp only [Array.length_toList] at e
  omega
theorem Inv.tuple (I : Inv X pins σ H s) (h : SqT X.K H a xs) : ∃ its : List Value,Vals xs its /\ IsTup s.heap a its.toArray /\ xs.length <= sizeLine:=by
 rcases h with h | ⟨o,its,n,hk,hc,hs,hz,r⟩
 ·obtain ⟨z,its,r,p⟩:=h.ok I.hok
  exact ⟨its,r,p,z⟩
 ·refine ⟨its.toList,r,⟨o,I.kIn a o hk,hc,n,by simpa using hs⟩,?_⟩
  have e:=r.length
  simp only [Array.length_toList] at e
  omega
theorem Inv.list_inj (I : Inv X pins σ H s) (h : SqL X.K H a xs) (h' : SqL X.K H a ys) : xs = ys:=by
 obtain ⟨its,r,⟨o,n,e,_,_,d⟩,_⟩:=I.list h
 obtain ⟨its',r',⟨o',n',e',_,_,d'⟩,_⟩:=I.list h'
 rw [e] at e'; cases e'
 rw [d] at d'
 injection d' with d1 _
 have : its = its':=by simpa using congrArg Array.toList d1
 subst this
 exact r.inj r'
end
abbrev Cx.wish (X : Cx) (E : Value -> Shared -> Prop) : Cx:={ X with xe:=E }
abbrev Cx.nox (X : Cx) : Cx:=X.wish fun _ _=>False
theorem Cx.Ok.wish {X : Cx} (ok : X.Ok) (E : Value -> Shared -> Prop) : (X.wish E).Ok :=
 ⟨ok.mod,ok.kind,ok.glob,ok.blt,ok.above,ok.inj,ok.has,ok.cab,ok.hd,ok.frames,ok.stk,ok.exf,ok.bs,ok.bsz,ok.noex,ok.exfs,ok.funs,ok.frf⟩
theorem Cx.Ok.unwish {X : Cx} {E : Value -> Shared -> Prop} (ok : (X.wish E).Ok) : X.Ok :=
 ⟨ok.mod,ok.kind,ok.glob,ok.blt,ok.above,ok.inj,ok.has,ok.cab,ok.hd,ok.frames,ok.stk,ok.exf,ok.bs,ok.bsz,ok.noex,ok.exfs,ok.funs,ok.frf⟩
section
variable {X : Cx} {pins : List (Addr × Obj)} {σ : St} {H : Hp} {s : Shared} {E : Value -> Shared -> Prop}
theorem Inv.wish (I : Inv X pins σ H s) (E : Value -> Shared -> Prop) : Inv (X.wish E) pins σ H s:=⟨I.ok.wish E,I.os,I.bare,I.base,I.loc,I.cell,I.free,I.freeC,I.pin,I.hok,I.len⟩
theorem Inv.unwish (I : Inv (X.wish E) pins σ H s) : Inv X pins σ H s:=⟨I.ok.unwish,I.os,I.bare,I.base,I.loc,I.cell,I.free,I.freeC,I.pin,I.hok,I.len⟩
theorem SP.unwish {D : Ends} {f : Flow} {s' : Shared} (h : SP (X.wish E) pins D f s') : SP X pins D f s':=by
 cases f with
 | next=>obtain ⟨σ',H',I,q⟩:=h; exact ⟨σ',H',I.unwish,q⟩
 | brk=>obtain ⟨σ',H',I,q⟩:=h; exact ⟨σ',H',I.unwish,q⟩
 | cont=>obtain ⟨σ',H',I,q⟩:=h; exact ⟨σ',H',I.unwish,q⟩
 | ret u=>obtain ⟨v,σ',H',I,r,q⟩:=h; exact ⟨v,σ',H',I.unwish,r,q⟩
theorem PSs.nox {st : List Stmt} {t : TS} (h : PSs X.nox st t) : PSs X st t:=fun pins s σ H D I hw =>
 wpAny_mono (h pins s σ H D (I.wish _) hw) (fun _ _ q=>q.unwish) fun _ _ z=>False.elim z
end
section
variable {X : Cx} {st : Stmt} {rest : List Stmt} {t u : TS} {e : Expr} {te : TE} {pos : Pos}
def zrR : TS:=fun D σ H=>D.nx σ H
def tSeq (t u : TS) : TS:=fun D σ H=>t { D with nx:=u D } σ H
theorem zaB : PSs X [] zrR:=fun _ _ σ H _ I h=>wpAny_execs_nil ⟨σ,H,I,h⟩
theorem zab (h1 : PS X st t) (h2 : PSs X rest u) : PSs X (st :: rest) (tSeq t u):=by
 intro pins s σ H D I h
 refine wpAny_execs_cons (thn (h1 pins s σ H { D with nx:=u D } I h) fun f s1 q=>?_)
 cases f with
 | next =>
   obtain ⟨σ',H',I',q⟩:=q
   exact h2 pins s1 σ' H' D I' q
 | ret v=>exact q
 | brk=>exact q
 | cont=>exact q
theorem zae (h1 : PS X st t) : PSs X [st] t:=by
 intro pins s σ H D I h
 refine wpAny_execs_cons (thn (h1 pins s σ H D I h) fun f s1 q=>?_)
 cases f with
 | next=>exact wpAny_execs_nil q
 | ret v=>exact q
 | brk=>exact q
 | cont=>exact q
theorem zou : PS X (.Pass pos) zrR:=fun _ _ σ H _ I h=>wpAny_Pass ⟨σ,H,I,h⟩
theorem Inv.quiet {pins : List (Addr × Obj)} {σ : St} {H : Hp} {s : Shared} (I : Inv X pins σ H s) : interactive X.env = false:=by simp [interactive,I.ok.kind]
def zuk (te : TE) : TS:=fun D σ H=>te σ H fun _ H1=>D.nx σ H1
theorem zaH (he : PE X e te) (hs : swapsWith e none pos.line X.env = pure false:=by rfl) : PS X (.Expr e pos) (zuk te):=by
 intro pins s σ H D I h
 exact wpAny_Expr_any (thn (he pins s σ H _ I h) fun v s1 ⟨x,H1,I1,r1,q1⟩=>⟨σ,H1,I1,q1⟩) I.quiet hs
def tRet (te : TE) : TS:=fun D σ H=>te σ H D.rt
theorem zav (he : PE X e te) : PS X (.Return (some e) pos) (tRet te):=by
 intro pins s σ H D I h
 exact wpAny_Return_some (thn (he pins s σ H _ I h) fun v s1 ⟨x,H1,I1,r1,q1⟩=>⟨x,σ,H1,I1,r1,q1⟩)
def ztK : TS:=fun D _ H=>D.rt .non H
theorem zot : PS X (.Return none pos) ztK:=fun _ _ σ H _ I h=>wpAny_Return_none ⟨.non,σ,H,I,rfl,h⟩
def tIfS (c : TT) (t u : TS) : TS:=fun D σ H=>c σ H fun b H1=>if b = true then t D σ H1 else u D σ H1
theorem zbp {c : Expr} {a b : List Stmt} {tc : TT} (hc : PT X c tc) (ha : PSs X a t) (hb : PSs X b u) : PS X (.If c a b pos) (tIfS tc t u):=by
 intro pins s σ H D I h
 refine wpAny_If (thn (hc pins s σ H _ I h) fun d s1 ⟨H1,I1,q1⟩=>?_)
 cases d with
 | true=>exact ha pins s1 σ H1 D I1 q1
 | false=>exact hb pins s1 σ H1 D I1 q1
def zqZ : TS:=fun _ _ _=>False
theorem zep : PS X st zqZ:=fun _ _ _ _ _ _ h=>h.elim
end
abbrev TG:=V -> St -> Hp -> (St -> Hp -> Prop) -> Prop
abbrev TGs:=List V -> St -> Hp -> (St -> Hp -> Prop) -> Prop
def PG (X : Cx) (target : Expr) (t : TG) : Prop :=
 ∀ (pins : List (Addr × Obj)) (s : Shared) (σ : St) (H : Hp) (v : V) (u : Value) (Q : St -> Hp -> Prop),Inv X pins σ H s -> RelV v u -> t v σ H Q ->
  wpAny (model X.prog X.w) X.A (assign target X.env u) (fun _ s'=>∃ σ' H',Inv X pins σ' H' s' /\ Q σ' H') X.xe s
def PGs (X : Cx) (ts : List Expr) (t : TGs) : Prop :=
 ∀ (pins : List (Addr × Obj)) (s : Shared) (σ : St) (H : Hp) (vs : List V) (us : List Value) (Q : St -> Hp -> Prop),Inv X pins σ H s -> Vals vs us -> t vs σ H Q ->
  wpAny (model X.prog X.w) X.A (assignInOrder ((assignEach ts X.env).map (·.2)) us) (fun _ s'=>∃ σ' H',Inv X pins σ' H' s' /\ Q σ' H') X.xe s
abbrev TSet:=V -> V -> V -> Hp -> (Hp -> Prop) -> Prop
def PSet (X : Cx) (t : TSet) : Prop :=
 ∀ (pins : List (Addr × Obj)) (s : Shared) (σ : St) (H : Hp) (o i v : V) (ov iv u : Value) (Q : Hp -> Prop),Inv X pins σ H s -> RelV o ov -> RelV i iv -> RelV v u -> t o i v H Q ->
  wpAny (model X.prog X.w) X.A (setItem ov iv u) (fun _ s'=>∃ H',Inv X pins σ H' s' /\ Q H') X.xe s
section
variable {X : Cx} {pos : Pos}
def zlC (i : Nat) : TG:=fun v σ H Q=>Q (σ.set i (some v)) H
theorem zah {i : Nat} {x : Str} (hN : X.N.Nodup) (hi : X.N[i]? = some x) (hx : Loc X.env.scope x) (hf : X.fn x = true \/ X.env.scope.names.lookup x = some .local:=by first | exact .inl rfl | exact .inr rfl | assumption) : PG X (.Name x pos) (zlC i):=by
 intro pins s σ H v u Q I r h
 exact wpAny_assign_Name (zjc I hN hi hx r (fun s' I'=>⟨_,H,I',h⟩) hf)
def gNil : TGs:=fun vs σ H Q=>vs = [] /\ Q σ H
def zuG (t : TG) (u : TGs) : TGs:=fun vs σ H Q=>∃ v r,vs = v :: r /\ t v σ H fun σ' H'=>u r σ' H' Q
theorem zbl : PGs X [] gNil:=by
 intro pins s σ H vs us Q I r h
 obtain ⟨e,h⟩:=h
 subst e
 cases r
 exact assignInOrder_nil ⟨σ,H,I,h⟩
theorem zaj {e : Expr} {es : List Expr} {t : TG} {u : TGs} (h1 : PG X e t) (h2 : PGs X es u)
 (hs : (assignEach (e :: es) X.env).map (·.2) = assign e X.env :: (assignEach es X.env).map (·.2):=by rfl) : PGs X (e :: es) (zuG t u):=by
 intro pins s σ H vs us Q I r h
 obtain ⟨v,vr,e1,h⟩:=h
 subst e1
 cases r with
 | cons r rr =>
   rw [hs]
   refine assignInOrder_cons (thn (h1 pins s σ H _ _ _ I r h) fun _ s1 ⟨σ1,H1,I1,q1⟩=>?_)
   exact h2 pins s1 σ1 H1 _ _ Q I1 rr q1
def gTup (K : PySem.W.Frag) (n : Nat) (t : TGs) : TG:=fun v σ H Q=>∃ a xs,v = .ref a /\ SqT K H a xs /\ xs.length = n /\ t xs σ H Q
theorem zpa {es : List Expr} {k : Nat} {t : TGs} {n : Nat} (hc : X.calm = true) (h : PGs X es t)
 (hn : (assignEach es X.env).length = n:=by rfl) (hst : (assignEach es X.env).findIdx? (·.1) = none:=by rfl) : PG X (.Tuple es k pos) (gTup X.K n t):=by
 intro pins s σ H v u Q I r hw
 obtain ⟨a,xs,e1,hq,hl,hw⟩:=hw
 subst e1
 cases r
 obtain ⟨its,rv,ht,hz⟩:=I.tuple hq
 refine assign_Tuple_tuple (I.ok.hd hc) ht (by simp [hn,<- hl,rv.length]) hst fun h' hx=>?_
 have I1 : Inv X pins σ H { s with heap:=h' }:=I.kept (t':=s.toks) fun b o e=>hx b o (Nat.ne_of_lt (Heap.lt_size e)) e
 exact h pins _ σ H xs _ Q I1 (by simpa using rv) hw
def gSub (to ti : TE) (t : TSet) : TG:=fun v σ H Q=>to σ H fun o H1=>ti σ H1 fun i H2=>t o i v H2 fun H3=>Q σ H3
theorem znx {o i : Expr} {to ti : TE} {t : TSet} (ho : PE X o to) (hi : PE X i ti) (hs : PSet X t)
 (ha : ∀ v,assign (.Subscript o i pos) X.env v = (do
   let ov <- holding [v] (eval o X.env)
   let iv <- holding [v,ov] (eval i X.env)
   standAt pos
   holding [v,ov,iv] (setItem ov iv v)
   release [v,ov,iv] []):=by intro _; rfl) : PG X (.Subscript o i pos) (gSub to ti t):=by
 intro pins s σ H v u Q I r h
 rw [ha]
 refine wpAny_bind (wpAny_holding (thn (ho pins s σ H _ I h) fun ov s1 ⟨x,H1,I1,r1,q1⟩=>?_))
 refine wpAny_bind (wpAny_holding (thn (hi pins s1 σ H1 _ I1 q1) fun iv s2 ⟨y,H2,I2,r2,q2⟩=>?_))
 refine wpAny_bind (wpAny_standAt (wpAny_bind (wpAny_holding (thn (hs pins s2 σ H2 x y v ov iv u _ I2 r1 r2 r q2) fun _ s3 ⟨H3,I3,q3⟩=>?_))))
 exact wpAny_release ⟨σ,H3,I3,q3⟩
def tAsg (te : TE) (g : TG) : TS:=fun D σ H=>te σ H fun x H1=>g x σ H1 D.nx
theorem zeG {tg e : Expr} {te : TE} {g : TG} (he : PE X e te) (hg : PG X tg g) (hs : swapsWithSole [tg] e pos.line X.env = pure false:=by rfl) (hw : swappedStores [tg] e X.env = pure none:=by rfl)
 (h1 : (assignEach [tg] X.env).map (·.2) = [assign tg X.env]:=by rfl) : PS X (.Assign [tg] e pos) (tAsg te g):=by
 intro pins s σ H D I h
 refine wpAny_Assign_stores (thn (he pins s σ H _ I h) fun v s1 ⟨x,H1,I1,r1,q1⟩=>?_) hs hw
 rw [h1]
 exact thn (hg pins s1 σ H1 x v _ I1 r1 q1) fun _ s2 q=>q
theorem zau {i : Nat} {x : Str} {e : Expr} {te : TE} {pos' : Pos} (hN : X.N.Nodup) (hi : X.N[i]? = some x) (hx : Loc X.env.scope x) (he : PE X e te) (hs : swapsWith e (some (.Name x pos')) pos.line X.env = pure false:=by rfl) (hf : X.fn x = true \/ X.env.scope.names.lookup x = some .local:=by first | exact .inl rfl | exact .inr rfl | assumption) :
 PS X (.Assign [.Name x pos'] e pos) (tAsg te (zlC i)):=by
 intro pins s σ H D I h
 refine wpAny_Assign_Name (thn (he pins s σ H _ I h) fun v s1 ⟨y,H1,I1,r1,q1⟩=>?_) hs
 exact zjc I1 hN hi hx r1 (fun s2 I2=>⟨_,H1,I2,q1⟩) hf
end
section
variable {X : Cx} {pos : Pos}
def zpg (c : TT) (tb : TS) : TS:=fun D σ H=>∃ W : Nat -> St -> Hp -> Prop,(∃ m,W m σ H) /\ ∀ m σ H,W m σ H ->
 c σ H fun b H1=>if b = true then ∃ N : St -> Hp -> Prop,(∀ σ' H',N σ' H' -> ∃ m',m' < m /\ W m' σ' H') /\ tb { D with nx:=N,ct:=N,bk:=D.nx } σ H1 else D.nx σ H1
theorem zey {c : Expr} {body : List Stmt} {tc : TT} {tb : TS} (hp : PassesOwn (model X.prog X.w) X.A X.env X.xe) (hc : PT X c tc) (hb : PSs X body tb) : PS X (.While c body [] pos) (zpg tc tb):=by
 intro pins s σ H D I h
 obtain ⟨W,⟨m0,w0⟩,turn⟩:=h
 refine wpAny_While (codeAny_whileLoop (fun n s'=>∃ σ' H',Inv X pins σ' H' s' /\ W n σ' H') ?_ m0 ⟨σ,H,I,w0⟩)
 rintro n s1 ⟨σ1,H1,I1,w1⟩
 refine wpAny_passesOwn hp (thn (hc pins s1 σ1 H1 _ I1 (turn n σ1 H1 w1)) fun b s2 ⟨H2,I2,q2⟩=>?_)
 cases b with
 | true =>
   obtain ⟨N,hN,q2⟩:=q2
   rw [if_pos rfl]
   refine wpAny_passesOwn hp (thn (hb pins s2 σ1 H2 _ I2 q2) fun f s3 q3=>?_)
   cases f with
   | next =>
     obtain ⟨σ3,H3,I3,n3⟩:=q3
     obtain ⟨m',hm,w3⟩:=hN σ3 H3 n3
     exact ⟨m',hm,σ3,H3,I3,w3⟩
   | cont =>
     obtain ⟨σ3,H3,I3,n3⟩:=q3
     obtain ⟨m',hm,w3⟩:=hN σ3 H3 n3
     exact ⟨m',hm,σ3,H3,I3,w3⟩
   | brk=>exact q3
   | ret v=>exact q3
 | false =>
   rw [if_neg Bool.false_ne_true]
   exact wpAny_execs_nil ⟨σ1,H2,I2,q2⟩
end
structure It where
 go : Nat -> Hp -> Prop
 yld : Nat -> Hp -> V -> Hp -> Prop
 stop : Nat -> Hp -> Prop
def FpOk (X : Cx) (pins : List (Addr × Obj)) (H : Hp) (b : Addr) : Prop :=
 H b = none /\ b ≠ X.env.locals /\ b ∉ X.fs /\ (b ∈ X.ex \/ X.s₀.heap.objs.size <= b) /\ (∀ x c,X.env.cells.lookup x = some c -> c ≠ b) /\ ∀ p ∈ X.pn ++ pins,p.1 ≠ b
theorem Inv.fpOk {X : Cx} {pins : List (Addr × Obj)} {σ : St} {H H' : Hp} {s : Shared} {b : Addr} (I : Inv X pins σ H s) (hb : s.heap.objs.size <= b) (hn : H' b = none) : FpOk X pins H' b:=by
 refine ⟨hn,Nat.ne_of_gt (Nat.lt_of_lt_of_le I.lt hb),I.nofs hb,.inr (Nat.le_trans I.sz hb),fun x c e z=>?_,fun p hp z=>?_⟩
 ·obtain ⟨v,q⟩:=I.cell x c e
  exact absurd (Nat.lt_of_lt_of_le q.lt (by rw [z]; exact hb)) (Nat.lt_irrefl _)
 ·exact absurd (Nat.lt_of_lt_of_le (Heap.lt_size (I.pin p hp).1) (by rw [z]; exact hb)) (Nat.lt_irrefl _)
structure Turn (P : Program) (w : World) (K : PySem.W.Frag) (tg : Expr) (J : It) (fp : List Addr) (it : Addr) (tn : Nat -> Heap -> Prop) : Prop where
 mem : it ∈ fp
 obj : ∀ i h,tn i h -> ∀ b ∈ fp,∃ o,h.get? b = some o /\ ∀ v,o.data ≠ .cell v
 keep : ∀ i h h',tn i h -> (∀ b ∈ fp,∀ o,h.get? b = some o -> h'.get? b = some o) -> tn i h'
 item : ∀ (X : Cx),X.prog = P -> X.w = w -> X.K = K -> X.calm = true -> ∀ (i : Nat) (pins : List (Addr × Obj)) (s : Shared) (σ : St) (H : Hp) (E : Value -> Shared -> Prop),Inv X pins σ H s -> (∀ b ∈ fp,FpOk X pins H b) -> tn i s.heap -> J.go i H ->
  wpAny (model P w) X.A (pyNext (.ref it)) (fun r s1=>∃ u,r = some u /\
   wpAny (model P w) X.A (letOwnedTupleGo tg (.ref it) u) (fun _ s2=>∃ x H',Inv X pins σ H' s2 /\ RelV x u /\ J.yld i H x H' /\ tn (i + 1) s2.heap /\ ∀ b ∈ fp,H' b = none) E s1) E s
 done : ∀ (X : Cx),X.prog = P -> X.w = w -> X.K = K -> X.calm = true -> ∀ (i : Nat) (pins : List (Addr × Obj)) (s : Shared) (σ : St) (H : Hp) (E : Value -> Shared -> Prop),Inv X pins σ H s -> (∀ b ∈ fp,FpOk X pins H b) -> tn i s.heap -> J.stop i H ->
  wpAny (model P w) X.A (pyNext (.ref it)) (fun r s1=>r = none /\ Inv X pins σ H s1) E s
 self : ∀ (A : Around) (i : Nat) (s : Shared) (Q : Value -> Shared -> Prop) (E : Value -> Shared -> Prop),tn i s.heap -> Q (.ref it) s -> wpAny (model P w) A (pyIter (.ref it)) Q E s
abbrev TI:=St -> Hp -> (It -> Hp -> Prop) -> Prop
def PIE (X : Cx) (pins : List (Addr × Obj)) (σ : St) (tg : Expr) (R : It -> Hp -> Prop) (itv : Value) (s2 : Shared) : Prop :=
 ∃ (it : Addr) (fp : List Addr) (tn : Nat -> Heap -> Prop) (J : It) (H' : Hp),itv = .ref it /\ Inv X pins σ H' s2 /\ Turn X.prog X.w X.K tg J fp it tn /\ tn 0 s2.heap /\ (∀ b ∈ fp,FpOk X pins H' b) /\ R J H'
def PI (X : Cx) (tg iter : Expr) (wi : TI) : Prop :=
 ∀ (pins : List (Addr × Obj)) (s : Shared) (σ : St) (H : Hp) (R : It -> Hp -> Prop),Inv X pins σ H s -> wi σ H R ->
  wpAny (model X.prog X.w) X.A (eval iter X.env) (fun v s1=>wpAny (model X.prog X.w) X.A (pyIter v) (PIE X pins σ tg R) X.xe s1) X.xe s
theorem zof {M : Model} {A : Around} {E : Value -> Shared -> Prop} {s : Shared} {tg : Expr} {it : Addr} {u : Value} {o : Obj} {n : String} {vs : Array Value} {Q : Unit -> Shared -> Prop} (ho : s.heap.get? it = some o) (hc : o.cls = .type n) (hd : o.data = .fields vs)
 (hn : ["enumerate","zip","dict_itemiterator","dict_reverseitemiterator","odict_iterator","itertools.zip_longest","itertools.pairwise"].contains n = false) (hQ : Q () s) : wpAny M A (letOwnedTupleGo tg (.ref it) u) Q E s:=by
 unfold letOwnedTupleGo
 cases tg <;> first
  | exact wpAny_pure hQ
  | (cases u <;> first
      | exact wpAny_pure hQ
      | (refine wpAny_bind (wpAny_load ho ?_)
         rw [hc,hd]
         show wpAny M A (if (["enumerate","zip","dict_itemiterator","dict_reverseitemiterator","odict_iterator","itertools.zip_longest","itertools.pairwise"].contains n && vs[0]? == some (rawInt _)) = true then _ else _) Q E s
         rw [if_neg (by intro h; rw [hn,Bool.false_and] at h; cases h)]
         exact wpAny_pure hQ))
def Itl (K : PySem.W.Frag) (a : Addr) : It :=
 ⟨fun i H=>∃ xs x,SqL K H a xs /\ xs[i]? = some x,fun i H x H'=>H' = H /\ ∀ xs,SqL K H a xs -> xs[i]? = some x,fun i H=>∃ xs,SqL K H a xs /\ xs.length <= i⟩
def Itr (lo : Int) (n : Nat) : It:=⟨fun i _=>i < n,fun i H x H'=>H' = H /\ x = .int (lo + i),fun i _=>n <= i⟩
theorem zlk {P : Program} {w : World} {K : PySem.W.Frag} {tg : Expr} (a it : Addr) : Turn P w K tg (Itl K a) [it] it (fun i h=>h.IsListIter it a i) where
 mem:=by simp
 obj:=fun i h st b hb=>by
  have e : b = it:=by simpa using hb
  subst e
  obtain ⟨o,e,c,d⟩:=st
  exact ⟨o,e,fun v z=>by rw [d] at z; cases z⟩
 keep:=fun i h h' st k=>st.at fun o e=>k it (by simp) o e
 item:=by
  intro X hP hw hK hc i pins s σ H E I hf st hg
  subst hP hw hK
  obtain ⟨xs,x,hq,hx⟩:=hg
  obtain ⟨its,rv,p,hz⟩:=I.list hq
  obtain ⟨u,hu,ru⟩:=rv.get hx
  obtain ⟨f0,f1,f2,f3,f4,f5⟩:=hf it (by simp)
  refine wpAny_pyNext_list_item st p.isList (x:=u) (by simpa using hu) fun h' st' sb=>?_
  have I1 : Inv X pins σ H { s with heap:=h' }:=I.turned (t':=s.toks) (fun b o hb e=>(sb.2 b hb).trans e) f0 f1 f3 f4 f5
  obtain ⟨o,e,c,d⟩:=id st'
  exact ⟨u,rfl,zof (s:={ s with heap:=h' }) e c d (by decide) ⟨x,H,I1,ru,⟨rfl,fun ys hy=>by rw [I.list_inj hy hq]; exact hx⟩,st',fun b hb=>(hf b hb).1⟩⟩
 done:=by
  intro X hP hw hK hc i pins s σ H E I hf st hg
  subst hP hw hK
  obtain ⟨xs,hq,hx⟩:=hg
  obtain ⟨its,rv,p,hz⟩:=I.list hq
  obtain ⟨f0,f1,f2,f3,f4,f5⟩:=hf it (by simp)
  have hl:=rv.length
  exact wpAny_pyNext_list_end (I.ok.hd hc) st p.isList (by simp; omega) fun h' eb=>⟨rfl,I.turned (t':=s.toks) (fun b o hb e=>eb b o hb e) f0 f1 f3 f4 f5⟩
 self:=fun _ _ _ _ _ st h=>wpAny_pyIter_listiter st h
theorem zjT {P : Program} {w : World} {K : PySem.W.Frag} {tg : Expr} (it : Addr) (lo : Int) (n : Nat) : Turn P w K tg (Itr lo n) [it] it (fun i h=>IsRangeIter h it (lo + (i : Nat) * 1) ((n : Int) - (i : Nat)) 1) where
 mem:=by simp
 obj:=fun i h st b hb=>by
  have e : b = it:=by simpa using hb
  subst e
  exact ⟨_,st,fun v z=>by
   have z' : Data.fields _ = Data.cell v:=z
   cases z'⟩
 keep:=fun i h h' st k=>k it (by simp) _ st
 item:=by
  intro X hP hw hK hc i pins s σ H E I hf st hg
  subst hP hw hK
  obtain ⟨f0,f1,f2,f3,f4,f5⟩:=hf it (by simp)
  have W:=Walks.range (prog:=X.prog) (w:=X.w) (I.ok.hd hc) it lo 1 n
  refine W.item i s _ _ hg st fun v h' tk hv st' kk=>?_
  obtain ⟨t,rfl⟩:=hv
  have I1 : Inv X pins σ H { s with heap:=h',toks:=tk }:=I.turned (fun b o hb e=>kk b o (by simpa using hb) e) f0 f1 f3 f4 f5
  refine ⟨_,rfl,zof (s:={ s with heap:=h',toks:=tk }) (n:="range_iterator") st' rfl rfl (by decide) ⟨.int (lo + i),H,I1,⟨t,?_⟩,⟨rfl,rfl⟩,st',fun b hb=>(hf b hb).1⟩⟩
  rw [Int.mul_one]
 done:=by
  intro X hP hw hK hc i pins s σ H E I hf st hg
  subst hP hw hK
  obtain ⟨f0,f1,f2,f3,f4,f5⟩:=hf it (by simp)
  exact wpAny_pyNext_range_end (I.ok.hd hc) st (by have : n <= i:=hg; omega) fun h' eb=>⟨rfl,I.turned (t':=s.toks) (fun b o hb e=>eb b o hb e) f0 f1 f3 f4 f5⟩
 self:=fun _ _ _ _ _ st h=>wpAny_pyIter_rangeiter st h
end L2
namespace L2
open PySem PySem.Spec PyProof.Rows
section
variable {X : Cx} {tg : Expr}
def zqx (K : PySem.W.Frag) (tl : TE) : TI:=fun σ H R=>tl σ H fun x H1=>∃ a,x = .ref a /\ (∃ xs,SqL K H1 a xs) /\ R (Itl K a) H1
theorem zob {l : Expr} {tl : TE} (hl : PE X l tl) : PI X tg l (zqx X.K tl):=by
 intro pins s σ H R I h
 refine thn (hl pins s σ H _ I h) fun v s1 ⟨x,H1,I1,r1,q1⟩=>?_
 obtain ⟨a,e,⟨xs,hq⟩,q⟩:=q1
 subst e
 cases r1
 obtain ⟨its,rv,p,hz⟩:=I1.list hq
 refine wpAny_pyIter_list p.isList ?_
 refine ⟨s1.heap.objs.size,[s1.heap.objs.size],_,_,H1,rfl,I1.kept (t':=s1.toks) fun b o e=>Heap.get?_push_of_some _ e,zlk a _,⟨_,Heap.get?_push_size _ rfl,rfl,rfl⟩,fun b hb=>?_,q⟩
 have e : b = s1.heap.objs.size:=by simpa using hb
 subst e
 exact I1.fpOk (Nat.le_refl _) (I1.hok.fresh (Nat.le_refl _))
theorem zmA {pins : List (Addr × Obj)} {σ : St} {H : Hp} {s : Shared} {R : It -> Hp -> Prop} {E : Value -> Shared -> Prop} {lo hi : Int} {t u v : Tok} {tk : Nat} (I : Inv X pins σ H s) (h1 : -(2 ^ 62) <= lo) (h2 : lo < 2 ^ 62) (h3 : -(2 ^ 62) <= hi) (h4 : hi < 2 ^ 62)
 (q : R (Itr lo (hi - lo).toNat) H) : wpAny (model X.prog X.w) X.A (pyIter (.ref s.heap.objs.size)) (PIE X pins σ tg R) E { s with heap:=s.heap.push { cls:=.type "range",data:=.fields #[.int lo t,.int hi u,.int 1 v] },toks:=tk }:=by
 refine wpAny_pyIter_range (IsRange.new ..) (small_one h1 h2 h3 h4) ?_
 have I1 : Inv X pins σ H { s with heap:=s.heap.push { cls:=.type "range",data:=.fields #[.int lo t,.int hi u,.int 1 v] },toks:=tk }:=I.kept fun b o e=>Heap.get?_push_of_some _ e
 refine ⟨(s.heap.push { cls:=.type "range",data:=.fields #[.int lo t,.int hi u,.int 1 v] }).objs.size,[(s.heap.push { cls:=.type "range",data:=.fields #[.int lo t,.int hi u,.int 1 v] }).objs.size],_,_,H,rfl,
  I1.kept (t':=tk) fun b o e=>Heap.get?_push_of_some _ e,zjT _ lo (hi - lo).toNat,?_,fun b hb=>?_,q⟩
 ·have e1 : lo + ((0 : Nat) : Int) * 1 = lo:=by simp
  have e2 : (((hi - lo).toNat : Nat) : Int) - ((0 : Nat) : Int) = Builtin.Range.rangeSize lo hi 1:=by rw [rangeSize_one]; split <;> omega
  show IsRangeIter _ _ (lo + ((0 : Nat) : Int) * 1) ((((hi - lo).toNat : Nat) : Int) - ((0 : Nat) : Int)) 1
  rw [e1,e2]
  exact Heap.get?_push_size _ rfl
 ·have e : b = (s.heap.push { cls:=.type "range",data:=.fields #[.int lo t,.int hi u,.int 1 v] }).objs.size:=by simpa using hb
  subst e
  exact I1.fpOk (Nat.le_refl _) (I1.hok.fresh (Nat.le_refl _))
def zux (ta : TA) : TI:=fun σ H R=>ta σ H fun vs H1=>∃ j : Int,vs = [.int j] /\ -(2 ^ 62) <= j /\ j < 2 ^ 62 /\ R (Itr 0 j.toNat) H1
theorem zbt {a : Expr} {ta : TA} {p pos : Pos} (hg : Gl X "range") (hm : X.mg "range" = none) (ha : PA X [a] ta) (hs : starEach [a] X.env = [(false,eval a X.env)]:=by rfl) : PI X tg (.Call (.Name "range" p) [a] [] pos) (zux ta):=by
 intro pins s σ H R I h
 refine Call_ (zhT I hg hm boot_range (PyProof.Rows.callWith_type1 (thn (ha pos pins s σ H _ I h) fun us s1 ⟨vs,H1,I1,r1,q1⟩=>?_) hs rfl))
 obtain ⟨j,e,q1,q2,q⟩:=q1
 subst e
 cases r1 with
 | cons r rr =>
   cases rr
   obtain ⟨t,rfl⟩:=r
   exact call_range_1 (zmA I1 (by omega) (by omega) q1 q2 (by simpa using q))
def tFor (wi : TI) (g : TG) (tb : TS) : TS:=fun D σ H=>wi σ H fun J H1=>∃ W : Nat -> Nat -> St -> Hp -> Prop,(∃ m,W 0 m σ H1) /\ ∀ i m σ H,W i m σ H ->
 (J.stop i H /\ D.nx σ H) \/ (J.go i H /\ ∃ N : St -> Hp -> Prop,(∀ σ' H',N σ' H' -> ∃ m',m' < m /\ W (i + 1) m' σ' H') /\ ∀ x H',J.yld i H x H' -> g x σ H' fun σ2 H2=>tb { D with nx:=N,ct:=N,bk:=D.nx } σ2 H2)
def zgW (fp : List Addr) (h : Heap) : List (Addr × Obj):=fp.filterMap fun b=>(h.get? b).map fun o=>(b,o)
theorem zda {fp : List Addr} {h : Heap} {b : Addr} {o : Obj} (hb : b ∈ fp) (e : h.get? b = some o) : (b,o) ∈ zgW fp h:=List.mem_filterMap.mpr ⟨b,hb,by rw [e]; rfl⟩
theorem zkC {fp : List Addr} {h : Heap} {p : Addr × Obj} (hp : p ∈ zgW fp h) : p.1 ∈ fp /\ h.get? p.1 = some p.2:=by
 obtain ⟨b,hb,e⟩:=List.mem_filterMap.mp hp
 cases q : h.get? b with
 | none=>rw [q] at e; cases e
 | some o =>
   rw [q] at e
   have e' : (b,o) = p:=Option.some.inj e
   subst e'
   exact ⟨hb,q⟩
theorem Inv.pinned {pins : List (Addr × Obj)} {σ : St} {H : Hp} {s : Shared} {fp : List Addr} (I : Inv X pins σ H s) (hf : ∀ b ∈ fp,FpOk X pins H b) (ho : ∀ b ∈ fp,∃ o,s.heap.get? b = some o /\ ∀ v,o.data ≠ .cell v) : Inv X (pins ++ zgW fp s.heap) σ H s :=
 I.pins_of fun p hp=>(List.mem_append.mp hp).elim (fun z=>I.pin p (List.mem_append_right _ z)) fun z=>by
  obtain ⟨hb,e⟩:=zkC z
  obtain ⟨f0,f1,f2,_⟩:=hf p.1 hb
  obtain ⟨o,e',d⟩:=ho p.1 hb
  rw [e] at e'; cases e'
  exact ⟨e,f0,f1,f2,d⟩
theorem Inv.unpinned {pins pl : List (Addr × Obj)} {σ : St} {H : Hp} {s : Shared} (I : Inv X (pins ++ pl) σ H s) : Inv X pins σ H s:=I.pins_of fun p hp=>I.pin p (List.mem_append_right _ (List.mem_append_left _ hp))
theorem zbE {iter : Expr} {body : List Stmt} {wi : TI} {g : TG} {tb : TS} {pos : Pos} (hp : PassesOwn (model X.prog X.w) X.A X.env X.xe) (hc : X.calm = true) (hi : PI X tg iter wi) (hg : PG X tg g) (hb : PSs X body tb)
 (hs : ∀ x,foldedSetIterable iter X.env x = pure x:=by intro _; rfl) : PS X (.For tg iter body [] pos) (tFor wi g tb):=by
 intro pins s σ H D I h
 refine wpAny_For (thn (hi pins s σ H _ I h) fun v s1 h1=>thn h1 fun itv s2 h2=>?_) hs
 obtain ⟨it,fp,tn,J,H2,e,I2,T,st2,f2,W,⟨m0,w0⟩,turn⟩:=h2
 subst e
 have stat : ∀ {H' : Hp},(∀ b ∈ fp,H' b = none) -> ∀ b ∈ fp,FpOk X pins H' b:=fun hn b hb=>⟨hn b hb,(f2 b hb).2⟩
 refine codeAny_forLoop_any (fun n s'=>∃ i σ' H',Inv X pins σ' H' s' /\ tn i s'.heap /\ (∀ b ∈ fp,H' b = none) /\ W i n σ' H') ?_ m0 ⟨0,σ,H2,I2,st2,fun b hb=>(f2 b hb).1,w0⟩
 rintro n s3 ⟨i,σ3,H3,I3,st3,fr3,w3⟩
 rcases turn i n σ3 H3 w3 with ⟨stop,qn⟩ | ⟨go,N,hN,step⟩
 ·refine wpAny_passesOwn hp (thn (T.done X rfl rfl rfl hc i pins s3 σ3 H3 X.xe I3 (stat fr3) st3 stop) fun r s4 ⟨hr,I4⟩=>?_)
  subst hr
  exact wpAny_execs_nil ⟨σ3,H3,I4,qn⟩
 ·refine wpAny_passesOwn hp (thn (T.item X rfl rfl rfl hc i pins s3 σ3 H3 X.xe I3 (stat fr3) st3 go) fun r s4 ⟨u,hr,h4⟩=>?_)
  subst hr
  refine wpAny_passesOwn hp (thn h4 fun _ s5 ⟨x,H5,I5,r5,y5,st5,fr5⟩=>?_)
  have I5':=I5.pinned (stat fr5) (T.obj _ _ st5)
  refine wpAny_passesOwn hp (thn (hg _ s5 σ3 H5 x u _ I5' r5 (step x H5 y5)) fun _ s6 ⟨σ6,H6,I6,q6⟩=>?_)
  refine wpAny_passesOwn hp (thn (hb _ s6 σ6 H6 _ I6 q6) fun f s7 q7=>?_)
  have again : ∀ {σ7 : St} {H7 : Hp},Inv X (pins ++ zgW fp s5.heap) σ7 H7 s7 -> N σ7 H7 -> ∃ m,m < n /\ ∃ i σ' H',Inv X pins σ' H' s7 /\ tn i s7.heap /\ (∀ b ∈ fp,H' b = none) /\ W i m σ' H':=fun {σ7 H7} I7 n7=>by
   obtain ⟨m',hm,w7⟩:=hN σ7 H7 n7
   refine ⟨m',hm,i + 1,σ7,H7,I7.unpinned,T.keep _ _ _ st5 fun b hb o e=>(I7.pin (b,o) (List.mem_append_right _ (List.mem_append_right _ (zda hb e)))).1,fun b hb=>?_,w7⟩
   obtain ⟨o,e,d⟩:=T.obj _ _ st5 b hb
   exact (I7.pin (b,o) (List.mem_append_right _ (List.mem_append_right _ (zda hb e)))).2.1
  cases f with
  | next=>obtain ⟨σ7,H7,I7,n7⟩:=q7; exact again I7 n7
  | cont=>obtain ⟨σ7,H7,I7,n7⟩:=q7; exact again I7 n7
  | brk=>obtain ⟨σ7,H7,I7,q7⟩:=q7; exact ⟨σ7,H7,I7.unpinned,q7⟩
  | ret v=>obtain ⟨x7,σ7,H7,I7,r7,q7⟩:=q7; exact ⟨x7,σ7,H7,I7.unpinned,r7,q7⟩
end
theorem zca {K : PySem.W.Frag} {a : Addr} {xs : List V} {g : TG} {tb : TS} {D : Ends} {σ : St} {H : Hp} (Pv : Nat -> St -> Hp -> Prop) (h0 : Pv 0 σ H) (hl : ∀ i σ H,i <= xs.length -> Pv i σ H -> SqL K H a xs)
 (hs : ∀ i x σ H,xs[i]? = some x -> Pv i σ H -> g x σ H fun σ2 H2=>tb { D with nx:=Pv (i + 1),ct:=Pv (i + 1),bk:=D.nx } σ2 H2) (hd : ∀ σ H,Pv xs.length σ H -> D.nx σ H) :
 ∃ W : Nat -> Nat -> St -> Hp -> Prop,(∃ m,W 0 m σ H) /\ ∀ i m σ H,W i m σ H ->
  ((Itl K a).stop i H /\ D.nx σ H) \/ ((Itl K a).go i H /\ ∃ N : St -> Hp -> Prop,(∀ σ' H',N σ' H' -> ∃ m',m' < m /\ W (i + 1) m' σ' H') /\ ∀ x H',(Itl K a).yld i H x H' -> g x σ H' fun σ2 H2=>tb { D with nx:=N,ct:=N,bk:=D.nx } σ2 H2):=by
 refine ⟨fun i m σ H=>m = xs.length - i /\ i <= xs.length /\ Pv i σ H,⟨xs.length,by simp,Nat.zero_le _,h0⟩,?_⟩
 rintro i m σ H ⟨rfl,hi,p⟩
 have q:=hl i σ H hi p
 by_cases hlt : i < xs.length
 ·refine .inr ⟨⟨xs,xs[i],q,by simp [hlt]⟩,Pv (i + 1),fun σ' H' p'=>⟨xs.length - (i + 1),by omega,rfl,hlt,p'⟩,fun x H' y=>?_⟩
  obtain ⟨e,y⟩:=y
  subst e
  exact hs i x σ _ (y xs q) p
 ·have e : i = xs.length:=by omega
  subst e
  exact .inl ⟨⟨xs,q,Nat.le_refl _⟩,hd σ H p⟩
theorem zbW {lo : Int} {n : Nat} {g : TG} {tb : TS} {D : Ends} {σ : St} {H : Hp} (Pv : Nat -> St -> Hp -> Prop) (h0 : Pv 0 σ H)
 (hs : ∀ i σ H,i < n -> Pv i σ H -> g (.int (lo + i)) σ H fun σ2 H2=>tb { D with nx:=Pv (i + 1),ct:=Pv (i + 1),bk:=D.nx } σ2 H2) (hd : ∀ σ H,Pv n σ H -> D.nx σ H) :
 ∃ W : Nat -> Nat -> St -> Hp -> Prop,(∃ m,W 0 m σ H) /\ ∀ i m σ H,W i m σ H ->
  ((Itr lo n).stop i H /\ D.nx σ H) \/ ((Itr lo n).go i H /\ ∃ N : St -> Hp -> Prop,(∀ σ' H',N σ' H' -> ∃ m',m' < m /\ W (i + 1) m' σ' H') /\ ∀ x H',(Itr lo n).yld i H x H' -> g x σ H' fun σ2 H2=>tb { D with nx:=N,ct:=N,bk:=D.nx } σ2 H2):=by
 refine ⟨fun i m σ H=>m = n - i /\ i <= n /\ Pv i σ H,⟨n,by simp,Nat.zero_le _,h0⟩,?_⟩
 rintro i m σ H ⟨rfl,hi,p⟩
 by_cases hlt : i < n
 ·refine .inr ⟨hlt,Pv (i + 1),fun σ' H' p'=>⟨n - (i + 1),by omega,rfl,hlt,p'⟩,fun x H' y=>?_⟩
  obtain ⟨e,y⟩:=y
  subst e y
  exact hs i σ _ hlt p
 ·have e : i = n:=by omega
  subst e
  exact .inl ⟨Nat.le_refl _,hd σ H p⟩
end L2
namespace L2
open PySem PySem.Spec PyProof.Rows
abbrev R2:=V -> V -> Hp -> VK -> Prop
def OpR (X : Cx) (f : Value -> Value -> Sem Value) (r : R2) : Prop :=
 ∀ (pins : List (Addr × Obj)) (s : Shared) (σ : St) (H : Hp) (x y : V) (v u : Value) (Q : VK),Inv X pins σ H s -> RelV x v -> RelV y u -> r x y H Q ->
  wpAny (model X.prog X.w) X.A (f v u) (EP X pins σ Q) X.xe s
def UnR (X : Cx) (f : Value -> Sem Value) (r : V -> Hp -> VK -> Prop) : Prop :=
 ∀ (pins : List (Addr × Obj)) (s : Shared) (σ : St) (H : Hp) (x : V) (v : Value) (Q : VK),Inv X pins σ H s -> RelV x v -> r x H Q ->
  wpAny (model X.prog X.w) X.A (f v) (EP X pins σ Q) X.xe s
def zdJ (X : Cx) (f : Value) (r : List V -> Hp -> VK -> Prop) : Prop :=
 ∀ (pins : List (Addr × Obj)) (s : Shared) (σ : St) (H : Hp) (xs : List V) (us : List Value) (Q : VK),Inv X pins σ H s -> Vals xs us -> r xs H Q ->
  wpAny (model X.prog X.w) X.A (call f us) (EP X pins σ Q) X.xe s
def tOp (r : R2) (ta tb : TE) : TE:=fun σ H Q=>ta σ H fun x H1=>tb σ H1 fun y H2=>r x y H2 Q
def tUn (r : V -> Hp -> VK -> Prop) (ta : TE) : TE:=fun σ H Q=>ta σ H fun x H1=>r x H1 Q
def rI (C : Int -> Int -> Prop) (g : Int -> Int -> V) : R2:=fun x y H Q=>∃ i j,x = .int i /\ y = .int j /\ C i j /\ Q (g i j) H
def rI0 (g : Int -> Int -> V) : R2:=fun x y H Q=>∃ i j,x = .int i /\ y = .int j /\ Q (g i j) H
def rU (g : Int -> V) : V -> Hp -> VK -> Prop:=fun x H Q=>∃ i,x = .int i /\ Q (g i) H
section
variable {X : Cx} {a b c : Expr} {ta tb tc : TE} {pos : Pos}
theorem binT (ha : PE X a ta) (hb : PE X b tb) {pins : List (Addr × Obj)} {s : Shared} {σ : St} {H : Hp} {R : V -> V -> Hp -> Prop} (I : Inv X pins σ H s)
 (h : ta σ H fun x H1=>tb σ H1 fun y H2=>R x y H2) {Q : Value -> Shared -> Prop} {f : Value -> Value -> Sem Value}
 (hf : ∀ v u s2 x y H2,Inv X pins σ H2 s2 -> RelV x v -> RelV y u -> R x y H2 -> wpAny (model X.prog X.w) X.A (f v u) Q X.xe s2) :
 wpAny (model X.prog X.w) X.A (eval a X.env) (fun v s₁=>wpAny (model X.prog X.w) X.A (eval b X.env) (fun u s₂=>wpAny (model X.prog X.w) X.A (f v u) Q X.xe s₂) X.xe s₁) X.xe s:=by
 refine thn (ha pins s σ H _ I h) fun v s1 ⟨x,H1,I1,r1,q1⟩=>?_
 refine thn (hb pins s1 σ H1 _ I1 q1) fun u s2 ⟨y,H2,I2,r2,q2⟩=>?_
 exact hf v u s2 x y H2 I2 r1 r2 q2
theorem zar {op : Operator} {r : R2} (ho : OpR X (binaryOp op) r) (ha : PE X a ta) (hb : PE X b tb) : PE X (.BinOp a op b pos) (tOp r ta tb):=by
 intro pins s σ H Q I h
 exact wpAny_BinOp (binT ha hb I h fun v u s2 x y H2 I2 rx ry q=>ho pins s2 σ H2 x y v u Q I2 rx ry q)
theorem zun {op : UnaryOp} {r : V -> Hp -> VK -> Prop} (ho : UnR X (unaryOp op) r) (ha : PE X a ta) : PE X (.UnaryOp op a pos) (tUn r ta):=by
 intro pins s σ H Q I h
 exact UnaryOp_ (thn (ha pins s σ H _ I h) fun v s1 ⟨x,H1,I1,r1,q1⟩=>ho pins s1 σ H1 x v Q I1 r1 q1)
theorem opI {f : Value -> Value -> Sem Value} {C : Int -> Int -> Prop} {g : Int -> Int -> Int}
 (rule : ∀ (i j : Int) (t u : Tok) (s : Shared) (Q : Value -> Shared -> Prop) (E : Value -> Shared -> Prop),C i j -> Q (.int (g i j) s.toks) { s with toks:=s.toks + 1 } -> wpAny (model X.prog X.w) X.A (f (.int i t) (.int j u)) Q E s) :
 OpR X f (rI C fun i j=>.int (g i j)):=by
 intro pins s σ H x y v u Q I rx ry h
 obtain ⟨i,j,rfl,rfl,hc,q⟩:=h
 obtain ⟨t,rfl⟩:=rx
 obtain ⟨t',rfl⟩:=ry
 exact rule i j t t' s _ _ hc ⟨.int (g i j),H,I.tok _,⟨_,rfl⟩,q⟩
theorem opI0 {f : Value -> Value -> Sem Value} {g : Int -> Int -> Int}
 (rule : ∀ (i j : Int) (t u : Tok) (s : Shared) (Q : Value -> Shared -> Prop) (E : Value -> Shared -> Prop),Q (.int (g i j) s.toks) { s with toks:=s.toks + 1 } -> wpAny (model X.prog X.w) X.A (f (.int i t) (.int j u)) Q E s) :
 OpR X f (rI0 fun i j=>.int (g i j)):=by
 intro pins s σ H x y v u Q I rx ry h
 obtain ⟨i,j,rfl,rfl,q⟩:=h
 obtain ⟨t,rfl⟩:=rx
 obtain ⟨t',rfl⟩:=ry
 exact rule i j t t' s _ _ ⟨.int (g i j),H,I.tok _,⟨_,rfl⟩,q⟩
theorem opB0 {f : Value -> Value -> Sem Value} {g : Int -> Int -> Bool}
 (rule : ∀ (i j : Int) (t u : Tok) (s : Shared) (Q : Value -> Shared -> Prop) (E : Value -> Shared -> Prop),Q (.bool (g i j)) s -> wpAny (model X.prog X.w) X.A (f (.int i t) (.int j u)) Q E s) :
 OpR X f (rI0 fun i j=>.bl (g i j)):=by
 intro pins s σ H x y v u Q I rx ry h
 obtain ⟨i,j,rfl,rfl,q⟩:=h
 obtain ⟨t,rfl⟩:=rx
 obtain ⟨t',rfl⟩:=ry
 exact rule i j t t' s _ _ ⟨.bl (g i j),H,I,rfl,q⟩
def CDiv (i j : Int) : Prop:=0 < j /\ j < 1073741824
def CMul (i j : Int) : Prop:=(-(2 ^ 64) < i /\ i < 2 ^ 64) \/ (-(2 ^ 64) < j /\ j < 2 ^ 64)
theorem CMul.ok {i j : Int} (h : CMul i j) : IntMulOk i j:=by
 rcases h with ⟨h1,h2⟩ | ⟨h1,h2⟩
 ·exact .of_left (intBits_le_64 h1 h2)
 ·exact .of_right (intBits_le_64 h1 h2)
theorem zkp (k : Nat) : (0 : Int) <= 2 ^ k:=by
 rw [two_pow_cast]
 exact Int.natCast_nonneg _
theorem zbs : OpR X (binaryOp .Add) (rI0 fun i j=>.int (i + j)):=opI0 fun _ _ _ _ _ _ _ q=>add_int q
theorem zdn : OpR X (binaryOp .Sub) (rI0 fun i j=>.int (i - j)):=opI0 fun _ _ _ _ _ _ _ q=>sub_int q
theorem zjw : OpR X (binaryOp .Mult) (rI CMul fun i j=>.int (i * j)):=opI fun _ _ _ _ _ _ _ hc q=>mul_int q hc.ok
theorem zbx : OpR X (binaryOp .FloorDiv) (rI CDiv fun i j=>.int (i / j)):=opI fun i j _ _ _ _ _ hc q=>by
 have h1 : (0 : Int) < j:=hc.1
 have h2 : j < 1073741824:=hc.2
 exact floordiv_int (by omega) (by rw [Int.fdiv_eq_ediv_of_nonneg i (by omega)]; exact q) (.inl (PyProof.noPylong_small (by omega)))
theorem zbi : OpR X (binaryOp .Mod) (rI (fun _ j=>0 < j) fun i j=>.int (i % j)):=opI fun i j _ _ _ _ _ hc q=>by
 have h1 : (0 : Int) < j:=hc
 exact mod_int' (by omega) (by rw [Int.fmod_eq_emod_of_nonneg i (by omega)]; exact q)
theorem zqt : OpR X (binaryOp .RShift) (rI (fun _ j=>0 <= j) fun i j=>.int (i / 2 ^ j.toNat)):=opI fun i j _ _ _ _ _ hc q =>
 rshift_int hc (by rw [Int.fdiv_eq_ediv_of_nonneg i (zkp _)]; exact q)
theorem zll : OpR X (binaryOp .BitAnd) (rI0 fun i j=>.int (Builtin.bitAnd i j)):=opI0 fun _ _ _ _ _ _ _ q=>and_int q
theorem unI {f : Value -> Sem Value} {g : Int -> Int}
 (rule : ∀ (i : Int) (t : Tok) (s : Shared) (Q : Value -> Shared -> Prop) (E : Value -> Shared -> Prop),Q (.int (g i) s.toks) { s with toks:=s.toks + 1 } -> wpAny (model X.prog X.w) X.A (f (.int i t)) Q E s) :
 UnR X f (rU fun i=>.int (g i)):=by
 intro pins s σ H x v Q I rx h
 obtain ⟨i,rfl,q⟩:=h
 obtain ⟨t,rfl⟩:=rx
 exact rule i t s _ _ ⟨.int (g i),H,I.tok _,⟨_,rfl⟩,q⟩
theorem zqw : UnR X (unaryOp .USub) (rU fun i=>.int (-i)):=unI fun _ _ _ _ _ q=>neg_int q
end
def scal : V -> V -> Bool
 | .non,.non=>true | .non,.int _=>true | .int _,.non=>true | .non,.bl _=>true | .bl _,.non=>true | .non,.str _=>true | .str _,.non=>true
 | .int _,.int _=>true | .bl _,.bl _=>true | .str _,.str _=>true | .byt _,.byt _=>true
 | .int _,.str _=>true | .str _,.int _=>true | .bl _,.str _=>true | .str _,.bl _=>true
 | _,_=>false
def rEq : R2:=fun x y H Q=>scal x y = true /\ Q (.bl (decide (x = y))) H
def rNe : R2:=fun x y H Q=>scal x y = true /\ Q (.bl (!decide (x = y))) H
theorem zlx {i j : Int} : decide (V.int i = V.int j) = (i == j):=by
 rw [Bool.eq_iff_iff]
 simp
theorem zno {i j : Bool} : decide (V.bl i = V.bl j) = (i == j):=by
 rw [Bool.eq_iff_iff]
 simp
theorem zlN {i j : Str} : decide (V.str i = V.str j) = (i == j):=by
 rw [Bool.eq_iff_iff]
 simp
theorem zlO {i j : Array UInt8} : decide (V.byt i = V.byt j) = (i.toList == j.toList):=by
 rw [Bool.eq_iff_iff]
 cases i
 cases j
 simp
section
variable {X : Cx} {a b c : Expr} {ta tb tc : TE} {pos : Pos}
theorem zaL {pins : List (Addr × Obj)} {σ : St} {H : Hp} {s : Shared} {Q : VK} {k k' : Bool} (I : Inv X pins σ H s) (q : Q (.bl k) H) (e : k = k') : EP X pins σ Q (.bool k') s:=by
 subst e
 exact ⟨.bl k,H,I,rfl,q⟩
theorem zcU : OpR X (compareOp .Eq) rEq:=by
 intro pins s σ H x y v u Q I rx ry h
 obtain ⟨hs,q⟩:=h
 cases x with
 | non =>
   cases rx
   cases y with
   | non=>cases ry; exact PySem.EqNone.eq_none_none (zaL I q (by simp))
   | bl j=>cases ry; exact PySem.EqNone.eq_none_bool (zaL I q (by simp))
   | int j=>obtain ⟨t',rfl⟩:=ry; exact PySem.EqNone.eq_none_int (zaL I q (by simp))
   | str j=>obtain ⟨t',rfl⟩:=ry; exact PySem.EqNone.eq_none_str (zaL I q (by simp))
   | _=>exact absurd (show false = true from hs) Bool.false_ne_true
 | bl i =>
   cases rx
   cases y with
   | non=>cases ry; exact PySem.EqNone.eq_bool_none (zaL I q (by simp))
   | bl j=>cases ry; exact eq_bool (zaL I q zno)
   | str j=>obtain ⟨t',rfl⟩:=ry; exact PySem.EqMixed.eq_bool_str (zaL I q (by simp))
   | _=>exact absurd (show false = true from hs) Bool.false_ne_true
 | int i =>
   obtain ⟨t,rfl⟩:=rx
   cases y with
   | non=>cases ry; exact PySem.EqNone.eq_int_none (zaL I q (by simp))
   | int j=>obtain ⟨t',rfl⟩:=ry; exact eq_int (zaL I q zlx)
   | str j=>obtain ⟨t',rfl⟩:=ry; exact PySem.EqMixed.eq_int_str (zaL I q (by simp))
   | _=>exact absurd (show false = true from hs) Bool.false_ne_true
 | str i =>
   obtain ⟨t,rfl⟩:=rx
   cases y with
   | non=>cases ry; exact PySem.EqNone.eq_str_none (zaL I q (by simp))
   | bl j=>cases ry; exact PySem.EqMixed.eq_str_bool (zaL I q (by simp))
   | int j=>obtain ⟨t',rfl⟩:=ry; exact PySem.EqMixed.eq_str_int (zaL I q (by simp))
   | str j=>obtain ⟨t',rfl⟩:=ry; exact eq_str (zaL I q zlN)
   | _=>exact absurd (show false = true from hs) Bool.false_ne_true
 | byt i =>
   obtain ⟨t,rfl⟩:=rx
   cases y with
   | byt j=>obtain ⟨t',rfl⟩:=ry; exact PySem.W.eq_bytes (zaL I q zlO)
   | _=>exact absurd (show false = true from hs) Bool.false_ne_true
 | _=>cases y <;> exact absurd (show false = true from hs) Bool.false_ne_true
theorem zfd : OpR X (compareOp .NotEq) rNe:=by
 intro pins s σ H x y v u Q I rx ry h
 obtain ⟨hs,q⟩:=h
 cases x with
 | non =>
   cases rx
   cases y with
   | non=>cases ry; exact PySem.EqNone.ne_none_none (zaL I q (by simp))
   | bl j=>cases ry; exact PySem.EqNone.ne_none_bool (zaL I q (by simp))
   | int j=>obtain ⟨t',rfl⟩:=ry; exact PySem.EqNone.ne_none_int (zaL I q (by simp))
   | str j=>obtain ⟨t',rfl⟩:=ry; exact PySem.EqNone.ne_none_str (zaL I q (by simp))
   | _=>exact absurd (show false = true from hs) Bool.false_ne_true
 | bl i =>
   cases rx
   cases y with
   | non=>cases ry; exact PySem.EqNone.ne_bool_none (zaL I q (by simp))
   | bl j=>cases ry; exact ne_bool (zaL I q (congrArg not zno))
   | str j=>obtain ⟨t',rfl⟩:=ry; exact PySem.EqMixed.ne_bool_str (zaL I q (by simp))
   | _=>exact absurd (show false = true from hs) Bool.false_ne_true
 | int i =>
   obtain ⟨t,rfl⟩:=rx
   cases y with
   | non=>cases ry; exact PySem.EqNone.ne_int_none (zaL I q (by simp))
   | int j=>obtain ⟨t',rfl⟩:=ry; exact ne_int (zaL I q (congrArg not zlx))
   | str j=>obtain ⟨t',rfl⟩:=ry; exact PySem.EqMixed.ne_int_str (zaL I q (by simp))
   | _=>exact absurd (show false = true from hs) Bool.false_ne_true
 | str i =>
   obtain ⟨t,rfl⟩:=rx
   cases y with
   | non=>cases ry; exact PySem.EqNone.ne_str_none (zaL I q (by simp))
   | bl j=>cases ry; exact PySem.EqMixed.ne_str_bool (zaL I q (by simp))
   | int j=>obtain ⟨t',rfl⟩:=ry; exact PySem.EqMixed.ne_str_int (zaL I q (by simp))
   | str j=>obtain ⟨t',rfl⟩:=ry; exact ne_str (zaL I q (congrArg not zlN))
   | _=>exact absurd (show false = true from hs) Bool.false_ne_true
 | byt i =>
   obtain ⟨t,rfl⟩:=rx
   cases y with
   | byt j=>obtain ⟨t',rfl⟩:=ry; exact PySem.W.ne_bytes (zaL I q (congrArg not zlO))
   | _=>exact absurd (show false = true from hs) Bool.false_ne_true
 | _=>cases y <;> exact absurd (show false = true from hs) Bool.false_ne_true
theorem zii : OpR X (compareOp .Lt) (rI0 fun i j=>.bl (decide (i < j))):=opB0 fun _ _ _ _ _ _ _ q=>lt_int q
theorem zrB : OpR X (compareOp .LtE) (rI0 fun i j=>.bl (decide (i <= j))):=opB0 fun _ _ _ _ _ _ _ q=>le_int q
theorem zjZ : OpR X (compareOp .Gt) (rI0 fun i j=>.bl (decide (j < i))):=opB0 fun _ _ _ _ _ _ _ q=>gt_int q
theorem zuu : OpR X (compareOp .GtE) (rI0 fun i j=>.bl (decide (j <= i))):=opB0 fun _ _ _ _ _ _ _ q=>ge_int q
theorem OpR.or {f : Value -> Value -> Sem Value} {r r' : R2} (h : OpR X f r) (h' : OpR X f r') : OpR X f (fun x y H Q=>r x y H Q \/ r' x y H Q):=by
 intro pins s σ H x y v u Q I rx ry q
 rcases q with q | q
 ·exact h pins s σ H x y v u Q I rx ry q
 ·exact h' pins s σ H x y v u Q I rx ry q
theorem zap (b : Expr) {op : CmpOp} (h : op ≠ .In:=by decide) (h2 : op ≠ .NotIn:=by decide) : behindInMarks op b = false:=by
 have e1 : (op == CmpOp.In) = false:=by cases op <;> first | rfl | exact absurd rfl h
 have e2 : (op == CmpOp.NotIn) = false:=by cases op <;> first | rfl | exact absurd rfl h2
 cases b <;> simp [behindInMarks,e1,e2]
theorem zbk {op : CmpOp} {r : R2} (ho : OpR X (compareOp op) r) (ha : PE X a ta) (hb : PE X b tb) (hm : behindInMarks op b = false) : PE X (.Compare a [op] [b] pos) (tOp r ta tb):=by
 intro pins s σ H Q I h
 exact wpAny_Compare1 (binT ha hb I h fun v u s2 x y H2 I2 rx ry q=>ho pins s2 σ H2 x y v u Q I2 rx ry q) hm
def zqF (t : TE) : TT:=fun σ H Q=>t σ H fun x H'=>∃ k,x = .bl k /\ Q k H'
theorem zao {op : CmpOp} {r : R2} (ho : OpR X (compareOp op) r) (ha : PE X a ta) (hb : PE X b tb) (hm : behindInMarks op b = false) : PT X (.Compare a [op] [b] pos) (zqF (tOp r ta tb)):=by
 intro pins s σ H Q I h
 refine wpAny_isTrue_Compare1 (thn (ha pins s σ H _ I h) fun v s1 ⟨x,H1,I1,r1,q1⟩=>thn (hb pins s1 σ H1 _ I1 q1) fun u s2 ⟨y,H2,I2,r2,q2⟩ =>
  thn (ho pins s2 σ H2 x y v u _ I2 r1 r2 q2) fun c s3 ⟨z,H3,I3,r3,k,e,q3⟩=>?_) hm
 subst e
 cases r3
 exact wpAny_truthy_bool ⟨H3,I3,q3⟩
def zpJ (r r' : R2) (ta tb tc : TE) : TE:=fun σ H Q=>ta σ H fun x H1=>tb σ H1 fun y H2=>r x y H2 fun z H3=>∃ k,z = .bl k /\
 (if k = true then tc σ H3 fun w' H4=>r' y w' H4 Q else Q (.bl false) H3)
theorem zms {op op' : CmpOp} {r r' : R2} (ho : OpR X (compareOp op) r) (ho' : OpR X (compareOp op') r') (ha : PE X a ta) (hb : PE X b tb) (hc : PE X c tc)
 (hm : lastMarks [op,op'] [b,c] = false:=by with_unfolding_all rfl) : PT X (.Compare a [op,op'] [b,c] pos) (zqF (zpJ r r' ta tb tc)):=by
 intro pins s σ H Q I h
 refine isTrue_chain (thn (ha pins s σ H _ I h) fun v s1 ⟨x,H1,I1,r1,q1⟩=>test_link (thn (hb pins s1 σ H1 _ I1 q1) fun u s2 ⟨y,H2,I2,r2,q2⟩ =>
  thn (ho pins s2 σ H2 x y v u _ I2 r1 r2 q2) fun d s3 ⟨z,H3,I3,r3,k,e,q3⟩=>?_)) hm
 subst e
 cases r3
 refine wpAny_truthy_bool ?_
 cases k with
 | false =>
   obtain ⟨k',e',q'⟩:=q3
   cases e'
   exact ite_ff ⟨H3,I3,q'⟩
 | true =>
   refine ite_tt (test_last (thn (hc pins s3 σ H3 _ I3 q3) fun w' s4 ⟨z',H4,I4,r4,q4⟩=>thn (ho' pins s4 σ H4 y z' u w' _ I4 r2 r4 q4) fun d' s5 ⟨z2,H5,I5,r5,k2,e2,q5⟩=>?_))
   subst e2
   cases r5
   exact wpAny_truthy_bool ⟨H5,I5,q5⟩
theorem zfD : (sizeLine : Nat) < 2 ^ 63:=by rw [sizeLine_eq]; decide
theorem zkg : OpR X (binaryOp .Add) (fun x y H Q=>∃ i j,x = .str i /\ y = .str j /\ i.length + j.length <= sizeLine /\ Q (.str (i ++ j)) H):=by
 intro pins s σ H x y v u Q I rx ry h
 obtain ⟨i,j,rfl,rfl,hz,q⟩:=h
 obtain ⟨t,rfl⟩:=rx
 obtain ⟨t',rfl⟩:=ry
 exact add_str (fun t' tk=>⟨.str (i ++ j),H,I.tok _,⟨_,rfl⟩,q⟩) hz
theorem zgi {x : V} {us : List Value} (r : Vals [x] us) : ∃ u,us = [u] /\ RelV x u:=by
 cases r with
 | cons r1 r2=>cases r2; exact ⟨_,rfl,r1⟩
end
end L2
namespace L2
open PySem PySem.Spec PyProof.Rows
structure ObjM (h : Heap) (x dx C : Addr) (mA : Str -> Option Value) : Prop where
 obj : h.get? x = some (PySem.W.instObj C dx)
 ns : h.Ns1 dx mA
 ne : dx ≠ x
theorem zlL {h : Heap} {dx : Addr} {mA : Str -> Option Value} (n : h.Ns1 dx mA) : ∃ od,h.get? dx = some od /\ ∀ name,PySem.W.lookIn name od = some (mA name):=by
 obtain ⟨o,es,ep,ho,hd,hk,_,hm⟩:=n
 refine ⟨o,ho,fun name=>?_⟩
 have e:=hm name
 unfold nsFind findBy at e
 rw [<- Array.find?_toList] at e
 unfold PySem.W.lookIn
 rw [hd]
 dsimp only
 split
 ·rename_i y q
  rw [q] at e
  exact congrArg some e
 ·rename_i q
  rw [q] at e
  have a : es.toList.any (·.refKey) = false:=by
   rw [List.any_eq_false]
   intro y hy
   obtain ⟨z,t,hkey⟩:=hk y (Array.mem_toList_iff.mp hy)
   simp [DictEntry.refKey,hkey]
  have a' : ¬ es.toList.any (·.refKey) = true:=by rw [a]; exact Bool.false_ne_true
  rw [if_neg a']
  exact congrArg some e
theorem ObjM.look {h : Heap} {x dx C : Addr} {mA : Str -> Option Value} (I : ObjM h x dx C mA) : ∃ od,PySem.W.InstAt h x (PySem.W.instObj C dx) C (some od) /\ ∀ name,PySem.W.lookIn name od = some (mA name) :=
 let ⟨od,ho,hl⟩:=zlL I.ns
 ⟨od,⟨I.obj,rfl,rfl,ho⟩,hl⟩
section
variable {prog : Program} {w : World} {A : Around} {E : Value -> Shared -> Prop} {s : Shared} {K : PySem.W.Frag} {x dx C f : Addr} {mA : Str -> Option Value} {name : Str} {v : Value}
theorem znL {expr : Bool} {Q : Value -> Shared -> Prop} (X : K.In s.heap) (I : ObjM s.heap x dx C mA) (hg : PySem.W.plainGet K C name = true) (hh : PySem.W.hasDictIn K C = true)
 (ha : PySem.W.findIn K (.ref C) name = some none) (hv : mA name = some v) (hv' : PySem.W.handedIn v = true) (h : Q v { s with toks:=s.toks + 1 }) :
 wpAny (model prog w) A (getAttr (.ref x) name expr) Q E s:=by
 obtain ⟨od,J,hl⟩:=I.look
 exact PySem.W.get_value X J (PySem.W.plainGet_of hg).1 (PySem.W.findObj_own hh ha rfl (by rw [hl,hv])) hv' h
theorem zma {pl : Sem Bool} {Q : Value × List Value -> Shared -> Prop} (X : K.In s.heap) (I : ObjM s.heap x dx C mA) (hg : PySem.W.plainGet K C name = true)
 (hf : PySem.W.findIn K (.ref C) name = some (some (.ref f))) (ht : PySem.W.isFn K (.ref f) = true) (hv : mA name = none) (h : Q (.ref f,[.ref x]) s) :
 wpAny (model prog w) A (getMethod (.ref x) name pl) Q E s:=by
 obtain ⟨od,J,hl⟩:=I.look
 exact PySem.W.method_fn X J (PySem.W.plainGet_of hg).1 (PySem.W.plainGet_of hg).2 hf (beq_iff_eq.mp ht) (by show (PySem.W.lookIn name od).map (·.isSome) = some false; rw [hl,hv]; rfl) h
theorem zoc {ns : List Str} {Q : Unit -> Shared -> Prop} (X : K.In s.heap) (I : ObjM s.heap x dx C mA)
 (hs : PySem.W.findIn K (.ref C) "__setattr__" = some (some (.builtin "object.__setattr__"))) (hp : PySem.W.plainOver K C = true) (ht : PySem.W.takerIn K C name = some none) (hh : PySem.W.hasDictIn K C = true)
 (hw : PySem.Within mA ns) (hsz : ns.length <= sizeLine)
 (h : ∀ h',ObjM h' x dx C (fun y=>if y = name then some v else mA y) -> Heap.SameBut dx s.heap h' -> Q () { s with heap:=h',toks:=s.toks + 2 }) :
 wpAny (model prog w) A (setAttr (.ref x) name v) Q E s:=by
 obtain ⟨od,J,hl⟩:=I.look
 refine PySem.W.set_plain X J hs (PySem.W.osa_open (s:={ s with toks:=s.toks + 1 }) (r:=none) X J hp ht fun b=>?_)
 obtain ⟨cd,hc,hd'⟩:=PySem.W.any_some hh
 have hx : s.heap.get? x = some ⟨.ref C,some dx,.plain,#[]⟩:=I.obj
 refine wpAny_bind (wpAny_pure (wpAny_bind (wpAny_bind (wpAny_loadPart hx (wpAny_bind (PySem.W.Looks.here (s:={ s with toks:=s.toks + 1 }) (PySem.W.looks_clsIn X hc) ?_))))))
 rw [hd']
 refine wpAny_pure (a:=some dx) (wpAny_bind (wpAny_pure (wpAny_bind ?_)))
 refine wpAny_nsSet1 (s:={ s with toks:=s.toks + 1 }) I.ns fun h' hn2 hs2=>?_
 obtain ⟨oD,esD,epD,hoD,hdD,hcD⟩:=hn2.count (PySem.Within.cons name v hw)
 refine wpAny_bind (wpAny_lookBehind hoD (by rw [hdD]; exact pastItsLine_dict (Nat.le_trans hcD (by rw [List.length_cons]; omega))) ?_)
 exact wpAny_pure (h _ ⟨(hs2.2 _ (Ne.symm I.ne)).trans I.obj,hn2,I.ne⟩ hs2)
theorem zmv {R : Result -> Shared -> Prop} {vs : List Value} {kw : List (Str × Value)} (X : K.In s.heap) (hm : PySem.W.makesIn K C = true)
 (hi : PySem.W.findIn K (.ref C) "__init__" = some (some (.ref f))) (hf : PySem.W.typeIn K (.ref f) = some (.type "function"))
 (h : codeAny (model prog w) (A.under (.builtin "type.__call__" ⟨.ref C :: vs,kw⟩)) (.call (.ref f) ⟨.ref (s.heap.objs.size + 1) :: vs,kw⟩) (PySem.W.InitBack (s.heap.objs.size + 1) R)
   { s with heap:=(s.heap.push PySem.W.emptyDict).push (PySem.W.instObj C s.heap.objs.size) }) :
 codeAny (model prog w) A (.call (.ref C) ⟨vs,kw⟩) R s:=by
 obtain ⟨hh,g,d,t,os⟩:=s
 exact PySem.W.make_core (PySem.W.makes_of X hm) (PySem.W.looks_findIn X hi) (fun self=>PySem.W.bind_fn X self hf) (.inl rfl) h
end
def putF (f : Str) (v : V) : List (Str × V) -> List (Str × V)
 | []=>[(f,v)]
 | (g,x) :: r=>if g = f then (g,v) :: r else (g,x) :: putF f v r
theorem zdv (f g : Str) (v : V) : ∀ fs : List (Str × V),(putF f v fs).lookup g = if g = f then some v else fs.lookup g
 | []=>by
   show List.lookup g [(f,v)] = _
   by_cases h : g = f
   ·have hb : (g == f) = true:=beq_iff_eq.mpr h
    simp only [List.lookup,hb,if_pos h]
   ·have hb : (g == f) = false:=beq_eq_false_iff_ne.mpr h
    simp only [List.lookup,hb,if_neg h]
 | (k,x) :: r=>by
   have ih:=zdv f g v r
   rw [show putF f v ((k,x) :: r) = (if k = f then (k,v) :: r else (k,x) :: putF f v r) from rfl]
   by_cases hk : k = f
   ·rw [if_pos hk]
    by_cases h : g = k
    ·have hb : (g == k) = true:=beq_iff_eq.mpr h
     simp only [List.lookup,hb,if_pos (h.trans hk)]
    ·have hb : (g == k) = false:=beq_eq_false_iff_ne.mpr h
     simp only [List.lookup,hb,if_neg (fun e : g = f=>h (e.trans hk.symm))]
   ·rw [if_neg hk]
    by_cases h : g = k
    ·have hb : (g == k) = true:=beq_iff_eq.mpr h
     simp only [List.lookup,hb,if_neg (fun e : g = f=>hk (h.symm.trans e))]
    ·have hb : (g == k) = false:=beq_eq_false_iff_ne.mpr h
     simp only [List.lookup,hb]
     exact ih
theorem zeK (f : Str) (v : V) : ∀ fs : List (Str × V),f ∈ (putF f v fs).map (·.1) /\ ∀ g,g ∈ fs.map (·.1) -> g ∈ (putF f v fs).map (·.1)
 | []=>⟨by simp [putF],fun g h=>by simp at h⟩
 | (k,x) :: r=>by
   obtain ⟨i1,i2⟩:=zeK f v r
   rw [show putF f v ((k,x) :: r) = (if k = f then (k,v) :: r else (k,x) :: putF f v r) from rfl]
   by_cases hk : k = f
   ·rw [if_pos hk]
    subst hk
    exact ⟨by simp,fun g h=>by simpa using h⟩
   ·rw [if_neg hk]
    refine ⟨?_,fun g h=>?_⟩
    ·rw [List.map_cons]
     exact List.mem_cons_of_mem _ i1
    ·rw [List.map_cons] at h ⊢
     rcases List.mem_cons.mp h with e | e
     ·exact List.mem_cons.mpr (.inl e)
     ·exact List.mem_cons_of_mem _ (i2 g e)
theorem zeD (f : Str) (v : V) : ∀ fs : List (Str × V),(putF f v fs).length <= fs.length + 1
 | []=>by simp [putF]
 | (k,x) :: r=>by
   have ih:=zeD f v r
   rw [show putF f v ((k,x) :: r) = (if k = f then (k,v) :: r else (k,x) :: putF f v r) from rfl]
   by_cases hk : k = f
   ·rw [if_pos hk,List.length_cons,List.length_cons]; omega
   ·rw [if_neg hk,List.length_cons,List.length_cons]; omega
theorem RelO.some_of {v : V} {o : Option Value} (r : RelO (some v) o) : ∃ u,o = some u /\ RelV v u:=by
 cases o with
 | none=>exact (show False from r).elim
 | some u=>exact ⟨u,rfl,r⟩
theorem RelO.none_of {o : Option Value} (r : RelO none o) : o = none:=by
 cases o with
 | none=>rfl
 | some u=>exact (show False from r).elim
theorem zkL {v : V} {u : Value} (r : RelV v u) : PySem.W.handedIn u = true:=by
 cases v with
 | non=>cases (show u = Value.none from r); rfl
 | bl b=>cases (show u = Value.bool b from r); rfl
 | int i=>obtain ⟨t,e⟩:=(show ∃ t,u = Value.int i t from r); cases e; rfl
 | str x=>obtain ⟨t,e⟩:=(show ∃ t,u = Value.str x t from r); cases e; rfl
 | byt b=>obtain ⟨t,e⟩:=(show ∃ t,u = Value.bytes b t from r); cases e; rfl
 | flt b=>obtain ⟨t,e⟩:=(show ∃ t,u = Value.float b t from r); cases e; rfl
 | ref a=>cases (show u = Value.ref a from r); rfl
 | ty n=>cases (show u = Value.type n from r); rfl
section
variable {P : Program} {w : World} {H H' : Hp} {h h' : Heap} {a C dx : Addr} {fs fs' : List (Str × V)}
theorem zic (hok : HOk P w H h) (e : H a = some (.ins C dx fs)) : ∃ mA,ObjM h a dx C mA /\ (∀ f,RelO (fs.lookup f) (mA f)) /\ PySem.Within mA (fs.map (·.1)) /\ fs.length <= 1000 /\ H dx = some (.own a):=by
 obtain ⟨d,z,ne,ob,mA,n,r,q⟩:=(show zbX P w H h a (.ins C dx fs) from hok a _ e)
 exact ⟨mA,⟨ob,n,ne⟩,r,q,z,d⟩
end
structure Cls (K : PySem.W.Frag) (C : Addr) : Prop where
 pg : PySem.W.plainGet K C Str.empty = true
 hd : PySem.W.hasDictIn K C = true
 po : PySem.W.plainOver K C = true
 sa : PySem.W.findIn K (.ref C) "__setattr__" = some (some (.builtin "object.__setattr__"))
theorem Cls.get {K : PySem.W.Frag} {C : Addr} (c : Cls K C) (f : Str) : PySem.W.plainGet K C f = true:=c.pg
def zbQ (K : PySem.W.Frag) (C : Addr) (f : Str) : Prop:=PySem.W.findIn K (.ref C) f = some none
theorem zbQ.taker {K : PySem.W.Frag} {C : Addr} {f : Str} (n : zbQ K C f) : PySem.W.takerIn K C f = some none:=by
 unfold PySem.W.takerIn
 rw [show PySem.W.findIn K (.ref C) f = some none from n]
 rfl
structure Meth (K : PySem.W.Frag) (C : Addr) (m : Str) (f : Addr) : Prop where
 at_ : PySem.W.findIn K (.ref C) m = some (some (.ref f))
 fn : PySem.W.isFn K (.ref f) = true
 kp : PySem.W.keepIn K (.ref f) = true
section
variable {X : Cx} {pins : List (Addr × Obj)} {σ : St} {H : Hp} {s : Shared} {a C dx : Addr} {fs : List (Str × V)} {f : Str} {v : V} {A : Around} {E : Value -> Shared -> Prop}
theorem zkn {b : Bool} {Q : Value -> Shared -> Prop} (I : Inv X pins σ H s) (e : H a = some (.ins C dx fs)) (c : Cls X.K C) (n : zbQ X.K C f) (l : fs.lookup f = some v)
 (h : ∀ u s',Inv X pins σ H s' -> RelV v u -> Q u s') : wpAny (model X.prog X.w) A (getAttr (.ref a) f b) Q E s:=by
 obtain ⟨mA,O,r,_,_,_⟩:=zic I.hok e
 obtain ⟨u,hu,ru⟩:=RelO.some_of (v:=v) (o:=mA f) (by rw [<- l]; exact r f)
 exact znL I.kIn O (c.get f) c.hd n hu (zkL ru) (h u _ (I.tok _) ru)
theorem zfA {m : Str} {g : Addr} {pl : Sem Bool} {Q : Value × List Value -> Shared -> Prop} (I : Inv X pins σ H s) (e : H a = some (.ins C dx fs)) (c : Cls X.K C) (k : Meth X.K C m g) (l : fs.lookup m = none)
 (h : Q (.ref g,[.ref a]) s) : wpAny (model X.prog X.w) A (getMethod (.ref a) m pl) Q E s:=by
 obtain ⟨mA,O,r,_,_,_⟩:=zic I.hok e
 have hn : mA m = none:=RelO.none_of (by rw [<- l]; exact r m)
 exact zma I.kIn O (c.get m) k.at_ k.fn hn h
theorem zjW {y : V} {u : Value} {Q : Unit -> Shared -> Prop} (I : Inv X pins σ H s) (e : H a = some (.ins C dx fs)) (c : Cls X.K C) (n : zbQ X.K C f) (hl : fs.length < 1000) (ry : RelV y u)
 (h : ∀ s',Inv X pins σ (upd H a (.ins C dx (putF f y fs))) s' -> Q () s') : wpAny (model X.prog X.w) A (setAttr (.ref a) f u) Q E s:=by
 obtain ⟨mA,O,r,wi,_,ho⟩:=zic I.hok e
 have hz : (fs.map (·.1)).length <= sizeLine:=by rw [List.length_map,sizeLine_eq]; omega
 refine zoc I.kIn O c.sa c.po n.taker c.hd wi hz fun h' O' sb=>h _ ?_
 have hd : ∃ o,h'.get? dx = some o:=let ⟨o,_,_,e',_⟩:=O'.ns; ⟨o,e'⟩
 refine I.write (x:=a) (e:=dx) (by rw [e]; exact True.intro) (.inr ho) (fun b q hb z=>(sb.2 b hb).trans z) hd ?_
 refine ⟨by rw [zai O.ne]; exact ho,?_,O.ne,O'.obj,_,O'.ns,fun g=>?_,fun g hg=>?_⟩
 ·have:=zeD f y fs; omega
 ·show RelO ((putF f y fs).lookup g) (if g = f then some u else mA g)
  rw [zdv]
  by_cases q : g = f
  ·rw [if_pos q,if_pos q]; exact ry
  ·rw [if_neg q,if_neg q]; exact r g
 ·by_cases q : g = f
  ·rw [q]; exact (zeK f y fs).1
  ·refine (zeK f y fs).2 g (wi g fun z=>hg ?_)
   show (if g = f then some u else mA g) = none
   rw [if_neg q]; exact z
theorem Inv.made (I : Inv X pins σ H s) : Inv X pins σ (upd (upd H s.heap.objs.size (.own (s.heap.objs.size + 1))) (s.heap.objs.size + 1) (.ins C s.heap.objs.size []))
 { s with heap:=(s.heap.push PySem.W.emptyDict).push (PySem.W.instObj C s.heap.objs.size) }:=by
 have e1 : (s.heap.push PySem.W.emptyDict).get? s.heap.objs.size = some PySem.W.emptyDict:=Heap.get?_push_size s.heap rfl
 have e2 : ((s.heap.push PySem.W.emptyDict).push (PySem.W.instObj C s.heap.objs.size)).get? (s.heap.objs.size + 1) = some (PySem.W.instObj C s.heap.objs.size):=by
  have:=Heap.get?_push_size (s.heap.push PySem.W.emptyDict) (o:=PySem.W.instObj C s.heap.objs.size) rfl
  rwa [Heap.size_push] at this
 have e3 : (s.heap.push PySem.W.emptyDict).Ns s.heap.objs.size (fun _=>none):=⟨PySem.W.emptyDict,#[],_,e1,rfl,(fun e he=>absurd he (by simp)),fun _=>rfl⟩
 have I1:=I.laid (a:=s.heap.objs.size) (o:=.own (s.heap.objs.size + 1)) (h':=s.heap.push PySem.W.emptyDict) (t':=s.toks) (fun b u q=>Heap.get?_push_of_some _ q) (Nat.le_refl _) ⟨_,e1⟩
 refine I1.laid (a:=s.heap.objs.size + 1) (o:=.ins C s.heap.objs.size []) (t':=s.toks) (fun b u q=>Heap.get?_push_of_some _ q) (Nat.le_of_eq (Heap.size_push _ _)) ?_
 have ne : s.heap.objs.size ≠ s.heap.objs.size + 1:=Nat.ne_of_lt (Nat.lt_succ_self _)
 refine ⟨by rw [zai ne,upd_same],Nat.zero_le _,ne,e2,fun _=>none,(Heap.Ns1.of_empty e3).at fun o q=>Heap.get?_push_of_some _ q,fun _=>True.intro,fun y hy=>absurd rfl hy⟩
theorem zoe {prog : Program} {w : World} {env : Env} {e : Expr} {f : Str} {pos : Pos} {s : Shared} {Q : Value -> Shared -> Prop} (hb : attributeBase e f env (eval e env) = eval e env)
 (h : wpAny (model prog w) A (eval e env) (fun o s₁=>wpAny (model prog w) A (getAttr o f true) Q E s₁) E s) : wpAny (model prog w) A (eval (.Attribute e f pos) env) Q E s :=
 Attribute_any_ h (by rw [arm_eval_Attribute,hb])
end
section
variable {X : Cx} {o e value : Expr} {f : Str} {pos pos' tpos : Pos} {ta tv : TE}
end
section
variable {X : Cx} {pins : List (Addr × Obj)} {σ : St} {H : Hp} {s : Shared} {A : Around} {E : Value -> Shared -> Prop} {Q : Value -> Shared -> Prop} {c : Value} {b : Bool}
end
end L2
namespace L2
open PySem PySem.Spec PyProof.Rows
structure Room (k : Nat) (A : Around) : Prop where
 hd : A.handled = none
 dp : A.depth + 3 * k + 5 < recursionLimit
 un : A.units + 16 * k + 200 < cLine
theorem Room.mono {j k : Nat} {A : Around} (r : Room k A) (h : j <= k) : Room j A:=⟨r.hd,by have:=r.dp; omega,by have:=r.un; omega⟩
theorem Room.deeper {k : Nat} {A : Around} (r : Room (k + 1) A) (env : Env) : Room k (A.deeper env) :=
 ⟨r.hd,by have:=r.dp; show A.depth + 1 + 3 * k + 5 < _; omega,by have:=r.un; show A.units + 3 + 16 * k + 200 < _; omega⟩
theorem zkb {A : Around} {C : Addr} {us : List Value} {kw : List (Str × Value)} : (A.under (.builtin "type.__call__" ⟨.ref C :: us,kw⟩)).depth = A.depth + 1:=by
 first | rfl | simp [Around.under,Code.weight,Code.isCreation,Code.isGuard,Code.isCaller,Code.frames,Code.isFrame,guardIds]
theorem zkl {A : Around} {C : Addr} {us : List Value} {kw : List (Str × Value)} : (A.under (.builtin "type.__call__" ⟨.ref C :: us,kw⟩)).units = A.units + 1:=by
 first | rfl | simp [Around.under,Code.cUnits,Code.frames,Code.isFrame]
theorem Room.make {k : Nat} {A : Around} (r : Room (k + 1) A) (C : Addr) (us : List Value) (kw : List (Str × Value)) : Room k (A.under (.builtin "type.__call__" ⟨.ref C :: us,kw⟩)) :=
 ⟨r.hd,by have:=r.dp; rw [zkb]; omega,by have:=r.un; rw [zkl]; omega⟩
theorem Room.depth {k : Nat} {A : Around} (r : Room k A) : A.depth < recursionLimit:=by have:=r.dp; omega
theorem Room.units {k : Nat} {A : Around} (r : Room k A) : A.units + 64 < cLine:=by have:=r.un; omega
def tNil : TA:=fun _ H Q=>Q [] H
def zqi (ta : TE) (tr : TA) : TA:=fun σ H Q=>ta σ H fun x H1=>tr σ H1 fun xs H2=>Q (x :: xs) H2
section
variable {X : Cx} {e : Expr} {es : List Expr} {te : TE} {t : TA} {pos : Pos}
theorem zad : PA X [] tNil:=fun _ _ _ _ H Q I h=>Calls.spliced_nil ⟨[],H,I,.nil,h⟩
theorem zaa (ha : PE X e te) (hr : PA X es t) (hs : starEach (e :: es) X.env = (false,eval e X.env) :: starEach es X.env:=by rfl) : PA X (e :: es) (zqi te t):=by
 intro pos pins s σ H Q I h
 rw [hs]
 show wpAny _ _ (spliced ((false,eval e X.env) :: backTo pos (starEach es X.env))) _ _ s
 refine Calls.spliced_cons (thn (ha pins s σ H _ I h) fun u s1 ⟨x,H1,I1,r1,q1⟩=>?_)
 exact thn (hr pos pins s1 σ H1 _ I1 q1) fun us s2 ⟨xs,H2,I2,r2,q2⟩=>⟨x :: xs,H2,I2,.cons r1 r2,q2⟩
def tTup (t : TA) : TE:=fun σ H Q=>t σ H fun xs H1=>xs.length <= sizeLine /\ ∀ p,H1 p = none -> Q (.ref p) (upd H1 p (.tup xs))
def tLst (t : TA) : TE:=fun σ H Q=>t σ H fun xs H1=>xs.length <= sizeLine /\ ∀ p,H1 p = none -> Q (.ref p) (upd H1 p (.lst xs))
theorem zcM {x1} (h : PA X es t) : PE X (.Tuple es x1 pos) (tTup t):=by
 intro pins s σ H Q I hq
 refine wpAny_Tuple_spliced (thn (h pos pins s σ H _ I hq) fun us s1 ⟨xs,H1,I1,r,z,q⟩=>⟨by rw [<- r.length]; exact z,?_⟩)
 have hf : H1 s1.heap.objs.size = none:=I1.hok.fresh (Nat.le_refl _)
 refine ⟨.ref s1.heap.objs.size,upd H1 s1.heap.objs.size (.tup xs),I1.laid (t':=s1.toks) (fun b u e=>Heap.get?_push_of_some _ e) (Nat.le_refl _) ?_,rfl,q _ hf⟩
 exact ⟨z,us,r,⟨_,Heap.get?_push_size _ rfl,rfl,_,rfl⟩⟩
theorem zaE (h : PA X es t) : PE X (.List es pos) (tLst t):=by
 intro pins s σ H Q I hq
 refine wpAny_List_spliced (thn (h pos pins s σ H _ I hq) fun us s1 ⟨xs,H1,I1,r,z,q⟩=>⟨by rw [<- r.length]; exact z,?_⟩)
 have hf : H1 s1.heap.objs.size = none:=I1.hok.fresh (Nat.le_refl _)
 refine ⟨.ref s1.heap.objs.size,upd H1 s1.heap.objs.size (.lst xs),I1.laid (t':=s1.toks) (fun b u e=>Heap.get?_push_of_some _ e) (Nat.le_refl _) ?_,rfl,q _ hf⟩
 exact ⟨z,us,0,r,Heap.get?_push_size _ rfl⟩
end
abbrev Sp:=List V -> Hp -> VK -> XK -> Prop
abbrev CXT:=List Env -> Hp -> Shared -> XK -> Value -> Shared -> Prop
structure Env0 (P : Program) (w : World) (K : PySem.W.Frag) (mg : Str -> Option Value) (base : Heap) (A : Around) (outer : List Env) (s : Shared) (H : Hp) : Prop where
 frames : A.frames = some outer
 mod : Mod K mg base
 bs : ∀ b o,base.get? b = some o -> s.heap.get? b = some o /\ H b = none
 bsz : base.objs.size <= s.heap.objs.size
 funs : s.heap.FunFrames base outer
 frf : ∀ b ∈ frs outer,H b = none
 hok : HOk P w H s.heap
 bare : AllBare s.gens
def CE (outer : List Env) (P : Program) (w : World) (H : Hp) (s : Shared) (Q : VK) (u : Value) (s' : Shared) : Prop :=
 ∃ v H',s'.os = s.os /\ AllBare s'.gens /\ Un (frs outer) [] H H' s.heap s'.heap /\ HOk P w H' s'.heap /\ RelV v u /\ Q v H'
def CR (CX : CXT) (outer : List Env) (P : Program) (w : World) (H : Hp) (s : Shared) (Q : VK) (E : XK) (r : Result) (s' : Shared) : Prop :=
 match r with
 | .ok (.ret u)=>CE outer P w H s Q u s'
 | .ok _=>False
 | .error e=>CX outer H s E e s'
structure FnOk (P : Program) (w : World) (K : PySem.W.Frag) (mg : Str -> Option Value) (base : Heap) (CX : CXT) (k : Nat) (f : Addr) (fd : FuncData) (ps : List Str) (sp : Sp) : Prop where
 len : ∀ vs H Q E,sp vs H Q E -> vs.length = ps.length
 run : ∀ (A : Around) (outer : List Env) (s : Shared) (H : Hp) (args : Args) (us : List Value) (vs : List V) (Q : VK) (E : XK),Room k A -> Env0 P w K mg base A outer s H -> BindsTo s fd args (ps.zip us) -> Vals vs us -> sp vs H Q E ->
  codeAny (model P w) A (.call (.ref f) args) (CR CX outer P w H s Q E) s
theorem FnOk.mono {P : Program} {w : World} {K : PySem.W.Frag} {mg : Str -> Option Value} {base : Heap} {CX : CXT} {j k : Nat} {f : Addr} {fd : FuncData} {ps : List Str} {sp : Sp} (F : FnOk P w K mg base CX j f fd ps sp) (h : j <= k) :
 FnOk P w K mg base CX k f fd ps sp:=⟨F.len,fun A outer s H args us vs Q E hr=>F.run A outer s H args us vs Q E (hr.mono h)⟩
theorem Env0.make {P : Program} {w : World} {K : PySem.W.Frag} {mg : Str -> Option Value} {base : Heap} {A : Around} {outer : List Env} {s : Shared} {H : Hp} (e : Env0 P w K mg base A outer s H) (C : Addr) (us : List Value) (kw : List (Str × Value)) :
 Env0 P w K mg base (A.under (.builtin "type.__call__" ⟨.ref C :: us,kw⟩)) outer s H:=⟨by first | exact e.frames | (simpa [Around.under,Code.envs,Code.isFrame,pushEnvs] using e.frames),e.mod,e.bs,e.bsz,e.funs,e.frf,e.hok,e.bare⟩
section
variable {X : Cx} {pins : List (Addr × Obj)} {σ : St} {H : Hp} {s s' : Shared}
theorem Inv.env0 (I : Inv X pins σ H s) : Env0 X.prog X.w X.K X.mg X.base X.A X.stack s H :=
 ⟨I.ok.frames,I.ok.mod,I.bs,Nat.le_trans I.ok.bsz I.sz,I.stack,I.stkFree,I.hok,I.bare⟩
theorem Inv.after {Q : VK} {u : Value} (I : Inv X pins σ H s) (h : CE X.stack X.prog X.w H s Q u s') : EP X pins σ Q u s':=by
 obtain ⟨v,H',os,bare,un,hok,r,q⟩:=h
 obtain ⟨hh,g,d,t,os'⟩:=s'
 obtain rfl : os' = s.os:=os
 exact ⟨v,H',I.call (h':=hh) (g':=g) (d':=d) (t':=t) (ch:=[]) un hok bare (fun b z=>absurd z (by simp)),r,q⟩
end
def zpc (sp : Sp) (dvs : List V) (E : XK) (t : TA) : TE:=fun σ H Q=>t σ H fun vs H1=>sp (vs ++ dvs) H1 Q E
def znI (C : Addr) (sp : Sp) (dvs : List V) (E : XK) (t : TA) : TE:=fun σ H Q=>t σ H fun vs H1=>∀ x dx,H1 x = none -> H1 dx = none -> dx ≠ x ->
 sp (.ref x :: (vs ++ dvs)) (upd (upd H1 dx (.own x)) x (.ins C dx [])) (fun v H2=>v = .non /\ Q (.ref x) H2) E
def zgT (K : PySem.W.Frag) (fd : FuncData) (ps : List Str) (ds : List Value) : Prop :=
 ∀ (s : Shared) (us : List Value),K.In s.heap -> (us ++ ds).length = ps.length -> BindsTo s fd ⟨us,[]⟩ (ps.zip (us ++ ds))
theorem zgT.all {K : PySem.W.Frag} {fd : FuncData} {ps : List Str} (h : ∀ us : List Value,us.length = ps.length -> bindArgs fd ⟨us,[]⟩ = pure (ps.zip us)) : zgT K fd ps []:=fun s us _ hl=>by
 rw [List.append_nil] at hl ⊢
 exact .of_eq (h us hl)
def zhH (CX : CXT) (X : Cx) (E : XK) : Prop:=∀ (pins : List (Addr × Obj)) (σ : St) (H : Hp) (s : Shared) (e : Value) (s' : Shared),Inv X pins σ H s -> CX X.stack H s E e s' -> X.xe e s'
section
variable {X : Cx} {CX : CXT} {k : Nat} {f C : Addr} {fd : FuncData} {ps : List Str} {sp : Sp} {dvs : List V} {ds : List Value} {E : XK} {x m : Str} {p pos apos : Pos} {e o : Expr} {es : List Expr} {ta : TE} {t : TA}
theorem zlb {pins : List (Addr × Obj)} {σ : St} {H : Hp} {s : Shared} {Q : VK} {us : List Value} {vs : List V} (F : FnOk X.prog X.w X.K X.mg X.base CX k f fd ps sp) (hr : Room k X.A) (hb : zgT X.K fd ps ds) (hd : Vals dvs ds) (hx : zhH CX X E)
 (I : Inv X pins σ H s) (r : Vals vs us) (h : sp (vs ++ dvs) H Q E) : wpAny (model X.prog X.w) X.A (call (.ref f) us) (EP X pins σ Q) X.xe s:=by
 have r2 : Vals (vs ++ dvs) (us ++ ds):=r.append hd
 have hl : (us ++ ds).length = ps.length:=by rw [<- r2.length]; exact F.len _ _ _ _ h
 refine wpAny_call (codeAny_mono (F.run X.A X.stack s H ⟨us,[]⟩ (us ++ ds) (vs ++ dvs) Q E hr I.env0 (hb s us I.kIn hl) r2 h) fun r s' hq=>?_)
 cases r with
 | error e=>exact hx pins σ H s e s' I hq
 | ok fl =>
   cases fl with
   | ret u=>exact I.after hq
   | next=>exact False.elim hq
   | brk=>exact False.elim hq
   | cont=>exact False.elim hq
theorem zok (F : FnOk X.prog X.w X.K X.mg X.base CX k f fd ps sp) (hr : Room k X.A) (hg : Gl X x) (hm : X.mg x = some (.ref f)) (hk : PySem.W.keepIn X.K (.ref f) = true) (hb : zgT X.K fd ps ds) (hd : Vals dvs ds) (hx : zhH CX X E)
 (ha : PA X (e :: es) t) (hdb : (x == ("__debug__" : Str)) = false:=by decide) (he : starEach (e :: es) X.env = (false,eval e X.env) :: starEach es X.env:=by rfl) (hpl : (backTo pos (starEach es X.env)).any (·.1) = false:=by rfl) :
 PE X (.Call (.Name x p) (e :: es) [] pos) (zpc sp dvs E t):=by
 intro pins s σ H Q I h
 refine wpAny_Call_Name_kw (ziE I hg hm ?_ hdb)
 refine PySem.W.callWith_K (h₀:=X.base) I.ok.mod.kin hk (thn (ha pos pins s σ H _ I h) fun us s1 ⟨vs,H1,I1,r,q⟩=>⟨I1.kIn,?_⟩) he hpl
 exact zlb F hr hb hd hx I1 r q
structure Mk (K : PySem.W.Frag) (C f : Addr) : Prop where
 makes : PySem.W.makesIn K C = true
 init : PySem.W.findIn K (.ref C) "__init__" = some (some (.ref f))
 fn : PySem.W.isFn K (.ref f) = true
 kp : PySem.W.keepIn K (.ref C) = true
theorem zmz {pins : List (Addr × Obj)} {σ : St} {H : Hp} {s : Shared} {Q : VK} {us : List Value} {vs : List V} (M : Mk X.K C f) (F : FnOk X.prog X.w X.K X.mg X.base CX k f fd ps sp) (hr : Room (k + 1) X.A) (hb : zgT X.K fd ps ds) (hd : Vals dvs ds)
 (hx : zhH CX X E) (I : Inv X pins σ H s) (r : Vals vs us)
 (h : ∀ x dx,H x = none -> H dx = none -> dx ≠ x -> sp (.ref x :: (vs ++ dvs)) (upd (upd H dx (.own x)) x (.ins C dx [])) (fun v H2=>v = .non /\ Q (.ref x) H2) E) :
 wpAny (model X.prog X.w) X.A (call (.ref C) us) (EP X pins σ Q) X.xe s:=by
 have hq:=h (s.heap.objs.size + 1) s.heap.objs.size (I.hok.fresh (Nat.le_succ _)) (I.hok.fresh (Nat.le_refl _)) (Nat.ne_of_lt (Nat.lt_succ_self _))
 have I2:=Inv.made (C:=C) I
 have r2 : Vals (V.ref (s.heap.objs.size + 1) :: (vs ++ dvs)) (Value.ref (s.heap.objs.size + 1) :: (us ++ ds)):=.cons rfl (r.append hd)
 have hl : (Value.ref (s.heap.objs.size + 1) :: us ++ ds).length = ps.length:=by
  have e:=r2.length
  rw [F.len _ _ _ _ hq] at e
  exact e.symm
 refine wpAny_call (zmv (f:=f) I.kIn M.makes M.init (beq_iff_eq.mp M.fn) (codeAny_mono (F.run _ X.stack _ _ ⟨Value.ref (s.heap.objs.size + 1) :: us,[]⟩ (Value.ref (s.heap.objs.size + 1) :: (us ++ ds)) _ _ E (hr.make C us [])
  (I2.env0.make C us []) (hb _ (Value.ref (s.heap.objs.size + 1) :: us) I2.kIn hl) r2 hq) fun r s' hq'=>?_))
 cases r with
 | error e=>exact hx pins σ _ _ e s' I2 hq'
 | ok fl =>
   cases fl with
   | ret u =>
     obtain ⟨v,H',I3,rv,ev,q3⟩:=I2.after hq'
     subst ev
     exact ⟨rv,⟨V.ref (s.heap.objs.size + 1),H',I3,rfl,q3⟩⟩
   | next=>exact False.elim hq'
   | brk=>exact False.elim hq'
   | cont=>exact False.elim hq'
theorem zlr (M : Mk X.K C f) (F : FnOk X.prog X.w X.K X.mg X.base CX k f fd ps sp) (hr : Room (k + 1) X.A) (hg : Gl X x) (hm : X.mg x = some (.ref C)) (hb : zgT X.K fd ps ds) (hd : Vals dvs ds) (hx : zhH CX X E)
 (ha : PA X (e :: es) t) (hdb : (x == ("__debug__" : Str)) = false:=by decide) (he : starEach (e :: es) X.env = (false,eval e X.env) :: starEach es X.env:=by rfl) (hpl : (backTo pos (starEach es X.env)).any (·.1) = false:=by rfl) :
 PE X (.Call (.Name x p) (e :: es) [] pos) (znI C sp dvs E t):=by
 intro pins s σ H Q I h
 refine wpAny_Call_Name_kw (ziE I hg hm ?_ hdb)
 refine PySem.W.callWith_K (h₀:=X.base) I.ok.mod.kin M.kp (thn (ha pos pins s σ H _ I h) fun us s1 ⟨vs,H1,I1,r,q⟩=>⟨I1.kIn,?_⟩) he hpl
 exact zmz M F hr hb hd hx I1 r q
end
def PK (X : Cx) (kws : List Keyword) (t : TA) : Prop :=
 ∀ (pos : Pos) (pins : List (Addr × Obj)) (s : Shared) (σ : St) (H : Hp) (Q : List V -> Hp -> Prop),Inv X pins σ H s -> t σ H Q -> wpAny (model X.prog X.w) X.A (evalAll ((backToKw pos (keywordEach kws X.env)).map (·.2))) (AP X pins σ Q) X.xe s
section
variable {X : Cx} {CX : CXT} {k : Nat} {f C : Addr} {fd : FuncData} {ps ks : List Str} {sp : Sp} {E : XK} {x m : Str} {p pos apos kpos : Pos} {e o : Expr} {es : List Expr} {kws : List Keyword} {te ta : TE} {t tk : TA} {nm : Option Str}
theorem ztf : PK X [] tNil:=fun _ _ _ _ H Q I h=>wpAny_evalAll_nil ⟨[],H,I,.nil,h⟩
theorem znF (ha : PE X e te) (hr : PK X kws t) : PK X (⟨nm,e,kpos⟩ :: kws) (zqi te t):=by
 intro pos pins s σ H Q I h
 show wpAny _ _ (evalAll ((do let v <- eval e X.env; standAt pos; pure v) :: (backToKw pos (keywordEach kws X.env)).map (·.2))) _ _ s
 refine wpAny_evalAll_cons (wpAny_bind (thn (ha pins s σ H _ I h) fun u s1 ⟨x,H1,I1,r1,q1⟩=>wpAny_bind (wpAny_standAt (wpAny_pure ?_))))
 exact thn (hr pos pins s1 σ H1 _ I1 q1) fun us s2 ⟨xs,H2,I2,r2,q2⟩=>⟨x :: xs,H2,I2,.cons r1 r2,q2⟩
variable {g : List Value -> List Value -> List Value} {gV : List V -> List V -> List V}
end
structure FnScope (N P : List Str) (sc : Scope) : Prop where
 kind : sc.kind = .function
 co : sc.isCoroutine = false
 gen : sc.isGenerator = false
 nd : N.Nodup
 pre : N.take P.length = P
 par : ∀ x ∈ P,sc.names.lookup x = some .local \/ sc.names.lookup x = some .cell
 nofree : ∀ y ∈ sc.names,y.2 ≠ .free
theorem zhe {kindOf : Str -> Option NameKind} {x : Str} : ∀ {binds : List (Str × Value)} {m : Str -> Option Value},(∀ v,(x,v) ∉ binds) -> bindL kindOf binds m x = m x
 | [],_,_=>rfl
 | (n,v) :: r,m,h=>by
   unfold bindL
   rw [zhe fun w hw=>h w (List.mem_cons_of_mem _ hw)]
   split
   ·have : x ≠ n:=by rintro rfl; exact h v List.mem_cons_self
    simp [this]
   ·rfl
theorem zhL {kindOf : Str -> Option NameKind} {x : Str} : ∀ {binds : List (Str × Value)} {m : Str -> Option Value},(∀ v,(x,v) ∉ binds) -> bindC kindOf binds m x = m x
 | [],_,_=>rfl
 | (n,v) :: r,m,h=>by
   unfold bindC
   rw [zhL fun w hw=>h w (List.mem_cons_of_mem _ hw)]
   split
   ·rfl
   ·have : x ≠ n:=by rintro rfl; exact h v List.mem_cons_self
    simp [this]
theorem zhw {kindOf : Str -> Option NameKind} {x : Str} {v : Value} : ∀ {P : List Str} {vs : List Value} {i : Nat} {m : Str -> Option Value},P.Nodup -> P[i]? = some x -> vs[i]? = some v -> kindOf x = some .local ->
 bindL kindOf (P.zip vs) m x = some v
 | [],_,_,_,_,h,_,_=>by simp at h
 | _ :: _,[],_,_,_,_,h,_=>by simp at h
 | p :: P,w :: vs,0,m,nd,h1,h2,hk=>by
   simp at h1 h2; subst h1; subst h2
   show bindL kindOf ((p,w) :: P.zip vs) m p = _
   unfold bindL
   rw [zhe fun v hv=>(List.nodup_cons.mp nd).1 (List.of_mem_zip hv).1,if_pos hk]
   simp
 | p :: P,w :: vs,i + 1,m,nd,h1,h2,hk=>by
   show bindL kindOf ((p,w) :: P.zip vs) m x = _
   unfold bindL
   exact zhw (i:=i) (List.nodup_cons.mp nd).2 (by simpa using h1) (by simpa using h2) hk
theorem zhf {kindOf : Str -> Option NameKind} {x : Str} {v : Value} : ∀ {P : List Str} {vs : List Value} {i : Nat} {m : Str -> Option Value},P.Nodup -> P[i]? = some x -> vs[i]? = some v -> kindOf x ≠ some .local ->
 bindC kindOf (P.zip vs) m x = some v
 | [],_,_,_,_,h,_,_=>by simp at h
 | _ :: _,[],_,_,_,_,h,_=>by simp at h
 | p :: P,w :: vs,0,m,nd,h1,h2,hk=>by
   simp at h1 h2; subst h1; subst h2
   show bindC kindOf ((p,w) :: P.zip vs) m p = _
   unfold bindC
   rw [zhL fun v hv=>(List.nodup_cons.mp nd).1 (List.of_mem_zip hv).1,if_neg hk]
   simp
 | p :: P,w :: vs,i + 1,m,nd,h1,h2,hk=>by
   show bindC kindOf ((p,w) :: P.zip vs) m x = _
   unfold bindC
   exact zhf (i:=i) (List.nodup_cons.mp nd).2 (by simpa using h1) (by simpa using h2) hk
def start (N : List Str) (vs : List V) : St:=vs.map some ++ List.replicate (N.length - vs.length) none
def cxOf (CX : CXT) (P : Program) (w : World) (K : PySem.W.Frag) (mg : Str -> Option Value) (base : Heap) (N : List Str) (qual : Str) (scope : Scope) (f : Addr) (cd : Value) (A : Around) (outer : List Env) (s : Shared) (H : Hp) (E : XK) : Cx where
 prog:=P
 w:=w
 K:=K
 mg:=mg
 base:=base
 A:=A.deeper (envOfC qual scope s.heap.objs.size f cd)
 N:=N
 s₀:=s
 H₀:=H
 env:=envOfC qual scope s.heap.objs.size f cd
 outer:=outer
 stack:=envOfC qual scope s.heap.objs.size f cd :: outer
 ex:=[]
 calm:=true
 fn:=fun _=>true
 pn:=[]
 xe:=fun e s'=>wpAny (model P w) (A.deeper (envOfC qual scope s.heap.objs.size f cd)) (leaving (envOfC qual scope s.heap.objs.size f cd) e) (fun _ s''=>CX outer H s E e s'') (fun e' s''=>CX outer H s E e' s'') s'
theorem zeA {sc : Scope} {n : Nat} {x : Str} (h : sc.names.lookup x = some .cell) : ∃ c,(cellsFrom n sc.names []).lookup x = some c:=by
 have q:=PySem.W.cellsFrom_some sc.names n [] (.inl h)
 exact Option.isSome_iff_exists.mp q
theorem zkZ {CX : CXT} {P : Program} {w : World} {K : PySem.W.Frag} {mg : Str -> Option Value} {base : Heap} {N ps : List Str} {qual : Str} {scope : Scope} {f : Addr} {cd : Value} {A : Around} {outer : List Env} {s s1 : Shared} {H : Hp} {E : XK} {us : List Value} {vs : List V}
 (S : FnScope N ps scope) (hd : A.handled = none) (e0 : Env0 P w K mg base A outer s H) (hl : vs.length = ps.length) (r : Vals vs us)
 (x : InCallC s s.heap.objs.size (bindL (envOfC qual scope s.heap.objs.size f cd).kindOf (ps.zip us) fun _=>none) (cellsFrom (s.heap.objs.size + 1) scope.names []) (bindC (envOfC qual scope s.heap.objs.size f cd).kindOf (ps.zip us) fun _=>none) s1) :
 Inv (cxOf CX P w K mg base N qual scope f cd A outer s H E) [] (start N vs) H s1:=by
 have hpl : ps.length <= N.length:=by have:=congrArg List.length S.pre; rw [List.length_take] at this; omega
 obtain ⟨h1,tk,rfl,hk⟩:=x.done
 have noA : ∀ b : Addr,b ∉ (cxOf CX P w K mg base N qual scope f cd A outer s H E).ex:=fun b z=>absurd (show b ∈ ([] : List Addr) from z) (by simp)
 refine ⟨⟨e0.mod,S.kind,rfl,rfl,Nat.le_refl _,fun y z c h1 h2=>?_,fun y hy=>?_,fun y c _ h=>?_,fun _=>hd,Around.frames_deeper e0.frames,.inr ⟨rfl,rfl⟩,fun b z=>absurd z (noA b),e0.bs,e0.bsz,fun b _ _=>noA b,fun b z=>absurd z (noA b),e0.funs,e0.frf⟩,
  rfl,e0.bare,Un.kept hk,⟨_,x.toInCall.ns,fun i y v h1 h2 h3=>?_⟩,fun y c h=>⟨_,x.cell y c h⟩,e0.hok.fresh (Nat.le_refl _),fun y c h=>?_,fun p hp=>absurd (show p ∈ ([] : List (Addr × Obj)) from hp) (by simp),e0.hok.kept hk,?_⟩
 ·exact name_of_addr x.apart (PySem.mem_of_lookup h1) (PySem.mem_of_lookup h2)
 ·have hy : scope.names.lookup y = some .cell \/ scope.names.lookup y = some .free:=hy
  rcases hy with hy | hy
  ·exact zeA hy
  ·exact absurd rfl (S.nofree _ (PySem.mem_of_lookup hy))
 ·exact Nat.le_of_lt (x.above y c (PySem.mem_of_lookup h))
 ·have hi : i < vs.length:=by
   unfold start at h2
   by_cases hi : i < vs.length
   ·exact hi
   ·rw [List.getElem?_append_right (by simpa using hi)] at h2
    rw [List.getElem?_replicate] at h2
    split at h2 <;> cases h2
  have ha : vs[i]? = some v:=by
   unfold start at h2
   rw [List.getElem?_append_left (by simpa using hi),List.getElem?_map] at h2
   cases e : vs[i]? with
   | none=>rw [e] at h2; cases h2
   | some a=>rw [e] at h2; cases h2; rfl
  obtain ⟨u,hu,rv⟩:=r.get ha
  have hp : ps[i]? = some y:=by
   rw [<- S.pre,List.getElem?_take_of_lt (by omega)]; exact h1
  have ndP : ps.Nodup:=by rw [<- S.pre]; exact S.nd.sublist (List.take_sublist _ _)
  refine ⟨u,rv,?_⟩
  rcases S.par y (List.mem_of_getElem? hp) with k | k
  ·exact .inl ⟨k,zhw ndP hp hu k⟩
  ·obtain ⟨c,e⟩:=zeA (n:=s.heap.objs.size + 1) k
   refine .inr ⟨.inl k,c,e,?_⟩
   have q:=x.cell y c e
   rw [zhf ndP hp hu (by show scope.names.lookup y ≠ _; rw [k]; decide)] at q
   exact q
 ·exact e0.hok.fresh (Nat.le_of_lt (x.above y c (PySem.mem_of_lookup h)))
 ·unfold start
  show _ = N.length
  rw [List.length_append,List.length_map,List.length_replicate]
  omega
theorem zpZ {CX : CXT} {P : Program} {w : World} {K : PySem.W.Frag} {mg : Str -> Option Value} {base : Heap} {k : Nat} {f : Addr} {name qual : Str} {params : Arguments} {body : List Stmt} {scope : Scope} {dV kV doc pm cdv ct oc : Value} {an od : Option Addr}
 {osl : Array (Option Value)} {N ps : List Str} {sp : Sp} (lk : K.lookup f = some ⟨oc,od,.func (PySem.W.fnOf name qual params body scope dV kV doc pm an cdv ct),osl⟩) (hcd : PySem.W.codeIn K cdv qual = true) (S : FnScope N ps scope)
 (len : ∀ vs H Q E,sp vs H Q E -> vs.length = ps.length)
 (hbody : ∀ (A : Around) (outer : List Env) (s : Shared) (H : Hp) (vs : List V) (Q : VK) (E : XK),Room k (A.deeper (envOfC qual scope s.heap.objs.size f cdv)) -> sp vs H Q E ->
   ∃ t,PSs (cxOf CX P w K mg base N qual scope f cdv A outer s H E) body t /\ t { nx:=fun _ H'=>Q .non H',rt:=Q } (start N vs) H) :
 FnOk P w K mg base CX (k + 1) f (PySem.W.fnOf name qual params body scope dV kV doc pm an cdv ct) ps sp:=by
 refine ⟨len,fun A outer s H args us vs Q E hr e0 hb r hsp=>?_⟩
 have hl:=len _ _ _ _ hsp
 have KX : K.In s.heap:=e0.mod.kin.keeps fun b o e=>(e0.bs b o e).1
 have lim : s.heap.NoLimit:=e0.mod.nolimit.keeps fun b o e=>(e0.bs b o e).1
 have hkind : ∀ y ∈ ps.zip us,scope.names.lookup y.1 = some .local \/ (scope.names.lookup y.1 = some .cell /\ ((cellsFrom (s.heap.objs.size + 1) scope.names []).lookup y.1).isSome = true):=fun ⟨n,v⟩ hy=>by
  rcases S.par n (List.of_mem_zip hy).1 with q | q
  ·exact .inl q
  ·exact .inr ⟨q,PySem.W.cellsFrom_some _ _ _ (.inl q)⟩
 refine codeAny_call_function hr.depth (KX _ _ lk) rfl S.co S.gen rfl (PySem.W.codeRec_of KX hcd) (hb _ _ _ _ ?_)
 refine wpAny_newFunctionEnv_cells S.kind hkind fun env he s1 x=>?_
 subst he
 refine ⟨lim.keeps x.toInCall.keep,codeAny_func ?_⟩
 obtain ⟨t,ht,hq⟩:=hbody A outer s H vs Q E (hr.deeper _) hsp
 have I : Inv (cxOf CX P w K mg base N qual scope f cdv A outer s H E) [] (start N vs) H s1:=zkZ S hr.hd e0 hl r x
 refine wpAny_mono (ht [] s1 (start N vs) H _ I hq) (fun fl s' hs=>?_) fun e s' hs=>hs
 have fin : ∀ {σ' : St} {H' : Hp} {v : V} {u : Value},Inv (cxOf CX P w K mg base N qual scope f cdv A outer s H E) [] σ' H' s' -> RelV v u -> Q v H' -> CE outer P w H s Q u s' :=
  fun {σ' H' v u} J rv q=>⟨v,H',J.os,J.bare,J.base,J.hok,rv,q⟩
 cases fl with
 | ret u =>
   obtain ⟨v,σ',H',J,rv,q⟩:=hs
   exact fin J rv q
 | next =>
   obtain ⟨σ',H',J,q⟩:=hs
   exact fin (v:=V.non) (u:=Value.none) J rfl q
 | brk =>
   obtain ⟨_,_,_,q⟩:=hs
   exact False.elim q
 | cont =>
   obtain ⟨_,_,_,q⟩:=hs
   exact False.elim q
end L2
namespace L2
open PySem PySem.Spec PyProof.Rows
section
variable {X : Cx} {x : Str} {p pos : Pos} {e : Expr} {es : List Expr} {t : TA} {id T : String} {r : List V -> Hp -> VK -> Prop}
def tCB (r : List V -> Hp -> VK -> Prop) (t : TA) : TE:=fun σ H Q=>t σ H fun vs H1=>r vs H1 Q
theorem zaJ (hc : zdJ X (.builtin id) r) (hg : Gl X x) (hm : X.mg x = none) (hv : bootBuiltins x = some (.builtin id)) (ha : PA X (e :: es) t) (hn : x ≠ "__name__":=by decide) (hdb : (x == ("__debug__" : Str)) = false:=by decide)
 (he : starEach (e :: es) X.env = (false,eval e X.env) :: starEach es X.env:=by rfl) (hpl : (backTo pos (starEach es X.env)).any (·.1) = false:=by rfl) : PE X (.Call (.Name x p) (e :: es) [] pos) (tCB r t):=by
 intro pins s σ H Q I h
 refine wpAny_Call_Name_kw (zhT I hg hm hv ?_ hn hdb)
 exact PyProof.Rows.callWith_builtin1 (thn (ha pos pins s σ H _ I h) fun us s1 ⟨vs,H1,I1,r1,q1⟩=>hc pins s1 σ H1 vs us Q I1 r1 q1) he hpl
theorem zdI (hc : zdJ X (.type T) r) (hg : Gl X x) (hm : X.mg x = none) (hv : bootBuiltins x = some (.type T)) (ha : PA X (e :: es) t) (hn : x ≠ "__name__":=by decide) (hdb : (x == ("__debug__" : Str)) = false:=by decide)
 (he : starEach (e :: es) X.env = (false,eval e X.env) :: starEach es X.env:=by rfl) (hpl : (backTo pos (starEach es X.env)).any (·.1) = false:=by rfl) : PE X (.Call (.Name x p) (e :: es) [] pos) (tCB r t):=by
 intro pins s σ H Q I h
 refine wpAny_Call_Name_kw (zhT I hg hm hv ?_ hn hdb)
 exact PyProof.Rows.callWith_type1 (thn (ha pos pins s σ H _ I h) fun us s1 ⟨vs,H1,I1,r1,q1⟩=>hc pins s1 σ H1 vs us Q I1 r1 q1) he hpl
end
end L2
namespace HT
open PySem PyProof.Rows
section
open PySem.SeqAt
open PySem.AutoSeq1 (wpAny_loadPart')
open PySem.MeetsSeq PySem.MeetsSeq2 PySem.MeetsSeq3
end
section
variable {prog : Program} {w : World} {A : Around} {E : Value -> Shared -> Prop} {s : Shared}
def sIx (n d : Nat) : Option Int -> Nat
 | none=>d
 | some v=>if v < 0 then (v + (n : Int)).toNat else min v.toNat n
end
end HT
namespace L2
open PySem PySem.Spec PyProof.Rows
abbrev TO:=St -> Hp -> (Option Int -> Hp -> Prop) -> Prop
def PO (X : Cx) (e : Option Expr) (t : TO) : Prop :=
 ∀ (pins : List (Addr × Obj)) (s : Shared) (σ : St) (H : Hp) (Q : Option Int -> Hp -> Prop),Inv X pins σ H s -> t σ H Q ->
  wpAny (model X.prog X.w) X.A (evalPart e X.env) (fun u s'=>∃ o H',Inv X pins σ H' s' /\ IsPart u o /\ Q o H') X.xe s
def zuV (t : TE) : TO:=fun σ H Q=>t σ H fun x H1=>∃ i,x = .int i /\ Q (some i) H1
theorem zdW {ns : List Int} : ∀ {us : List Value},Vals (ns.map V.int) us -> IntsAre us ns:=by
 induction ns with
 | nil=>intro us r; rw [List.map_nil] at r; cases r; exact .nil
 | cons n ns ih =>
   intro us r
   rw [List.map_cons] at r
   cases r with
   | cons r1 r2 =>
     obtain ⟨t,e⟩:=r1
     subst e
     exact .cons n t (ih r2)
section
variable {X : Cx} {e : Expr} {te : TE} {lo hi : Option Expr} {tl th : TO} {pos p2 : Pos}
theorem zfX (h : PE X e te) : PO X (some e) (zuV te):=by
 intro pins s σ H Q I hw
 rw [evalPart_some]
 refine thn (h pins s σ H _ I hw) fun u s1 ⟨x,H1,I1,r1,q1⟩=>?_
 obtain ⟨i,rfl,q⟩:=q1
 obtain ⟨t,rfl⟩:=r1
 exact ⟨some i,H1,I1,.int i t,q⟩
def SlR (X : Cx) (r : V -> Option Int -> Option Int -> Hp -> VK -> Prop) : Prop :=
 ∀ (pins : List (Addr × Obj)) (s : Shared) (σ : St) (H : Hp) (x : V) (v vl vu : Value) (lo hi : Option Int) (sl : Addr) (Q : VK),Inv X pins σ H s -> RelV x v -> s.heap.IsSliceOf sl vl vu .none -> IsPart vl lo -> IsPart vu hi -> r x lo hi H Q ->
  ∃ T id,typeLookup (.type T) "__getitem__" = pure (some (.builtin id)) /\ s.TypeIs v T /\ wpAny (model X.prog X.w) X.A (getItem v (.ref sl)) (EP X pins σ Q) X.xe s
theorem SlR.or {r r' : V -> Option Int -> Option Int -> Hp -> VK -> Prop} (h : SlR X r) (h' : SlR X r') : SlR X (fun x lo hi H Q=>r x lo hi H Q \/ r' x lo hi H Q):=by
 intro pins s σ H x v vl vu lo hi sl Q I rx hs pl pu q
 rcases q with q | q
 ·exact h pins s σ H x v vl vu lo hi sl Q I rx hs pl pu q
 ·exact h' pins s σ H x v vl vu lo hi sl Q I rx hs pl pu q
def tSl (r : V -> Option Int -> Option Int -> Hp -> VK -> Prop) (te : TE) (tl th : TO) : TE:=fun σ H Q=>te σ H fun x H1=>tl σ H1 fun l H2=>th σ H2 fun u H3=>r x l u H3 Q
theorem zjp {r : V -> Option Int -> Option Int -> Hp -> VK -> Prop} (hr : SlR X r) (he : PE X e te) (hl : PO X lo tl) (hu : PO X hi th) : PE X (.Subscript e (.Slice lo hi none p2) pos) (tSl r te tl th):=by
 intro pins s σ H Q I h
 refine Subscript_ (thn (he pins s σ H _ I h) fun v s1 ⟨x,H1,I1,r1,q1⟩=>?_)
 refine wpAny_Slice (thn (hl pins s1 σ H1 _ I1 q1) fun vl s2 ⟨l,H2,I2,pl,q2⟩=>thn (hu pins s2 σ H2 _ I2 q2) fun vu s3 ⟨u,H3,I3,pu,q3⟩=>?_)
 rw [evalPart_none]
 refine wpAny_pure ?_
 have I4 : Inv X pins σ H3 { s3 with heap:=s3.heap.push { cls:=.type "slice",data:=.fields #[vl,vu,.none] } }:=I3.kept (t':=s3.toks) fun b ob q=>Heap.get?_push_of_some _ q
 obtain ⟨T,id,hT,ht,hg⟩:=hr pins { s3 with heap:=s3.heap.push { cls:=.type "slice",data:=.fields #[vl,vu,.none] } } σ H3 x v vl vu l u s3.heap.objs.size Q I4 r1 (Heap.IsSliceOf.new ..) pl pu q3
 show wpAny (model X.prog X.w) X.A (subscriptTail e (.Slice lo hi none p2) v (.ref s3.heap.objs.size)) (EP X pins σ Q) X.xe { s3 with heap:=s3.heap.push { cls:=.type "slice",data:=.fields #[vl,vu,.none] } }
 exact tail_any (ops:=[.ref s3.heap.objs.size,v]) ht hT hg (by with_unfolding_all rfl)
def cutV (xs : List V) (lo hi : Option Int) : List V:=(xs.drop (HT.sIx xs.length 0 lo)).take (HT.sIx xs.length xs.length hi - HT.sIx xs.length 0 lo)
theorem ziy (xs : List V) (lo hi : Option Int) : (cutV xs lo hi).length <= xs.length:=by
 unfold cutV
 rw [List.length_take,List.length_drop]
 omega
end
end L2
namespace L2
open PySem PySem.Spec PyProof.Rows
def ixN (n : Nat) (i : Int) : Option Nat:=if 0 <= i then (if i < n then some i.toNat else none) else if -(n : Int) <= i then some (i + n).toNat else none
def atI {α : Type} (xs : List α) (i : Int) : Option α:=(ixN xs.length i).bind fun j=>xs[j]?
theorem zlc {n : Nat} {i : Int} {j : Nat} (h : ixN n i = some j) : seqIndex? i n = some j /\ j < n /\ -(n : Int) <= i /\ i < n:=by
 unfold ixN at h
 by_cases h0 : 0 <= i
 ·rw [if_pos h0] at h
  by_cases h1 : i < n
  ·rw [if_pos h1] at h
   have e : i.toNat = j:=Option.some.inj h
   exact ⟨by rw [seqIndex_of h0 h1,e],by omega,by omega,h1⟩
  ·rw [if_neg h1] at h; cases h
 ·rw [if_neg h0] at h
  by_cases h1 : -(n : Int) <= i
  ·rw [if_pos h1] at h
   have e : (i + n).toNat = j:=Option.some.inj h
   exact ⟨by rw [seqIndex_neg (by omega) h1,e],by omega,h1,by omega⟩
  ·rw [if_neg h1] at h; cases h
theorem zis {α : Type} {xs : List α} {i : Int} {v : α} (h : atI xs i = some v) : ∃ j,seqIndex? i xs.length = some j /\ xs[j]? = some v /\ j < xs.length /\ -(xs.length : Int) <= i /\ i < xs.length:=by
 unfold atI at h
 cases e : ixN xs.length i with
 | none=>rw [e] at h; cases h
 | some j =>
   rw [e] at h
   obtain ⟨h1,h2,h3,h4⟩:=zlc e
   exact ⟨j,h1,h,h2,h3,h4⟩
theorem zaF {α : Type} {xs : List α} {j : Nat} {v : α} (h : xs[j]? = some v) : atI xs (j : Int) = some v:=by
 have hj : j < xs.length:=(List.getElem?_eq_some_iff.mp h).1
 have e : ixN xs.length (j : Int) = some j:=by
  unfold ixN
  rw [if_pos (by omega),if_pos (by omega)]; simp
 unfold atI; rw [e]; exact h
def znA (b : Expr) : Prop:=∀ o i,subscripted b false o i = operate [o,i] (getItem o i)
def IxR (X : Cx) (r : R2) : Prop :=
 ∀ (value slice : Expr) (pins : List (Addr × Obj)) (s : Shared) (σ : St) (H : Hp) (x y : V) (v u : Value) (Q : VK),Inv X pins σ H s -> RelV x v -> RelV y u -> r x y H Q ->
  subscripted slice false v u = operate [v,u] (getItem v u) -> wpAny (model X.prog X.w) X.A (subscriptTail value slice v u) (EP X pins σ Q) X.xe s
def MtR (X : Cx) (id : String) (r : V -> List V -> Hp -> VK -> Prop) : Prop :=
 ∀ (pins : List (Addr × Obj)) (s : Shared) (σ : St) (H : Hp) (x : V) (xs : List V) (v : Value) (us : List Value) (Q : VK),Inv X pins σ H s -> RelV x v -> Vals xs us -> r x xs H Q ->
  wpAny (model X.prog X.w) X.A (call (.builtin id) (v :: us)) (EP X pins σ Q) X.xe s
section
variable {X : Cx} {a b : Expr} {ta tb : TE} {pos : Pos}
theorem IxR.or {r r' : R2} (h : IxR X r) (h' : IxR X r') : IxR X (fun x y H Q=>r x y H Q \/ r' x y H Q):=by
 intro value slice pins s σ H x y v u Q I rx ry q hs
 rcases q with q | q
 ·exact h value slice pins s σ H x y v u Q I rx ry q hs
 ·exact h' value slice pins s σ H x y v u Q I rx ry q hs
theorem MtR.or {id : String} {r r' : V -> List V -> Hp -> VK -> Prop} (h : MtR X id r) (h' : MtR X id r') : MtR X id (fun x xs H Q=>r x xs H Q \/ r' x xs H Q):=by
 intro pins s σ H x xs v us Q I rx rs q
 rcases q with q | q
 ·exact h pins s σ H x xs v us Q I rx rs q
 ·exact h' pins s σ H x xs v us Q I rx rs q
theorem zaK {r : R2} (hr : IxR X r) (ha : PE X a ta) (hb : PE X b tb) (hs : znA b) : PE X (.Subscript a b pos) (tOp r ta tb):=by
 intro pins s σ H Q I h
 exact Subscript_ (binT ha hb I h fun v u s2 x y H2 I2 rx ry q=>hr a b pins s2 σ H2 x y v u Q I2 rx ry q (hs _ _))
def rIxL (K : PySem.W.Frag) : R2:=fun x y H Q=>∃ p xs i v,x = .ref p /\ y = .int i /\ SqL K H p xs /\ atI xs i = some v /\ Q v H
def rIxT (K : PySem.W.Frag) : R2:=fun x y H Q=>∃ p xs i v,x = .ref p /\ y = .int i /\ SqT K H p xs /\ atI xs i = some v /\ Q v H
def rIxS : R2:=fun x y H Q=>∃ z i c,x = .str z /\ y = .int i /\ z.length <= sizeLine /\ atI z.cps.toList i = some c /\ Q (.str ⟨#[c]⟩) H
theorem znG : IxR X (rIxL X.K):=by
 intro value slice pins s σ H x y v u Q I rx ry h hs
 obtain ⟨p,xs,i,z,rfl,rfl,hq,he,q⟩:=h
 cases rx
 obtain ⟨t,rfl⟩:=ry
 obtain ⟨its,r,pl,hz⟩:=I.list hq
 obtain ⟨j,h1,h2,h3,h4,h5⟩:=zis he
 obtain ⟨w,ew,rw'⟩:=r.get h2
 have hl:=r.length
 have hn:=zfD
 have fin : EP X pins σ Q w s:=⟨z,H,I,rw',q⟩
 by_cases h0 : 0 <= i
 ·have hj : i.toNat = j:=by
   rw [seqIndex_of h0 h5] at h1
   exact Option.some.inj h1
  exact item_listR pl.isList h0 (by omega) (by rw [hj]; simpa using ew) fin hs
 ·have hj : (i + (its.toArray.size : Int)).toNat = j:=by
   rw [seqIndex_neg (by omega) h4] at h1
   rw [List.size_toArray,<- hl]
   exact Option.some.inj h1
  exact subscriptTail_builtinR (x:=w) pl.isList.typeIs slot_list_getitem.lookup
   (wpAny_getItem_list_neg (Q:=fun r s'=>r = w /\ EP X pins σ Q r s') pl.isList (by omega) (by rw [List.size_toArray] <;> omega) (by omega) (by rw [hj]; simpa using ew) ⟨rfl,fin⟩) hs
theorem znm : IxR X (rIxT X.K):=by
 intro value slice pins s σ H x y v u Q I rx ry h hs
 obtain ⟨p,xs,i,z,rfl,rfl,hq,he,q⟩:=h
 cases rx
 obtain ⟨t,rfl⟩:=ry
 obtain ⟨its,r,pl,hz⟩:=I.tuple hq
 obtain ⟨j,h1,h2,h3,h4,h5⟩:=zis he
 obtain ⟨w,ew,rw'⟩:=r.get h2
 have hl:=r.length
 have hn:=zfD
 have fin : EP X pins σ Q w s:=⟨z,H,I,rw',q⟩
 exact subscriptTail_builtinR (x:=w) pl.typeIs slot_tuple_getitem.lookup
  (getItem_tuple (j:=j) (Q:=fun r s'=>r = w /\ EP X pins σ Q r s') pl (by omega) (by omega) (by rw [List.size_toArray,<- hl]; exact h1) (by simpa using ew) ⟨rfl,fin⟩) hs
theorem zeJ : IxR X rIxS:=by
 intro value slice pins s σ H x y v u Q I rx ry h hs
 obtain ⟨z,i,c,rfl,rfl,hz,he,q⟩:=h
 obtain ⟨t,rfl⟩:=rx
 obtain ⟨t',rfl⟩:=ry
 obtain ⟨j,h1,h2,h3,h4,h5⟩:=zis he
 have hl : z.cps.toList.length = z.length:=by simp [Str.length]
 rw [hl] at h1 h4 h5
 have hn:=zfD
 exact tail_any (typeIs_str s z t) slot_str_getitem.lookup (getItem_str (c:=c) (by
  have e1 : decide (i < -(2 ^ 63 : Int)) = false:=decide_eq_false (by omega)
  have e2 : decide (i ≥ 2 ^ 63) = false:=decide_eq_false (by omega)
  rw [e1,e2,Bool.or_false]) (by rw [h1]; simpa using h2) ⟨.str ⟨#[c]⟩,H,I.tok _,⟨_,rfl⟩,q⟩) hs
theorem zkf (its : List Value) (n j : Nat) (u : Value) : Obj.mapSeq (·.setIfInBounds j u) { cls:=.type "list",data:=.seq its.toArray n } = { cls:=.type "list",data:=.seq (its.set j u).toArray n }:=by
 simp [Obj.mapSeq]
theorem Inv.lst {pins : List (Addr × Obj)} {σ : St} {H : Hp} {s : Shared} {p : Addr} {xs : List V} (I : Inv X pins σ H s) (h : H p = some (.lst xs)) :
 ∃ (its : List Value) (n : Nat),Vals xs its /\ s.heap.get? p = some { cls:=.type "list",data:=.seq its.toArray n } /\ xs.length <= sizeLine:=by
 obtain ⟨z,its,n,r,e⟩:=I.hok p _ h
 exact ⟨its,n,r,e,z⟩
theorem Inv.lstUpd {pins : List (Addr × Obj)} {σ : St} {H : Hp} {s : Shared} {p : Addr} {xs ys : List V} {its its' : List Value} {n n' : Nat} {f : Obj -> Obj} (I : Inv X pins σ H s) (h : H p = some (.lst xs))
 (ho : s.heap.get? p = some { cls:=.type "list",data:=.seq its.toArray n }) (hf : f { cls:=.type "list",data:=.seq its.toArray n } = { cls:=.type "list",data:=.seq its'.toArray n' }) (r : Vals ys its') (hz : ys.length <= sizeLine) (t : Nat) :
 Inv X pins σ (upd H p (.lst ys)) { s with heap:=s.heap.update p f,toks:=t }:=by
 have e : (s.heap.update p f).get? p = some { cls:=.type "list",data:=.seq its'.toArray n' }:=by
  rw [Heap.get?_update_self f ho (by rw [hf] <;> rfl),hf]
 refine I.write (x:=p) (e:=p) (by rw [h]; trivial) (.inl rfl) (fun b u hb q=>(Heap.get?_update_other _ _ (Ne.symm hb)).trans q) ⟨_,e⟩ ?_
 exact ⟨hz,its',n',r,e⟩
def ztW : V -> V -> V -> Hp -> (Hp -> Prop) -> Prop:=fun o i v H Q=>∃ p xs k j,o = .ref p /\ i = .int k /\ H p = some (.lst xs) /\ ixN xs.length k = some j /\ Q (upd H p (.lst (xs.set j v)))
theorem zjn : PSet X ztW:=by
 intro pins s σ H o i v ov iv u Q I ro ri rv h
 obtain ⟨p,xs,k,j,rfl,rfl,hp,hj,q⟩:=h
 cases ro
 obtain ⟨t,rfl⟩:=ri
 obtain ⟨its,n,r,ho,hz⟩:=I.lst hp
 obtain ⟨h1,h2,h3,h4⟩:=zlc hj
 have hl:=r.length
 have hn:=zfD
 have I' : Inv X pins σ (upd H p (.lst (xs.set j v))) { s with heap:=s.heap.update p (Obj.mapSeq (·.setIfInBounds j u)) } :=
  I.lstUpd hp ho (zkf its n j u) (r.set rv j) (by rw [List.length_set]; exact hz) s.toks
 by_cases h0 : 0 <= k
 ·have hk : k.toNat = j:=by
   rw [seqIndex_of h0 h4] at h1
   exact Option.some.inj h1
  exact PySem.W.ki_setAt ho h0 (by omega) (by rw [List.size_toArray,<- hl]; exact h4) (by rw [hk]; exact ⟨_,I',q⟩)
 ·have hk : (k + (its.toArray.size : Int)).toNat = j:=by
   rw [seqIndex_neg (by omega) h3] at h1
   rw [List.size_toArray,<- hl]
   exact Option.some.inj h1
  exact PySem.W.ki_setBack ho (by omega) (by rw [List.size_toArray,<- hl]; exact h3) (by omega) (by rw [hk]; exact ⟨_,I',q⟩)
theorem zhg (lo hi : Option Int) (n : Nat) : (sliceBounds lo hi none n).1 = ((HT.sIx n 0 lo : Nat) : Int) /\ (sliceBounds lo hi none n).2.1 = ((HT.sIx n n hi : Nat) : Int) /\ (sliceBounds lo hi none n).2.2 = 1:=by
 refine ⟨?_,?_,rfl⟩
 ·cases lo with
  | none=>simp [sliceBounds,HT.sIx]
  | some i =>
    simp only [sliceBounds,HT.sIx,Option.getD_none,show (1 : Int) > 0 by decide,if_true]
    by_cases h : i < 0
    ·simp only [h,if_true] <;> omega
    ·simp only [h,if_false] <;> omega
 ·cases hi with
  | none=>simp [sliceBounds,HT.sIx]
  | some i =>
    simp only [sliceBounds,HT.sIx,Option.getD_none,show (1 : Int) > 0 by decide,if_true]
    by_cases h : i < 0
    ·simp only [h,if_true] <;> omega
    ·simp only [h,if_false] <;> omega
theorem zgg (its : List Value) (lo hi : Option Int) : slicePick its.toArray lo hi none = ((its.drop (HT.sIx its.length 0 lo)).take (HT.sIx its.length its.length hi - HT.sIx its.length 0 lo)).toArray:=by
 obtain ⟨h1,h2,h3⟩:=zhg lo hi its.toArray.size
 unfold slicePick
 rw [h1,h2,h3]
 simp only [sliceRange_one,pick_run,List.size_toArray] <;> rfl
def rSlL (K : PySem.W.Frag) : V -> Option Int -> Option Int -> Hp -> VK -> Prop:=fun x lo hi H Q=>∃ a xs,x = .ref a /\ SqL K H a xs /\ ∀ p,H p = none -> Q (.ref p) (upd H p (.lst (cutV xs lo hi)))
theorem znT : SlR X (rSlL X.K):=by
 intro pins s σ H x v vl vu lo hi sl Q I rx hs pl pu h
 obtain ⟨a,xs,rfl,hx,q⟩:=h
 cases rx
 obtain ⟨its,r,ht,hz⟩:=I.list hx
 have hlen:=r.length
 refine ⟨"list",_,slot_list_getitem.lookup,ht.isList.typeIs,?_⟩
 refine wpAny_getItem_list_slice ht.isList hs pl pu .none (by simp) ?_ (by rw [List.size_toArray] <;> omega)
 rw [zgg,<- hlen]
 refine ⟨.ref s.heap.objs.size,_,I.laid (t':=s.toks) (o:=.lst (cutV xs lo hi)) (fun b ob q=>Heap.get?_push_of_some _ q) (Nat.le_refl _) ?_,rfl,q _ (I.hok.fresh (Nat.le_refl _))⟩
 exact ⟨Nat.le_trans (ziy xs lo hi) hz,_,0,(r.drop (HT.sIx xs.length 0 lo)).take (HT.sIx xs.length xs.length hi - HT.sIx xs.length 0 lo),Heap.get?_push_size _ rfl⟩
def zfY : V -> Bool
 | .non=>true
 | .bl _=>true
 | .int _=>true
 | .str _=>true
 | _=>false
def eqV : V -> V -> Bool
 | .non,.non=>true
 | .bl a,.bl b=>a == b
 | .bl a,.int b=>(if a then 1 else 0) == b
 | .int a,.bl b=>a == (if b then 1 else 0)
 | .int a,.int b=>a == b
 | .str a,.str b=>a == b
 | _,_=>false
theorem zth {A : Around} {s : Shared} {y x : V} {u v : Value} (ry : RelV y u) (rx : RelV x v) (fy : zfY y = true) (fx : zfY x = true) : SeqAt.EqAt A s u v (eqV y x):=by
 cases y with
 | non =>
   cases ry
   cases x with
   | non=>cases rx; exact SeqAt.EqAt.same _
   | bl b=>cases rx; exact SeqAt.EqAt.none_bool b
   | int b=>obtain ⟨t,rfl⟩:=rx; exact SeqAt.EqAt.none_int b t
   | str b=>obtain ⟨t,rfl⟩:=rx; exact SeqAt.EqAt.none_str b t
   | _=>exact absurd (show false = true from fx) Bool.false_ne_true
 | bl a =>
   cases ry
   cases x with
   | non=>cases rx; exact SeqAt.EqAt.bool_none a
   | bl b=>cases rx; exact SeqAt.EqAt.bool_bool a b
   | int b=>obtain ⟨t,rfl⟩:=rx; exact SeqAt.EqAt.bool_int a b t
   | str b=>obtain ⟨t,rfl⟩:=rx; exact SeqAt.EqAt.bool_str a b t
   | _=>exact absurd (show false = true from fx) Bool.false_ne_true
 | int a =>
   obtain ⟨t',rfl⟩:=ry
   cases x with
   | non=>cases rx; exact SeqAt.EqAt.int_none a t'
   | bl b=>cases rx; exact SeqAt.EqAt.int_bool a t' b
   | int b=>obtain ⟨t,rfl⟩:=rx; exact SeqAt.EqAt.int_int a t' b t
   | str b=>obtain ⟨t,rfl⟩:=rx; exact SeqAt.EqAt.int_str a t' b t
   | _=>exact absurd (show false = true from fx) Bool.false_ne_true
 | str a =>
   obtain ⟨t',rfl⟩:=ry
   cases x with
   | non=>cases rx; exact SeqAt.EqAt.str_none a t'
   | bl b=>cases rx; exact SeqAt.EqAt.str_bool a t' b
   | int b=>obtain ⟨t,rfl⟩:=rx; exact SeqAt.EqAt.str_int a t' b t
   | str b=>obtain ⟨t,rfl⟩:=rx; exact SeqAt.EqAt.str_str a t' b t
   | _=>exact absurd (show false = true from fx) Bool.false_ne_true
 | _=>exact absurd (show false = true from fy) Bool.false_ne_true
def eqU (x : V) (u : Value) : Bool:=match u with
 | .none=>eqV .non x
 | .bool b=>eqV (.bl b) x
 | .int i _=>eqV (.int i) x
 | .str z _=>eqV (.str z) x
 | _=>false
theorem znv {x y : V} {u : Value} (r : RelV y u) (f : zfY y = true) : eqU x u = eqV y x:=by
 cases y with
 | non=>cases r; rfl
 | bl b=>cases r; rfl
 | int i=>obtain ⟨t,rfl⟩:=r; rfl
 | str z=>obtain ⟨t,rfl⟩:=r; rfl
 | _=>exact absurd (show false = true from f) Bool.false_ne_true
theorem zie {x : V} : ∀ {xs : List V} {us : List Value},Vals xs us -> xs.all zfY = true -> us.any (eqU x) = xs.any fun y=>eqV y x
 | _,_,.nil,_=>rfl
 | y :: xs,u :: us,.cons r t,f=>by
   rw [List.all_cons,Bool.and_eq_true] at f
   rw [List.any_cons,List.any_cons,znv r f.1,zie t f.2]
theorem zgA {A : Around} {s : Shared} {x : V} {v : Value} (rx : RelV x v) (fx : zfY x = true) : ∀ {xs : List V} {us : List Value},Vals xs us -> xs.all zfY = true -> ∀ u ∈ us,SeqAt.EqAt A s u v (eqU x u)
 | _,_,.nil,_=>fun u hu=>by cases hu
 | y :: xs,u :: us,.cons r t,f=>fun u' hu=>by
   rw [List.all_cons,Bool.and_eq_true] at f
   rcases List.mem_cons.mp hu with rfl | hu
   ·rw [znv r f.1]; exact zth r rx f.1 fx
   ·exact zgA rx fx t f.2 u' hu
def inV (x : V) (xs : List V) : Bool:=xs.any fun y=>eqV y x
def rIn (K : PySem.W.Frag) (neg : Bool) : R2:=fun x y H Q=>∃ p xs,y = .ref p /\ (SqL K H p xs \/ SqT K H p xs) /\ zfY x = true /\ xs.all zfY = true /\ Q (.bl (if neg then !inV x xs else inV x xs)) H
theorem zgY : OpR X (compareOp .NotIn) (rIn X.K true):=by
 intro pins s σ H x y v u Q I rx ry h
 obtain ⟨p,xs,rfl,hq,fx,fs,q⟩:=h
 cases ry
 rcases hq with hq | hq
 ·obtain ⟨its,r,pl,hz⟩:=I.list hq
  refine SeqAt.notIn_listAt (eqU x) pl.isList (fun w hw=>zgA rx fx r fs w (by simpa using hw)) ⟨.bl _,H,I,rfl,?_⟩
  rw [show its.toArray.any (eqU x) = its.any (eqU x) by simp,zie r fs]
  exact q
 ·obtain ⟨its,r,pl,hz⟩:=I.tuple hq
  refine SeqAt.notIn_tupleAt (eqU x) pl (fun w hw=>zgA rx fx r fs w (by simpa using hw)) ⟨.bl _,H,I,rfl,?_⟩
  rw [show its.toArray.any (eqU x) = its.any (eqU x) by simp,zie r fs]
  exact q
theorem zhi : zdJ X (.builtin "len") (fun xs H Q=>∃ p ys,xs = [.ref p] /\ (SqL X.K H p ys \/ SqT X.K H p ys) /\ Q (.int ys.length) H):=by
 intro pins s σ H xs us Q I r h
 obtain ⟨p,ys,rfl,hq,q⟩:=h
 obtain ⟨u,rfl,rx⟩:=zgi r
 cases rx
 have hn:=zfD
 rcases hq with hq | hq
 ·obtain ⟨its,r',pl,hz⟩:=I.list hq
  have hlen:=r'.length
  exact Calls.call_len_list pl.isList (by simp only [List.size_toArray] <;> omega) ⟨.int ys.length,H,I.tok _,⟨s.toks + 1,by rw [List.size_toArray,hlen]⟩,q⟩
 ·obtain ⟨its,r',pl,hz⟩:=I.tuple hq
  have hlen:=r'.length
  exact len_tuple pl (by simp only [List.size_toArray] <;> omega) ⟨.int ys.length,H,I.tok _,⟨s.toks + 1,by rw [List.size_toArray,hlen]⟩,q⟩
theorem zed : zdJ X (.builtin "len") (fun xs H Q=>∃ z,xs = [.str z] /\ z.length <= sizeLine /\ Q (.int z.length) H):=by
 intro pins s σ H xs us Q I r h
 obtain ⟨z,rfl,hz,q⟩:=h
 obtain ⟨u,rfl,t,rfl⟩:=zgi r
 have hn:=zfD
 exact len_str (by omega) ⟨.int z.length,H,I.tok _,⟨_,rfl⟩,q⟩
theorem zdJ.or {f : Value} {r r' : List V -> Hp -> VK -> Prop} (h : zdJ X f r) (h' : zdJ X f r') : zdJ X f (fun xs H Q=>r xs H Q \/ r' xs H Q):=by
 intro pins s σ H xs us Q I rs q
 rcases q with q | q
 ·exact h pins s σ H xs us Q I rs q
 ·exact h' pins s σ H xs us Q I rs q
theorem zhp : zdJ X (.type "list") (fun xs H Q=>∃ p ys,xs = [.ref p] /\ (SqL X.K H p ys \/ SqT X.K H p ys) /\ ∀ l,H l = none -> Q (.ref l) (upd H l (.lst ys))):=by
 intro pins s σ H xs us Q I r h
 obtain ⟨p,ys,rfl,hq,q⟩:=h
 obtain ⟨u,rfl,rx⟩:=zgi r
 cases rx
 have fin : ∀ (its : List Value),Vals ys its -> ys.length <= sizeLine -> ∀ (h' : Heap) (c' : Nat),(∀ b o',s.heap.get? b = some o' -> h'.get? b = some o') ->
  h'.get? s.heap.objs.size = some { cls:=.type "list",dict:=none,data:=.seq its.toArray c',slots:=#[] } -> EP X pins σ Q (.ref s.heap.objs.size) { s with heap:=h' }:=fun its r' hz h' c' kp e =>
  ⟨.ref s.heap.objs.size,_,I.laid (t':=s.toks) kp (Nat.le_refl _) (show zbX X.prog X.w _ h' _ (.lst ys) from ⟨hz,its,c',r',e⟩),rfl,q _ (I.hok.fresh (Nat.le_refl _))⟩
 rcases hq with hq | hq
 ·obtain ⟨its,r',pl,hz⟩:=I.list hq
  have hlen:=r'.length
  obtain ⟨o,ho,hc,n,hd⟩:=pl.isList
  exact call_list_seq p (.inl rfl) ho hc hd (fun h' c' kp e=>fin its r' hz h' c' kp e) (by simp only [List.size_toArray] <;> omega)
 ·obtain ⟨its,r',pl,hz⟩:=I.tuple hq
  have hlen:=r'.length
  obtain ⟨o,ho,hc,n,hd⟩:=pl
  exact call_list_seq p (.inr rfl) ho hc hd (fun h' c' kp e=>fin its r' hz h' c' kp e) (by simp only [List.size_toArray] <;> omega)
def tyV (K : PySem.W.Frag) (T : String) (x : V) (H : Hp) : Prop:=match x with
 | .str _=>T = "str"
 | .int _=>T = "int"
 | .ref p=>(T = "list" /\ ∃ xs,SqL K H p xs) \/ (T = "tuple" /\ ∃ o,K.lookup p = some o /\ o.cls = .type "tuple" /\ o.dict = none) \/
    (T = "dict" /\ ((∃ kvs,H p = some (.dK kvs)) \/ ∃ kvs,H p = some (.dT kvs))) \/ (T = "set" /\ ∃ S n,H p = some (.set S n))
 | _=>False
theorem znh {pins : List (Addr × Obj)} {σ : St} {H : Hp} {s : Shared} {T : String} {x : V} {v : Value} (I : Inv X pins σ H s) (r : RelV x v) (ty : tyV X.K T x H) :
 s.TypeIs v T /\ ∀ a,v = .ref a -> ∃ ob,s.heap.get? a = some ob /\ ob.dict = none:=by
 cases x with
 | str z =>
   obtain ⟨t,rfl⟩:=r
   cases (show T = "str" from ty)
   exact ⟨typeIs_str s z t,fun _ e=>nomatch e⟩
 | int i =>
   obtain ⟨t,rfl⟩:=r
   cases (show T = "int" from ty)
   exact ⟨typeIs_int s i t,fun _ e=>nomatch e⟩
 | ref p =>
   cases r
   rcases ty with ⟨rfl,xs,hq⟩ | ⟨rfl,o,hk,hc,hd⟩ | ⟨rfl,hk⟩ | ⟨rfl,S,n,hk⟩
   ·obtain ⟨its,_,pl,_⟩:=I.list hq
    refine ⟨pl.isList.typeIs,fun a e=>?_⟩
    cases e
    obtain ⟨o,n,e,c,hd,_⟩:=pl
    exact ⟨o,e,hd⟩
   ·refine ⟨⟨o,I.kIn p o hk,hc⟩,fun a e=>?_⟩
    cases e
    exact ⟨o,I.kIn _ o hk,hd⟩
   ·have z : ∃ o,s.heap.get? p = some o /\ o.ExactDict:=by
     rcases hk with ⟨kvs,hk⟩ | ⟨kvs,hk⟩
     ·obtain ⟨_,_,_,_,o,_,_,e,ex,_⟩:=I.hok p _ hk
      exact ⟨o,e,ex⟩
     ·obtain ⟨_,_,_,_,o,_,_,e,ex,_⟩:=I.hok p _ hk
      exact ⟨o,e,ex⟩
    obtain ⟨o,e,ex⟩:=z
    refine ⟨⟨o,e,ex.1⟩,fun a e2=>?_⟩
    cases e2
    exact ⟨o,e,ex.2.1⟩
   ·obtain ⟨o,_,_,_,e,ex,_⟩:=I.hok p _ hk
    refine ⟨⟨o,e,ex.1⟩,fun a e2=>?_⟩
    cases e2
    exact ⟨o,e,ex.2.1⟩
 | _=>exact False.elim ty
def tBM0 (K : PySem.W.Frag) (T : String) (r : V -> List V -> Hp -> VK -> Prop) (to : TE) : TE:=fun σ H Q=>to σ H fun x H1=>tyV K T x H1 /\ r x [] H1 Q
def tBM (K : PySem.W.Frag) (T : String) (r : V -> List V -> Hp -> VK -> Prop) (to : TE) (t : TA) : TE:=fun σ H Q=>to σ H fun x H1=>tyV K T x H1 /\ t σ H1 fun xs H2=>r x xs H2 Q
variable {o e : Expr} {es : List Expr} {to : TE} {t : TA} {name : Str} {apos cpos : Pos} {T id : String} {r : V -> List V -> Hp -> VK -> Prop}
theorem zpy (pa : PlainAttrs T) (slot : Slot T name id) (hty : typeOf (.builtin id) = pure (.type "method_descriptor")) (hm : MtR X id r) (ho : PE X o to)
 (hbase : attributeBase o name X.env (eval o X.env) = eval o X.env:=by rfl) (hline : (apos.endLine == cpos.line) = true:=by rfl) : PE X (.Call (.Attribute o name apos) [] [] cpos) (tBM0 X.K T r to):=by
 intro pins s σ H Q I h
 refine wpAny_Call_method0_late hbase hline (thn (ho pins s σ H _ I h) fun v s1 ⟨x,H1,I1,r1,ty,q1⟩=>?_)
 obtain ⟨h1,h2⟩:=znh I1 r1 ty
 exact ⟨T,id,pa,slot,hty,h1,h2,Calls.callWith_builtin rfl (PySem.evalArgs_none (hm pins s1 σ H1 x [] v [] Q I1 r1 .nil q1))⟩
theorem zvN (pa : PlainAttrs T) (slot : Slot T name id) (hty : typeOf (.builtin id) = pure (.type "method_descriptor")) (hm : MtR X id r) (ho : PE X o to) (ha : PA X (e :: es) t)
 (hbase : attributeBase o name X.env (eval o X.env) = eval o X.env:=by rfl)
 (hfew : ((backTo cpos (starEach (e :: es) X.env)).all (fun x=>!x.1) && (backToKw cpos (keywordEach [] X.env)).all (fun x=>x.1.isSome)
   && decide ((e :: es).length + ([] : List Keyword).length + (if ([] : List Keyword).isEmpty then 0 else 1) < 30)) = true:=by rfl)
 (hline : (apos.endLine == cpos.line) = true:=by rfl) (hs : starEach (e :: es) X.env = (false,eval e X.env) :: starEach es X.env:=by rfl) (hplain : (backTo cpos (starEach es X.env)).any (·.1) = false:=by rfl) :
 PE X (.Call (.Attribute o name apos) (e :: es) [] cpos) (tBM X.K T r to t):=by
 intro pins s σ H Q I h
 refine wpAny_Call_method_late hbase hfew hline rfl (thn (ho pins s σ H _ I h) fun v s1 ⟨x,H1,I1,r1,ty,q1⟩=>?_)
 obtain ⟨h1,h2⟩:=znh I1 r1 ty
 refine ⟨T,id,pa,slot,hty,h1,h2,?_⟩
 have hA:=ha cpos pins s1 σ H1 _ I1 q1
 rw [hs] at hA ⊢
 refine Calls.callWith_builtin (by show (false || (backTo cpos (starEach es X.env)).any (·.1)) = false; rw [hplain] <;> rfl) (Calls.evalArgs_plain ?_)
 exact thn hA fun us s2 ⟨vs,H2,I2,r2,q2⟩=>hm pins s2 σ H2 x vs v us Q I2 r1 r2 q2
end
end L2
namespace L2
open PySem PySem.Spec PyProof.Rows
def MtM (X : Cx) (id : String) (r : V -> List V -> Hp -> VK -> Prop) : Prop :=
 ∀ (pins : List (Addr × Obj)) (s : Shared) (σ : St) (H : Hp) (x : V) (xs : List V) (v : Value) (us : List Value) (Q : VK),Inv X pins σ H s -> RelV x v -> Vals xs us -> r x xs H Q ->
  wpAny (model X.prog X.w) X.A (call (.builtin id) (v :: us)) (EP X pins σ Q) X.xe s
theorem Vals.one : ∀ {x : V} {us : List Value},Vals [x] us -> ∃ u,us = [u] /\ RelV x u
 | _,_,.cons r .nil=>⟨_,rfl,r⟩
theorem Vals.two : ∀ {x y : V} {us : List Value},Vals [x,y] us -> ∃ u v,us = [u,v] /\ RelV x u /\ RelV y v
 | _,_,_,.cons r (.cons q .nil)=>⟨_,_,rfl,r,q⟩
theorem Vals.zero : ∀ {us : List Value},Vals [] us -> us = []
 | _,.nil=>rfl
theorem Vals.eraseIdx : ∀ {xs : List V} {us : List Value} (i : Nat),Vals xs us -> Vals (xs.eraseIdx i) (us.eraseIdx i)
 | _,_,_,.nil=>.nil
 | _,_,0,.cons _ t=>t
 | _,_,i + 1,.cons r t=>.cons r (Vals.eraseIdx i t)
theorem Vals.rep {xs : List V} {us : List Value} (h : Vals xs us) : ∀ k : Nat,Vals (List.replicate k xs).flatten (List.replicate k us).flatten
 | 0=>.nil
 | k + 1=>by
   rw [List.replicate_succ,List.replicate_succ,List.flatten_cons,List.flatten_cons]
   exact Vals.append h (Vals.rep h k)
theorem zhI {α : Type} : ∀ (l : List α) (i : Nat),(l.eraseIdx i).length <= l.length
 | [],_=>Nat.le_refl _
 | _ :: _,0=>Nat.le_succ _
 | _ :: r,i + 1=>Nat.succ_le_succ (zhI r i)
theorem zhE (its : List Value) : ∀ (k : Nat) (acc : List Value),
 List.foldl (fun x1 x2=>x1 ++ x2) acc.toArray (List.replicate k its.toArray) = (acc ++ (List.replicate k its).flatten).toArray
 | 0,acc=>by simp
 | k + 1,acc=>by
   have e : acc.toArray ++ its.toArray = (acc ++ its).toArray:=by simp
   have e2 : (acc ++ its) ++ (List.replicate k its).flatten = acc ++ (List.replicate (k + 1) its).flatten:=by
    rw [List.replicate_succ,List.flatten_cons,List.append_assoc]
   rw [<- e2,<- zhE its k (acc ++ its),<- e,List.replicate_succ,List.foldl_cons]
section
variable {X : Cx} {pins : List (Addr × Obj)} {σ : St} {H : Hp} {s : Shared} {l b : Addr} {xs ys zs : List V}
theorem Inv.lset {its its' : List Value} {n : Nat} {f : Array Value -> Array Value} {t' : Nat} (I : Inv X pins σ H s) (hH : H l = some (.lst xs))
 (e : s.heap.get? l = some { cls:=.type "list",data:=.seq its.toArray n }) (hf : f its.toArray = its'.toArray) (hv : Vals ys its') (hz : ys.length <= sizeLine) :
 Inv X pins σ (upd H l (.lst ys)) { s with heap:=s.heap.update l (Obj.mapSeq f),toks:=t' }:=by
 have q:=PySem.IsL.update e f
 rw [hf] at q
 refine I.write (x:=l) (e:=l) (by rw [hH]; exact trivial) (.inl rfl) (fun b' u hb hu=>(Heap.get?_update_other s.heap (Obj.mapSeq f) (Ne.symm hb)).trans hu) ⟨_,q⟩ ?_
 exact ⟨hz,its',_,hv,q⟩
theorem Inv.lnew {its : List Value} {t' : Nat} (I : Inv X pins σ H s) (hv : Vals ys its) (hz : ys.length <= sizeLine) :
 Inv X pins σ (upd H s.heap.objs.size (.lst ys)) { s with heap:=s.heap.push { cls:=.type "list",data:=.seq its.toArray },toks:=t' } :=
 I.laid (fun _ _ q=>Heap.get?_push_of_some _ q) (Nat.le_refl _) ⟨hz,its,0,hv,Heap.get?_push_size _ rfl⟩
theorem Inv.fresh (I : Inv X pins σ H s) : H s.heap.objs.size = none:=I.hok.fresh (Nat.le_refl _)
theorem Inv.lstM (I : Inv X pins σ H s) (hH : H l = some (.lst xs)) : xs.length <= sizeLine /\ ∃ (its : List Value) (n : Nat),Vals xs its /\ xs.length = its.length /\ s.heap.get? l = some { cls:=.type "list",data:=.seq its.toArray n }:=by
 obtain ⟨z,its,n,r,e⟩:=I.hok l _ hH
 exact ⟨z,its,n,r,r.length,e⟩
theorem zje {n : Nat} (h : n <= sizeLine) : Builtin.List.listTooLong n = false:=by
 unfold Builtin.List.listTooLong
 exact decide_eq_false (by omega)
end
section
variable {X : Cx}
def rAppend : V -> List V -> Hp -> VK -> Prop:=fun x vs H Q=>∃ l xs y,x = .ref l /\ vs = [y] /\ H l = some (.lst xs) /\ xs.length < sizeLine /\ Q .non (upd H l (.lst (xs ++ [y])))
theorem zaY : MtM X "list.append" rAppend:=by
 intro pins s σ H x vs v us Q I rx rv h
 obtain ⟨l,xs,y,rfl,rfl,hH,hz,q⟩:=h
 cases rx
 obtain ⟨u,rfl,ru⟩:=rv.one
 obtain ⟨z,its,n,r,hl,e⟩:=I.lstM hH
 refine call_meets F.slot_list_append ⟨_,e,rfl⟩ F.entry_list_append (F.args_list_append_2 _ _) (PySem.list_append l its.toArray n u (by rw [List.size_toArray]; omega)) ⟨e,?_⟩
 refine ⟨.non,_,I.lset (its':=its ++ [u]) hH e (by simp) (r.append (.cons ru .nil)) ?_,rfl,q⟩
 rw [List.length_append,List.length_singleton]
 omega
def rExtend : V -> List V -> Hp -> VK -> Prop:=fun x vs H Q=>∃ l b xs zs,x = .ref l /\ vs = [.ref b] /\ H l = some (.lst xs) /\ H b = some (.lst zs) /\ xs.length + zs.length <= sizeLine /\ Q .non (upd H l (.lst (xs ++ zs)))
theorem zkx : MtM X "list.extend" rExtend:=by
 intro pins s σ H x vs v us Q I rx rv h
 obtain ⟨l,b,xs,zs,rfl,rfl,hH,hB,hz,q⟩:=h
 cases rx
 obtain ⟨u,rfl,ru⟩:=rv.one
 cases ru
 obtain ⟨z,its,n,r,hl,e⟩:=I.lstM hH
 obtain ⟨z2,its2,n2,r2,hl2,e2⟩:=I.lstM hB
 have hsz : its.toArray.size + its2.toArray.size <= sizeLine:=by rw [List.size_toArray,List.size_toArray]; omega
 have hlong : ¬ (!its.toArray.isEmpty && Builtin.List.listTooLong (its.toArray.size + its2.toArray.size)) = true:=by
  rw [zje hsz,Bool.and_false]
  exact Bool.false_ne_true
 refine call_meets F.slot_list_extend ⟨_,e,rfl⟩ F.entry_list_extend (F.args_list_extend_2 _ _)
  (AutoSeq1.list_extend_list_list_0 l its.toArray n b its2.toArray n2 hlong (by rw [List.size_toArray]; omega) (by omega)) ⟨e,e2,?_⟩
 refine ⟨.non,_,I.lset (its':=its ++ its2) hH e (by simp) (r.append r2) ?_,rfl,q⟩
 rw [List.length_append]
 omega
def rPopAt : V -> List V -> Hp -> VK -> Prop:=fun x vs H Q=>∃ l xs i k y,x = .ref l /\ vs = [.int i] /\ H l = some (.lst xs) /\ -(2 ^ 63) <= i /\ i < 2 ^ 63 /\ seqIndex? i xs.length = some k /\ xs[k]? = some y /\ Q y (upd H l (.lst (xs.eraseIdx k)))
theorem zjz : MtM X "list.pop" rPopAt:=by
 intro pins s σ H x vs v us Q I rx rv h
 obtain ⟨l,xs,i,k,y,rfl,rfl,hH,h1,h2,hk,hy,q⟩:=h
 cases rx
 obtain ⟨u,rfl,ru⟩:=rv.one
 obtain ⟨t,rfl⟩:=ru
 obtain ⟨z,its,n,r,hl,e⟩:=I.lstM hH
 obtain ⟨w,hw,rw'⟩:=r.get hy
 refine call_meets F.slot_list_pop ⟨_,e,rfl⟩ F.entry_list_pop (F.args_list_pop_2 _ _)
  (MeetsSeq.list_pop_at l its.toArray n i t k w (fitsIndex_both h1 h2) (by rw [List.size_toArray,<- hl]; exact hk) (by rw [<- Array.getElem?_toList]; exact hw) (by rw [List.size_toArray]; omega)) ⟨e,?_⟩
 refine ⟨y,_,I.lset (its':=its.eraseIdx k) hH e ?_ (r.eraseIdx k) ?_,rw',q⟩
 ·show its.toArray.eraseIdxIfInBounds k = (its.eraseIdx k).toArray
  rw [List.eraseIdxIfInBounds_toArray]
 ·have:=zhI xs k
  omega
def rRep : R2:=fun x y H Q=>∃ l k xs,x = .ref l /\ y = .int k /\ H l = some (.lst xs) /\ -(2 ^ 63) <= k /\ k < 2 ^ 63 /\ xs.length * k.toNat <= sizeLine /\
 ∀ p,H p = none -> Q (.ref p) (upd H p (.lst (List.replicate k.toNat xs).flatten))
theorem zos {α : Type} (xs : List α) (k : Nat) : (List.replicate k xs).flatten.length = k * xs.length:=by
 induction k with
 | zero=>simp
 | succ k ih=>rw [List.replicate_succ,List.flatten_cons,List.length_append,ih,Nat.succ_mul,Nat.add_comm]
theorem znt : OpR X (binaryOp .Mult) rRep:=by
 intro pins s σ H x y v u Q I rx ry h
 obtain ⟨l,k,xs,rfl,rfl,hH,h1,h2,hz,q⟩:=h
 cases rx
 obtain ⟨t,rfl⟩:=ry
 obtain ⟨z,its,n,r,hl,e⟩:=I.lstM hH
 have hlen : its.toArray.size * k.toNat <= sizeLine:=by rw [List.size_toArray,<- hl]; exact hz
 have hcap : ¬ its.toArray.size * k.toNat > (2 ^ 63 - 1) / 8:=by
  have : (sizeLine : Nat) <= (2 ^ 63 - 1) / 8:=by decide
  omega
 have hfit : ¬ (!Builtin.List.listFitsIndex k) = true:=by
  rw [fitsIndex_both h1 h2]
  exact Bool.false_ne_true
 have hlong : ¬ Builtin.List.listTooLong (its.toArray.size * k.toNat) = true:=by
  rw [zje hlen]
  exact Bool.false_ne_true
 have hnew : List.foldl (fun x1 x2=>x1 ++ x2) #[] (List.replicate (if its.toArray.isEmpty = true then 0 else k.toNat) its.toArray) = (List.replicate k.toNat its).flatten.toArray:=by
  have f0 : ∀ m : Nat,List.foldl (fun x1 x2=>x1 ++ x2) #[] (List.replicate m its.toArray) = (List.replicate m its).flatten.toArray:=fun m=>by
   have:=zhE its m []
   rw [List.nil_append] at this
   exact this
  rw [f0]
  cases its with
  | nil=>simp
  | cons a r'=>rw [if_neg (by simp)]
 refine wpAny_binaryOp_repeat_ref (T:="list") (U:="int") (by decide) ⟨_,e,rfl⟩ (fun s'=>typeIs_int s' k t) noFill_list_mul F.fills_int_mul F.slot_int_rmul repeat_list F.slot_int_index.lookup
  (call_meets F.slot_int_rmul (typeIs_int s k t) F.entry_int_rmul (F.args_int_rmul_2 _ _) (int___rmul___int_list k t l its.toArray n)
    ⟨e,rfl,⟨_,e,rfl⟩,call_meets F.slot_list_mul ⟨_,e,rfl⟩ F.entry_list_mul (F.args_list_mul_2 _ _) (AutoListH.list___mul___list_int_3 l its.toArray n k t hfit hcap hlong) ⟨e,?_⟩⟩)
 rw [hnew]
 exact ⟨.ref _,_,I.lnew (t':=s.toks) (r.rep k.toNat) (by rw [zos,Nat.mul_comm]; exact hz),rfl,q _ I.fresh⟩
end
section
variable {prog : Program} {w : World} {A : Around} {E : Value -> Shared -> Prop} {s : Shared}
set_option maxRecDepth 100000 in
end
section
variable {X : Cx}
end
end L2
namespace Att
open PySem PySem.W PySem.Calls PyProof.Rows
theorem zeF {P : Params} {h : Heap} : ∀ (ns : List Int) (vs : List Value),WellAll P h vs (ns.map WData.int) -> IntsAre vs ns:=by
 intro ns
 induction ns with
 | nil =>
   intro vs w
   rw [List.map_nil] at w
   cases w
   exact .nil
 | cons n ns ih =>
   intro vs w
   rw [List.map_cons] at w
   cases w with
   | cons a b =>
     cases a
     exact .cons _ _ (ih _ b)
theorem zkT {l : OpenLaw} {n : Nat} (hn : l.most = some n) {P : Params} {h : Heap} {args : List WData} {vals : List Value}
 (hpre : l.row.toRowW.claim.pre args = true) (hwl : WellAll P h vals args) :
 ∃ a vs ns,vals = [Value.ref a] /\ args = [WData.list (ns.map WData.int)] /\ h.get? a = some { cls:=.type "list",data:=.seq vs.toArray } /\ IntsAre vs ns /\ ns.length <= n:=by
 have hsh : WShape.hasAll [] args [.list .int] = true:=(pre_splitW hpre).1
 have hc : l.pre.holds [] { args:=args } = true:=(pre_splitW hpre).2
 obtain ⟨d,r,rfl,h1,h2⟩:=hasAllW_cons hsh
 obtain rfl:=hasAllW_nil h2
 obtain ⟨xs,rfl,h3⟩:=hasW_list h1
 obtain ⟨ns,rfl⟩:=items_int h3
 have hlen : ns.length <= n:=by
  unfold OpenLaw.pre at hc
  have h4 : (WTm.not (.lt (.lit (.int (n : Int))) (.len (.arg 0)))).holds [] { args:=[.list (ns.map .int)] } = true:=by
   have h4:=(holds_andW hc).1
   rw [hn] at h4
   exact h4
  have h5:=condW_of h4 (w_not (w_lt w_lit (w_len_list (w_arg rfl))))
  rw [List.length_map] at h5
  refine Nat.le_of_not_lt fun q=>?_
  have q' : (n : Int) < ((ns.length : Nat) : Int):=by omega
  first
   | (rw [decide_eq_true q'] at h5; exact absurd h5 (by decide))
   | (simp at h5; omega)
 cases hwl with
 | cons w1 w2 =>
   cases w2
   cases w1 with
   | list ho hall=>exact ⟨_,_,ns,rfl,rfl,ho,zeF ns _ hall,hlen⟩
theorem zky (l : OpenLaw) (args : List WData) : l.row.toRowW.claim.post args (.bool true) args = true :=
 postW_of (r:=l.row.toRowW) (X:=(true == true))
  (show WShape.has [] (.bool true) .bool = true by first | rfl | decide | simp [WShape.has,WShape.arms,WShape.armsAll])
  (show (WTm.eq .res (.lit (.bool true))).value [] { args:=args,res:=some (.bool true),after:=args } = some (.bool (true == true)) from w_eq_bool (w_res rfl) w_lit) rfl
theorem ziG {l : OpenLaw} {n : Nat} {q : Program} {loose : List Str} {XP : (Str -> Option Value) -> Heap -> Prop} {YP : World -> Heap -> Prop} {d : DefRec}
 (hn : l.most = some n) (hdf : d.params.defaults = [])
 (call : ∀ (w : World) (s₀ s₁ : Shared) (mg mb : Str -> Option Value) (fa : Addr) (o : Obj) (pm cd doc : Value) (a : Addr) (vs : List Value) (ns : List Int),
   Ground q loose [] XP w s₀ mg mb s₁.heap -> YP w s₁.heap ->
   s₁.heap.get? fa = some o -> o.data = .func (docDef d.name d.params d.body d.scope pm cd doc) -> s₁.heap.CodeRec cd d.name -> mg d.name = some (.ref fa) ->
   s₁.heap.get? a = some { cls:=.type "list",data:=.seq vs.toArray } -> IntsAre vs ns -> ns.length <= n -> s₁.gens = #[] ->
   codeAny (model l.prog w) callerA (.call (.ref fa) ⟨[.ref a],[]⟩) (fun r s'=>r = .ok (.ret (.bool true)) /\ OldK s₁.heap s'.heap /\ s'.os = s₁.os /\ AllBare s'.gens) s₁) :
 WalkO q loose XP YP l.row.toRowW d [] (fun f vs=>PySem.call f vs):=by
 intro w s₀ s₁ mg mb G Y fa o pm cd doc dV kV ho hd hcd hD hmg hg args vals as hpre hlay hrd hwl hlo
 obtain rfl : dV = .none:=Dflts.none hD hdf
 obtain rfl : kV = .none:=Dflts.noKw hD
 obtain ⟨a,vs,ns,rfl,rfl,hobj,hints,hlen⟩:=zkT hn hpre hwl
 refine enter_call (codeAny_mono (call w s₀ s₁ mg mb fa o pm cd doc a vs ns G Y ho (fd_plain hd) hcd hmg hobj hints hlen hg) fun r s' hq=>?_)
 obtain ⟨rfl,h2,h3,h4⟩:=hq
 exact ⟨.inl ⟨.bool true,.bool true,[],rfl,fun _=>rfl,.bool true,zky l _,fun _=>⟨List.Pairwise.nil,fun _ hm=>(nomatch hm)⟩⟩,h2,h3,h4⟩
section
variable {prog : Program} {w : World} {A : Around} {E : Value -> Shared -> Prop} {s : Shared} {K : Frag}
end
end Att
namespace L2
open PySem PySem.Spec PyProof.Rows
theorem zhq : ∀ {vs : List Value} {ns : List Int},IntsAre vs ns -> Vals (ns.map V.int) vs
 | _,_,.nil=>.nil
 | _,_,.cons n t h=>.cons ⟨t,rfl⟩ (zhq h)
def Only (H : Hp) : Prop:=∀ b,H b = none \/ ∃ o xs,H b = some (.frz o (.lst xs))
theorem zmU {P : Program} {w : World} {K : PySem.W.Frag} {mg mb : Str -> Option Value} {CX : CXT} {k : Nat} {fa a : Addr} {fd : FuncData} {x : Str} {sp : Sp} {s₁ : Shared} {vs : List Value} {ns : List Int}
 (KX : K.In s₁.heap) (hns : s₁.heap.Ns mainGlobals mg) (hb : s₁.heap.Ns builtinsNs mb) (hbb : ∀ x : Str,x ≠ "__name__" -> mb x = bootBuiltins x) (hlim : s₁.heap.NoLimit) (hg : s₁.gens = #[])
 (ha : s₁.heap.get? a = some { cls:=.type "list",data:=.seq vs.toArray }) (hi : IntsAre vs ns) (hl : ns.length <= sizeLine) (hr : Room k callerA)
 (F : ∀ base : Heap,K.In base -> base.Ns mainGlobals mg -> FnOk P w K mg base CX k fa fd [x] sp) (hbind : ∀ (s : Shared) (u : Value),BindsTo s fd ⟨[u],[]⟩ [(x,u)])
 (hsp : ∀ H : Hp,Only H -> SqL K H a (ns.map V.int) -> sp [.ref a] H (fun v _=>v = .bl true) fun _ _ _=>False)
 (hCX : ∀ H e s',CX [] H s₁ (fun _ _ _=>False) e s' -> False) :
 codeAny (model P w) callerA (.call (.ref fa) ⟨[.ref a],[]⟩) (fun r s'=>r = .ok (.ret (.bool true)) /\ OldK s₁.heap s'.heap /\ s'.os = s₁.os /\ AllBare s'.gens) s₁:=by
 have rv:=zhq hi
 have lenV:=hi.length
 have core : ∀ H : Hp,Only H -> SqL K H a (ns.map V.int) -> HOk P w H s₁.heap -> (∀ b,H b ≠ none -> b = a) -> (H a ≠ none -> K.lookup a = none) ->
  codeAny (model P w) callerA (.call (.ref fa) ⟨[.ref a],[]⟩) (fun r s'=>r = .ok (.ret (.bool true)) /\ OldK s₁.heap s'.heap /\ s'.os = s₁.os /\ AllBare s'.gens) s₁:=by
  intro H hO hS hok hA hK
  have base_of : ∀ {b : Addr} {o : Obj},s₁.heap.get? b = some o -> H b = none -> (hidT s₁.heap H).get? b = some o:=fun e n=>zmf e n
  have noA : ∀ {b : Addr} {o : Obj} {es : Array DictEntry} {ep : Nat},s₁.heap.get? b = some o -> o.data = .dict es ep -> H b = none:=fun {b o es ep} e d=>by
   cases q : H b with
   | none=>rfl
   | some u =>
     have e' : b = a:=hA b (by rw [q]; simp)
     subst e'
     rw [ha] at e; cases e
     have d' : Data.seq vs.toArray _ = Data.dict es ep:=d
     cases d'
  have nsK : ∀ {b : Addr} {m : Str -> Option Value},s₁.heap.Ns b m -> (hidT s₁.heap H).Ns b m:=fun {b m} ⟨o,es,ep,e,d,r⟩=>⟨o,es,ep,base_of e (noA e d),d,r⟩
  have hKb : K.In (hidT s₁.heap H):=fun b o e=>base_of (KX b o e) (by
   cases q : H b with
   | none=>rfl
   | some u =>
     have e' : b = a:=hA b (by rw [q]; simp)
     subst e'
     rw [hK (by rw [q]; simp)] at e; cases e)
  have hM : Mod K mg (hidT s₁.heap H):=⟨hKb,nsK hns,⟨mb,nsK hb,hbb⟩,let ⟨mc,h1,h2⟩:=hlim; ⟨mc,nsK h1,h2⟩⟩
  have e0 : Env0 P w K mg (hidT s₁.heap H) callerA [] s₁ H:=⟨rfl,hM,fun b o e=>znM e,Nat.le_of_eq (zlm _ _),trivial,fun b hb=>absurd (show b ∈ ([] : List Addr) from hb) (by simp),hok,.of_eq hg⟩
  refine codeAny_mono ((F _ hKb (nsK hns)).run callerA [] s₁ H ⟨[.ref a],[]⟩ [.ref a] [.ref a] _ _ hr e0 (hbind s₁ (.ref a)) (.cons rfl .nil) (hsp H hO hS)) fun r s' h=>?_
  cases r with
  | error e=>exact (hCX H e s' h).elim
  | ok fl =>
    cases fl with
    | next=>exact False.elim h
    | brk=>exact False.elim h
    | cont=>exact False.elim h
    | ret u =>
      obtain ⟨v,H',os,bare,un,hok',r',q⟩:=h
      have q' : v = .bl true:=q
      subst q'
      obtain rfl : u = Value.bool true:=r'
      refine ⟨rfl,OldK.of_keep fun b o e=>?_,os,bare⟩
      cases q : H b with
      | none=>exact un.keep b o e q (by intro z; exact absurd (show b ∈ ([] : List Addr) from z) (by simp)) (by simp)
      | some u =>
        rcases hO b with z | ⟨ob,xs,z⟩
        ·rw [q] at z; cases z
        ·have z2:=un.frzs b ob _ z
         obtain ⟨e1,_⟩:=hok b _ z
         obtain ⟨e2,_⟩:=hok' b _ z2
         rw [e] at e1; cases e1
         exact e2
 cases hk : K.lookup a with
 | some o =>
   have e:=KX a o hk
   rw [ha] at e
   cases e
   refine core (fun _=>none) (fun _=>.inl rfl) (.inr ⟨_,vs.toArray,_,hk,rfl,rfl,rfl,by rw [List.size_toArray,lenV]; exact hl,by simpa using rv⟩) (fun b u z=>by have z' : (none : Option HO) = some u:=z; cases z') (fun b z=>absurd rfl z) fun z=>absurd rfl z
 | none =>
   refine core (fun b=>if b = a then some (.frz { cls:=.type "list",data:=.seq vs.toArray } (.lst (ns.map V.int))) else none) (fun b=>?_) (.inl (.inr ⟨{ cls:=.type "list",data:=.seq vs.toArray },if_pos rfl⟩)) (fun b u z=>?_) (fun b z=>?_) fun _=>hk
   ·by_cases hb : b = a
    ·exact .inr ⟨_,_,if_pos hb⟩
    ·exact .inl (if_neg hb)
   ·by_cases hb : b = a
    ·have z':=(if_pos hb).symm.trans z
     cases z'
     subst hb
     exact ⟨ha,by rw [List.length_map]; exact hl,vs,_,rv,ha⟩
    ·have z':=(if_neg hb).symm.trans z
     cases z'
   ·by_cases hb : b = a
    ·exact hb
    ·exact absurd (if_neg hb) z
end L2
namespace L2
open PySem PySem.Spec PyProof.Rows
abbrev KOf {K : PySem.W.Frag} {h : Heap} (_ : K.In h) : PySem.W.Frag:=K
theorem znX {l : PySem.W.OpenLaw} {n k : Nat} {q : Program} {loose : List Str} {XP : (Str -> Option Value) -> Heap -> Prop} {YP : World -> Heap -> Prop} {d : DefRec} {K : Params -> PySem.W.Frag} {CX : World -> CXT} {sp : World -> Sp} {x : Str}
 (hn : l.most = some n) (hn2 : n <= sizeLine) (hdf : d.params.defaults = []) (hr : Room k callerA)
 (hY : ∀ (w : World) (h : Heap),YP w h -> (K w.params).In h)
 (F : ∀ (w : World) (mg : Str -> Option Value) (fa : Addr) (h : Heap),(K w.params).In h -> h.Ns mainGlobals mg -> mg d.name = some (.ref fa) ->
   ∃ fd : FuncData,(∀ (s : Shared) (u : Value),BindsTo s fd ⟨[u],[]⟩ [(x,u)]) /\
    ∀ base : Heap,(K w.params).In base -> base.Ns mainGlobals mg -> FnOk l.prog w (K w.params) mg base (CX w) k fa fd [x] (sp w))
 (hsp : ∀ (w : World) (H : Hp) (a : Addr) (ns : List Int),ns.length <= n -> Only H -> SqL (K w.params) H a (ns.map V.int) -> sp w [.ref a] H (fun v _=>v = .bl true) fun _ _ _=>False)
 (hCX : ∀ (w : World) (H : Hp) (s : Shared) (e : Value) (s' : Shared),CX w [] H s (fun _ _ _=>False) e s' -> False) :
 PySem.W.WalkO q loose XP YP l.row.toRowW d [] (fun f vs=>PySem.call f vs):=by
 refine Att.ziG hn hdf fun w s₀ s₁ mg mb fa o pm cd doc a vs ns G Y ho hd hcd hmg hobj hints hlen hg=>?_
 have KX:=hY w _ Y
 obtain ⟨fd,hb,hF⟩:=F w mg fa _ KX G.T.g hmg
 exact zmU KX G.T.g G.T.b G.T.builtins G.T.nolimit hg hobj hints (Nat.le_trans hlen hn2) hr hF hb (fun H hO hS=>hsp w H a ns hlen hO hS) fun H e s'=>hCX w H s₁ e s'
theorem walk_ofK {l : PySem.W.OpenLaw} {n k : Nat} {q : Program} {loose : List Str} {XP : (Str -> Option Value) -> Heap -> Prop} {YP : World -> Heap -> Prop} {d : DefRec} {K : Params -> PySem.W.Frag} {CX : CXT} {sp : PySem.W.Frag -> Sp} {x : Str}
 (hn : l.most = some n) (hn2 : n <= sizeLine) (hdf : d.params.defaults = []) (hr : Room k callerA)
 (hY : ∀ (w : World) (h : Heap),YP w h -> (K w.params).In h)
 (F : ∀ (w : World) (mg : Str -> Option Value) (fa : Addr) (h : Heap),(K w.params).In h -> h.Ns mainGlobals mg -> mg d.name = some (.ref fa) ->
   ∃ fd : FuncData,(∀ (s : Shared) (u : Value),BindsTo s fd ⟨[u],[]⟩ [(x,u)]) /\
    ∀ base : Heap,(K w.params).In base -> base.Ns mainGlobals mg -> FnOk l.prog w (K w.params) mg base CX k fa fd [x] (sp (K w.params)))
 (hsp : ∀ (K : PySem.W.Frag) (H : Hp) (a : Addr) (ns : List Int),ns.length <= n -> Only H -> SqL K H a (ns.map V.int) -> sp K [.ref a] H (fun v _=>v = .bl true) fun _ _ _=>False)
 (hCX : ∀ (H : Hp) (s : Shared) (e : Value) (s' : Shared),CX [] H s (fun _ _ _=>False) e s' -> False) :
 PySem.W.WalkO q loose XP YP l.row.toRowW d [] (fun f vs=>PySem.call f vs) :=
 znX (K:=K) (CX:=fun _=>CX) (sp:=fun w=>sp (K w.params)) hn hn2 hdf hr hY F (fun w H a ns h1 h2 h3=>hsp (K w.params) H a ns h1 h2 h3) fun _ H s e s'=>hCX H s e s'
end L2
namespace L2
open PySem PySem.Spec PyProof.Rows
def zak (s : Stmt) (j : Nat) : Stmt:=match s with
 | .ClassDef _ _ _ body _ _ _ _ _ _ _=>body.getD j (.Pass ⟨0,0,0,0⟩)
 | _=>.Pass ⟨0,0,0,0⟩
def zam (s : Stmt) : Arguments:=match s with
 | .FunctionDef _ a _ _ _ _ _ _ _ _=>a
 | _=>{ posonlyargs:=[],args:=[],vararg:=none,kwonlyargs:=[],kw_defaults:=[],kwarg:=none,defaults:=[] }
def zal (s : Stmt) : List Stmt:=match s with
 | .FunctionDef _ _ b _ _ _ _ _ _ _=>b
 | _=>[]
def zac (s : Stmt) : Scope:=match s with
 | .FunctionDef _ _ _ _ _ _ sc _ _ _=>sc
 | _=>{ kind:=.function,names:=[],isGenerator:=false,isCoroutine:=false }
abbrev CX0 : CXT:=fun _ _ _ _ _ _=>False
abbrev E0 : XK:=fun _ _ _=>False
theorem zls {X : Cx} : zhH CX0 X E0:=fun _ _ _ _ _ _ _ h=>h.elim
structure Fun (K : PySem.W.Frag) (x qual : Str) (st : Stmt) (f : Addr) (fd : FuncData) : Prop where
 ex : ∃ (oc : Value) (od : Option Addr) (kV doc pm : Value) (an : Option Addr) (cdv ct : Value) (osl : Array (Option Value)),
  fd = PySem.W.fnOf x qual (zam st) (zal st) (zac st) .none kV doc pm an cdv ct /\ K.lookup f = some ⟨oc,od,.func fd,osl⟩ /\ PySem.W.codeIn K cdv qual = true
 kp : PySem.W.keepIn K (.ref f) = true
section
variable {P : Program} {w : World} {K : PySem.W.Frag} {mg : Str -> Option Value} {base : Heap}
theorem Fun.ok {x qual : Str} {st : Stmt} {f : Addr} {fd : FuncData} {N ps : List Str} {k : Nat} {sp : Sp} (F : Fun K x qual st f fd) (S : FnScope N ps (zac st)) (len : ∀ vs H Q E,sp vs H Q E -> vs.length = ps.length)
 (hbody : ∀ (cdv : Value) (A : Around) (outer : List Env) (s : Shared) (H : Hp) (vs : List V) (Q : VK) (E : XK),Room k (A.deeper (envOfC qual (zac st) s.heap.objs.size f cdv)) -> sp vs H Q E ->
   ∃ t,PSs (cxOf CX0 P w K mg base N qual (zac st) f cdv A outer s H E).nox (zal st) t /\ t { nx:=fun _ H'=>Q .non H',rt:=Q } (start N vs) H) : FnOk P w K mg base CX0 (k + 1) f fd ps sp:=by
 obtain ⟨oc,od,kV,doc,pm,an,cdv,ct,osl,rfl,lk,hcd⟩:=F.ex
 refine zpZ lk hcd S len fun A outer s H vs Q E hr hsp=>?_
 obtain ⟨t,h,q⟩:=hbody cdv A outer s H vs Q E hr hsp
 exact ⟨t,h.nox,q⟩
theorem Fun.binds {x qual : Str} {st : Stmt} {f : Addr} {fd : FuncData} {ps : List Str} (F : Fun K x qual st f fd)
 (h : ∀ (kV doc pm : Value) (an : Option Addr) (cdv ct : Value) (us : List Value),us.length = ps.length -> bindArgs (PySem.W.fnOf x qual (zam st) (zal st) (zac st) .none kV doc pm an cdv ct) ⟨us,[]⟩ = pure (ps.zip us)) : zgT K fd ps []:=by
 obtain ⟨oc,od,kV,doc,pm,an,cdv,ct,osl,rfl,lk,hcd⟩:=F.ex
 exact .all (h kV doc pm an cdv ct)
theorem zaA {x qual : Str} {st : Stmt} {f : Addr} {oc : Value} {od an : Option Addr} {osl : Array (Option Value)} {kV doc pm cdv ct : Value} (l : K.lookup f = some ⟨oc,od,.func (PySem.W.fnOf x qual (zam st) (zal st) (zac st) .none kV doc pm an cdv ct),osl⟩)
 (c : PySem.W.codeIn K cdv qual = true) (k : PySem.W.keepIn K (.ref f) = true) : Fun K x qual st f (PySem.W.fnOf x qual (zam st) (zal st) (zac st) .none kV doc pm an cdv ct):=⟨⟨oc,od,kV,doc,pm,an,cdv,ct,osl,rfl,l,c⟩,k⟩
end
theorem zgC {A : Around} {k : Nat} (hr : Room k A) : A.units + 1 < cLine:=Nat.lt_of_le_of_lt (Nat.add_le_add_left (by decide : 1 <= 64) _) hr.units
section
variable {X : Cx}
theorem pv (i : Nat) {x : Str} {pos : Pos} (hN : X.N[i]? = some x:=by rfl) (hv : Vis X.env.scope x:=by first | exact Or.inl rfl | exact Or.inr (Or.inl rfl) | exact Or.inr (Or.inr rfl)) (hd : (x == ("__debug__" : Str)) = false:=by decide)
 (hcd : (x == ("__classdict__" : Str)) = false:=by decide) : PE X (.Name x pos) (tVar i):=zoU hN hv hd hcd
end
theorem iteF {A B : Prop} (h : B) : if false = true then A else B:=by
 rw [if_neg Bool.false_ne_true]
 exact h
theorem iteT {A B : Prop} (h : A) : if true = true then A else B:=by
 rw [if_pos rfl]
 exact h
theorem ite2 {c A B : Prop} [Decidable c] (h1 : c -> A) (h2 : ¬ c -> B) : if c then A else B:=by
 by_cases h : c
 ·rw [if_pos h]
  exact h1 h
 ·rw [if_neg h]
  exact h2 h
def Same (H H' : Hp) : Prop:=∀ b o,H b = some o -> H' b = some o
theorem Same.refl (H : Hp) : Same H H:=fun _ _ h=>h
theorem Same.trans {H H1 H2 : Hp} (a : Same H H1) (b : Same H1 H2) : Same H H2:=fun c o h=>b c o (a c o h)
theorem Same.free {H H' : Hp} (e : Same H H') {l : Addr} (h : H' l = Option.none) : H l = Option.none:=by
 cases q : H l with
 | none=>rfl
 | some o =>
   rw [e l o q] at h
   cases h
theorem Same.seq {K : PySem.W.Frag} {H H' : Hp} {a : Addr} {xs : List V} (e : Same H H') (h : SqL K H a xs) : SqL K H' a xs:=by
 rcases h with (h | ⟨o,h⟩) | h
 ·exact .inl (.inl (e _ _ h))
 ·exact .inl (.inr ⟨o,e _ _ h⟩)
 ·exact .inr h
end L2
set_option maxHeartbeats 4000000
namespace L2
open PySem PySem.Spec PyProof.Rows
structure D (K : PySem.W.Frag) (mg : Str -> Option Value) (x : Str) (st : Stmt) (ps : List Str) (f : Addr) (fd : FuncData) : Prop where
 fn : Fun K x x st f fd
 ba : ∀ us : List Value,us.length = ps.length -> bindArgs fd ⟨us,[]⟩ = pure (ps.zip us)
 mg : mg x = some (.ref f)
section
variable {X : Cx} {k j : Nat} {f : Addr} {fd : FuncData} {ps : List Str} {sp : Sp} {x : Str} {st : Stmt} {p pos : Pos} {e : Expr} {es : List Expr} {t : TA}
theorem zaQ (d : D X.K X.mg x st ps f fd) (F : FnOk X.prog X.w X.K X.mg X.base CX0 j f fd ps sp) (hr : Room k X.A) (hg : Gl X x) (ha : PA X (e :: es) t) (hjk : j <= k:=by decide) (hdb : (x == ("__debug__" : Str)) = false:=by decide)
 (he : starEach (e :: es) X.env = (false,eval e X.env) :: starEach es X.env:=by rfl) (hpl : (backTo pos (starEach es X.env)).any (·.1) = false:=by rfl) :
 PE X (.Call (.Name x p) (e :: es) [] pos) (zpc sp [] E0 t) :=
 zok (F.mono hjk) hr hg d.mg d.fn.kp (.all d.ba) .nil zls ha hdb he hpl
end
theorem zbY : bootBuiltins "len" = some (.builtin "len"):=PySem.boot_len
theorem znc : bootBuiltins "sum" = some (.builtin "sum"):=by decide +kernel
theorem zgu : bootBuiltins "list" = some (.type "list"):=by decide +kernel
section
variable {X : Cx}
end
end L2
namespace L2
open PySem PySem.Spec PyProof.Rows
theorem decV {i j : Int} : decide (V.int i = V.int j) = decide (i = j):=by
 rw [decide_eq_decide]
 exact ⟨fun h=>V.int.inj h,fun h=>by rw [h]⟩
theorem zaf {H : Hp} {p : Addr} (h : H p = none) (o : HO) : Same H (upd H p o):=fun b u q=>by rw [zai (zaq q h)]; exact q
theorem zan {H H1 : Hp} {p : Addr} {o : HO} (s : Same H H1) (h : H p = none) : Same H (upd H1 p o):=fun b u q=>by rw [zai (zaq q h)]; exact s b u q
theorem zbP {H H1 : Hp} {p : Addr} {o : HO} (s : Same H H1) (h : H1 p = none) : Same H (upd H1 p o):=zan s (s.free h)
theorem ints_at {B : Int} {zs : List Int} (h : ∀ z ∈ zs,0 <= z /\ z < B) {i : Int} (h0 : 0 <= i) (h1 : i < (zs.length : Int)) : ∃ z,atI (zs.map V.int) i = some (.int z) /\ 0 <= z /\ z < B:=by
 have hk : i.toNat < zs.length:=by omega
 have ek : i = ((i.toNat : Nat) : Int):=by omega
 refine ⟨zs[i.toNat],?_,h _ (List.getElem_mem hk)⟩
 have q : atI (zs.map V.int) ((i.toNat : Nat) : Int) = some (.int zs[i.toNat]):=zaF (by rw [List.getElem?_map,List.getElem?_eq_getElem hk] <;> rfl)
 rw [<- ek] at q
 exact q
theorem zmr {zs : List Int} {i : Int} (h0 : 0 <= i) (h1 : i < (zs.length : Int)) : ∃ z,z ∈ zs /\ atI (zs.map V.int) i = some (.int z):=by
 have hk : i.toNat < zs.length:=by omega
 have ek : i = ((i.toNat : Nat) : Int):=by omega
 refine ⟨zs[i.toNat],List.getElem_mem hk,?_⟩
 have q : atI (zs.map V.int) ((i.toNat : Nat) : Int) = some (.int zs[i.toNat]):=zaF (by rw [List.getElem?_map,List.getElem?_eq_getElem hk] <;> rfl)
 rw [<- ek] at q
 exact q
theorem zmq {zs : List Int} {i : Int} (h0 : 0 <= i) (h1 : i < (zs.length : Int)) : atI (zs.map V.int) i = some (.int (zs.getD i.toNat 0)):=by
 have hk : i.toNat < zs.length:=by omega
 have ek : i = ((i.toNat : Nat) : Int):=by omega
 have q : atI (zs.map V.int) ((i.toNat : Nat) : Int) = some (.int zs[i.toNat]):=zaF (by rw [List.getElem?_map,List.getElem?_eq_getElem hk] <;> rfl)
 rw [<- ek] at q
 rw [q,List.getD_eq_getElem?_getD,List.getElem?_eq_getElem hk] <;> rfl
theorem zaR {zs : List Int} {i : Nat} {y : V} (h : (zs.map V.int)[i]? = some y) : ∃ z,y = .int z /\ zs[i]? = some z:=by
 rw [List.getElem?_map] at h
 cases e : zs[i]? with
 | none=>rw [e] at h; cases h
 | some z=>rw [e] at h; exact ⟨z,(Option.some.inj h).symm,rfl⟩
theorem zdq {n : Nat} (h : n <= 100000) : n <= sizeLine:=Nat.le_trans h (by decide)
theorem zby {n : Nat} (h : n <= 100000) : n < sizeLine:=Nat.lt_of_le_of_lt h (by decide)
end L2
namespace L2
open PySem PySem.Spec PyProof.Rows
end L2
namespace L2
open PySem PySem.Spec PyProof.Rows
section
variable {X : Cx} {pins : List (Addr × Obj)} {σ : St} {H : Hp} {s : Shared} {h' : Heap}
theorem Inv.turnLay {t' : Nat} {ch : List Addr} {l : Addr} {o : HO} (I : Inv X pins σ H s) (k : ∀ b u,b ∉ ch -> s.heap.get? b = some u -> h'.get? b = some u) (hf : ∀ b ∈ ch,FpOk X pins H b)
 (hp : s.heap.objs.size <= l) (new : zbX X.prog X.w (upd H l o) h' l o) : Inv X pins σ (upd H l o) { s with heap:=h',toks:=t' }:=by
 have hn:=I.hok.fresh hp
 have nch : ∀ b u,H b = some u -> b ∉ ch:=fun b u e z=>by rw [(hf b z).1] at e; cases e
 refine I.step (g':=s.gens) (d':=s.drawn) (ch:=ch) (fun b hb=>?_) (fun b u _ _ hc e _=>k b u hc e) (fun b u _ _ hc e _=>⟨u.slots,k b u hc e⟩)
  (fun b u _ e n=>?_) (fun b u hc e=>⟨u,k b u hc e⟩) (fun b xs e=>?_) (fun b u xs e=>?_) (fun b ps e=>⟨#[],?_⟩) (fun m hm=>?_) (fun b u e=>?_) I.bare
 ·obtain ⟨f0,f1,f2,f3,f4,f5⟩:=hf b hb
  exact ⟨f3,f1,f4,f5⟩
 ·rw [zai (Nat.ne_of_lt (Nat.lt_of_lt_of_le (Heap.lt_size e) hp))]
  exact n
 ·rw [zai (zaq e hn)]
  exact e
 ·rw [zai (zaq e hn)]
  exact e
 ·rw [zai (zaq e hn),e]
  simp
 ·obtain ⟨ob,es,ep,ho,r⟩:=hm
  exact ⟨ob,es,ep,k _ ob (fun z=>(hf _ z).2.1 rfl) ho,r⟩
 ·by_cases hb : b = l
  ·subst hb
   rw [upd_same] at e
   cases e
   exact new
  ·rw [zai hb] at e
   refine (I.hok b u e).stay (fun c v hc q=>k c v ?_ q) (fun c q=>by rw [zai (zaq q hn)]; exact q) fun c xs q=>by rw [zai (zaq q hn)]; exact q
   rcases hc with z | z
   ·rw [z]; exact nch b u e
   ·exact nch c _ z
end
def Ite (K : PySem.W.Frag) (a : Addr) : It :=
 ⟨fun i H=>∃ xs x,SqL K H a xs /\ xs[i]? = some x,fun i H v H'=>∃ t x,v = .ref t /\ H t = none /\ (∀ xs,SqL K H a xs -> xs[i]? = some x) /\ H' = upd H t (.tup [.int i,x]),fun i H=>∃ xs,SqL K H a xs /\ xs.length <= i⟩
theorem zlv {P : Program} {w : World} {K : PySem.W.Frag} {es : List Expr} {k1 : Nat} {tp : Pos} (a e it : Addr) (hne : e ≠ it) :
 Turn P w K (.Tuple es k1 tp) (Ite K a) [e,it] e (fun i h=>(∃ old,IsEnum h e it (i : Nat) old) /\ h.IsListIter it a i) where
 mem:=by simp
 obj:=fun i h st b hb=>by
  obtain ⟨⟨old,e1⟩,o,e2,c,d⟩:=st
  have z : b = e \/ b = it:=by simpa using hb
  rcases z with rfl | rfl
  ·refine ⟨_,e1,fun v z=>?_⟩
   have z' : Data.fields _ = Data.cell v:=z
   cases z'
  ·exact ⟨o,e2,fun v z=>by rw [d] at z; cases z⟩
 keep:=fun i h h' st k=>⟨let ⟨old,e1⟩:=st.1; ⟨old,k e (by simp) _ e1⟩,st.2.at fun o e=>k it (by simp) o e⟩
 item:=by
  intro X hP hw hK hc i pins s σ H E I hf st hg
  subst hP hw hK
  obtain ⟨xs,x,hq,hx⟩:=hg
  obtain ⟨its,rv,p,hz⟩:=I.list hq
  obtain ⟨u,hu,ru⟩:=rv.get hx
  obtain ⟨⟨old,he⟩,hit⟩:=st
  have heL : e < s.heap.objs.size:=Heap.lt_size he
  refine wpAny_pyNext_enum_item he hit p.isList (x:=u) (by simpa using hu) hne fun h1 heo hit1 ht1 hz1 hk1=>⟨_,rfl,?_⟩
  refine wpAny_letOwnedTupleGo_enum heo fun h2 he2 hs2=>?_
  replace hs2 : Heap.SameBut e h1 h2:=hs2
  have ht2 : h2.get? s.heap.objs.size = some { cls:=.type "tuple",data:=.seq #[.int i s.toks,u] }:=(hs2.2 _ (Nat.ne_of_gt heL)).trans ht1
  have kk : ∀ b o,b ∉ [e,it] -> s.heap.get? b = some o -> h2.get? b = some o:=fun b o hb q=>by
   have h1 : b ≠ e:=fun z=>hb (by simp [z])
   have h2 : b ≠ it:=fun z=>hb (by simp [z])
   exact (hs2.2 b h1).trans (hk1 b o h1 h2 q)
  have hn : H s.heap.objs.size = none:=I.hok.fresh (Nat.le_refl _)
  have I2 : Inv X pins σ (upd H s.heap.objs.size (.tup [.int i,x])) { s with heap:=h2,toks:=s.toks + 1 } :=
   I.turnLay kk hf (Nat.le_refl _) ⟨Nat.le_of_ble_eq_true rfl,[.int i s.toks,u],.cons ⟨_,rfl⟩ (.cons ru .nil),⟨_,ht2,rfl,0,rfl⟩⟩
  refine ⟨.ref s.heap.objs.size,_,I2,rfl,⟨_,x,rfl,hn,fun ys hy=>by rw [I.list_inj hy hq]; exact hx,rfl⟩,⟨⟨u,?_⟩,hit1.extBut hs2.extBut (Ne.symm hne)⟩,fun b hb=>?_⟩
  ·have e1 : ((i + 1 : Nat) : Int) = (i : Int) + 1:=by omega
   rw [e1]
   exact he2
  ·rw [zai]
   ·exact (hf b hb).1
   ·have z : b = e \/ b = it:=by simpa using hb
    obtain ⟨oi,hoi,_⟩:=hit
    rcases z with rfl | rfl
    ·exact Nat.ne_of_lt heL
    ·exact Nat.ne_of_lt (Heap.lt_size hoi)
 done:=by
  intro X hP hw hK hc i pins s σ H E I hf st hg
  subst hP hw hK
  obtain ⟨xs,hq,hx⟩:=hg
  obtain ⟨its,rv,p,hz⟩:=I.list hq
  obtain ⟨f0,f1,f2,f3,f4,f5⟩:=hf it (by simp)
  obtain ⟨⟨old,he⟩,hit⟩:=st
  have hl:=rv.length
  exact wpAny_pyNext_enum_end (I.ok.hd hc) he hit p.isList (by simp; omega) fun h' eb=>⟨rfl,I.turned (t':=s.toks) (fun b o hb e=>eb b o hb e) f0 f1 f3 f4 f5⟩
 self:=fun _ _ _ _ _ st h=>let ⟨⟨_,e1⟩,_⟩:=st; wpAny_pyIter_enum e1 h
theorem zhl : bootBuiltins "enumerate" = some (.type "enumerate"):=by decide +kernel
section
variable {X : Cx} {es : List Expr} {k1 : Nat} {tp : Pos}
def zoT (K : PySem.W.Frag) (ta : TA) : TI:=fun σ H R=>ta σ H fun vs H1=>∃ a,vs = [.ref a] /\ (∃ xs,SqL K H1 a xs) /\ R (Ite K a) H1
theorem zom {a : Expr} {ta : TA} {p pos : Pos} (hg : Gl X "enumerate") (hm : X.mg "enumerate" = none) (ha : PA X [a] ta) (hs : starEach [a] X.env = (false,eval a X.env) :: starEach [] X.env:=by rfl) :
 PI X (.Tuple es k1 tp) (.Call (.Name "enumerate" p) [a] [] pos) (zoT X.K ta):=by
 intro pins s σ H R I h
 refine wpAny_Call_Name_kw (zhT I hg hm zhl ?_)
 refine PyProof.Rows.callWith_type1 (thn (ha pos pins s σ H _ I h) fun us s1 ⟨vs,H1,I1,r1,q1⟩=>?_) hs (by rfl)
 obtain ⟨l,rfl,⟨xs,hq⟩,q⟩:=q1
 obtain ⟨u,rfl,ru⟩:=zgi r1
 cases ru
 obtain ⟨its,rv,pl,hz⟩:=I1.list hq
 refine call_enumerate_list pl.isList fun h' he hit hsz hk=>?_
 refine wpAny_pyIter_enum he ?_
 refine ⟨s1.heap.objs.size + 1,[s1.heap.objs.size + 1,s1.heap.objs.size],_,_,H1,rfl,I1.kept (t':=s1.toks) hk,zlv l _ s1.heap.objs.size (Nat.succ_ne_self _),⟨⟨.none,he⟩,hit⟩,fun b hb=>?_,q⟩
 have z : b = s1.heap.objs.size + 1 \/ b = s1.heap.objs.size:=by simpa using hb
 have hge : s1.heap.objs.size <= b:=by rcases z with rfl | rfl <;> omega
 exact I1.fpOk hge (I1.hok.fresh hge)
end
theorem zeo {K : PySem.W.Frag} {a : Addr} {xs : List V} {g : TG} {tb : TS} {D : Ends} {σ : St} {H : Hp} (Pv : Nat -> St -> Hp -> Prop) (h0 : Pv 0 σ H) (hl : ∀ i σ H,i <= xs.length -> Pv i σ H -> SqL K H a xs)
 (hs : ∀ i x t σ H,xs[i]? = some x -> Pv i σ H -> H t = none -> g (.ref t) σ (upd H t (.tup [.int i,x])) fun σ2 H2=>tb { D with nx:=Pv (i + 1),ct:=Pv (i + 1),bk:=D.nx } σ2 H2) (hd : ∀ σ H,Pv xs.length σ H -> D.nx σ H) :
 ∃ W : Nat -> Nat -> St -> Hp -> Prop,(∃ m,W 0 m σ H) /\ ∀ i m σ H,W i m σ H ->
  ((Ite K a).stop i H /\ D.nx σ H) \/ ((Ite K a).go i H /\ ∃ N : St -> Hp -> Prop,(∀ σ' H',N σ' H' -> ∃ m',m' < m /\ W (i + 1) m' σ' H') /\ ∀ x H',(Ite K a).yld i H x H' -> g x σ H' fun σ2 H2=>tb { D with nx:=N,ct:=N,bk:=D.nx } σ2 H2):=by
 refine ⟨fun i m σ H=>m = xs.length - i /\ i <= xs.length /\ Pv i σ H,⟨xs.length,by simp,Nat.zero_le _,h0⟩,?_⟩
 rintro i m σ H ⟨rfl,hi,p⟩
 have q:=hl i σ H hi p
 by_cases hlt : i < xs.length
 ·refine .inr ⟨⟨xs,xs[i],q,by simp [hlt]⟩,Pv (i + 1),fun σ' H' p'=>⟨xs.length - (i + 1),by omega,rfl,hlt,p'⟩,fun v H' y=>?_⟩
  obtain ⟨t,x,rfl,hn,hx,rfl⟩:=y
  exact hs i x t σ _ (hx xs q) p hn
 ·have e : i = xs.length:=by omega
  subst e
  exact .inl ⟨⟨xs,q,Nat.le_refl _⟩,hd σ H p⟩
end L2
namespace L2
open PySem PySem.Spec PyProof.Rows
mutual
inductive Den (K : PySem.W.Frag) (H : Hp) : V -> PyData -> Prop
 | non : Den K H .non .none
 | bl (b : Bool) : Den K H (.bl b) (.bool b)
 | int (i : Int) : Den K H (.int i) (.int i)
 | str (x : Str) : PyData.canLay0 (.str x) = true -> Den K H (.str x) (.str x)
 | lst {a xs ds} : SqL K H a xs -> DenL K H xs ds -> Den K H (.ref a) (.list ds)
 | tup {a xs ds} : SqT K H a xs -> DenL K H xs ds -> Den K H (.ref a) (.tuple ds)
inductive DenL (K : PySem.W.Frag) (H : Hp) : List V -> List PyData -> Prop
 | nil : DenL K H [] []
 | cons {x xs d ds} : Den K H x d -> DenL K H xs ds -> DenL K H (x :: xs) (d :: ds)
end
section
variable {X : Cx} {pins : List (Addr × Obj)} {σ : St} {H : Hp} {s : Shared}
mutual
theorem zcP (I : Inv X pins σ H s) : ∀ (d : PyData) (v : V) (u : Value),Den X.K H v d -> RelV v u -> ∃ as,Reads s.heap u d as
 | .none,v,u,h,r=>by cases h; cases r; exact ⟨_,.none⟩
 | .bool b,v,u,h,r=>by cases h; cases r; exact ⟨_,.bool b⟩
 | .int i,v,u,h,r=>by cases h; obtain ⟨t,rfl⟩:=r; exact ⟨_,.int i t⟩
 | .str x,v,u,h,r=>by cases h; obtain ⟨t,rfl⟩:=r; exact ⟨_,.str x t⟩
 | .list ds,v,u,h,r=>by
   cases h with
   | lst hq hl =>
     cases r
     obtain ⟨its,rv,⟨o,n,e,c,_,d⟩,_⟩:=I.list hq
     obtain ⟨as,q⟩:=zdT I ds _ _ hl rv
     exact ⟨_,.list e c d (by simpa using q)⟩
 | .tuple ds,v,u,h,r=>by
   cases h with
   | tup hq hl =>
     cases r
     obtain ⟨its,rv,⟨o,e,c,n,d⟩,_⟩:=I.tuple hq
     obtain ⟨as,q⟩:=zdT I ds _ _ hl rv
     exact ⟨_,.tuple e c d (by simpa using q)⟩
 | .dict _,v,u,h,r=>by cases h
theorem zdT (I : Inv X pins σ H s) : ∀ (ds : List PyData) (xs : List V) (us : List Value),DenL X.K H xs ds -> Vals xs us -> ∃ as,ReadsAll s.heap us ds as
 | [],xs,us,h,r=>by cases h; cases r; exact ⟨_,.nil⟩
 | d :: ds,xs,us,h,r=>by
   cases h with
   | cons h1 h2 =>
     cases r with
     | cons r1 r2 =>
       obtain ⟨a1,q1⟩:=zcP I d _ _ h1 r1
       obtain ⟨a2,q2⟩:=zdT I ds _ _ h2 r2
       exact ⟨_,.cons q1 q2⟩
end
mutual
theorem zeH {K : PySem.W.Frag} : ∀ (d : PyData) (v : V),Den K H v d -> d.canLay0 = true
 | .none,v,h=>rfl
 | .bool b,v,h=>rfl
 | .int i,v,h=>rfl
 | .str x,v,h=>by cases h with | str _ q=>exact q
 | .list ds,v,h=>by cases h with | lst _ q=>exact zge ds _ q
 | .tuple ds,v,h=>by cases h with | tup _ q=>exact zge ds _ q
 | .dict _,v,h=>by cases h
theorem zge {K : PySem.W.Frag} : ∀ (ds : List PyData) (xs : List V),DenL K H xs ds -> PyData.canLayAll0 ds = true
 | [],xs,h=>rfl
 | d :: ds,xs,h=>by
   cases h with
   | cons h1 h2 =>
     show (PyData.canLay0 d && PyData.canLayAll0 ds) = true
     rw [zeH d _ h1,zge ds _ h2]
     rfl
end
def rEqD (K : PySem.W.Frag) (neg : Bool) : R2:=fun x y H Q=>∃ d e,Den K H x d /\ Den K H y e /\ min d.depth e.depth <= 64 /\ Q (.bl (if neg then !PyData.eqv d e else PyData.eqv d e)) H
theorem zsf (hu : X.A.units + 64 < cLine) : OpR X (compareOp .Eq) (rEqD X.K false):=by
 intro pins s σ H x y v u Q I rx ry h
 obtain ⟨d,e,hd,he,hz,q⟩:=h
 obtain ⟨as,ra⟩:=zcP I d _ _ hd rx
 obtain ⟨bs,rb⟩:=zcP I e _ _ he ry
 exact PySem.SeqAt.eqOverData X.prog X.w X.A X.xe s v u d e as bs _ ra rb (zeH d _ hd) (zeH e _ he) (by omega) ⟨.bl _,H,I,rfl,q⟩
theorem zqI (hu : X.A.units + 64 < cLine) : OpR X (compareOp .NotEq) (rEqD X.K true):=by
 intro pins s σ H x y v u Q I rx ry h
 obtain ⟨d,e,hd,he,hz,q⟩:=h
 obtain ⟨as,ra⟩:=zcP I d _ _ hd rx
 obtain ⟨bs,rb⟩:=zcP I e _ _ he ry
 exact PySem.SeqAt.neOverData X.prog X.w X.A X.xe s v u d e as bs _ ra rb (zeH d _ hd) (zeH e _ he) (by omega) ⟨.bl _,H,I,rfl,q⟩
end
mutual
def nb : PyData -> Bool
 | .none | .int _ | .str _=>true
 | .bool _ | .dict _=>false
 | .list xs | .tuple xs=>nbL xs
def nbL : List PyData -> Bool
 | []=>true
 | x :: xs=>nb x && nbL xs
end
mutual
theorem zhZ : ∀ (d e : PyData),nb d = true -> nb e = true -> (PyData.eqv d e = true ↔ d = e)
 | .none,e,_,h=>by cases e <;> first | (simp [PyData.eqv]; done) | cases h
 | .int i,e,_,h=>by cases e <;> first | (simp [PyData.eqv]; done) | cases h
 | .str i,e,_,h=>by cases e <;> first | (simp [PyData.eqv]; done) | cases h
 | .bool _,_,h,_=>by cases h
 | .dict _,_,h,_=>by cases h
 | .list xs,e,h1,h=>by
   cases e with
   | list ys =>
     have q:=zgz xs ys h1 h
     show PyData.eqvAll xs ys = true ↔ _
     rw [q]
     exact ⟨fun z=>by rw [z],fun z=>PyData.list.inj z⟩
   | none=>simp [PyData.eqv]
   | int _=>simp [PyData.eqv]
   | str _=>simp [PyData.eqv]
   | tuple _=>simp [PyData.eqv]
   | bool _=>cases h
   | dict _=>cases h
 | .tuple xs,e,h1,h=>by
   cases e with
   | tuple ys =>
     have q:=zgz xs ys h1 h
     show PyData.eqvAll xs ys = true ↔ _
     rw [q]
     exact ⟨fun z=>by rw [z],fun z=>PyData.tuple.inj z⟩
   | none=>simp [PyData.eqv]
   | int _=>simp [PyData.eqv]
   | str _=>simp [PyData.eqv]
   | list _=>simp [PyData.eqv]
   | bool _=>cases h
   | dict _=>cases h
theorem zgz : ∀ (xs ys : List PyData),nbL xs = true -> nbL ys = true -> (PyData.eqvAll xs ys = true ↔ xs = ys)
 | [],[],_,_=>by simp [PyData.eqvAll]
 | [],_ :: _,_,_=>by simp [PyData.eqvAll]
 | _ :: _,[],_,_=>by simp [PyData.eqvAll]
 | x :: xs,y :: ys,h1,h2=>by
   have a : nb x = true /\ nbL xs = true:=by
    have : (nb x && nbL xs) = true:=h1
    simpa using this
   have b : nb y = true /\ nbL ys = true:=by
    have : (nb y && nbL ys) = true:=h2
    simpa using this
   have q1:=zhZ x y a.1 b.1
   have q2:=zgz xs ys a.2 b.2
   show (PyData.eqv x y && PyData.eqvAll xs ys) = true ↔ _
   rw [Bool.and_eq_true,q1,q2]
   simp
end
theorem zjE {d : PyData} (h : nb d = true) : PyData.eqv d d = true:=(zhZ d d h h).mpr rfl
theorem zqm {d e : PyData} (h : nb d = true) (h' : nb e = true) (n : d ≠ e) : PyData.eqv d e = false:=by
 cases q : PyData.eqv d e with
 | false=>rfl
 | true=>exact absurd ((zhZ d e h h').mp q) n
abbrev zdX (zs : List Int) : PyData:=.list (zs.map .int)
theorem zeS : ∀ zs : List Int,nbL (zs.map .int) = true
 | []=>rfl
 | z :: zs=>by
   show (nb (.int z) && nbL (zs.map .int)) = true
   rw [zeS zs]
   rfl
theorem zfv : ∀ zs : List Int,PyData.depthAll (zs.map .int) = 0
 | []=>rfl
 | z :: zs=>by
   show max (PyData.depth (.int z)) (PyData.depthAll (zs.map .int)) = 0
   rw [zfv zs]
   rfl
theorem zgE {K : PySem.W.Frag} {H : Hp} : ∀ zs : List Int,DenL K H (zs.map V.int) (zs.map .int)
 | []=>.nil
 | z :: zs=>.cons (.int z) (zgE zs)
theorem zez {K : PySem.W.Frag} {H : Hp} {a : Addr} {zs : List Int} (h : SqL K H a (zs.map V.int)) : Den K H (.ref a) (zdX zs):=.lst h (zgE zs)
theorem zfa (zs : List Int) (e : PyData) : min (zdX zs).depth e.depth <= 64:=by
 have q : (zdX zs).depth = 1:=by show PyData.depthAll (zs.map .int) + 1 = 1; rw [zfv]
 omega
theorem zlX {xs ys : List Int} (h : zdX xs = zdX ys) : xs = ys:=by
 have q:=PyData.list.inj h
 exact (List.map_inj_right (f:=PyData.int) (fun a b z=>PyData.int.inj z)).mp q
theorem zmt (xs ys : List Int) : PyData.eqv (zdX xs) (zdX ys) = decide (xs = ys):=by
 by_cases h : xs = ys
 ·subst h
  rw [decide_eq_true rfl]
  exact zjE (zeS xs)
 ·rw [decide_eq_false h]
  exact zqm (zeS xs) (zeS ys) fun z=>h (zlX z)
end L2
namespace L2
open PySem PySem.Spec PyProof.Rows
section
variable {prog : Program} {w : World} {A : Around} {R : Result -> Shared -> Prop} {s : Shared}
theorem zhQ {elt target iter : Expr} {ifs : List Expr} {scope : Scope} {pos : Pos} {it acc : Value} {env : Env} (I : Nat -> Shared -> Prop)
 (turn : ∀ n s,I n s -> wpAny (model prog w) A (pyNext it) (fun r s1=>match r with
   | none=>R (.ok .next) s1
   | some v=>wpAny (model prog w) A (letOwnedTupleGo target it v) (fun _ s1'=>wpAny (model prog w) A (assign target env v) (fun _ s2 =>
      wpAny (model prog w) A (forIn ifs true fun c r=>if r = true then do let ok <- isTrue c env (eval c env); pure (ForInStep.yield ok) else pure (ForInStep.yield r)) (fun ok s3 =>
       if ok = true then wpAny (model prog w) A (eval elt env) (fun x s4 =>
        wpAny (model prog w) A (call (.builtin "list.append") [acc,x]) (fun _ s5=>∃ m,m < n /\ I m s5) (fun _ _=>False) s4) (fun _ _=>False) s3
       else ∃ m,m < n /\ I m s3) (fun _ _=>False) s2) (fun _ _=>False) s1') (fun _ _=>False) s1) (fun _ _=>False) s)
 (n : Nat) (h : I n s) :
 codeAny (model prog w) A (.compLoop (.ListComp elt [⟨target,iter,ifs,0⟩] scope pos) 0 it acc env) R s:=by
 refine codeAny_loop rfl I (fun n s hI=>?_) n h
 show wpAny _ A ((compTurn (.ListComp elt [⟨target,iter,ifs,0⟩] scope pos) 0 it acc env).onRaise (fun x=>do noteFrame x env; theTreesLotGoes x)) _ _ s
 refine wpAny_noted ?_
 rw [compTurn_list]
 refine wpAny_bind (wpAny_standAt (wpAny_bind (wpAny_mono (turn n s hI) (fun r s1 h1=>?_) fun _ _ h'=>False.elim h')))
 cases r with
 | none=>exact wpAny_pure h1
 | some v =>
   refine wpAny_bind (wpAny_mono h1 (fun _ s1' h1'=>?_) fun _ _ h'=>False.elim h')
   refine wpAny_bind (wpAny_mono h1' (fun _ s2 h2=>wpAny_bind (wpAny_mono h2 (fun ok s3 h3=>?_) fun _ _ h'=>False.elim h')) fun _ _ h'=>False.elim h')
   cases ok with
   | false=>exact wpAny_pure ⟨rfl,h3⟩
   | true =>
     exact wpAny_bind (wpAny_bind (wpAny_mono h3 (fun x s4 h4=>wpAny_bind (wpAny_mono h4 (fun _ s5 h5=>wpAny_pure (wpAny_pure ⟨rfl,h5⟩)) fun _ _ h'=>False.elim h')) fun _ _ h'=>False.elim h'))
end
def zaw (env : Env) : List (Str × NameKind) -> List (Str × Addr) -> List (Str × Addr)
 | [],acc=>acc
 | (n,k) :: r,acc=>if (k == .free) = true then zaw env r ((n,(env.cells.lookup n).getD 0) :: acc) else zaw env r acc
theorem zcp {env : Env} (P : Str -> Addr -> Prop) : ∀ (names : List (Str × NameKind)) (acc : List (Str × Addr)),(∀ x ∈ names,x.2 = .free -> ∃ c,env.cells.lookup x.1 = some c) -> (∀ n c,(n,c) ∈ acc -> P n c) ->
 (∀ n c,env.cells.lookup n = some c -> P n c) -> ∀ n c,(n,c) ∈ zaw env names acc -> P n c
 | [],acc,_,ha,_,n,c,h=>ha n c h
 | (m,k) :: r,acc,hf,ha,hp,n,c,h=>by
   unfold zaw at h
   split at h
   ·rename_i hk
    refine zcp P r _ (fun x hx=>hf x (List.mem_cons_of_mem _ hx)) (fun n' c' h'=>?_) hp n c h
    rcases List.mem_cons.mp h' with e | h'
    ·obtain ⟨c0,e0⟩:=hf (m,k) List.mem_cons_self (eq_of_beq hk)
     injection e with e1 e2
     subst e1 e2
     rw [e0]
     exact hp _ _ e0
    ·exact ha n' c' h'
   ·exact zcp P r acc (fun x hx=>hf x (List.mem_cons_of_mem _ hx)) ha hp n c h
theorem zcq {env : Env} : ∀ (names : List (Str × NameKind)) (acc : List (Str × Addr)) (x : Str × Addr),x ∈ acc -> x ∈ zaw env names acc
 | [],_,_,h=>h
 | (m,k) :: r,acc,x,h=>by
   unfold zaw
   split
   ·exact zcq r _ x (List.mem_cons_of_mem _ h)
   ·exact zcq r _ x h
theorem zcE {env : Env} : ∀ (names : List (Str × NameKind)) (acc : List (Str × Addr)) (x : Str),(x,NameKind.free) ∈ names -> ∃ c,(x,c) ∈ zaw env names acc
 | [],_,_,h=>nomatch h
 | (m,k) :: r,acc,x,h=>by
   unfold zaw
   rcases List.mem_cons.mp h with e | h
   ·injection e with e1 e2
    subst e1 e2
    rw [if_pos (by decide)]
    exact ⟨_,zcq r _ _ List.mem_cons_self⟩
   ·split
    ·exact zcE r _ x h
    ·exact zcE r _ x h
theorem zgs {scope : Scope} {env : Env} (hf : ∀ x ∈ scope.names,x.2 = .free -> ∃ c,env.cells.lookup x.1 = some c) : closureFor scope env = pure (zaw env scope.names []):=by
 have go : ∀ (names : List (Str × NameKind)) (acc : List (Str × Addr)),(∀ x ∈ names,x.2 = .free -> ∃ c,env.cells.lookup x.1 = some c) ->
  (forIn names acc fun (x : Str × NameKind) (r : List (Str × Addr))=>(match x with
    | (name,kind)=>if (kind == NameKind.free) = true then do
        let a <- cellOf env name
        pure (ForInStep.yield ((name,a) :: r))
     else pure (ForInStep.yield r) : Sem (ForInStep (List (Str × Addr))))) = pure (zaw env names acc):=by
  intro names
  induction names with
  | nil=>intro acc _; rw [List.forIn_nil]; rfl
  | cons x r ih =>
    intro acc hf
    obtain ⟨n,k⟩:=x
    rw [List.forIn_cons]
    unfold zaw
    by_cases hk : (k == NameKind.free) = true
    ·obtain ⟨c,e⟩:=hf (n,k) List.mem_cons_self (eq_of_beq hk)
     simp only [hk,if_true]
     have e2 : cellOf env n = pure c:=by unfold cellOf; rw [e]
     rw [e2,e]
     simp only [pure_bind,Option.getD_some]
     exact ih _ fun x hx=>hf x (List.mem_cons_of_mem _ hx)
    ·simp only [hk,if_false]
     exact ih _ fun x hx=>hf x (List.mem_cons_of_mem _ hx)
 simp only [closureFor]
 have:=go scope.names [] hf
 first
  | exact this
  | (simp only [bind_pure]; exact this)
  | (rw [this]; rfl)
theorem zbe : ∀ (names : List (Str × NameKind)) (n : Nat) (acc : List (Str × Addr)),cellsFrom n names acc = cellsFrom n names [] ++ acc
 | [],_,_=>rfl
 | (m,k) :: r,n,acc=>by
   unfold cellsFrom
   split
   ·rw [zbe r (n + 1) ((m,n) :: acc),zbe r (n + 1) [(m,n)],List.append_assoc]
    rfl
   ·exact zbe r n acc
theorem zcC : ∀ (names : List (Str × NameKind)) (n : Nat) (acc : List (Str × Addr)) (x : Str × Addr),x ∈ cellsFrom n names acc -> (x.1,NameKind.cell) ∈ names \/ x ∈ acc
 | [],_,_,_,h=>.inr h
 | (m,k) :: r,n,acc,x,h=>by
   unfold cellsFrom at h
   split at h
   ·rename_i hk
    rcases zcC r _ _ x h with q | q
    ·exact .inl (List.mem_cons_of_mem _ q)
    ·rcases List.mem_cons.mp q with e | q
     ·rw [e,eq_of_beq hk]
      exact .inl List.mem_cons_self
     ·exact .inr q
   ·rcases zcC r _ _ x h with q | q
    ·exact .inl (List.mem_cons_of_mem _ q)
    ·exact .inr q
theorem zcZ {α : Type} (x : Str) : ∀ (l r : List (Str × α)),(l ++ r).lookup x = (l.lookup x).or (r.lookup x)
 | [],r=>by simp
 | (k,v) :: l,r=>by
   rw [List.cons_append,List.lookup_cons,List.lookup_cons]
   cases hb : x == k with
   | true=>rfl
   | false=>exact zcZ x l r
theorem zcc {α : Type} {x : Str} : ∀ {l : List (Str × α)} {c : α},(x,c) ∈ l -> ∃ c',l.lookup x = some c'
 | (k,v) :: l,c,h=>by
   rw [List.lookup_cons]
   cases hb : x == k with
   | true=>exact ⟨v,rfl⟩
   | false =>
     rcases List.mem_cons.mp h with e | h
     ·injection e with e1 e2
      subst e1
      rw [beq_self_eq_true] at hb
      cases hb
     ·exact zcc h
theorem zbO {scope : Scope} {env : Env} {x : Str} {k : NameKind} (h : (relabel scope env).names.lookup x = some k) : ∃ k0,scope.names.lookup x = some k0 /\ (k = k0 \/ (k = .cell /\ k0 = .free)):=by
 have go : ∀ names : List (Str × NameKind),(names.map fun (n,k)=>if (k == NameKind.free && env.scope.kind == .function && env.kindOf n == some .cell) then (n,NameKind.cell) else (n,k)).lookup x = some k ->
  ∃ k0,names.lookup x = some k0 /\ (k = k0 \/ (k = .cell /\ k0 = .free)):=by
  intro names
  induction names with
  | nil=>intro h; cases h
  | cons y r ih =>
    obtain ⟨n,k1⟩:=y
    intro h
    replace h : List.lookup x ((if (k1 == NameKind.free && env.scope.kind == .function && env.kindOf n == some .cell) = true then (n,NameKind.cell) else (n,k1)) :: (r.map fun (n,k)=>if (k == NameKind.free && env.scope.kind == .function && env.kindOf n == some .cell) then (n,NameKind.cell) else (n,k))) = some k:=h
    by_cases hc : (k1 == NameKind.free && env.scope.kind == .function && env.kindOf n == some .cell) = true
    ·rw [if_pos hc] at h
     rw [List.lookup_cons] at h ⊢
     cases hb : x == n with
     | true =>
       rw [hb] at h
       have e : NameKind.cell = k:=Option.some.inj h
       simp only [Bool.and_eq_true] at hc
       exact ⟨k1,rfl,.inr ⟨e.symm,eq_of_beq hc.1.1⟩⟩
     | false=>rw [hb] at h; exact ih h
    ·rw [if_neg hc] at h
     rw [List.lookup_cons] at h ⊢
     cases hb : x == n with
     | true =>
       rw [hb] at h
       have e : k1 = k:=Option.some.inj h
       exact ⟨k1,rfl,.inl e.symm⟩
     | false=>rw [hb] at h; exact ih h
 exact go _ h
def zne (scope : Scope) (env : Env) (C : Addr) (cells : List (Str × Addr)) : Env :=
 { scope:=relabel scope env,locals:=C,globals:=env.globals,cells:=cells,qual:=env.qual,func:=none,code:=env.code,frame:=env.frame,builtins:=env.builtins }
def zde (X : Cx) (N' : List Str) (scope : Scope) (C : Addr) (cells : List (Str × Addr)) (s₀ : Shared) (H₀ : Hp) (ex : List Addr) : Cx :=
 { X with N:=N',s₀:=s₀,H₀:=H₀,env:=zne scope X.env C cells,outer:=X.stack,stack:=X.stack,ex:=ex,fn:=fun x=>scope.names.lookup x == some .cell,pn:=[],xe:=fun _ _=>False }
def zjL (ms : List Nat) (k : Nat) (σ : St) : St:=ms.foldl (fun σ i=>σ.set i none) σ ++ List.replicate k none
theorem zff (ms : List Nat) : ∀ σ : St,(ms.foldl (fun σ i=>σ.set i none) σ).length = σ.length:=by
 induction ms with
 | nil=>intro σ; rfl
 | cons m ms ih=>intro σ; rw [List.foldl_cons,ih,List.length_set]
theorem zkv (ms : List Nat) : ∀ (σ : St) (i : Nat) (v : V),(ms.foldl (fun σ i=>σ.set i none) σ)[i]? = some (some v) -> σ[i]? = some (some v) /\ i ∉ ms:=by
 induction ms with
 | nil=>intro σ i v h; exact ⟨h,by simp⟩
 | cons m ms ih =>
   intro σ i v h
   rw [List.foldl_cons] at h
   obtain ⟨h1,h2⟩:=ih _ i v h
   by_cases e : m = i
   ·subst e
    rw [List.getElem?_set] at h1
    split at h1
    ·split at h1 <;> cases h1
    ·exact absurd rfl ‹_›
   ·rw [List.getElem?_set_ne e] at h1
    exact ⟨h1,by simp only [List.mem_cons,not_or]; exact ⟨fun z=>e z.symm,h2⟩⟩
structure BlkOk (X : Cx) (N' : List Str) (scope : Scope) (ms : List Nat) (k : Nat) : Prop where
 kind : scope.kind = .function
 uniq : ∀ x ∈ scope.names,scope.names.lookup x.1 = some x.2
 free : ∀ x ∈ scope.names,x.2 = .free -> X.env.kindOf x.1 = some .cell \/ X.env.kindOf x.1 = some .free
 len : N'.length = X.N.length + k
 pre : ∀ i : Nat,i < X.N.length -> N'[i]? = X.N[i]?
 vis : ∀ i : Nat,i < X.N.length -> i ∉ ms -> ∀ x k',N'[i]? = some x -> scope.names.lookup x = some k' -> k' = .local \/ k' = .cell \/ k' = .free -> k' = .free
section
variable {X : Cx} {pins : List (Addr × Obj)} {σ : St} {H : Hp} {s : Shared}
theorem zkr {M : Model} {A : Around} {E : Value -> Shared -> Prop} {scope : Scope} {globals : Addr} {cl : List (Str × Addr)} {qual : Str} {env : Env} {Q : Env -> Shared -> Prop}
 (hQ : Q { scope:=scope,locals:=s.heap.objs.size,globals:=globals,cells:=cellsFrom (s.heap.objs.size + 1) scope.names cl,qual:=qual,func:=none,code:=env.code,frame:=env.frame,builtins:=env.builtins }
   { s with heap:=pushCells (s.heap.push { cls:=.type "dict",data:=.dict #[] }) scope.names }) :
 wpAny M A (newFunctionEnv scope globals cl [] qual none .none (some env)) Q E s:=by
 simp only [newFunctionEnv,Option.isSome_some,if_true]
 refine wpAny_bind (wpAny_alloc ?_)
 refine wpAny_bind (wpAny_layCells _ (fun name kind cells=>by cases hkc : kind == NameKind.cell <;> simp [hkc]) _ _ _ _ ?_)
 rw [show ({ s with heap:=s.heap.push { cls:=.type "dict",data:=.dict #[] } } : Shared).heap.objs.size = s.heap.objs.size + 1 from Heap.size_push ..]
 rw [List.forIn_nil]
 exact wpAny_bind (wpAny_pure (wpAny_pure hQ))
theorem zoq {N' : List Str} {scope : Scope} {ms : List Nat} {k : Nat} {ex : List Addr} (I : Inv X pins σ H s) (B : BlkOk X N' scope ms k) (hex : ∀ b ∈ ex,FpOk X pins H b /\ b < s.heap.objs.size) :
 Inv (zde X N' scope s.heap.objs.size (cellsFrom (s.heap.objs.size + 1) scope.names (zaw X.env scope.names [])) s H ex) [] (zjL ms k σ) H
  { s with heap:=pushCells (s.heap.push { cls:=.type "dict",data:=.dict #[] }) scope.names }:=by
 have hfree : ∀ x ∈ scope.names,x.2 = .free -> ∃ c,X.env.cells.lookup x.1 = some c:=fun x hx hk=>I.ok.has x.1 (B.free x hx hk)
 have keep : ∀ b o,s.heap.get? b = some o -> (pushCells (s.heap.push { cls:=.type "dict",data:=.dict #[] }) scope.names).get? b = some o:=fun b o e=>pushCells_keeps _ _ b o (Heap.get?_push_of_some _ e)
 have own:=cellsFrom_ok scope.names (s.heap.push { cls:=.type "dict",data:=.dict #[] }) (s.heap.objs.size + 1) [] ⟨fun _ _ hm=>(nomatch hm),List.Pairwise.nil⟩ (by rw [Heap.size_push]; exact Nat.le_refl _)
 rw [Heap.size_push] at own
 have clm : ∀ n c,(n,c) ∈ zaw X.env scope.names [] -> X.env.cells.lookup n = some c:=zcp (fun n c=>X.env.cells.lookup n = some c) scope.names [] hfree (fun _ _ h=>nomatch h) fun _ _ h=>h
 have clt : ∀ n (c : Addr),X.env.cells.lookup n = some c -> @LT.lt Nat instLTNat c s.heap.objs.size:=fun n c e=>by obtain ⟨v,q⟩:=I.cell n c e; exact q.lt
 have look : ∀ x c,(cellsFrom (s.heap.objs.size + 1) scope.names (zaw X.env scope.names [])).lookup x = some c ->
  ((x,c) ∈ cellsFrom (s.heap.objs.size + 1) scope.names [] /\ s.heap.objs.size + 1 <= c) \/ (X.env.cells.lookup x = some c /\ @LT.lt Nat instLTNat c s.heap.objs.size):=fun x c e=>by
  rw [zbe,zcZ] at e
  cases q : (cellsFrom (s.heap.objs.size + 1) scope.names []).lookup x with
  | some c' =>
    rw [q] at e
    have e' : c' = c:=Option.some.inj e
    subst e'
    exact .inl ⟨mem_of_lookup q,(own.empty x c' (mem_of_lookup q)).2⟩
  | none =>
    rw [q] at e
    have e2:=clm x c (mem_of_lookup e)
    exact .inr ⟨e2,clt x c e2⟩
 have hasL : ∀ x,scope.names.lookup x = some .cell \/ scope.names.lookup x = some .free -> ∃ c,(cellsFrom (s.heap.objs.size + 1) scope.names (zaw X.env scope.names [])).lookup x = some c:=fun x hx=>by
  rw [zbe,zcZ]
  cases q : (cellsFrom (s.heap.objs.size + 1) scope.names []).lookup x with
  | some c'=>exact ⟨c',rfl⟩
  | none =>
    rcases hx with hx | hx
    ·obtain ⟨c,e⟩:=zeA (n:=s.heap.objs.size + 1) hx
     rw [q] at e; cases e
    ·obtain ⟨c,hc⟩:=zcE (env:=X.env) scope.names [] x (PySem.mem_of_lookup hx)
     exact zcc hc
 have Ir:=I.lt
 refine ⟨⟨I.ok.mod,B.kind,I.ok.glob,I.ok.blt,Nat.le_refl _,fun x y c hx hy=>?_,fun x hx=>?_,fun x c hf hx=>?_,I.ok.hd,I.ok.frames,.inl rfl,fun b hb=>?_,I.bs,Nat.le_trans I.ok.bsz I.sz,fun b o e hb=>?_,fun b hb hfs=>?_,I.stack,I.stkFree⟩,
  rfl,I.bare,Un.kept keep,⟨fun _=>none,?_,fun i x v h1 h2 h3=>?_⟩,fun x c hx=>?_,?_,fun x c hx=>?_,fun p hp=>absurd (show p ∈ ([] : List (Addr × Obj)) from hp) (by simp),I.hok.kept keep,?_⟩
 ·rcases look x c hx with ⟨m1,l1⟩ | ⟨m1,l1⟩
  ·rcases look y c hy with ⟨m2,l2⟩ | ⟨m2,l2⟩
   ·exact name_of_addr own.apart m1 m2
   ·omega
  ·rcases look y c hy with ⟨m2,l2⟩ | ⟨m2,l2⟩
   ·omega
   ·exact I.ok.inj x y c m1 m2
 ·have hx : (relabel scope X.env).names.lookup x = some .cell \/ (relabel scope X.env).names.lookup x = some .free:=hx
  rcases hx with hx | hx
  ·obtain ⟨k0,e,z | ⟨_,z⟩⟩:=zbO hx
   ·exact hasL x (.inl (by rw [e,<- z]))
   ·exact hasL x (.inr (by rw [e,z]))
  ·obtain ⟨k0,e,z | ⟨z,_⟩⟩:=zbO hx
   ·exact hasL x (.inr (by rw [e,<- z]))
   ·cases z
 ·show s.heap.objs.size <= c
  have hf : (scope.names.lookup x == some .cell) = true:=hf
  have hf' : scope.names.lookup x = some .cell:=eq_of_beq hf
  have hx : (cellsFrom (s.heap.objs.size + 1) scope.names (zaw X.env scope.names [])).lookup x = some c:=hx
  rw [zbe,zcZ] at hx
  obtain ⟨c',e⟩:=zeA (n:=s.heap.objs.size + 1) hf'
  rw [e] at hx
  have z : c' = c:=Option.some.inj hx
  subst z
  exact Nat.le_of_succ_le (own.empty x c' (mem_of_lookup e)).2
 ·obtain ⟨_,hlt⟩:=hex b hb
  refine ⟨Nat.ne_of_lt hlt,fun x c hx z=>?_⟩
  subst z
  have hlt' : @LT.lt Nat instLTNat c s.heap.objs.size:=hlt
  rcases look x c hx with ⟨_,l1⟩ | ⟨m1,_⟩
  ·omega
  ·obtain ⟨⟨_,_,_,_,f4,_⟩,_⟩:=hex c hb
   exact f4 x c m1 rfl
 ·obtain ⟨⟨_,_,_,f3,_,_⟩,_⟩:=hex b hb
  rcases f3 with z | z
  ·exact I.ok.noex b o e z
  ·have h1 : @LT.lt Nat instLTNat b X.base.objs.size:=Heap.lt_size e
   have h2:=I.ok.bsz
   have h3 : @LE.le Nat instLENat X.s₀.heap.objs.size b:=z
   omega
 ·obtain ⟨⟨_,f1,f2,_,_,_⟩,_⟩:=hex b hb
  rcases List.mem_cons.mp (I.stkSub b hfs) with z | z
  ·exact f1 z
  ·exact f2 z
 ·exact (Heap.Ns.new s.heap (.type "dict")).keeps (pushCells_keeps _ _)
 ·have hi : i < X.N.length:=by
   by_cases hi : i < X.N.length
   ·exact hi
   ·exfalso
    unfold zjL at h2
    have hl : (ms.foldl (fun σ i=>σ.set i none) σ).length = X.N.length:=by rw [zff,I.len]
    rw [List.getElem?_append_right (by omega),List.getElem?_replicate] at h2
    split at h2 <;> cases h2
  have h2' : (ms.foldl (fun σ i=>σ.set i none) σ)[i]? = some (some v):=by
   unfold zjL at h2
   have hl : (ms.foldl (fun σ i=>σ.set i none) σ).length = X.N.length:=by rw [zff,I.len]
   rw [List.getElem?_append_left (by omega)] at h2
   exact h2
  obtain ⟨h4,h5⟩:=zkv ms σ i v h2'
  have h1' : N'[i]? = some x:=h1
  have hXN : X.N[i]? = some x:=by rw [<- B.pre i hi]; exact h1'
  have h3 : (relabel scope X.env).names.lookup x = some .local \/ (relabel scope X.env).names.lookup x = some .cell \/ (relabel scope X.env).names.lookup x = some .free:=h3
  have fr : scope.names.lookup x = some .free:=by
   have go : ∀ k',(relabel scope X.env).names.lookup x = some k' -> k' = .local \/ k' = .cell \/ k' = .free -> scope.names.lookup x = some .free:=fun k' e hk=>by
    obtain ⟨k0,e0,z | ⟨_,z⟩⟩:=zbO e
    ·have:=B.vis i hi h5 x k0 h1' e0 (z ▸ hk)
     rw [e0,this]
    ·rw [e0,z]
   rcases h3 with h3 | h3 | h3
   ·exact go _ h3 (.inl rfl)
   ·exact go _ h3 (.inr (.inl rfl))
   ·exact go _ h3 (.inr (.inr rfl))
  have hk:=B.free (x,.free) (PySem.mem_of_lookup fr) rfl
  obtain ⟨m,hn,hl⟩:=I.loc
  obtain ⟨u,r,l⟩:=hl i x v hXN h4 (.inr hk)
  refine ⟨u,r,.inr ⟨?_,?_⟩⟩
  ·rcases h3 with h3 | h3
   ·exfalso
    obtain ⟨k0,e0,z | ⟨z,_⟩⟩:=zbO h3
    ·rw [fr] at e0; cases e0; cases z
    ·cases z
   ·exact h3
  ·rcases l with ⟨hloc,_⟩ | ⟨_,c,hc,hcell⟩
   ·rcases hk with hk | hk
    ·rw [hk] at hloc; cases hloc
    ·rw [hk] at hloc; cases hloc
   ·refine ⟨c,?_,hcell.keeps keep⟩
    obtain ⟨c2,e2⟩:=hasL x (.inr fr)
    have e2' : (cellsFrom (s.heap.objs.size + 1) scope.names (zaw X.env scope.names [])).lookup x = some c2:=e2
    rcases look x c2 e2' with ⟨m1,_⟩ | ⟨m1,_⟩
    ·exfalso
     rcases zcC scope.names _ _ _ m1 with q | q
     ·have:=B.uniq _ q
      rw [fr] at this
      cases this
     ·cases q
    ·rw [hc] at m1
     have z : c = c2:=Option.some.inj m1
     rw [z]
     exact e2
 ·rcases look x c hx with ⟨m1,_⟩ | ⟨m1,_⟩
  ·exact ⟨none,(own.empty x c m1).1⟩
  ·obtain ⟨v,q⟩:=I.cell x c m1
   exact ⟨v,q.keeps keep⟩
 ·exact I.hok.fresh (Nat.le_refl _)
 ·rcases look x c hx with ⟨_,l1⟩ | ⟨m1,_⟩
  ·exact I.hok.fresh (by omega)
  ·exact I.freeC x c m1
 ·show (zjL ms k σ).length = N'.length
  unfold zjL
  rw [List.length_append,zff,List.length_replicate,I.len,B.len]
end
end L2
namespace L2
open PySem PySem.Spec PyProof.Rows
def zvT : TT:=fun _ H Q=>Q true H
def zmB (J : It) (g : TG) (tc : TT) (te : TE) (D : Addr) (Q : VK) (σ0 : St) (H0 : Hp) : Prop:=∃ W : Nat -> Nat -> St -> Hp -> Prop,(∃ m,W 0 m σ0 (upd H0 D (.lst []))) /\
 ∀ i m σ' H2,W i m σ' H2 -> (J.stop i H2 /\ Q (.ref D) H2) \/ (J.go i H2 /\ ∀ x H3,J.yld i H2 x H3 -> g x σ' H3 fun σ2 H4=>tc σ2 H4 fun b H5 =>
  if b = true then te σ2 H5 fun v H6=>∃ ys,H6 D = some (.lst ys) /\ ys.length < sizeLine /\ ∃ m',m' < m /\ W (i + 1) m' σ2 (upd H6 D (.lst (ys ++ [v])))
  else ∃ m',m' < m /\ W (i + 1) m' σ2 H5)
def znP (wi : TI) (g : TG) (tc : TT) (te : TE) (ms : List Nat) (k : Nat) : TE:=fun σ H Q=>wi σ H fun J H1=>∀ D,H1 D = none -> zmB J g tc te D Q (zjL ms k σ) H1
def PTs (X : Cx) (ifs : List Expr) (t : TT) : Prop :=
 ∀ (pins : List (Addr × Obj)) (s : Shared) (σ : St) (H : Hp) (Q : Bool -> Hp -> Prop),Inv X pins σ H s -> t σ H Q ->
  wpAny (model X.prog X.w) X.A (forIn ifs true fun c r=>if r = true then do let ok <- isTrue c X.env (eval c X.env); pure (ForInStep.yield ok) else pure (ForInStep.yield r)) (TP X pins σ Q) X.xe s
section
variable {X : Cx}
theorem zbK : PTs X [] zvT:=fun pins s σ H Q I h=>wpAny_tests_nil ⟨H,I,h⟩
theorem zdU {c : Expr} {t : TT} (h : PT X c t) : PTs X [c] t:=fun pins s σ H Q I hw=>wpAny_tests_one (h pins s σ H Q I hw)
theorem zhR {elt target iter : Expr} {ifs : List Expr} {scope : Scope} {pos : Pos} {p : Pos} {wi : TI} {g : TG} {tc : TT} {te : TE} {N' : List Str} {ms : List Nat} {k : Nat} {use : Option (Value -> Sem Unit)}
 {Q : Value -> Shared -> Prop} {pins : List (Addr × Obj)} {s : Shared} {σ : St} {H : Hp} {Qv : VK} (hcalm : X.calm = true) (hi : PI X target iter wi)
 (B : BlkOk X N' scope ms k) (hg : ∀ C cells s₀ H₀ ex,PG (zde X N' scope C cells s₀ H₀ ex) target g) (hc : ∀ C cells s₀ H₀ ex,PTs (zde X N' scope C cells s₀ H₀ ex) ifs tc)
 (he : ∀ C cells s₀ H₀ ex,PE (zde X N' scope C cells s₀ H₀ ex) elt te) (hs : ∀ x,foldedSetIterable iter X.env x = pure x) (I : Inv X pins σ H s) (hw : znP wi g tc te ms k σ H Qv)
 (hpost : ∀ (D : Addr) (H' : Hp) (s' : Shared) (C : Addr) (m : Str -> Option Value),Inv X pins σ H' s' -> s'.heap.Ns C m -> H' C = none -> C ≠ X.env.locals -> X.s₀.heap.objs.size <= C ->
   (∀ x c,X.env.cells.lookup x = some c -> c ≠ C) -> (∀ p ∈ X.pn ++ pins,p.1 ≠ C) -> Qv (.ref D) H' -> compPost (model X.prog X.w) X.A X.xe use Q (.ref D) C (.ok .next) s') :
 wpAny (model X.prog X.w) X.A (comprehension (.ListComp elt [⟨target,iter,ifs,0⟩] scope pos) scope X.env p (newList []) false (eval iter X.env) use) Q X.xe s:=by
 have hfree : ∀ x ∈ scope.names,x.2 = .free -> ∃ c,X.env.cells.lookup x.1 = some c:=fun x hx hk=>I.ok.has x.1 (B.free x hx hk)
 refine wpAny_comprehension_free (use:=use) rfl hs (zgs hfree) B.kind (fun x hx hl=>by rw [B.uniq x hx,hl]) ?_
 refine thn (hi pins s σ H _ I hw) fun v s1 h1=>thn h1 fun itv s2 h2=>?_
 obtain ⟨it,fp,tn,J,H2,rfl,I2,T,st2,f2,h2⟩:=h2
 refine wpAny_newObj_type ?_
 have I3 : Inv X pins σ (upd H2 s2.heap.objs.size (.lst [])) { s2 with heap:=s2.heap.push { cls:=.type "list",data:=.seq ([] : List Value).toArray } }:=I2.lnew (t':=s2.toks) .nil (Nat.zero_le _)
 obtain ⟨W,⟨m0,w0⟩,turn⟩:=h2 s2.heap.objs.size I2.fresh
 have hfp3 : ∀ b ∈ fp,FpOk X pins (upd H2 s2.heap.objs.size (.lst [])) b /\ b < (s2.heap.push { cls:=.type "list",data:=.seq ([] : List Value).toArray }).objs.size:=fun b hb=>by
  obtain ⟨o,e,_⟩:=T.obj _ _ st2 b hb
  have hlt:=Heap.lt_size e
  obtain ⟨f0,fr⟩:=f2 b hb
  refine ⟨⟨by rw [zai (Nat.ne_of_lt hlt)]; exact f0,fr⟩,?_⟩
  rw [Heap.size_push]
  exact Nat.lt_succ_of_lt hlt
 generalize hs3 : ({ s2 with heap:=s2.heap.push { cls:=.type "list",data:=.seq ([] : List Value).toArray } } : Shared) = s3 at I3
 have hh3 : s2.heap.push { cls:=.type "list",data:=.seq ([] : List Value).toArray } = s3.heap:=by rw [<- hs3]
 rw [hh3] at hfp3
 refine zkr ?_
 have I4:=zoq I3 B hfp3
 have st4 : tn 0 (pushCells (s3.heap.push { cls:=.type "dict",data:=.dict #[] }) scope.names):=T.keep _ _ _ st2 fun b hb o e=>pushCells_keeps _ _ b o (Heap.get?_push_of_some _ (by rw [<- hh3]; exact Heap.get?_push_of_some _ e))
 have fr4 : ∀ b ∈ fp,upd H2 s2.heap.objs.size (.lst []) b = none:=fun b hb=>(hfp3 b hb).1.1
 generalize hs4 : ({ s3 with heap:=pushCells (s3.heap.push { cls:=.type "dict",data:=.dict #[] }) scope.names } : Shared) = s4 at I4
 have hh4 : pushCells (s3.heap.push { cls:=.type "dict",data:=.dict #[] }) scope.names = s4.heap:=by rw [<- hs4]
 rw [hh4] at st4
 have stat : ∀ {H' : Hp} {pn' : List (Addr × Obj)},pn' = [] -> (∀ b ∈ fp,H' b = none) -> ∀ b ∈ fp,FpOk (zde X N' scope s3.heap.objs.size (cellsFrom (s3.heap.objs.size + 1) scope.names (zaw X.env scope.names [])) s3 (upd H2 s2.heap.objs.size (.lst [])) fp) pn' H' b:=fun hp hn b hb=>by
  obtain ⟨x1,x2⟩:=I4.ok.exf b hb
  exact ⟨hn b hb,x1,I4.ok.exfs b hb,.inl hb,x2,fun p hp'=>by rw [hp] at hp'; exact absurd (show p ∈ ([] : List (Addr × Obj)) from hp') (by simp)⟩
 have loop : ∀ it' : Value,it' = .ref it -> codeAny (model X.prog X.w) X.A (.compLoop (.ListComp elt [⟨target,iter,ifs,0⟩] scope pos) 0 it' (.ref s2.heap.objs.size) (zne scope X.env s3.heap.objs.size (cellsFrom (s3.heap.objs.size + 1) scope.names (zaw X.env scope.names []))))
  (compPost (model X.prog X.w) X.A X.xe use Q (.ref s2.heap.objs.size) s3.heap.objs.size) s4:=by
  rintro it' rfl
  refine zhQ (fun n s'=>∃ i σ' H',Inv (zde X N' scope s3.heap.objs.size (cellsFrom (s3.heap.objs.size + 1) scope.names (zaw X.env scope.names [])) s3 (upd H2 s2.heap.objs.size (.lst [])) fp) [] σ' H' s' /\ tn i s'.heap /\ (∀ b ∈ fp,H' b = none) /\ W i n σ' H') ?_ m0 ⟨0,_,_,I4,st4,fr4,w0⟩
  rintro n s5 ⟨i,σ5,H5,I5,st5,fr5,w5⟩
  rcases turn i n σ5 H5 w5 with ⟨stop,q⟩ | ⟨go,step⟩
  ·refine thn (T.done (zde X N' scope s3.heap.objs.size (cellsFrom (s3.heap.objs.size + 1) scope.names (zaw X.env scope.names [])) s3 (upd H2 s2.heap.objs.size (.lst [])) fp) rfl rfl rfl hcalm i [] s5 σ5 H5 (fun _ _=>False) I5 (stat rfl fr5) st5 stop) fun r s6 ⟨hr,I6⟩=>?_
   subst hr
   have I7 : Inv X pins σ H5 s6:=I3.call' I6.os I6.base I6.hok I6.bare fun b hb=>by
    obtain ⟨⟨_,f1,_,f3,f4,f5⟩,_⟩:=hfp3 b hb
    exact ⟨f3,f1,f4,f5⟩
   obtain ⟨m,hn,_⟩:=I6.loc
   have l3:=I3.lt
   refine hpost _ H5 s6 _ m I7 hn I6.free (Nat.ne_of_gt l3) I3.sz (fun x c e z=>?_) (fun p hp z=>?_) q
   ·obtain ⟨v,hv⟩:=I3.cell x c e
    have:=hv.lt
    rw [z] at this
    exact Nat.lt_irrefl _ this
   ·have:=Heap.lt_size (I3.pin p hp).1
    rw [z] at this
    exact Nat.lt_irrefl _ this
  ·refine thn (T.item (zde X N' scope s3.heap.objs.size (cellsFrom (s3.heap.objs.size + 1) scope.names (zaw X.env scope.names [])) s3 (upd H2 s2.heap.objs.size (.lst [])) fp) rfl rfl rfl hcalm i [] s5 σ5 H5 (fun _ _=>False) I5 (stat rfl fr5) st5 go) fun r s6 ⟨u,hr,h6⟩=>?_
   subst hr
   refine thn h6 fun _ s7 ⟨x,H7,I7,r7,y7,st7,fr7⟩=>?_
   have I7':=I7.pinned (stat rfl fr7) (T.obj _ _ st7)
   refine thn (hg _ _ _ _ _ _ s7 σ5 H7 x u _ I7' r7 (step x H7 y7)) fun _ s8 ⟨σ8,H8,I8,q8⟩=>?_
   refine thn (hc _ _ _ _ _ _ s8 σ8 H8 _ I8 q8) fun b s9 ⟨H9,I9,q9⟩=>?_
   have again : ∀ {σ' : St} {H' : Hp} {s' : Shared},Inv (zde X N' scope s3.heap.objs.size (cellsFrom (s3.heap.objs.size + 1) scope.names (zaw X.env scope.names [])) s3 (upd H2 s2.heap.objs.size (.lst [])) fp) ([] ++ zgW fp s7.heap) σ' H' s' ->
    (∃ m',m' < n /\ W (i + 1) m' σ' H') -> ∃ m,m < n /\ ∃ i σ'' H'',Inv (zde X N' scope s3.heap.objs.size (cellsFrom (s3.heap.objs.size + 1) scope.names (zaw X.env scope.names [])) s3 (upd H2 s2.heap.objs.size (.lst [])) fp) [] σ'' H'' s' /\ tn i s'.heap /\ (∀ b ∈ fp,H'' b = none) /\ W i m σ'' H'':=fun {σ' H' s'} I' ⟨m',hm,w'⟩=>by
    refine ⟨m',hm,i + 1,σ',H',I'.unpinned,T.keep _ _ _ st7 fun b hb o e=>(I'.pin (b,o) (List.mem_append_right _ (List.mem_append_right _ (zda hb e)))).1,fun b hb=>?_,w'⟩
    obtain ⟨o,e,d⟩:=T.obj _ _ st7 b hb
    exact (I'.pin (b,o) (List.mem_append_right _ (List.mem_append_right _ (zda hb e)))).2.1
   cases b with
   | false =>
     rw [if_neg Bool.false_ne_true] at q9 ⊢
     exact again I9 q9
   | true =>
     rw [if_pos rfl] at q9 ⊢
     refine thn (he _ _ _ _ _ _ s9 σ8 H9 _ I9 q9) fun y s10 ⟨vy,H10,I10,r10,ys,hys,hz,q10⟩=>?_
     refine thn (zaY _ s10 σ8 H10 (.ref s2.heap.objs.size) [vy] (.ref s2.heap.objs.size) [y] (fun _ H'=>H' = upd H10 s2.heap.objs.size (.lst (ys ++ [vy]))) I10 rfl (.cons r10 .nil) ⟨_,ys,vy,rfl,rfl,hys,hz,rfl⟩) fun _ s11 ⟨_,H11,I11,_,e11⟩=>?_
     subst e11
     exact again I11 q10
 have fin:=codeAny_compStart_list (loop _ rfl) (T.self _ 0 s4 _ _ st4 (loop _ rfl))
 exact fin
theorem zbg {elt target iter : Expr} {ifs : List Expr} {scope : Scope} {pos : Pos} {wi : TI} {g : TG} {tc : TT} {te : TE} {N' : List Str} {ms : List Nat} {k : Nat} (hcalm : X.calm = true) (hi : PI X target iter wi)
 (B : BlkOk X N' scope ms k) (hg : ∀ C cells s₀ H₀ ex,PG (zde X N' scope C cells s₀ H₀ ex) target g) (hc : ∀ C cells s₀ H₀ ex,PTs (zde X N' scope C cells s₀ H₀ ex) ifs tc)
 (he : ∀ C cells s₀ H₀ ex,PE (zde X N' scope C cells s₀ H₀ ex) elt te) (hs : ∀ x,foldedSetIterable iter X.env x = pure x:=by intro _; rfl) :
 PE X (.ListComp elt [⟨target,iter,ifs,0⟩] scope pos) (znP wi g tc te ms k):=by
 intro pins s σ H Q I h
 rw [eval_ListComp]
 refine zhR (use:=none) (Qv:=Q) hcalm hi B hg hc he hs I h fun D H' s' C m I' hn f0 f1 f3 f4 f5 q=>?_
 exact ⟨m,hn,fun h' sb=>⟨.ref D,H',I'.turned (t':=s'.toks) (fun b o hb e=>(sb.2 b hb).trans e) f0 f1 (.inr f3) f4 f5,rfl,q⟩⟩
theorem zdP {i : Nat} {x : Str} {px : Pos} {spos : Pos} {elt target iter : Expr} {ifs : List Expr} {scope : Scope} {pos : Pos} {wi : TI} {g : TG} {tc : TT} {te : TE} {N' : List Str} {ms : List Nat} {k : Nat} (hN : X.N.Nodup) (hx : X.N[i]? = some x) (hl : Loc X.env.scope x)
 (hcalm : X.calm = true) (hi : PI X target iter wi) (B : BlkOk X N' scope ms k) (hg : ∀ C cells s₀ H₀ ex,PG (zde X N' scope C cells s₀ H₀ ex) target g) (hc : ∀ C cells s₀ H₀ ex,PTs (zde X N' scope C cells s₀ H₀ ex) ifs tc)
 (he : ∀ C cells s₀ H₀ ex,PE (zde X N' scope C cells s₀ H₀ ex) elt te) (hsw : swapsWith (.ListComp elt [⟨target,iter,ifs,0⟩] scope pos) (some (.Name x px)) spos.line X.env = pure true:=by rfl) (hs : ∀ x,foldedSetIterable iter X.env x = pure x:=by intro _; rfl)
 (hf : X.fn x = true \/ X.env.scope.names.lookup x = some .local:=by first | exact .inl rfl | exact .inr rfl | assumption) :
 PS X (.Assign [.Name x px] (.ListComp elt [⟨target,iter,ifs,0⟩] scope pos) spos) (tAsg (znP wi g tc te ms k) (zlC i)):=by
 intro pins s σ H D I h
 rw [exec_Assign_Name_used _ _ _ _ hsw]
 refine wpAny_bind (wpAny_standAt (wpAny_bind ?_))
 show wpAny _ X.A (do let _ <- comprehension (.ListComp elt [⟨target,iter,ifs,0⟩] scope pos) scope X.env _ (newList []) false (eval iter X.env) (some (assign (.Name x px) X.env))) _ _ s
 refine wpAny_bind (wpAny_mono (zhR (use:=some (assign (.Name x px) X.env)) (Q:=fun _ s'=>∃ σ' H',Inv X pins σ' H' s' /\ D.nx σ' H') hcalm hi B hg hc he hs I h fun Da H' s' C m I' hn f0 f1 f3 f4 f5 q=>?_)
  (fun _ s' hq=>wpAny_pure (wpAny_pure hq)) fun _ _ e=>e)
 show wpAny _ X.A (assign (.Name x px) X.env (.ref Da)) _ _ s'
 refine wpAny_assign_Name (zgO I' hN hx hl (v:=.ref Da) rfl (fun s'' I'' ⟨b,sb,hb⟩=>?_) hf)
 have hCb : C ≠ b:=by
  rcases hb with z | z
  ·rw [z]; exact f1
  ·exact fun e=>f4 x b z e.symm
 refine ⟨m,hn.sameBut sb hCb,fun h' sb'=>⟨_,H',I''.turned (t':=s''.toks) (fun b o hb e=>(sb'.2 b hb).trans e) f0 f1 (.inr f3) f4 f5,q⟩⟩
end
end L2
namespace L2
open PySem PySem.Spec PyProof.Rows
def blkB (N : List Str) (lk : Str -> Option NameKind) (N' : List Str) (scope : Scope) (ms : List Nat) (k : Nat) : Bool :=
 scope.kind == .function && (scope.names.all fun x=>scope.names.lookup x.1 == some x.2) && (scope.names.all fun x=>!(x.2 == .free) || lk x.1 == some .cell || lk x.1 == some .free) &&
 N'.length == N.length + k && (N'.take N.length == N) &&
 (List.range N.length).all fun i=>ms.contains i || (match N'[i]? with | none=>true | some x=>match scope.names.lookup x with | some .local=>false | some .cell=>false | _=>true)
theorem BlkOk.of {X : Cx} {N' : List Str} {scope : Scope} {ms : List Nat} {k : Nat} (h : blkB X.N X.env.kindOf N' scope ms k = true) : BlkOk X N' scope ms k:=by
 unfold blkB at h
 simp only [Bool.and_eq_true] at h
 obtain ⟨⟨⟨⟨⟨h1,h2⟩,h3⟩,h4⟩,h5⟩,h6⟩:=h
 have e5 : N'.take X.N.length = X.N:=eq_of_beq h5
 refine ⟨eq_of_beq h1,fun x hx=>eq_of_beq (List.all_eq_true.mp h2 x hx),fun x hx hk=>?_,eq_of_beq h4,fun i hi=>?_,fun i hi hm x k' e1 e2 hk=>?_⟩
 ·have q:=List.all_eq_true.mp h3 x hx
  simp only [Bool.or_eq_true] at q
  rcases q with (q | q) | q
  ·rw [hk] at q; cases q
  ·exact .inl (eq_of_beq q)
  ·exact .inr (eq_of_beq q)
 ·have q : (N'.take X.N.length)[i]? = N'[i]?:=List.getElem?_take_of_lt hi
  rw [e5] at q
  exact q.symm
 ·have q:=List.all_eq_true.mp h6 i (List.mem_range.mpr hi)
  rw [Bool.or_eq_true] at q
  rcases q with q | q
  ·exact absurd (by simpa using q) hm
  ·rw [e1] at q
   rcases hk with rfl | rfl | rfl
   ·simp only [e2] at q; cases q
   ·simp only [e2] at q; cases q
   ·rfl
section
variable {K : PySem.W.Frag} {a : Addr} {xs : List V} {g : TG} {tc : TT} {te : TE} {D : Addr} {σ : St} {H : Hp} {Q : VK}
def zlT (D : Addr) (n i : Nat) (Pv : Nat -> List V -> St -> Hp -> Prop) (σ2 : St) : VK:=fun v H6=>∃ ys,H6 D = some (.lst ys) /\ ys.length < sizeLine /\ ∃ m',m' < n - i /\ (m' = n - (i + 1) /\ i + 1 <= n /\ ∃ ys',Pv (i + 1) ys' σ2 (upd H6 D (.lst (ys ++ [v]))))
def zmN (n i : Nat) (Pv : Nat -> List V -> St -> Hp -> Prop) (σ2 : St) (H5 : Hp) : Prop:=∃ m',m' < n - i /\ (m' = n - (i + 1) /\ i + 1 <= n /\ ∃ ys',Pv (i + 1) ys' σ2 H5)
theorem zcz {n i : Nat} {Pv : Nat -> List V -> St -> Hp -> Prop} {σ2 : St} {v : V} {H6 : Hp} {ys : List V} (hi : i < n) (h : H6 D = some (.lst ys)) (hz : ys.length <= 100000) (p : Pv (i + 1) (ys ++ [v]) σ2 (upd H6 D (.lst (ys ++ [v])))) : zlT D n i Pv σ2 v H6 :=
 ⟨ys,h,zby hz,n - (i + 1),by omega,rfl,hi,_,p⟩
theorem ziS {n i : Nat} {Pv : Nat -> List V -> St -> Hp -> Prop} {σ2 : St} {H5 : Hp} {ys : List V} (hi : i < n) (p : Pv (i + 1) ys σ2 H5) : zmN n i Pv σ2 H5:=⟨n - (i + 1),by omega,rfl,hi,_,p⟩
theorem zaI (Pv : Nat -> List V -> St -> Hp -> Prop) (h0 : Pv 0 [] σ (upd H D (.lst []))) (hl : ∀ i ys σ H,i <= xs.length -> Pv i ys σ H -> SqL K H a xs)
 (hs : ∀ i x ys σ H,xs[i]? = some x -> i < xs.length -> Pv i ys σ H -> g x σ H fun σ2 H4=>tc σ2 H4 fun b H5=>if b = true then te σ2 H5 (zlT D xs.length i Pv σ2) else zmN xs.length i Pv σ2 H5)
 (hd : ∀ ys σ H,Pv xs.length ys σ H -> Q (.ref D) H) :
 zmB (Itl K a) g tc te D Q σ H:=by
 refine ⟨fun i m σ H=>m = xs.length - i /\ i <= xs.length /\ ∃ ys,Pv i ys σ H,⟨xs.length,by simp,Nat.zero_le _,[],h0⟩,?_⟩
 rintro i m σ H ⟨rfl,hi,ys,p⟩
 have q:=hl i ys σ H hi p
 by_cases hlt : i < xs.length
 ·refine .inr ⟨⟨xs,xs[i],q,by simp [hlt]⟩,fun x H' y=>?_⟩
  obtain ⟨e,y⟩:=y
  subst e
  exact hs i x ys σ _ (y xs q) hlt p
 ·have e : i = xs.length:=by omega
  subst e
  exact .inl ⟨⟨xs,q,Nat.le_refl _⟩,hd ys σ H p⟩
theorem zdQ {lo : Int} {n : Nat} (Pv : Nat -> List V -> St -> Hp -> Prop) (h0 : Pv 0 [] σ (upd H D (.lst [])))
 (hs : ∀ i ys σ H,i < n -> Pv i ys σ H -> g (.int (lo + i)) σ H fun σ2 H4=>tc σ2 H4 fun b H5=>if b = true then te σ2 H5 (zlT D n i Pv σ2) else zmN n i Pv σ2 H5)
 (hd : ∀ ys σ H,Pv n ys σ H -> Q (.ref D) H) :
 zmB (Itr lo n) g tc te D Q σ H:=by
 refine ⟨fun i m σ H=>m = n - i /\ i <= n /\ ∃ ys,Pv i ys σ H,⟨n,by simp,Nat.zero_le _,[],h0⟩,?_⟩
 rintro i m σ H ⟨rfl,hi,ys,p⟩
 by_cases hlt : i < n
 ·refine .inr ⟨hlt,fun x H' y=>?_⟩
  obtain ⟨e,y⟩:=y
  subst e y
  exact hs i ys σ _ hlt p
 ·have e : i = n:=by omega
  subst e
  exact .inl ⟨Nat.le_refl _,hd ys σ H p⟩
end
end L2
namespace Sr
open PySem PyProof.Rows
def zjQ (prog : Program) (w : World) (A : Around) (s : Shared) (κ : KeyKind) (kd : SortKind) : Prop :=
 ∀ (E : Value -> Shared -> Prop) (x y : Value) (a b : κ.α) (Q : Bool -> Shared -> Prop),κ.keyOf x = some a -> κ.keyOf y = some b -> Q (κ.blt a b) s -> wpAny (model prog w) A (keyLt' kd x y) Q E s
structure zcB (kd : SortKind) (o : Array Keyed) (st : SortSt) : Prop where
 pm : (arrOf st).Perm o
 kn : kindOf st = kd
 fl : failedOf st = none
 pn : pendingOf st = #[]
section
variable {prog : Program} {w : World} {A : Around} {E : Value -> Shared -> Prop} {s : Shared} {o : Array Keyed} {κ : KeyKind} {kd : SortKind} {st : SortSt}
theorem zcB.sz (h : zcB kd o st) : (arrOf st).size = o.size:=h.pm.size_eq
theorem zcB.put (h : zcB kd o st) {xs : Array Keyed} (p : xs.Perm (arrOf st)) : zcB kd o (setArr st xs):=⟨p.trans h.pm,h.kn,h.fl,h.pn⟩
theorem zfU (T : zjQ prog w A s κ kd) (h0 : KeysOf κ o) (S : zcB kd o st) {i j : Nat} {Q : Option Bool -> SortSt -> Prop} (hi : i < o.size) (hj : j < o.size)
 (q : Q (some (κ.blt (KK κ (arrOf st) i) (KK κ (arrOf st) j))) st) : wpS (model prog w) A E s (ltAt' i j) Q st:=by
 have key : ∀ {k : Nat},k < o.size -> ∃ v p a,(arrOf st)[k]? = some (v,p) /\ κ.keyOf v = some a /\ KK κ (arrOf st) k = a:=fun {k} hk=>by
  have hk' : k < (arrOf st).size:=S.sz ▸ hk
  have hin : (arrOf st)[k] ∈ o.toList:=(Array.perm_iff_toList_perm.mp S.pm).mem_iff.mp (by simp)
  obtain ⟨a,ea⟩:=h0 _ hin
  have e:=getElem?_pos (arrOf st) k hk'
  exact ⟨_,_,a,e,ea,by simp only [KK,e,ea,Option.getD_some]⟩
 obtain ⟨x,p,a,e1,k1,r1⟩:=key hi
 obtain ⟨y,p',b,e2,k2,r2⟩:=key hj
 rw [r1,r2] at q
 rw [ltAt'_eq]
 refine wpS_bind (wpS_get ?_)
 show wpS _ _ _ _ (elem' (arrOf st) i >>= fun u=>elem' (arrOf st) j >>= fun v=>lt' u v) Q st
 rw [elem'_eq,elem'_eq,e1,e2]
 refine wpS_bind (wpS_pure (wpS_bind (wpS_pure ?_)))
 rw [lt'_eq]
 refine wpS_bind (wpS_get ?_)
 rw [S.kn]
 exact wpS_bind (wpS_lift (wpAny_attempt (T _ x y a b _ k1 k2 ⟨rfl,wpS_pure q⟩)))
theorem znk {xs : Array Keyed} {x : Nat} (h : SortedToK κ xs x) (hx : x = 0 \/ κ.kle (KK κ xs (x - 1)) (KK κ xs x)) : SortedToK κ xs (x + 1):=fun i j hij hj=>by
 rcases Nat.lt_or_ge j x with hjx | hjx
 ·exact h i j hij hjx
 obtain rfl : j = x:=by omega
 rcases Nat.lt_or_ge i j with hi | hi
 ·rcases hx with z | z
  ·omega
  ·exact KeyOrd.kle_trans (h i (j - 1) (by omega) (by omega)) z
 ·obtain rfl : i = j:=by omega
  exact KeyOrd.kle_refl _
theorem zet {xs : Array Keyed} {x : Nat} (h : NonIncK κ xs x) (hx : x = 0 \/ κ.kle (KK κ xs x) (KK κ xs (x - 1))) : NonIncK κ xs (x + 1):=fun i j hij hj=>by
 rcases Nat.lt_or_ge j x with hjx | hjx
 ·exact h i j hij hjx
 obtain rfl : j = x:=by omega
 rcases Nat.lt_or_ge i j with hi | hi
 ·rcases hx with z | z
  ·omega
  ·exact KeyOrd.kle_trans z (h i (j - 1) (by omega) (by omega))
 ·obtain rfl : i = j:=by omega
  exact KeyOrd.kle_refl _
theorem up_1 {xs : Array Keyed} : SortedToK κ xs 1:=znk (fun _ _ _ hj=>absurd hj (Nat.not_lt_zero _)) (.inl rfl)
theorem rise (T : zjQ prog w A s κ kd) (h0 : KeysOf κ o) (S : zcB kd o st) {b n : Nat} {Q : AscSt -> SortSt -> Prop} (hn : n <= o.size) (hb : 1 <= b) (hbn : b <= n) (hs : SortedToK κ (arrOf st) b)
 (q : ∀ m,b <= m -> m <= n -> SortedToK κ (arrOf st) m -> (m = n \/ κ.klt (KK κ (arrOf st) m) (KK κ (arrOf st) (m - 1))) -> Q (none,m) st) : wpS (model prog w) A E s (ascLoop b n) Q st:=by
 unfold ascLoop
 refine wpS_forRange (I:=fun m c u=>u = st /\ c = (none,m) /\ SortedToK κ (arrOf st) m) (fun m c u hbm hmn hI=>?_) (fun c u hI=>?_) ⟨rfl,rfl,hs⟩
 ·obtain ⟨rfl,rfl,up⟩:=hI
  refine wpS_bind (zfU T h0 S (i:=m) (j:=m - 1) (by omega) (by omega) ?_)
  cases lt : κ.blt (KK κ (arrOf u) m) (KK κ (arrOf u) (m - 1)) with
  | true=>exact wpS_pure (q m hbm (by omega) up (.inr lt))
  | false=>exact wpS_pure ⟨rfl,rfl,znk up (.inr lt)⟩
 ·obtain ⟨rfl,rfl,up⟩:=hI
  have e : max b n = n:=by omega
  rw [e] at up ⊢
  exact q n hbn (Nat.le_refl _) up (.inl rfl)
theorem ztm (T : zjQ prog w A s κ kd) (h0 : KeysOf κ o) (S : zcB kd o st) {b n : Nat} {Q : Option Nat -> SortSt -> Prop} (hn : n <= o.size) (hb : 1 <= b) (hbn : b <= n) (hs : NonIncK κ (arrOf st) b)
 (q : ∀ m u,zcB kd o u -> 1 <= m -> m <= n -> SortedToK κ (arrOf u) m -> Q (some m) u) : wpS (model prog w) A E s (tail3 b n) Q st:=by
 have z : b <= (arrOf st).size:=by rw [S.sz]; omega
 have S' : zcB kd o (setArr st (mirror (arrOf st) 0 b ((b - 0) / 2))):=S.put (mirror_perm ..)
 unfold tail3
 refine wpS_bind (wpS_reverse (wpS_bind (rise T h0 S' hn hb hbn (fun i j hij hj=>?_) fun m h1 h2 up _=>wpS_pure (q m _ S' (by omega) h2 up))))
 show κ.kle (KK κ (mirror (arrOf st) 0 b ((b - 0) / 2)) i) (KK κ (mirror (arrOf st) 0 b _) j)
 rw [KK_mirror z i,KK_mirror z j,if_pos ⟨Nat.zero_le _,by omega⟩,if_pos ⟨Nat.zero_le _,by omega⟩]
 exact hs _ _ (by omega) (by omega)
theorem fall (T : zjQ prog w A s κ kd) (h0 : KeysOf κ o) (S : zcB kd o st) {b n : Nat} {Q : DescSt -> SortSt -> Prop} (hn : n <= o.size) (hb : 1 <= b) (hbn : b <= n) (hs : NonIncK κ (arrOf st) b)
 (q : ∀ m e u,zcB kd o u -> b <= m -> m <= n -> NonIncK κ (arrOf u) m -> e + 1 <= m -> (∀ i,m - (e + 1) <= i -> i < m -> KK κ (arrOf u) i = KK κ (arrOf u) (m - 1)) -> Q (none,m,e) u) :
 wpS (model prog w) A E s (descLoop b n) Q st:=by
 unfold descLoop
 refine wpS_forRange (I:=fun m c u=>∃ e,c = (none,m,e) /\ zcB kd o u /\ NonIncK κ (arrOf u) m /\ e + 1 <= m /\ ∀ i,m - (e + 1) <= i -> i < m -> KK κ (arrOf u) i = KK κ (arrOf u) (m - 1))
  (fun m c u hbm hmn hI=>?_) (fun c u hI=>?_) ⟨0,rfl,S,hs,hb,fun i h1 h2=>congrArg _ (by omega)⟩
 ·obtain ⟨e,rfl,S',dn,he,al⟩:=hI
  have z : m <= (arrOf u).size:=by rw [S'.sz]; omega
  refine wpS_bind (zfU T h0 S' (i:=m) (j:=m - 1) (by omega) (by omega) ?_)
  cases lt : κ.blt (KK κ (arrOf u) m) (KK κ (arrOf u) (m - 1)) with
  | true =>
    have dn':=zet dn (.inr (KeyOrd.kle_of_klt lt))
    show wpS _ _ _ _ (if e > 0 then _ else _) _ u
    by_cases h : e > 0
    ·rw [if_pos h]
     refine wpS_bind (wpS_reverse (wpS_pure ⟨0,rfl,S'.put (mirror_perm ..),fun i j hij hj=>?_,Nat.succ_le_succ (Nat.zero_le _),fun i h1 h2=>congrArg _ (by omega)⟩))
     show κ.kle (KK κ (mirror _ _ _ _) j) (KK κ (mirror _ _ _ _) i)
     rw [KK_mirror_equal z al i,KK_mirror_equal z al j]
     exact dn' i j hij hj
    ·rw [if_neg h]
     exact wpS_pure ⟨0,rfl,S',dn',Nat.succ_le_succ (Nat.zero_le _),fun i h1 h2=>congrArg _ (by omega)⟩
  | false =>
    refine wpS_bind (zfU T h0 S' (i:=m - 1) (j:=m) (by omega) (by omega) ?_)
    cases gt : κ.blt (KK κ (arrOf u) (m - 1)) (KK κ (arrOf u) m) with
    | true=>exact wpS_pure (q m e u S' hbm (by omega) dn he al)
    | false =>
      have same : KK κ (arrOf u) m = KK κ (arrOf u) (m - 1):=KeyOrd.kle_antisymm gt lt
      refine wpS_pure ⟨e + 1,rfl,S',zet dn (.inr (same ▸ KeyOrd.kle_refl _)),by omega,fun i h1 h2=>?_⟩
      show KK κ (arrOf u) i = KK κ (arrOf u) m
      rcases Nat.lt_or_ge i m with h | h
      ·rw [same]
       exact al i (by omega) h
      ·rw [show i = m by omega]
 ·obtain ⟨e,rfl,S',dn,he,al⟩:=hI
  have ez : max b n = n:=by omega
  rw [ez] at dn he al ⊢
  exact q n e u S' hbn (Nat.le_refl _) dn he al
theorem znw (T : zjQ prog w A s κ kd) (h0 : KeysOf κ o) (S : zcB kd o st) {b n : Nat} {Q : Option Nat -> SortSt -> Prop} (hn : n <= o.size) (hbn : b + 1 <= n) (hs : NonIncK κ (arrOf st) (b + 1))
 (q : ∀ m u,zcB kd o u -> 1 <= m -> m <= n -> SortedToK κ (arrOf u) m -> Q (some m) u) : wpS (model prog w) A E s (descPart b n) Q st:=by
 unfold descPart
 refine wpS_bind (wpS_lift (wpAny_rule ⟨rfl,wpS_bind (fall T h0 S hn (Nat.succ_le_succ (Nat.zero_le _)) hbn hs fun m e u S' h1 h2 dn he al=>?_)⟩))
 have z : m <= (arrOf u).size:=by rw [S'.sz]; omega
 show wpS _ _ _ _ (if e > 0 then _ else _) _ u
 by_cases h : e > 0
 ·rw [if_pos h]
  refine wpS_bind (wpS_reverse (ztm (b:=m) T h0 (S'.put (mirror_perm ..)) hn (by omega) h2 (fun i j hij hj=>?_) q))
  show κ.kle (KK κ (mirror _ _ _ _) j) (KK κ (mirror _ _ _ _) i)
  rw [KK_mirror_equal z al i,KK_mirror_equal z al j]
  exact dn i j hij hj
 ·rw [if_neg h]
  exact ztm (b:=m) T h0 S' hn (by omega) h2 dn q
theorem zns (T : zjQ prog w A s κ kd) (h0 : KeysOf κ o) (S : zcB kd o st) {n : Nat} {Q : Option Nat -> SortSt -> Prop} (hn : n <= o.size) (h1 : 1 <= n)
 (q : ∀ m u,zcB kd o u -> 1 <= m -> m <= n -> SortedToK κ (arrOf u) m -> Q (some m) u) : wpS (model prog w) A E s (countRun' 0 n) Q st:=by
 rw [countRun0_eq]
 refine wpS_bind (rise T h0 S hn (Nat.le_refl 1) h1 up_1 fun m hm1 hm2 up hor=>?_)
 show wpS _ _ _ _ (if (m == n) = true then _ else _) _ st
 by_cases e : m = n
 ·rw [if_pos (beq_iff_eq.mpr e)]
  exact wpS_pure (q m st S hm1 hm2 up)
 rw [if_neg fun z=>e (beq_iff_eq.mp z)]
 have dip:=hor.resolve_left e
 by_cases h : m > 1
 ·rw [if_pos h]
  refine wpS_bind (zfU T h0 S (i:=0) (j:=m - 1) (by omega) (by omega) ?_)
  cases rose : κ.blt (KK κ (arrOf st) 0) (KK κ (arrOf st) (m - 1)) with
  | true=>exact wpS_pure (q m st S hm1 hm2 up)
  | false =>
    have z : m <= (arrOf st).size:=by rw [S.sz]; omega
    have al : ∀ k,0 <= k -> k < m -> KK κ (arrOf st) k = KK κ (arrOf st) (m - 1):=fun k _ hk =>
     KeyOrd.kle_antisymm (up k (m - 1) (by omega) (by omega)) (KeyOrd.kle_trans rose (up 0 k (Nat.zero_le _) hk))
    have dn : NonIncK κ (arrOf st) (m + 1):=zet (fun i j hij hj=>by rw [al i (Nat.zero_le _) (by omega),al j (Nat.zero_le _) hj]; exact KeyOrd.kle_refl _) (.inr (KeyOrd.kle_of_klt dip))
    refine wpS_bind (wpS_reverse (znw T h0 (S.put (mirror_perm ..)) hn (by omega) (fun i j hij hj=>?_) q))
    show κ.kle (KK κ (mirror _ _ _ _) j) (KK κ (mirror _ _ _ _) i)
    rw [KK_mirror_equal z al i,KK_mirror_equal z al j]
    exact dn i j hij hj
 ·rw [if_neg h]
  obtain rfl : m = 1:=by omega
  exact znw T h0 S hn (by omega) (zet (fun i j hij hj=>by rw [show i = j by omega]; exact KeyOrd.kle_refl _) (.inr (KeyOrd.kle_of_klt dip))) q
end
end Sr
namespace Sr
open PySem PyProof.Rows
section
variable {prog : Program} {w : World} {A : Around} {E : Value -> Shared -> Prop} {s : Shared}
end
end Sr
namespace Sr
open PySem PyProof.Rows
section
variable {prog : Program} {w : World} {A : Around} {E : Value -> Shared -> Prop} {s : Shared}
end
end Sr
namespace L2
open PySem PySem.Spec PyProof.Rows
section
variable {X : Cx}
end
end L2
namespace L2
open PySem PySem.Spec PyProof.Rows
section
variable {X : Cx}
theorem zna (hc : X.calm = true) : zdJ X (.builtin "sum") (fun xs H Q=>∃ p ns,xs = [.ref p] /\ SqL X.K H p (ns.map V.int) /\ Q (.int (List.sum ns)) H):=by
 intro pins s σ H xs us Q I r h
 obtain ⟨p,ns,rfl,hq,q⟩:=h
 obtain ⟨u,rfl,ru⟩:=zgi r
 cases ru
 obtain ⟨its,rv,pl,hz⟩:=I.list hq
 have hi : IntsAre its ns:=zdW rv
 obtain ⟨zs,e⟩:=(hi.allInts).items
 have hn : numsOf its = ns:=hi.numsOf
 refine sum_intListG (I.ok.hd hc) (by rw [<- e]; exact pl.isList) fun h' tk t' hk=>⟨.int (List.sum ns),H,I.kept hk,⟨t',?_⟩,q⟩
 have e2 : its.toArray.toList = (intItems zs).toList:=by rw [e]
 have e3 : numsOf its = numsOf (intItems zs).toList:=by rw [<- e2]
 rw [nums_intItems] at e3
 rw [preSum_eq,List.take_of_length_le (by simp),<- hn,e3]
end
end L2
namespace L2
open PySem PySem.Spec PyProof.Rows
section
variable {X : Cx} {e st : Expr} {te tst : TE} {pos p2 : Pos}
end
end L2
namespace L2
open PySem PySem.Spec PyProof.Rows
section
variable {X : Cx} (K : PySem.W.Frag) (hK : X.K = K)
include hK
theorem zas : IxR X (rIxL K):=by subst hK; exact znG
theorem zcv : IxR X (rIxT K):=by subst hK; exact znm
theorem zjl : SlR X (rSlL K):=by subst hK; exact znT
theorem zfK : OpR X (compareOp .NotIn) (rIn K true):=by subst hK; exact zgY
theorem keqD (hu : X.A.units + 64 < cLine) : OpR X (compareOp .Eq) (rEqD K false):=by subst hK; exact zsf hu
theorem kneD (hu : X.A.units + 64 < cLine) : OpR X (compareOp .NotEq) (rEqD K true):=by subst hK; exact zqI hu
def rLen (K : PySem.W.Frag) : List V -> Hp -> VK -> Prop:=fun xs H Q=>∃ p ys,xs = [.ref p] /\ (SqL K H p ys \/ SqT K H p ys) /\ Q (.int ys.length) H
theorem zbf : zdJ X (.builtin "len") (rLen K):=by subst hK; exact zhi
def zoh (K : PySem.W.Frag) : List V -> Hp -> VK -> Prop:=fun xs H Q=>∃ p ys,xs = [.ref p] /\ (SqL K H p ys \/ SqT K H p ys) /\ ∀ l,H l = none -> Q (.ref l) (upd H l (.lst ys))
theorem zeu : zdJ X (.type "list") (zoh K):=by subst hK; exact zhp
def rSum (K : PySem.W.Frag) : List V -> Hp -> VK -> Prop:=fun xs H Q=>∃ p ns,xs = [.ref p] /\ SqL K H p (ns.map V.int) /\ Q (.int (List.sum ns)) H
theorem ksum (hc : X.calm = true) : zdJ X (.builtin "sum") (rSum K):=by subst hK; exact zna hc
theorem zaC {tg l : Expr} {tl : TE} (hl : PE X l tl) : PI X tg l (zqx K tl):=by subst hK; exact zob hl
theorem zex {es : List Expr} {k1 : Nat} {tp : Pos} {e : Expr} {ta : TA} {p pos : Pos} (hg : Gl X "enumerate") (hm : X.mg "enumerate" = none) (ha : PA X [e] ta) (hs : starEach [e] X.env = (false,eval e X.env) :: starEach [] X.env:=by rfl) :
 PI X (.Tuple es k1 tp) (.Call (.Name "enumerate" p) [e] [] pos) (zoT K ta):=by subst hK; exact zom hg hm ha hs
theorem zbj {es : List Expr} {k : Nat} {t : TGs} {n : Nat} {pos : Pos} (hc : X.calm = true) (h : PGs X es t) (hn : (assignEach es X.env).length = n:=by rfl) (hst : (assignEach es X.env).findIdx? (·.1) = none:=by rfl) :
 PG X (.Tuple es k pos) (gTup K n t):=by subst hK; exact zpa hc h hn hst
theorem zbo {o e : Expr} {es : List Expr} {to : TE} {t : TA} {name : Str} {apos cpos : Pos} {T id : String} {r : V -> List V -> Hp -> VK -> Prop} (pa : PlainAttrs T) (slot : Slot T name id) (hty : typeOf (.builtin id) = pure (.type "method_descriptor")) (hm : MtR X id r) (ho : PE X o to) (ha : PA X (e :: es) t)
 (hbase : attributeBase o name X.env (eval o X.env) = eval o X.env:=by rfl)
 (hfew : ((backTo cpos (starEach (e :: es) X.env)).all (fun x=>!x.1) && (backToKw cpos (keywordEach [] X.env)).all (fun x=>x.1.isSome)
   && decide ((e :: es).length + ([] : List Keyword).length + (if ([] : List Keyword).isEmpty then 0 else 1) < 30)) = true:=by rfl)
 (hline : (apos.endLine == cpos.line) = true:=by rfl) (hs : starEach (e :: es) X.env = (false,eval e X.env) :: starEach es X.env:=by rfl) (hplain : (backTo cpos (starEach es X.env)).any (·.1) = false:=by rfl) :
 PE X (.Call (.Attribute o name apos) (e :: es) [] cpos) (tBM K T r to t):=by subst hK; exact zvN pa slot hty hm ho ha hbase hfew hline hs hplain
theorem zoy {o : Expr} {to : TE} {name : Str} {apos cpos : Pos} {T id : String} {r : V -> List V -> Hp -> VK -> Prop} (pa : PlainAttrs T) (slot : Slot T name id) (hty : typeOf (.builtin id) = pure (.type "method_descriptor")) (hm : MtR X id r) (ho : PE X o to)
 (hbase : attributeBase o name X.env (eval o X.env) = eval o X.env:=by rfl) (hline : (apos.endLine == cpos.line) = true:=by rfl) : PE X (.Call (.Attribute o name apos) [] [] cpos) (tBM0 K T r to):=by
 subst hK; exact zpy pa slot hty hm ho hbase hline
end
section
variable {X : Cx}
theorem zlI : MtR X "int.bit_length" (fun x xs H Q=>∃ i : Int,x = .int i /\ xs = [] /\ Q (.int (Builtin.Int.intBits i : Nat)) H):=by
 intro pins s σ H x xs v us Q I rx rs h
 obtain ⟨i,rfl,rfl,q⟩:=h
 obtain ⟨t,rfl⟩:=rx
 cases rs
 exact call_int_bit_length ⟨.int (Builtin.Int.intBits i : Nat),H,I.tok _,⟨_,rfl⟩,q⟩
end
end L2
namespace Mt
open PySem
def has (t o : Int) : Bool:=decide (∀ k : Nat,k < 7 -> o / 2 ^ k % 2 <= t / 2 ^ k % 2)
theorem zgc (n k : Nat) : ((n : Int) / 2 ^ k % 2) = ((n / 2 ^ k % 2 : Nat) : Int):=by
 have e : ((2 : Int) ^ k) = ((2 ^ k : Nat) : Int):=by rw [Int.natCast_pow]; rfl
 rw [e]
 omega
theorem zmR (t o : Nat) (ho : o < 128) : (t &&& o) = o ↔ ∀ k : Nat,k < 7 -> o / 2 ^ k % 2 <= t / 2 ^ k % 2:=by
 constructor
 ·intro h k _
  have e : (t &&& o).testBit k = o.testBit k:=by rw [h]
  rw [Nat.testBit_and,Nat.testBit_eq_decide_div_mod_eq,Nat.testBit_eq_decide_div_mod_eq] at e
  have h1 : o / 2 ^ k % 2 < 2:=Nat.mod_lt _ (by decide)
  have h2 : t / 2 ^ k % 2 < 2:=Nat.mod_lt _ (by decide)
  by_cases c : o / 2 ^ k % 2 = 1
  ·by_cases d : t / 2 ^ k % 2 = 1
   ·omega
   ·rw [decide_eq_true c,decide_eq_false d] at e
    cases e
  ·omega
 ·intro h
  apply Nat.eq_of_testBit_eq
  intro k
  rw [Nat.testBit_and,Nat.testBit_eq_decide_div_mod_eq,Nat.testBit_eq_decide_div_mod_eq]
  by_cases c : o / 2 ^ k % 2 = 1
  ·by_cases hk : k < 7
   ·have:=h k hk
    have h2 : t / 2 ^ k % 2 < 2:=Nat.mod_lt _ (by decide)
    rw [decide_eq_true c,decide_eq_true (by omega)]
    rfl
   ·have e : o / 2 ^ k = 0:=by
     apply Nat.div_eq_of_lt
     exact Nat.lt_of_lt_of_le ho (Nat.le_trans (show 128 <= 2 ^ 7 by decide) (Nat.pow_le_pow_right (by decide) (by omega)))
    rw [e] at c
    cases c
  ·rw [decide_eq_false c,Bool.and_false]
theorem zhY {t o : Int} (ht : 0 <= t) (h0 : 0 <= o) (h1 : o < 128) : decide (Builtin.bitAnd t o = o) = has t o:=by
 obtain ⟨a,rfl⟩:=Int.eq_ofNat_of_zero_le ht
 obtain ⟨b,rfl⟩:=Int.eq_ofNat_of_zero_le h0
 rw [PyProof.Rows.bitAnd_pp ht h0]
 unfold has
 rw [Int.toNat_natCast,Int.toNat_natCast]
 have q:=zmR a b (by omega)
 have e : (∀ k : Nat,k < 7 -> (b : Int) / 2 ^ k % 2 <= (a : Int) / 2 ^ k % 2) ↔ ∀ k : Nat,k < 7 -> b / 2 ^ k % 2 <= a / 2 ^ k % 2:=by
  constructor
  ·intro h k hk
   have:=h k hk
   rw [zgc,zgc] at this
   omega
  ·intro h k hk
   rw [zgc,zgc]
   have:=h k hk
   omega
 rw [decide_eq_decide,e,<- q]
 omega
theorem zgd (t : Int) : has t t = true:=decide_eq_true fun _ _=>Int.le_refl _
end Mt
namespace Mt
open PySem L2
def zaG (cs : List Int) (t : Int) : Option Nat:=cs.findIdx? fun c=>has c t
def optV : Option Nat -> V
 | none=>.non
 | some i=>.int i
theorem zdV {cs : List Int} {t : Int} {i : Nat} {c : Int} (h : cs[i]? = some c) (hc : has c t = true) (hj : ∀ (j : Nat) c',j < i -> cs[j]? = some c' -> has c' t = false) : zaG cs t = some i:=by
 obtain ⟨hi,e⟩:=List.getElem?_eq_some_iff.mp h
 unfold zaG
 rw [List.findIdx?_eq_some_iff_getElem]
 refine ⟨hi,by rw [e]; exact hc,fun j hji=>?_⟩
 rw [hj j cs[j] hji (List.getElem?_eq_getElem (by omega))]
 exact Bool.false_ne_true
theorem zfB {cs : List Int} {t : Int} (hj : ∀ (j : Nat) c',j < cs.length -> cs[j]? = some c' -> has c' t = false) : zaG cs t = none:=by
 unfold zaG
 rw [List.findIdx?_eq_none_iff]
 intro c hc
 obtain ⟨j,hjl,e⟩:=List.getElem_of_mem hc
 exact hj j c hjl (by rw [List.getElem?_eq_getElem hjl,e])
end Mt
namespace Mt
open PySem L2
def zpU (H : Hp) (x : V) (p : Nat × Option Nat) : Prop:=∃ t,x = .ref t /\ H t = some (.tup [.int p.1,optV p.2])
theorem zpU.same {H H' : Hp} {x : V} {p : Nat × Option Nat} (h : zpU H x p) (s : Same H H') : zpU H' x p:=let ⟨t,e,h⟩:=h; ⟨t,e,s _ _ h⟩
end Mt
namespace Mt
open PySem L2
def pc (c : Int) : Int:=(([1,2,4,8,16,32,64] : List Int).map fun b=>c / b % 2).sum
def rk (c : Int) : List Int:=[pc c,c]
end Mt
namespace Mt
open PySem L2
theorem zjK : ∀ c : Fin 128,Builtin.Int.intBits (c.val : Int) <= 7 /\ List.sum ((List.range (Builtin.Int.intBits (c.val : Int))).map fun k=>Builtin.bitAnd ((c.val : Int) / 2 ^ k) 1) = pc (c.val : Int):=by decide +kernel
theorem zlj {c : Int} (h0 : 0 <= c) (h1 : c < 128) : Builtin.Int.intBits c <= 7 /\ List.sum ((List.range (Builtin.Int.intBits c)).map fun k=>Builtin.bitAnd (c / 2 ^ k) 1) = pc c:=by
 have h:=zjK ⟨c.toNat,by omega⟩
 have e : ((c.toNat : Nat) : Int) = c:=by omega
 simpa only [e] using h
theorem zmi {t o : Int} (h : has t o = true) : o / 1 % 2 <= t / 1 % 2 /\ o / 2 % 2 <= t / 2 % 2 /\ o / 4 % 2 <= t / 4 % 2 /\ o / 8 % 2 <= t / 8 % 2 /\ o / 16 % 2 <= t / 16 % 2 /\ o / 32 % 2 <= t / 32 % 2 /\ o / 64 % 2 <= t / 64 % 2:=by
 have h : ∀ k : Nat,k < 7 -> o / 2 ^ k % 2 <= t / 2 ^ k % 2:=of_decide_eq_true h
 exact ⟨h 0 (by decide),h 1 (by decide),h 2 (by decide),h 3 (by decide),h 4 (by decide),h 5 (by decide),h 6 (by decide)⟩
theorem zmx : ∀ c : Fin 128,(c.val : Int) = (c.val : Int) / 1 % 2 + 2 * ((c.val : Int) / 2 % 2) + 4 * ((c.val : Int) / 4 % 2) + 8 * ((c.val : Int) / 8 % 2) + 16 * ((c.val : Int) / 16 % 2) + 32 * ((c.val : Int) / 32 % 2) + 64 * ((c.val : Int) / 64 % 2):=by decide +kernel
theorem zgk {c : Int} (h : 0 <= c /\ c < 128) : c = c / 1 % 2 + 2 * (c / 2 % 2) + 4 * (c / 4 % 2) + 8 * (c / 8 % 2) + 16 * (c / 16 % 2) + 32 * (c / 32 % 2) + 64 * (c / 64 % 2):=by
 have q:=zmx ⟨c.toNat,by omega⟩
 have e : ((c.toNat : Nat) : Int) = c:=by omega
 simpa only [e] using q
end Mt
namespace L2
open PySem PySem.Spec PyProof.Rows
section
variable {X : Cx} {pins : List (Addr × Obj)} {σ : St} {H : Hp} {s : Shared} {h' : Heap}
end
section
variable {X : Cx} {k : Nat} {f : Addr} {fd : FuncData} {ps : List Str} {sp : Sp}
theorem zhv : ∀ {xs : List V} {us : List Value} {j : Nat} {u : Value},Vals xs us -> us[j]? = some u -> ∃ v,xs[j]? = some v /\ RelV v u
 | _,_,_,_,.nil,e=>by simp at e
 | _,_,0,_,.cons r _,e=>by simp at e; subst e; exact ⟨_,rfl,r⟩
 | _,_,j + 1,u,.cons _ t,e=>by
   obtain ⟨v,h1,h2⟩:=zhv (j:=j) (u:=u) t (by simpa using e)
   exact ⟨v,by simpa using h1,h2⟩
end
end L2
namespace L2
open PySem PySem.Spec PyProof.Rows
section
variable {X : Cx} (K : PySem.W.Frag) (hK : X.K = K)
include hK
end
end L2
namespace L2
open PySem PySem.Spec PyProof.Rows
end L2
namespace L2
open PySem PySem.Spec PyProof.Rows
section
variable {X : Cx}
end
section
variable {X : Cx} (K : PySem.W.Frag) (hK : X.K = K)
include hK
end
end L2
namespace L2
open PySem PySem.Spec PyProof.Rows
end L2
namespace Mt
open PySem L2
def Fit (cs : List Int) : Prop:=∀ (j k : Nat) c d,j < k -> cs[j]? = some c -> cs[k]? = some d -> has c d = false
theorem zke {cs : List Int} {t : Int} {i : Nat} (h : zaG cs t = some i) : (∃ c,cs[i]? = some c /\ has c t = true) /\ ∀ (j : Nat) c,j < i -> cs[j]? = some c -> has c t = false:=by
 unfold zaG at h
 obtain ⟨hi,h1,h2⟩:=List.findIdx?_eq_some_iff_getElem.mp h
 refine ⟨⟨cs[i],List.getElem?_eq_getElem hi,h1⟩,fun j c hj hc=>?_⟩
 obtain ⟨hj',e⟩:=List.getElem?_eq_some_iff.mp hc
 have:=h2 j hj
 rw [e] at this
 cases q : has c t with
 | false=>rfl
 | true=>exact absurd q this
theorem zfQ {cs : List Int} {t : Int} {i : Nat} {c : Int} (h : cs[i]? = some c) (hc : has c t = true) : ∃ j,zaG cs t = some j /\ j <= i:=by
 cases q : zaG cs t with
 | none =>
   unfold zaG at q
   rw [List.findIdx?_eq_none_iff] at q
   have:=q c (List.mem_of_getElem? h)
   rw [hc] at this
   cases this
 | some j =>
   refine ⟨j,rfl,?_⟩
   by_cases z : j <= i
   ·exact z
   ·have:=(zke q).2 i c (by omega) h
    rw [hc] at this
    cases this
end Mt
namespace L2
open PySem PySem.Spec PyProof.Rows
def sg (c : Nat) : Str:=⟨#[c]⟩
section
variable {X : Cx} {tg : Expr}
end
section
variable {X : Cx}
theorem zfF : ∀ {ys : List Str} {us : List Value},Vals (ys.map V.str) us -> StrsAre us ys
 | [],_,r=>by cases r; exact .nil
 | y :: ys,_,r=>by
   cases r with
   | cons r1 r2 =>
     obtain ⟨t,rfl⟩:=r1
     exact .cons y t (zfF r2)
def zpx (K : PySem.W.Frag) : V -> List V -> Hp -> VK -> Prop:=fun x xs H Q=>∃ (z : Str) (p : Addr) (ys : List Str),x = .str z /\ xs = [.ref p] /\ SqL K H p (ys.map V.str) /\ (ys.map (·.length)).sum + ys.length * z.length <= 16777216 /\ Q (.str (Txt.join z ys)) H
theorem znC : MtR X "str.join" (zpx X.K):=by
 intro pins s σ H x xs v us Q I rx rs h
 obtain ⟨z,p,ys,rfl,rfl,hq,hb,q⟩:=h
 obtain ⟨t,rfl⟩:=rx
 obtain ⟨u,rfl,ru⟩:=zgi rs
 cases ru
 obtain ⟨its,rv,pl,hz⟩:=I.list hq
 exact join_list pl.isList (by simpa using zfF rv) hb fun t' k=>⟨.str _,H,I.tok _,⟨_,rfl⟩,q⟩
end
section
variable {X : Cx} (K : PySem.W.Frag) (hK : X.K = K)
include hK
theorem zjB : MtR X "str.join" (zpx K):=by subst hK; exact znC
end
end L2
namespace Cs
open PySem L2
structure Row where
 s : Str
 w : Int
 t : Int
 n : Int
abbrev rowV (r : Row) : List V:=[.str r.s,.int r.w,.int r.t,.int r.n]
def zbU (H : Hp) (v : V) (r : Row) : Prop:=∃ a,v = .ref a /\ H a = some (.tup (rowV r))
theorem zbU.same {H H' : Hp} {v : V} {r : Row} (h : zbU H v r) (s : Same H H') : zbU H' v r:=let ⟨a,e,h⟩:=h; ⟨a,e,s _ _ h⟩
theorem zay {H H' : Hp} {xs : List V} {rs : List Row} (h : Paired (zbU H) xs rs) (s : Same H H') : Paired (zbU H') xs rs:=Paired.mapP h fun _ _ z=>z.same s
theorem zcV {H : Hp} {l : Addr} {o ys : HO} {xs : List V} {rs : List Row} (h : Paired (zbU H) xs rs) (hl : H l = some ys) (hn : ∀ z,ys ≠ .tup z) : Paired (zbU (upd H l o)) xs rs :=
 Paired.mapP h fun x p ⟨t,e,ht⟩=>⟨t,e,by rw [zai (zbZ ht hl fun z=>hn _ z.symm)]; exact ht⟩
theorem zbC {H : Hp} {xs : List V} {rs : List Row} (h : Paired (zbU H) xs rs) : xs.length = rs.length:=Paired.length h
theorem zaX {α β : Type} {F : α -> β -> Prop} : ∀ {xs : List α} {ys : List β} {i : Nat} {x : α},Paired F xs ys -> xs[i]? = some x -> ∃ y,ys[i]? = some y /\ F x y
 | _,_,_,_,.nil,e=>by simp at e
 | _,_,0,_,.cons r _,e=>by simp at e; subst e; exact ⟨_,rfl,r⟩
 | _,_,i + 1,x,.cons _ t,e=>by
   obtain ⟨p,h1,h2⟩:=zaX (i:=i) (x:=x) t (by simpa using e)
   exact ⟨p,by simpa using h1,h2⟩
theorem zdA {α β : Type} {F : α -> β -> Prop} : ∀ {xs : List α} {ys : List β} {i : Nat} {y : β},Paired F xs ys -> ys[i]? = some y -> ∃ x,xs[i]? = some x /\ F x y
 | _,_,_,_,.nil,e=>by simp at e
 | _,_,0,_,.cons r _,e=>by simp at e; subst e; exact ⟨_,rfl,r⟩
 | _,_,i + 1,x,.cons _ t,e=>by
   obtain ⟨p,h1,h2⟩:=zdA (i:=i) (y:=x) t (by simpa using e)
   exact ⟨p,by simpa using h1,h2⟩
def zeB (K : PySem.W.Frag) (H : Hp) (l : Addr) (rs : List Row) : Prop:=∃ xs,SqL K H l xs /\ Paired (zbU H) xs rs
theorem zeB.same {K : PySem.W.Frag} {H H' : Hp} {l : Addr} {rs : List Row} (h : zeB K H l rs) (s : Same H H') : zeB K H' l rs:=let ⟨xs,h1,h2⟩:=h; ⟨xs,s.seq h1,zay h2 s⟩
def place (rs : List Row) (x : Str) : Option Nat:=rs.findIdx? fun r=>decide (r.s = x)
theorem zfx {rs : List Row} {x : Str} {i : Nat} {r : Row} (h : rs[i]? = some r) (hx : r.s = x) (hj : ∀ (j : Nat) r',j < i -> rs[j]? = some r' -> r'.s ≠ x) : place rs x = some i:=by
 obtain ⟨hi,e⟩:=List.getElem?_eq_some_iff.mp h
 unfold place
 rw [List.findIdx?_eq_some_iff_getElem]
 refine ⟨hi,by rw [e]; exact decide_eq_true hx,fun j hji=>?_⟩
 have:=hj j rs[j] hji (List.getElem?_eq_getElem (by omega))
 rw [decide_eq_false this]
 exact Bool.false_ne_true
theorem zfI {rs : List Row} {x : Str} (hj : ∀ (j : Nat) r,j < rs.length -> rs[j]? = some r -> r.s ≠ x) : place rs x = none:=by
 unfold place
 rw [List.findIdx?_eq_none_iff]
 intro r hr
 obtain ⟨j,hjl,e⟩:=List.getElem_of_mem hr
 exact decide_eq_false (hj j r hjl (by rw [List.getElem?_eq_getElem hjl,e]))
theorem zcX {rs : List Row} {x : Str} {i : Nat} (h : place rs x = some i) : i < rs.length:=by
 unfold place at h
 obtain ⟨hi,_⟩:=List.findIdx?_eq_some_iff_getElem.mp h
 exact hi
theorem strV {x y : Str} : decide (V.str x = V.str y) = decide (x = y):=by
 rw [decide_eq_decide]
 exact ⟨fun h=>V.str.inj h,fun h=>by rw [h]⟩
def signs : List Nat:="abcdefghijklmnopqrstuvwxyz.,-'".toList.map Char.toNat
theorem zkG : ∀ c ∈ signs,PyData.canLay0 (.str (sg c)) = true:=by decide +kernel
theorem zkH (zs : List Int) (lo hi : Option Int) : ∃ ms : List Int,cutV (zs.map V.int) lo hi = ms.map V.int /\ ms.length <= zs.length:=by
 unfold cutV
 rw [<- List.map_drop,<- List.map_take]
 exact ⟨_,rfl,by rw [List.length_take,List.length_drop]; omega⟩
end Cs
namespace L2
open PySem PySem.Spec PyProof.Rows
section
variable {X : Cx}
def rRemove : V -> List V -> Hp -> VK -> Prop:=fun x vs H Q=>∃ (l : Addr) (ns : List Int) (z : Int),x = .ref l /\ vs = [.int z] /\ H l = some (.lst (ns.map V.int)) /\ z ∈ ns /\ Q .non (upd H l (.lst ((ns.erase z).map V.int)))
theorem znz : ∀ (l : List Int) (n : Nat),(l.eraseIdx n).map V.int = (l.map V.int).eraseIdx n
 | [],_=>rfl
 | _ :: _,0=>rfl
 | a :: l,n + 1=>by
   show V.int a :: (l.eraseIdx n).map V.int = V.int a :: (l.map V.int).eraseIdx n
   rw [znz l n]
def eqI (z : Int) : Value -> Bool
 | .int i _=>i == z
 | _=>false
theorem zkJ : MtM X "list.remove" rRemove:=by
 intro pins s σ H x vs v us Q I rx rv h
 obtain ⟨l,ns,z,rfl,rfl,hH,hz,q⟩:=h
 cases rx
 obtain ⟨u,rfl,ru⟩:=rv.one
 obtain ⟨t,rfl⟩:=ru
 obtain ⟨zz,its,n,r,hl,e⟩:=I.lstM hH
 rw [List.length_map] at hl
 have at_ : ∀ (m : Nat) (hm : m < its.length),∃ t',its[m] = .int (ns[m]'(by omega)) t':=fun m hm=>by
  obtain ⟨u,hu,ru⟩:=r.get (i:=m) (x:=.int (ns[m]'(by omega))) (by rw [List.getElem?_map,List.getElem?_eq_getElem (by omega)]; rfl)
  rw [List.getElem?_eq_getElem hm] at hu
  obtain ⟨t',rfl⟩:=ru
  exact ⟨t',Option.some.inj hu⟩
 have hj : ns.idxOf z < ns.length:=List.idxOf_lt_length_of_mem hz
 refine call_meets F.slot_list_remove ⟨_,e,rfl⟩ F.entry_list_remove (F.args_list_remove_2 _ _)
  (MeetsSeq.list_remove l its.toArray n (.int z t) (eqI z) (fun y hy=>?_) (ns.idxOf z) (by rw [List.size_toArray]; omega) ?_ (fun m hm hlt=>?_) (by rw [List.size_toArray,<- hl]; rw [List.length_map] at zz; exact zz)) ⟨e,?_⟩
 ·obtain ⟨m,hm,ey⟩:=List.getElem_of_mem (show y ∈ its by simpa using hy)
  obtain ⟨t',e'⟩:=at_ m hm
  rw [<- ey,e']
  exact MeetsSeq.EqGives.int _ _ _ _
 ·obtain ⟨t',e'⟩:=at_ (ns.idxOf z) (by omega)
  show eqI z its[ns.idxOf z] = true
  rw [e']
  show (ns[ns.idxOf z] == z) = true
  rw [List.getElem_idxOf hj]
  exact beq_self_eq_true z
 ·have hm' : m < its.length:=by simpa using hm
  obtain ⟨t',e'⟩:=at_ m hm'
  show eqI z its[m] = false
  rw [e']
  show (ns[m] == z) = false
  have:=List.not_of_lt_findIdx (p:=(·== z)) (xs:=ns) (i:=m) hlt
  cases h : (ns[m] == z) with
  | false=>rfl
  | true=>exact absurd h (by simpa using this)
 ·have ee : (ns.erase z).map V.int = (ns.map V.int).eraseIdx (ns.idxOf z):=by
   rw [List.erase_eq_eraseIdx_of_idxOf rfl,znz]
  rw [ee] at q
  refine ⟨.non,_,I.lset (its':=its.eraseIdx (ns.idxOf z)) hH e ?_ (r.eraseIdx _) ?_,rfl,q⟩
  ·show its.toArray.eraseIdxIfInBounds _ = (its.eraseIdx _).toArray
   rw [List.eraseIdxIfInBounds_toArray]
  ·have:=List.length_eraseIdx_le (ns.map V.int) (ns.idxOf z)
   omega
end
end L2
namespace Mt
open PySem L2
theorem zgQ {t o : Int} (ht : 0 <= t /\ t < 128) (ho : 0 <= o /\ o < 128) (h : has t o = true) : o <= t:=by
 obtain ⟨a0,a1,a2,a3,a4,a5,a6⟩:=zmi h
 have b:=zgk ht
 have d:=zgk ho
 clear h ht ho
 rw [b,d]
 clear b d
 generalize t / 1 % 2 = t0 at *
 generalize t / 2 % 2 = t1 at *
 generalize t / 4 % 2 = t2 at *
 generalize t / 8 % 2 = t3 at *
 generalize t / 16 % 2 = t4 at *
 generalize t / 32 % 2 = t5 at *
 generalize t / 64 % 2 = t6 at *
 omega
theorem zjg : ∀ {ls : List Int},ls ≠ [] -> ∃ m ∈ ls,∀ o ∈ ls,m <= o
 | [],h=>absurd rfl h
 | [a],_=>⟨a,List.mem_cons_self,fun o ho=>by rw [List.mem_singleton.mp ho]; exact Int.le_refl _⟩
 | a :: b :: r,_=>by
   obtain ⟨m,hm,hl⟩:=zjg (ls:=b :: r) (by simp)
   by_cases h : a <= m
   ·exact ⟨a,List.mem_cons_self,fun o ho=>by
     rcases List.mem_cons.mp ho with rfl | ho
     ·exact Int.le_refl _
     ·exact Int.le_trans h (hl o ho)⟩
   ·exact ⟨m,List.mem_cons_of_mem _ hm,fun o ho=>by
     rcases List.mem_cons.mp ho with rfl | ho
     ·omega
     ·exact hl o ho⟩
def under (ls : List Int) (c : Int) : List Int:=ls.filter fun o=>!decide (o = c) && has c o
theorem zin {ls : List Int} (hne : ls ≠ []) (hb : ∀ c ∈ ls,0 <= c /\ c < 128) : ∃ c ∈ ls,under ls c = []:=by
 obtain ⟨m,hm,hl⟩:=zjg hne
 refine ⟨m,hm,?_⟩
 unfold under
 rw [List.filter_eq_nil_iff]
 intro o ho h
 rw [Bool.and_eq_true] at h
 have h1:=zgQ (hb m hm) (hb o ho) h.2
 have h2:=hl o ho
 have e : o = m:=by omega
 rw [decide_eq_true e] at h
 exact absurd h.1 (by decide)
theorem zkY {ls : List Int} {c o : Int} (h : under ls c = []) (ho : o ∈ ls) (hn : o ≠ c) : has c o = false:=by
 unfold under at h
 rw [List.filter_eq_nil_iff] at h
 have:=h o ho
 rw [decide_eq_false hn] at this
 cases q : has c o with
 | false=>rfl
 | true=>rw [q] at this; exact absurd rfl this
theorem zmK {rs : List Int} {c : Int} (h : Fit rs) (hc : ∀ r ∈ rs,has r c = false) : Fit (rs ++ [c]):=by
 intro j k x y hjk hx hy
 by_cases hk : k < rs.length
 ·rw [List.getElem?_append_left hk] at hy
  rw [List.getElem?_append_left (by omega)] at hx
  exact h j k x y hjk hx hy
 ·have hk2 : k = rs.length:=by
   have:=(List.getElem?_eq_some_iff.mp hy).1
   rw [List.length_append] at this
   have : k < rs.length + 1:=this
   omega
  subst hk2
  rw [List.getElem?_append_right (Nat.le_refl _),Nat.sub_self] at hy
  have e : c = y:=by simpa using hy
  subst e
  rw [List.getElem?_append_left hjk] at hx
  exact hc x (List.mem_of_getElem? hx)
theorem zkM {rs : List Int} (h : Fit rs) {i : Nat} {c : Int} (hi : rs[i]? = some c) : zaG rs c = some i:=zdV hi (zgd c) fun j c' hj hc'=>h j i c' c hj hc' hi
end Mt
namespace Mt
open PySem L2
def upto (n : Nat) : List Int:=(List.range n).map fun (k : Nat)=>(k : Int)
theorem zcQ (n : Nat) : upto (n + 1) = upto n ++ [(n : Int)]:=by
 unfold upto
 rw [List.range_succ,List.map_append]
 rfl
theorem zmw {n : Nat} {b : Int} (h : b ∈ upto n) : 0 <= b /\ b < (n : Int):=by
 unfold upto at h
 obtain ⟨k,hk,rfl⟩:=List.mem_map.mp h
 have:=List.mem_range.mp hk
 omega
theorem zgv (n : Nat) : (upto n).length = n:=by
 unfold upto
 rw [List.length_map,List.length_range]
def subs (own : Int) : List Int:=(upto (own.toNat + 1)).filter fun b=>has own b
def sets (cs : List Int) (own : Int) (wh : Nat) : List Int:=(subs own).filter fun b=>decide (zaG cs (own - b) = some wh)
theorem zga {own b : Int} (h0 : 0 <= own) (h : b ∈ subs own) : 0 <= b /\ b <= own:=by
 unfold subs at h
 have:=zmw (List.mem_filter.mp h).1
 omega
theorem zgB {own : Int} (h : own < 128) : (subs own).length <= 128:=by
 have h1 : (subs own).length <= (upto (own.toNat + 1)).length:=List.length_filter_le _ _
 rw [zgv] at h1
 omega
theorem zqL {o : Option Nat} {w : Nat} : decide (optV o = V.int (w : Int)) = decide (o = some w):=by
 rw [decide_eq_decide]
 cases o with
 | none=>exact ⟨fun h=>(by cases h),fun h=>(by cases h)⟩
 | some i =>
   constructor
   ·intro h
    have : (i : Int) = (w : Int):=V.int.inj h
    have : i = w:=by omega
    rw [this]
   ·intro h
    rw [Option.some.inj h]
    rfl
theorem zrO {p : Int -> Bool} {b : Int} (h : p b = true) : [b].filter p = [b]:=by rw [List.filter_cons,if_pos h,List.filter_nil]
theorem zpp {p : Int -> Bool} {b : Int} (h : ¬ p b = true) : [b].filter p = []:=by rw [List.filter_cons,if_neg h,List.filter_nil]
end Mt
namespace Mt
open PySem L2
def optI : Option Int -> V
 | none=>.non
 | some i=>.int i
def fewS (o : Option Int) (b : Int) : Option Int:=match o with
 | none=>some (pc b)
 | some m=>if pc b < m then some (pc b) else some m
def zfw (cs : List Int) (own : Int) (wh : Nat) : Option Int:=(sets cs own wh).foldl fewS none
theorem zlU (cs : List Int) (own : Int) (wh : Nat) : sets cs own wh = (upto (own.toNat + 1)).filter fun b=>has own b && decide (zaG cs (own - b) = some wh):=by
 unfold sets subs
 rw [List.filter_filter]
 congr 1
 funext b
 rw [Bool.and_comm]
theorem zoA {o : Option Int} {b m : Int} (h : fewS o b = some m) : m <= pc b:=by
 unfold fewS at h
 cases o with
 | none=>have:=Option.some.inj h; omega
 | some k =>
   dsimp only at h
   by_cases z : pc b < k
   ·rw [if_pos z] at h; have:=Option.some.inj h; omega
   ·rw [if_neg z] at h; have:=Option.some.inj h; omega
theorem zlF (o : Option Int) (b : Int) : ∃ m,fewS o b = some m /\ (∀ k,o = some k -> m <= k) /\ (m = pc b \/ o = some m):=by
 cases o with
 | none=>exact ⟨pc b,rfl,fun k h=>(nomatch h),.inl rfl⟩
 | some k =>
   by_cases z : pc b < k
   ·exact ⟨pc b,by show (if pc b < k then _ else _) = _; rw [if_pos z],fun j h=>by rw [<- Option.some.inj h]; omega,.inl rfl⟩
   ·exact ⟨k,by show (if pc b < k then _ else _) = _; rw [if_neg z],fun j h=>by rw [<- Option.some.inj h]; omega,.inr rfl⟩
theorem zjy : ∀ (bs : List Int) (o : Option Int),(bs = [] /\ bs.foldl fewS o = o) \/ ∃ m,bs.foldl fewS o = some m /\ (∀ b ∈ bs,m <= pc b) /\ (∀ k,o = some k -> m <= k) /\ ((∃ b ∈ bs,pc b = m) \/ o = some m)
 | [],o=>.inl ⟨rfl,rfl⟩
 | b :: bs,o=>by
   right
   rw [List.foldl_cons]
   obtain ⟨m1,h1,h2,h3⟩:=zlF o b
   have h4:=zoA h1
   rcases zjy bs (fewS o b) with ⟨e,h⟩ | ⟨m,h,g1,g2,g3⟩
   ·subst e
    refine ⟨m1,by rw [h,h1],fun x hx=>by rw [List.mem_singleton.mp hx]; exact h4,h2,?_⟩
    rcases h3 with h3 | h3
    ·exact .inl ⟨b,List.mem_cons_self,h3.symm⟩
    ·exact .inr h3
   ·have hm : m <= m1:=g2 m1 h1
    refine ⟨m,h,fun x hx=>?_,fun k hk=>Int.le_trans hm (h2 k hk),?_⟩
    ·rcases List.mem_cons.mp hx with rfl | hx
     ·omega
     ·exact g1 x hx
    ·rcases g3 with ⟨x,hx,e⟩ | e
     ·exact .inl ⟨x,List.mem_cons_of_mem _ hx,e⟩
     ·rw [h1] at e
      have e' : m1 = m:=Option.some.inj e
      rcases h3 with h3 | h3
      ·exact .inl ⟨b,List.mem_cons_self,by omega⟩
      ·exact .inr (by rw [h3,e'])
theorem zir {cs : List Int} {own : Int} {wh : Nat} (h : sets cs own wh = []) : zfw cs own wh = none:=by
 unfold zfw
 rw [h]
 rfl
theorem zeP {cs : List Int} {own : Int} {wh : Nat} (h : sets cs own wh ≠ []) : ∃ m,zfw cs own wh = some m /\ (∀ b ∈ sets cs own wh,m <= pc b) /\ ∃ b ∈ sets cs own wh,pc b = m:=by
 unfold zfw
 rcases zjy (sets cs own wh) none with ⟨e,_⟩ | ⟨m,h1,h2,_,h4⟩
 ·exact absurd e h
 ·refine ⟨m,h1,h2,?_⟩
  rcases h4 with h4 | h4
  ·exact h4
  ·cases h4
end Mt
namespace Mt
open PySem L2
theorem zow {x s0 s1 s2 s3 s4 s5 s6 : Int} (h : x = s0 + (2 * s1 + (4 * s2 + (8 * s3 + (16 * s4 + (32 * s5 + (64 * s6 + 0)))))))
 (h0 : 0 <= s0 /\ s0 <= 1) (h1 : 0 <= s1 /\ s1 <= 1) (h2 : 0 <= s2 /\ s2 <= 1) (h3 : 0 <= s3 /\ s3 <= 1) (h4 : 0 <= s4 /\ s4 <= 1) (h5 : 0 <= s5 /\ s5 <= 1) (h6 : 0 <= s6 /\ s6 <= 1) :
 x / 1 % 2 = s0 /\ x / 2 % 2 = s1 /\ x / 4 % 2 = s2 /\ x / 8 % 2 = s3 /\ x / 16 % 2 = s4 /\ x / 32 % 2 = s5 /\ x / 64 % 2 = s6 /\ 0 <= x /\ x < 128:=by
 have st : ∀ (n r y s t : Int),0 < n -> x = r + n * y -> 0 <= r -> r < n -> y = s + 2 * t -> 0 <= s -> s <= 1 -> x / n % 2 = s:=by
  intro n r y s t hn hx h1 h2 hy h3 h4
  have e : x / n = y:=by
   rw [hx,Int.add_mul_ediv_left _ _ (by omega),Int.ediv_eq_zero_of_lt h1 h2,Int.zero_add]
  rw [e,hy]
  omega
 refine ⟨st 1 0 x s0 (s1 + 2 * s2 + 4 * s3 + 8 * s4 + 16 * s5 + 32 * s6) (by omega) (by omega) (by omega) (by omega) (by omega) (by omega) (by omega),
  st 2 s0 (s1 + 2 * (s2 + 2 * s3 + 4 * s4 + 8 * s5 + 16 * s6)) s1 _ (by omega) (by omega) (by omega) (by omega) rfl (by omega) (by omega),
  st 4 (s0 + 2 * s1) (s2 + 2 * (s3 + 2 * s4 + 4 * s5 + 8 * s6)) s2 _ (by omega) (by omega) (by omega) (by omega) rfl (by omega) (by omega),
  st 8 (s0 + 2 * s1 + 4 * s2) (s3 + 2 * (s4 + 2 * s5 + 4 * s6)) s3 _ (by omega) (by omega) (by omega) (by omega) rfl (by omega) (by omega),
  st 16 (s0 + 2 * s1 + 4 * s2 + 8 * s3) (s4 + 2 * (s5 + 2 * s6)) s4 _ (by omega) (by omega) (by omega) (by omega) rfl (by omega) (by omega),
  st 32 (s0 + 2 * s1 + 4 * s2 + 8 * s3 + 16 * s4) (s5 + 2 * s6) s5 _ (by omega) (by omega) (by omega) (by omega) rfl (by omega) (by omega),
  st 64 (s0 + 2 * s1 + 4 * s2 + 8 * s3 + 16 * s4 + 32 * s5) (s6 + 2 * 0) s6 _ (by omega) (by omega) (by omega) (by omega) rfl (by omega) (by omega),by omega,by omega⟩
def zmc : List Int:=[1,2,4,8,16,32,64]
def zaU (a c : Int) : Int:=(zmc.filter fun b=>decide (a / b % 2 = 1) && decide (c / b % 2 = 0)).sum
theorem two (x : Int) : 0 <= x % 2 /\ x % 2 <= 1:=by omega
def sb (p : Bool) : Int:=if p then 1 else 0
structure Bits (x : Int) (f : Int -> Int) : Prop where
 at_ : ∀ b ∈ zmc,x / b % 2 = f b
 lo : 0 <= x
 hi : x < 128
theorem has_iff {t o : Int} : has t o = true ↔ ∀ b ∈ zmc,o / b % 2 <= t / b % 2:=by
 unfold has
 rw [decide_eq_true_iff]
 constructor
 ·intro h b hb
  simp only [zmc,List.mem_cons,List.not_mem_nil,or_false] at hb
  rcases hb with rfl | rfl | rfl | rfl | rfl | rfl | rfl
  ·exact h 0 (by decide)
  ·exact h 1 (by decide)
  ·exact h 2 (by decide)
  ·exact h 3 (by decide)
  ·exact h 4 (by decide)
  ·exact h 5 (by decide)
  ·exact h 6 (by decide)
 ·intro h k hk
  match k,hk with
  | 0,_=>exact h 1 (by decide)
  | 1,_=>exact h 2 (by decide)
  | 2,_=>exact h 4 (by decide)
  | 3,_=>exact h 8 (by decide)
  | 4,_=>exact h 16 (by decide)
  | 5,_=>exact h 32 (by decide)
  | 6,_=>exact h 64 (by decide)
theorem lin7 {a x a0 a1 a2 a3 a4 a5 a6 x0 x1 x2 x3 x4 x5 x6 : Int} (ha : a = a0 + 2 * a1 + 4 * a2 + 8 * a3 + 16 * a4 + 32 * a5 + 64 * a6) (hx : x = x0 + 2 * x1 + 4 * x2 + 8 * x3 + 16 * x4 + 32 * x5 + 64 * x6) :
 a - x = (a0 - x0) + (2 * (a1 - x1) + (4 * (a2 - x2) + (8 * (a3 - x3) + (16 * (a4 - x4) + (32 * (a5 - x5) + (64 * (a6 - x6) + 0)))))):=by omega
theorem dif2 {p q : Int} (hp : 0 <= p /\ p <= 1) (hq : 0 <= q /\ q <= 1) (h : q <= p) : 0 <= p - q /\ p - q <= 1:=by omega
theorem zov {a x : Int} (ha : 0 <= a /\ a < 128) (hx : 0 <= x /\ x < 128) (h : has a x = true) : Bits (a - x) (fun b=>a / b % 2 - x / b % 2):=by
 have q:=has_iff.mp h
 have q0:=q 1 (by decide)
 have q1:=q 2 (by decide)
 have q2:=q 4 (by decide)
 have q3:=q 8 (by decide)
 have q4:=q 16 (by decide)
 have q5:=q 32 (by decide)
 have q6:=q 64 (by decide)
 have ba:=zgk ha
 have bx:=zgk hx
 have e:=lin7 ba bx
 have bd : ∀ b : Int,x / b % 2 <= a / b % 2 -> 0 <= a / b % 2 - x / b % 2 /\ a / b % 2 - x / b % 2 <= 1:=fun b hb=>dif2 (two _) (two _) hb
 obtain ⟨r0,r1,r2,r3,r4,r5,r6,l,hh⟩:=zow e (bd 1 q0) (bd 2 q1) (bd 4 q2) (bd 8 q3) (bd 16 q4) (bd 32 q5) (bd 64 q6)
 refine ⟨fun b hb=>?_,l,hh⟩
 simp only [zmc,List.mem_cons,List.not_mem_nil,or_false] at hb
 rcases hb with rfl | rfl | rfl | rfl | rfl | rfl | rfl
 ·exact r0
 ·exact r1
 ·exact r2
 ·exact r3
 ·exact r4
 ·exact r5
 ·exact r6
theorem ziC {a x : Int} (ha : 0 <= a /\ a < 128) (hx : 0 <= x /\ x < 128) (h : has a x = true) : has a (a - x) = true /\ 0 <= a - x /\ a - x < 128:=by
 have B:=zov ha hx h
 refine ⟨has_iff.mpr fun b hb=>?_,B.lo,B.hi⟩
 rw [B.at_ b hb]
 have:=two (x / b)
 show a / b % 2 - x / b % 2 <= _
 omega
end Mt
namespace L2
open PySem PySem.Spec PyProof.Rows
section
variable {κ : Type} [DecidableEq κ]
def valV (kvs : List (κ × V)) (k : κ) : Option V:=(kvs.find? fun kv=>decide (kv.1 = k)).map (·.2)
def putK (kvs : List (κ × V)) (k : κ) (v : V) : List (κ × V) :=
 if (kvs.any fun kv=>decide (kv.1 = k)) = true then kvs.map (fun kv=>if kv.1 = k then (kv.1,v) else kv) else kvs ++ [(k,v)]
def zpT (kvs : List (κ × V)) (k : κ) : List (κ × V):=kvs.filter fun kv=>decide (kv.1 ≠ k)
theorem zbG {p : κ × V} {r : List (κ × V)} {k : κ} (e : p.1 = k) : valV (p :: r) k = some p.2:=by simp [valV,List.find?_cons,e]
theorem zbD {p : κ × V} {r : List (κ × V)} {k : κ} (e : ¬ p.1 = k) : valV (p :: r) k = valV r k:=by simp [valV,List.find?_cons,e]
theorem zdL (k : κ) : ∀ kvs : List (κ × V),(kvs.any fun kv=>decide (kv.1 = k)) = (valV kvs k).isSome
 | []=>rfl
 | p :: r=>by
   rw [List.any_cons]
   by_cases e : p.1 = k
   ·simp only [zbG e,decide_eq_true e,Bool.true_or,Option.isSome_some]
   ·rw [zbD e,decide_eq_false e,Bool.false_or]; exact zdL k r
theorem zji (k j : κ) (y : V) : ∀ kvs : List (κ × V),valV (kvs.map fun kv=>if kv.1 = k then (kv.1,y) else kv) j = (valV kvs j).map fun x=>if j = k then y else x
 | []=>rfl
 | p :: r=>by
   have ih:=zji k j y r
   rw [List.map_cons]
   by_cases h : p.1 = k
   ·rw [if_pos h]
    by_cases e : p.1 = j
    ·rw [zbG (p:=(p.1,y)) e,zbG e,Option.map_some,if_pos (e.symm.trans h)]
    ·rw [zbD (p:=(p.1,y)) e,zbD e,ih]
   ·rw [if_neg h]
    by_cases e : p.1 = j
    ·rw [zbG (p:=p) e,zbG e,Option.map_some,if_neg (fun z=>h (e.trans z))]
    ·rw [zbD (p:=p) e,zbD e,ih]
theorem zgI (k j : κ) (y : V) : ∀ kvs : List (κ × V),valV kvs k = none -> valV (kvs ++ [(k,y)]) j = if j = k then some y else valV kvs j
 | [],_=>by
   by_cases e : k = j
   ·rw [if_pos e.symm]; exact zbG (p:=(k,y)) e
   ·rw [if_neg (fun z=>e z.symm)]; exact zbD (p:=(k,y)) e
 | p :: r,hn=>by
   rw [List.cons_append]
   have hk : ¬ p.1 = k:=fun z=>by rw [zbG z] at hn; cases hn
   rw [zbD hk] at hn
   have ih:=zgI k j y r hn
   by_cases e : p.1 = j
   ·rw [zbG e,zbG e,if_neg (fun z=>hk (e.trans z))]
   ·rw [zbD e,zbD e,ih]
theorem zjD (kvs : List (κ × V)) (k j : κ) (y : V) : valV (putK kvs k y) j = if j = k then some y else valV kvs j:=by
 unfold putK
 by_cases a : (kvs.any fun kv=>decide (kv.1 = k)) = true
 ·rw [if_pos a,zji]
  rw [zdL] at a
  by_cases e : j = k
  ·obtain ⟨x,hx⟩:=Option.isSome_iff_exists.mp a
   rw [if_pos e,e,hx,Option.map_some,if_pos rfl]
  ·rw [if_neg e]
   cases valV kvs j with
   | none=>rfl
   | some x=>rw [Option.map_some,if_neg e]
 ·rw [if_neg a]
  refine zgI k j y kvs ?_
  rw [zdL] at a
  cases q : valV kvs k with
  | none=>rfl
  | some x=>rw [q] at a; exact (a rfl).elim
theorem zbL (kvs : List (κ × V)) (k : κ) (v : V) : (putK kvs k v).length <= kvs.length + 1:=by
 unfold putK
 split
 ·rw [List.length_map]; omega
 ·rw [List.length_append,List.length_cons,List.length_nil]; omega
theorem RelO.isSome_eq {o : Option V} {u : Option Value} (r : RelO o u) : o.isSome = u.isSome:=by
 cases o with
 | none=>cases u with
   | none=>rfl
   | some _=>exact (show False from r).elim
 | some _=>cases u with
   | none=>exact (show False from r).elim
   | some _=>rfl
theorem RelO.getD {o : Option V} {u : Option Value} {d : V} {d' : Value} (r : RelO o u) (rd : RelV d d') : RelV (o.getD d) (u.getD d'):=by
 cases o with
 | none=>cases u with
   | none=>exact rd
   | some _=>exact (show False from r).elim
 | some _=>cases u with
   | none=>exact (show False from r).elim
   | some _=>exact r
theorem KV.val {kvs : List (κ × V)} {vs : List (κ × Value)} (r : KV kvs vs) (k : κ) : RelO (valV kvs k) (valueAt vs k):=by
 unfold KV at r
 induction r with
 | nil=>exact True.intro
 | @cons p q ps qs h t ih =>
   obtain ⟨h1,h2⟩:=h
   by_cases e : p.1 = k
   ·have e' : q.1 = k:=h1.symm.trans e
    have b : valueAt (q :: qs) k = some q.2:=by simp [valueAt,List.find?_cons,e']
    rw [zbG e,b]; exact h2
   ·have e' : ¬ q.1 = k:=fun z=>e (h1.trans z)
    have b : valueAt (q :: qs) k = valueAt qs k:=by simp [valueAt,List.find?_cons,e']
    rw [zbD e,b]; exact ih
theorem KV.any {kvs : List (κ × V)} {vs : List (κ × Value)} (r : KV kvs vs) (k : κ) : (kvs.any fun kv=>decide (kv.1 = k)) = vs.any fun kv=>decide (kv.1 = k):=by
 unfold KV at r
 induction r with
 | nil=>rfl
 | cons h t ih=>rw [List.any_cons,List.any_cons,ih,h.1]
theorem KV.repl {kvs : List (κ × V)} {vs : List (κ × Value)} (r : KV kvs vs) (k : κ) {y : V} {u : Value} (ry : RelV y u) :
 KV (kvs.map fun kv=>if kv.1 = k then (kv.1,y) else kv) (vs.map fun kv=>if kv.1 = k then (kv.1,u) else kv):=by
 unfold KV at r ⊢
 induction r with
 | nil=>exact .nil
 | @cons p q ps qs h t ih =>
   rw [List.map_cons,List.map_cons]
   refine .cons ?_ ih
   obtain ⟨h1,h2⟩:=h
   by_cases e : p.1 = k
   ·rw [if_pos e,if_pos (h1.symm.trans e)]; exact ⟨h1,ry⟩
   ·rw [if_neg e,if_neg (fun z=>e (h1.trans z))]; exact ⟨h1,h2⟩
theorem KV.put {kvs : List (κ × V)} {vs : List (κ × Value)} (r : KV kvs vs) (k : κ) {y : V} {u : Value} (ry : RelV y u) : KV (putK kvs k y) (stored vs k u):=by
 unfold putK stored
 rw [r.any k]
 by_cases e : (vs.any fun kv=>decide (kv.1 = k)) = true
 ·rw [if_pos e,if_pos e]; exact r.repl k ry
 ·rw [if_neg e,if_neg e]; exact Paired.snoc r ⟨rfl,ry⟩
theorem KV.drop {kvs : List (κ × V)} {vs : List (κ × Value)} (r : KV kvs vs) (k : κ) : KV (zpT kvs k) (without vs k):=by
 unfold KV at r ⊢
 unfold zpT without
 induction r with
 | nil=>exact .nil
 | @cons p q ps qs h t ih =>
   obtain ⟨h1,h2⟩:=h
   rw [List.filter_cons,List.filter_cons]
   by_cases e : p.1 = k
   ·have a : ¬ decide (p.1 ≠ k) = true:=by simp [e]
    have b : ¬ decide (q.1 ≠ k) = true:=by simp [h1.symm.trans e]
    rw [if_neg a,if_neg b]; exact ih
   ·have e' : ¬ q.1 = k:=fun z=>e (h1.trans z)
    have a : decide (p.1 ≠ k) = true:=by simp [e]
    have b : decide (q.1 ≠ k) = true:=by simp [e']
    rw [if_pos a,if_pos b]; exact .cons ⟨h1,h2⟩ ih
theorem KV.keys {kvs : List (κ × V)} {vs : List (κ × Value)} (r : KV kvs vs) : kvs.map (·.1) = vs.map (·.1):=by
 unfold KV at r
 induction r with
 | nil=>rfl
 | cons h t ih=>rw [List.map_cons,List.map_cons,ih,h.1]
theorem KV.length {kvs : List (κ × V)} {vs : List (κ × Value)} (r : KV kvs vs) : kvs.length = vs.length:=Paired.length r
end
theorem zmy {P : Program} {w : World} {k : Key} {u : Value} (r : RelV (kV k) u) : (zaZ P w).is k u = true:=by
 cases k with
 | inl i=>obtain ⟨t,e⟩:=(show ∃ t,u = Value.int i t from r); subst e; exact ziD P w i t
 | inr x=>obtain ⟨t,e⟩:=(show ∃ t,u = Value.str x t from r); subst e; exact ziL P w x t
theorem zhm {P : Program} {w : World} : ∀ {ks : List Key} {us : List Value},Vals (ks.map kV) us -> ItemsAre (zaZ P w) ks us
 | [],_,r=>by rw [List.map_nil] at r; cases r; exact .nil
 | k :: ks,_,r=>by
   rw [List.map_cons] at r
   cases r with
   | cons h t=>exact .cons (zmy h) (zhm t)
abbrev KT (H : Hp) : List (List Key × V) -> List (List Key × Addr × Value) -> Prop:=Paired fun p q=>p.1 = q.1 /\ H q.2.1 = some (.tup (p.1.map kV)) /\ RelV p.2 q.2.2
theorem KT.val {H : Hp} {kvs : List (List Key × V)} {xs : List (List Key × Addr × Value)} (r : KT H kvs xs) (k : List Key) : RelO (valV kvs k) ((atKey xs k).map (·.2)):=by
 induction r with
 | nil=>exact True.intro
 | @cons p q ps qs h t ih =>
   obtain ⟨h1,_,h2⟩:=h
   by_cases e : p.1 = k
   ·have e' : q.1 = k:=h1.symm.trans e
    have b : atKey (q :: qs) k = some q.2:=by simp [atKey,List.find?_cons,e']
    rw [zbG e,b]; exact h2
   ·have e' : ¬ q.1 = k:=fun z=>e (h1.trans z)
    have b : atKey (q :: qs) k = atKey qs k:=by simp [atKey,List.find?_cons,e']
    rw [zbD e,b]; exact ih
theorem KT.repl {H : Hp} {kvs : List (List Key × V)} {xs : List (List Key × Addr × Value)} (r : KT H kvs xs) (k : List Key) {y : V} {u : Value} (ry : RelV y u) :
 KT H (kvs.map fun kv=>if kv.1 = k then (kv.1,y) else kv) (xs.map (putAt k u)):=by
 induction r with
 | nil=>exact .nil
 | @cons p q ps qs h t ih =>
   rw [List.map_cons,List.map_cons]
   refine .cons ?_ ih
   obtain ⟨h1,h2,h3⟩:=h
   unfold putAt
   by_cases e : p.1 = k
   ·rw [if_pos e,if_pos (h1.symm.trans e)]; exact ⟨h1,h2,ry⟩
   ·rw [if_neg e,if_neg (fun z=>e (h1.trans z))]; exact ⟨h1,h2,h3⟩
theorem KT.put {H : Hp} {kvs : List (List Key × V)} {xs : List (List Key × Addr × Value)} (r : KT H kvs xs) (k : List Key) {b : Addr} {y : V} {u : Value} (hb : H b = some (.tup (k.map kV))) (ry : RelV y u) :
 KT H (putK kvs k y) (storedH xs k b u):=by
 have e : (kvs.any fun kv=>decide (kv.1 = k)) = (atKey xs k).isSome:=by
  rw [zdL,(r.val k).isSome_eq,Option.isSome_map]
 unfold putK storedH
 rw [e]
 by_cases q : (atKey xs k).isSome = true
 ·rw [if_pos q,if_pos q]; exact r.repl k ry
 ·rw [if_neg q,if_neg q]; exact Paired.snoc r ⟨rfl,hb,ry⟩
theorem KT.keeps {H H' : Hp} {kvs : List (List Key × V)} {xs : List (List Key × Addr × Value)} (r : KT H kvs xs) (ht : ∀ b ys,H b = some (.tup ys) -> H' b = some (.tup ys)) : KT H' kvs xs :=
 Paired.mapP r fun _ _ z=>⟨z.1,ht _ _ z.2.1,z.2.2⟩
section
variable {P : Program} {w : World} {H : Hp} {h : Heap} {a : Addr}
theorem zqW {u : HO} (ok : HOk P w H h) (e : Rd H a u) : zbX P w H h a u:=e.ok ok
theorem zkD {kvs : List (Key × V)} (ok : HOk P w H h) (e : Rd H a (.dK kvs)) : kvs.length <= sizeLine /\ (a == sysModules) = false /\ ∃ vs,KV kvs vs /\ h.DictOf (zaZ P w) a vs :=
 show zbX P w H h a (.dK kvs) from zqW ok e
theorem zuX {kvs : List (Key × V)} (ok : HOk P w H h) (e : H a = some (.dK kvs)) : kvs.length <= sizeLine /\ (a == sysModules) = false /\ ∃ vs,KV kvs vs /\ h.DictOf (zaZ P w) a vs:=zkD ok (.inl e)
theorem zjx {ks : List Key} (ok : HOk P w H h) (e : H a = some (.tup (ks.map kV))) : (tupleKind (zaZ P w)).is h ks a:=by
 obtain ⟨_,its,r,o,h1,h2,n,h3⟩:=(show zbX P w H h a (.tup (ks.map kV)) from ok a _ e)
 exact ⟨o,its.toArray,n,h1,h2,h3,by simpa using zhm r⟩
theorem zle {kvs : List (List Key × V)} (ok : HOk P w H h) (e : Rd H a (.dT kvs)) : kvs.length <= sizeLine /\ (a == sysModules) = false /\
 ∃ xs,KT H kvs xs /\ h.DictOfH (tupleKind (zaZ P w)) a xs:=by
 obtain ⟨z,y,xs,r,o,es,ep,h1,h2,h3,h4,h5⟩:=(show zbX P w H h a (.dT kvs) from zqW ok e)
 refine ⟨z,y,xs,r,o,es,ep,h1,h2,h3,h4,fun x hx=>?_,h5⟩
 have all : ∀ {l : List (List Key × V)} {m : List (List Key × Addr × Value)},KT H l m -> ∀ x ∈ m,(tupleKind (zaZ P w)).is h x.1 x.2.1:=by
  intro l m q
  induction q with
  | nil=>intro x hx; exact nomatch hx
  | @cons p q ps qs hq t ih =>
    intro x hx
    rcases List.mem_cons.mp hx with e | hx
    ·subst e
     exact zjx ok (by rw [<- hq.1]; exact hq.2.1)
    ·exact ih x hx
 exact all r x hx
theorem zuj {kvs : List (List Key × V)} (ok : HOk P w H h) (e : H a = some (.dT kvs)) : kvs.length <= sizeLine /\ (a == sysModules) = false /\
 ∃ xs,KT H kvs xs /\ h.DictOfH (tupleKind (zaZ P w)) a xs:=zle ok (.inl e)
end
def DGet (H : Hp) (a : Addr) (y : V) (r : Option V) : Prop :=
 (∃ kvs k,Rd H a (.dK kvs) /\ y = kV k /\ r = valV kvs k) \/ ∃ kvs k b,Rd H a (.dT kvs) /\ y = .ref b /\ H b = some (.tup (k.map kV)) /\ r = valV kvs k
def DPut (H : Hp) (a : Addr) (y v : V) (H' : Hp) : Prop :=
 (∃ kvs k,H a = some (.dK kvs) /\ y = kV k /\ kvs.length < sizeLine /\ H' = upd H a (.dK (putK kvs k v))) \/
 ∃ kvs k b,H a = some (.dT kvs) /\ y = .ref b /\ H b = some (.tup (k.map kV)) /\ kvs.length < sizeLine /\ H' = upd H a (.dT (putK kvs k v))
theorem DGet.k {H : Hp} {a : Addr} {kvs : List (Key × V)} {k : Key} (e : H a = some (.dK kvs)) : DGet H a (kV k) (valV kvs k):=.inl ⟨kvs,k,.inl e,rfl,rfl⟩
theorem DGet.t {H : Hp} {a b : Addr} {kvs : List (List Key × V)} {k : List Key} (e : H a = some (.dT kvs)) (eb : H b = some (.tup (k.map kV))) : DGet H a (.ref b) (valV kvs k):=.inr ⟨kvs,k,b,.inl e,rfl,eb,rfl⟩
theorem DPut.k {H : Hp} {a : Addr} {kvs : List (Key × V)} {k : Key} {v : V} (e : H a = some (.dK kvs)) (hl : kvs.length < sizeLine) : DPut H a (kV k) v (upd H a (.dK (putK kvs k v))):=.inl ⟨kvs,k,e,rfl,hl,rfl⟩
theorem DPut.t {H : Hp} {a b : Addr} {kvs : List (List Key × V)} {k : List Key} {v : V} (e : H a = some (.dT kvs)) (eb : H b = some (.tup (k.map kV))) (hl : kvs.length < sizeLine) :
 DPut H a (.ref b) v (upd H a (.dT (putK kvs k v))):=.inr ⟨kvs,k,b,e,rfl,eb,hl,rfl⟩
section
variable {X : Cx} {pins : List (Addr × Obj)} {σ : St} {H : Hp} {s : Shared} {a : Addr} {y v : V} {u r : Value} {o : Option V} {A : Around} {E : Value -> Shared -> Prop}
theorem Inv.big (I : Inv X pins σ H s) : sysModules < s.heap.objs.size:=by
 have h : mainGlobals < s.heap.objs.size:=(I.mod.glob.keeps I.bk).lt
 exact Nat.lt_trans (by decide) h
theorem zly {Q : Value -> Shared -> Prop} (hu : A.units + 1 < cLine) (I : Inv X pins σ H s) (g : DGet H a y (some v)) (ry : RelV y u) (h : ∀ w' s',Inv X pins σ H s' -> RelV v w' -> Q w' s') :
 wpAny (model X.prog X.w) A (getItem (.ref a) u) Q E s:=by
 rcases g with ⟨kvs,k,e,ey,l⟩ | ⟨kvs,k,b,e,ey,eb,l⟩
 ·subst ey
  obtain ⟨z,hd,vs,rel,dd⟩:=zkD I.hok e
  obtain ⟨w',hw,rw'⟩:=RelO.some_of (v:=v) (o:=valueAt vs k) (by rw [l]; exact rel.val k)
  exact wpAny_getItem_of (zmy ry) dd.mapOf hw (h w' _ (I.tok _) rw')
 ·subst ey
  cases (show u = Value.ref b from ry)
  obtain ⟨z,hd,xs,rel,dd⟩:=zle I.hok e
  obtain ⟨w',hw,rw'⟩:=RelO.some_of (v:=v) (o:=(atKey xs k).map (·.2)) (by rw [l]; exact rel.val k)
  obtain ⟨p,hp,hp2⟩:=Option.map_eq_some_iff.mp hw
  refine wpAny_getItem_heap (tupleKind_room_in1 hu) (zjx I.hok eb) dd hp ?_
  rw [hp2]
  exact h w' _ (I.tok _) rw'
theorem zhX {h' : Heap} {t' : Nat} {ob : HO} (I : Inv X pins σ H s) (mu : Mut (H a)) (hs : Heap.SameBut a s.heap h') (he : ∃ q,h'.get? a = some q) (new : zbX X.prog X.w (upd H a ob) h' a ob) :
 Inv X pins σ (upd H a ob) { s with heap:=h',toks:=t' } :=
 I.write (x:=a) (e:=a) mu (.inl rfl) (fun b q hb z=>(hs.2 b hb).trans z) he new
theorem zqK {P : Program} {w : World} {H' : Hp} {h' : Heap} {kvs : List (Key × V)} {vs : List (Key × Value)} (z : kvs.length <= sizeLine) (hd : (a == sysModules) = false) (rel : KV kvs vs) (dd : h'.DictOf (zaZ P w) a vs) :
 zbX P w H' h' a (.dK kvs):=⟨z,hd,vs,rel,dd⟩
theorem zkP {H' : Hp} {Q : Unit -> Shared -> Prop} (hu : A.units + 1 < cLine) (I : Inv X pins σ H s) (g : DPut H a y v H') (ry : RelV y u) (rv : RelV v r) (h : ∀ s',Inv X pins σ H' s' -> Q () s') :
 wpAny (model X.prog X.w) A (setItem (.ref a) u r) Q E s:=by
 rcases g with ⟨kvs,k,e,ey,l,eH⟩ | ⟨kvs,k,b,e,ey,eb,l,eH⟩
 ·subst ey eH
  obtain ⟨z,hd,vs,rel,dd⟩:=zuX I.hok e
  have hz : vs.length <= sizeLine:=by rw [<- rel.length]; exact z
  have hl : (putK kvs k v).length <= sizeLine:=by have:=zbL kvs k v; omega
  refine wpAny_setItem_pairs (hsz:=hz) (zmy ry) dd fun h' dd' hs=>h _ ?_
  have he : ∃ q,h'.get? a = some q:=let ⟨q,_,_,hq,_⟩:=dd'; ⟨q,hq⟩
  exact zhX I (by rw [e]; exact True.intro) hs he (zqK hl hd (rel.put k rv) dd')
 ·subst ey eH
  cases (show u = Value.ref b from ry)
  obtain ⟨z,hd,xs,rel,dd⟩:=zuj I.hok e
  have hz : xs.length <= sizeLine:=by rw [<- Paired.length rel]; exact z
  have hl : (putK kvs k v).length <= sizeLine:=by have:=zbL kvs k v; omega
  refine wpAny_setItem_heap (hsz:=hz) (tupleKind_room_in1 hu) (zjx I.hok eb) dd fun h' dd' hs=>h _ ?_
  obtain ⟨q,es,ep,hq,h2,h3,h4,_,h5⟩:=dd'
  refine zhX I (by rw [e]; exact True.intro) hs ⟨q,hq⟩ ⟨hl,hd,_,(rel.put k eb rv).keeps fun c ys ec=>?_,q,es,ep,hq,h2,h3,h4,h5⟩
  rw [zai (zbZ ec e (fun z=>nomatch z))]
  exact ec
end
section
variable {X : Cx} {pins : List (Addr × Obj)} {σ : St} {H : Hp} {s : Shared} {a : Addr} {kvs : List (Key × V)} {k : Key} {u : Value} {A : Around} {E : Value -> Shared -> Prop}
end
def NoSl (i : Expr) : Prop:=∀ ov iv,subscripted i false ov iv = operate [ov,iv] (getItem ov iv)
theorem zoC {prog : Program} {w : World} {A : Around} {E : Value -> Shared -> Prop} {s : Shared} {env : Env} {value slice : Expr} {pos : Pos} {T id : String} {Q : Value -> Shared -> Prop}
 (hl : typeLookup (.type T) "__getitem__" = pure (some (.builtin id))) (hs : NoSl slice)
 (h : wpAny (model prog w) A (eval value env) (fun o s₁=>wpAny (model prog w) A (eval slice env) (fun i s₂=>s₂.TypeIs o T /\ wpAny (model prog w) A (getItem o i) Q E s₂) E s₁) E s) :
 wpAny (model prog w) A (eval (.Subscript value slice pos) env) Q E s:=by
 refine Subscript_ (wpAny_mono h (fun o s₁ h₁=>wpAny_mono h₁ (fun i s₂ h₂=>?_) fun _ _ x=>x) fun _ _ x=>x)
 obtain ⟨hT,h₂⟩:=h₂
 unfold subscriptTail
 refine wpAny_bind ?_
 rw [getitemInPython_of_ne hT.not_modules]
 refine wpAny_bind (wpAny_specialOf hT hl ?_)
 have fin : wpAny (model prog w) A (subscripted slice false o i) (fun r s₃=>wpAny (model prog w) A (letTemporaryGo value o r >>= fun _=>pure r) Q E s₃) E s₂:=by
  rw [hs o i]
  exact wpAny_operating (wpAny_mono h₂ (fun r s₃ h₃=>wpAny_bind (wpAny_letTemporaryGo (wpAny_pure h₃))) fun _ _ x=>x)
 first
  | exact wpAny_pure (wpAny_bind fin)
  | exact wpAny_bind (wpAny_pure (wpAny_bind fin))
  | exact wpAny_bind fin
theorem ziK {X : Cx} {pins : List (Addr × Obj)} {σ : St} {H : Hp} {s : Shared} {a : Addr} {y : V} {o : Option V} (I : Inv X pins σ H s) (g : DGet H a y o) : s.TypeIs (.ref a) "dict":=by
 rcases g with ⟨kvs,k,e,_,_⟩ | ⟨kvs,k,b,e,_,_,_⟩
 ·obtain ⟨_,_,vs,_,dd⟩:=zkD I.hok e
  exact dd.typeIs
 ·obtain ⟨_,_,xs,_,dd⟩:=zle I.hok e
  exact dd.typeIs
def zuY (td ty : TE) : TE:=fun σ H Q=>td σ H fun x H1=>ty σ H1 fun y H2=>∃ a v,x = .ref a /\ DGet H2 a y (some v) /\ Q v H2
def zvP (td ty tv : TE) : TS:=fun D σ H=>tv σ H fun v H1=>td σ H1 fun x H2=>ty σ H2 fun y H3=>∃ a H4,x = .ref a /\ DPut H3 a y v H4 /\ D.nx σ H4
section
variable {X : Cx} {o i e value : Expr} {pos pos' tpos : Pos} {td ty tv : TE}
theorem zlo (hu : X.A.units + 1 < cLine) (ho : PE X o td) (hi : PE X i ty) (hs : NoSl i) : PE X (.Subscript o i pos) (zuY td ty):=by
 intro pins s σ H Q I h
 refine zoC PySem.F.slot_dict_getitem.lookup hs (thn (ho pins s σ H _ I h) fun u s1 ⟨x,H1,I1,rx,q1⟩=>thn (hi pins s1 σ H1 _ I1 q1) fun iv s2 ⟨y,H2,I2,ry,a,v,ex,g,q2⟩=>?_)
 subst ex
 obtain rfl : u = Value.ref a:=rx
 exact ⟨ziK I2 g,zly hu I2 g ry fun w' s3 I3 rw'=>⟨v,H2,I3,rw',q2⟩⟩
theorem ziU (hu : X.A.units + 1 < cLine) (ho : PE X o td) (hi : PE X i ty) (hv : PE X value tv) (hs : swapsWith value (some (.Subscript o i pos')) pos.line X.env = pure false) :
 PS X (.Assign [.Subscript o i pos'] value pos) (zvP td ty tv):=by
 intro pins s σ H D I h
 refine wpAny_Assign_Subscript (thn (hv pins s σ H _ I h) fun r s1 ⟨v,H1,I1,rv,q1⟩=>thn (ho pins s1 σ H1 _ I1 q1) fun u s2 ⟨x,H2,I2,rx,q2⟩=>thn (hi pins s2 σ H2 _ I2 q2) fun iv s3 ⟨y,H3,I3,ry,a,H4,ex,g,q3⟩=>?_) hs
 subst ex
 obtain rfl : u = Value.ref a:=rx
 exact zkP hu I3 g ry rv fun s4 I4=>⟨σ,H4,I4,q3⟩
end
theorem zmG {P : Program} {w : World} {H : Hp} (h : Heap) (hb : sysModules < h.objs.size) : zbX P w H (h.push { cls:=.type "dict",data:=.dict #[] }) h.objs.size (.dK []) :=
 ⟨Nat.zero_le _,beq_eq_false_iff_ne.mpr (Ne.symm (Nat.ne_of_lt hb)),[],.nil,Heap.DictOf.new h⟩
theorem zmX {P : Program} {w : World} {H : Hp} (h : Heap) (hb : sysModules < h.objs.size) : zbX P w H (h.push { cls:=.type "dict",data:=.dict #[] }) h.objs.size (.dT []) :=
 ⟨Nat.zero_le _,beq_eq_false_iff_ne.mpr (Ne.symm (Nat.ne_of_lt hb)),[],.nil,_,#[],0,Heap.get?_push_size _ rfl,⟨rfl,rfl,rfl⟩,rfl,rfl,List.nodup_nil⟩
def zqy : TE:=fun _ H Q=>∀ p,H p = none -> Q (.ref p) (upd H p (.dK []))
def zqE : TE:=fun _ H Q=>∀ p,H p = none -> Q (.ref p) (upd H p (.dT []))
section
variable {X : Cx} {pos : Pos}
theorem zmF : PE X (.Dict [] [] pos) zqy:=fun pins s σ H Q I h =>
 wpAny_Dict_empty ⟨.ref s.heap.objs.size,_,I.laid (a:=s.heap.objs.size) (o:=.dK []) (t':=s.toks) (fun _ _ q=>Heap.get?_push_of_some _ q) (Nat.le_refl _) (zmG s.heap I.big),rfl,h _ (I.hok.fresh (Nat.le_refl _))⟩
theorem zmL : PE X (.Dict [] [] pos) zqE:=fun pins s σ H Q I h =>
 wpAny_Dict_empty ⟨.ref s.heap.objs.size,_,I.laid (a:=s.heap.objs.size) (o:=.dT []) (t':=s.toks) (fun _ _ q=>Heap.get?_push_of_some _ q) (Nat.le_refl _) (zmX s.heap I.big),rfl,h _ (I.hok.fresh (Nat.le_refl _))⟩
end
structure M1 (X : Cx) (o : Expr) (m : Str) (apos : Pos) (e : Expr) (cpos : Pos) : Prop where
 base : attributeBase o m X.env (eval o X.env) = eval o X.env
 few : ((backTo cpos (starEach [e] X.env)).all (fun x=>!x.1) && (backToKw cpos (keywordEach [] X.env)).all (fun x=>x.1.isSome)
  && decide (([e] : List Expr).length + ([] : List Keyword).length + (if ([] : List Keyword).isEmpty then 0 else 1) < 30)) = true
 line : (apos.endLine == cpos.line) = true
 trees : backTo cpos (starEach [e] X.env) = [(false,eval e X.env)]
structure M2 (X : Cx) (o : Expr) (m : Str) (apos : Pos) (e f : Expr) (cpos : Pos) : Prop where
 base : attributeBase o m X.env (eval o X.env) = eval o X.env
 few : ((backTo cpos (starEach [e,f] X.env)).all (fun x=>!x.1) && (backToKw cpos (keywordEach [] X.env)).all (fun x=>x.1.isSome)
  && decide (([e,f] : List Expr).length + ([] : List Keyword).length + (if ([] : List Keyword).isEmpty then 0 else 1) < 30)) = true
 line : (apos.endLine == cpos.line) = true
 trees : backTo cpos (starEach [e,f] X.env) = [(false,eval e X.env),(false,eval f X.env)]
def IsD (H : Hp) (a : Addr) : Prop:=(∃ kvs,Rd H a (.dK kvs)) \/ ∃ kvs,Rd H a (.dT kvs)
theorem zrJ {X : Cx} {pins : List (Addr × Obj)} {σ : St} {H : Hp} {s : Shared} {a : Addr} (I : Inv X pins σ H s) (d : IsD H a) :
 s.TypeIs (.ref a) "dict" /\ (∀ b,Value.ref a = .ref b -> ∃ ob,s.heap.get? b = some ob /\ ob.dict = none) /\ (a == sysModules) = false:=by
 rcases d with ⟨kvs,e⟩ | ⟨kvs,e⟩
 ·obtain ⟨_,hd,vs,_,dd⟩:=zkD I.hok e
  refine ⟨dd.typeIs,fun b q=>?_,hd⟩
  cases q
  obtain ⟨ob,_,_,h1,h2,_⟩:=dd
  exact ⟨ob,h1,h2.2.1⟩
 ·obtain ⟨_,hd,xs,_,dd⟩:=zle I.hok e
  refine ⟨dd.typeIs,fun b q=>?_,hd⟩
  cases q
  obtain ⟨ob,_,_,h1,h2,_⟩:=dd
  exact ⟨ob,h1,h2.2.1⟩
section
variable {X : Cx} {pins : List (Addr × Obj)} {σ : St} {H : Hp} {s : Shared} {a : Addr} {y d : V} {u r : Value} {o : Option V} {A : Around} {E : Value -> Shared -> Prop}
theorem zrh {Q : Value -> Shared -> Prop} (hu : A.units + 1 < cLine) (I : Inv X pins σ H s) (g : DGet H a y o) (ry : RelV y u) (rd : RelV d r) (h : ∀ w' s',Inv X pins σ H s' -> RelV (o.getD d) w' -> Q w' s') :
 wpAny (model X.prog X.w) A (call (.builtin "dict.get") [.ref a,u,r]) Q E s:=by
 rcases g with ⟨kvs,k,e,ey,l⟩ | ⟨kvs,k,b,e,ey,eb,l⟩
 ·subst ey
  obtain ⟨z,hd,vs,rel,dd⟩:=zkD I.hok e
  refine call_meetsIn PySem.F.slot_dict_get dd.typeIs PySem.F.entry_dict_get (PySem.F.args_dict_get_3 _ _ _) (meets_dict_get_default (zaZ X.prog X.w) a (zmy ry) hd r) ⟨_,dd.mapOf,h _ _ (I.tok _) ?_⟩
  rw [l]
  exact (rel.val k).getD rd
 ·subst ey
  cases (show u = Value.ref b from ry)
  obtain ⟨z,hd,xs,rel,dd⟩:=zle I.hok e
  refine call_meetsIn PySem.F.slot_dict_get dd.typeIs PySem.F.entry_dict_get (PySem.F.args_dict_get_3 _ _ _) (meetsH_dict_get_default (tupleKind (zaZ X.prog X.w)) a b hd r) ⟨tupleKind_room_in1 hu,k,xs,zjx I.hok eb,dd,h _ _ (I.tok _) ?_⟩
  rw [l]
  exact (rel.val k).getD rd
end
def zsg (td ty tx : TE) : TE:=fun σ H Q=>td σ H fun x H1=>∃ a,x = .ref a /\ IsD H1 a /\ ty σ H1 fun y H2=>tx σ H2 fun z H3=>∃ o,DGet H3 a y o /\ Q (o.getD z) H3
section
variable {X : Cx} {o e f : Expr} {apos cpos : Pos} {td ty tx : TE}
theorem zeq (hu : X.A.units + 1 < cLine) (ho : PE X o td) (he : PE X e ty) (hf : PE X f tx) (m : M2 X o "get" apos e f cpos) : PE X (.Call (.Attribute o "get" apos) [e,f] [] cpos) (zsg td ty tx):=by
 intro pins s σ H Q I h
 refine wpAny_Call_method m.base m.few m.line PySem.F.plainAttrs_dict PySem.F.slot_dict_get PySem.F.type_dict_get (thn (ho pins s σ H _ I h) fun u s1 ⟨x,H1,I1,rx,a,ex,d,q1⟩=>?_)
 subst ex
 obtain rfl : u = Value.ref a:=rx
 obtain ⟨t1,t2,_⟩:=zrJ I1 d
 refine ⟨t1,t2,?_⟩
 rw [m.trees]
 refine Calls.callWith_builtin rfl (Calls.evalArgs_plain (Calls.spliced_cons (thn (he pins s1 σ H1 _ I1 q1) fun iv s2 ⟨y,H2,I2,ry,q2⟩ =>
  Calls.spliced_cons (thn (hf pins s2 σ H2 _ I2 q2) fun fv s3 ⟨z,H3,I3,rz,ov,g,q3⟩=>Calls.spliced_nil ?_))))
 exact zrh hu I3 g ry rz fun w' s4 I4 rw'=>⟨_,H3,I4,rw',q3⟩
end
section
variable {X : Cx} {pins : List (Addr × Obj)} {σ : St} {H : Hp} {s : Shared} {a : Addr} {kvs : List (Key × V)} {A : Around} {E : Value -> Shared -> Prop}
end
section
variable {X : Cx} {pins : List (Addr × Obj)} {σ : St} {H : Hp} {s : Shared} {a : Addr} {y : V} {u : Value} {A : Around} {E : Value -> Shared -> Prop}
end
end L2
namespace L2
open PySem PySem.Spec PyProof.Rows
section
variable {X : Cx}
end
section
variable {κ : Type} [DecidableEq κ]
end
end L2
namespace Cs
open PySem L2
theorem zcO {rs : List Row} {x : Str} {k : Nat} (h : place rs x = some k) : ∃ r,rs[k]? = some r /\ r.s = x:=by
 unfold place at h
 obtain ⟨hi,h1,_⟩:=List.findIdx?_eq_some_iff_getElem.mp h
 exact ⟨rs[k],List.getElem?_eq_getElem hi,of_decide_eq_true h1⟩
end Cs
namespace L2
open PySem
end L2
namespace L2
open PySem PySem.Spec PyProof.Rows
def ziN (g : Nat -> Int) (n : Nat) (m : Int) : Prop:=(∃ i,i < n /\ g i = m) /\ ∀ i,i < n -> m <= g i
theorem ziN.one {g : Nat -> Int} : ziN g 1 (g 0):=⟨⟨0,by omega,rfl⟩,fun i hi=>by
 have e : i = 0:=by omega
 subst e
 exact Int.le_refl _⟩
theorem ziN.yes {g : Nat -> Int} {n : Nat} {m : Int} (h : ziN g n m) (hl : g n < m) : ziN g (n + 1) (g n):=⟨⟨n,by omega,rfl⟩,fun i hi=>by
 by_cases e : i = n
 ·subst e; exact Int.le_refl _
 ·have:=h.2 i (by omega)
  omega⟩
theorem ziN.no {g : Nat -> Int} {n : Nat} {m : Int} (h : ziN g n m) (hl : ¬ g n < m) : ziN g (n + 1) m:=⟨by obtain ⟨i,hi,e⟩:=h.1; exact ⟨i,by omega,e⟩,fun i hi=>by
 by_cases e : i = n
 ·subst e; omega
 ·exact h.2 i (by omega)⟩
def Held (g : Nat -> Int) (j : Nat) (arr : Array Value) : Prop:=(j = 0 /\ arr = #[]) \/ ∃ m t,arr = #[.int m t,.int m t] /\ ziN g j m
def Told (g : Nat -> Int) (n : Nat) (d v : Value) : Prop:=(n = 0 /\ v = d) \/ ∃ m t,v = .int m t /\ ziN g n m
def zlB (arr : Array Value) (c : Nat) : Obj:={ cls:=.type "list",dict:=none,data:=.seq arr c,slots:=#[] }
section
variable {P : Program} {w : World} {A : Around} {R : Result -> Shared -> Prop} {it : Addr} {fp wr : List Addr} {n : Nat} {Pr : Nat -> Value -> Prop} {St : Nat -> Heap -> Prop}
theorem zol (W : Walks P w A.in1 it fp wr n Pr St) (g : Nat -> Int) (B : Addr) (hB : B ∉ fp) (d : Value) (s : Shared) (arr : Array Value) (c : Nat) (st : St n s.heap) (ho : s.heap.get? B = some (zlB arr c)) (hh : Held g n arr)
 (q : ∀ v h' tk,Told g n d v -> (∀ b o,b ∉ wr -> b ≠ B -> s.heap.get? b = some o -> h'.get? b = some o) -> R (.ok (.ret v)) { s with heap:=h',toks:=tk }) :
 codeAny (model P w) A (.builtin "min.loop" ⟨[.ref it,.none,.ref B],[(Str.ofString "default",d)]⟩) R s:=by
 have hBw : B ∉ wr:=fun h=>hB (W.sub _ h)
 refine codeAny_builtin F.entry_min_loop ?_
 rw [Around.under_plainId F.plain_min_loop _]
 refine wpAny_bind (m:=seqItems? (.ref B)) (wpAny_seqItems ho rfl ?_)
 rcases hh with ⟨rfl,rfl⟩ | ⟨m,t,rfl,hl⟩
 ·refine wpAny_bind (m:=tryCatch (pyNext (.ref it)) _) (wpAny_tryCatch (W.done s _ _ st fun h' tk hk=>?_))
  refine wpAny_bind (m:=rule _) (wpAny_rule ?_)
  exact wpAny_pure (q d h' tk (.inl ⟨rfl,rfl⟩) fun b o hbw _ e=>hk b o hbw e)
 ·refine wpAny_bind (m:=tryCatch (pyNext (.ref it)) _) (wpAny_tryCatch (W.done s _ _ st fun h' tk hk=>?_))
  have hB':=hk B _ hBw ho
  refine wpAny_bind (m:=updateSeq B (fun _=>#[])) (wpAny_updateSeq hB' rfl (wpAny_bind (wpAny_letGo (wpAny_pure ?_))))
  exact q _ _ tk (.inr ⟨m,t,rfl,hl⟩) fun b o hbw hbS e=>(Heap.get?_update_other _ _ (Ne.symm hbS)).trans (hk b o hbw e)
theorem zmV (W : Walks P w A.in1 it fp wr n Pr St) (g : Nat -> Int) (hg : ∀ (i : Nat) (v : Value),Pr i v -> ∃ t,v = Value.int (g i) t) (B : Addr) (hB : B ∉ fp) (d : Value) :
 ∀ (k j : Nat) (s : Shared) (arr : Array Value) (c : Nat),n - j = k -> j <= n -> St j s.heap -> s.heap.get? B = some (zlB arr c) -> Held g j arr ->
 (∀ v h' tk,Told g n d v -> (∀ b o,b ∉ wr -> b ≠ B -> s.heap.get? b = some o -> h'.get? b = some o) -> R (.ok (.ret v)) { s with heap:=h',toks:=tk }) ->
 codeAny (model P w) A (.builtin "min.loop" ⟨[.ref it,.none,.ref B],[(Str.ofString "default",d)]⟩) R s:=by
 have hBw : B ∉ wr:=fun h=>hB (W.sub _ h)
 have hnm : (toString "min" ++ toString ".loop" : String) = "min.loop":=by decide
 have hcmp:=CmpOf.ints_lt (prog:=P) (w:=w) (A:=A.in1) g hg
 intro k
 induction k with
 | zero =>
   intro j s arr c hk hj st ho hh q
   have e : j = n:=by omega
   subst e
   exact zol W g B hB d s arr c st ho hh q
 | succ k ih =>
   intro j s arr c hk hj st ho hh q
   have hlt : j < n:=by omega
   refine codeAny_builtin F.entry_min_loop ?_
   rw [Around.under_plainId F.plain_min_loop _]
   refine wpAny_bind (m:=seqItems? (.ref B)) (wpAny_seqItems ho rfl ?_)
   rcases hh with ⟨rfl,rfl⟩ | ⟨m,t,rfl,hl⟩
   ·refine wpAny_bind (m:=tryCatch (pyNext (.ref it)) _) (wpAny_tryCatch (W.item 0 s _ _ hlt st fun v h' tk hP st' hk'=>?_))
    have hB':=hk' B _ hBw ho
    obtain ⟨t,rfl⟩:=hg 0 v hP
    refine wpAny_bind (m:=updateSeq B (fun _=>#[.int (g 0) t,.int (g 0) t])) (wpAny_updateSeq hB' rfl ?_)
    rw [hnm]
    refine wpAny_pure ⟨plainId_quiet F.plain_min_loop _,ih 1 _ _ _ (by omega) hlt (W.frame _ _ _ st' fun b hbf o e=>?_) (Heap.get?_update_self _ hB' rfl) (.inr ⟨g 0,t,rfl,.one⟩) fun v h2 tk2 ht2 hk2=>?_⟩
    ·exact (Heap.get?_update_other _ _ (fun h : B = b=>hB (h ▸ hbf))).trans e
    ·exact q v h2 tk2 ht2 fun b o hbw hbS e=>hk2 b o hbw hbS ((Heap.get?_update_other _ _ (Ne.symm hbS)).trans (hk' b o hbw e))
   ·refine wpAny_bind (m:=tryCatch (pyNext (.ref it)) _) (wpAny_tryCatch (W.item j s _ _ hlt st fun v h' tk hP st' hk'=>?_))
    have hB':=hk' B _ hBw ho
    obtain ⟨t2,rfl⟩:=hg j v hP
    have cmp : ∀ (s1 : Shared) (Q : Value -> Shared -> Prop) (E : Value -> Shared -> Prop),Q (.bool (decide (g j < m))) s1 -> wpAny (model P w) A.in1 (richCompare .Lt (.int (g j) t2) (.int m t)) Q E s1:=fun s1 Q E h =>
     richCompare_gives (op:=.Lt) (typeIs_int s1 _ t2) (typeIs_int s1 _ t) F.slot_int_lt F.entry_int_lt (F.args_int_lt_2 _ _) (gives_int_lt _ _ t2 t) (fun x=>nomatch x) h
    refine wpAny_bind (m:=tryCatch (holding [_,_] (richCompare .Lt (.int (g j) t2) (.int m t) >>= _)) _) (wpAny_tryCatch (wpAny_holding (wpAny_bind (cmp _ _ _ ?_))))
    refine wpAny_bind (wpAny_holding (wpAny_truthy_bool ?_))
    refine wpAny_bind (wpAny_letGo (wpAny_pure ?_))
    by_cases hb : g j < m
    ·rw [decide_eq_true hb]
     simp only [if_true]
     refine wpAny_bind (m:=updateSeq B (fun _=>#[.int (g j) t2,.int (g j) t2])) (wpAny_updateSeq hB' rfl (wpAny_bind (wpAny_letGo ?_)))
     rw [hnm]
     refine wpAny_pure ⟨plainId_quiet F.plain_min_loop _,ih (j + 1) _ _ _ (by omega) hlt (W.frame _ _ _ st' fun b hbf o e=>?_) (Heap.get?_update_self _ hB' rfl) (.inr ⟨g j,t2,rfl,hl.yes hb⟩) fun v h2 tk2 ht2 hk2=>?_⟩
     ·exact (Heap.get?_update_other _ _ (fun h : B = b=>hB (h ▸ hbf))).trans e
     ·exact q v h2 tk2 ht2 fun b o hbw hbS e=>hk2 b o hbw hbS ((Heap.get?_update_other _ _ (Ne.symm hbS)).trans (hk' b o hbw e))
    ·rw [decide_eq_false hb]
     simp only [Bool.false_eq_true,if_false]
     refine wpAny_bind (wpAny_letGo ?_)
     rw [hnm]
     refine wpAny_pure ⟨plainId_quiet F.plain_min_loop _,ih (j + 1) _ _ _ (by omega) hlt st' hB' (.inr ⟨m,t,rfl,hl.no hb⟩) fun v h2 tk2 ht2 hk2=>?_⟩
     exact q v h2 tk2 ht2 fun b o hbw hbS e=>hk2 b o hbw hbS (hk' b o hbw e)
end
section
variable {P : Program} {w : World} {A : Around} {E : Value -> Shared -> Prop} {s : Shared}
theorem zml (a d : Value) : argsOk "min" ⟨[a],[(Str.ofString "default",d)]⟩:=by unfold argsOk; kernel_rfl
theorem zkc {id : String} {f : Builtin} {xs : List Value} {kw : List (Str × Value)} {Q : Value -> Shared -> Prop} (k1 : builtinKind id = none) (k2 : plainId id = true) (k3 : entryFor table id = some f) (k4 : argsOk id ⟨xs,kw⟩)
 (k5 : wpAny (model P w) A.in1 (f ⟨xs,kw⟩) (fun z s1=>match z with
   | .done y=>(match (Except.ok y : Result) with | .ok (.ret v)=>Q v s1 | .ok _=>False | .error e=>E e s1)
   | .again y=>y.quiet = true /\ codeAny (model P w) A y (fun r s1=>match r with | .ok (.ret v)=>Q v s1 | .ok _=>False | .error e=>E e s1) s1) E s) :
 wpAny (model P w) A (call (.builtin id) xs kw) Q E s:=by
 refine wpAny_call (codeAny_call_builtin k2 k3 ?_)
 simp only [checkBuiltinCall,k1]
 cases e : Manifest.signature? id with
 | none=>exact wpAny_pure k5
 | some sg =>
   have k6 : Bind.checkArgs id sg ⟨xs,kw⟩ = pure ():=by simpa only [argsOk,e] using k4
   simp only [k6]
   exact wpAny_pure k5
theorem zmQ {l : Addr} {its : Array Value} {g : Nat -> Int} {d : Value} {Q : Value -> Shared -> Prop} (hh : A.handled = none) (hl : s.heap.IsList l its) (hg : ∀ (i : Nat) (v : Value),its[i]? = some v -> ∃ t,v = Value.int (g i) t)
 (q : ∀ v h' tk,Told g its.size d v -> (∀ b o,s.heap.get? b = some o -> h'.get? b = some o) -> Q v { s with heap:=h',toks:=tk }) :
 wpAny (model P w) A (call (.builtin "min") [.ref l] [(Str.ofString "default",d)]) Q E s:=by
 have hnm : (toString "min" ++ toString ".loop" : String) = "min.loop":=by decide
 have hlt : l < s.heap.objs.size:=by obtain ⟨_,e,_⟩:=hl; exact Heap.lt_size e
 refine zkc F.kind_min F.plain_min F.entry_min (zml _ _) ?_
 refine wpAny_bind (m:=Builtin.Builtins.bindParams "min" ["key","default"] 0 ⟨[],[(Str.ofString "default",d)]⟩) (wpAny_of_eq (show Builtin.Builtins.bindParams "min" ["key","default"] 0 ⟨[],[(Str.ofString "default",d)]⟩ = pure [none,some d] from rfl) ?_)
 refine wpAny_bind (wpAny_pure ?_)
 refine wpAny_bind (m:=pyIter (.ref l)) (wpAny_pyIter_list hl ?_)
 refine wpAny_bind (wpAny_newObj_type ?_)
 rw [hnm]
 have hsz : (s.heap.push { cls:=.type "list_iterator",data:=.fields #[.ref l,.int 0 0] }).objs.size = s.heap.objs.size + 1:=Heap.size_push ..
 have W:=Walks.list (prog:=P) (w:=w) (A:=A.in1) hh s.heap.objs.size l (Nat.ne_of_lt hlt) its
 refine wpAny_pure ⟨plainId_quiet F.plain_min_loop _,zmV W g hg _ ?_ d its.size 0 _ #[] 0 rfl (Nat.zero_le _) ?_ (Heap.get?_push_size _ rfl) (.inl ⟨rfl,rfl⟩) fun v h' tk ht hk=>?_⟩
 ·rw [hsz]
  intro hm
  rcases List.mem_cons.mp hm with e | hm
  ·exact Nat.succ_ne_self _ e
  ·rcases List.mem_cons.mp hm with e | hm
   ·exact absurd hlt (Nat.not_lt_of_le (Nat.le_trans (Nat.le_succ _) (Nat.le_of_eq e)))
   ·cases hm
 ·exact ⟨⟨_,Heap.get?_push_of_some _ (Heap.get?_push_size _ rfl),rfl,rfl⟩,(hl.push _).push _⟩
 ·refine q v h' tk ht fun b o e=>hk b o ?_ ?_ (Heap.get?_push_of_some _ (Heap.get?_push_of_some _ e))
  ·intro hm
   rcases List.mem_cons.mp hm with e1 | hm
   ·exact absurd (e1 ▸ Heap.lt_size e) (Nat.lt_irrefl _)
   ·cases hm
  ·rw [hsz]
   exact Nat.ne_of_lt (Nat.lt_succ_of_lt (Heap.lt_size e))
end
def zfb : List Int -> Option Int
 | []=>none
 | x :: r=>some (r.foldl (fun a b=>if b < a then b else a) x)
theorem zfC : ∀ (r : List Int) (x : Int),(r.foldl (fun a b=>if b < a then b else a) x = x \/ r.foldl (fun a b=>if b < a then b else a) x ∈ r) /\ r.foldl (fun a b=>if b < a then b else a) x <= x /\ ∀ y ∈ r,r.foldl (fun a b=>if b < a then b else a) x <= y
 | [],x=>⟨.inl rfl,Int.le_refl _,fun _ h=>nomatch h⟩
 | z :: r,x=>by
   obtain ⟨h1,h2,h3⟩:=zfC r (if z < x then z else x)
   rw [List.foldl_cons]
   have hle : (if z < x then z else x) <= x /\ (if z < x then z else x) <= z:=by split <;> constructor <;> omega
   have heq : (if z < x then z else x) = x \/ (if z < x then z else x) = z:=by split <;> simp
   refine ⟨?_,by omega,fun y hy=>?_⟩
   ·rcases h1 with h1 | h1
    ·rcases heq with e | e
     ·exact .inl (h1.trans e)
     ·exact .inr (by rw [h1,e]; exact List.mem_cons_self)
    ·exact .inr (List.mem_cons_of_mem _ h1)
   ·rcases List.mem_cons.mp hy with rfl | hy
    ·omega
    ·exact h3 y hy
theorem leastO_some {xs : List Int} {m : Int} : zfb xs = some m ↔ m ∈ xs /\ ∀ y ∈ xs,m <= y:=by
 cases xs with
 | nil=>exact ⟨fun h=>(by cases h),fun h=>absurd h.1 List.not_mem_nil⟩
 | cons x r =>
   obtain ⟨h1,h2,h3⟩:=zfC r x
   have hmem : r.foldl (fun a b=>if b < a then b else a) x ∈ x :: r:=by
    rcases h1 with e | e
    ·rw [e]; exact List.mem_cons_self
    ·exact List.mem_cons_of_mem _ e
   have hall : ∀ y ∈ x :: r,r.foldl (fun a b=>if b < a then b else a) x <= y:=fun y hy=>by
    rcases List.mem_cons.mp hy with rfl | hy
    ·exact h2
    ·exact h3 y hy
   constructor
   ·intro h
    cases h
    exact ⟨hmem,hall⟩
   ·intro ⟨h4,h5⟩
    have a1:=h5 _ hmem
    have a2:=hall _ h4
    show some _ = some m
    rw [show r.foldl (fun a b=>if b < a then b else a) x = m by omega]
section
variable {X : Cx}
def zoj (K : PySem.W.Frag) : V -> Hp -> VK -> Prop:=fun v H Q=>∃ a ns,v = .ref a /\ SqL K H a (ns.map V.int) /\ Q (Mt.optI (zfb ns)) H
theorem zlW : bootBuiltins "min" = some (.builtin "min"):=by decide +kernel
theorem znB {e : Expr} {te : TE} {p p2 pos kpos : Pos} {p0 : _} (hc : X.calm = true) (hg : Gl X "min") (hm : X.mg "min" = none) (he : PE X e te)
 (h1 : backTo pos (starEach [e] X.env) = (false,eval e X.env) :: backTo pos (starEach [] X.env):=by rfl) (h2 : (backTo pos (starEach [e] X.env)).any (·.1) = false:=by rfl) (h3 : starEach [e] X.env = (false,eval e X.env) :: starEach [] X.env:=by rfl) :
 PE X (.Call (.Name "min" p) [e] [⟨some "default",.Constant .none p0 p2,kpos⟩] pos) (fun σ H Q=>te σ H fun v H1=>zoj X.K v H1 Q):=by
 intro pins s σ H Q I h
 refine wpAny_Call_Name_kw (zhT I hg hm zlW ?_ (by decide) (by decide))
 refine callWith_kw (thn ((zaa he zad h3) pos pins s σ H (fun vs H1=>match vs with | [v]=>zoj X.K v H1 Q | _=>False) I h) fun us s1 ⟨vs,H1,I1,r1,q1⟩=>?_) h1 h2
 match vs,r1,q1 with
 | [],_,q1=>exact q1.elim
 | _ :: _ :: _,_,q1=>exact q1.elim
 | [v],r1,q1 =>
 obtain ⟨u,rfl,ru⟩:=zgi r1
 refine thn ((znF zgG ztf) pos pins s1 σ H1 (fun zs H2=>zs = [.non] /\ H2 = H1) I1 ⟨rfl,rfl⟩) fun ws s2 ⟨zs,H2,I2,rz,e1,e2⟩=>?_
 subst e1 e2
 obtain ⟨w',rfl,rw'⟩:=zgi rz
 cases rw'
 obtain ⟨a,ns,rfl,hq,q⟩:=q1
 cases ru
 obtain ⟨its,rv,pl,hz⟩:=I2.list hq
 have hi : IntsAre its ns:=zdW rv
 have hil:=hi.length
 have at_ : ∀ (i : Nat) (v : Value),its.toArray[i]? = some v -> ∃ t,v = Value.int (ns.getD i 0) t:=fun i v e=>by
  rw [List.getElem?_toArray] at e
  obtain ⟨x,h4,h5⟩:=zhv rv e
  obtain ⟨z,rfl,h6⟩:=zaR h4
  rw [List.getD_eq_getElem?_getD,h6]
  exact h5
 refine zmQ (g:=fun i=>ns.getD i 0) (d:=.none) (I2.ok.hd hc) pl.isList at_ fun v h' tk ht hk=>?_
 rw [List.size_toArray,hil] at ht
 have val : ∃ v',RelV v' v /\ v' = Mt.optI (zfb ns):=by
  rcases ht with ⟨e,rfl⟩ | ⟨m,t,rfl,⟨i,hi',e⟩,hl⟩
  ·have : ns = []:=List.length_eq_zero_iff.mp e
   subst this
   exact ⟨.non,rfl,rfl⟩
  ·refine ⟨.int m,⟨t,rfl⟩,?_⟩
   have : zfb ns = some m:=leastO_some.mpr ⟨?_,fun y hy=>?_⟩
   ·rw [this]; rfl
   ·have e : ns.getD i 0 = m:=e
    rw [<- e,List.getD_eq_getElem?_getD,List.getElem?_eq_getElem hi']
    exact List.getElem_mem hi'
   ·obtain ⟨j,hj,rfl⟩:=List.getElem_of_mem hy
    have this : m <= ns.getD j 0:=hl j hj
    rw [List.getD_eq_getElem?_getD,List.getElem?_eq_getElem hj] at this
    exact this
 obtain ⟨v',rv',rfl⟩:=val
 exact ⟨_,H2,I2.kept hk,rv',q⟩
end
section
variable {X : Cx} (K : PySem.W.Frag) (hK : X.K = K)
include hK
theorem zmD {e : Expr} {te : TE} {p p2 pos kpos : Pos} {p0 : _} (hc : X.calm = true) (hg : Gl X "min") (hm : X.mg "min" = none) (he : PE X e te)
 (h1 : backTo pos (starEach [e] X.env) = (false,eval e X.env) :: backTo pos (starEach [] X.env):=by rfl) (h2 : (backTo pos (starEach [e] X.env)).any (·.1) = false:=by rfl) (h3 : starEach [e] X.env = (false,eval e X.env) :: starEach [] X.env:=by rfl) :
 PE X (.Call (.Name "min" p) [e] [⟨some "default",.Constant .none p0 p2,kpos⟩] pos) (fun σ H Q=>te σ H fun v H1=>zoj K v H1 Q):=by subst hK; exact znB hc hg hm he h1 h2 h3
end
end L2
namespace L2
open PySem PySem.Spec PyProof.Rows
section
variable {X : Cx} {a b : Expr} {rest : List Expr} {pos : Pos} {ta tb : TE}
end
section
variable {X : Cx} {a b : Expr} {rest : List Expr} {pos : Pos} {ta tb : TE} (K : PySem.W.Frag) (hK : X.K = K)
include hK
end
end L2
namespace Ln
open PySem L2
def abc : List Nat:=[97,98,99,100,101,102]
theorem znU : ∀ c ∈ abc,PyData.canLay0 (.str (sg c)) = true:=by decide +kernel
theorem zrE : (abc.map sg).Nodup:=by decide +kernel
structure AbcCase (rs : List Cs.Row) : Prop where
 sg : (rs.map fun r=>r.s) = abc.map sg
 wd : ∀ r ∈ rs,1 <= r.w /\ r.w <= 100
theorem AbcCase.len {rs : List Cs.Row} (h : AbcCase rs) : rs.length = 6:=by
 have:=congrArg List.length h.sg
 rwa [List.length_map,List.length_map] at this
theorem AbcCase.nd {rs : List Cs.Row} (h : AbcCase rs) : (rs.map fun r=>r.s).Nodup:=by rw [h.sg]; exact zrE
theorem AbcCase.place {rs : List Cs.Row} (h : AbcCase rs) {c : Nat} (hc : c ∈ abc) : (Cs.place rs (L2.sg c)).isSome = true:=by
 have h1 : L2.sg c ∈ rs.map fun r=>r.s:=by rw [h.sg]; exact List.mem_map_of_mem hc
 obtain ⟨r,hr,e⟩:=List.mem_map.mp h1
 unfold Cs.place
 rw [List.findIdx?_isSome,List.any_eq_true]
 exact ⟨r,hr,decide_eq_true e⟩
theorem AbcCase.lay {rs : List Cs.Row} (h : AbcCase rs) : ∀ r ∈ rs,PyData.canLay0 (.str r.s) = true:=fun r hr=>by
 have h1 : r.s ∈ rs.map fun r=>r.s:=List.mem_map_of_mem (f:=fun r=>r.s) hr
 rw [h.sg] at h1
 obtain ⟨c,hc,e⟩:=List.mem_map.mp h1
 rw [<- e]
 exact znU c hc
end Ln
namespace L2
open PySem PySem.Spec PyProof.Rows
section
variable {X : Cx} {tg : Expr}
end
end L2
namespace L2
open PySem PySem.Spec PyProof.Rows
section
variable {X : Cx} {pins : List (Addr × Obj)} {σ : St} {H : Hp} {s : Shared} {h' : Heap}
end
section
variable {X : Cx} {es : List Expr} {k1 : Nat} {tp : Pos}
end
end L2
namespace L2
open PySem PySem.Spec PyProof.Rows
section
variable {X : Cx} (K : PySem.W.Frag) (hK : X.K = K)
include hK
end
end L2
namespace Lns
open PySem L2
def zop (no : Addr) (H : Hp) (v : V) (ws : List Str) : Prop:=∃ p,v = .ref p /\ p ≠ no /\ H p = some (.lst (ws.map V.str))
theorem zop.same {no : Addr} {H H' : Hp} {v : V} {ws : List Str} (h : zop no H v ws) (s : Same H H') : zop no H' v ws:=let ⟨p,e,n,h⟩:=h; ⟨p,e,n,s _ _ h⟩
theorem zib (x : Str) : x ++ ("" : Str) = x:=by
 show (⟨x.cps ++ (#[] : Array Nat)⟩ : Str) = x
 rw [Array.append_empty]
def zbc (ws : List Str) : Str:=Txt.join " " ws
def keyT : List (List Str) -> Str
 | []=>""
 | l :: r=>zbc l ++ "/" ++ keyT r
theorem znZ (l : List Str) : keyT [l] = zbc l ++ "/":=zib _
def Fit (ls : List (List Str)) : Prop:=ls.length <= 100 /\ ∀ l ∈ ls,l.length <= 100 /\ ∀ x ∈ l,x.length <= 100
theorem zhO {α : Type} (f : α -> Nat) (B : Nat) : ∀ l : List α,(∀ x ∈ l,f x <= B) -> (l.map f).sum <= l.length * B
 | [],_=>by simp
 | x :: l,h=>by
   have h1:=h x List.mem_cons_self
   have h2:=zhO f B l fun y hy=>h y (List.mem_cons_of_mem _ hy)
   rw [List.map_cons,List.sum_cons,List.length_cons,Nat.succ_mul]
   omega
theorem zlz {α : Type} (f : α -> Nat) (B N : Nat) (l : List α) (h : ∀ x ∈ l,f x <= B) (hn : l.length <= N) : (l.map f).sum <= N * B :=
 Nat.le_trans (zhO f B l h) (Nat.mul_le_mul_right _ hn)
end Lns
namespace L2
open PySem PySem.Spec PyProof.Rows PySem.Builtin PySem.Builtin.Str
section
variable {X : Cx}
end
end L2
namespace Lns
open PySem L2
theorem zkA {x y : Str} (h : x.cps.toList = y.cps.toList) : x = y:=Str.ext' (Array.toList_inj.mp h)
theorem zch (x y : Str) : (x ++ y).cps.toList = x.cps.toList ++ y.cps.toList:=by rw [Str.cps_append,Array.toList_append]
theorem zdO (ws : List Str) : zbc ws = Str.join ⟨#[32]⟩ ws:=by
 unfold zbc Txt.join
 rw [StrLaws.glued_eq_join]
 rfl
theorem zqU {α : Type} (ini : List α) (last : α) : atI (ini ++ [last]) (-1) = some last:=by
 have h : ixN (ini.length + 1) (-1) = some ini.length:=by
  unfold ixN
  rw [if_neg (by omega),if_pos (by omega)]
  congr 1
  omega
 unfold atI
 rw [List.length_append]
 show ((ixN (ini.length + 1) (-1)).bind _) = _
 rw [h]
 show (ini ++ [last])[ini.length]? = _
 rw [List.getElem?_append_right (Nat.le_refl _),Nat.sub_self]
 rfl
def zvv (H0 : Hp) (no : Addr) (H : Hp) (v : V) (ws : List Str) : Prop:=∃ p,v = .ref p /\ p ≠ no /\ H0 p = none /\ H p = some (.lst (ws.map V.str))
theorem zvv.n {H0 : Hp} {no : Addr} {H : Hp} {xs : List V} {ls : List (List Str)} (h : Paired (zvv H0 no H) xs ls) : Paired (zop no H) xs ls:=Paired.mapP h fun _ _ ⟨p,e,n,_,z⟩=>⟨p,e,n,z⟩
theorem zjA {α β : Type} {F : α -> β -> Prop} : ∀ {a c : List α} {b d : List β},Paired F a b -> Paired F c d -> Paired F (a ++ c) (b ++ d)
 | _,_,_,_,.nil,h=>h
 | _,_,_,_,.cons r t,h=>.cons r (zjA t h)
def zpW (H0 : Hp) (no : Addr) (B : Nat) (H : Hp) (v : V) : Prop:=∃ p ws,v = .ref p /\ p ≠ no /\ H0 p = none /\ H p = some (.lst ws) /\ ws.length <= B
theorem zpW.same {H0 : Hp} {no : Addr} {B : Nat} {H H' : Hp} {v : V} (h : zpW H0 no B H v) (s : Same H H') : zpW H0 no B H' v:=let ⟨p,ws,e,n,f,z,b⟩:=h; ⟨p,ws,e,n,f,s _ _ z,b⟩
def isS (c : Nat) : Bool:=!decide (c = 32) && !decide (c = 47)
def zbh (rs : List Cs.Row) : Bool -> List Nat -> Bool
 | _,[]=>true
 | p,c :: r=>if isS c = true then (Cs.place rs (sg c)).isSome && zbh rs true r else p && zbh rs false r
def zjo (rs : List Cs.Row) (ks : List Nat) (i : Nat) : Bool :=
 match ks[i]? with
 | none=>false
 | some c=>if isS c = true then (Cs.place rs (sg c)).isSome else decide (0 < i) && (match ks[i - 1]? with | none=>false | some d=>isS d)
theorem zks {rs : List Cs.Row} : ∀ {ks : List Nat} {p : Bool},zbh rs p ks = true -> ∀ (i : Nat) c,ks[i]? = some c ->
 if isS c = true then (Cs.place rs (sg c)).isSome = true else (i = 0 /\ p = true) \/ ∃ j d,i = j + 1 /\ ks[j]? = some d /\ isS d = true
 | [],_,_,i,c,h=>by simp at h
 | k :: r,p,ok,0,c,h=>by
   have h : k = c:=by simpa using h
   subst h
   unfold zbh at ok
   by_cases hs : isS k = true
   ·rw [if_pos hs] at ok ⊢
    exact (Bool.and_eq_true_iff.mp ok).1
   ·rw [if_neg hs] at ok ⊢
    exact .inl ⟨rfl,(Bool.and_eq_true_iff.mp ok).1⟩
 | k :: r,p,ok,i + 1,c,h=>by
   have h : r[i]? = some c:=by simpa using h
   unfold zbh at ok
   by_cases hs : isS k = true
   ·rw [if_pos hs] at ok
    have ih:=zks (Bool.and_eq_true_iff.mp ok).2 i c h
    by_cases hc : isS c = true
    ·rw [if_pos hc] at ih ⊢
     exact ih
    ·rw [if_neg hc] at ih ⊢
     rcases ih with ⟨rfl,_⟩ | ⟨j,d,rfl,hj,hd⟩
     ·exact .inr ⟨0,k,rfl,rfl,hs⟩
     ·exact .inr ⟨j + 1,d,rfl,by simpa using hj,hd⟩
   ·rw [if_neg hs] at ok
    have ih:=zks (Bool.and_eq_true_iff.mp ok).2 i c h
    by_cases hc : isS c = true
    ·rw [if_pos hc] at ih ⊢
     exact ih
    ·rw [if_neg hc] at ih ⊢
     rcases ih with ⟨_,e⟩ | ⟨j,d,rfl,hj,hd⟩
     ·cases e
     ·exact .inr ⟨j + 1,d,rfl,by simpa using hj,hd⟩
theorem zor {rs : List Cs.Row} {ks : List Nat} (ok : zbh rs false ks = true) {i : Nat} (hi : i < ks.length) : zjo rs ks i = true:=by
 have h:=zks ok i ks[i] (List.getElem?_eq_getElem hi)
 unfold zjo
 rw [List.getElem?_eq_getElem hi]
 show (if isS ks[i] = true then _ else _) = true
 by_cases hs : isS ks[i] = true
 ·rw [if_pos hs] at h ⊢
  exact h
 ·rw [if_neg hs] at h ⊢
  rcases h with ⟨_,e⟩ | ⟨j,d,rfl,hj,hd⟩
  ·cases e
  ·rw [show j + 1 - 1 = j from rfl,hj]
   show (decide (0 < j + 1) && isS d) = true
   rw [hd]
   simp
theorem zij {rs : List Cs.Row} : ∀ {w : List Nat} {p : Bool} (r : List Nat),(∀ c ∈ w,isS c = true /\ (Cs.place rs (sg c)).isSome = true) -> zbh rs p (w ++ r) = zbh rs (p || !w.isEmpty) r
 | [],p,r,_=>by simp
 | c :: w,p,r,h=>by
   obtain ⟨h1,h2⟩:=h c List.mem_cons_self
   have ih:=zij (w:=w) (p:=true) r fun d hd=>h d (List.mem_cons_of_mem _ hd)
   show zbh rs p (c :: (w ++ r)) = _
   conv=>lhs; unfold zbh
   rw [if_pos h1,h2,ih]
   simp
def zco (rs : List Cs.Row) (x : Str) : Prop:=1 <= x.length /\ ∀ c ∈ x.cps.toList,isS c = true /\ (Cs.place rs (sg c)).isSome = true
theorem zco.ne {rs : List Cs.Row} {x : Str} (h : zco rs x) : (!x.cps.toList.isEmpty) = true:=by
 have h1:=h.1
 unfold Str.length at h1
 cases e : x.cps.toList with
 | nil =>
   have : x.cps.toList.length = 0:=by rw [e]; rfl
   rw [Array.length_toList] at this
   omega
 | cons a b=>rfl
theorem zlu {rs : List Cs.Row} (r : List Nat) : ∀ {l : List Str} {p : Bool},l ≠ [] -> (∀ x ∈ l,zco rs x) -> zbh rs p ((zbc l).cps.toList ++ r) = zbh rs true r
 | [],_,h,_=>absurd rfl h
 | [x],p,_,h=>by
   have hx:=h x List.mem_cons_self
   rw [zdO]
   show zbh rs p (x.cps.toList ++ r) = _
   rw [zij r hx.2,hx.ne]
   simp
 | x :: y :: l,p,_,h=>by
   have hx:=h x List.mem_cons_self
   have ih:=zlu r (l:=y :: l) (p:=false) (by simp) fun z hz=>h z (List.mem_cons_of_mem _ hz)
   rw [zdO] at ih ⊢
   have e : (Str.join ⟨#[32]⟩ (x :: y :: l)).cps.toList ++ r = x.cps.toList ++ (32 :: ((Str.join ⟨#[32]⟩ (y :: l)).cps.toList ++ r)):=by
    show (x ++ ⟨#[32]⟩ ++ Str.join ⟨#[32]⟩ (y :: l)).cps.toList ++ r = _
    rw [zch,zch,List.append_assoc,List.append_assoc]
    rfl
   rw [e,zij _ hx.2,hx.ne]
   conv=>lhs; unfold zbh
   rw [if_neg (by decide),ih]
   simp
theorem ziA {rs : List Cs.Row} : ∀ {ls : List (List Str)} {p : Bool},(∀ l ∈ ls,l ≠ [] /\ ∀ x ∈ l,zco rs x) -> zbh rs p (keyT ls).cps.toList = true
 | [],_,_=>rfl
 | l :: r,p,h=>by
   obtain ⟨h1,h2⟩:=h l List.mem_cons_self
   have ih:=ziA (ls:=r) (p:=false) fun z hz=>h z (List.mem_cons_of_mem _ hz)
   have e : (keyT (l :: r)).cps.toList = (zbc l).cps.toList ++ (47 :: (keyT r).cps.toList):=by
    show (zbc l ++ "/" ++ keyT r).cps.toList = _
    rw [zch,zch,List.append_assoc]
    rfl
   rw [e,zlu _ h1 h2]
   unfold zbh
   rw [if_neg (by decide),ih]
   rfl
theorem zja : ∀ (ls : List (List Str)),ls ≠ [] -> ∃ a,(keyT ls).cps.toList = a ++ [47]
 | [],h=>absurd rfl h
 | [l],_=>⟨(zbc l).cps.toList,by
    rw [znZ,zch]
    rfl⟩
 | l :: l2 :: r,_=>by
   obtain ⟨a,e⟩:=zja (l2 :: r) (by simp)
   refine ⟨(zbc l ++ "/").cps.toList ++ a,?_⟩
   show (zbc l ++ "/" ++ keyT (l2 :: r)).cps.toList = _
   rw [zch,e,List.append_assoc]
end Lns
namespace L2
open PySem PySem.Spec PyProof.Rows
section
variable {M : Model} {A : Around} {E : Value -> Shared -> Prop} {s : Shared}
def zcB (S : List Addr) (ch : List Addr) (h h' : Heap) : Prop:=∀ b o,h.get? b = some o -> b ∉ ch -> (b ∉ S -> h'.get? b = some o) /\ ∃ sl,h'.get? b = some { o with slots:=sl }
theorem zcB.trans {S ch : List Addr} {h h1 h2 : Heap} (x : zcB S ch h h1) (y : zcB S ch h1 h2) : zcB S ch h h2:=fun b o e n=>by
 obtain ⟨x1,sl,x2⟩:=x b o e n
 refine ⟨fun hb=>?_,?_⟩
 ·exact (y b o (x1 hb) n).1 hb
 ·obtain ⟨_,sl2,y2⟩:=y b _ x2 n
  exact ⟨sl2,y2⟩
end
def Fr0 (X : Cx) (H : Hp) (b : Addr) : Prop:=X.s₀.heap.objs.size <= b /\ H b = none /\ ∀ p ∈ X.pn,p.1 ≠ b
section
variable {X : Cx} {pins : List (Addr × Obj)} {σ : St} {H : Hp} {s : Shared}
end
section
variable {X : Cx} {pins : List (Addr × Obj)} {σ : St} {H : Hp} {s : Shared}
theorem Inv.pnlt (I : Inv X pins σ H s) {b : Addr} (h : s.heap.objs.size <= b) : ∀ p ∈ X.pn,p.1 ≠ b:=fun p hp q=>by
 have:=Heap.lt_size (I.pin p (List.mem_append_left _ hp)).1
 exact absurd (Nat.lt_of_lt_of_le this h) (by rw [q]; exact Nat.lt_irrefl _)
theorem Inv.fr0 (I : Inv X pins σ H s) {b : Addr} (h : s.heap.objs.size <= b) : Fr0 X H b:=⟨Nat.le_trans I.sz h,I.hok.fresh h,I.pnlt h⟩
end
section
variable {X : Cx} {k : Nat} {f L : Addr} {fd : FuncData} {ps : List Str} {sp : Sp} {E : St -> XK} {x : Str} {p pos : Pos} {e : Expr} {es : List Expr} {t : TA}
end
section
variable {P : Program} {w : World} {K : PySem.W.Frag} {mg : Str -> Option Value} {base : Heap}
end
end L2
namespace L2
open PySem PySem.Spec PyProof.Rows PySem.W PySem.Calls
section
variable {prog : Program} {w : World} {A : Around} {R : Result -> Shared -> Prop} {h : Heap} {g : Array GenState} {d : Drawn} {t : Nat} {os : OsState}
variable {nm q : Str} {C N : Addr} {bs bm : List Value} {hdct : Bool} {sn : List Str} {sub : List Value} {ab : Bool} {col : Option Bool} {dd : Option Addr} {k0 k1 k2 k3 k5 : Option Value}
abbrev zrW (C : Addr) (t : Addr) (dx : Option Addr) : Obj:={ cls:=.ref C,dict:=dx,data:=.fields #[.ref t,.none,.none,.none,.bool false,.none] }
end
abbrev XO (e C : Addr) (dx : Option Addr) : HO:=.ext fun h=>∃ t,h.get? e = some (zrW C t dx)
section
variable {X : Cx} {CX : CXT} {k : Nat} {f C : Addr} {fd : FuncData} {ps : List Str} {sp : Sp} {x m : Str} {p pos apos : Pos} {e o : Expr} {es : List Expr} {ta : TE} {t : TA} {pins : List (Addr × Obj)} {σ : St} {H : Hp} {s : Shared}
end
end L2
namespace L2
open PySem PySem.Spec PyProof.Rows PySem.W PySem.Calls Builtin Builtin.ObjectAttr
section
variable {prog : Program} {w : World} {A : Around} {K : PySem.W.Frag} {C x : Addr} {s : Shared} {R : Result -> Shared -> Prop}
end
section
variable {X : Cx} {pins : List (Addr × Obj)} {σ : St} {H : Hp} {s : Shared}
end
end L2
namespace L2
open PySem PySem.Spec PyProof.Rows PySem.W PySem.Calls
section
variable {X : Cx} {pins : List (Addr × Obj)} {σ : St} {H : Hp} {s : Shared}
end
end L2
namespace L2
open PySem PySem.Spec PyProof.Rows PySem.W PySem.Calls
section
variable {M : Model} {A : Around} {E : Value -> Shared -> Prop} {env : Env}
variable {nm q : Str} {C N : Addr} {bs bm : List Value} {hdct : Bool} {sn : List Str} {sub : List Value} {ab : Bool} {col : Option Bool} {dd : Option Addr} {k0 k1 k2 k3 k5 : Option Value} {newId : String}
end
section
variable {prog : Program} {w : World} {A : Around} {E : Value -> Shared -> Prop} {h : Heap} {g : Array GenState} {d : Drawn} {t : Nat} {os : OsState}
variable {nm q : Str} {C N : Addr} {bs bm : List Value} {hdct : Bool} {sn : List Str} {sub : List Value} {ab : Bool} {col : Option Bool} {dd : Option Addr} {k0 k1 k2 k3 k5 : Option Value}
end
section
variable {X : Cx} {pins : List (Addr × Obj)} {σ : St} {H : Hp} {s : Shared}
end
end L2
namespace L2
open PySem PySem.Spec PyProof.Rows PySem.W PySem.Calls
section
variable {M : Model} {A : Around} {E : Value -> Shared -> Prop} {s : Shared}
end
section
variable {X : Cx} {pins : List (Addr × Obj)} {σ : St} {H : Hp} {s : Shared}
end
end L2
namespace L2
open PySem PySem.Spec PyProof.Rows PySem.W PySem.Calls
section
variable {M : Model} {A : Around} {E : Value -> Shared -> Prop} {h : Heap} {g : Array GenState} {d : Drawn} {t : Nat} {os : OsState}
end
section
variable {X : Cx} {σ : St} {H : Hp} {s : Shared}
end
end L2
namespace L2
open PySem PySem.Spec PyProof.Rows PySem.W PySem.Calls Builtin Builtin.ObjectAttr
section
variable {prog : Program} {w : World} {A : Around} {E : Value -> Shared -> Prop} {s : Shared} {K : PySem.W.Frag} {x C : Addr} {ox : Obj} {od : Option Obj} {name : Str}
end
end L2
namespace L2
open PySem PySem.Spec PyProof.Rows PySem.W PySem.Calls
section
variable {X : Cx} {pins : List (Addr × Obj)} {σ : St} {H : Hp} {s : Shared}
variable {K : PySem.W.Frag} (hK : X.K = K)
include hK
end
end L2
namespace L2
open PySem PySem.Spec PyProof.Rows
structure RoomH (k : Nat) (A : Around) : Prop where
 dp : A.depth + 3 * k + 5 < recursionLimit
 un : A.units + 16 * k + 200 < cLine
theorem Room.h {k : Nat} {A : Around} (r : Room k A) (e : Option Value) : RoomH k (A.mark e):=⟨r.dp,r.un⟩
theorem RoomH.units {k : Nat} {A : Around} (r : RoomH k A) : A.units + 64 < cLine:=by have:=r.un; omega
section
variable {P : Program} {w : World} {K : PySem.W.Frag} {mg : Str -> Option Value} {base : Heap}
end
section
variable {X : Cx} {k : Nat} {f : Addr} {fd : FuncData} {ps : List Str} {sp : Sp} {x : Str} {p pos : Pos} {e : Expr} {es : List Expr} {t : TA}
end
end L2
namespace L2
open PySem PySem.Spec PyProof.Rows PySem.W PySem.Calls
structure NsF (K : PySem.W.Frag) (N : Addr) (init : Option Addr) : Prop where
 lk : ∃ oc od es n sl,K.lookup N = some ⟨oc,od,.dict es n,sl⟩ /\ (es.all fun e=>match e.key with | .str _ _=>true | _=>false) = true
 ni : nsIn K N "__init__" = some (init.map Value.ref)
theorem NsF.ok {K : PySem.W.Frag} {N : Addr} {init : Option Addr} (h : NsF K N init) : nsOkIn K N = true:=by
 obtain ⟨oc,od,es,n,sl,e,q⟩:=h.lk
 unfold nsOkIn
 rw [e]
 exact q
def zlE (C : Addr) (fld : Str) : Sp:=fun vs H Q _=>∃ (e : Addr) (i : Int),vs = [.ref e,.int i] /\ H e = some (XO e C none) /\ i.natAbs <= 1000000000 /\ ∀ dx,H dx = none -> Q .non (upd (upd H dx (.xd [(fld,.int i)])) e (XO e C (some dx)))
section
variable {X : Cx} {k j : Nat} {f C : Addr} {fd : FuncData} {ps : List Str} {sp : Sp} {x qual fld : Str} {st : Stmt} {p np cpos pos : Pos} {e : Expr} {es : List Expr} {t : TA} {E : St -> XK} {L : Addr}
end
end L2
namespace L2
open PySem PySem.Spec PyProof.Rows
section
variable {X : Cx}
end
end L2
namespace Cs
open PySem L2
def SgOk (n : Nat) (x : Str) : Prop:=x.length <= n /\ ∀ c ∈ x.cps.toList,c < 128
end Cs
namespace Cs
open PySem L2
theorem SgOk.lay {n : Nat} {x : Str} (h : SgOk n x) : PyData.canLay0 (.str x) = true:=by
 show (x.cps.all fun c=>decide (c < 0x110000)) = true
 rw [<- Array.all_toList,List.all_eq_true]
 intro c hc
 have:=h.2 c hc
 exact decide_eq_true (by omega)
def zju (x : Str) : Bool:=match x.cps.toList with
 | [c]=>decide (c ∈ signs)
 | _=>false
def zny (r : Row) : Bool:=zju r.s && decide (1 <= r.w /\ r.w <= 99) && decide (0 <= r.t /\ r.t <= 127) && decide (0 <= r.n /\ r.n <= 40)
def zli (ah : List Row) (r : Row) : Bool:=zny r && (place ah r.s).isNone && !decide (r.t ∈ ah.map fun x=>x.t)
def zcW (rs : List Row) (k : Nat) : Prop:=∀ i r,i < k -> rs[i]? = some r -> zli (rs.take i) r = true
inductive Looks (rs : List Row) : Option Nat -> Prop
 | none0 : rs = [] -> Looks rs (some 0)
 | bad {k : Nat} {r : Row} : zcW rs k -> rs[k]? = some r -> zli (rs.take k) r = false -> Looks rs (some k)
 | good : rs ≠ [] -> zcW rs rs.length -> Looks rs none
theorem Looks.uniq {rs : List Row} {a b : Option Nat} (ha : Looks rs a) (hb : Looks rs b) : a = b:=by
 have lt : ∀ {k : Nat} {r : Row},rs[k]? = some r -> k < rs.length:=fun h=>(List.getElem?_eq_some_iff.mp h).1
 cases ha with
 | none0 e =>
   cases hb with
   | none0 _=>rfl
   | bad _ h _=>rw [e] at h; simp at h
   | good n _=>exact absurd e n
 | bad a1 h1 s1 =>
   cases hb with
   | none0 e=>rw [e] at h1; simp at h1
   | bad a2 h2 s2 =>
     rename_i k r k' r'
     rcases Nat.lt_trichotomy k k' with z | z | z
     ·have:=a2 k r z h1
      rw [s1] at this
      cases this
     ·rw [z]
     ·have:=a1 k' r' z h2
      rw [s2] at this
      cases this
   | good _ a2 =>
     have:=a2 _ _ (lt h1) h1
     rw [s1] at this
     cases this
 | good n a1 =>
   cases hb with
   | none0 e=>exact absurd e n
   | bad a2 h2 s2 =>
     have:=a1 _ _ (lt h2) h2
     rw [s2] at this
     cases this
   | good _ _=>rfl
theorem ziM {α : Type} [DecidableEq α] : ∀ {xs ys : List α},xs.Nodup -> (∀ x ∈ xs,x ∈ ys) -> xs.length <= ys.length
 | [],_,_,_=>Nat.zero_le _
 | x :: xs,ys,h,hs=>by
   obtain ⟨h1,h2⟩:=List.nodup_cons.mp h
   have hx:=hs x List.mem_cons_self
   have ih:=ziM (xs:=xs) (ys:=ys.erase x) h2 fun y hy=>by
    have hne : y ≠ x:=fun e=>h1 (by rw [<- e]; exact hy)
    exact (List.mem_erase_of_ne hne).mpr (hs y (List.mem_cons_of_mem _ hy))
   rw [List.length_erase_of_mem hx] at ih
   have:=List.length_pos_of_mem hx
   rw [List.length_cons]
   omega
theorem zkj {x : Str} (h : zju x = true) : x ∈ signs.map sg:=by
 unfold zju at h
 split at h
 ·rename_i c e
  refine List.mem_map.mpr ⟨c,of_decide_eq_true h,?_⟩
  exact (Lns.zkA e).symm
 ·cases h
theorem zki {ah : List Row} {r : Row} (h : zli ah r = true) : zju r.s = true /\ place ah r.s = none:=by
 unfold zli zny at h
 simp only [Bool.and_eq_true] at h
 exact ⟨h.1.1.1.1.1,Option.isNone_iff_eq_none.mp h.1.2⟩
theorem zfq {rs : List Row} {x : Str} (h : place rs x = none) : x ∉ rs.map fun r=>r.s:=by
 unfold place at h
 rw [List.findIdx?_eq_none_iff] at h
 intro hm
 obtain ⟨r,hr,e⟩:=List.mem_map.mp hm
 have:=h r hr
 rw [decide_eq_true e] at this
 cases this
theorem zcW.signs {rs : List Row} {k : Nat} (h : zcW rs k) (hk : k <= rs.length) : ((rs.take k).map fun r=>r.s).Nodup /\ ∀ x ∈ (rs.take k).map fun r=>r.s,x ∈ signs.map sg:=by
 induction k with
 | zero=>exact ⟨by simp,fun x hx=>by simp at hx⟩
 | succ k ih =>
   obtain ⟨i1,i2⟩:=ih (fun i r hi hr=>h i r (by omega) hr) (by omega)
   have hr : rs[k]? = some rs[k]:=List.getElem?_eq_getElem (by omega)
   obtain ⟨s1,s2⟩:=zki (h k _ (Nat.lt_succ_self k) hr)
   have e : rs.take (k + 1) = rs.take k ++ [rs[k]]:=by rw [List.take_add_one,hr]; rfl
   rw [e,List.map_append]
   constructor
   ·rw [List.nodup_append]
    refine ⟨i1,by simp,fun a ha b hb=>?_⟩
    have hb : b = rs[k].s:=List.mem_singleton.mp hb
    intro z
    rw [z,hb] at ha
    exact zfq s2 ha
   ·intro x hx
    rcases List.mem_append.mp hx with z | z
    ·exact i2 x z
    ·rw [List.mem_singleton.mp z]
     exact zkj s1
theorem zcW.few {rs : List Row} {k : Nat} (h : zcW rs k) (hk : k <= rs.length) : k <= 30:=by
 obtain ⟨h1,h2⟩:=h.signs hk
 have:=ziM h1 h2
 rw [List.length_map,List.length_take,Nat.min_eq_left hk,List.length_map] at this
 exact this
theorem zcW.succ {rs : List Row} {k : Nat} {r : Row} (h : zcW rs k) (hr : rs[k]? = some r) (hs : zli (rs.take k) r = true) : zcW rs (k + 1):=fun i r' hi hr'=>by
 by_cases e : i = k
 ·subst e
  rw [hr] at hr'
  cases hr'
  exact hs
 ·exact h i r' (by omega) hr'
end Cs
namespace L2
open PySem PySem.Spec PyProof.Rows
section
variable {X : Cx}
def rCount : V -> List V -> Hp -> VK -> Prop:=fun x vs H Q=>∃ (l : Addr) (ns : List Int) (z : Int),x = .ref l /\ vs = [.int z] /\ H l = some (.lst (ns.map V.int)) /\ Q (.int (ns.count z : Nat)) H
theorem zfu (z : Int) : ∀ (ns : List Int) (its : List Value),Vals (ns.map V.int) its -> its.countP (eqI z) = ns.count z
 | [],_,h=>by
   cases h
   rfl
 | n :: ns,_,h=>by
   cases h with
   | cons r t =>
     obtain ⟨tk,rfl⟩:=r
     rw [List.countP_cons,List.count_cons,zfu z ns _ t]
     rfl
theorem zfV : MtR X "list.count" rCount:=by
 intro pins s σ H x vs v us Q I rx rv h
 obtain ⟨l,ns,z,rfl,rfl,hH,q⟩:=h
 cases rx
 obtain ⟨u,rfl,ru⟩:=rv.one
 obtain ⟨t,rfl⟩:=ru
 obtain ⟨zz,its,n,r,hl,e⟩:=I.lstM hH
 rw [List.length_map] at hl
 have at_ : ∀ (m : Nat) (hm : m < its.length),∃ t',its[m] = .int (ns[m]'(by omega)) t':=fun m hm=>by
  obtain ⟨u,hu,ru⟩:=r.get (i:=m) (x:=.int (ns[m]'(by omega))) (by rw [List.getElem?_map,List.getElem?_eq_getElem (by omega)]; rfl)
  rw [List.getElem?_eq_getElem hm] at hu
  obtain ⟨t',rfl⟩:=ru
  exact ⟨t',Option.some.inj hu⟩
 refine call_meets F.slot_list_count ⟨_,e,rfl⟩ F.entry_list_count (F.args_list_count_2 _ _)
  (MeetsSeq.list_count l its.toArray n (.int z t) (eqI z) (fun y hy=>?_)) ⟨e,?_⟩
 ·obtain ⟨m,hm,ey⟩:=List.getElem_of_mem (show y ∈ its by simpa using hy)
  obtain ⟨t',e'⟩:=at_ m hm
  rw [<- ey,e']
  exact MeetsSeq.EqGives.int _ _ _ _
 ·rw [show its.toArray.toList = its from rfl,zfu z ns its r]
  exact ⟨.int (ns.count z : Nat),H,I.tok _,⟨_,rfl⟩,q⟩
end
end L2
namespace Lan
open PySem L2
abbrev Mx:=Str × Int
def zbS (H : Hp) (v : V) (m : Mx) : Prop:=∃ a,v = .ref a /\ H a = some (.tup [.str m.1,.int m.2])
theorem zdM {H H' : Hp} {xs : List V} {ms : List Mx} (h : Paired (zbS H) xs ms) (s : Same H H') : Paired (zbS H') xs ms:=Paired.mapP h fun _ _ ⟨a,e,z⟩=>⟨a,e,s _ _ z⟩
theorem zcr {H : Hp} {p : Addr} {ys : List V} {o : HO} {xs : List V} {ms : List Mx} (h : Paired (zbS H) xs ms) (hp : H p = some (.lst ys)) : Paired (zbS (upd H p o)) xs ms :=
 Paired.mapP h fun _ _ ⟨a,e,z⟩=>⟨a,e,by rw [zai (zbZ z hp (fun q=>by cases q))]; exact z⟩
theorem zgp {H : Hp} {v : V} {m : Mx} (h : zbS H v m) : ∀ n : Nat,Paired (zbS H) (List.replicate n v) (List.replicate n m)
 | 0=>.nil
 | n + 1=>.cons h (zgp h n)
theorem znp {α β : Type} {F : α -> β -> Prop} {a : α} {b : β} (h : F a b) : ∀ {xs : List α} {ys : List β} (i : Nat),Paired F xs ys -> Paired F (xs.set i a) (ys.set i b)
 | _,_,_,.nil=>.nil
 | _,_,0,.cons _ t=>.cons h t
 | _,_,i + 1,.cons r t=>.cons r (znp h i t)
def zcd (H0 : Hp) (no : Addr) (H : Hp) (v : V) (ms : List Mx) : Prop:=∃ p xs,v = .ref p /\ p ≠ no /\ H0 p = none /\ H p = some (.lst xs) /\ Paired (zbS H) xs ms
theorem zck {H0 H H' : Hp} {no : Addr} {zs : List V} {ls : List (List Mx)} (h : Paired (zcd H0 no H) zs ls) (s : Same H H') : Paired (zcd H0 no H') zs ls :=
 Paired.mapP h fun _ _ ⟨p,xs,e,n,f,z,m⟩=>⟨p,xs,e,n,f,s _ _ z,zdM m s⟩
theorem zjC {H0 H : Hp} {no : Addr} {ys : List V} {o : HO} {zs : List V} {ls : List (List Mx)} (h : Paired (zcd H0 no H) zs ls) (hn : H no = some (.lst ys)) : Paired (zcd H0 no (upd H no o)) zs ls :=
 Paired.mapP h fun _ _ ⟨p,xs,e,n,f,z,m⟩=>⟨p,xs,e,n,f,by rw [zai n]; exact z,zcr m hn⟩
theorem zeY {H0 H : Hp} {no : Addr} {zs : List V} {ls : List (List Mx)} {p : Addr} (h : Paired (zcd H0 no H) zs ls) (hp : H p = none) : V.ref p ∉ zs:=by
 intro hm
 obtain ⟨i,hi,e⟩:=List.getElem_of_mem hm
 obtain ⟨_,_,p2,xs,e2,_,_,z,_⟩:=Cs.zaX h (List.getElem?_eq_getElem hi)
 rw [e] at e2
 cases e2
 rw [hp] at z
 cases z
theorem lanes_set {H0 H : Hp} {no p : Addr} {ys ys' : List V} {ms' : List Mx} : ∀ {zs : List V} {ls : List (List Mx)} (k : Nat),Paired (zcd H0 no H) zs ls -> zs.Nodup -> zs[k]? = some (.ref p) -> H p = some (.lst ys) -> Paired (zbS (upd H p (.lst ys'))) ys' ms' -> p ≠ no -> H0 p = none ->
 Paired (zcd H0 no (upd H p (.lst ys'))) zs (ls.set k ms')
 | _,_,_,.nil,_,h,_,_,_,_=>by simp at h
 | _,_,0,.cons r t,hn,h,hp,hm,hno,hf=>by
   have h : _ = V.ref p:=Option.some.inj h
   subst h
   obtain ⟨hn1,_⟩:=List.nodup_cons.mp hn
   refine .cons ⟨p,ys',rfl,hno,hf,upd_same,hm⟩ (lanes_else t hn1 hp)
 | _,_,k + 1,.cons r t,hn,h,hp,hm,hno,hf=>by
   obtain ⟨hn1,hn2⟩:=List.nodup_cons.mp hn
   obtain ⟨q,xs,e,n,f,z,m⟩:=r
   subst e
   have hne : q ≠ p:=fun e=>by
    rw [e] at hn1
    exact hn1 (List.mem_of_getElem? h)
   exact .cons ⟨q,xs,rfl,n,f,by rw [zai hne]; exact z,zcr m hp⟩ (lanes_set k t hn2 h hp hm hno hf)
where
 lanes_else : ∀ {zs : List V} {ls : List (List Mx)},Paired (zcd H0 no H) zs ls -> V.ref p ∉ zs -> H p = some (.lst ys) -> Paired (zcd H0 no (upd H p (.lst ys'))) zs ls
  | _,_,.nil,_,_=>.nil
  | _,_,.cons ⟨q,xs,e,n,f,z,m⟩ t,hn,hp=>by
    subst e
    have hne : q ≠ p:=fun e=>hn (by rw [e]; exact List.mem_cons_self)
    exact .cons ⟨q,xs,rfl,n,f,by rw [zai hne]; exact z,zcr m hp⟩ (lanes_else t (fun h=>hn (List.mem_cons_of_mem _ h)) hp)
end Lan
namespace Unl
open PySem L2 PySem.Builtin.Str
def zfP (m : Nat) (x : Str) : Prop:=x.cps.toList.length <= m /\ ∀ c ∈ x.cps.toList,c < 0x110000
theorem zfP.len {m : Nat} {x : Str} (h : zfP m x) : x.length <= m:=by
 have hl : x.cps.toList.length = x.length:=Array.length_toList
 rw [<- hl]
 exact h.1
theorem zfP.lay {m : Nat} {x : Str} (h : zfP m x) : PyData.canLay0 (.str x) = true:=by
 show (x.cps.all fun c=>decide (c < 0x110000)) = true
 rw [<- Array.all_toList,List.all_eq_true]
 exact fun c hc=>decide_eq_true (h.2 c hc)
theorem zfP.take {m : Nat} {x y : Str} {n : Nat} (h : zfP m x) (e : y.cps.toList = x.cps.toList.take n) : zfP m y :=
 ⟨by rw [e]; exact Nat.le_trans (List.length_take_le' ..) h.1,fun c hc=>h.2 c (by rw [e] at hc; exact List.mem_of_mem_take hc)⟩
theorem zfP.drop {m : Nat} {x y : Str} {n : Nat} (h : zfP m x) (e : y.cps.toList = x.cps.toList.drop n) : zfP m y :=
 ⟨by rw [e,List.length_drop]; exact Nat.le_trans (Nat.sub_le ..) h.1,fun c hc=>h.2 c (by rw [e] at hc; exact List.mem_of_mem_drop hc)⟩
def cp : List Nat -> List Nat -> Nat
 | a :: x,b :: y=>if a = b then cp x y + 1 else 0
 | _,_=>0
def un : Nat -> List Str -> List Str -> Option (Nat × Nat)
 | k,t :: ts,s :: ss=>if t = s then un (k + 1) ts ss else some (k,cp t.cps.toList s.cps.toList)
 | _,[],[]=>none
 | k,_,_=>some (k,0)
def UnAt (H : Hp) (v : V) : Option (Nat × Nat) -> Prop
 | none=>v = .non
 | some (i,p)=>∃ t,v = .ref t /\ H t = some (.tup [.int i,.int p])
theorem UnAt.same {H H' : Hp} {v : V} {o : Option (Nat × Nat)} (h : UnAt H v o) (hs : Same H H') : UnAt H' v o:=by
 cases o with
 | none=>exact h
 | some ip =>
   obtain ⟨t,e,ht⟩:=h
   exact ⟨t,e,hs _ _ ht⟩
end Unl
namespace L2
open PySem PySem.Spec PyProof.Rows
structure FS (ns : List Str) (fs : List (Str × V)) (vals : List (Option V)) : Prop where
 lk : ∀ m,fs.lookup m = (ns.idxOf? m).bind fun i=>(vals[i]?).join
 ln : vals.length = ns.length
 nd : (fs.map (·.1)).Nodup
 sb : ∀ x ∈ fs.map (·.1),x ∈ ns
 fw : ns.length < 1000
theorem zjk (f : Str) (v : V) : ∀ fs : List (Str × V),(f ∈ fs.map (·.1) -> (putF f v fs).map (·.1) = fs.map (·.1)) /\ (f ∉ fs.map (·.1) -> (putF f v fs).map (·.1) = fs.map (·.1) ++ [f])
 | []=>⟨fun h=>by simp at h,fun _=>rfl⟩
 | (k,x) :: r=>by
   obtain ⟨i1,i2⟩:=zjk f v r
   rw [show putF f v ((k,x) :: r) = (if k = f then (k,v) :: r else (k,x) :: putF f v r) from rfl]
   by_cases hk : k = f
   ·rw [if_pos hk]
    exact ⟨fun _=>rfl,fun h=>absurd (by rw [<- hk]; simp) h⟩
   ·rw [if_neg hk]
    refine ⟨fun h=>?_,fun h=>?_⟩
    ·rw [List.map_cons] at h
     rcases List.mem_cons.mp h with h | h
     ·exact absurd h.symm hk
     ·rw [List.map_cons,i1 h,List.map_cons]
    ·rw [List.map_cons,i2 fun z=>h (by rw [List.map_cons]; exact List.mem_cons_of_mem _ z),List.map_cons]
     rfl
theorem FS.nil {ns : List Str} (h : ns.length < 1000) : FS ns [] (List.replicate ns.length none):=by
 refine ⟨fun m=>?_,List.length_replicate,List.nodup_nil,(fun x hx=>nomatch hx),h⟩
 cases e : ns.idxOf? m with
 | none=>rfl
 | some i =>
   show none = ((List.replicate ns.length (none : Option V))[i]?).join
   rw [List.getElem?_replicate]
   split <;> rfl
theorem FS.len {ns : List Str} {fs : List (Str × V)} {vals : List (Option V)} (h : FS ns fs vals) : fs.length < 1000:=by
 have h1:=Cs.ziM h.nd h.sb
 have h2:=h.fw
 rw [List.length_map] at h1
 omega
theorem FS.get {ns : List Str} {fs : List (Str × V)} {vals : List (Option V)} {m : Str} {i : Nat} {v : V} (h : FS ns fs vals) (hi : ns.idxOf? m = some i) (hv : vals[i]? = some (some v)) : fs.lookup m = some v:=by
 rw [h.lk m,hi]
 show (vals[i]?).join = _
 rw [hv]
 rfl
theorem FS.no {ns : List Str} {fs : List (Str × V)} {vals : List (Option V)} {m : Str} (h : FS ns fs vals) (hi : ns.idxOf? m = none) : fs.lookup m = none:=by
 rw [h.lk m,hi]
 rfl
theorem znu {ns : List Str} {f : Str} {i : Nat} (h : ns.idxOf? f = some i) : ns[i]? = some f:=by
 unfold List.idxOf? at h
 obtain ⟨hi,e,_⟩:=List.findIdx?_eq_some_iff_getElem.mp h
 rw [List.getElem?_eq_getElem hi,beq_iff_eq.mp e]
theorem FS.put {ns : List Str} {fs : List (Str × V)} {vals : List (Option V)} {f : Str} {i : Nat} (y : V) (h : FS ns fs vals) (hi : ns.idxOf? f = some i) : FS ns (putF f y fs) (vals.set i (some y)):=by
 have hat:=znu hi
 have hil : i < vals.length:=by
  have:=(List.getElem?_eq_some_iff.mp hat).1
  rw [h.ln]
  exact this
 obtain ⟨k1,k2⟩:=zjk f y fs
 refine ⟨fun m=>?_,by rw [List.length_set]; exact h.ln,?_,?_,h.fw⟩
 ·rw [zdv]
  by_cases e : m = f
  ·rw [if_pos e,e,hi]
   show _ = ((vals.set i (some y))[i]?).join
   rw [List.getElem?_set,if_pos rfl,if_pos hil]
   rfl
  ·rw [if_neg e,h.lk m]
   cases ej : ns.idxOf? m with
   | none=>rfl
   | some j =>
     have hj:=znu ej
     have hne : i ≠ j:=fun z=>by
      rw [z,hj] at hat
      exact e (Option.some.inj hat)
     show (vals[j]?).join = ((vals.set i (some y))[j]?).join
     rw [List.getElem?_set,if_neg hne]
 ·by_cases e : f ∈ fs.map (·.1)
  ·rw [k1 e]
   exact h.nd
  ·rw [k2 e,List.nodup_append]
   refine ⟨h.nd,by simp,fun a ha b hb=>?_⟩
   rw [List.mem_singleton.mp hb]
   exact fun z=>e (z ▸ ha)
 ·intro x hx
  by_cases e : f ∈ fs.map (·.1)
  ·rw [k1 e] at hx
   exact h.sb x hx
  ·rw [k2 e] at hx
   rcases List.mem_append.mp hx with hx | hx
   ·exact h.sb x hx
   ·rw [List.mem_singleton.mp hx]
    exact List.mem_of_getElem? hat
def zcy (C : Addr) (ns : List Str) (H : Hp) (a : Addr) (vals : List (Option V)) : Prop:=∃ dx fs,H a = some (.ins C dx fs) /\ FS ns fs vals
theorem zcy.same {C : Addr} {ns : List Str} {H H' : Hp} {a : Addr} {vals : List (Option V)} (h : zcy C ns H a vals) (s : Same H H') : zcy C ns H' a vals:=let ⟨dx,fs,e,f⟩:=h; ⟨dx,fs,s _ _ e,f⟩
def ztO (C : Addr) (ns : List Str) (ta : TE) (i : Nat) : TE:=fun σ H Q=>ta σ H fun x H1=>∃ a vals v,x = .ref a /\ zcy C ns H1 a vals /\ vals[i]? = some (some v) /\ Q v H1
def zvC (C : Addr) (ns : List Str) (ta tv : TE) (i : Nat) : TS:=fun D σ H=>tv σ H fun y H1=>ta σ H1 fun x H2=>∃ a vals,x = .ref a /\ zcy C ns H2 a vals /\
 ∀ H3,zcy C ns H3 a (vals.set i (some y)) -> (∀ b,b ≠ a -> H3 b = H2 b) -> D.nx σ H3
def znj (C : Addr) (ns : List Str) (sp : Sp) (E : XK) (ta : TE) (t : TA) : TE:=fun σ H Q=>ta σ H fun x H1=>∃ a vals,x = .ref a /\ zcy C ns H1 a vals /\ t σ H1 fun vs H2=>sp (x :: vs) H2 Q E
structure DM (K : PySem.W.Frag) (x qual : Str) (st : Stmt) (ps : List Str) (C f : Addr) (fd : FuncData) : Prop where
 fn : Fun K x qual st f fd
 ba : ∀ us : List Value,us.length = ps.length -> bindArgs fd ⟨us,[]⟩ = pure (ps.zip us)
 me : Meth K C x f
section
variable {X : Cx} {K : PySem.W.Frag} (hK : X.K = K) {ns : List Str} {C : Addr} {o e value : Expr} {es : List Expr} {f : Str} {i : Nat} {pos pos' apos : Pos} {ta tv : TE} {t : TA} {k j : Nat} {g : Addr} {fd : FuncData} {ps : List Str} {sp : Sp} {m qual : Str} {st : Stmt}
include hK
theorem pfld (c : Cls K C) (n : zbQ K C f) (hi : ns.idxOf? f = some i) (he : PE X o ta) (hb : attributeBase o f X.env (eval o X.env) = eval o X.env:=by rfl) : PE X (.Attribute o f pos) (ztO C ns ta i):=by
 subst hK
 intro pins s σ H Q I h
 refine zoe hb (thn (he pins s σ H _ I h) fun u s1 ⟨x,H1,I1,rx,a,vals,v,ex,⟨dx,fs,ea,F⟩,hv,q⟩=>?_)
 subst ex
 obtain rfl : u = Value.ref a:=rx
 exact zkn I1 ea c n (F.get hi hv) fun u' s2 I2 ru=>⟨v,H1,I2,ru,q⟩
theorem zbm (c : Cls K C) (n : zbQ K C f) (hi : ns.idxOf? f = some i) (ha : PE X o ta) (hv : PE X value tv) (hs : swapsWith value (some (.Attribute o f pos')) pos.line X.env = pure false:=by rfl) : PS X (.Assign [.Attribute o f pos'] value pos) (zvC C ns ta tv i):=by
 subst hK
 intro pins s σ H D I h
 refine plainObj_wpAny_Assign_Attribute (thn (hv pins s σ H _ I h) fun u s1 ⟨y,H1,I1,ry,q⟩=>thn (ha pins s1 σ H1 _ I1 q) fun ov s2 ⟨x,H2,I2,rx,a,vals,ex,⟨dx,fs,ea,F⟩,q2⟩=>?_) hs
 subst ex
 obtain rfl : ov = Value.ref a:=rx
 exact zjW I2 ea c n F.len ry fun s3 I3=>⟨σ,_,I3,q2 _ ⟨dx,_,upd_same,F.put y hi⟩ fun b hb=>zai hb⟩
theorem zpD (c : Cls K C) (d : DM K m qual st ps C g fd) (F : FnOk X.prog X.w X.K X.mg X.base CX0 j g fd ps sp) (hr : Room k X.A) (hi : ns.idxOf? m = none) (he : PE X o ta) (ha : PA X (e :: es) t) (hjk : j <= k:=by decide)
 (hst : starEach (e :: es) X.env = (false,eval e X.env) :: starEach es X.env:=by rfl) (hpl : (backTo pos (starEach es X.env)).any (·.1) = false:=by rfl) {pl : Sem Bool}
 (ht : eval (.Call (.Attribute o m apos) (e :: es) [] pos) X.env = (do
   let ov <- eval o X.env
   standAt apos.atName
   let (f,first) <- holding [ov] (getMethod ov m pl)
   callWith pos f first (backTo pos (starEach (e :: es) X.env)) (backToKw pos (keywordEach [] X.env))):=by rfl) :
 PE X (.Call (.Attribute o m apos) (e :: es) [] pos) (znj C ns sp E0 ta t):=by
 subst hK
 intro pins s σ H Q I h
 refine PySem.W.methodCall_KW (pl:=pl) (thn (he pins s σ H _ I h) fun u s1 ⟨x,H1,I1,rx,a,vals,ex,⟨dx,fs,ea,FF⟩,q⟩=>?_) ht
 subst ex
 obtain rfl : u = Value.ref a:=rx
 refine zfA I1 ea c d.me (FF.no hi) ?_
 refine PySem.W.callWith_K (first:=[.ref a]) (h₀:=X.base) I.ok.mod.kin d.me.kp (thn (ha pos pins s1 σ H1 _ I1 q) fun us s2 ⟨vs,H2,I2,r,q2⟩=>⟨I2.kIn,?_⟩) hst hpl
 exact zlb (us:=.ref a :: us) (vs:=.ref a :: vs) (F.mono hjk) hr (.all d.ba) .nil zls I2 (.cons rfl r) (by rw [List.append_nil]; exact q2)
theorem zbV (c : Cls K C) (d : DM K m qual st ps C g fd) (F : FnOk X.prog X.w X.K X.mg X.base CX0 j g fd ps sp) (hr : Room k X.A) (hi : ns.idxOf? m = none) (he : PE X o ta) (hjk : j <= k:=by decide) {pl : Sem Bool}
 (ht : eval (.Call (.Attribute o m apos) [] [] pos) X.env = (do
   let ov <- eval o X.env
   standAt apos.atName
   let (f,first) <- holding [ov] (getMethod ov m pl)
   callWith pos f first (backTo pos (starEach [] X.env)) (backToKw pos (keywordEach [] X.env))):=by rfl) :
 PE X (.Call (.Attribute o m apos) [] [] pos) (znj C ns sp E0 ta tNil):=by
 subst hK
 intro pins s σ H Q I h
 refine PySem.W.methodCall_KW (pl:=pl) (thn (he pins s σ H _ I h) fun u s1 ⟨x,H1,I1,rx,a,vals,ex,⟨dx,fs,ea,FF⟩,q⟩=>?_) ht
 subst ex
 obtain rfl : u = Value.ref a:=rx
 refine zfA I1 ea c d.me (FF.no hi) ?_
 exact PySem.W.callWith_K0 (first:=[.ref a]) I1.kIn d.me.kp (zlb (us:=[.ref a]) (vs:=[.ref a]) (F.mono hjk) hr (.all d.ba) .nil zls I1 (.cons rfl .nil) q)
end
structure FunD (K : PySem.W.Frag) (x qual : Str) (st : Stmt) (f : Addr) (fd : FuncData) : Prop where
 ex : ∃ (oc : Value) (od : Option Addr) (dV kV doc pm : Value) (an : Option Addr) (cdv ct : Value) (osl : Array (Option Value)),
  fd = PySem.W.fnOf x qual (zam st) (zal st) (zac st) dV kV doc pm an cdv ct /\ K.lookup f = some ⟨oc,od,.func fd,osl⟩ /\ PySem.W.codeIn K cdv qual = true
 kp : PySem.W.keepIn K (.ref f) = true
section
variable {P : Program} {w : World} {K : PySem.W.Frag} {mg : Str -> Option Value} {base : Heap}
theorem FunD.ok {x qual : Str} {st : Stmt} {f : Addr} {fd : FuncData} {N ps : List Str} {k : Nat} {sp : Sp} (F : FunD K x qual st f fd) (S : FnScope N ps (zac st)) (len : ∀ vs H Q E,sp vs H Q E -> vs.length = ps.length)
 (hbody : ∀ (cdv : Value) (A : Around) (outer : List Env) (s : Shared) (H : Hp) (vs : List V) (Q : VK) (E : XK),Room k (A.deeper (envOfC qual (zac st) s.heap.objs.size f cdv)) -> sp vs H Q E ->
   ∃ t,PSs (cxOf CX0 P w K mg base N qual (zac st) f cdv A outer s H E).nox (zal st) t /\ t { nx:=fun _ H'=>Q .non H',rt:=Q } (start N vs) H) : FnOk P w K mg base CX0 (k + 1) f fd ps sp:=by
 obtain ⟨oc,od,dV,kV,doc,pm,an,cdv,ct,osl,rfl,lk,hcd⟩:=F.ex
 refine zpZ lk hcd S len fun A outer s H vs Q E hr hsp=>?_
 obtain ⟨t,h,q⟩:=hbody cdv A outer s H vs Q E hr hsp
 exact ⟨t,h.nox,q⟩
theorem us1 {P : List Value -> Prop} (h : ∀ a,P [a]) : ∀ us : List Value,us.length = 1 -> P us
 | [a],_=>h a
theorem us2 {P : List Value -> Prop} (h : ∀ a b,P [a,b]) : ∀ us : List Value,us.length = 2 -> P us
 | [a,b],_=>h a b
theorem us3 {P : List Value -> Prop} (h : ∀ a b c,P [a,b,c]) : ∀ us : List Value,us.length = 3 -> P us
 | [a,b,c],_=>h a b c
theorem us4 {P : List Value -> Prop} (h : ∀ a b c d,P [a,b,c,d]) : ∀ us : List Value,us.length = 4 -> P us
 | [a,b,c,d],_=>h a b c d
theorem us5 {P : List Value -> Prop} (h : ∀ a b c d e,P [a,b,c,d,e]) : ∀ us : List Value,us.length = 5 -> P us
 | [a,b,c,d,e],_=>h a b c d e
theorem zla {us ds : List Value} {n : Nat} (h : (us ++ ds).length = n) : us.length = n - ds.length:=by
 rw [List.length_append] at h
 omega
structure DI (K : PySem.W.Frag) (mg : Str -> Option Value) (x qual : Str) (st : Stmt) (ps : List Str) (C f : Addr) (fd : FuncData) : Prop where
 mg : mg x = some (.ref C)
 cl : Cls K C
 mkr : Mk K C f
 fn : FunD K "__init__" qual st f fd
 b0 : zgT K fd ps []
 b1 : zgT K fd ps [.none]
end
section
variable {X : Cx} {k j : Nat} {C f : Addr} {fd : FuncData} {ps : List Str} {sp : Sp} {x qual : Str} {st : Stmt} {p pos : Pos} {e : Expr} {es : List Expr} {t : TA}
theorem zsT (d : DI X.K X.mg x qual st ps C f fd) (F : FnOk X.prog X.w X.K X.mg X.base CX0 j f fd ps sp) (hr : Room k X.A) (hg : Gl X x) (ha : PA X (e :: es) t) (hjk : j + 1 <= k:=by decide) (hdb : (x == ("__debug__" : Str)) = false:=by decide)
 (he : starEach (e :: es) X.env = (false,eval e X.env) :: starEach es X.env:=by rfl) (hpl : (backTo pos (starEach es X.env)).any (·.1) = false:=by rfl) :
 PE X (.Call (.Name x p) (e :: es) [] pos) (znI C sp [.non] E0 t) :=
 zlr d.mkr (F.mono (Nat.le_refl j)) (hr.mono hjk) hg d.mg d.b1 (.cons rfl .nil) zls ha hdb he hpl
theorem zuQ (d : DI X.K X.mg x qual st ps C f fd) (F : FnOk X.prog X.w X.K X.mg X.base CX0 j f fd ps sp) (hr : Room k X.A) (hg : Gl X x) (ha : PA X (e :: es) t) (hjk : j + 1 <= k:=by decide) (hdb : (x == ("__debug__" : Str)) = false:=by decide)
 (he : starEach (e :: es) X.env = (false,eval e X.env) :: starEach es X.env:=by rfl) (hpl : (backTo pos (starEach es X.env)).any (·.1) = false:=by rfl) :
 PE X (.Call (.Name x p) (e :: es) [] pos) (znI C sp [] E0 t) :=
 zlr d.mkr (F.mono (Nat.le_refl j)) (hr.mono hjk) hg d.mg d.b0 .nil zls ha hdb he hpl
end
def rIxP (K : PySem.W.Frag) : R2:=fun x y H Q=>rIxT K x y H Q \/ rIxS x y H Q
theorem znb {X : Cx} (K : PySem.W.Frag) (hK : X.K = K) : IxR X (rIxP K):=by
 subst hK
 intro value slice pins s σ H x y v u Q I rx ry h hs
 rcases h with h | h
 ·exact znm value slice pins s σ H x y v u Q I rx ry h hs
 ·exact zeJ value slice pins s σ H x y v u Q I rx ry h hs
end L2
namespace Mc
open PySem L2
abbrev Mx:=Lan.Mx
abbrev Part:=Option Mx
structure Cf where
 rs : List Cs.Row
 keys : Str
 cast : Int
structure Ms where
 lanes : List (List Mx)
 line : List Part
 heat : List Part
 togo : Int
 bar : List Mx
 texts : List Str
 at_ : Nat
 done : Int
 waits : Int
def key (c : Cf) (m : Ms) : Option Nat:=c.keys.cps.toList[m.at_]?
def keyS (c : Cf) (m : Ms) : Str:=match key c m with
 | some k=>sg k
 | none=>""
def zbJ (ls : List (List Mx)) (k : Nat) : Bool:=match ls[k]? with
 | some l=>l.isEmpty
 | none=>true
def zaU (c : Cf) (m : Ms) : Bool:=match Cs.place c.rs (keyS c m) with
 | some k=>zbJ m.lanes k
 | none=>false
def zfp (c : Cf) (m : Ms) : Bool:=zaU c m && m.heat.isEmpty && m.bar.isEmpty
def zbn (c : Cf) (m : Ms) : Bool:=(key c m).isNone && m.line.isEmpty && m.heat.isEmpty && m.bar.isEmpty
def zbM (ls : List (List Mx)) (k : Nat) (x : Mx) : List (List Mx):=match ls[k]? with
 | some l=>ls.set k (l ++ [x])
 | none=>ls
def fall (c : Cf) (m : Ms) : Ms:=match m.bar with
 | []=>m
 | x :: r=>match Mt.zaG (c.rs.map fun r=>r.t) x.2 with
   | some k=>{ m with bar:=r,lanes:=zbM m.lanes k x }
   | none=>m
def zbz : Part -> Str
 | none=>" "
 | some x=>x.1
def zaM (l : List Part) : Str:=Txt.join "" (l.map zbz)
def mats (l : List Part) : List Mx:=l.filterMap id
def cool (m : Ms) : Ms:=if m.heat.isEmpty = true then m else
 if m.togo - 1 <= 0 then { m with togo:=m.togo - 1,texts:=m.texts ++ [zaM m.heat],bar:=m.bar ++ mats m.heat,heat:=[] } else { m with togo:=m.togo - 1 }
def send (c : Cf) (m : Ms) : Ms:=if m.heat.isEmpty = true then { m with heat:=m.line,togo:=c.cast,line:=[],at_:=m.at_ + 1 } else m
def take (m : Ms) (p : Part) : Ms:={ m with line:=m.line ++ [p],at_:=m.at_ + 1 }
def pick (m : Ms) (k : Nat) : Ms:=match m.lanes[k]? with
 | some (x :: r)=>take { m with lanes:=m.lanes.set k r } (some x)
 | _=>m
def strike (c : Cf) (m : Ms) : Ms:=match key c m with
 | none=>m
 | some k=>if k = 47 then send c m else if k = 32 then take m none else if zaU c m = true then { m with waits:=m.waits + 1 } else match Cs.place c.rs (sg k) with
   | some j=>pick m j
   | none=>m
def tick (c : Cf) (m : Ms) : Ms:=let m1:=strike c (cool (fall c m)); { m1 with done:=m1.done + 1 }
def still (c : Cf) (m : Ms) : Bool:=zbn c m || zfp c m
def OkM (c : Cf) (x : Mx) : Prop:=PyData.canLay0 (.str x.1) = true /\ x.1.length <= 1 /\ 0 <= x.2 /\ x.2 < 128 /\ ∃ k,Mt.zaG (c.rs.map fun r=>r.t) x.2 = some k /\ k < c.rs.length
def cnt (m : Ms) : Nat:=(m.lanes.map List.length).sum + m.line.length + m.heat.length + m.bar.length
structure OkC (c : Cf) : Prop where
 few : c.rs.length <= 30
 short : c.keys.length <= 90000
 known : ∀ k ∈ c.keys.cps.toList,k = 47 \/ k = 32 \/ ((Cs.place c.rs (sg k)).isSome = true /\ k ≠ 47 /\ k ≠ 32)
 ends : c.keys.cps.toList = [] \/ ∃ a,c.keys.cps.toList = a ++ [47]
 noWedge : Cs.place c.rs (sg 47) = none /\ Cs.place c.rs (sg 32) = none /\ Cs.place c.rs "" = none
 cast1 : 1 <= c.cast
 th : ∀ r ∈ c.rs,0 <= r.t /\ r.t < 128
 lay : PyData.canLay0 (.str c.keys) = true
structure Ok (c : Cf) (m : Ms) : Prop where
 cf : OkC c
 ln : m.lanes.length = c.rs.length
 lm : ∀ l ∈ m.lanes,∀ x ∈ l,OkM c x
 im : ∀ x,some x ∈ m.line -> OkM c x
 hm : ∀ x,some x ∈ m.heat -> OkM c x
 bm : ∀ x ∈ m.bar,OkM c x
 le : m.at_ <= c.keys.cps.toList.length
 en : m.at_ = c.keys.cps.toList.length -> m.line = []
 sz : cnt m <= 2000 + m.at_
 tx : m.texts.length + (if m.heat.isEmpty = true then 0 else 1) <= m.at_
 tl : ∀ t ∈ m.texts,PyData.canLay0 (.str t) = true
 tg : m.heat ≠ [] -> 1 <= m.togo
theorem ziz {c : Cf} {m : Ms} (h : Ok c m) : m.at_ <= 90000:=by
 have h1:=h.le
 have h2:=h.cf.short
 have h3 : c.keys.cps.toList.length = c.keys.length:=Array.length_toList
 omega
theorem zgt (ls : List (List Mx)) (k : Nat) (l l' : List Mx) (h : ls[k]? = some l) : ((ls.set k l').map List.length).sum + l.length = (ls.map List.length).sum + l'.length:=by
 induction ls generalizing k with
 | nil=>simp at h
 | cons a r ih =>
   cases k with
   | zero =>
     have e : a = l:=Option.some.inj h
     subst e
     show (l'.length + (r.map List.length).sum) + a.length = (a.length + (r.map List.length).sum) + l'.length
     omega
   | succ j =>
     have:=ih j h
     show (a.length + ((r.set j l').map List.length).sum) + l.length = (a.length + (r.map List.length).sum) + l'.length
     omega
theorem znQ {ls : List (List Mx)} {k : Nat} {l : List Mx} (h : ls[k]? = some l) : l.length <= (ls.map List.length).sum:=by
 have:=zgt ls k l [] h
 have e : ([] : List Mx).length = 0:=rfl
 omega
theorem zgf (l : List Part) : (mats l).length <= l.length:=List.length_filterMap_le _ _
theorem zme {l : List Part} {x : Mx} (h : x ∈ mats l) : some x ∈ l:=by
 obtain ⟨y,hy,e⟩:=List.mem_filterMap.mp h
 have e : y = some x:=e
 rw [<- e]
 exact hy
theorem Ok.fall {c : Cf} {m : Ms} (h : Ok c m) : Ok c (fall c m):=by
 unfold Mc.fall
 cases hb : m.bar with
 | nil=>exact h
 | cons x r =>
   have hx:=h.bm x (by rw [hb]; exact List.mem_cons_self)
   obtain ⟨_,_,_,_,k,hk,hkl⟩:=hx
   show Ok c (match Mt.zaG (c.rs.map fun r=>r.t) x.2 with
    | some k=>{ m with bar:=r,lanes:=zbM m.lanes k x }
    | none=>m)
   rw [hk]
   have hkl' : k < m.lanes.length:=by rw [h.ln]; exact hkl
   have hg : m.lanes[k]? = some m.lanes[k]:=List.getElem?_eq_getElem hkl'
   have ea : zbM m.lanes k x = m.lanes.set k (m.lanes[k] ++ [x]):=by unfold zbM; rw [hg]
   refine ⟨h.cf,?_,?_,h.im,h.hm,?_,h.le,h.en,?_,h.tx,h.tl,h.tg⟩
   ·show (zbM m.lanes k x).length = _
    rw [ea,List.length_set]
    exact h.ln
   ·intro l hl y hy
    have hl : l ∈ zbM m.lanes k x:=hl
    rw [ea] at hl
    rcases List.mem_or_eq_of_mem_set hl with hl | hl
    ·exact h.lm l hl y hy
    ·rw [hl] at hy
     rcases List.mem_append.mp hy with hy | hy
     ·exact h.lm _ (List.getElem_mem hkl') y hy
     ·rw [List.mem_singleton.mp hy]
      exact h.bm x (by rw [hb]; exact List.mem_cons_self)
   ·intro y hy
    exact h.bm y (by rw [hb]; exact List.mem_cons_of_mem _ hy)
   ·have hs:=h.sz
    have h1:=zgt m.lanes k _ (m.lanes[k] ++ [x]) hg
    rw [List.length_append] at h1
    unfold cnt at hs ⊢
    rw [hb] at hs
    show ((zbM m.lanes k x).map List.length).sum + m.line.length + m.heat.length + r.length <= 2000 + m.at_
    rw [ea]
    have e1 : [x].length = 1:=rfl
    have e2 : (x :: r).length = r.length + 1:=rfl
    omega
theorem zdR (x : Str) (xs : List Str) : Txt.join "" (x :: xs) = x ++ Txt.join "" xs:=by
 unfold Txt.join
 rw [StrLaws.glued_eq_join,StrLaws.glued_eq_join]
 cases xs with
 | nil=>exact (Lns.zib x).symm
 | cons y r =>
   show x ++ "" ++ Str.join "" (y :: r) = _
   rw [Lns.zib]
theorem zjS {x y : Str} (hx : PyData.canLay0 (.str x) = true) (hy : PyData.canLay0 (.str y) = true) : PyData.canLay0 (.str (x ++ y)) = true:=by
 have hx : (x.cps.all fun c=>decide (c < 0x110000)) = true:=hx
 have hy : (y.cps.all fun c=>decide (c < 0x110000)) = true:=hy
 show ((x ++ y).cps.all fun c=>decide (c < 0x110000)) = true
 have e : (x ++ y).cps.toList = x.cps.toList ++ y.cps.toList:=Array.toList_append
 rw [<- Array.all_toList] at hx hy ⊢
 rw [e,List.all_append,hx,hy]
 rfl
theorem zmd {c : Cf} {l : List Part} (h : ∀ x,some x ∈ l -> OkM c x) : PyData.canLay0 (.str (zaM l)) = true:=by
 unfold zaM
 induction l with
 | nil=>decide +kernel
 | cons p r ih =>
   have ih:=ih fun x hx=>h x (List.mem_cons_of_mem _ hx)
   have e : Txt.join "" ((p :: r).map zbz) = zbz p ++ Txt.join "" (r.map zbz):=zdR _ _
   rw [e]
   have hp : PyData.canLay0 (.str (zbz p)) = true:=by
    cases p with
    | none=>decide +kernel
    | some x=>exact (h x List.mem_cons_self).1
   exact zjS hp ih
theorem Ok.cool {c : Cf} {m : Ms} (h : Ok c m) : Ok c (cool m):=by
 unfold Mc.cool
 split
 ·exact h
 ·rename_i he
  have hne : m.heat ≠ []:=fun z=>he (by rw [z]; rfl)
  have ht:=h.tg hne
  split
  ·refine ⟨h.cf,h.ln,h.lm,h.im,(fun x hx=>by cases hx),?_,h.le,h.en,?_,?_,?_,fun z=>absurd rfl z⟩
   ·intro x hx
    rcases List.mem_append.mp hx with hx | hx
    ·exact h.bm x hx
    ·exact h.hm x (zme hx)
   ·have hs:=h.sz
    have hl:=zgf m.heat
    unfold cnt at hs ⊢
    show (m.lanes.map List.length).sum + m.line.length + 0 + (m.bar ++ mats m.heat).length <= 2000 + m.at_
    rw [List.length_append]
    omega
   ·have h1:=h.tx
    rw [if_neg he] at h1
    show (m.texts ++ [zaM m.heat]).length + 0 <= m.at_
    rw [List.length_append]
    show m.texts.length + 1 + 0 <= _
    omega
   ·intro t ht
    rcases List.mem_append.mp ht with ht | ht
    ·exact h.tl t ht
    ·rw [List.mem_singleton.mp ht]
     exact zmd h.hm
  ·rename_i hg
   exact ⟨h.cf,h.ln,h.lm,h.im,h.hm,h.bm,h.le,h.en,h.sz,h.tx,h.tl,fun _=>by show 1 <= m.togo - 1; omega⟩
theorem zjd {c : Cf} {m : Ms} {k : Nat} (h : key c m = some k) : m.at_ < c.keys.cps.toList.length:=(List.getElem?_eq_some_iff.mp h).1
theorem zmE {c : Cf} {m : Ms} {k : Nat} (h : OkC c) (hk : key c m = some k) (e : m.at_ + 1 = c.keys.cps.toList.length) : k = 47:=by
 unfold key at hk
 rcases h.ends with z | ⟨a,z⟩
 ·rw [z] at e
  cases e
 ·rw [z] at e hk
  rw [List.length_append] at e
  have e : m.at_ + 1 = a.length + 1:=e
  rw [List.getElem?_append_right (by omega),show m.at_ - a.length = 0 by omega] at hk
  exact (Option.some.inj hk).symm
theorem Ok.send {c : Cf} {m : Ms} (h : Ok c m) (hl : m.at_ < c.keys.cps.toList.length) : Ok c (send c m):=by
 unfold Mc.send
 split
 ·rename_i he
  have hn : m.heat = []:=List.isEmpty_iff.mp he
  refine ⟨h.cf,h.ln,h.lm,(fun x hx=>by cases hx),h.im,h.bm,hl,fun _=>rfl,?_,?_,h.tl,fun _=>h.cf.cast1⟩
  ·have hs:=h.sz
   unfold cnt at hs ⊢
   rw [hn] at hs
   have e : ([] : List Part).length = 0:=rfl
   show (m.lanes.map List.length).sum + 0 + m.line.length + m.bar.length <= 2000 + (m.at_ + 1)
   omega
  ·have h1:=h.tx
   rw [if_pos he] at h1
   show m.texts.length + (if m.line.isEmpty = true then 0 else 1) <= m.at_ + 1
   split <;> omega
 ·exact h
theorem Ok.take {c : Cf} {m : Ms} {k : Nat} {p : Part} (h : Ok c m) (hk : key c m = some k) (h47 : k ≠ 47) (hp : ∀ x,p = some x -> OkM c x) (hs : cnt m + 1 <= 2000 + (m.at_ + 1)) : Ok c (take m p):=by
 have hl:=zjd hk
 refine ⟨h.cf,h.ln,h.lm,?_,h.hm,h.bm,hl,?_,?_,?_,h.tl,h.tg⟩
 ·intro x hx
  rcases List.mem_append.mp hx with hx | hx
  ·exact h.im x hx
  ·exact hp x (List.mem_singleton.mp hx).symm
 ·intro e
  exact absurd (zmE h.cf hk e) h47
 ·unfold cnt at hs ⊢
  show (m.lanes.map List.length).sum + (m.line ++ [p]).length + m.heat.length + m.bar.length <= 2000 + (m.at_ + 1)
  rw [List.length_append]
  show (m.lanes.map List.length).sum + (m.line.length + 1) + m.heat.length + m.bar.length <= 2000 + (m.at_ + 1)
  omega
 ·have:=h.tx
  show m.texts.length + (if m.heat.isEmpty = true then 0 else 1) <= m.at_ + 1
  omega
theorem Ok.pick {c : Cf} {m : Ms} {k j : Nat} (h : Ok c m) (hk : key c m = some k) (h47 : k ≠ 47) : Ok c (pick m j):=by
 unfold Mc.pick
 split
 ·rename_i x r hx
  have h1:=zgt m.lanes j _ r hx
  have e2 : (x :: r).length = r.length + 1:=rfl
  have hb : Ok c { m with lanes:=m.lanes.set j r }:=by
   refine ⟨h.cf,by show (m.lanes.set j r).length = _; rw [List.length_set]; exact h.ln,?_,h.im,h.hm,h.bm,h.le,h.en,?_,h.tx,h.tl,h.tg⟩
   ·intro l hl y hy
    rcases List.mem_or_eq_of_mem_set hl with hl | hl
    ·exact h.lm l hl y hy
    ·rw [hl] at hy
     exact h.lm _ (List.mem_of_getElem? hx) y (List.mem_cons_of_mem _ hy)
   ·have hs:=h.sz
    unfold cnt at hs ⊢
    show ((m.lanes.set j r).map List.length).sum + m.line.length + m.heat.length + m.bar.length <= 2000 + m.at_
    omega
  refine hb.take hk h47 (fun y e=>?_) ?_
  ·cases e
   exact h.lm _ (List.mem_of_getElem? hx) x List.mem_cons_self
  ·have hs:=h.sz
   unfold cnt at hs ⊢
   show ((m.lanes.set j r).map List.length).sum + m.line.length + m.heat.length + m.bar.length + 1 <= 2000 + (m.at_ + 1)
   omega
 ·exact h
theorem Ok.strike {c : Cf} {m : Ms} (h : Ok c m) : Ok c (strike c m):=by
 unfold Mc.strike
 split
 ·exact h
 ·rename_i k hk
  split
  ·exact h.send (zjd hk)
  ·rename_i h47
   split
   ·exact h.take hk h47 (fun x e=>by cases e) (by have:=h.sz; omega)
   ·split
    ·exact ⟨h.cf,h.ln,h.lm,h.im,h.hm,h.bm,h.le,h.en,h.sz,h.tx,h.tl,h.tg⟩
    ·split
     ·exact h.pick hk h47
     ·exact h
theorem Ok.tick {c : Cf} {m : Ms} (h : Ok c m) : Ok c (tick c m):=by
 have g:=h.fall.cool.strike
 exact ⟨g.cf,g.ln,g.lm,g.im,g.hm,g.bm,g.le,g.en,g.sz,g.tx,g.tl,g.tg⟩
def wt (c : Cf) (k : Nat) : Nat:=if k = 47 then 1 + c.cast.toNat else if k = 32 then 1 else 2
def left (c : Cf) (m : Ms) : Nat:=((c.keys.cps.toList.drop m.at_).map (wt c)).sum
def work (c : Cf) (m : Ms) : Nat:=left c m + (mats m.line).length + (mats m.heat).length + (if m.heat.isEmpty = true then 0 else m.togo.toNat) + m.bar.length
theorem zlG {c : Cf} {m : Ms} {k : Nat} (h : key c m = some k) : left c m = wt c k + ((c.keys.cps.toList.drop (m.at_ + 1)).map (wt c)).sum:=by
 unfold left
 have hl:=zjd h
 rw [List.drop_eq_getElem_cons hl]
 have e : c.keys.cps.toList[m.at_] = k:=by
  unfold key at h
  rw [List.getElem?_eq_getElem hl] at h
  exact Option.some.inj h
 rw [e]
 rfl
theorem zlK {c : Cf} {m : Ms} (h : Ok c m) : work c (fall c m) + (if m.bar.isEmpty = true then 0 else 1) = work c m:=by
 unfold Mc.fall
 cases hb : m.bar with
 | nil=>rfl
 | cons x r =>
   obtain ⟨_,_,_,_,k,hk,_⟩:=h.bm x (by rw [hb]; exact List.mem_cons_self)
   show work c (match Mt.zaG (c.rs.map fun r=>r.t) x.2 with
    | some k=>{ m with bar:=r,lanes:=zbM m.lanes k x }
    | none=>m) + 1 = work c m
   rw [hk]
   unfold work
   rw [hb]
   show left c m + (mats m.line).length + (mats m.heat).length + (if m.heat.isEmpty = true then 0 else m.togo.toNat) + r.length + 1 = left c m + (mats m.line).length + (mats m.heat).length + (if m.heat.isEmpty = true then 0 else m.togo.toNat) + (r.length + 1)
   omega
theorem zlP {c : Cf} {m : Ms} (h : Ok c m) : work c (cool m) + (if m.heat.isEmpty = true then 0 else 1) = work c m:=by
 unfold Mc.cool
 split
 ·rfl
 ·rename_i he
  have hne : m.heat ≠ []:=fun z=>he (by rw [z]; rfl)
  have ht:=h.tg hne
  split
  ·unfold work
   rw [if_neg he]
   show left c m + (mats m.line).length + 0 + 0 + (m.bar ++ mats m.heat).length + 1 = left c m + (mats m.line).length + (mats m.heat).length + m.togo.toNat + m.bar.length
   rw [List.length_append]
   omega
  ·unfold work
   have e1 : (if m.heat.isEmpty = true then 0 else m.togo.toNat) = m.togo.toNat:=if_neg he
   have e2 : (if m.heat.isEmpty = true then 0 else (m.togo - 1).toNat) = (m.togo - 1).toNat:=if_neg he
   show left c m + (mats m.line).length + (mats m.heat).length + (if m.heat.isEmpty = true then 0 else (m.togo - 1).toNat) + m.bar.length + 1 = left c m + (mats m.line).length + (mats m.heat).length + (if m.heat.isEmpty = true then 0 else m.togo.toNat) + m.bar.length
   rw [e1,e2]
   omega
theorem znJ {c : Cf} {m : Ms} {k : Nat} (h : Ok c m) (hk : key c m = some k) (h47 : k ≠ 47) (h32 : k ≠ 32) (hl : zaU c m = false) : ∃ j,Cs.place c.rs (sg k) = some j /\ ∃ x r,m.lanes[j]? = some (x :: r):=by
 have hm : k ∈ c.keys.cps.toList:=List.mem_of_getElem? hk
 rcases h.cf.known k hm with z | z | ⟨z,_,_⟩
 ·exact absurd z h47
 ·exact absurd z h32
 obtain ⟨j,hj⟩:=Option.isSome_iff_exists.mp z
 refine ⟨j,hj,?_⟩
 have hjl : j < m.lanes.length:=by rw [h.ln]; exact Cs.zcX hj
 have hg : m.lanes[j]? = some m.lanes[j]:=List.getElem?_eq_getElem hjl
 unfold zaU keyS at hl
 rw [hk] at hl
 have hl : (match Cs.place c.rs (sg k) with | some k=>zbJ m.lanes k | none=>false) = false:=hl
 rw [hj] at hl
 have hl : zbJ m.lanes j = false:=hl
 unfold zbJ at hl
 rw [hg] at hl
 have hl : (m.lanes[j]).isEmpty = false:=hl
 rw [hg]
 cases he : m.lanes[j] with
 | nil=>rw [he] at hl; cases hl
 | cons x r=>exact ⟨x,r,rfl⟩
def zjf (c : Cf) (m : Ms) : Bool:=match key c m with
 | none=>false
 | some k=>if k = 47 then m.heat.isEmpty else if k = 32 then true else !zaU c m
theorem zhG (l : List Part) (p : Part) : (mats (l ++ [p])).length = (mats l).length + (match p with | none=>0 | some _=>1):=by
 unfold mats
 rw [List.filterMap_append,List.length_append]
 cases p <;> rfl
theorem zhW {c : Cf} {m : Ms} (h : Ok c m) : work c (strike c m) + (if zjf c m = true then 1 else 0) <= work c m:=by
 unfold Mc.strike zjf
 cases hk : key c m with
 | none=>exact Nat.le_refl _
 | some k =>
   have hl:=zlG hk
   have hc:=h.cf.cast1
   show work c (if k = 47 then Mc.send c m else if k = 32 then Mc.take m none else if zaU c m = true then { m with waits:=m.waits + 1 } else match Cs.place c.rs (sg k) with
    | some j=>Mc.pick m j
    | none=>m) + (if (if k = 47 then m.heat.isEmpty else if k = 32 then true else !zaU c m) = true then 1 else 0) <= work c m
   by_cases h47 : k = 47
   ·rw [if_pos h47,if_pos h47]
    unfold Mc.send
    cases he : m.heat.isEmpty with
    | false=>exact Nat.le_refl _
    | true =>
      have hn : m.heat = []:=List.isEmpty_iff.mp he
      rw [if_pos rfl,if_pos rfl]
      have e : wt c k = 1 + c.cast.toNat:=by unfold wt; rw [if_pos h47]
      have e3 : (if m.line.isEmpty = true then 0 else c.cast.toNat) <= c.cast.toNat:=by split <;> omega
      have e4 : work c m = wt c k + ((c.keys.cps.toList.drop (m.at_ + 1)).map (wt c)).sum + (mats m.line).length + 0 + 0 + m.bar.length:=by
       unfold work
       rw [hl,if_pos he,hn]
       rfl
      rw [e4]
      show ((c.keys.cps.toList.drop (m.at_ + 1)).map (wt c)).sum + 0 + (mats m.line).length + (if m.line.isEmpty = true then 0 else c.cast.toNat) + m.bar.length + 1 <= _
      omega
   ·rw [if_neg h47,if_neg h47]
    by_cases h32 : k = 32
    ·rw [if_pos h32,if_pos h32,if_pos rfl]
     unfold work
     rw [hl]
     have e : wt c k = 1:=by unfold wt; rw [if_neg h47,if_pos h32]
     have e2 : (mats (m.line ++ [none])).length = (mats m.line).length + 0:=zhG m.line none
     show ((c.keys.cps.toList.drop (m.at_ + 1)).map (wt c)).sum + (mats (m.line ++ [none])).length + (mats m.heat).length + (if m.heat.isEmpty = true then 0 else m.togo.toNat) + m.bar.length + 1 <= _
     omega
    ·rw [if_neg h32,if_neg h32]
     have e : wt c k = 2:=by unfold wt; rw [if_neg h47,if_neg h32]
     cases hla : zaU c m with
     | true=>exact Nat.le_refl _
     | false =>
       rw [if_neg (by decide),if_pos (by decide)]
       obtain ⟨j,hj,x,r,hx⟩:=znJ h hk h47 h32 hla
       rw [hj]
       show work c (Mc.pick m j) + 1 <= _
       have ep : Mc.pick m j = Mc.take { m with lanes:=m.lanes.set j r } (some x):=by unfold Mc.pick; rw [hx]
       rw [ep]
       unfold work
       rw [hl]
       have e2 : (mats (m.line ++ [some x])).length = (mats m.line).length + 1:=zhG m.line (some x)
       show ((c.keys.cps.toList.drop (m.at_ + 1)).map (wt c)).sum + (mats (m.line ++ [some x])).length + (mats m.heat).length + (if m.heat.isEmpty = true then 0 else m.togo.toNat) + m.bar.length + 1 <= _
       omega
theorem zev (c : Cf) (m : Ms) : (Mc.fall c m).at_ = m.at_ /\ (Mc.fall c m).line = m.line /\ (Mc.fall c m).heat = m.heat /\ (Mc.fall c m).togo = m.togo /\ (Mc.fall c m).texts = m.texts /\ (Mc.fall c m).done = m.done /\ (Mc.fall c m).waits = m.waits:=by
 unfold Mc.fall
 split
 ·exact ⟨rfl,rfl,rfl,rfl,rfl,rfl,rfl⟩
 ·split <;> exact ⟨rfl,rfl,rfl,rfl,rfl,rfl,rfl⟩
theorem zer (m : Ms) : (Mc.cool m).at_ = m.at_ /\ (Mc.cool m).line = m.line /\ (Mc.cool m).lanes = m.lanes /\ (Mc.cool m).done = m.done /\ (Mc.cool m).waits = m.waits:=by
 unfold Mc.cool
 split
 ·exact ⟨rfl,rfl,rfl,rfl,rfl⟩
 ·split <;> exact ⟨rfl,rfl,rfl,rfl,rfl⟩
theorem zcS {c : Cf} {m : Ms} (h : Ok c m) (hs : still c m = false) : work c (tick c m) < work c m:=by
 have h1:=zlK h
 have h2:=zlP h.fall
 have h3:=zhW h.fall.cool
 have ew : work c (tick c m) = work c (Mc.strike c (Mc.cool (Mc.fall c m))):=rfl
 rw [ew]
 obtain ⟨f1,f2,f3,f4,f5,f6,f7⟩:=zev c m
 obtain ⟨c1,c2,c3,c4,c5⟩:=zer (Mc.fall c m)
 by_cases hb : m.bar.isEmpty = true
 ·by_cases hh : m.heat.isEmpty = true
  ·have ef : Mc.fall c m = m:=by
    unfold Mc.fall
    rw [List.isEmpty_iff.mp hb]
   have ec : Mc.cool m = m:=by
    unfold Mc.cool
    rw [if_pos hh]
   rw [ef,ec] at h3 ⊢
   have ht : zjf c m = true:=by
    unfold still zbn zfp at hs
    rw [hb,hh,Bool.and_true,Bool.and_true,Bool.and_true,Bool.and_true,Bool.or_eq_false_iff] at hs
    unfold zjf
    cases hk : key c m with
    | none =>
      have hl : m.at_ = c.keys.cps.toList.length:=by
       have h1:=h.le
       have h2:=List.getElem?_eq_none_iff.mp hk
       omega
      rw [hk,h.en hl] at hs
      exact absurd hs.1 (by decide)
    | some k =>
      show (if k = 47 then m.heat.isEmpty else if k = 32 then true else !zaU c m) = true
      rw [hh,hs.2]
      split
      ·rfl
      ·split <;> rfl
   rw [if_pos ht] at h3
   omega
  ·rw [f3,if_neg hh] at h2
   omega
 ·rw [if_neg hb] at h1
  omega
def runF (c : Cf) : Nat -> Ms -> Ms
 | 0,m=>m
 | n + 1,m=>if still c m = true then m else runF c n (tick c m)
def fin (c : Cf) (m : Ms) : Ms:=runF c (work c m) m
theorem zbN {c : Cf} {m : Ms} (h : still c m = true) : ∀ n,runF c n m = m
 | 0=>rfl
 | n + 1=>by
   show (if still c m = true then m else runF c n (tick c m)) = m
   rw [if_pos h]
theorem zeO {c : Cf} {m : Ms} (h : still c m = false) (n : Nat) : runF c (n + 1) m = runF c n (tick c m):=by
 show (if still c m = true then m else runF c n (tick c m)) = _
 rw [h]
 rfl
theorem zgx {c : Cf} {m : Ms} (O : Ok c m) (h : work c m = 0) : still c m = true:=by
 cases e : still c m with
 | true=>rfl
 | false =>
   have:=zcS O e
   omega
theorem zjr {c : Cf} : ∀ (n k : Nat) {m : Ms},Ok c m -> work c m <= n -> work c m <= k -> runF c n m = runF c k m
 | 0,k,m,O,h,_=>by rw [zbN (zgx O (by omega)),zbN (zgx O (by omega))]
 | n + 1,k,m,O,h1,h2=>by
   cases hs : still c m with
   | true=>rw [zbN hs,zbN hs]
   | false =>
     have hw:=zcS O hs
     obtain ⟨j,rfl⟩ : ∃ j,k = j + 1:=⟨k - 1,by omega⟩
     rw [zeO hs,zeO hs]
     exact zjr n j O.tick (by omega) (by omega)
theorem zjv {c : Cf} : ∀ (n : Nat) {m : Ms},Ok c m -> work c m <= n -> still c (runF c n m) = true /\ Ok c (runF c n m)
 | 0,m,O,h=>show still c m = true /\ Ok c m from ⟨zgx O (by omega),O⟩
 | n + 1,m,O,h=>by
   cases hs : still c m with
   | true =>
     rw [zbN hs]
     exact ⟨hs,O⟩
   | false =>
     have hw:=zcS O hs
     rw [zeO hs]
     exact zjv n O.tick (by omega)
theorem zeN {c : Cf} {m : Ms} (h : still c m = true) : fin c m = m:=zbN h _
theorem zlf {c : Cf} {m : Ms} (O : Ok c m) (h : still c m = false) : fin c (tick c m) = fin c m:=by
 have hw:=zcS O h
 unfold fin
 obtain ⟨j,hj⟩ : ∃ j,work c m = j + 1:=⟨work c m - 1,by omega⟩
 rw [hj,zeO h]
 exact zjr _ _ O.tick (Nat.le_refl _) (by omega)
theorem zlw {c : Cf} {m : Ms} (O : Ok c m) : still c (fin c m) = true /\ Ok c (fin c m):=zjv _ O (Nat.le_refl _)
end Mc
namespace Mc
open PySem L2
def zcn (H : Hp) (v : V) : Part -> Prop
 | none=>v = .str " "
 | some x=>Lan.zbS H v x
def LnAt (H : Hp) (a : Addr) (ms : List Mx) : Prop:=∃ xs,H a = some (.lst xs) /\ Paired (Lan.zbS H) xs ms
def zlZ (H : Hp) (a : Addr) (ps : List Part) : Prop:=∃ xs,H a = some (.lst xs) /\ Paired (zcn H) xs ps
structure Adr where
 L : Addr
 c : Addr
 l : Addr
 h : Addr
 b : Addr
 t : Addr
 ls : List Addr
def Adr.all (A : Adr) : List Addr:=A.L :: A.c :: A.l :: A.h :: A.b :: A.t :: A.ls
def Keep (S : Addr -> Prop) (H H' : Hp) : Prop:=∀ b o,H b = some o -> (S b \/ ∃ xs,o = .tup xs) -> H' b = some o
theorem Keep.of_same {S : Addr -> Prop} {H H' : Hp} (s : Same H H') : Keep S H H':=fun b o h _=>s b o h
theorem Keep.lst {H : Hp} {a : Addr} {ys : List V} {o : HO} (h : H a = some (.lst ys)) : Keep (fun b=>b ≠ a) H (upd H a o):=fun b u hb hs=>by
 rcases hs with hs | ⟨xs,e⟩
 ·rw [zai hs]
  exact hb
 ·subst e
  rw [zai (zbZ hb h fun z=>by cases z)]
  exact hb
theorem Keep.fld {H H' : Hp} {p C dx : Addr} {fs : List (Str × V)} (h : H p = some (.ins C dx fs)) (k : ∀ b,b ≠ p -> H' b = H b) : Keep (fun b=>b ≠ p) H H':=fun b u hb hs=>by
 rcases hs with hs | ⟨xs,e⟩
 ·rw [k b hs]
  exact hb
 ·subst e
  rw [k b (zbZ hb h fun z=>by cases z)]
  exact hb
theorem Keep.trans {S : Addr -> Prop} {H H1 H2 : Hp} (a : Keep S H H1) (b : Keep S H1 H2) : Keep S H H2:=fun x o h hs=>b x o (a x o h hs) hs
theorem zdF {S : Addr -> Prop} {H H' : Hp} {v : V} {x : Mx} (k : Keep S H H') (h : Lan.zbS H v x) : Lan.zbS H' v x:=let ⟨a,e,z⟩:=h; ⟨a,e,k _ _ z (.inr ⟨_,rfl⟩)⟩
theorem zeX {S : Addr -> Prop} {H H' : Hp} {v : V} {x : Part} (k : Keep S H H') (h : zcn H v x) : zcn H' v x:=by
 cases x with
 | none=>exact h
 | some x=>exact zdF k h
theorem zcm {S : Addr -> Prop} {H H' : Hp} {xs : List V} {ms : List Mx} (k : Keep S H H') (h : Paired (Lan.zbS H) xs ms) : Paired (Lan.zbS H') xs ms:=Paired.mapP h fun _ _ z=>zdF k z
theorem zfz {S : Addr -> Prop} {H H' : Hp} {xs : List V} {ms : List Part} (k : Keep S H H') (h : Paired (zcn H) xs ms) : Paired (zcn H') xs ms:=Paired.mapP h fun _ _ z=>zeX k z
theorem zbA {S : Addr -> Prop} {H H' : Hp} {xs : List V} {rs : List Cs.Row} (k : Keep S H H') (h : Paired (Cs.zbU H) xs rs) : Paired (Cs.zbU H') xs rs:=Paired.mapP h fun _ _ ⟨a,e,z⟩=>⟨a,e,k _ _ z (.inr ⟨_,rfl⟩)⟩
theorem LnAt.keep {S : Addr -> Prop} {H H' : Hp} {a : Addr} {ms : List Mx} (k : Keep S H H') (hs : S a) (h : LnAt H a ms) : LnAt H' a ms:=let ⟨xs,e,z⟩:=h; ⟨xs,k _ _ e (.inl hs),zcm k z⟩
theorem zlZ.keep {S : Addr -> Prop} {H H' : Hp} {a : Addr} {ms : List Part} (k : Keep S H H') (hs : S a) (h : zlZ H a ms) : zlZ H' a ms:=let ⟨xs,e,z⟩:=h; ⟨xs,k _ _ e (.inl hs),zfz k z⟩
theorem zbH {S : Addr -> Prop} {H H' : Hp} (k : Keep S H H') : ∀ {ls : List Addr} {ms : List (List Mx)},(∀ a ∈ ls,S a) -> Paired (LnAt H) ls ms -> Paired (LnAt H') ls ms
 | _,_,_,.nil=>.nil
 | _,_,hs,.cons r t=>.cons (r.keep k (hs _ List.mem_cons_self)) (zbH k (fun a ha=>hs a (List.mem_cons_of_mem _ ha)) t)
theorem ziP {H H' : Hp} {p : Addr} {ms' : List Mx} (k : Keep (fun b=>b ≠ p) H H') (hp : LnAt H' p ms') : ∀ {ls : List Addr} {ms : List (List Mx)} (i : Nat),Paired (LnAt H) ls ms -> ls.Nodup -> ls[i]? = some p -> Paired (LnAt H') ls (ms.set i ms')
 | _,_,_,.nil,_,h=>by simp at h
 | _,_,0,.cons r t,hn,h=>by
   have h : _ = p:=Option.some.inj h
   subst h
   obtain ⟨hn1,_⟩:=List.nodup_cons.mp hn
   exact .cons hp (zbH k (fun a ha e=>hn1 (e ▸ ha)) t)
 | _,_,i + 1,.cons r t,hn,h=>by
   obtain ⟨hn1,hn2⟩:=List.nodup_cons.mp hn
   exact .cons (r.keep k fun e=>hn1 (e ▸ List.mem_of_getElem? h)) (ziP k hp i t hn2 h)
structure Lists (c : Cf) (H : Hp) (A : Adr) (m : Ms) : Prop where
 rows : ∃ xs,H A.c = some (.lst xs) /\ Paired (Cs.zbU H) xs c.rs
 lan : H A.L = some (.lst (A.ls.map V.ref))
 lns : Paired (LnAt H) A.ls m.lanes
 lin : zlZ H A.l m.line
 het : zlZ H A.h m.heat
 bar : LnAt H A.b m.bar
 txt : H A.t = some (.lst (m.texts.map V.str))
theorem Lists.keep {S : Addr -> Prop} {c : Cf} {H H' : Hp} {A : Adr} {m : Ms} (h : Lists c H A m) (k : Keep S H H') (hs : ∀ a ∈ A.all,S a) : Lists c H' A m:=by
 unfold Adr.all at hs
 obtain ⟨xs,e1,e2⟩:=h.rows
 exact ⟨⟨xs,k _ _ e1 (.inl (hs _ (by simp))),zbA k e2⟩,k _ _ h.lan (.inl (hs _ (by simp))),zbH k (fun a ha=>hs a (by simp [ha])) h.lns,h.lin.keep k (hs _ (by simp)),h.het.keep k (hs _ (by simp)),h.bar.keep k (hs _ (by simp)),k _ _ h.txt (.inl (hs _ (by simp)))⟩
theorem Lists.is {c : Cf} {H : Hp} {A : Adr} {m : Ms} (h : Lists c H A m) : ∀ a ∈ A.all,∃ xs,H a = some (.lst xs):=by
 intro a ha
 obtain ⟨xs,e1,_⟩:=h.rows
 obtain ⟨x2,e2,_⟩:=h.lin
 obtain ⟨x3,e3,_⟩:=h.het
 obtain ⟨x4,e4,_⟩:=h.bar
 unfold Adr.all at ha
 simp only [List.mem_cons] at ha
 rcases ha with rfl | rfl | rfl | rfl | rfl | rfl | ha
 ·exact ⟨_,h.lan⟩
 ·exact ⟨_,e1⟩
 ·exact ⟨_,e2⟩
 ·exact ⟨_,e3⟩
 ·exact ⟨_,e4⟩
 ·exact ⟨_,h.txt⟩
 ·obtain ⟨i,hi,e⟩:=List.getElem_of_mem ha
  obtain ⟨_,_,xs,ex,_⟩:=Cs.zaX h.lns (List.getElem?_eq_getElem hi)
  rw [e] at ex
  exact ⟨xs,ex⟩
def vals (c : Cf) (A : Adr) (m : Ms) : List (Option V):=[some (.ref A.L),some (.ref A.c),some (.str c.keys),some (.int (m.at_ : Int)),some (.int c.cast),some (.ref A.l),some (.ref A.h),some (.int m.togo),some (.ref A.b),some (.ref A.t),some (.int m.done),some (.int m.waits)]
structure Mac (C : Addr) (ns : List Str) (c : Cf) (H : Hp) (p : Addr) (A : Adr) (m : Ms) : Prop where
 ins : zcy C ns H p (vals c A m)
 nd : A.all.Nodup
 li : Lists c H A m
structure Step (p : Addr) (A : Adr) (H : Hp) (A' : Adr) (H' : Hp) : Prop where
 fr : ∀ b o,H b = some o -> ((b ≠ p /\ b ∉ A.all) \/ ∃ xs,o = .tup xs) -> H' b = some o
 nw : ∀ b ∈ A'.all,b ∈ A.all \/ H b = none
 al : ∀ b o,H b = some o -> ∃ o',H' b = some o'
theorem Step.of_same {p : Addr} {A : Adr} {H H' : Hp} (s : Same H H') : Step p A H A H':=⟨fun b o h _=>s b o h,fun b h=>.inl h,fun b o h=>⟨o,s b o h⟩⟩
theorem Step.trans {p : Addr} {A A1 A2 : Adr} {H H1 H2 : Hp} (a : Step p A H A1 H1) (b : Step p A1 H1 A2 H2) : Step p A H A2 H2:=by
 refine ⟨fun x o h hs=>?_,fun x hx=>?_,fun x o h=>?_⟩
 ·refine b.fr x o (a.fr x o h hs) (hs.imp (fun ⟨h1,h2⟩=>⟨h1,fun z=>?_⟩) id)
  rcases a.nw x z with z | z
  ·exact h2 z
  ·rw [h] at z
   cases z
 ·rcases b.nw x hx with z | z
  ·exact a.nw x z
  ·refine .inr ?_
   cases e : H x with
   | none=>rfl
   | some o =>
     obtain ⟨o',e'⟩:=a.al x o e
     rw [z] at e'
     cases e'
 ·obtain ⟨o1,h1⟩:=a.al x o h
  exact b.al x o1 h1
theorem Mac.pne {C : Addr} {ns : List Str} {c : Cf} {H : Hp} {p : Addr} {A : Adr} {m : Ms} (h : Mac C ns c H p A m) : ∀ a ∈ A.all,a ≠ p:=fun a ha=>by
 obtain ⟨xs,e⟩:=h.li.is a ha
 obtain ⟨dx,fs,e2,_⟩:=h.ins
 exact zbZ e e2 fun z=>by cases z
theorem Mac.same {C : Addr} {ns : List Str} {c : Cf} {H H' : Hp} {p : Addr} {A : Adr} {m : Ms} (h : Mac C ns c H p A m) (s : Same H H') : Mac C ns c H' p A m:=⟨h.ins.same s,h.nd,h.li.keep (Keep.of_same (S:=fun _=>True) s) fun _ _=>trivial⟩
theorem Mac.fields {C : Addr} {ns : List Str} {c : Cf} {H H' : Hp} {p : Addr} {A' : Adr} {m' : Ms} {vs : List (Option V)} (h0 : zcy C ns H p vs) (h : zcy C ns H' p (vals c A' m')) (k : ∀ b,b ≠ p -> H' b = H b) (l : Lists c H A' m') (n : A'.all.Nodup) : Mac C ns c H' p A' m':=by
 obtain ⟨dx,fs,e,_⟩:=h0
 refine ⟨h,n,l.keep (Keep.fld e k) fun a ha=>?_⟩
 obtain ⟨xs,ex⟩:=l.is a ha
 exact zbZ ex e fun z=>by cases z
theorem Step.fields {H H' : Hp} {p C dx : Addr} {A : Adr} {fs fs' : List (Str × V)} (h : H p = some (.ins C dx fs)) (h' : H' p = some (.ins C dx fs')) (k : ∀ b,b ≠ p -> H' b = H b) : Step p A H A H':=by
 refine ⟨fun b o hb hs=>?_,fun b hb=>.inl hb,fun b o hb=>?_⟩
 ·rcases hs with ⟨hs,_⟩ | ⟨xs,e⟩
  ·rw [k b hs]
   exact hb
  ·subst e
   rw [k b (zbZ hb h fun z=>by cases z)]
   exact hb
 ·by_cases e : b = p
  ·rw [e]
   exact ⟨_,h'⟩
  ·exact ⟨o,by rw [k b e]; exact hb⟩
theorem Step.lst {H : Hp} {p a : Addr} {A : Adr} {ys : List V} {o : HO} (ha : a ∈ A.all) (h : H a = some (.lst ys)) : Step p A H A (upd H a o):=by
 refine ⟨fun b u hb hs=>?_,fun b hb=>.inl hb,fun b u hb=>?_⟩
 ·exact Keep.lst h b u hb (hs.imp (fun z e=>z.2 (e ▸ ha)) id)
 ·by_cases e : b = a
  ·rw [e]
   exact ⟨_,upd_same⟩
  ·exact ⟨u,by rw [zai e]; exact hb⟩
theorem zgm {C : Addr} {ns : List Str} {H : Hp} {p a : Addr} {ys : List V} {o : HO} {vs : List (Option V)} (h : zcy C ns H p vs) (ha : H a = some (.lst ys)) : zcy C ns (upd H a o) p vs:=by
 obtain ⟨dx,fs,e,F⟩:=h
 exact ⟨dx,fs,by rw [zai (zbZ e ha fun z=>by cases z)]; exact e,F⟩
structure Dis (A : Adr) : Prop where
 Lc : A.L ≠ A.c
 Ll : A.L ≠ A.l
 Lh : A.L ≠ A.h
 Lb : A.L ≠ A.b
 Lt : A.L ≠ A.t
 cl : A.c ≠ A.l
 ch : A.c ≠ A.h
 cb : A.c ≠ A.b
 ct : A.c ≠ A.t
 lh : A.l ≠ A.h
 lb : A.l ≠ A.b
 lt : A.l ≠ A.t
 hb : A.h ≠ A.b
 ht : A.h ≠ A.t
 bt : A.b ≠ A.t
 ls : ∀ q ∈ A.ls,q ≠ A.L /\ q ≠ A.c /\ q ≠ A.l /\ q ≠ A.h /\ q ≠ A.b /\ q ≠ A.t
 nd : A.ls.Nodup
theorem zhU {A : Adr} (h : A.all.Nodup) : Dis A:=by
 unfold Adr.all at h
 simp only [List.nodup_cons,List.mem_cons,not_or] at h
 obtain ⟨⟨a1,a2,a3,a4,a5,a6⟩,⟨b1,b2,b3,b4,b5⟩,⟨c1,c2,c3,c4⟩,⟨d1,d2,d3⟩,⟨e1,e2⟩,f1,n⟩:=h
 refine ⟨a1,a2,a3,a4,a5,b1,b2,b3,b4,c1,c2,c3,d1,d2,e1,fun q hq=>⟨?_,?_,?_,?_,?_,?_⟩,n⟩
 all_goals
  intro e
  rw [e] at hq
  contradiction
theorem Mac.setLane {C : Addr} {ns : List Str} {c : Cf} {H : Hp} {p q : Addr} {A : Adr} {m : Ms} {k : Nat} {ys xs : List V} {l : List Mx} (h : Mac C ns c H p A m) (hq : A.ls[k]? = some q) (hy : H q = some (.lst ys)) (hx : Paired (Lan.zbS H) xs l) :
 Mac C ns c (upd H q (.lst xs)) p A { m with lanes:=m.lanes.set k l }:=by
 have d:=zhU h.nd
 have kp : Keep (fun b=>b ≠ q) H (upd H q (.lst xs)):=Keep.lst hy
 obtain ⟨n1,n2,n3,n4,n5,n6⟩:=d.ls q (List.mem_of_getElem? hq)
 obtain ⟨zs,e1,e2⟩:=h.li.rows
 exact ⟨zgm h.ins hy,h.nd,⟨⟨zs,kp _ _ e1 (.inl n2.symm),zbA kp e2⟩,kp _ _ h.li.lan (.inl n1.symm),ziP kp ⟨xs,upd_same,zcm kp hx⟩ k h.li.lns d.nd hq,h.li.lin.keep kp n3.symm,h.li.het.keep kp n4.symm,h.li.bar.keep kp n5.symm,kp _ _ h.li.txt (.inl n6.symm)⟩⟩
theorem Mac.setBar {C : Addr} {ns : List Str} {c : Cf} {H : Hp} {p : Addr} {A : Adr} {m : Ms} {ys xs : List V} {l : List Mx} (h : Mac C ns c H p A m) (hy : H A.b = some (.lst ys)) (hx : Paired (Lan.zbS H) xs l) :
 Mac C ns c (upd H A.b (.lst xs)) p A { m with bar:=l }:=by
 have d:=zhU h.nd
 have kp : Keep (fun b=>b ≠ A.b) H (upd H A.b (.lst xs)):=Keep.lst hy
 obtain ⟨zs,e1,e2⟩:=h.li.rows
 exact ⟨zgm h.ins hy,h.nd,⟨⟨zs,kp _ _ e1 (.inl d.cb),zbA kp e2⟩,kp _ _ h.li.lan (.inl d.Lb),zbH kp (fun a ha=>(d.ls a ha).2.2.2.2.1) h.li.lns,h.li.lin.keep kp d.lb,h.li.het.keep kp d.hb,⟨xs,upd_same,zcm kp hx⟩,kp _ _ h.li.txt (.inl d.bt.symm)⟩⟩
theorem Mac.setTxt {C : Addr} {ns : List Str} {c : Cf} {H : Hp} {p : Addr} {A : Adr} {m : Ms} {ys : List V} {l : List Str} (h : Mac C ns c H p A m) (hy : H A.t = some (.lst ys)) :
 Mac C ns c (upd H A.t (.lst (l.map V.str))) p A { m with texts:=l }:=by
 have d:=zhU h.nd
 have kp : Keep (fun b=>b ≠ A.t) H (upd H A.t (.lst (l.map V.str))):=Keep.lst hy
 obtain ⟨zs,e1,e2⟩:=h.li.rows
 exact ⟨zgm h.ins hy,h.nd,⟨⟨zs,kp _ _ e1 (.inl d.ct),zbA kp e2⟩,kp _ _ h.li.lan (.inl d.Lt),zbH kp (fun a ha=>(d.ls a ha).2.2.2.2.2) h.li.lns,h.li.lin.keep kp d.lt,h.li.het.keep kp d.ht,h.li.bar.keep kp d.bt,upd_same⟩⟩
theorem Mac.setLine {C : Addr} {ns : List Str} {c : Cf} {H : Hp} {p : Addr} {A : Adr} {m : Ms} {ys xs : List V} {l : List Part} (h : Mac C ns c H p A m) (hy : H A.l = some (.lst ys)) (hx : Paired (zcn H) xs l) :
 Mac C ns c (upd H A.l (.lst xs)) p A { m with line:=l }:=by
 have d:=zhU h.nd
 have kp : Keep (fun b=>b ≠ A.l) H (upd H A.l (.lst xs)):=Keep.lst hy
 obtain ⟨zs,e1,e2⟩:=h.li.rows
 exact ⟨zgm h.ins hy,h.nd,⟨⟨zs,kp _ _ e1 (.inl d.cl),zbA kp e2⟩,kp _ _ h.li.lan (.inl d.Ll),zbH kp (fun a ha=>(d.ls a ha).2.2.1) h.li.lns,⟨xs,upd_same,zfz kp hx⟩,h.li.het.keep kp d.lh.symm,h.li.bar.keep kp d.lb.symm,kp _ _ h.li.txt (.inl d.lt.symm)⟩⟩
def mxD (m : Mx) : PyData:=.tuple [.str m.1,.int m.2]
def zen : Part -> PyData
 | none=>.str " "
 | some x=>mxD x
theorem zlV {K : PySem.W.Frag} {H : Hp} {v : V} {x : Mx} (h : Lan.zbS H v x) (hl : PyData.canLay0 (.str x.1) = true) : Den K H v (mxD x):=by
 obtain ⟨t,rfl,e⟩:=h
 exact .tup (SqT.of e) (.cons (.str _ hl) (.cons (.int _) .nil))
theorem zjb {K : PySem.W.Frag} {H : Hp} {v : V} {p : Part} (h : zcn H v p) (hl : ∀ x,p = some x -> PyData.canLay0 (.str x.1) = true) : Den K H v (zen p):=by
 cases p with
 | none =>
   have h : v = .str " ":=h
   rw [h]
   exact .str _ (by decide +kernel)
 | some x=>exact zlV h (hl x rfl)
theorem zhz {K : PySem.W.Frag} {H : Hp} : ∀ {xs : List V} {ms : List Mx},Paired (Lan.zbS H) xs ms -> (∀ m ∈ ms,PyData.canLay0 (.str m.1) = true) -> DenL K H xs (ms.map mxD)
 | _,_,.nil,_=>.nil
 | _,_,.cons h r,c=>.cons (zlV h (c _ List.mem_cons_self)) (zhz r fun x hx=>c x (List.mem_cons_of_mem _ hx))
theorem zfE {K : PySem.W.Frag} {H : Hp} : ∀ {xs : List V} {ms : List Part},Paired (zcn H) xs ms -> (∀ x,some x ∈ ms -> PyData.canLay0 (.str x.1) = true) -> DenL K H xs (ms.map zen)
 | _,_,.nil,_=>.nil
 | _,_,.cons h r,c=>.cons (zjb h fun x e=>c x (by rw [e]; exact List.mem_cons_self)) (zfE r fun x hx=>c x (List.mem_cons_of_mem _ hx))
theorem LnAt.den {K : PySem.W.Frag} {H : Hp} {a : Addr} {ms : List Mx} (h : LnAt H a ms) (hl : ∀ m ∈ ms,PyData.canLay0 (.str m.1) = true) : Den K H (.ref a) (.list (ms.map mxD)):=let ⟨_,e,z⟩:=h; .lst (SqL.of e) (zhz z hl)
theorem zlZ.den {K : PySem.W.Frag} {H : Hp} {a : Addr} {ms : List Part} (h : zlZ H a ms) (hl : ∀ x,some x ∈ ms -> PyData.canLay0 (.str x.1) = true) : Den K H (.ref a) (.list (ms.map zen)):=let ⟨_,e,z⟩:=h; .lst (SqL.of e) (zfE z hl)
theorem zcD {K : PySem.W.Frag} {H : Hp} {a : Addr} (h : H a = some (.lst [])) : Den K H (.ref a) (.list []):=.lst (SqL.of h) .nil
theorem zcx {α : Type} (f : α -> PyData) (l : List α) : PyData.eqv (.list (l.map f)) (.list []) = l.isEmpty:=by
 cases l with
 | nil=>rfl
 | cons a r=>rfl
theorem zcA (d : PyData) : min d.depth (PyData.list []).depth <= 64:=by
 have : (PyData.list []).depth = 1:=rfl
 omega
end Mc
namespace Mc
open PySem L2
theorem zdc {c : Cf} {m : Ms} (h : Cs.place c.rs (keyS c m) = none) : zaU c m = false:=by
 unfold zaU
 rw [h]
theorem zfM {c : Cf} {m : Ms} {k : Nat} (h : Cs.place c.rs (keyS c m) = some k) : zaU c m = zbJ m.lanes k:=by
 unfold zaU
 rw [h]
theorem zfO {ls : List (List Mx)} {k : Nat} {l : List Mx} (h : ls[k]? = some l) : zbJ ls k = l.isEmpty:=by
 unfold zbJ
 rw [h]
theorem Mac.lane {C : Addr} {ns : List Str} {c : Cf} {H : Hp} {p : Addr} {A : Adr} {m : Ms} {k : Nat} (h : Mac C ns c H p A m) (O : Ok c m) (hk : k < c.rs.length) : ∃ q l,A.ls[k]? = some q /\ m.lanes[k]? = some l /\ LnAt H q l /\ atI (A.ls.map V.ref) (k : Int) = some (.ref q):=by
 have hl : k < m.lanes.length:=by rw [O.ln]; exact hk
 obtain ⟨q,hq,hln⟩:=Cs.zdA h.li.lns (List.getElem?_eq_getElem hl)
 exact ⟨q,_,hq,List.getElem?_eq_getElem hl,hln,zaF (by rw [List.getElem?_map,hq]; rfl)⟩
theorem Ok.llay {c : Cf} {m : Ms} {k : Nat} {l : List Mx} (O : Ok c m) (h : m.lanes[k]? = some l) : ∀ x ∈ l,PyData.canLay0 (.str x.1) = true:=fun x hx=>(O.lm l (List.mem_of_getElem? h) x hx).1
theorem Ok.hlay {c : Cf} {m : Ms} (O : Ok c m) : ∀ x,some x ∈ m.heat -> PyData.canLay0 (.str x.1) = true:=fun x hx=>(O.hm x hx).1
theorem Ok.ilay {c : Cf} {m : Ms} (O : Ok c m) : ∀ x,some x ∈ m.line -> PyData.canLay0 (.str x.1) = true:=fun x hx=>(O.im x hx).1
theorem Ok.blay {c : Cf} {m : Ms} (O : Ok c m) : ∀ x ∈ m.bar,PyData.canLay0 (.str x.1) = true:=fun x hx=>(O.bm x hx).1
theorem Step.flds {H H' : Hp} {p C : Addr} {ns : List Str} {A : Adr} {vs vs' : List (Option V)} (h : zcy C ns H p vs) (h' : zcy C ns H' p vs') (k : ∀ b,b ≠ p -> H' b = H b) : Step p A H A H':=by
 obtain ⟨dx,fs,e,_⟩:=h
 obtain ⟨dx',fs',e',_⟩:=h'
 refine ⟨fun b o hb hs=>?_,fun b hb=>.inl hb,fun b o hb=>?_⟩
 ·rcases hs with ⟨hs,_⟩ | ⟨xs,z⟩
  ·rw [k b hs]
   exact hb
  ·subst z
   rw [k b (zbZ hb e fun z=>by cases z)]
   exact hb
 ·by_cases z : b = p
  ·rw [z]
   exact ⟨_,e'⟩
  ·exact ⟨o,by rw [k b z]; exact hb⟩
theorem Mac.setF {C : Addr} {ns : List Str} {c : Cf} {H H' : Hp} {p : Addr} {A : Adr} {m m' : Ms} (h : Mac C ns c H p A m) (i : zcy C ns H' p (vals c A m')) (k : ∀ b,b ≠ p -> H' b = H b)
 (e1 : m'.lanes = m.lanes) (e2 : m'.line = m.line) (e3 : m'.heat = m.heat) (e4 : m'.bar = m.bar) (e5 : m'.texts = m.texts) : Mac C ns c H' p A m':=by
 refine Mac.fields h.ins i k ⟨h.li.rows,h.li.lan,?_,?_,?_,?_,?_⟩ h.nd
 ·rw [e1]; exact h.li.lns
 ·rw [e2]; exact h.li.lin
 ·rw [e3]; exact h.li.het
 ·rw [e4]; exact h.li.bar
 ·rw [e5]; exact h.li.txt
theorem zhr {H : Hp} {xs : List V} {ps : List Part} {i : Nat} {x : V} (h : Paired (zcn H) xs ps) (hx : xs[i]? = some x) : ∃ p,ps[i]? = some p /\ zcn H x p:=Cs.zaX h hx
theorem zgH {ps : List Part} {i : Nat} {p : Part} (h : ps[i]? = some p) : mats (ps.take (i + 1)) = mats (ps.take i) ++ p.toList:=by
 unfold mats
 rw [List.take_add_one,h,List.filterMap_append]
 cases p <;> rfl
theorem nd_h {A : Adr} {e : Addr} (n : A.all.Nodup) (h : e ∉ A.all) : ({ A with h:=e } : Adr).all.Nodup:=by
 unfold Adr.all at n h ⊢
 simp only [List.nodup_cons,List.mem_cons,not_or] at n h ⊢
 obtain ⟨⟨a1,a2,a3,a4,a5,a6⟩,⟨b1,b2,b3,b4,b5⟩,⟨c1,c2,c3,c4⟩,⟨d1,d2,d3⟩,⟨e1,e2⟩,f1,n⟩:=n
 obtain ⟨h1,h2,h3,h4,h5,h6,h7⟩:=h
 exact ⟨⟨a1,a2,Ne.symm h1,a4,a5,a6⟩,⟨b1,Ne.symm h2,b3,b4,b5⟩,⟨Ne.symm h3,c2,c3,c4⟩,⟨h5,h6,h7⟩,⟨e1,e2⟩,f1,n⟩
theorem nd_s {A : Adr} {e : Addr} (n : A.all.Nodup) (h : e ∉ A.all) : ({ A with h:=A.l,l:=e } : Adr).all.Nodup:=by
 unfold Adr.all at n h ⊢
 simp only [List.nodup_cons,List.mem_cons,not_or] at n h ⊢
 obtain ⟨⟨a1,a2,a3,a4,a5,a6⟩,⟨b1,b2,b3,b4,b5⟩,⟨c1,c2,c3,c4⟩,⟨d1,d2,d3⟩,⟨e1,e2⟩,f1,n⟩:=n
 obtain ⟨h1,h2,h3,h4,h5,h6,h7⟩:=h
 exact ⟨⟨a1,Ne.symm h1,a2,a4,a5,a6⟩,⟨Ne.symm h2,b1,b3,b4,b5⟩,⟨h3,h5,h6,h7⟩,⟨c2,c3,c4⟩,⟨e1,e2⟩,f1,n⟩
theorem Mac.new {C : Addr} {ns : List Str} {c : Cf} {H : Hp} {p : Addr} {A : Adr} {m : Ms} {e : Addr} (h : Mac C ns c H p A m) (he : H e = none) : e ∉ A.all:=fun z=>by
 obtain ⟨xs,ex⟩:=h.li.is e z
 rw [he] at ex
 cases ex
theorem zka {c : Cf} {l : List Part} (h : ∀ x,some x ∈ l -> OkM c x) (hl : l.length <= 100000) : ((l.map zbz).map (·.length)).sum + (l.map zbz).length * (Str.ofString "").length <= 16777216:=by
 have h1:=Lns.zlz (fun x : Str=>x.length) 1 100000 (l.map zbz) (fun x hx=>by
  obtain ⟨p,hp,rfl⟩:=List.mem_map.mp hx
  cases p with
  | none=>exact Nat.le_refl 1
  | some x=>exact (h x hp).2.1) (by rw [List.length_map]; exact hl)
 have e : (Str.ofString "").length = 0:=by decide
 rw [e,Nat.mul_zero]
 have h1 : ((l.map zbz).map (·.length)).sum <= 100000 * 1:=h1
 omega
theorem zmp : PyData.eqv (.str " ") (.str " ") = true:=by decide +kernel
theorem Step.free {p : Addr} {A A' : Adr} {H H' : Hp} {b : Addr} (s : Step p A H A' H') (h : H' b = none) : H b = none:=by
 cases e : H b with
 | none=>rfl
 | some o =>
   obtain ⟨o',e'⟩:=s.al b o e
   rw [h] at e'
   cases e'
theorem Step.to {p : Addr} {A A1 A' : Adr} {H H' : Hp} (s : Step p A H A1 H') (h : ∀ b ∈ A'.all,b ∈ A1.all \/ H b = none) : Step p A H A' H':=⟨s.fr,fun b hb=>(h b hb).elim (s.nw b) .inr,s.al⟩
theorem zvk {A : Adr} {e : Addr} {H : Hp} (he : H e = none) : ∀ b ∈ ({ A with h:=e } : Adr).all,b ∈ A.all \/ H b = none:=by
 intro b hb
 unfold Adr.all at hb ⊢
 simp only [List.mem_cons] at hb ⊢
 rcases hb with rfl | rfl | rfl | rfl | rfl | rfl | hb
 ·exact .inl (.inl rfl)
 ·exact .inl (.inr (.inl rfl))
 ·exact .inl (.inr (.inr (.inl rfl)))
 ·exact .inr he
 ·exact .inl (.inr (.inr (.inr (.inr (.inl rfl)))))
 ·exact .inl (.inr (.inr (.inr (.inr (.inr (.inl rfl))))))
 ·exact .inl (.inr (.inr (.inr (.inr (.inr (.inr hb))))))
theorem zuD {A : Adr} {e : Addr} {H : Hp} (he : H e = none) : ∀ b ∈ ({ A with h:=A.l,l:=e } : Adr).all,b ∈ A.all \/ H b = none:=by
 intro b hb
 unfold Adr.all at hb ⊢
 simp only [List.mem_cons] at hb ⊢
 rcases hb with rfl | rfl | rfl | rfl | rfl | rfl | hb
 ·exact .inl (.inl rfl)
 ·exact .inl (.inr (.inl rfl))
 ·exact .inr he
 ·exact .inl (.inr (.inr (.inl rfl)))
 ·exact .inl (.inr (.inr (.inr (.inr (.inl rfl)))))
 ·exact .inl (.inr (.inr (.inr (.inr (.inr (.inl rfl))))))
 ·exact .inl (.inr (.inr (.inr (.inr (.inr (.inr hb))))))
theorem sgD {c d : Nat} : decide (V.str (sg c) = V.str (sg d)) = decide (c = d):=by
 rw [Cs.strV,decide_eq_decide]
 refine ⟨fun h=>?_,fun h=>by rw [h]⟩
 have h : (#[c] : Array Nat) = #[d]:=congrArg Str.cps h
 simpa using h
theorem zhJ {c : Cf} {m : Ms} {k : Nat} (h : key c m = some k) : keyS c m = sg k:=by
 unfold keyS
 rw [h]
theorem zgX {c : Cf} {m : Ms} (h : key c m = none) : keyS c m = "":=by
 unfold keyS
 rw [h]
def zaP (rs : List Cs.Row) : List (List Mx):=rs.map fun r=>List.replicate r.n.toNat (r.s,r.t)
def start (rs : List Cs.Row) : Ms:=⟨zaP rs,[],[],0,[],[],0,0,0⟩
theorem zft {H0 H : Hp} {no : Addr} {zs : List V} {ms : List (List Mx)} (h : Paired (Lan.zcd H0 no H) zs ms) (hn : zs.Nodup) : ∃ ls : List Addr,zs = ls.map V.ref /\ Paired (LnAt H) ls ms /\ (no :: ls).Nodup /\ ∀ z ∈ ls,H0 z = none:=by
 induction h with
 | nil=>exact ⟨[],rfl,.nil,by simp,fun z hz=>nomatch hz⟩
 | cons x t ih =>
   obtain ⟨p,xs,e,n,f,z,m⟩:=x
   obtain ⟨hn1,hn2⟩:=List.nodup_cons.mp hn
   obtain ⟨ls,e2,h2,h3,h4⟩:=ih hn2
   obtain ⟨h31,h32⟩:=List.nodup_cons.mp h3
   refine ⟨p :: ls,by rw [e,e2]; rfl,.cons ⟨xs,z,m⟩ h2,?_,fun y hy=>?_⟩
   ·rw [List.nodup_cons,List.nodup_cons]
    refine ⟨fun hz=>?_,fun hz=>?_,h32⟩
    ·rcases List.mem_cons.mp hz with hz | hz
     ·exact n hz.symm
     ·exact h31 hz
    ·rw [e,e2] at hn1
     exact hn1 (List.mem_map_of_mem hz)
   ·rcases List.mem_cons.mp hy with hy | hy
    ·rw [hy]; exact f
    ·exact h4 y hy
def Off (p : Addr) (H H' : Hp) : Prop:=∀ b o,b ≠ p -> H b = some o -> H' b = some o
theorem Off.of_same {p : Addr} {H H' : Hp} (s : Same H H') : Off p H H':=fun b o _ h=>s b o h
theorem Off.of_fld {p : Addr} {H H' : Hp} (k : ∀ b,b ≠ p -> H' b = H b) : Off p H H':=fun b o hb h=>(k b hb).trans h
theorem Off.trans {p : Addr} {H H1 H2 : Hp} (a : Off p H H1) (b : Off p H1 H2) : Off p H H2:=fun x o hx h=>b x o hx (a x o hx h)
theorem Off.free {p C : Addr} {ns : List Str} {vs : List (Option V)} {H H' : Hp} {b : Addr} (o : Off p H H') (i : zcy C ns H' p vs) (h : H' b = none) : H b = none:=by
 cases e : H b with
 | none=>rfl
 | some x =>
   have hb : b ≠ p:=fun z=>by
    obtain ⟨dx,fs,e',_⟩:=i
    rw [z,e'] at h
    cases h
   rw [o b x hb e] at h
   cases h
theorem Off.keep {p C : Addr} {ns : List Str} {vs : List (Option V)} {H H' : Hp} (i : zcy C ns H p vs) (o : Off p H H') : Keep (fun b=>b ≠ p) H H':=fun b u hb hs=>by
 obtain ⟨dx,fs,e,_⟩:=i
 rcases hs with hs | ⟨xs,z⟩
 ·exact o b u hs hb
 ·subst z
  exact o b _ (zbZ hb e fun z=>by cases z) hb
theorem zgN {p C q : Addr} {ns : List Str} {vs : List (Option V)} {H : Hp} {xs : List V} (i : zcy C ns H p vs) (h : H q = some (.lst xs)) : q ≠ p:=by
 obtain ⟨dx,fs,e,_⟩:=i
 exact zbZ h e fun z=>by cases z
theorem zbR {p C q : Addr} {ns : List Str} {vs : List (Option V)} {H : Hp} (i : zcy C ns H p vs) (h : H q = none) : q ≠ p:=fun e=>by
 obtain ⟨dx,fs,e',_⟩:=i
 rw [e,e'] at h
 cases h
def Wd (rs : List Cs.Row) (m : Nat) (x : Str) : Prop:=1 <= x.length /\ x.length <= m /\ ∀ c ∈ x.cps.toList,c ∈ Cs.signs /\ (Cs.place rs (sg c)).isSome = true
theorem zaV : ∀ c ∈ Cs.signs,Lns.isS c = true /\ c < 0x110000 /\ c ≠ 47 /\ c ≠ 32:=by decide +kernel
theorem Wd.settable {rs : List Cs.Row} {m : Nat} {x : Str} (h : Wd rs m x) : Lns.zco rs x:=⟨h.1,fun c hc=>⟨(zaV c (h.2.2 c hc).1).1,(h.2.2 c hc).2⟩⟩
theorem Wd.lay {rs : List Cs.Row} {m : Nat} {x : Str} (h : Wd rs m x) : PyData.canLay0 (.str x) = true:=by
 show (x.cps.all fun c=>decide (c < 0x110000)) = true
 rw [<- Array.all_toList,List.all_eq_true]
 exact fun c hc=>decide_eq_true (zaV c (h.2.2 c hc).1).2.1
structure Lines (rs : List Cs.Row) (ls : List (List Str)) : Prop where
 few : ls.length <= 64
 one : ∀ l ∈ ls,l ≠ [] /\ l.length <= 63 /\ ∀ x ∈ l,Wd rs 5 x
theorem Lines.ok {rs : List Cs.Row} {ls : List (List Str)} (h : Lines rs ls) : ∀ l ∈ ls,l ≠ [] /\ ∀ x ∈ l,Lns.zco rs x:=fun l hl=>⟨(h.one l hl).1,fun x hx=>((h.one l hl).2.2 x hx).settable⟩
structure Sep (p : Addr) (A : Adr) (q : Addr) (B : Adr) : Prop where
 pq : p ≠ q
 pB : p ∉ B.all
 qA : q ∉ A.all
 AB : ∀ a ∈ A.all,a ∉ B.all
theorem Sep.symm {p q : Addr} {A B : Adr} (h : Sep p A q B) : Sep q B p A:=⟨h.pq.symm,h.qA,h.pB,fun a ha hb=>h.AB a hb ha⟩
theorem Mac.has {C : Addr} {ns : List Str} {c : Cf} {H : Hp} {p : Addr} {A : Adr} {m : Ms} (h : Mac C ns c H p A m) : (∃ o,H p = some o) /\ ∀ a ∈ A.all,∃ o,H a = some o:=by
 refine ⟨?_,fun a ha=>?_⟩
 ·obtain ⟨dx,fs,e,_⟩:=h.ins
  exact ⟨_,e⟩
 ·obtain ⟨xs,e⟩:=h.li.is a ha
  exact ⟨_,e⟩
theorem Sep.step {C : Addr} {ns : List Str} {c : Cf} {H H' : Hp} {p q : Addr} {A A' B : Adr} {m : Ms} (h : Sep p A q B) (s : Step p A H A' H') (M : Mac C ns c H q B m) : Sep p A' q B:=by
 obtain ⟨⟨oq,hq⟩,hB⟩:=M.has
 refine ⟨h.pq,h.pB,fun z=>?_,fun a ha hb=>?_⟩
 ·rcases s.nw q z with z | z
  ·exact h.qA z
  ·rw [hq] at z
   cases z
 ·rcases s.nw a ha with z | z
  ·exact h.AB a z hb
  ·obtain ⟨o,e⟩:=hB a hb
   rw [e] at z
   cases z
theorem zkE (c : Cf) (m : Ms) : (send c m).done = m.done:=by
 unfold send
 split <;> rfl
theorem zlJ (m : Ms) (k : Nat) : (pick m k).done = m.done:=by
 unfold pick
 split <;> rfl
theorem ziB (c : Cf) (m : Ms) : (strike c m).done = m.done:=by
 unfold strike
 split
 ·rfl
 ·split
  ·exact zkE c m
  ·split
   ·rfl
   ·split
    ·rfl
    ·split
     ·exact zlJ _ _
     ·rfl
theorem zlS (c : Cf) (m : Ms) : (tick c m).done = m.done + 1:=by
 show (strike c (cool (fall c m))).done + 1 = _
 rw [ziB,(zer (fall c m)).2.2.2.1,(zev c m).2.2.2.2.2.1]
structure Rows (rs : List Cs.Row) : Prop where
 few : rs.length <= 30
 sg : ∀ r ∈ rs,∃ c ∈ Cs.signs,r.s = L2.sg c
 th : ∀ r ∈ rs,0 <= r.t /\ r.t < 128
 mn : ∀ r ∈ rs,0 <= r.n /\ r.n <= 40
theorem Rows.none {rs : List Cs.Row} (R : Rows rs) {x : Str} (h : ∀ c ∈ Cs.signs,L2.sg c ≠ x) : Cs.place rs x = Option.none:=Cs.zfI fun j r _ hr=>by
 obtain ⟨c,hc,e⟩:=R.sg r (List.mem_of_getElem? hr)
 rw [e]
 exact h c hc
theorem zjP {c d : Nat} (h : L2.sg c = L2.sg d) : c = d:=by
 have h : (#[c] : Array Nat) = #[d]:=congrArg Str.cps h
 simpa using h
theorem Rows.sign {rs : List Cs.Row} (R : Rows rs) {k : Nat} (h : (Cs.place rs (L2.sg k)).isSome = true) : k ∈ Cs.signs:=by
 obtain ⟨j,hj⟩:=Option.isSome_iff_exists.mp h
 obtain ⟨r,hr,e⟩:=Cs.zcO hj
 obtain ⟨c,hc,e2⟩:=R.sg r (List.mem_of_getElem? hr)
 rw [e] at e2
 rw [zjP e2]
 exact hc
theorem Rows.okC {rs : List Cs.Row} (R : Rows rs) {ls : List (List Str)} {z : Int} (hk : (Lns.keyT ls).length <= 90000) (hs : ∀ l ∈ ls,l ≠ [] /\ ∀ x ∈ l,Lns.zco rs x) (hz : 1 <= z) : OkC ⟨rs,Lns.keyT ls,z⟩:=by
 have ok : Lns.zbh rs false (Lns.keyT ls).cps.toList = true:=Lns.ziA hs
 have kn : ∀ k ∈ (Lns.keyT ls).cps.toList,k = 47 \/ k = 32 \/ ((Cs.place rs (L2.sg k)).isSome = true /\ k ≠ 47 /\ k ≠ 32):=fun k hk=>by
  obtain ⟨i,hi,e⟩:=List.getElem_of_mem hk
  have h:=Lns.zks ok i k (by rw [List.getElem?_eq_getElem hi,e])
  by_cases h1 : k = 47
  ·exact .inl h1
  by_cases h2 : k = 32
  ·exact .inr (.inl h2)
  have hs : Lns.isS k = true:=by
   unfold Lns.isS
   rw [decide_eq_false h1,decide_eq_false h2]
   rfl
  rw [if_pos hs] at h
  exact .inr (.inr ⟨h,h1,h2⟩)
 refine ⟨R.few,hk,kn,?_,⟨R.none fun c hc e=>?_,R.none fun c hc e=>?_,R.none fun c hc e=>?_⟩,hz,R.th,?_⟩
 ·by_cases e : ls = []
  ·rw [e]
   exact .inl rfl
  ·exact .inr (Lns.zja ls e)
 ·exact (zaV c hc).2.2.1 (zjP e)
 ·exact (zaV c hc).2.2.2 (zjP e)
 ·cases e
 ·show ((Lns.keyT ls).cps.all fun c=>decide (c < 0x110000)) = true
  rw [<- Array.all_toList,List.all_eq_true]
  intro k hk
  refine decide_eq_true ?_
  rcases kn k hk with h | h | ⟨h,_,_⟩
  ·omega
  ·omega
  ·exact (zaV k (R.sign h)).2.1
theorem zkN {cs : List Int} {t : Int} (h : t ∈ cs) : ∃ k,Mt.zaG cs t = some k /\ k < cs.length:=by
 cases e : Mt.zaG cs t with
 | none =>
   unfold Mt.zaG at e
   rw [List.findIdx?_eq_none_iff] at e
   have:=e t h
   rw [Mt.zgd] at this
   cases this
 | some k =>
   refine ⟨k,rfl,?_⟩
   unfold Mt.zaG at e
   obtain ⟨hi,_⟩:=List.findIdx?_eq_some_iff_getElem.mp e
   exact hi
theorem Rows.okM {rs : List Cs.Row} (R : Rows rs) {c : Cf} (hc : c.rs = rs) {r : Cs.Row} (h : r ∈ rs) : OkM c (r.s,r.t):=by
 obtain ⟨d,hd,e⟩:=R.sg r h
 obtain ⟨h1,h2⟩:=R.th r h
 obtain ⟨k,hk,hkl⟩:=zkN (cs:=c.rs.map fun r=>r.t) (t:=r.t) (by rw [hc]; exact List.mem_map_of_mem h)
 refine ⟨?_,?_,h1,h2,k,hk,by rw [List.length_map] at hkl; exact hkl⟩
 ·show PyData.canLay0 (.str r.s) = true
  rw [e]
  exact Cs.zkG d hd
 ·show r.s.length <= 1
  rw [e]
  exact Nat.le_refl _
theorem zjN {rs : List Cs.Row} (h : ∀ r ∈ rs,0 <= r.n /\ r.n <= 40) : ((zaP rs).map List.length).sum <= rs.length * 40:=by
 unfold zaP
 rw [List.map_map]
 refine Lns.zhO (List.length ∘ fun r : Cs.Row=>List.replicate r.n.toNat (r.s,r.t)) 40 rs fun r hr=>?_
 show (List.replicate r.n.toNat (r.s,r.t)).length <= 40
 rw [List.length_replicate]
 have:=h r hr
 omega
theorem Rows.ok {rs : List Cs.Row} (R : Rows rs) {c : Cf} (hc : c.rs = rs) (O : OkC c) : Ok c (start rs):=by
 have hf:=R.few
 refine ⟨O,?_,fun l hl x hx=>?_,(fun x hx=>nomatch hx),(fun x hx=>nomatch hx),(fun x hx=>nomatch hx),Nat.zero_le _,fun _=>rfl,?_,Nat.le_refl _,(fun x hx=>nomatch hx),fun z=>absurd rfl z⟩
 ·show (zaP rs).length = c.rs.length
  unfold zaP
  rw [List.length_map,hc]
 ·obtain ⟨r,hr,rfl⟩:=List.mem_map.mp hl
  rw [List.eq_of_mem_replicate hx]
  exact R.okM hc hr
 ·have h:=zjN R.mn
  show ((zaP rs).map List.length).sum + 0 + 0 + 0 <= 2000 + 0
  omega
theorem zmI {rs : List Cs.Row} {l : List Str} {n : Nat} (h1 : l.length <= n) (h2 : ∀ x ∈ l,Wd rs 5 x) : (Lns.zbc l).length <= n * 6:=by
 have a:=Lns.zlz (fun x : Str=>x.length) 5 n l (fun x hx=>(h2 x hx).2.1) h1
 have a : (l.map (·.length)).sum <= n * 5:=a
 have b:=StrLaws.join_length_le " " l
 have e : (Str.ofString " ").length = 1:=by decide
 unfold Lns.zbc Txt.join
 rw [StrLaws.glued_eq_join]
 have b : (Str.join " " l).length <= (l.map (·.length)).sum + l.length * (Str.ofString " ").length:=b
 rw [e] at b
 omega
theorem zhk {rs : List Cs.Row} {n : Nat} : ∀ {ls : List (List Str)},(∀ l ∈ ls,l.length <= n /\ ∀ x ∈ l,Wd rs 5 x) -> (Lns.keyT ls).length <= ls.length * (n * 6 + 1)
 | [],_=>Nat.le_trans (Nat.le_of_eq (show (Str.ofString "").length = 0 by decide)) (Nat.zero_le _)
 | l :: r,h=>by
   obtain ⟨h1,h2⟩:=h l List.mem_cons_self
   have a:=zmI h1 h2
   have b:=zhk fun l hl=>h l (List.mem_cons_of_mem _ hl)
   show (Lns.zbc l ++ "/" ++ Lns.keyT r).length <= _
   rw [Str.length_append,Str.length_append,List.length_cons,Nat.succ_mul]
   have e : ("/" : Str).length = 1:=by decide
   omega
theorem Lines.short {rs : List Cs.Row} {ls : List (List Str)} (h : Lines rs ls) : (Lns.keyT ls).length <= 90000:=by
 have a:=zhk (n:=63) fun l hl=>(h.one l hl).2
 have b:=h.few
 have c : ls.length * (63 * 6 + 1) <= 64 * (63 * 6 + 1):=Nat.mul_le_mul_right _ b
 omega
theorem Step.list {C : Addr} {ns : List Str} {c : Cf} {H H' : Hp} {p X : Addr} {A A' : Adr} {m : Ms} {ys : List V} (s : Step p A H A' H') (M : Mac C ns c H p A m) (h : H X = some (.lst ys)) (n : X ∉ A.all) : H' X = some (.lst ys) /\ X ∉ A'.all:=by
 refine ⟨s.fr X _ h (.inl ⟨zgN M.ins h,n⟩),fun z=>?_⟩
 rcases s.nw X z with z | z
 ·exact n z
 ·rw [h] at z
  cases z
theorem zgF {C dx p : Addr} {H H' : Hp} (hp : H p = none) (hd : H dx = none) (o : Off p (upd (upd H dx (.own p)) p (.ins C dx [])) H') : Same H H':=fun b u hb=>by
 have n1:=zaq hb hp
 exact o b u n1 (by rw [zai n1,zai (zaq hb hd)]; exact hb)
theorem zjh {C dx p b : Addr} {H : Hp} (hp : H p = none) (hd : H dx = none) (h : upd (upd H dx (.own p)) p (.ins C dx []) b = none) : H b = none:=by
 cases e : H b with
 | none=>rfl
 | some u =>
   rw [zai (zaq e hp),zai (zaq e hd),e] at h
   cases h
theorem ix0 (v : V) (vs : List V) : seqIndex? 0 (v :: vs).length = some 0:=by
 have h : decide ((0 : Int) < ((v :: vs).length : Int)) = true:=decide_eq_true (by rw [List.length_cons]; omega)
 show (if (decide ((0 : Int) <= 0) && decide ((0 : Int) < ((v :: vs).length : Int))) = true then some (Int.toNat 0) else none) = some 0
 rw [h]
 rfl
end Mc
namespace Mc
open PySem L2
structure Rt (c : Cf) : Prop where
 fl : ∀ (j : Nat) r,c.rs[j]? = some r -> Mt.zaG (c.rs.map fun r=>r.t) r.t = some j
 pl : ∀ (j : Nat) r,c.rs[j]? = some r -> Cs.place c.rs r.s = some j
 sg : ∀ r ∈ c.rs,∃ k ∈ Cs.signs,r.s = L2.sg k
 gd : Lns.zbh c.rs false c.keys.cps.toList = true
def out (m : Ms) (x : Mx) : Nat:=(mats m.line).count x + (mats m.heat).count x + m.bar.count x
def flat (ts : List (List Nat)) : List Nat:=ts.flatMap fun t=>t ++ [47]
def cps (t : Str) : List Nat:=t.cps.toList
def hot (m : Ms) : List Nat:=if m.heat.isEmpty = true then [] else cps (zaM m.heat) ++ [47]
def Own (c : Cf) (x : Mx) : Prop:=∃ (j : Nat) (r : Cs.Row),c.rs[j]? = some r /\ x = (r.s,r.t)
structure Gd (c : Cf) (m : Ms) : Prop where
 ow : ∀ (j : Nat) l,m.lanes[j]? = some l -> ∃ r,c.rs[j]? = some r /\ ∀ x ∈ l,x = (r.s,r.t)
 il : ∀ x ∈ mats m.line,Own c x
 ih : ∀ x ∈ mats m.heat,Own c x
 ib : ∀ x ∈ m.bar,Own c x
 ct : ∀ (j : Nat) r l,c.rs[j]? = some r -> m.lanes[j]? = some l -> l.length + out m (r.s,r.t) = r.n.toNat
 tx : flat (m.texts.map cps) ++ hot m ++ cps (zaM m.line) = c.keys.cps.toList.take m.at_
 lm : ∀ t ∈ m.texts,∀ r ∈ c.rs,∀ k,r.s = L2.sg k -> (cps t).count k <= r.n.toNat
 pn : ∀ t ∈ m.texts,47 ∉ cps t
theorem zdb (l : List Part) : cps (zaM l) = l.flatMap fun p=>cps (zbz p):=by
 unfold zaM
 induction l with
 | nil=>rfl
 | cons p r ih =>
   have e : Txt.join "" ((p :: r).map zbz) = zbz p ++ Txt.join "" (r.map zbz):=zdR _ _
   rw [e]
   show (zbz p ++ Txt.join "" (r.map zbz)).cps.toList = _
   have e2 : (zbz p ++ Txt.join "" (r.map zbz)).cps.toList = (zbz p).cps.toList ++ (Txt.join "" (r.map zbz)).cps.toList:=Array.toList_append
   rw [e2,List.flatMap_cons]
   show _ ++ cps (Txt.join "" (r.map zbz)) = _
   rw [ih]
   rfl
theorem zjG (l : List Part) (p : Part) : cps (zaM (l ++ [p])) = cps (zaM l) ++ cps (zbz p):=by
 rw [zdb,zdb,List.flatMap_append]
 simp
theorem zkz (k : Nat) : cps (L2.sg k) = [k]:=rfl
theorem zoo {c : Cf} (R : Rt c) {r r' : Cs.Row} {j j' : Nat} (h : c.rs[j]? = some r) (h' : c.rs[j']? = some r') (e : r'.s = r.s) : r' = r:=by
 have h1:=R.pl j r h
 have h2:=R.pl j' r' h'
 rw [e,h1] at h2
 cases h2
 rw [h] at h'
 exact (Option.some.inj h').symm
theorem zcj (p : Part) (l : List Part) : mats (p :: l) = p.toList ++ mats l:=by
 unfold mats
 cases p <;> rfl
theorem zcY {c : Cf} (R : Rt c) {r : Cs.Row} {j k : Nat} (h : c.rs[j]? = some r) (hk : r.s = L2.sg k) : ∀ {l : List Part},(∀ x ∈ mats l,Own c x) -> (cps (zaM l)).count k = (mats l).count (r.s,r.t)
 | [],_=>rfl
 | p :: l,hl=>by
   have ih:=zcY R h hk (l:=l) fun x hx=>hl x (by rw [zcj]; exact List.mem_append_right _ hx)
   rw [zdb] at ih ⊢
   rw [List.flatMap_cons,List.count_append,ih,zcj,List.count_append]
   congr 1
   obtain ⟨d,hd,ed⟩:=R.sg r (List.mem_of_getElem? h)
   have ekd : k = d:=zjP (hk.symm.trans ed)
   have hkp:=zaV d hd
   cases p with
   | none =>
     show List.count k [32] = 0
     rw [List.count_eq_zero]
     intro z
     rw [List.mem_singleton] at z
     exact hkp.2.2.2 (ekd ▸ z)
   | some x =>
     obtain ⟨j',r',h',e⟩:=hl x (by rw [zcj]; exact List.mem_append_left _ (by simp))
     subst e
     obtain ⟨d',_,e'⟩:=R.sg r' (List.mem_of_getElem? h')
     show List.count k (cps r'.s) = List.count (r.s,r.t) [(r'.s,r'.t)]
     rw [e',zkz]
     by_cases ek : k = d'
     ·have es : r'.s = r.s:=by rw [e',hk,ek]
      have er:=zoo R h h' es
      rw [<- e',er,ek]
      simp
     ·have hne : ¬ (L2.sg d',r'.t) = (r.s,r.t):=fun z=>by
       have z1:=congrArg Prod.fst z
       rw [hk] at z1
       exact ek (zjP z1).symm
      rw [List.count_eq_zero.mpr (fun z=>ek (List.mem_singleton.mp z)),List.count_eq_zero.mpr (fun z=>hne (List.mem_singleton.mp z).symm)]
theorem zes {c : Cf} (R : Rt c) {l : List Part} (h : ∀ x ∈ mats l,Own c x) : 47 ∉ cps (zaM l):=by
 rw [zdb]
 intro z
 obtain ⟨p,hp,hz⟩:=List.mem_flatMap.mp z
 cases p with
 | none =>
   have hz : 47 ∈ ([32] : List Nat):=hz
   exact absurd hz (by decide)
 | some x =>
   obtain ⟨j,r,hr,e⟩:=h x (List.mem_filterMap.mpr ⟨some x,hp,rfl⟩)
   subst e
   obtain ⟨d,hd,ed⟩:=R.sg r (List.mem_of_getElem? hr)
   have hz : 47 ∈ cps r.s:=hz
   rw [ed,zkz,List.mem_singleton] at hz
   exact (zaV d hd).2.2.1 hz.symm
theorem zkX {m : Ms} {x y : Mx} {r : List Mx} (h : m.bar = y :: r) : out m x = out { m with bar:=r } x + (if y = x then 1 else 0):=by
 unfold out
 rw [h,List.count_cons]
 show _ + (List.count x r + if (y == x) = true then 1 else 0) = (mats m.line).count x + (mats m.heat).count x + r.count x + _
 by_cases e : y = x
 ·rw [if_pos e,if_pos (by rw [e]; exact beq_self_eq_true x)]
  omega
 ·rw [if_neg e,if_neg (fun z=>e (beq_iff_eq.mp z))]
  omega
theorem zgl {ls : List (List Mx)} {i j : Nat} {v l : List Mx} (h : (ls.set j v)[i]? = some l) : (i = j /\ l = v) \/ (i ≠ j /\ ls[i]? = some l):=by
 rw [List.getElem?_set] at h
 by_cases e : j = i
 ·rw [if_pos e] at h
  split at h
  ·exact .inl ⟨e.symm,(Option.some.inj h).symm⟩
  ·cases h
 ·rw [if_neg e] at h
  exact .inr ⟨fun z=>e z.symm,h⟩
theorem Gd.fall {c : Cf} {m : Ms} (R : Rt c) (O : Ok c m) (g : Gd c m) : Gd c (fall c m):=by
 unfold Mc.fall
 cases hb : m.bar with
 | nil=>exact g
 | cons x r =>
   obtain ⟨j,q,hq,ex⟩:=g.ib x (by rw [hb]; exact List.mem_cons_self)
   have hfl:=R.fl j q hq
   have e2 : x.2 = q.t:=by rw [ex]
   show Gd c (match Mt.zaG (c.rs.map fun r=>r.t) x.2 with
    | some k=>{ m with bar:=r,lanes:=zbM m.lanes k x }
    | none=>m)
   rw [e2,hfl]
   show Gd c { m with bar:=r,lanes:=zbM m.lanes j x }
   have hjl : j < m.lanes.length:=by rw [O.ln]; exact (List.getElem?_eq_some_iff.mp hq).1
   have hg : m.lanes[j]? = some m.lanes[j]:=List.getElem?_eq_getElem hjl
   have ea : zbM m.lanes j x = m.lanes.set j (m.lanes[j] ++ [x]):=by unfold zbM; rw [hg]
   rw [ea]
   refine ⟨?_,g.il,g.ih,fun y hy=>g.ib y (by rw [hb]; exact List.mem_cons_of_mem _ hy),?_,g.tx,g.lm,g.pn⟩
   ·intro i l hl
    rcases zgl hl with ⟨rfl,rfl⟩ | ⟨hne,hl⟩
    ·obtain ⟨q',hq',ho⟩:=g.ow i _ hg
     rw [hq] at hq'
     cases hq'
     refine ⟨q,hq,fun y hy=>?_⟩
     rcases List.mem_append.mp hy with hy | hy
     ·exact ho y hy
     ·rw [List.mem_singleton.mp hy]
      exact ex
    ·exact g.ow i l hl
   ·intro i q' l hq' hl
    rcases zgl hl with ⟨rfl,rfl⟩ | ⟨hne,hl⟩
    ·rw [hq] at hq'
     cases hq'
     have h1:=g.ct i q _ hq hg
     rw [zkX (x:=(q.s,q.t)) hb,if_pos ex] at h1
     rw [List.length_append]
     show m.lanes[i].length + 1 + out { m with bar:=r } (q.s,q.t) = _
     omega
    ·have h1:=g.ct i q' l hq' hl
     rw [zkX (x:=(q'.s,q'.t)) hb,if_neg (fun z=>?_)] at h1
     ·exact h1
     ·rw [ex] at z
      have z1:=congrArg Prod.fst z
      have h2:=R.pl j q hq
      rw [show q.s = q'.s from z1,R.pl i q' hq'] at h2
      exact hne (Option.some.inj h2)
theorem Gd.cool {c : Cf} {m : Ms} (R : Rt c) (O : Ok c m) (g : Gd c m) : Gd c (cool m):=by
 unfold Mc.cool
 split
 ·exact g
 ·rename_i he
  split
  ·refine ⟨g.ow,g.il,(fun x hx=>nomatch hx),?_,?_,?_,?_,?_⟩
   ·intro x hx
    rcases List.mem_append.mp hx with hx | hx
    ·exact g.ib x hx
    ·exact g.ih x hx
   ·intro j r l hr hl
    have h1:=g.ct j r l hr hl
    unfold out at h1 ⊢
    show l.length + ((mats m.line).count (r.s,r.t) + 0 + (m.bar ++ mats m.heat).count (r.s,r.t)) = _
    rw [List.count_append]
    omega
   ·have h1:=g.tx
    unfold hot at h1 ⊢
    rw [if_neg he] at h1
    rw [<- h1]
    show flat ((m.texts ++ [zaM m.heat]).map cps) ++ [] ++ cps (zaM m.line) = _
    unfold flat
    rw [List.map_append,List.flatMap_append]
    simp
   ·intro t ht r hr k hk
    rcases List.mem_append.mp ht with ht | ht
    ·exact g.lm t ht r hr k hk
    ·rw [List.mem_singleton.mp ht]
     obtain ⟨j,hj,e⟩:=List.getElem_of_mem hr
     have hr' : c.rs[j]? = some r:=by rw [List.getElem?_eq_getElem hj,e]
     rw [zcY R hr' hk g.ih]
     have hjl : j < m.lanes.length:=by rw [O.ln]; exact hj
     have h1:=g.ct j r _ hr' (List.getElem?_eq_getElem hjl)
     unfold out at h1
     omega
   ·intro t ht
    rcases List.mem_append.mp ht with ht | ht
    ·exact g.pn t ht
    ·rw [List.mem_singleton.mp ht]
     exact zes R g.ih
  ·refine ⟨g.ow,g.il,g.ih,g.ib,g.ct,?_,g.lm,g.pn⟩
   have h1:=g.tx
   unfold hot at h1 ⊢
   exact h1
theorem zdB {c : Cf} {m : Ms} {k : Nat} (h : key c m = some k) : c.keys.cps.toList.take (m.at_ + 1) = c.keys.cps.toList.take m.at_ ++ [k]:=by
 rw [List.take_add_one,show c.keys.cps.toList[m.at_]? = some k from h]
 rfl
theorem Gd.line_ne {c : Cf} {m : Ms} (R : Rt c) (g : Gd c m) (h : key c m = some 47) : m.line ≠ []:=by
 intro e
 have hon:=Lns.zks R.gd m.at_ 47 h
 rw [if_neg (by decide)] at hon
 rcases hon with ⟨_,z⟩ | ⟨i,d,hi,hd,hs⟩
 ·cases z
 ·have h1:=g.tx
  rw [e,hi] at h1
  have hil : i < c.keys.cps.toList.length:=(List.getElem?_eq_some_iff.mp hd).1
  rw [List.take_add_one,hd] at h1
  have h1 : flat (m.texts.map cps) ++ hot m ++ [] = c.keys.cps.toList.take i ++ [d]:=h1
  rw [List.append_nil] at h1
  have hd47 : d ≠ 47:=fun z=>by rw [z] at hs; exact absurd hs (by decide)
  by_cases hh : m.heat.isEmpty = true
  ·have hot0 : hot m = []:=by unfold hot; rw [if_pos hh]
   rw [hot0,List.append_nil] at h1
   rcases List.eq_nil_or_concat m.texts with z | ⟨a,t,z⟩
   ·rw [z] at h1
    have h2:=congrArg List.length h1
    rw [List.length_append] at h2
    have h2 : 0 = _ + 1:=h2
    omega
   ·rw [z] at h1
    unfold flat at h1
    rw [List.concat_eq_append,List.map_append,List.flatMap_append] at h1
    have h1 : (a.map cps).flatMap (fun t=>t ++ [47]) ++ (cps t ++ [47] ++ []) = c.keys.cps.toList.take i ++ [d]:=by simpa using h1
    rw [List.append_nil,<- List.append_assoc] at h1
    have h3:=(List.append_inj' h1 rfl).2
    cases h3
    exact hd47 rfl
  ·have hot1 : hot m = cps (zaM m.heat) ++ [47]:=by unfold hot; rw [if_neg hh]
   rw [hot1,<- List.append_assoc] at h1
   have h3:=(List.append_inj' h1 rfl).2
   cases h3
   exact hd47 rfl
theorem Gd.send {c : Cf} {m : Ms} (R : Rt c) (g : Gd c m) (hk : key c m = some 47) : Gd c (send c m):=by
 unfold Mc.send
 split
 ·rename_i he
  have hn : m.heat = []:=List.isEmpty_iff.mp he
  refine ⟨g.ow,(fun x hx=>nomatch hx),g.il,g.ib,?_,?_,g.lm,g.pn⟩
  ·intro j r l hr hl
   have h1:=g.ct j r l hr hl
   unfold out at h1 ⊢
   rw [hn] at h1
   have e : (mats []).count (r.s,r.t) = 0:=rfl
   show l.length + (0 + (mats m.line).count (r.s,r.t) + m.bar.count (r.s,r.t)) = _
   omega
  ·have hne:=g.line_ne R hk
   have hl : m.line.isEmpty = false:=by
    cases e : m.line with
    | nil=>exact absurd e hne
    | cons _ _=>rfl
   have h1:=g.tx
   unfold hot at h1
   rw [if_pos he] at h1
   show flat (m.texts.map cps) ++ (if m.line.isEmpty = true then [] else cps (zaM m.line) ++ [47]) ++ [] = c.keys.cps.toList.take (m.at_ + 1)
   rw [hl,if_neg (by decide),zdB hk,<- h1]
   simp
 ·exact g
theorem zcb (l : List Part) (p : Part) : mats (l ++ [p]) = mats l ++ p.toList:=by
 unfold mats
 rw [List.filterMap_append]
 cases p <;> rfl
theorem Gd.gap {c : Cf} {m : Ms} (g : Gd c m) (hk : key c m = some 32) : Gd c (take m none):=by
 refine ⟨g.ow,?_,g.ih,g.ib,?_,?_,g.lm,g.pn⟩
 ·intro x hx
  have hx : x ∈ mats (m.line ++ [none]):=hx
  rw [zcb] at hx
  exact g.il x (by simpa using hx)
 ·intro j r l hr hl
  have h1:=g.ct j r l hr hl
  unfold out at h1 ⊢
  show l.length + ((mats (m.line ++ [none])).count (r.s,r.t) + _ + _) = _
  rw [zcb,Option.toList_none,List.append_nil]
  exact h1
 ·show flat (m.texts.map cps) ++ hot m ++ cps (zaM (m.line ++ [none])) = c.keys.cps.toList.take (m.at_ + 1)
  rw [zjG,zdB hk,<- g.tx,List.append_assoc]
  simp only [List.append_assoc]
  rfl
theorem Gd.pick {c : Cf} {m : Ms} {k j : Nat} (R : Rt c) (O : Ok c m) (g : Gd c m) (hk : key c m = some k) (hj : Cs.place c.rs (L2.sg k) = some j) : Gd c (pick m j):=by
 unfold Mc.pick
 split
 ·rename_i x r hx
  obtain ⟨q,hq,hqs⟩:=Cs.zcO hj
  obtain ⟨q',hq',ho⟩:=g.ow j _ hx
  rw [hq] at hq'
  cases hq'
  have ex:=ho x List.mem_cons_self
  have hjl : j < m.lanes.length:=(List.getElem?_eq_some_iff.mp hx).1
  refine ⟨?_,?_,g.ih,g.ib,?_,?_,g.lm,g.pn⟩
  ·intro i l hl
   rcases zgl hl with ⟨rfl,rfl⟩ | ⟨hne,hl⟩
   ·exact ⟨q,hq,fun y hy=>ho y (List.mem_cons_of_mem _ hy)⟩
   ·exact g.ow i l hl
  ·intro y hy
   have hy : y ∈ mats (m.line ++ [some x]):=hy
   rw [zcb] at hy
   rcases List.mem_append.mp hy with hy | hy
   ·exact g.il y hy
   ·have : y = x:=by simpa using hy
    rw [this]
    exact ⟨j,q,hq,ex⟩
  ·intro i q' l hq' hl
   have hl : (m.lanes.set j r)[i]? = some l:=hl
   have eo : out (take { m with lanes:=m.lanes.set j r } (some x)) (q'.s,q'.t) = out m (q'.s,q'.t) + (if x = (q'.s,q'.t) then 1 else 0):=by
    unfold out
    show (mats (m.line ++ [some x])).count (q'.s,q'.t) + (mats m.heat).count (q'.s,q'.t) + m.bar.count (q'.s,q'.t) = _
    rw [zcb,List.count_append]
    have e1 : (some x : Part).toList.count (q'.s,q'.t) = if x = (q'.s,q'.t) then 1 else 0:=by
     show List.count (q'.s,q'.t) [x] = _
     by_cases e : x = (q'.s,q'.t)
     ·rw [if_pos e,e]
      simp
     ·rw [if_neg e]
      exact List.count_eq_zero.mpr fun z=>e (List.mem_singleton.mp z).symm
    rw [e1]
    omega
   rw [eo]
   rcases zgl hl with ⟨rfl,rfl⟩ | ⟨hne,hl⟩
   ·rw [hq] at hq'
    cases hq'
    have h1:=g.ct i q _ hq hx
    have e3 : (x :: l).length = l.length + 1:=rfl
    rw [if_pos ex]
    omega
   ·have h1:=g.ct i q' l hq' hl
    rw [if_neg fun z=>?_]
    ·exact h1
    ·rw [ex] at z
     have z1:=congrArg Prod.fst z
     have h2:=R.pl j q hq
     rw [show q.s = q'.s from z1,R.pl i q' hq'] at h2
     exact hne (Option.some.inj h2)
  ·show flat (m.texts.map cps) ++ hot m ++ cps (zaM (m.line ++ [some x])) = c.keys.cps.toList.take (m.at_ + 1)
   rw [zjG,zdB hk,<- g.tx]
   have e : cps (zbz (some x)) = [k]:=by
    show cps x.1 = [k]
    rw [ex]
    show cps q.s = [k]
    rw [hqs]
    rfl
   rw [e]
   simp only [List.append_assoc]
 ·exact g
theorem Gd.strike {c : Cf} {m : Ms} (R : Rt c) (O : Ok c m) (g : Gd c m) : Gd c (strike c m):=by
 unfold Mc.strike
 split
 ·exact g
 ·rename_i k hk
  split
  ·rename_i h47
   rw [h47] at hk
   exact g.send R hk
  ·split
   ·rename_i h32
    rw [h32] at hk
    exact g.gap hk
   ·split
    ·exact ⟨g.ow,g.il,g.ih,g.ib,g.ct,g.tx,g.lm,g.pn⟩
    ·split
     ·rename_i j hj
      exact g.pick R O hk hj
     ·exact g
theorem Gd.tick {c : Cf} {m : Ms} (R : Rt c) (O : Ok c m) (g : Gd c m) : Gd c (tick c m):=by
 have h:=((g.fall R O).cool R O.fall).strike R O.fall.cool
 exact ⟨h.ow,h.il,h.ih,h.ib,h.ct,h.tx,h.lm,h.pn⟩
theorem Gd.run {c : Cf} (R : Rt c) : ∀ (n : Nat) {m : Ms},Ok c m -> Gd c m -> Gd c (runF c n m)
 | 0,_,_,g=>g
 | n + 1,m,O,g=>by
   cases hs : still c m with
   | true =>
     rw [zbN hs]
     exact g
   | false =>
     rw [zeO hs]
     exact Gd.run R n O.tick (g.tick R O)
theorem Gd.fin {c : Cf} {m : Ms} (R : Rt c) (O : Ok c m) (g : Gd c m) : Gd c (fin c m):=Gd.run R _ O g
theorem Gd.start {c : Cf} (h : ∀ r ∈ c.rs,0 <= r.n) : Gd c (start c.rs):=by
 have lane : ∀ (j : Nat) l,(zaP c.rs)[j]? = some l -> ∃ r,c.rs[j]? = some r /\ l = List.replicate r.n.toNat (r.s,r.t):=fun j l hl=>by
  unfold zaP at hl
  rw [List.getElem?_map] at hl
  obtain ⟨r,hr,rfl⟩:=Option.map_eq_some_iff.mp hl
  exact ⟨r,hr,rfl⟩
 refine ⟨fun j l hl=>?_,(fun x hx=>nomatch hx),(fun x hx=>nomatch hx),(fun x hx=>nomatch hx),fun j r l hr hl=>?_,rfl,(fun t ht=>nomatch ht),(fun t ht=>nomatch ht)⟩
 ·obtain ⟨r,hr,rfl⟩:=lane j l hl
  exact ⟨r,hr,fun x hx=>List.eq_of_mem_replicate hx⟩
 ·obtain ⟨r',hr',rfl⟩:=lane j l hl
  rw [hr] at hr'
  cases hr'
  rw [List.length_replicate]
  rfl
end Mc
namespace Mc
open PySem L2
theorem znD {x y : Str} (h : cps x = cps y) : x = y:=by
 obtain ⟨a⟩:=x
 obtain ⟨b⟩:=y
 have h : a.toList = b.toList:=h
 rw [Array.toList_inj.mp h]
theorem zih : ∀ {a b X Y : List Nat},47 ∉ a -> 47 ∉ b -> a ++ 47 :: X = b ++ 47 :: Y -> a = b /\ X = Y
 | [],[],_,_,_,_,h=>⟨rfl,(List.cons.inj h).2⟩
 | [],y :: b,_,_,_,hb,h=>absurd ((List.cons.inj h).1 ▸ List.mem_cons_self) hb
 | x :: a,[],_,_,ha,_,h=>absurd ((List.cons.inj h).1 ▸ List.mem_cons_self) ha
 | x :: a,y :: b,X,Y,ha,hb,h=>by
   obtain ⟨h1,h2⟩:=List.cons.inj h
   obtain ⟨e1,e2⟩:=zih (fun z=>ha (List.mem_cons_of_mem _ z)) (fun z=>hb (List.mem_cons_of_mem _ z)) h2
   exact ⟨by rw [h1,e1],e2⟩
theorem zbq (a : List Nat) (r : List (List Nat)) : flat (a :: r) = a ++ 47 :: flat r:=by
 unfold flat
 rw [List.flatMap_cons]
 simp
theorem zjm : ∀ {as bs : List (List Nat)} {v : List Nat},(∀ a ∈ as,47 ∉ a) -> (∀ b ∈ bs,47 ∉ b) -> flat as ++ v = flat bs -> as.length <= bs.length /\ as = bs.take as.length /\ v = flat (bs.drop as.length)
 | [],bs,v,_,_,h=>⟨Nat.zero_le _,rfl,h⟩
 | a :: as,[],v,_,_,h=>by
   rw [zbq] at h
   have:=congrArg List.length h
   rw [List.length_append,List.length_append] at this
   have : _ + (_ + 1) + _ = 0:=this
   omega
 | a :: as,b :: bs,v,ha,hb,h=>by
   rw [zbq,zbq,List.append_assoc] at h
   obtain ⟨e1,e2⟩:=zih (ha a List.mem_cons_self) (hb b List.mem_cons_self) h
   obtain ⟨h1,h2,h3⟩:=zjm (fun x hx=>ha x (List.mem_cons_of_mem _ hx)) (fun x hx=>hb x (List.mem_cons_of_mem _ hx)) e2
   refine ⟨Nat.succ_le_succ h1,?_,h3⟩
   show a :: as = b :: bs.take as.length
   rw [e1,<- h2]
theorem znr : ∀ {u b rest Y : List Nat} {k : Nat},47 ∉ u -> k ≠ 47 -> u ++ k :: rest = b ++ 47 :: Y -> ∃ w,b = u ++ k :: w
 | [],[],_,_,k,_,hk,h=>absurd (List.cons.inj h).1 hk
 | [],y :: b,_,_,k,_,_,h=>⟨b,by rw [(List.cons.inj h).1]; rfl⟩
 | x :: u,[],_,_,k,hu,_,h=>absurd ((List.cons.inj h).1 ▸ List.mem_cons_self) hu
 | x :: u,y :: b,rest,Y,k,hu,hk,h=>by
   obtain ⟨h1,h2⟩:=List.cons.inj h
   obtain ⟨w,e⟩:=znr (fun z=>hu (List.mem_cons_of_mem _ z)) hk h2
   exact ⟨w,by rw [h1,e]; rfl⟩
theorem ziZ : ∀ ls : List (List Str),cps (Lns.keyT ls) = flat (ls.map fun l=>cps (Lns.zbc l))
 | []=>rfl
 | l :: r=>by
   rw [List.map_cons,zbq,<- ziZ r]
   have e : (Lns.zbc l ++ "/" ++ Lns.keyT r).cps.toList = (Lns.zbc l).cps.toList ++ ("/" : Str).cps.toList ++ (Lns.keyT r).cps.toList:=by
    show (Lns.zbc l ++ "/" ++ Lns.keyT r).cps.toList = _
    rw [Str.cps_append,Array.toList_append,Str.cps_append,Array.toList_append]
   show (Lns.zbc l ++ "/" ++ Lns.keyT r).cps.toList = _
   rw [e,List.append_assoc]
   rfl
theorem zlq : ∀ {xs ys : List Str},xs.map cps = ys.map cps -> xs = ys
 | [],[],_=>rfl
 | [],_ :: _,h=>nomatch h
 | _ :: _,[],h=>nomatch h
 | x :: xs,y :: ys,h=>by
   obtain ⟨h1,h2⟩:=List.cons.inj h
   rw [znD h1,zlq h2]
theorem zmM {m : Ms} {ls : List (List Str)} {n : Nat} (h : m.texts.map cps = (ls.map fun l=>cps (Lns.zbc l)).take n) : m.texts = (ls.take n).map Lns.zbc:=by
 rw [<- List.map_take] at h
 have h2 : m.texts.map cps = ((ls.take n).map Lns.zbc).map cps:=by
  rw [h,List.map_map]
  rfl
 exact zlq h2
theorem zmS {c : Cf} {m : Ms} {ls : List (List Str)} (R : Rt c) (O : Ok c m) (g : Gd c m) (hs : zfp c m = true) (hk : c.keys = Lns.keyT ls) (hp : ∀ l ∈ ls,47 ∉ cps (Lns.zbc l)) :
 m.heat = [] /\ m.bar = [] /\ ∃ (j k : Nat) (r : Cs.Row) (l : List Str) (w : List Nat),c.rs[j]? = some r /\ r.s = L2.sg k /\ m.lanes[j]? = some [] /\ (cps (zaM m.line)).count k = r.n.toNat /\ ls[m.texts.length]? = some l /\ m.texts = (ls.take m.texts.length).map Lns.zbc /\ cps (Lns.zbc l) = cps (zaM m.line) ++ k :: w /\ key c m = some k:=by
 unfold zfp at hs
 simp only [Bool.and_eq_true] at hs
 obtain ⟨⟨h1,h2⟩,h3⟩:=hs
 have hh:=List.isEmpty_iff.mp h2
 have hb:=List.isEmpty_iff.mp h3
 refine ⟨hh,hb,?_⟩
 cases hkey : key c m with
 | none =>
   rw [zdc (by rw [zgX hkey]; exact O.cf.noWedge.2.2)] at h1
   cases h1
 | some k =>
   have es:=zhJ hkey
   cases hpl : Cs.place c.rs (keyS c m) with
   | none =>
     rw [zdc hpl] at h1
     cases h1
   | some j =>
     rw [zfM hpl] at h1
     rw [es] at hpl
     obtain ⟨r,hr,ers⟩:=Cs.zcO hpl
     have hjl : j < m.lanes.length:=by rw [O.ln]; exact Cs.zcX hpl
     have hg : m.lanes[j]? = some m.lanes[j]:=List.getElem?_eq_getElem hjl
     rw [zfO hg] at h1
     have hl0:=List.isEmpty_iff.mp h1
     rw [hl0] at hg
     have hc:=g.ct j r [] hr hg
     unfold out at hc
     rw [hh,hb] at hc
     have hc : 0 + ((mats m.line).count (r.s,r.t) + 0 + 0) = r.n.toNat:=hc
     have hocc:=zcY R hr ers g.il
     have hk47 : k ≠ 47:=fun e=>by
      rw [e,O.cf.noWedge.1] at hpl
      cases hpl
     have t:=g.tx
     unfold hot at t
     rw [if_pos h2,List.append_nil] at t
     have hat:=zjd hkey
     have ek : c.keys.cps.toList = c.keys.cps.toList.take m.at_ ++ k :: c.keys.cps.toList.drop (m.at_ + 1):=by
      have e1:=(List.take_append_drop m.at_ c.keys.cps.toList).symm
      rw [List.drop_eq_getElem_cons hat] at e1
      have e2 : c.keys.cps.toList[m.at_] = k:=by
       unfold key at hkey
       rw [List.getElem?_eq_getElem hat] at hkey
       exact Option.some.inj hkey
      rw [e2] at e1
      exact e1
     rw [<- t,List.append_assoc] at ek
     have ek2 : flat (m.texts.map cps) ++ (cps (zaM m.line) ++ k :: c.keys.cps.toList.drop (m.at_ + 1)) = flat (ls.map fun l=>cps (Lns.zbc l)):=by
      rw [<- ziZ,<- hk]
      exact ek.symm
     obtain ⟨e1,e2,e3⟩:=zjm (as:=m.texts.map cps) (fun a ha=>by obtain ⟨x,hx,rfl⟩:=List.mem_map.mp ha; exact g.pn x hx) (fun b hb=>by obtain ⟨x,hx,rfl⟩:=List.mem_map.mp hb; exact hp x hx) ek2
     rw [List.length_map] at e1 e2 e3
     cases ed : (ls.map fun l=>cps (Lns.zbc l)).drop m.texts.length with
     | nil =>
       rw [ed] at e3
       have:=congrArg List.length e3
       rw [List.length_append] at this
       have : _ + (_ + 1) = 0:=this
       omega
     | cons b bs =>
       rw [ed,zbq] at e3
       obtain ⟨w,ew⟩:=znr (zes R g.il) hk47 e3
       have hb0 : (ls.map fun l=>cps (Lns.zbc l))[m.texts.length]? = some b:=by
        have:=congrArg (fun x=>x[0]?) ed
        simpa using this
       rw [List.getElem?_map] at hb0
       obtain ⟨l,hl,rfl⟩:=Option.map_eq_some_iff.mp hb0
       exact ⟨j,k,r,l,w,hr,ers,hg,by rw [hocc]; omega,hl,zmM e2,ew,rfl⟩
end Mc
namespace L2
open PySem PySem.Spec PyProof.Rows PySem.Builtin PySem.Builtin.Str
section
variable {X : Cx} {a : Expr} {ta : TE}
def tIsB (neg b : Bool) (ta : TE) : TE:=fun σ H Q=>ta σ H fun x H1=>∃ k,x = .bl k /\ Q (.bl (if neg then !decide (k = b) else decide (k = b))) H1
theorem zqB {b : Bool} {j pos'} (ha : PE X a ta) : PC X .Is a (.Constant (.bool b) j pos') (tIsB false b ta):=by
 intro pins s σ H Q I h
 refine thn (ha pins s σ H _ I h) fun v s1 ⟨x,H1,I1,r1,k,e,q1⟩=>?_
 subst e
 cases r1
 refine Constant_bool ?_
 cases k <;> cases b <;> exact wpAny_pure ⟨.bl _,H1,I1,rfl,q1⟩
end
section
variable {X : Cx}
end
end L2
namespace Mc
open PySem L2
def isSg (k : Nat) : Bool:=!decide (k = 32) && !decide (k = 47)
theorem zfL : ∀ {bs : List (List Nat)},(∀ b ∈ bs,47 ∉ b) -> (flat bs).count 47 = bs.length
 | [],_=>rfl
 | b :: bs,h=>by
   rw [zbq,List.count_append,List.count_cons_self,zfL fun x hx=>h x (List.mem_cons_of_mem _ hx),List.count_eq_zero.mpr (h b List.mem_cons_self),List.length_cons]
   omega
end Mc
namespace L2
open PySem PySem.Spec PyProof.Rows
section
variable {X : Cx}
end
end L2
namespace L2
open PySem PySem.Spec PyProof.Rows
section
variable {X : Cx} {es : List Expr} {k1 : Nat} {tp : Pos}
end
end L2
namespace Mc
open PySem L2
def Bad (rs : List Cs.Row) (T : List Nat) (j : Nat) : Prop:=∃ k,T[j]? = some k /\ ∃ r ∈ rs,r.s = L2.sg k /\ r.n < ((T.take (j + 1)).count k : Int)
def zrc (rs : List Cs.Row) (ls : List (List Str)) (i j : Nat) : Prop:=(∀ (a : Nat) l,a < i -> ls[a]? = some l -> ∀ b,¬ Bad rs (cps (Lns.zbc l)) b) /\ ∀ l,ls[i]? = some l -> ∀ b,b < j -> ¬ Bad rs (cps (Lns.zbc l)) b
structure StopAt (rs : List Cs.Row) (ls : List (List Str)) (i j : Nat) : Prop where
 ahead : zrc rs ls i j
 bad : ∃ l,ls[i]? = some l /\ Bad rs (cps (Lns.zbc l)) j
theorem StopAt.uniq {rs : List Cs.Row} {ls : List (List Str)} {i j i' j' : Nat} (h : StopAt rs ls i j) (h' : StopAt rs ls i' j') : i = i' /\ j = j':=by
 obtain ⟨l,hl,hb⟩:=h.bad
 obtain ⟨l',hl',hb'⟩:=h'.bad
 rcases Nat.lt_trichotomy i i' with z | z | z
 ·exact absurd hb (h'.ahead.1 i l z hl j)
 ·subst z
  rw [hl] at hl'
  cases hl'
  rcases Nat.lt_trichotomy j j' with y | y | y
  ·exact absurd hb (h'.ahead.2 l hl j y)
  ·exact ⟨rfl,y⟩
  ·exact absurd hb' (h.ahead.2 l hl j' y)
 ·exact absurd hb' (h.ahead.1 i' l' z hl' j')
end Mc
namespace Mc
open PySem L2
theorem Mac.aside {C : Addr} {ns : List Str} {c : Cf} {H : Hp} {p X : Addr} {A : Adr} {m : Ms} {ys : List V} {o : HO} (h : Mac C ns c H p A m) (hx : H X = some (.lst ys)) (n : X ∉ A.all) : Mac C ns c (upd H X o) p A m:=by
 obtain ⟨dx,fs,ea,F⟩:=h.ins
 have hpx : p ≠ X:=fun e=>by rw [e,hx] at ea; cases ea
 exact ⟨⟨dx,fs,by rw [zai hpx]; exact ea,F⟩,h.nd,h.li.keep (Keep.lst hx) fun a ha e=>n (by rw [<- e]; exact ha)⟩
theorem Step.same {p : Addr} {A A' : Adr} {H H1 H2 : Hp} (s : Step p A H1 A' H2) (h : Same H H1) (hp : H p = none) (hA : ∀ b ∈ A.all,H b = none) : Same H H2 /\ ∀ b ∈ A'.all,H b = none:=by
 refine ⟨fun b o hb=>s.fr b o (h b o hb) (.inl ⟨fun e=>?_,fun e=>?_⟩),fun b hb=>?_⟩
 ·rw [e,hp] at hb; cases hb
 ·rw [hA b e] at hb; cases hb
 ·rcases s.nw b hb with z | z
  ·exact hA b z
  ·exact h.free z
def cntS (x s : Str) : Nat:=(cps x).count (s.cps.toList.headD 0)
def zkm : List Cs.Row -> List (List Mx) -> List Int
 | r :: rs,l :: ls=>(r.n - ((l.length : Nat) : Int)) :: zkm rs ls
 | _,_=>[]
theorem zgK {rs : List Cs.Row} {ls : List (List Mx)} {i : Nat} {r : Cs.Row} {l : List Mx} (h1 : rs[i]? = some r) (h2 : ls[i]? = some l) : (zkm rs ls)[i]? = some (r.n - ((l.length : Nat) : Int)):=by
 induction rs generalizing ls i with
 | nil=>simp at h1
 | cons r0 rs ih =>
   cases ls with
   | nil=>simp at h2
   | cons l0 ls =>
     cases i with
     | zero=>cases h1; cases h2; rfl
     | succ i=>exact ih (ls:=ls) (i:=i) h1 h2
def up1 (d o : Int) (x : Int × Int) : Int × Int:=if x.1 < o then (o,d) else x
def upN (d : Int) : List Int -> List (Int × Int) -> List (Int × Int)
 | o :: os,x :: xs=>up1 d o x :: upN d os xs
 | _,xs=>xs
theorem zit (d : Int) (os : List Int) (ps : List (Int × Int)) : (upN d os ps).length = ps.length:=by
 induction os generalizing ps with
 | nil=>cases ps <;> rfl
 | cons o os ih =>
   cases ps with
   | nil=>rfl
   | cons x xs=>exact congrArg (·+ 1) (ih xs)
theorem zkF (d : Int) (ps : List (Int × Int)) : upN d [] ps = ps:=by cases ps <;> rfl
theorem ztq (d : Int) (os : List Int) (ps : List (Int × Int)) {k : Nat} (h : os.length <= k) : (upN d os ps)[k]? = ps[k]?:=by
 induction os generalizing ps k with
 | nil=>rw [zkF]
 | cons o os ih =>
   cases ps with
   | nil=>rfl
   | cons x xs =>
     cases k with
     | zero=>simp at h
     | succ k=>exact ih xs (k:=k) (Nat.le_of_succ_le_succ h)
inductive Pk (c : Cf) : Ms -> List (Int × Int) -> List (Int × Int) -> Prop
 | stop {m : Ms} {ps : List (Int × Int)} : still c m = true -> Pk c m ps ps
 | go {m : Ms} {ps qs : List (Int × Int)} : still c m = false -> Pk c (tick c m) (upN (tick c m).done (zkm c.rs (tick c m).lanes) ps) qs -> Pk c m ps qs
theorem Pk.uniq {c : Cf} {m : Ms} {ps qs qs' : List (Int × Int)} (h : Pk c m ps qs) (h' : Pk c m ps qs') : qs = qs':=by
 induction h with
 | stop hs =>
   cases h' with
   | stop _=>rfl
   | go hs' _=>rw [hs] at hs'; cases hs'
 | go hs _ ih =>
   cases h' with
   | stop hs'=>rw [hs] at hs'; cases hs'
   | go _ h2=>exact ih h2
theorem Pk.len {c : Cf} {m : Ms} {ps qs : List (Int × Int)} (h : Pk c m ps qs) : qs.length = ps.length:=by
 induction h with
 | stop _=>rfl
 | go _ _ ih=>rw [ih,zit]
theorem znq (d o : Int) (x : Int × Int) : x.1 <= (up1 d o x).1 /\ o <= (up1 d o x).1:=by
 unfold up1
 split
 ·rename_i h
  exact ⟨Int.le_of_lt h,Int.le_refl _⟩
 ·rename_i h
  exact ⟨Int.le_refl _,Int.not_lt.mp h⟩
theorem zlQ (d : Int) {os : List Int} {ps : List (Int × Int)} {k : Nat} {x : Int × Int} {o : Int} (hx : ps[k]? = some x) (ho : os[k]? = some o) : (upN d os ps)[k]? = some (up1 d o x):=by
 induction os generalizing ps k with
 | nil=>simp at ho
 | cons o' os ih =>
   cases ps with
   | nil=>simp at hx
   | cons y ys =>
     cases k with
     | zero=>cases hx; cases ho; rfl
     | succ k=>exact ih (ps:=ys) (k:=k) hx ho
theorem zoI (d : Int) {os : List Int} {ps : List (Int × Int)} {k : Nat} {x : Int × Int} (hx : ps[k]? = some x) : ∃ y,(upN d os ps)[k]? = some y /\ x.1 <= y.1:=by
 cases ho : os[k]? with
 | none=>exact ⟨x,by rw [ztq _ _ _ (List.getElem?_eq_none_iff.mp ho)]; exact hx,Int.le_refl _⟩
 | some o=>exact ⟨_,zlQ d hx ho,(znq d o x).1⟩
theorem Pk.ge {c : Cf} {m : Ms} {ps qs : List (Int × Int)} (h : Pk c m ps qs) : ∀ {k : Nat} {x : Int × Int},ps[k]? = some x -> ∃ y,qs[k]? = some y /\ x.1 <= y.1:=by
 induction h with
 | stop _=>exact fun hx=>⟨_,hx,Int.le_refl _⟩
 | go _ _ ih =>
   intro k x hx
   obtain ⟨y,hy,h1⟩:=zoI _ hx
   obtain ⟨z,hz,h2⟩:=ih hy
   exact ⟨z,hz,Int.le_trans h1 h2⟩
theorem Pk.out {c : Cf} {m : Ms} {ps qs : List (Int × Int)} (h : Pk c m ps qs) (hs : still c m = false) {k : Nat} {x : Int × Int} {o : Int} (hx : ps[k]? = some x) (ho : (zkm c.rs (tick c m).lanes)[k]? = some o) : ∃ y,qs[k]? = some y /\ o <= y.1:=by
 cases h with
 | stop h=>rw [hs] at h; cases h
 | go _ h =>
   obtain ⟨y,hy,h2⟩:=h.ge (zlQ _ hx ho)
   exact ⟨y,hy,Int.le_trans (znq _ o x).2 h2⟩
theorem Pk.next {c : Cf} {m : Ms} {ps qs : List (Int × Int)} (h : Pk c m ps qs) (hs : still c m = false) : Pk c (tick c m) (upN (tick c m).done (zkm c.rs (tick c m).lanes) ps) qs:=by
 cases h with
 | stop h=>rw [hs] at h; cases h
 | go _ h=>exact h
structure NdAt (C : Addr) (ns : List Str) (c : Cf) (H0 H : Hp) (p n q f : Addr) (A : Adr) (m : Ms) (fs : List V) (ps : List (Int × Int)) : Prop where
 mac : Mac C ns c H p A m
 sm : Same H0 H
 new : ∀ b ∈ A.all,H0 b = none
 pn : H0 p = none
 nn : H0 n = none
 qn : H0 q = none
 fn : H0 f = none
 nq : n ≠ q
 nf : n ≠ f
 qf : q ≠ f
 na : n ∉ A.all
 qa : q ∉ A.all
 fa : f ∉ A.all
 hn : H n = some (.lst ((ps.map fun x=>x.1).map V.int))
 hq : H q = some (.lst ((ps.map fun x=>x.2).map V.int))
 hf : H f = some (.lst fs)
 rows : Paired (Cs.zbU H) fs c.rs
theorem NdAt.same {C : Addr} {ns : List Str} {c : Cf} {H0 H H' : Hp} {p n q f : Addr} {A : Adr} {m : Ms} {fs : List V} {ps : List (Int × Int)} (h : NdAt C ns c H0 H p n q f A m fs ps) (s : Same H H') : NdAt C ns c H0 H' p n q f A m fs ps :=
 ⟨h.mac.same s,h.sm.trans s,h.new,h.pn,h.nn,h.qn,h.fn,h.nq,h.nf,h.qf,h.na,h.qa,h.fa,s _ _ h.hn,s _ _ h.hq,s _ _ h.hf,Cs.zay h.rows s⟩
theorem NdAt.step {C : Addr} {ns : List Str} {c : Cf} {H0 H H' : Hp} {p n q f : Addr} {A A' : Adr} {m m' : Ms} {fs : List V} {ps : List (Int × Int)} (h : NdAt C ns c H0 H p n q f A m fs ps) (s : Step p A H A' H') (M : Mac C ns c H' p A' m') : NdAt C ns c H0 H' p n q f A' m' fs ps:=by
 obtain ⟨s1,s2⟩:=s.same h.sm h.pn h.new
 obtain ⟨n1,n2⟩:=s.list h.mac h.hn h.na
 obtain ⟨q1,q2⟩:=s.list h.mac h.hq h.qa
 obtain ⟨f1,f2⟩:=s.list h.mac h.hf h.fa
 exact ⟨M,s1,s2,h.pn,h.nn,h.qn,h.fn,h.nq,h.nf,h.qf,n2,q2,f2,n1,q1,f1,zbA (S:=fun b=>b ≠ p /\ b ∉ A.all) (fun b o hb hs=>s.fr b o hb hs) h.rows⟩
theorem NdAt.setN {C : Addr} {ns : List Str} {c : Cf} {H0 H : Hp} {p n q f : Addr} {A : Adr} {m : Ms} {fs : List V} {ps : List (Int × Int)} {vs : List V} (h : NdAt C ns c H0 H p n q f A m fs ps) :
 Mac C ns c (upd H n (.lst vs)) p A m /\ Same H0 (upd H n (.lst vs)) /\ upd H n (.lst vs) q = some (.lst ((ps.map fun x=>x.2).map V.int)) /\ upd H n (.lst vs) f = some (.lst fs) /\ Paired (Cs.zbU (upd H n (.lst vs))) fs c.rs :=
 ⟨h.mac.aside h.hn h.na,zan h.sm h.nn,by rw [zai h.nq.symm]; exact h.hq,by rw [zai h.nf.symm]; exact h.hf,Cs.zcV h.rows h.hn fun z e=>by cases e⟩
theorem NdAt.set {C : Addr} {ns : List Str} {c : Cf} {H0 H H1 : Hp} {p n q f : Addr} {A : Adr} {m : Ms} {fs : List V} {ps qs : List (Int × Int)} (h : NdAt C ns c H0 H p n q f A m fs ps) (s : Same (upd H n (.lst ((qs.map fun x=>x.1).map V.int))) H1) :
 NdAt C ns c H0 (upd H1 q (.lst ((qs.map fun x=>x.2).map V.int))) p n q f A m fs qs:=by
 obtain ⟨a1,a2,a3,a4,a5⟩:=h.setN (vs:=(qs.map fun x=>x.1).map V.int)
 have hq1:=s _ _ a3
 have b1:=a1.same s
 exact ⟨b1.aside hq1 h.qa,zan (a2.trans s) h.qn,h.new,h.pn,h.nn,h.qn,h.fn,h.nq,h.nf,h.qf,h.na,h.qa,h.fa,by rw [zai h.nq]; exact s _ _ upd_same,upd_same,by rw [zai h.qf.symm]; exact s _ _ a4,Cs.zcV (Cs.zay a5 s) hq1 fun z e=>by cases e⟩
end Mc
namespace Mc
open PySem L2
def core (m : Ms) : Ms:={ m with lanes:=[] }
structure Alike (c c' : Cf) : Prop where
 keys : c'.keys = c.keys
 cast : c'.cast = c.cast
 sgs : (c'.rs.map fun r=>r.s) = c.rs.map fun r=>r.s
 ths : (c'.rs.map fun r=>r.t) = c.rs.map fun r=>r.t
theorem Alike.get {c c' : Cf} (A : Alike c c') {j : Nat} {r r' : Cs.Row} (h : c.rs[j]? = some r) (h' : c'.rs[j]? = some r') : r'.s = r.s /\ r'.t = r.t:=by
 have e1:=congrArg (fun l=>l[j]?) A.sgs
 have e2:=congrArg (fun l=>l[j]?) A.ths
 simp only [List.getElem?_map,h,h',Option.map_some] at e1 e2
 exact ⟨Option.some.inj e1,Option.some.inj e2⟩
theorem zgL (rs : List Cs.Row) (x : Str) : Cs.place rs x = (rs.map fun r=>r.s).findIdx? fun s=>decide (s = x):=by
 unfold Cs.place
 rw [List.findIdx?_map]
 rfl
theorem Alike.place {c c' : Cf} (A : Alike c c') (x : Str) : Cs.place c'.rs x = Cs.place c.rs x:=by rw [zgL,zgL,A.sgs]
theorem Alike.key {c c' : Cf} (A : Alike c c') {m m' : Ms} (h : core m = core m') : key c' m' = key c m:=by
 have e : (core m).at_ = (core m').at_:=congrArg Ms.at_ h
 have e : m.at_ = m'.at_:=e
 unfold Mc.key
 rw [A.keys,e]
theorem zgJ {c c' : Cf} (A : Alike c c') {m m' : Ms} (h : core m = core m') : core (fall c m) = core (fall c' m'):=by
 obtain ⟨l,a,b,d,e,f,g,i,j⟩:=m
 obtain ⟨l',a',b',d',e',f',g',i',j'⟩:=m'
 cases h
 unfold fall
 cases e with
 | nil=>rfl
 | cons x r =>
   show core (match Mt.zaG (c.rs.map fun r=>r.t) x.2 with | some k=>_ | none=>_) = core (match Mt.zaG (c'.rs.map fun r=>r.t) x.2 with | some k=>_ | none=>_)
   rw [A.ths]
   cases Mt.zaG (c.rs.map fun r=>r.t) x.2 with
   | none=>rfl
   | some k=>rfl
theorem zhM {m m' : Ms} (h : core m = core m') : core (cool m) = core (cool m'):=by
 obtain ⟨l,a,b,d,e,f,g,i,j⟩:=m
 obtain ⟨l',a',b',d',e',f',g',i',j'⟩:=m'
 cases h
 unfold cool
 by_cases h1 : b.isEmpty = true
 ·rw [if_pos h1,if_pos h1]
  rfl
 ·rw [if_neg h1,if_neg h1]
  by_cases h2 : d - 1 <= 0
  ·rw [if_pos h2,if_pos h2]
   rfl
  ·rw [if_neg h2,if_neg h2]
   rfl
theorem ziR {c : Cf} {m : Ms} {k j : Nat} (g : Gd c m) (hk : key c m = some k) (hp : Cs.place c.rs (sg k) = some j) (hl : zaU c m = false) : ∃ r t,c.rs[j]? = some r /\ m.lanes[j]? = some ((r.s,r.t) :: t):=by
 have e : keyS c m = sg k:=by unfold keyS; rw [hk]
 unfold zaU at hl
 rw [e,hp] at hl
 have hl : zbJ m.lanes j = false:=hl
 unfold zbJ at hl
 cases hj : m.lanes[j]? with
 | none=>rw [hj] at hl; cases hl
 | some l =>
   rw [hj] at hl
   cases l with
   | nil=>cases hl
   | cons x t =>
     obtain ⟨r,hr,hx⟩:=g.ow j _ hj
     exact ⟨r,t,hr,by rw [hx x List.mem_cons_self]⟩
theorem ziO {c c' : Cf} (A : Alike c c') {m m' : Ms} (g : Gd c m) (g' : Gd c' m') (h : core m = core m') (hl : ∀ k j,key c m = some k -> Cs.place c.rs (sg k) = some j -> zaU c m = false /\ zaU c' m' = false) (hkn : ∀ k,key c m = some k -> k = 47 \/ k = 32 \/ (Cs.place c.rs (sg k)).isSome = true) : core (strike c m) = core (strike c' m'):=by
 have ek:=A.key h
 unfold strike
 rw [ek]
 cases hk : key c m with
 | none=>exact h
 | some k =>
   show core (if k = 47 then _ else _) = core (if k = 47 then _ else _)
   by_cases h1 : k = 47
   ·rw [if_pos h1,if_pos h1]
    unfold send
    have e1 : (core m).heat = (core m').heat:=congrArg Ms.heat h
    have e1 : m.heat = m'.heat:=e1
    rw [<- e1,A.cast]
    by_cases h2 : m.heat.isEmpty = true
    ·rw [if_pos h2,if_pos h2]
     obtain ⟨l,a,b,d,e,f,g,i,j⟩:=m
     obtain ⟨l',a',b',d',e',f',g',i',j'⟩:=m'
     cases h
     rfl
    ·rw [if_neg h2,if_neg h2]
     exact h
   ·rw [if_neg h1,if_neg h1]
    by_cases h2 : k = 32
    ·rw [if_pos h2,if_pos h2]
     obtain ⟨l,a,b,d,e,f,g,i,j⟩:=m
     obtain ⟨l',a',b',d',e',f',g',i',j'⟩:=m'
     cases h
     rfl
    ·rw [if_neg h2,if_neg h2]
     cases hp : Cs.place c.rs (sg k) with
     | none =>
       rcases hkn k hk with z | z | z
       ·exact absurd z h1
       ·exact absurd z h2
       ·rw [hp] at z; cases z
     | some j =>
       obtain ⟨l1,l2⟩:=hl k j hk hp
       obtain ⟨r,t,hr,hj⟩:=ziR g hk hp l1
       obtain ⟨r',t',hr',hj'⟩:=ziR g' (ek.trans hk) ((A.place _).trans hp) l2
       obtain ⟨e1,e2⟩:=A.get hr hr'
       rw [l1,l2,A.place,hp,if_neg (fun z=>nomatch z),if_neg (fun z=>nomatch z)]
       show core (pick m j) = core (pick m' j)
       unfold pick
       rw [hj,hj',e1,e2]
       obtain ⟨l,a,b,d,e,f,g,i,j⟩:=m
       obtain ⟨l',a',b',d',e',f',g',i',j'⟩:=m'
       cases h
       rfl
theorem zkw {c c' : Cf} (A : Alike c c') (R : Rt c) (R' : Rt c') {m m' : Ms} (O : Ok c m) (O' : Ok c' m') (g : Gd c m) (g' : Gd c' m') (h : core m = core m') (hl : ∀ k j,key c (cool (fall c m)) = some k -> Cs.place c.rs (sg k) = some j -> zaU c (cool (fall c m)) = false /\ zaU c' (cool (fall c' m')) = false) : core (tick c m) = core (tick c' m'):=by
 have h1:=zhM (zgJ A h)
 have hs:=ziO A ((g.fall R O).cool R O.fall) ((g'.fall R' O').cool R' O'.fall) h1 hl fun k hk=>by
  rcases O.cf.known k (List.mem_of_getElem? hk) with z | z | z
  ·exact .inl z
  ·exact .inr (.inl z)
  ·exact .inr (.inr z.1)
 unfold tick
 generalize strike c (cool (fall c m)) = n at hs
 generalize strike c' (cool (fall c' m')) = n' at hs
 obtain ⟨l,a,b,d,e,f,g,i,j⟩:=n
 obtain ⟨l',a',b',d',e',f',g',i',j'⟩:=n'
 cases hs
 rfl
def Bd (c : Cf) (m : Ms) : Prop:=∀ (j : Nat) r k,c.rs[j]? = some r -> r.s = sg k -> m.bar.count (r.s,r.t) <= (flat (m.texts.map cps)).count k
theorem Bd.fall {c : Cf} {m : Ms} (b : Bd c m) : Bd c (fall c m):=by
 intro j r k hr hk
 have h:=b j r k hr hk
 unfold Mc.fall
 cases hb : m.bar with
 | nil =>
   show m.bar.count _ <= _
   exact h
 | cons x t =>
   rw [hb] at h
   show (match Mt.zaG (c.rs.map fun r : Cs.Row=>r.t) x.2 with | some k=>({ m with bar:=t,lanes:=zbM m.lanes k x } : Ms) | none=>m).bar.count _ <= (flat ((match Mt.zaG (c.rs.map fun r : Cs.Row=>r.t) x.2 with | some k=>({ m with bar:=t,lanes:=zbM m.lanes k x } : Ms) | none=>m).texts.map cps)).count k
   cases Mt.zaG (c.rs.map fun r : Cs.Row=>r.t) x.2 with
   | none =>
     show m.bar.count _ <= _
     rw [hb]
     exact h
   | some q=>exact Nat.le_trans (List.Sublist.count_le _ (List.sublist_cons_self x t)) h
theorem zgV (ts : List (List Nat)) (t : List Nat) : flat (ts ++ [t]) = flat ts ++ (t ++ [47]):=by
 unfold flat
 rw [List.flatMap_append]
 simp
theorem Bd.cool {c : Cf} {m : Ms} (R : Rt c) (g : Gd c m) (b : Bd c m) : Bd c (cool m):=by
 intro j r k hr hk
 have h:=b j r k hr hk
 unfold Mc.cool
 by_cases h1 : m.heat.isEmpty = true
 ·rw [if_pos h1]
  exact h
 ·rw [if_neg h1]
  by_cases h2 : m.togo - 1 <= 0
  ·rw [if_pos h2]
   show (m.bar ++ mats m.heat).count _ <= (flat ((m.texts ++ [zaM m.heat]).map cps)).count k
   rw [List.map_append,List.map_cons,List.map_nil,zgV,List.count_append,List.count_append,List.count_append,zcY R hr hk g.ih]
   omega
  ·rw [if_neg h2]
   exact h
theorem zeI (c : Cf) (m : Ms) : (strike c m).bar = m.bar /\ (strike c m).texts = m.texts:=by
 unfold strike
 cases key c m with
 | none=>exact ⟨rfl,rfl⟩
 | some k =>
   show (if k = 47 then _ else _ : Ms).bar = _ /\ (if k = 47 then _ else _ : Ms).texts = _
   by_cases h1 : k = 47
   ·rw [if_pos h1]
    unfold send
    split <;> exact ⟨rfl,rfl⟩
   ·rw [if_neg h1]
    by_cases h2 : k = 32
    ·rw [if_pos h2]
     exact ⟨rfl,rfl⟩
    ·rw [if_neg h2]
     split
     ·exact ⟨rfl,rfl⟩
     ·split
      ·unfold pick
       split <;> exact ⟨rfl,rfl⟩
      ·exact ⟨rfl,rfl⟩
theorem Bd.tick {c : Cf} {m : Ms} (R : Rt c) (O : Ok c m) (g : Gd c m) (b : Bd c m) : Bd c (tick c m):=by
 have h:=Bd.cool R (g.fall R O) b.fall
 obtain ⟨e1,e2⟩:=zeI c (Mc.cool (Mc.fall c m))
 intro j r k hr hk
 have:=h j r k hr hk
 show (strike c (Mc.cool (Mc.fall c m))).bar.count _ <= (flat ((strike c (Mc.cool (Mc.fall c m))).texts.map cps)).count k
 rw [e1,e2]
 exact this
theorem zdC {c : Cf} {m : Ms} (R : Rt c) (O : Ok c m) (g : Gd c m) (b : Bd c m) (hn : ∀ r ∈ c.rs,r.n = (cntS c.keys r.s : Int)) {k j : Nat} (hk : key c m = some k) (hp : Cs.place c.rs (sg k) = some j) : zaU c m = false:=by
 have e : keyS c m = sg k:=by unfold keyS; rw [hk]
 have hj : j < c.rs.length:=by
  unfold Cs.place at hp
  exact (List.findIdx?_eq_some_iff_getElem.mp hp).1
 obtain ⟨r,hr⟩ : ∃ r,c.rs[j]? = some r:=⟨_,List.getElem?_eq_getElem hj⟩
 have hrs : r.s = sg k:=by
  unfold Cs.place at hp
  obtain ⟨h1,h2,_⟩:=List.findIdx?_eq_some_iff_getElem.mp hp
  rw [List.getElem?_eq_getElem hj] at hr
  cases hr
  exact of_decide_eq_true h2
 obtain ⟨l,hl⟩ : ∃ l,m.lanes[j]? = some l:=⟨_,List.getElem?_eq_getElem (by rw [O.ln]; exact hj)⟩
 unfold zaU
 rw [e,hp]
 show zbJ m.lanes j = false
 unfold zbJ
 rw [hl]
 cases l with
 | cons x t=>rfl
 | nil =>
   have hct:=g.ct j r [] hr hl
   have hnn:=hn r (List.mem_of_getElem? hr)
   have hcn : cntS c.keys r.s = c.keys.cps.toList.count k:=by rw [hrs]; rfl
   have h1:=zcY R hr hrs g.il
   have h2:=zcY R hr hrs g.ih
   have h3:=b j r k hr hrs
   have htx:=congrArg (List.count k) g.tx
   rw [List.count_append,List.count_append] at htx
   have hhot : (cps (zaM m.heat)).count k <= (hot m).count k:=by
    unfold hot
    by_cases hh : m.heat.isEmpty = true
    ·rw [if_pos hh,List.isEmpty_iff.mp hh]
     exact Nat.le_refl _
    ·rw [if_neg hh,List.count_append]
     exact Nat.le_add_right _ _
   have hnext:=congrArg (List.count k) (zdB hk)
   rw [List.count_append,List.count_singleton_self] at hnext
   have hle : (c.keys.cps.toList.take (m.at_ + 1)).count k <= c.keys.cps.toList.count k:=List.Sublist.count_le _ (List.take_sublist _ _)
   unfold out at hct
   rw [List.length_nil] at hct
   omega
theorem zmh {m m' : Ms} (h : core m = core m') (x : Mx) : out m x = out m' x:=by
 obtain ⟨l,a,b,d,e,f,g,i,j⟩:=m
 obtain ⟨l',a',b',d',e',f',g',i',j'⟩:=m'
 cases h
 rfl
theorem zfe {c : Cf} {m : Ms} {k j : Nat} (O : Ok c m) (hk : key c m = some k) (hp : Cs.place c.rs (sg k) = some j) (hl : zaU c m = false) : strike c m = pick m j:=by
 unfold strike
 rw [hk]
 show (if k = 47 then _ else _) = _
 rw [if_neg (fun e=>by rw [e,O.cf.noWedge.1] at hp; cases hp),if_neg (fun e=>by rw [e,O.cf.noWedge.2.1] at hp; cases hp),if_neg (by rw [hl]; exact fun z=>nomatch z),hp]
theorem zcO {c : Cf} {k j : Nat} (hp : Cs.place c.rs (sg k) = some j) : ∃ r,c.rs[j]? = some r /\ r.s = sg k:=by
 unfold Cs.place at hp
 obtain ⟨h1,h2,_⟩:=List.findIdx?_eq_some_iff_getElem.mp hp
 exact ⟨_,List.getElem?_eq_getElem h1,of_decide_eq_true h2⟩
theorem zfR {c c' : Cf} (A : Alike c c') (R' : Rt c') {m1 m' : Ms} (O1 : Ok c m1) (g1 : Gd c m1) (O' : Ok c' m') (g' : Gd c' m') (b' : Bd c' m') (hn' : ∀ r ∈ c'.rs,r.n = (cntS c'.keys r.s : Int)) (h : core m1 = core (cool (fall c' m')))
 {ps qs : List (Int × Int)} (hpk : Pk c' m' ps qs) (hs : still c' m' = false) (hps : ps.length = c'.rs.length) (hw : ∀ (j : Nat) r y,c.rs[j]? = some r -> qs[j]? = some y -> y.1 <= r.n) {k j : Nat} (hk : key c m1 = some k) (hp : Cs.place c.rs (sg k) = some j) : zaU c m1 = false:=by
 have O1':=O'.fall.cool
 have g1':=(g'.fall R' O').cool R' O'.fall
 have b1':=Bd.cool R' (g'.fall R' O') b'.fall
 have hk':=(A.key h).trans hk
 have hp':=(A.place (sg k)).trans hp
 have hl':=zdC R' O1' g1' b1' hn' hk' hp'
 obtain ⟨r',t',hr',hj'⟩:=ziR g1' hk' hp' hl'
 have hst:=zfe O1' hk' hp' hl'
 have hln : (tick c' m').lanes = (cool (fall c' m')).lanes.set j t':=by
  show (strike c' (cool (fall c' m'))).lanes = _
  rw [hst]
  unfold pick
  rw [hj']
  rfl
 have hjl : j < (cool (fall c' m')).lanes.length:=(List.getElem?_eq_some_iff.mp hj').1
 have hget : (tick c' m').lanes[j]? = some t':=by rw [hln,List.getElem?_set_self hjl]
 obtain ⟨px,hpx⟩ : ∃ px,ps[j]? = some px:=⟨_,List.getElem?_eq_getElem (by rw [hps,<- O1'.ln]; exact hjl)⟩
 obtain ⟨y,hy,hle⟩:=hpk.out hs hpx (zgK hr' hget)
 obtain ⟨r,hr,hrs⟩:=zcO hp
 have hyr:=hw j r y hr hy
 obtain ⟨e1,e2⟩:=A.get hr hr'
 have hct':=g1'.ct j r' _ hr' hj'
 rw [List.length_cons] at hct'
 have hnn:=hn' r' (List.mem_of_getElem? hr')
 have hj : j < c.rs.length:=(List.getElem?_eq_some_iff.mp hr).1
 obtain ⟨l,hl⟩ : ∃ l,m1.lanes[j]? = some l:=⟨_,List.getElem?_eq_getElem (by rw [O1.ln]; exact hj)⟩
 have hct:=g1.ct j r l hr hl
 have ho:=zmh h (r.s,r.t)
 rw [e1,e2] at hct'
 have e : keyS c m1 = sg k:=by unfold keyS; rw [hk]
 unfold zaU
 rw [e,hp]
 show zbJ m1.lanes j = false
 unfold zbJ
 rw [hl]
 cases l with
 | cons x t=>rfl
 | nil =>
   rw [List.length_nil] at hct
   omega
theorem ziQ {c c' : Cf} (A : Alike c c') (R : Rt c) (R' : Rt c') {m m' : Ms} (O : Ok c m) (O' : Ok c' m') (g : Gd c m) (g' : Gd c' m') (b' : Bd c' m') (hn' : ∀ r ∈ c'.rs,r.n = (cntS c'.keys r.s : Int)) (h : core m = core m')
 {ps qs : List (Int × Int)} (hpk : Pk c' m' ps qs) (hs : still c' m' = false) (hps : ps.length = c'.rs.length) (hw : ∀ (j : Nat) r y,c.rs[j]? = some r -> qs[j]? = some y -> y.1 <= r.n) : core (tick c m) = core (tick c' m'):=by
 have h1:=zhM (zgJ A h)
 have O1:=O.fall.cool
 have g1:=(g.fall R O).cool R O.fall
 refine zkw A R R' O O' g g' h fun k j hk hp=>⟨zfR A R' O1 g1 O' g' b' hn' h1 hpk hs hps hw hk hp,?_⟩
 exact zdC R' O'.fall.cool ((g'.fall R' O').cool R' O'.fall) (Bd.cool R' (g'.fall R' O') b'.fall) hn' ((A.key h1).trans hk) ((A.place (sg k)).trans hp)
theorem zdZ {c c' : Cf} (A : Alike c c') {m m' : Ms} (h : core m = core m') : zbn c m = zbn c' m':=by
 have ek:=A.key h
 unfold zbn
 rw [ek]
 obtain ⟨l,a,b,d,e,f,g,i,j⟩:=m
 obtain ⟨l',a',b',d',e',f',g',i',j'⟩:=m'
 cases h
 rfl
theorem zfg {c : Cf} {m : Ms} (O : Ok c m) (h : zaU c m = true) : ∃ k j,key c m = some k /\ Cs.place c.rs (sg k) = some j:=by
 unfold zaU at h
 cases hk : key c m with
 | none =>
   have e : keyS c m = "":=by unfold keyS; rw [hk]
   rw [e,O.cf.noWedge.2.2] at h
   cases h
 | some k =>
   have e : keyS c m = sg k:=by unfold keyS; rw [hk]
   rw [e] at h
   cases hp : Cs.place c.rs (sg k) with
   | none=>rw [hp] at h; cases h
   | some j=>exact ⟨k,j,rfl,hp⟩
theorem zfS {c : Cf} {m : Ms} (R : Rt c) (O : Ok c m) (g : Gd c m) (b : Bd c m) (hn : ∀ r ∈ c.rs,r.n = (cntS c.keys r.s : Int)) : still c m = zbn c m:=by
 unfold still zfp
 cases hl : zaU c m with
 | false=>simp
 | true =>
   obtain ⟨k,j,hk,hp⟩:=zfg O hl
   rw [zdC R O g b hn hk hp] at hl
   cases hl
theorem zgM {c c' : Cf} (A : Alike c c') (R' : Rt c') {m m' : Ms} (O : Ok c m) (O' : Ok c' m') (g : Gd c m) (g' : Gd c' m') (b' : Bd c' m') (hn' : ∀ r ∈ c'.rs,r.n = (cntS c'.keys r.s : Int)) (h : core m = core m')
 {ps qs : List (Int × Int)} (hpk : Pk c' m' ps qs) (hps : ps.length = c'.rs.length) (hw : ∀ (j : Nat) r y,c.rs[j]? = some r -> qs[j]? = some y -> y.1 <= r.n) : still c m = still c' m':=by
 have hr:=zdZ A h
 have hf:=zfS R' O' g' b' hn'
 cases hs : still c' m' with
 | true =>
   rw [hs] at hf
   unfold still
   rw [hr,<- hf]
   rfl
 | false =>
   rw [hs] at hf
   unfold still
   rw [hr,<- hf]
   show zfp c m = false
   unfold zfp
   cases hl : zaU c m with
   | false=>rfl
   | true =>
     cases hh : m.heat.isEmpty with
     | false=>rfl
     | true =>
       cases hb : m.bar.isEmpty with
       | false=>rfl
       | true =>
         obtain ⟨k,j,hk,hp⟩:=zfg O hl
         have hb' : (core m).bar = (core m').bar:=congrArg Ms.bar h
         have hb' : m.bar = m'.bar:=hb'
         have hh' : (core m).heat = (core m').heat:=congrArg Ms.heat h
         have hh' : m.heat = m'.heat:=hh'
         have e1 : fall c' m' = m':=by
          unfold fall
          rw [<- hb',List.isEmpty_iff.mp hb]
         have e2 : cool m' = m':=by
          unfold cool
          rw [<- hh',if_pos hh]
         have:=zfR A R' O g O' g' b' hn' (by rw [e1,e2]; exact h) hpk hs hps hw hk hp
         rw [hl] at this
         cases this
theorem zjO {c : Cf} {m : Ms} (R : Rt c) (O : Ok c m) (g : Gd c m) (b : Bd c m) (hn : ∀ r ∈ c.rs,r.n = (cntS c.keys r.s : Int)) : (tick c m).waits = m.waits:=by
 have O1:=O.fall.cool
 have g1:=(g.fall R O).cool R O.fall
 have b1:=Bd.cool R (g.fall R O) b.fall
 have e1 : (cool (fall c m)).waits = m.waits:=by
  have h1 : ∀ n : Ms,(cool n).waits = n.waits:=fun n=>by
   unfold cool
   split
   ·rfl
   ·split <;> rfl
  have h2 : (fall c m).waits = m.waits:=by
   unfold fall
   split
   ·rfl
   ·split <;> rfl
  rw [h1,h2]
 show (strike c (cool (fall c m))).waits = m.waits
 rw [<- e1]
 generalize cool (fall c m) = n at O1 g1 b1
 cases hk : key c n with
 | none =>
   unfold strike
   rw [hk]
 | some k =>
   cases hp : Cs.place c.rs (sg k) with
   | some j =>
     have hl:=zdC R O1 g1 b1 hn hk hp
     rw [zfe O1 hk hp hl]
     unfold pick
     split <;> rfl
   | none =>
     have hl : zaU c n = false:=by
      have e : keyS c n = sg k:=by unfold keyS; rw [hk]
      unfold zaU
      rw [e,hp]
     unfold strike
     rw [hk]
     show (if k = 47 then _ else _ : Ms).waits = _
     split
     ·unfold send
      split <;> rfl
     ·split
      ·rfl
      ·rw [hl,if_neg (fun z=>nomatch z),hp]
theorem Pk.le {c : Cf} {m : Ms} {ps qs : List (Int × Int)} (R : Rt c) (h : Pk c m ps qs) : Ok c m -> Gd c m -> (∀ (j : Nat) r x,c.rs[j]? = some r -> ps[j]? = some x -> x.1 <= r.n) -> ∀ (j : Nat) r y,c.rs[j]? = some r -> qs[j]? = some y -> y.1 <= r.n:=by
 induction h with
 | stop _=>exact fun _ _ h=>h
 | @go m ps qs hs _ ih =>
   intro O g h
   refine ih O.tick (g.tick R O) fun j r x hr hx=>?_
   have hj : j < c.rs.length:=(List.getElem?_eq_some_iff.mp hr).1
   obtain ⟨l,hl⟩ : ∃ l,(tick c m).lanes[j]? = some l:=⟨_,List.getElem?_eq_getElem (by rw [O.tick.ln]; exact hj)⟩
   have hjp : j < ps.length:=by
    have:=(List.getElem?_eq_some_iff.mp hx).1
    rwa [zit] at this
   have hp : ps[j]? = some (ps[j]'hjp):=List.getElem?_eq_getElem hjp
   rw [zlQ _ hp (zgK hr hl)] at hx
   cases hx
   unfold up1
   split
   ·show r.n - _ <= r.n
    omega
   ·exact h j r _ hr hp
end Mc
namespace Mc
open PySem L2
theorem zlR {K : PySem.W.Frag} {H H' : Hp} {a : Addr} {xs : List V} (e : Same H H') (h : SqT K H a xs) : SqT K H' a xs:=by
 rcases h with (h | ⟨o,h⟩) | h
 ·exact .inl (.inl (e _ _ h))
 ·exact .inl (.inr ⟨o,e _ _ h⟩)
 ·exact .inr h
mutual
theorem zmk {K : PySem.W.Frag} {H H' : Hp} (s : Same H H') : ∀ (d : PyData) (v : V),Den K H v d -> Den K H' v d
 | .none,v,h=>by cases h with | non=>exact .non
 | .bool b,v,h=>by cases h with | bl=>exact .bl _
 | .int i,v,h=>by cases h with | int=>exact .int _
 | .str x,v,h=>by cases h with | str _ q=>exact .str _ q
 | .list ds,v,h=>by cases h with | lst h1 q=>exact .lst (s.seq h1) (zeU s ds _ q)
 | .tuple ds,v,h=>by cases h with | tup h1 q=>exact .tup (zlR s h1) (zeU s ds _ q)
 | .dict _,v,h=>by cases h
theorem zeU {K : PySem.W.Frag} {H H' : Hp} (s : Same H H') : ∀ (ds : List PyData) (xs : List V),DenL K H xs ds -> DenL K H' xs ds
 | [],xs,h=>by cases h with | nil=>exact .nil
 | d :: ds,xs,h=>by
   cases h with
   | cons h1 h2=>exact .cons (zmk s d _ h1) (zeU s ds _ h2)
end
structure Duo (C : Addr) (ns : List Str) (c0 c1 : Cf) (H : Hp) (p0 p1 : Addr) (A0 A1 : Adr) (m0 m1 : Ms) (y0 y1 : List V) (Xs : List (Addr × List V)) : Prop where
 a0 : Mac C ns c0 H p0 A0 m0
 a1 : Mac C ns c1 H p1 A1 m1
 sp : Sep p0 A0 p1 A1
 x0 : ∀ X ∈ Xs,X.1 ∉ A0.all
 x1 : ∀ X ∈ Xs,X.1 ∉ A1.all
 hx : ∀ X ∈ Xs,H X.1 = some (.lst X.2)
 r0 : Paired (Cs.zbU H) y0 c0.rs
 r1 : Paired (Cs.zbU H) y1 c1.rs
theorem Duo.same {C : Addr} {ns : List Str} {c0 c1 : Cf} {H H' : Hp} {p0 p1 : Addr} {A0 A1 : Adr} {m0 m1 : Ms} {y0 y1 : List V} {Xs : List (Addr × List V)} (h : Duo C ns c0 c1 H p0 p1 A0 A1 m0 m1 y0 y1 Xs) (s : Same H H') : Duo C ns c0 c1 H' p0 p1 A0 A1 m0 m1 y0 y1 Xs :=
 ⟨h.a0.same s,h.a1.same s,h.sp,h.x0,h.x1,fun X hX=>s _ _ (h.hx X hX),Cs.zay h.r0 s,Cs.zay h.r1 s⟩
theorem Duo.symm {C : Addr} {ns : List Str} {c0 c1 : Cf} {H : Hp} {p0 p1 : Addr} {A0 A1 : Adr} {m0 m1 : Ms} {y0 y1 : List V} {Xs : List (Addr × List V)} (h : Duo C ns c0 c1 H p0 p1 A0 A1 m0 m1 y0 y1 Xs) : Duo C ns c1 c0 H p1 p0 A1 A0 m1 m0 y1 y0 Xs :=
 ⟨h.a1,h.a0,h.sp.symm,h.x1,h.x0,h.hx,h.r1,h.r0⟩
theorem Duo.set {C : Addr} {ns : List Str} {c0 c1 : Cf} {H : Hp} {p0 p1 X : Addr} {A0 A1 : Adr} {m0 m1 : Ms} {y0 y1 vs vs' : List V} {Xs : List (Addr × List V)} (h : Duo C ns c0 c1 H p0 p1 A0 A1 m0 m1 y0 y1 ((X,vs) :: Xs)) (n : ∀ Y ∈ Xs,Y.1 ≠ X) : Duo C ns c0 c1 (upd H X (.lst vs')) p0 p1 A0 A1 m0 m1 y0 y1 ((X,vs') :: Xs):=by
 have hX : H X = some (.lst vs):=h.hx (X,vs) List.mem_cons_self
 have n0 : X ∉ A0.all:=h.x0 (X,vs) List.mem_cons_self
 have n1 : X ∉ A1.all:=h.x1 (X,vs) List.mem_cons_self
 refine ⟨h.a0.aside hX n0,h.a1.aside hX n1,h.sp,fun Y hY=>?_,fun Y hY=>?_,fun Y hY=>?_,Cs.zcV h.r0 hX (fun z e=>by cases e),Cs.zcV h.r1 hX (fun z e=>by cases e)⟩
 ·rcases List.mem_cons.mp hY with rfl | hY
  ·exact n0
  ·exact h.x0 Y (List.mem_cons_of_mem _ hY)
 ·rcases List.mem_cons.mp hY with rfl | hY
  ·exact n1
  ·exact h.x1 Y (List.mem_cons_of_mem _ hY)
 ·rcases List.mem_cons.mp hY with rfl | hY
  ·exact upd_same
  ·rw [zai (n Y hY)]
   exact h.hx Y (List.mem_cons_of_mem _ hY)
theorem Duo.more {C : Addr} {ns : List Str} {c0 c1 : Cf} {H : Hp} {p0 p1 X : Addr} {A0 A1 : Adr} {m0 m1 : Ms} {y0 y1 vs : List V} {Xs : List (Addr × List V)} (h : Duo C ns c0 c1 H p0 p1 A0 A1 m0 m1 y0 y1 Xs) (hX : H X = none) : Duo C ns c0 c1 (upd H X (.lst vs)) p0 p1 A0 A1 m0 m1 y0 y1 ((X,vs) :: Xs):=by
 have s:=zaf hX (.lst vs)
 refine ⟨h.a0.same s,h.a1.same s,h.sp,fun Y hY=>?_,fun Y hY=>?_,fun Y hY=>?_,Cs.zay h.r0 s,Cs.zay h.r1 s⟩
 ·rcases List.mem_cons.mp hY with rfl | hY
  ·exact h.a0.new hX
  ·exact h.x0 Y hY
 ·rcases List.mem_cons.mp hY with rfl | hY
  ·exact h.a1.new hX
  ·exact h.x1 Y hY
 ·rcases List.mem_cons.mp hY with rfl | hY
  ·exact upd_same
  ·exact s _ _ (h.hx Y hY)
structure Fx (c c' : Cf) (qs : List (Int × Int)) : Prop where
 al : Alike c c'
 R : Rt c
 R' : Rt c'
 hn : ∀ r ∈ c.rs,0 <= r.n
 hn' : ∀ r ∈ c'.rs,r.n = (cntS c'.keys r.s : Int)
 hw : ∀ (j : Nat) r y,c.rs[j]? = some r -> qs[j]? = some y -> y.1 <= r.n
def GdP (x : Int × Int) : Prop:=(x.1 = 0 /\ x.2 = 0) \/ (0 < x.1 /\ 0 < x.2)
structure Go (c c' : Cf) (m m' : Ms) (ps qs : List (Int × Int)) : Prop where
 o : Ok c m
 o' : Ok c' m'
 g : Gd c m
 g' : Gd c' m'
 b' : Bd c' m'
 h : core m = core m'
 pk : Pk c' m' ps qs
 ln : ps.length = c'.rs.length
 w : m'.waits = 0
 d : 0 <= m'.done
 gp : ∀ x ∈ ps,GdP x
theorem Go.still {c c' : Cf} {m m' : Ms} {ps qs : List (Int × Int)} (F : Fx c c' qs) (G : Go c c' m m' ps qs) : Mc.still c m = Mc.still c' m':=zgM F.al F.R' G.o G.o' G.g G.g' G.b' F.hn' G.h G.pk G.ln F.hw
theorem zqc {d : Int} (hd : 0 < d) (os : List Int) {ps : List (Int × Int)} (h : ∀ x ∈ ps,GdP x) : ∀ x ∈ upN d os ps,GdP x:=by
 induction os generalizing ps with
 | nil=>rw [zkF]; exact h
 | cons o os ih =>
   cases ps with
   | nil=>exact h
   | cons y ys =>
     intro x hx
     rcases List.mem_cons.mp hx with rfl | hx
     ·have hy:=h y List.mem_cons_self
      unfold up1
      split
      ·rename_i hlt
       refine .inr ⟨?_,hd⟩
       show 0 < o
       rcases hy with ⟨h1,_⟩ | ⟨h1,_⟩ <;> omega
      ·exact hy
     ·exact ih (fun z hz=>h z (List.mem_cons_of_mem _ hz)) x hx
theorem Go.next {c c' : Cf} {m m' : Ms} {ps qs : List (Int × Int)} (F : Fx c c' qs) (G : Go c c' m m' ps qs) (hs : Mc.still c' m' = false) : Go c c' (tick c m) (tick c' m') (upN (tick c' m').done (zkm c'.rs (tick c' m').lanes) ps) qs:=by
 have hd : (tick c' m').done = m'.done + 1:=zlS c' m'
 have h0:=G.d
 exact ⟨G.o.tick,G.o'.tick,G.g.tick F.R G.o,G.g'.tick F.R' G.o',G.b'.tick F.R' G.o' G.g',ziQ F.al F.R F.R' G.o G.o' G.g G.g' G.b' F.hn' G.h G.pk hs G.ln F.hw,G.pk.next hs,by rw [zit]; exact G.ln,by rw [zjO F.R' G.o' G.g' G.b' F.hn']; exact G.w,by rw [hd]; omega,zqc (by rw [hd]; omega) _ G.gp⟩
theorem Go.rest {c c' : Cf} {m m' : Ms} {ps qs : List (Int × Int)} (F : Fx c c' qs) (G : Go c c' m m' ps qs) (hs : Mc.still c' m' = true) : zbn c m = true /\ ps = qs:=by
 refine ⟨?_,?_⟩
 ·rw [zdZ F.al G.h,<- zfS F.R' G.o' G.g' G.b' F.hn']
  exact hs
 ·cases G.pk with
  | stop _=>rfl
  | go h _=>rw [hs] at h; cases h
def co (x q : Int × Int) : Int:=if x.1 = q.1 then x.2 else 0
end Mc
namespace Mc
open PySem L2
theorem Go.fin {c c' : Cf} {qs : List (Int × Int)} (F : Fx c c' qs) {m' : Ms} {ps : List (Int × Int)} (h : Pk c' m' ps qs) : ∀ {m : Ms},Go c c' m m' ps qs -> core (Mc.fin c m) = core (Mc.fin c' m') /\ (Mc.fin c' m').waits = 0 /\ zbn c (Mc.fin c m) = true:=by
 induction h with
 | stop hs =>
   intro m G
   rw [zeN hs,zeN ((G.still F).trans hs)]
   exact ⟨G.h,G.w,(G.rest F hs).1⟩
 | go hs _ ih =>
   intro m G
   rw [<- zlf G.o' hs,<- zlf G.o ((G.still F).trans hs)]
   exact ih F (G.next F hs)
def sgs (m : Ms) : Nat:=(flat (m.texts.map cps)).countP isSg
structure Dm (c : Cf) (s f : Ms) : Prop where
 at_ : s.at_ <= f.at_
 cs : s.texts.length < f.texts.length \/ (s.texts.length = f.texts.length /\ (s.heat ≠ [] -> f.heat ≠ [] -> f.togo <= s.togo))
 fl : sgs s + f.bar.length <= sgs f + s.bar.length
 tg : f.heat ≠ [] -> f.togo <= c.cast
theorem sent {c : Cf} {m : Ms} (R : Rt c) (g : Gd c m) : (c.keys.cps.toList.take m.at_).count 47 = m.texts.length + (if m.heat.isEmpty = true then 0 else 1):=by
 rw [<- g.tx,List.count_append,List.count_append,zfL (fun b hb=>by obtain ⟨t,ht,rfl⟩:=List.mem_map.mp hb; exact g.pn t ht),List.length_map,List.count_eq_zero.mpr (zes R g.il)]
 unfold hot
 split
 ·rfl
 ·rw [List.count_append,List.count_eq_zero.mpr (zes R g.ih)]
  rfl
theorem zgZ {ks : List Nat} {a b : Nat} (h : a <= b) : (ks.take a).count 47 <= (ks.take b).count 47:=by
 have e : ks.take a = (ks.take b).take a:=by rw [List.take_take,Nat.min_eq_left h]
 rw [e]
 exact List.Sublist.count_le _ (List.take_sublist _ _)
theorem zmT {as bs : List (List Nat)} {u v : List Nat} (ha : ∀ a ∈ as,47 ∉ a) (hb : ∀ b ∈ bs,47 ∉ b) (hl : as.length <= bs.length) (h : flat as ++ u = flat bs ++ v) : (flat as).countP isSg <= (flat bs).countP isSg:=by
 induction as generalizing bs with
 | nil=>exact Nat.zero_le _
 | cons a as ih =>
   cases bs with
   | nil=>cases hl
   | cons b bs =>
     rw [zbq,zbq,List.append_assoc,List.append_assoc] at h
     obtain ⟨e1,e2⟩:=zih (ha a List.mem_cons_self) (hb b List.mem_cons_self) h
     have:=ih (fun x hx=>ha x (List.mem_cons_of_mem _ hx)) (fun x hx=>hb x (List.mem_cons_of_mem _ hx)) (Nat.le_of_succ_le_succ hl) e2
     rw [zbq,zbq,List.countP_append,List.countP_append,List.countP_cons,List.countP_cons,e1]
     omega
theorem zjt {c c' : Cf} (A : Alike c c') {s f : Ms} (g : Gd c s) (g' : Gd c' f) (h : s.at_ <= f.at_) (hl : s.texts.length <= f.texts.length) : sgs s <= sgs f:=by
 have t1:=g.tx
 have t2:=g'.tx
 rw [A.keys] at t2
 have e : c.keys.cps.toList.take f.at_ = c.keys.cps.toList.take s.at_ ++ (c.keys.cps.toList.take f.at_).drop s.at_:=by
  have:=(List.take_append_drop s.at_ (c.keys.cps.toList.take f.at_)).symm
  rwa [List.take_take,Nat.min_eq_left h] at this
 rw [e,<- t1,List.append_assoc,List.append_assoc,List.append_assoc] at t2
 exact zmT (fun a ha=>by obtain ⟨x,hx,rfl⟩:=List.mem_map.mp ha; exact g.pn x hx) (fun a ha=>by obtain ⟨x,hx,rfl⟩:=List.mem_map.mp ha; exact g'.pn x hx) (by rw [List.length_map,List.length_map]; exact hl) t2.symm
theorem zln {c c' : Cf} (A : Alike c c') {s f : Ms} (g : Gd c s) (g' : Gd c' f) (h : f.at_ <= s.at_) (hl : f.texts.length <= s.texts.length) : sgs f <= sgs s:=by
 have A' : Alike c' c:=⟨A.keys.symm,A.cast.symm,A.sgs.symm,A.ths.symm⟩
 exact zjt A' g' g h hl
theorem zod : ∀ k ∈ Cs.signs,isSg k = true:=by decide +kernel
theorem zoa {c : Cf} (R : Rt c) {l : List Part} (h : ∀ x ∈ mats l,Own c x) : (cps (zaM l)).countP isSg = (mats l).length:=by
 rw [zdb]
 induction l with
 | nil=>rfl
 | cons p l ih =>
   rw [List.flatMap_cons,List.countP_append,zcj,List.length_append,ih (fun x hx=>h x (by rw [zcj]; exact List.mem_append_right _ hx))]
   congr 1
   cases p with
   | none=>rfl
   | some x =>
     obtain ⟨j,r,hr,e⟩:=h x (by rw [zcj]; exact List.mem_cons_self)
     subst e
     obtain ⟨d,hd,ed⟩:=R.sg r (List.mem_of_getElem? hr)
     show (cps r.s).countP isSg = 1
     rw [ed,zkz]
     show List.countP isSg [d] = 1
     rw [List.countP_cons,if_pos (zod d hd)]
     rfl
theorem zjq {c : Cf} {m : Ms} (O : Ok c m) : (fall c m).bar = m.bar.tail:=by
 unfold fall
 cases hb : m.bar with
 | nil=>exact hb
 | cons x r =>
   obtain ⟨_,_,_,_,k,hk,_⟩:=O.bm x (by rw [hb]; exact List.mem_cons_self)
   show (match Mt.zaG (c.rs.map fun r : Cs.Row=>r.t) x.2 with | some k=>({ m with bar:=r,lanes:=zbM m.lanes k x } : Ms) | none=>m).bar = r
   rw [hk]
theorem Dm.le {c : Cf} {s f : Ms} (d : Dm c s f) : s.texts.length <= f.texts.length:=by
 rcases d.cs with h | h <;> omega
theorem Dm.fall {c c' : Cf} (A : Alike c c') {s f : Ms} (O : Ok c s) (O' : Ok c' f) (g : Gd c s) (g' : Gd c' f) (d : Dm c s f) : Dm c (fall c s) (fall c' f):=by
 obtain ⟨a1,a2,a3,a4,a5,_,_⟩:=zev c s
 obtain ⟨b1,b2,b3,b4,b5,_,_⟩:=zev c' f
 have e1 : sgs (Mc.fall c s) = sgs s:=by unfold sgs; rw [a5]
 have e2 : sgs (Mc.fall c' f) = sgs f:=by unfold sgs; rw [b5]
 have hm:=zjt A g g' d.at_ d.le
 have hf:=d.fl
 refine ⟨by rw [a1,b1]; exact d.at_,by rw [a5,b5,a3,b3,a4,b4]; exact d.cs,?_,by rw [b3,b4]; exact d.tg⟩
 rw [e1,e2,zjq O,zjq O',List.length_tail,List.length_tail]
 omega
theorem zcL (m : Ms) : (m.heat = [] /\ cool m = m) \/ (m.heat ≠ [] /\ m.togo <= 1 /\ (cool m).texts.length = m.texts.length + 1 /\ (cool m).heat = []) \/ (m.heat ≠ [] /\ 1 < m.togo /\ (cool m).texts = m.texts /\ (cool m).heat = m.heat /\ (cool m).togo = m.togo - 1):=by
 by_cases h : m.heat.isEmpty = true
 ·exact .inl ⟨List.isEmpty_iff.mp h,if_pos h⟩
 ·have hn : m.heat ≠ []:=fun z=>h (by rw [z]; rfl)
  by_cases h2 : m.togo - 1 <= 0
  ·refine .inr (.inl ⟨hn,by omega,?_,?_⟩)
   ·unfold cool
    rw [if_neg h,if_pos h2]
    exact List.length_append
   ·unfold cool
    rw [if_neg h,if_pos h2]
  ·refine .inr (.inr ⟨hn,by omega,?_,?_,?_⟩)
   all_goals
    unfold cool
    rw [if_neg h,if_neg h2]
theorem Dm.cool {c c' : Cf} (A : Alike c c') (R : Rt c) (R' : Rt c') {s f : Ms} (O : Ok c s) (O' : Ok c' f) (g : Gd c s) (g' : Gd c' f) (d : Dm c s f) : Dm c (cool s) (cool f):=by
 obtain ⟨a1,a2,a3,a4,a5⟩:=zer s
 obtain ⟨b1,b2,b3,b4,b5⟩:=zer f
 have n1:=sent R g
 have n2:=sent R' g'
 rw [A.keys] at n2
 have hle:=zgZ (ks:=c.keys.cps.toList) d.at_
 rw [n1,n2] at hle
 have bal : ∀ {c : Cf} {m : Ms},Rt c -> Gd c m -> ((sgs (Mc.cool m) : Nat) : Int) - ((Mc.cool m).bar.length : Int) = ((sgs m : Nat) : Int) - (m.bar.length : Int):=fun {c m} R g=>by
  unfold Mc.cool
  split
  ·rfl
  ·split
   ·unfold sgs
    show (((flat ((m.texts ++ [zaM m.heat]).map cps)).countP isSg : Nat) : Int) - ((m.bar ++ mats m.heat).length : Int) = _
    rw [List.map_append,List.map_cons,List.map_nil,zgV,List.countP_append,List.countP_append,zoa R g.ih,List.length_append]
    have e : List.countP isSg [47] = 0:=rfl
    rw [e]
    omega
   ·rfl
 have hb1:=bal R g
 have hb2:=bal R' g'
 have hf:=d.fl
 have ht:=d.tg
 have tgs:=O.tg
 have tgf:=O'.tg
 have hle1 : s.heat ≠ [] -> f.heat = [] -> s.texts.length + 1 <= f.texts.length:=fun z1 z2=>by
  rw [if_neg (fun z=>z1 (List.isEmpty_iff.mp z)),if_pos (List.isEmpty_iff.mpr z2)] at hle
  omega
 have hcs:=d.cs
 refine ⟨by rw [a1,b1]; exact d.at_,?_,by omega,?_⟩
 ·clear hb1 hb2 hf bal n1 n2 hle a1 a2 a3 a4 a5 b1 b2 b3 b4 b5
  rcases zcL s with ⟨s1,s2⟩ | ⟨s1,s2,s3,s4⟩ | ⟨s1,s2,s3,s4,s5⟩
  ·rw [s2]
   rcases zcL f with ⟨f1,f2⟩ | ⟨f1,f2,f3,f4⟩ | ⟨f1,f2,f3,f4,f5⟩
   ·rw [f2]
    exact hcs
   ·refine .inl ?_
    rcases hcs with h | h <;> omega
   ·rw [f3]
    rcases hcs with h | h
    ·exact .inl h
    ·exact .inr ⟨h.1,fun z=>absurd s1 z⟩
  ·rcases zcL f with ⟨f1,f2⟩ | ⟨f1,f2,f3,f4⟩ | ⟨f1,f2,f3,f4,f5⟩
   ·have:=hle1 s1 f1
    rw [f2,s3]
    by_cases z : s.texts.length + 1 = f.texts.length
    ·exact .inr ⟨z,fun z=>absurd s4 z⟩
    ·exact .inl (by omega)
   ·rw [s3,f3]
    rcases hcs with h | h
    ·exact .inl (by omega)
    ·exact .inr ⟨by omega,fun z=>absurd s4 z⟩
   ·rw [s3,f3]
    rcases hcs with h | h
    ·by_cases z : s.texts.length + 1 = f.texts.length
     ·exact .inr ⟨z,fun z=>absurd s4 z⟩
     ·exact .inl (by omega)
    ·have:=h.2 s1 f1
     omega
  ·rw [s3]
   rcases zcL f with ⟨f1,f2⟩ | ⟨f1,f2,f3,f4⟩ | ⟨f1,f2,f3,f4,f5⟩
   ·have:=hle1 s1 f1
    rw [f2]
    exact .inl (by omega)
   ·rw [f3]
    refine .inl ?_
    rcases hcs with h | h <;> omega
   ·rw [f3]
    rcases hcs with h | h
    ·exact .inl h
    ·have:=h.2 s1 f1
     exact .inr ⟨h.1,fun _ _=>by rw [s5,f5]; omega⟩
 ·intro hh
  rcases zcL f with ⟨f1,f2⟩ | ⟨f1,f2,f3,f4⟩ | ⟨f1,f2,f3,f4,f5⟩
  ·rw [f2] at hh
   exact absurd f1 hh
  ·exact absurd f4 hh
  ·have:=ht f1
   rw [f5]
   omega
theorem zec (c : Cf) (m : Ms) : (strike c m).texts = m.texts /\ (strike c m).bar = m.bar:=⟨(zeI c m).2,(zeI c m).1⟩
theorem zba {c : Cf} {m : Ms} (R : Rt c) (g : Gd c m) : ((strike c m).at_ = m.at_ /\ (strike c m).heat = m.heat /\ (strike c m).togo = m.togo) \/ ((strike c m).at_ = m.at_ + 1 /\ (strike c m).heat = m.heat /\ (strike c m).togo = m.togo /\ key c m ≠ some 47) \/ ((strike c m).at_ = m.at_ + 1 /\ m.heat = [] /\ (strike c m).heat ≠ [] /\ (strike c m).togo = c.cast /\ key c m = some 47):=by
 unfold strike
 cases hk : key c m with
 | none=>exact .inl ⟨rfl,rfl,rfl⟩
 | some k =>
   show ((if k = 47 then _ else _ : Ms).at_ = _ /\ (if k = 47 then _ else _ : Ms).heat = _ /\ (if k = 47 then _ else _ : Ms).togo = _) \/ ((if k = 47 then _ else _ : Ms).at_ = _ /\ (if k = 47 then _ else _ : Ms).heat = _ /\ (if k = 47 then _ else _ : Ms).togo = _ /\ _) \/ ((if k = 47 then _ else _ : Ms).at_ = _ /\ _ /\ (if k = 47 then _ else _ : Ms).heat ≠ _ /\ (if k = 47 then _ else _ : Ms).togo = _ /\ _)
   by_cases h1 : k = 47
   ·rw [if_pos h1]
    unfold send
    by_cases h2 : m.heat.isEmpty = true
    ·rw [if_pos h2]
     exact .inr (.inr ⟨rfl,List.isEmpty_iff.mp h2,g.line_ne R (by rw [hk,h1]),rfl,by rw [h1]⟩)
    ·rw [if_neg h2]
     exact .inl ⟨rfl,rfl,rfl⟩
   ·rw [if_neg h1]
    have h1' : some k ≠ some 47:=fun z=>h1 (Option.some.inj z)
    by_cases h2 : k = 32
    ·rw [if_pos h2]
     exact .inr (.inl ⟨rfl,rfl,rfl,h1'⟩)
    ·rw [if_neg h2]
     split
     ·exact .inl ⟨rfl,rfl,rfl⟩
     ·split
      ·unfold pick
       split
       ·exact .inr (.inl ⟨rfl,rfl,rfl,h1'⟩)
       ·exact .inl ⟨rfl,rfl,rfl⟩
      ·exact .inl ⟨rfl,rfl,rfl⟩
theorem zlt {c : Cf} {m : Ms} (O : Ok c m) {k : Nat} (hk : key c m = some k) (hl : ∀ j,Cs.place c.rs (sg k) = some j -> zaU c m = false) (hs : k = 47 -> m.heat = []) : (strike c m).at_ = m.at_ + 1:=by
 unfold strike
 rw [hk]
 show (if k = 47 then _ else _ : Ms).at_ = _
 by_cases h1 : k = 47
 ·rw [if_pos h1]
  unfold send
  rw [if_pos (by rw [hs h1]; rfl)]
 ·rw [if_neg h1]
  by_cases h2 : k = 32
  ·rw [if_pos h2]
   rfl
  ·rw [if_neg h2]
   have hp : ∃ j,Cs.place c.rs (sg k) = some j:=by
    rcases O.cf.known k (List.mem_of_getElem? hk) with z | z | z
    ·exact absurd z h1
    ·exact absurd z h2
    ·exact Option.isSome_iff_exists.mp z.1
   obtain ⟨j,hj⟩:=hp
   have hlk:=hl j hj
   obtain ⟨j',hj',x,r,hx⟩:=znJ O hk h1 h2 hlk
   rw [hlk,if_neg (fun z=>nomatch z),hj']
   show (pick m j').at_ = _
   unfold pick
   rw [hx]
   rfl
theorem Dm.strike {c c' : Cf} (A : Alike c c') (R : Rt c) (R' : Rt c') {s f : Ms} (O' : Ok c' f) (g : Gd c s) (g' : Gd c' f) (hl : ∀ k j,key c' f = some k -> Cs.place c'.rs (sg k) = some j -> zaU c' f = false) (d : Dm c s f) : Dm c (strike c s) (strike c' f):=by
 have n1:=sent R g
 have n2:=sent R' g'
 rw [A.keys] at n2
 have hle:=zgZ (ks:=c.keys.cps.toList) d.at_
 rw [n1,n2] at hle
 have hat:=d.at_
 have hcs:=d.cs
 have htg:=d.tg
 obtain ⟨a1,a2⟩:=zec c s
 obtain ⟨b1,b2⟩:=zec c' f
 have hc:=A.cast
 refine ⟨?_,?_,?_,?_⟩
 ·rcases zba R g with ⟨z,_⟩ | ⟨z,_,_,z4⟩ | ⟨z,z2,z3,_,z5⟩
  ·rcases zba R' g' with ⟨y,_⟩ | ⟨y,_⟩ | ⟨y,_⟩ <;> omega
  all_goals
   by_cases e : s.at_ = f.at_
   ·have ek : key c' f = key c s:=by
     unfold key
     rw [A.keys,e]
    cases hk : key c s with
    | none =>
      have : (Mc.strike c s).at_ = s.at_:=by
       unfold Mc.strike
       rw [hk]
      omega
    | some k =>
      rw [z,zlt O' (ek.trans hk) (fun j hj=>hl k j (ek.trans hk) hj) (fun h47=>?_)]
      ·omega
      ·first
        | exact absurd (by rw [hk,h47]) z4
        | (cases hh : f.heat with
           | nil=>rfl
           | cons y v =>
             exfalso
             rw [e] at n1
             rw [n1,z2,hh] at n2
             have n2 : s.texts.length + 0 = f.texts.length + 1:=n2
             rcases hcs with h | h <;> omega)
   ·rcases zba R' g' with ⟨y,_⟩ | ⟨y,_⟩ | ⟨y,_⟩ <;> omega
 ·rw [a1,b1]
  rcases hcs with h | h
  ·exact .inl h
  ·refine .inr ⟨h.1,fun hs hf=>?_⟩
   have hh:=h.2
   rcases zba R g with ⟨_,z2,z3⟩ | ⟨_,z2,z3,_⟩ | ⟨_,z2,_,z3,_⟩
   ·rcases zba R' g' with ⟨_,y2,y3⟩ | ⟨_,y2,y3,_⟩ | ⟨_,y2,_,y3,_⟩
    ·rw [z2] at hs; rw [y2] at hf; rw [z3,y3]; exact hh hs hf
    ·rw [z2] at hs; rw [y2] at hf; rw [z3,y3]; exact hh hs hf
    ·exfalso
     rw [z2] at hs
     rw [y2] at hle
     cases hx : s.heat with
     | nil=>exact hs hx
     | cons x u =>
       rw [hx] at hle
       have hle : s.texts.length + 1 <= f.texts.length + 0:=hle
       omega
   ·rcases zba R' g' with ⟨_,y2,y3⟩ | ⟨_,y2,y3,_⟩ | ⟨_,y2,_,y3,_⟩
    ·rw [z2] at hs; rw [y2] at hf; rw [z3,y3]; exact hh hs hf
    ·rw [z2] at hs; rw [y2] at hf; rw [z3,y3]; exact hh hs hf
    ·exfalso
     rw [z2] at hs
     rw [y2] at hle
     cases hx : s.heat with
     | nil=>exact hs hx
     | cons x u =>
       rw [hx] at hle
       have hle : s.texts.length + 1 <= f.texts.length + 0:=hle
       omega
   ·rw [z3]
    rcases zba R' g' with ⟨_,y2,y3⟩ | ⟨_,y2,y3,_⟩ | ⟨_,y2,_,y3,_⟩
    ·rw [y2] at hf; rw [y3]; exact htg hf
    ·rw [y2] at hf; rw [y3]; exact htg hf
    ·rw [y3,hc]; exact Int.le_refl _
 ·have e1 : sgs (Mc.strike c s) = sgs s:=by unfold sgs; rw [a1]
  have e2 : sgs (Mc.strike c' f) = sgs f:=by unfold sgs; rw [b1]
  rw [e1,e2,a2,b2]
  exact d.fl
 ·intro hf
  rcases zba R' g' with ⟨_,y2,y3⟩ | ⟨_,y2,y3,_⟩ | ⟨_,y2,_,y3,_⟩
  ·rw [y2] at hf; rw [y3]; exact htg hf
  ·rw [y2] at hf; rw [y3]; exact htg hf
  ·rw [y3,hc]; exact Int.le_refl _
theorem Dm.tick {c c' : Cf} (A : Alike c c') (R : Rt c) (R' : Rt c') (hn' : ∀ r ∈ c'.rs,r.n = (cntS c'.keys r.s : Int)) {s f : Ms} (O : Ok c s) (O' : Ok c' f) (g : Gd c s) (g' : Gd c' f) (b' : Bd c' f) (d : Dm c s f) : Dm c (tick c s) (tick c' f):=by
 have O1:=O'.fall.cool
 have g1:=(g'.fall R' O').cool R' O'.fall
 have h:=((d.fall A O O' g g').cool A R R' O.fall O'.fall (g.fall R O) (g'.fall R' O')).strike A R R' O1 ((g.fall R O).cool R O.fall) g1 fun k j hk hp=>zdC R' O1 g1 (Bd.cool R' (g'.fall R' O') b'.fall) hn' hk hp
 exact ⟨h.at_,h.cs,h.fl,h.tg⟩
theorem Dm.rest {c c' : Cf} (A : Alike c c') (R : Rt c) (R' : Rt c') {s f : Ms} (O : Ok c s) (O' : Ok c' f) (g : Gd c s) (g' : Gd c' f) (d : Dm c s f) (hr : zbn c s = true) : zbn c' f = true:=by
 unfold zbn at hr
 simp only [Bool.and_eq_true] at hr
 obtain ⟨⟨⟨h1,h2⟩,h3⟩,h4⟩:=hr
 have hat : s.at_ = c.keys.cps.toList.length:=by
  have a:=O.le
  have b:=List.getElem?_eq_none_iff.mp (Option.isNone_iff_eq_none.mp h1)
  omega
 have hat' : f.at_ = c.keys.cps.toList.length:=by
  have a:=O'.le
  rw [A.keys] at a
  have:=d.at_
  omega
 have n1:=sent R g
 have n2:=sent R' g'
 rw [A.keys,hat',<- hat,n1,if_pos h3] at n2
 have hle:=d.le
 have hhe : f.heat.isEmpty = true:=by
  cases e : f.heat.isEmpty with
  | true=>rfl
  | false =>
    rw [e,if_neg (fun z=>nomatch z)] at n2
    omega
 rw [hhe,if_pos rfl] at n2
 have hm:=zln A g g' (by omega) (by omega)
 have hf:=d.fl
 rw [List.isEmpty_iff.mp h4,List.length_nil] at hf
 have hb : f.bar = []:=List.length_eq_zero_iff.mp (by omega)
 have hk : key c' f = none:=by
  unfold key
  rw [A.keys]
  exact List.getElem?_eq_none (by omega)
 unfold zbn
 rw [hk,O'.en (by rw [A.keys]; exact hat'),hhe,hb]
 rfl
theorem Dm.start {c : Cf} {rs rs' : List Cs.Row} : Dm c (start rs) (start rs'):=⟨Nat.le_refl _,.inr ⟨rfl,fun z=>absurd rfl z⟩,Nat.le_refl _,fun z=>absurd rfl z⟩
end Mc
namespace Mt
open PySem L2
end Mt
namespace L2
open PySem PySem.Spec PyProof.Rows
section
variable {X : Cx}
theorem zkt (hc : X.calm = true) : zdJ X (.builtin "min") (fun xs H Q=>∃ p ns m,xs = [.ref p] /\ SqL X.K H p (ns.map V.int) /\ zfb ns = some m /\ Q (.int m) H):=by
 intro pins s σ H xs us Q I r h
 obtain ⟨p,ns,m,rfl,hq,hgr,q⟩:=h
 obtain ⟨u,rfl,ru⟩:=zgi r
 cases ru
 obtain ⟨its,rv,pl,hz⟩:=I.list hq
 have hi : IntsAre its ns:=zdW rv
 obtain ⟨xs,e⟩:=hi.allInts.items
 have hns : ns = xs.toList.map (·.1):=by rw [<- hi.numsOf,<- nums_intItems,<- e]
 obtain ⟨hm,hall⟩:=leastO_some.mp hgr
 have hsz : 0 < xs.size:=by
  have h3 : 0 < ns.length:=List.length_pos_of_mem hm
  rw [hns,List.length_map,Array.length_toList] at h3
  exact h3
 have pl2:=pl.isList
 rw [e] at pl2
 refine min_intList (I.ok.hd hc) pl2 hsz fun v h' tk hv hk=>?_
 obtain ⟨t,rfl⟩:=intItems_at hv
 obtain ⟨g1,g2⟩:=argBest_lt (numAt xs) (xs.size - 1)
 have e3 : numAt xs (argBest (fun i j=>decide (numAt xs i < numAt xs j)) (xs.size - 1)) = m:=by
  have a1 : numAt xs (argBest (fun i j=>decide (numAt xs i < numAt xs j)) (xs.size - 1)) ∈ ns:=by
   rw [hns,numAt_eq]; exact getD_mem (by rw [List.length_map,Array.length_toList]; omega)
  have a2:=hall _ a1
  have hm2:=hm
  rw [hns] at hm2
  obtain ⟨j,hj,ej⟩:=mem_getD hm2
  rw [List.length_map,Array.length_toList] at hj
  have a3:=g2 j (by omega)
  have ej' : numAt xs j = m:=by rw [numAt_eq]; exact ej
  omega
 rw [e3]
 exact ⟨.int m,H,I.kept hk,⟨t,rfl⟩,q⟩
end
section
variable {X : Cx} (K : PySem.W.Frag) (hK : X.K = K)
include hK
theorem zjI (hc : X.calm = true) : zdJ X (.builtin "min") (fun xs H Q=>∃ p ns m,xs = [.ref p] /\ SqL K H p (ns.map V.int) /\ zfb ns = some m /\ Q (.int m) H):=by subst hK; exact zkt hc
end
end L2
namespace Hd
open PySem PySem.W PyProof.Rows L2
noncomputable section
abbrev qr (n : Nat) : Value:=.ref n
abbrev qi (n : Nat) : Value:=.int (Int.ofNat n) 0
abbrev qs (x : String) (t : Nat) : Value:=.str (Str.ofString x) t
abbrev qt (x : String) : Value:=.type x
abbrev qb (x : String) : Value:=.builtin x
abbrev qe (P : Params) (x : String) (t : Nat) (v : Value) : DictEntry:=⟨PyData.keyHash P (Str.ofString x),.str (Str.ofString x) t,v⟩
abbrev qF (x y : String) (st : Stmt) (dV kV doc pm : Value) (an : Option Addr) (cd ct : Value) : Data:=.func (fnOf (Str.ofString x) (Str.ofString y) (zam st) (zal st) (zac st) dV kV doc pm an cd ct)
abbrev qG (g b : Addr) (x y : String) (st : Stmt) (dV kV doc pm : Value) (an : Option Addr) (cd ct : Value) : Data:=.func { name:=Str.ofString x,qualname:=Str.ofString y,params:=zam st,body:=.stmts (zal st),scope:=zac st,globals:=g,closure:=[],defaults:=dV,kwdefaults:=kV,doc,pyModule:=pm,annotations:=an,code:=cd,closureTuple:=ct,builtins:=b }
abbrev qT (l : List Value) : Obj:=⟨.type "tuple",.none,.seq l.toArray 0,#[]⟩
abbrev qN (l : List Value) : Obj:=⟨.none,.none,.fields l.toArray,#[]⟩
abbrev qf (x y : String) (st : Stmt) (pm cd : Value) : Obj:=⟨.type "function",.none,qF x y st .none .none .none pm .none cd .none,#[]⟩
abbrev qg (x y : String) (st : Stmt) : Obj:=⟨.none,.none,qG 0 0 x y st .none .none .none .none .none .none .none,#[]⟩
abbrev qC (x y : String) (t l a b d f r1 : Nat) (g : Bool) (r2 : Nat) (v1 v2 v3 v4 : Value) (k t3 : Nat) : Obj:=⟨.type "code",.none,.fields #[qs x t,qs y (t + 1),qs "/claim/cut.py" (t + 2),qi l,qi a,qi b,qi d,qi f,qr r1,.bool g,qi 181,qr r2,v1,v2,v3,v4,qi k,qi l,qs "/claim/cut.py" t3],#[]⟩
structure HD where
 N : Nat
 n1 : Nat
 n2 : Nat
 n3 : Nat
 n4 : Nat
 d1 : Drawn
 k1 : Nat
 d2 : Drawn
 k2 : Nat
 d3 : Drawn
 k3 : Nat
 many : Nat
 few : Nat
 fp : Pos
 p1 : Pos
 p2 : Pos
 p3 : Pos
 cd : Value
 fr : Nat
 ann : Option Value
def alt : List Obj -> List Obj × List Obj
 | []=>([],[])
 | a :: l=>let r:=alt l; (a :: r.2,r.1)
def tree : Nat -> List Obj -> BT
 | 0,_=>.nil
 | n + 1,l=>match l with
   | []=>.nil
   | a :: l=>let r:=alt l; .node a (tree n r.1) (tree n r.2)
abbrev envH (p : Program) (D : HD) : Env:={ scope:=p.main.scope,locals:=mainNs,globals:=mainNs,cells:=[],code:=D.cd,frame:=some D.fr }
abbrev zdE (p : Program) (D : HD) : Code:=.body (behindTheImports p) (envH p D)
abbrev S0 (w : World) (os : OsState) : Shared:=⟨boot_heap w.params,Array.mk [],boot_drawn,boot_toks,os⟩
abbrev SA (D : HD) (L : Life) (A : Params -> List Obj) (w : World) (os : OsState) : Shared:=⟨⟨⟨A w.params⟩,L⟩,Array.mk [],D.d1,D.k1,os⟩
abbrev SB (D : HD) (L : Life) (A : Params -> List Obj) (w : World) (os : OsState) : SharedT:=⟨tree 12 (A w.params),D.few,L,Array.mk [],D.d2,D.k2,os⟩
abbrev SC (D : HD) (L : Life) (O : Params -> List Obj) (w : World) (os : OsState) : SharedT:=⟨tree 12 (O w.params),D.many,L,Array.mk [],D.d3,D.k3,os⟩
abbrev SF (D : HD) (L : Life) (O : Params -> List Obj) (w : World) (os : OsState) : Shared:=⟨⟨⟨O w.params⟩,L⟩,Array.mk [],D.d3,D.k3,os⟩
abbrev tbF:=PySem.W.Fast.tw14364793385576792824
abbrev Pre (p : Program) (D : HD) (L : Life) (A : Params -> List Obj) : Prop:=∀ (w : World) (os : OsState),PySem.W.Fast.tw15667345088766844465 tbF p w 11 D.ann D.n1 (S0 w os) (topStub p) =
 some (SA D L A w os,⟨PySem.W.Fast.tw11892475500146522536 tbF (zdE p D),zdE p D,D.p1,[topFrame D.fp]⟩)
abbrev Blk (p : Program) (D : HD) (L : Life) (A : Params -> List Obj) : Prop:=∀ (w : World) (os : OsState),PySem.W.Fast.tw14374325043358763698 tbF p w 11 D.ann 1 (D.n2 + 1) (SA D L A w os) (blockOf (behindTheImports p) (envH p D) (zdE p D) D.p1 [topFrame D.fp]) =
 some (.next,(SB D L A w os).abs,zdE p D,D.p2)
abbrev Go (p : Program) (D : HD) (L : Life) (A O : Params -> List Obj) : Prop:=∀ (w : World) (os : OsState),PySem.W.Fast.tw10110043849684766642 tbF p w 11 D.ann 1 (D.n3 + 1) (SB D L A w os) (piecesOf (behindTheImports p) (envH p D) (zdE p D) D.p2 [topFrame D.fp]) =
 some (.next,SC D L O w os,zdE p D,D.p3)
abbrev Fin (p : Program) (D : HD) (L : Life) (O : Params -> List Obj) : Prop:=∀ (w : World) (os : OsState),PySem.W.Fast.tw14082659384304107361 tbF p w 11 D.ann (D.n4 + 1) (SC D L O w os).abs ⟨doneF .next,zdE p D,D.p3,[topFrame D.fp]⟩ = some (SF D L O w os)
theorem zmP : treeTable = tbF:=PySem.W.Fast.te14364793385576792824
theorem zns {p : Program} {D : HD} {L : Life} {A O : Params -> List Obj} (h1 : Pre p D L A) (h2 : Blk p D L A) (h3 : Go p D L A O) (h4 : Fin p D L O) (w : World) (os : OsState) :
 topRun treeTable p w 11 D.ann (D.n1 + ((D.n2 + 1) + ((D.n3 + 1) + (D.n4 + 1)))) (S0 w os) (topStub p) = some (SF D L O w os):=by
 have e1 : topGo treeTable p w 11 D.ann D.n1 (S0 w os) (topStub p) = some (SA D L A w os,⟨denote treeTable (zdE p D),zdE p D,D.p1,[topFrame D.fp]⟩):=by
  rw [PySem.W.Fast.te15667345088766844465,PySem.W.Fast.te11892475500146522536,zmP]; exact h1 w os
 have e2 : segRun treeTable p w 11 D.ann 1 (D.n2 + 1) (SA D L A w os) (blockOf (behindTheImports p) (envH p D) (zdE p D) D.p1 [topFrame D.fp]) = some (.next,(SB D L A w os).abs,zdE p D,D.p2):=by
  rw [PySem.W.Fast.te14374325043358763698,zmP]; exact h2 w os
 have e3 : segRunT treeTable p w 11 D.ann 1 (D.n3 + 1) (SB D L A w os) (piecesOf (behindTheImports p) (envH p D) (zdE p D) D.p2 [topFrame D.fp]) = some (.next,SC D L O w os,zdE p D,D.p3):=by
  rw [PySem.W.Fast.te10110043849684766642,zmP]; exact h3 w os
 have e4 : topRun treeTable p w 11 D.ann (D.n4 + 1) (SC D L O w os).abs ⟨doneF .next,zdE p D,D.p3,[topFrame D.fp]⟩ = some (SF D L O w os):=by
  rw [PySem.W.Fast.te14082659384304107361,zmP]; exact h4 w os
 refine go_top e1 (piece_block e2 ?_)
 have:=piece_app (rest:=[]) (segRun_of e3) (piece_nil (env:=envH p D) e4)
 rw [List.append_nil] at this
 exact this
abbrev HF (L : Life) (O : Params -> List Obj) (w : World) : Heap:=⟨⟨O w.params⟩,L⟩
abbrev imF:=PySem.W.Fast.tw5923862056798008813
theorem zvg : importedModules = imF:=PySem.W.Fast.te5923862056798008813
abbrev Lk1 (p : Program) (D : HD) (L : Life) (O : Params -> List Obj) : Prop:=∀ (w : World) (os : OsState),
 (staticsOk (imF p.main.body) (boot_heap w.params) (HF L O w) && namesBound p (HF L O w) && gensDone (SF D L O w os) && laidKept (boot_heap w.params) (HF L O w)) = true
abbrev Lk2 (p q : Program) (D : HD) (L : Life) (O : Params -> List Obj) (Xt : Shared -> Bool) : Prop:=∀ (w : World) (os : OsState),
 PySem.W.Fast.tw4187177175401517315 q [] (imF p.main.body) Xt true (SF D L O w os) = openGood q []
abbrev Lk3 (D : HD) (L : Life) (O : Params -> List Obj) (K : Params -> Frag) (as : List Addr) : Prop:=∀ (w : World) (os : OsState),
 as.map (SF D L O w os).heap.get? = (K w.params).map fun x=>some x.2
theorem zkI (w : World) (D : HD) (ha : D.ann = some (.ref 6)) : ((boot_heap w.params).isNs mainGlobals && (Array.mk [] : Array GenState).size == 0,(boot_heap w.params).objs.size,(boot_heap w.params).nsMap mainGlobals "__annotations__") = (true,11,D.ann):=by
 rw [ha]; kernel_rfl
theorem znE {p q : Program} {D : HD} {L : Life} {A O : Params -> List Obj} {Xt : Shared -> Bool} {K : Params -> Frag} {as : List Addr} {N : Nat} {e : ∀ P,as = (K P).map (·.1)}
 (h0 : opening p = plainProg p.main.scope.names) (h0' : ∀ s,fenceModules? p s = some s) (h6 : Nat.ble 600 N = true) (ha : D.ann = some (.ref 6)) (hn : Nat.ble (D.n1 + ((D.n2 + 1) + ((D.n3 + 1) + (D.n4 + 1)))) N = true)
 (h1 : Pre p D L A) (h2 : Blk p D L A) (h3 : Go p D L A O) (h4 : Fin p D L O) (l1 : Lk1 p D L O) (l2 : Lk2 p q D L O Xt) (l3 : Lk3 D L O K as) :
 LeftO p q [] Xt (Hook.obs (kHook K as e)) (Hook.val (kHook K as e)) N :=
 LeftO.of_pieces (H₀:=boot_heap) (H₁:=fun P=>⟨⟨O P⟩,L⟩) (gs₀:=Array.mk []) (gs₁:=Array.mk []) (d₁:=D.d3) (k₁:=D.k3) (m₀:=11) (ann:=D.ann) (boot_open h0 h6 h0') (fun w=>zkI w D ha) (zns h1 h2 h3 h4) hn fun w=>funext fun os=>by
  have a1:=l1 w os
  have a2:=l2 w os
  rw [<- zvg] at a1 a2
  rw [<- PySem.W.Fast.te4187177175401517315] at a2
  exact looks_pair a1 (looks_pair a2 (l3 w os))
abbrev zoG:=PySem.W.Fast.tw9446332074065402090
abbrev zse (s : Stmt) : Pos:=match s with
 | .FunctionDef _ _ _ _ _ _ _ _ _ p=>p
 | _=>⟨0,0,0,0⟩
abbrev znW (x : String) (s : Stmt) : DefRec:=⟨Str.ofString x,zam s,zal s,zac s,zse s⟩
abbrev XtH (l : OpenLaw) (q : Program) : Shared -> Bool:=fun s=>xlAt q [] s && recOk (RowW.records l.row.toRowW) s
theorem holds {l : OpenLaw} {q : Program} {K : Params -> Frag} {as : List Addr} {e : ∀ P,as = (K P).map (·.1)} {N : Nat} {x : String} {st : Stmt} (said : zoG l = true)
 (left : LeftO l.row.prog q [] (XtH l q) (Hook.obs (kHook K as e)) (Hook.val (kHook K as e)) N) (hdef : defOf q l.row.name = some (znW x st,[]))
 (hp : l.row.prog.theDef l.row.name = some (zam st,zal st,zac st)) (hk : kwWritten? (zam st).kwonlyargs (zam st).kw_defaults = some []) (hwr : (!l.row.writes || l.row.records.isEmpty) = true)
 (ok : (chainsOk q && opensWell l.row.prog && (frees l.row.toRowW && l.row.within.isEmpty)) = true) (hb : l.row.prog.bare) (hw : l.row.toRowW.promised)
 (call : WalkO q [] (XL q []) (Hook.says (kHook K as e)) l.row.toRowW (znW x st) [] fun f vs=>PySem.call f vs) : l.Holds :=
 have said : l.wellSaid = true:=(congrFun PySem.W.Fast.te9446332074065402090 l).trans said
 holds_law said fun rs=>holds_open (d:=znW x st) (kwd:=[]) left (Hook.of _) (Hook.keeps _) (fun s z=>xl_of s (Bool.and_eq_true_iff.mp z).1) XL.keeps hdef hp hk (fun s z=>recFacts_of (Bool.and_eq_true_iff.mp z).2) hwr rs ok hb hw call
end
end Hd
namespace L2
open PySem PySem.Spec PyProof.Rows
section
variable {X : Cx}
end
end L2
namespace Mc
open PySem L2
abbrev ky (x : String) : Key:=Sum.inr (Str.ofString x)
def nowK (c : Cf) (A : Adr) (m : Ms) : List (Key × V):=[(ky "lanes",.ref A.L),(ky "row",.str c.keys),(ky "next",.int (m.at_ : Int)),(ky "line",.ref A.l),(ky "inside",.ref A.h),(ky "left",.int m.togo),(ky "casting",.int c.cast),(ky "bar",.ref A.b),(ky "slugs",.ref A.t),(ky "waits",.int m.waits),(ky "done",.int m.done)]
structure Now (c : Cf) (H : Hp) (d : Addr) (A : Adr) (m : Ms) : Prop where
 dic : H d = some (.dK (nowK c A m))
 nd : A.all.Nodup
 li : Lists c H A m
theorem Now.get {c : Cf} {H : Hp} {d : Addr} {A : Adr} {m : Ms} {k : Key} {v : V} (h : Now c H d A m) (e : valV (nowK c A m) k = some v) : DGet H d (kV k) (some v):=by
 have:=DGet.k (k:=k) h.dic
 rw [e] at this
 exact this
theorem Now.same {c : Cf} {H H' : Hp} {d : Addr} {A : Adr} {m : Ms} (h : Now c H d A m) (s : Same H H') : Now c H' d A m:=⟨s _ _ h.dic,h.nd,h.li.keep (Keep.of_same (S:=fun _=>True) s) fun _ _=>trivial⟩
theorem Now.put {c : Cf} {H : Hp} {d : Addr} {A A' : Adr} {m m' : Ms} (h : Now c H d A m) (n : A'.all.Nodup) (l : Lists c H A' m') : Now c (upd H d (.dK (nowK c A' m'))) d A' m':=by
 refine ⟨upd_same,n,l.keep (S:=fun b=>b ≠ d) (fun b o hb hs=>?_) fun a ha=>?_⟩
 ·rcases hs with hs | ⟨xs,e⟩
  ·rw [zai hs]; exact hb
  ·subst e
   rw [zai (zbZ hb h.dic fun z=>by cases z)]
   exact hb
 ·obtain ⟨xs,ex⟩:=l.is a ha
  exact zbZ ex h.dic fun z=>by cases z
theorem zld {H : Hp} {d a : Addr} {kvs : List (Key × V)} {ys : List V} {o : HO} (h : H d = some (.dK kvs)) (ha : H a = some (.lst ys)) : upd H a o d = some (.dK kvs):=by
 rw [zai (zbZ h ha fun z=>by cases z)]
 exact h
theorem Now.setLane {c : Cf} {H : Hp} {p q : Addr} {A : Adr} {m : Ms} {k : Nat} {ys xs : List V} {l : List Mx} (h : Now c H p A m) (hq : A.ls[k]? = some q) (hy : H q = some (.lst ys)) (hx : Paired (Lan.zbS H) xs l) :
 Now c (upd H q (.lst xs)) p A { m with lanes:=m.lanes.set k l }:=by
 have d:=zhU h.nd
 have kp : Keep (fun b=>b ≠ q) H (upd H q (.lst xs)):=Keep.lst hy
 obtain ⟨n1,n2,n3,n4,n5,n6⟩:=d.ls q (List.mem_of_getElem? hq)
 obtain ⟨zs,e1,e2⟩:=h.li.rows
 exact ⟨zld h.dic hy,h.nd,⟨⟨zs,kp _ _ e1 (.inl n2.symm),zbA kp e2⟩,kp _ _ h.li.lan (.inl n1.symm),ziP kp ⟨xs,upd_same,zcm kp hx⟩ k h.li.lns d.nd hq,h.li.lin.keep kp n3.symm,h.li.het.keep kp n4.symm,h.li.bar.keep kp n5.symm,kp _ _ h.li.txt (.inl n6.symm)⟩⟩
theorem Now.lane {c : Cf} {H : Hp} {p : Addr} {A : Adr} {m : Ms} {k : Nat} (h : Now c H p A m) (O : Ok c m) (hk : k < c.rs.length) : ∃ q l,A.ls[k]? = some q /\ m.lanes[k]? = some l /\ LnAt H q l /\ atI (A.ls.map V.ref) (k : Int) = some (.ref q):=by
 have hl : k < m.lanes.length:=by rw [O.ln]; exact hk
 obtain ⟨q,hq,hln⟩:=Cs.zdA h.li.lns (List.getElem?_eq_getElem hl)
 exact ⟨q,_,hq,List.getElem?_eq_getElem hl,hln,zaF (by rw [List.getElem?_map,hq]; rfl)⟩
theorem Now.new {c : Cf} {H : Hp} {p : Addr} {A : Adr} {m : Ms} {e : Addr} (h : Now c H p A m) (he : H e = none) : e ∉ A.all:=fun z=>by
 obtain ⟨xs,ex⟩:=h.li.is e z
 rw [he] at ex
 cases ex
end Mc
namespace L2
open PySem PySem.Spec PyProof.Rows
end L2
namespace Mc
open PySem L2
theorem Now.aside {c : Cf} {H : Hp} {d X : Addr} {A : Adr} {m : Ms} {ys : List V} {o : HO} (h : Now c H d A m) (hx : H X = some (.lst ys)) (n : X ∉ A.all) : Now c (upd H X o) d A m :=
 ⟨zld h.dic hx,h.nd,h.li.keep (Keep.lst hx) fun a ha e=>n (by rw [<- e]; exact ha)⟩
theorem Step.listN {c : Cf} {H H' : Hp} {d X : Addr} {A A' : Adr} {m : Ms} {ys : List V} (s : Step d A H A' H') (N : Now c H d A m) (h : H X = some (.lst ys)) (n : X ∉ A.all) : H' X = some (.lst ys) /\ X ∉ A'.all:=by
 refine ⟨s.fr X _ h (.inl ⟨zbZ h N.dic (fun z=>by cases z),n⟩),fun z=>?_⟩
 rcases s.nw X z with z | z
 ·exact n z
 ·rw [h] at z
  cases z
structure NwAt (c : Cf) (H0 H : Hp) (d n q : Addr) (B : Adr) (m : Ms) (ps : List (Int × Int)) : Prop where
 now : Now c H d B m
 sm : Same H0 H
 new : ∀ b ∈ B.all,H0 b = none
 dn : H0 d = none
 nn : H0 n = none
 qn : H0 q = none
 nq : n ≠ q
 na : n ∉ B.all
 qa : q ∉ B.all
 hn : H n = some (.lst ((ps.map fun x=>x.1).map V.int))
 hq : H q = some (.lst ((ps.map fun x=>x.2).map V.int))
theorem NwAt.same {c : Cf} {H0 H H' : Hp} {d n q : Addr} {B : Adr} {m : Ms} {ps : List (Int × Int)} (h : NwAt c H0 H d n q B m ps) (s : Same H H') : NwAt c H0 H' d n q B m ps :=
 ⟨h.now.same s,h.sm.trans s,h.new,h.dn,h.nn,h.qn,h.nq,h.na,h.qa,s _ _ h.hn,s _ _ h.hq⟩
theorem NwAt.step {c : Cf} {H0 H H' : Hp} {d n q : Addr} {B B' : Adr} {m m' : Ms} {ps : List (Int × Int)} (h : NwAt c H0 H d n q B m ps) (s : Step d B H B' H') (N : Now c H' d B' m') : NwAt c H0 H' d n q B' m' ps:=by
 obtain ⟨s1,s2⟩:=s.same h.sm h.dn h.new
 obtain ⟨n1,n2⟩:=s.listN h.now h.hn h.na
 obtain ⟨q1,q2⟩:=s.listN h.now h.hq h.qa
 exact ⟨N,s1,s2,h.dn,h.nn,h.qn,h.nq,n2,q2,n1,q1⟩
theorem NwAt.setN {c : Cf} {H0 H : Hp} {d n q : Addr} {B : Adr} {m : Ms} {ps : List (Int × Int)} {vs : List V} (h : NwAt c H0 H d n q B m ps) :
 Now c (upd H n (.lst vs)) d B m /\ Same H0 (upd H n (.lst vs)) /\ upd H n (.lst vs) q = some (.lst ((ps.map fun x=>x.2).map V.int)) :=
 ⟨h.now.aside h.hn h.na,zan h.sm h.nn,by rw [zai h.nq.symm]; exact h.hq⟩
theorem NwAt.set {c : Cf} {H0 H H1 : Hp} {d n q : Addr} {B : Adr} {m : Ms} {ps qs : List (Int × Int)} (h : NwAt c H0 H d n q B m ps) (s : Same (upd H n (.lst ((qs.map fun x=>x.1).map V.int))) H1) :
 NwAt c H0 (upd H1 q (.lst ((qs.map fun x=>x.2).map V.int))) d n q B m qs:=by
 obtain ⟨a1,a2,a3⟩:=h.setN (vs:=(qs.map fun x=>x.1).map V.int)
 have hq1:=s _ _ a3
 exact ⟨(a1.same s).aside hq1 h.qa,zan (a2.trans s) h.qn,h.new,h.dn,h.nn,h.qn,h.nq,h.na,h.qa,by rw [zai h.nq]; exact s _ _ upd_same,upd_same⟩
end Mc
namespace Mc
open PySem L2
def allM (m : Ms) : List Mx:=m.lanes.flatten ++ (mats m.line ++ (mats m.heat ++ m.bar))
theorem zgD {ls : List (List Mx)} {k : Nat} {l l' : List Mx} (h : ls[k]? = some l) : ∃ u v,ls.flatten = u ++ l ++ v /\ (ls.set k l').flatten = u ++ l' ++ v:=by
 induction ls generalizing k with
 | nil=>simp at h
 | cons a r ih =>
   cases k with
   | zero =>
     have e : a = l:=Option.some.inj h
     subst e
     exact ⟨[],r.flatten,rfl,rfl⟩
   | succ k =>
     obtain ⟨u,v,e1,e2⟩:=ih h
     refine ⟨a ++ u,v,?_,?_⟩
     ·rw [List.flatten_cons,e1,List.append_assoc,List.append_assoc,List.append_assoc]
     ·rw [List.set_cons_succ,List.flatten_cons,e2,List.append_assoc,List.append_assoc,List.append_assoc]
theorem zbr (m : Ms) (y : Mx) : (allM m).count y = m.lanes.flatten.count y + ((mats m.line).count y + ((mats m.heat).count y + m.bar.count y)):=by
 unfold allM
 rw [List.count_append,List.count_append,List.count_append]
theorem zmg {c : Cf} {m : Ms} (O : Ok c m) (y : Mx) : (allM (fall c m)).count y = (allM m).count y:=by
 unfold fall
 cases hb : m.bar with
 | nil=>rfl
 | cons x r =>
   obtain ⟨_,_,_,_,k,hk,hkl⟩:=O.bm x (by rw [hb]; exact List.mem_cons_self)
   show (allM (match Mt.zaG (c.rs.map fun r=>r.t) x.2 with
    | some k=>{ m with bar:=r,lanes:=zbM m.lanes k x }
    | none=>m)).count y = _
   rw [hk]
   have hg : m.lanes[k]? = some (m.lanes[k]'(by rw [O.ln]; exact hkl)):=List.getElem?_eq_getElem _
   have ea : zbM m.lanes k x = m.lanes.set k (m.lanes[k]'(by rw [O.ln]; exact hkl) ++ [x]):=by unfold zbM; rw [hg]
   obtain ⟨u,v,e1,e2⟩:=zgD (l':=m.lanes[k]'(by rw [O.ln]; exact hkl) ++ [x]) hg
   rw [zbr,zbr]
   show (zbM m.lanes k x).flatten.count y + ((mats m.line).count y + ((mats m.heat).count y + r.count y)) = _
   rw [ea,e1,e2,hb]
   simp only [List.count_append,List.count_cons,List.count_nil]
   omega
theorem zmJ (m : Ms) (y : Mx) : (allM (cool m)).count y = (allM m).count y:=by
 unfold cool
 split
 ·rfl
 ·split
  ·rw [zbr,zbr]
   show m.lanes.flatten.count y + ((mats m.line).count y + ((mats []).count y + (m.bar ++ mats m.heat).count y)) = _
   rw [List.count_append,show (mats []).count y = 0 from rfl]
   omega
  ·rfl
theorem zmO {m : Ms} {j : Nat} (y : Mx) : (allM (pick m j)).count y = (allM m).count y:=by
 unfold pick
 cases h : m.lanes[j]? with
 | none=>rfl
 | some l =>
   cases l with
   | nil=>rfl
   | cons x r =>
     obtain ⟨u,v,e1,e2⟩:=zgD (l':=r) h
     show (allM (take { m with lanes:=m.lanes.set j r } (some x))).count y = _
     rw [zbr,zbr]
     show (m.lanes.set j r).flatten.count y + ((mats (m.line ++ [some x])).count y + ((mats m.heat).count y + m.bar.count y)) = _
     rw [e1,e2,zcb]
     simp only [List.count_append,List.count_cons,List.count_nil,Option.toList_some]
     omega
theorem zjR (c : Cf) (m : Ms) (y : Mx) : (allM (strike c m)).count y = (allM m).count y:=by
 unfold strike
 split
 ·rfl
 ·split
  ·unfold send
   split
   ·rename_i h
    have hh:=List.isEmpty_iff.mp h
    rw [zbr,zbr,hh]
    show m.lanes.flatten.count y + ((mats []).count y + ((mats m.line).count y + m.bar.count y)) = m.lanes.flatten.count y + ((mats m.line).count y + ((mats []).count y + m.bar.count y))
    rw [show (mats []).count y = 0 from rfl]
    omega
   ·rfl
  ·split
   ·rw [zbr,zbr]
    show m.lanes.flatten.count y + ((mats (m.line ++ [none])).count y + ((mats m.heat).count y + m.bar.count y)) = _
    rw [zcb]
    simp
   ·split
    ·rfl
    ·split
     ·exact zmO y
     ·rfl
theorem zmu {c : Cf} {m : Ms} (O : Ok c m) (y : Mx) : (allM (tick c m)).count y = (allM m).count y:=by
 have h:=zjR c (cool (fall c m)) y
 rw [zmJ,zmg O] at h
 exact h
theorem zmn {c : Cf} {m : Ms} (O : Ok c m) : (allM (tick c m)).Perm (allM m):=List.perm_iff_count.mpr (zmu O)
end Mc
namespace L2
open PySem PySem.Spec PyProof.Rows PySem.Builtin PySem.Builtin.Str
section
variable {X : Cx}
end
end L2
namespace L2
open PySem PySem.Spec PyProof.Rows PySem.W PySem.Calls
section
variable {X : Cx} {k j : Nat} {C f : Addr} {fd : FuncData} {ps : List Str} {sp : Sp} {x qual kn : Str} {st : Stmt} {p pos kpos : Pos} {e ek : Expr} {es : List Expr} {t : TA} {te : TE} {CX : CXT} {E : XK}
end
end L2
namespace L2
open PySem PySem.Spec PyProof.Rows
section
variable {X : Cx}
def rInsert : V -> List V -> Hp -> VK -> Prop:=fun x vs H Q=>∃ (l : Addr) (xs : List V) (y : V) (z : Int),x = .ref l /\ vs = [.int z,y] /\ H l = some (.lst xs) /\ 0 <= z /\ z <= xs.length /\ xs.length < 1000 /\ Q .non (upd H l (.lst (xs.take z.toNat ++ (y :: xs.drop z.toNat))))
theorem znO (its : List Value) (y : Value) (i : Nat) (h : i <= its.length) : (its.toArray.extract 0 i).push y ++ its.toArray.extract i = (its.take i ++ (y :: its.drop i)).toArray:=by
 apply Array.toList_inj.mp
 simp [List.extract_eq_take_drop]
 exact List.take_of_length_le (by rw [List.length_drop]; omega)
theorem zkq : MtM X "list.insert" rInsert:=by
 intro pins s σ H x vs v us Q I rx rv h
 obtain ⟨l,xs,y,k,rfl,rfl,hH,hi0,hi,hz,q⟩:=h
 cases rx
 cases rv with
 | cons ru1 rv =>
 obtain ⟨u,rfl,ru⟩:=Vals.one rv
 obtain ⟨t,rfl⟩:=ru1
 obtain ⟨z,its,n,r,hl,e⟩:=I.lstM hH
 have hfs : ¬ (!Builtin.List.listFitsIndex k) = true:=by
  rw [fitsIndex_both (by omega) (by omega)]
  exact Bool.false_ne_true
 have hsz : its.toArray.size <= sizeLine:=by rw [List.size_toArray]; exact zdq (by omega)
 have ek : (if k < 0 then (k + (its.toArray.size : Int)).toNat else min k.toNat its.toArray.size) = k.toNat:=by
  rw [if_neg (by omega),List.size_toArray]
  omega
 refine call_meets F.slot_list_insert ⟨_,e,rfl⟩ F.entry_list_insert (F.args_list_insert_3 _ _ _) (AutoSeq1.list_insert_list_int_val_1 l its.toArray n k t u hfs hsz) ⟨e,?_⟩
 refine ⟨.non,_,I.lset (its':=its.take k.toNat ++ (u :: its.drop k.toNat)) hH e ?_ ?_ ?_,rfl,q⟩
 ·show (let k':=if k < 0 then (k + (its.toArray.size : Int)).toNat else min k.toNat its.toArray.size; (its.toArray.extract 0 k').push u ++ its.toArray.extract k') = _
  rw [ek]
  exact znO its u k.toNat (by omega)
 ·exact (r.take k.toNat).append (.cons ru (r.drop k.toNat))
 ·rw [List.length_append,List.length_take,List.length_cons,List.length_drop]
  exact zdq (by omega)
end
end L2
namespace L2
open PySem PySem.Spec PyProof.Rows PySem.Builtin
theorem zgh {prog : Program} {w : World} {A : Around} {E : Value -> Shared -> Prop} {s : Shared} {it d : Addr} {i n ep : Nat} {od : Obj} {es : Array DictEntry} {e : DictEntry} {Q : Option Value -> Shared -> Prop}
 (hit : s.heap.IsKeyIter it d i n ep) (hod : s.heap.get? d = some od) (hdd : od.data = .dict es ep) (hn : es.size = n) (he : es[i]? = some e)
 (hQ : ∀ h',h'.IsKeyIter it d (i + 1) n ep -> Heap.SameBut it s.heap h' -> Q (some e.key) { s with heap:=h' }) : wpAny (model prog w) A (pyNext (.ref it)) Q E s:=by
 obtain ⟨o,ho,hc,hd⟩:=id hit
 refine wpAny_bind (wpAny_attempt (wpAny_callSpecial?_slot hit.typeIs F.slot_dict_keyiterator_next (wpAny_call_entry F.slot_dict_keyiterator_next hit.typeIs F.entry_dict_keyiterator_next ?_ (F.args_dict_keyiterator_next_1 _))))
 refine wpAny_bind (wpAny_pure ?_)
 refine wpAny_bind (wpAny_bind (wpAny_bind (wpAny_typeNameOfWhole_keyiter hit.typeIs (wpAny_pure ?_))))
 refine wpAny_bind (wpAny_fieldsOf ho hd ?_)
 have hown : Dict_items.ownsTuple "dict_keyiterator" = false:=by decide
 simp only [hown]
 have n0 : ¬ ((Value.ref d == Value.none) = true):=Bool.false_ne_true
 show wpAny (model prog w) A.in1 (if (Value.ref d == Value.none) = true then _ else _) _ _ s
 rw [if_neg n0]
 refine wpAny_bind (wpAny_pure ?_)
 refine wpAny_bind (wpAny_dictEntries hod hdd ?_)
 rw [if_neg (by rw [hn]; simp)]
 refine wpAny_bind (wpAny_pure ?_)
 refine wpAny_bind (wpAny_dictEpoch hod hdd ?_)
 rw [if_neg (by simp)]
 refine wpAny_pure ?_
 have ei : (if (i : Int) < 0 then none else es[((i : Int)).toNat]?) = some e:=by rw [if_neg (by omega),Int.toNat_natCast,he]
 dsimp only
 rw [ei]
 refine wpAny_bind (wpAny_bind (wpAny_typeNameOfWhole_keyiter hit.typeIs (wpAny_pure ?_)))
 refine wpAny_bind (wpAny_isOneOf_keyiter hit.typeIs ?_)
 rw [hown,if_neg Bool.false_ne_true,if_neg (by decide)]
 refine wpAny_bind (wpAny_setField ho hd (show 0 + 1 < 4 by decide) ?_)
 have hsb : Heap.SameBut it s.heap (s.heap.update it (Obj.mapFields fun x=>x.setIfInBounds (0 + 1) (rawInt ((i : Int) + 1)))):=Heap.SameBut.update _ _ _
 have hit2 : (s.heap.update it (Obj.mapFields fun x=>x.setIfInBounds (0 + 1) (rawInt ((i : Int) + 1)))).IsKeyIter it d (i + 1) n ep:=by
  have hdm:=Obj.data_mapFields hd (fun x=>x.setIfInBounds (0 + 1) (rawInt ((i : Int) + 1)))
  exact ⟨_,Heap.get?_update_self _ ho (Obj.isFreed_of_fields hdm),(Obj.cls_mapFields _ _).trans hc,hdm⟩
 generalize s.heap.update it (Obj.mapFields fun x=>x.setIfInBounds (0 + 1) (rawInt ((i : Int) + 1))) = h' at hsb hit2 ⊢
 refine wpAny_bind (wpAny_holding ?_)
 refine wpAny_bind (wpAny_isOneOf_keyiter hit2.typeIs ?_)
 rw [if_pos (by decide)]
 refine wpAny_pure ?_
 exact wpAny_pure ⟨_,rfl,wpAny_pure (hQ _ hit2 hsb)⟩
theorem zhy {prog : Program} {w : World} {A : Around} {E : Value -> Shared -> Prop} {s : Shared} {it d : Addr} {i n ep : Nat} {od : Obj} {es : Array DictEntry} {Q : Option Value -> Shared -> Prop}
 (hh : A.handled = none) (hit : s.heap.IsKeyIter it d i n ep) (hod : s.heap.get? d = some od) (hdd : od.data = .dict es ep) (hn : es.size = n) (he : es[i]? = none)
 (hQ : ∀ h',Heap.ExtBut it s.heap h' -> Q none { s with heap:=h' }) : wpAny (model prog w) A (pyNext (.ref it)) Q E s:=by
 obtain ⟨o,ho,hc,hd⟩:=id hit
 refine wpAny_bind (wpAny_attempt (wpAny_callSpecial?_slot hit.typeIs F.slot_dict_keyiterator_next (wpAny_call_entry F.slot_dict_keyiterator_next hit.typeIs F.entry_dict_keyiterator_next ?_ (F.args_dict_keyiterator_next_1 _))))
 refine wpAny_bind (wpAny_pure ?_)
 refine wpAny_bind (wpAny_bind (wpAny_bind (wpAny_typeNameOfWhole_keyiter hit.typeIs (wpAny_pure ?_))))
 refine wpAny_bind (wpAny_fieldsOf ho hd ?_)
 have hown : Dict_items.ownsTuple "dict_keyiterator" = false:=by decide
 simp only [hown]
 have n0 : ¬ ((Value.ref d == Value.none) = true):=Bool.false_ne_true
 show wpAny (model prog w) A.in1 (if (Value.ref d == Value.none) = true then _ else _) _ _ s
 rw [if_neg n0]
 refine wpAny_bind (wpAny_pure ?_)
 refine wpAny_bind (wpAny_dictEntries hod hdd ?_)
 rw [if_neg (by rw [hn]; simp)]
 refine wpAny_bind (wpAny_pure ?_)
 refine wpAny_bind (wpAny_dictEpoch hod hdd ?_)
 rw [if_neg (by simp)]
 refine wpAny_pure ?_
 have ei : (if (i : Int) < 0 then none else es[((i : Int)).toNat]?) = none:=by rw [if_neg (by omega),Int.toNat_natCast,he]
 dsimp only
 rw [ei]
 refine wpAny_bind (wpAny_bind (wpAny_typeNameOfWhole_keyiter hit.typeIs (wpAny_pure ?_)))
 rw [hown,if_neg Bool.false_ne_true]
 refine wpAny_bind (wpAny_setField ho hd (show 0 < 4 by decide) ?_)
 have hsb : Heap.ExtBut it s.heap (s.heap.update it (Obj.mapFields fun x=>x.setIfInBounds 0 Value.none)):=(Heap.SameBut.update _ _ _).extBut
 generalize s.heap.update it (Obj.mapFields fun x=>x.setIfInBounds 0 Value.none) = h' at hsb ⊢
 refine wpAny_bind (wpAny_bind (wpAny_newObj_type ?_ ?_))
 ·refine wpAny_bind (wpAny_pure ?_)
  refine wpAny_newObj_type ?_ (sizeOk_excFields _ _ _ _ _ _ _ _)
  refine wpAny_bind (wpAny_handled ?_)
  rw [show A.in1.handled = A.handled from rfl,hh]
  refine wpAny_throw ?_
  refine wpAny_bind (wpAny_isInstance ⟨_,Heap.get?_push_size _ (Obj.isFreed_of_fields rfl),rfl⟩ isSubtype_stop ?_)
  exact wpAny_pure (hQ _ ((hsb.push _).push _))
 ·show (#[] : Array Value).size <= sizeLine
  exact Nat.zero_le _
end L2
namespace L2
open PySem PySem.Spec PyProof.Rows PySem.Builtin
def Itd (a : Addr) (o : Obj) (kvs : List (List Key × V)) : It :=
 ⟨fun i H=>H a = some (.frz o (.dT kvs)) /\ i < kvs.length,fun i H x H'=>H' = H /\ ∃ kv b,kvs[i]? = some kv /\ x = .ref b /\ H b = some (.tup (kv.1.map kV)),fun i H=>H a = some (.frz o (.dT kvs)) /\ kvs.length <= i⟩
theorem znd {P : Program} {w : World} {H : Hp} {h : Heap} {a : Addr} {o : Obj} {kvs : List (List Key × V)} (ok : HOk P w H h) (e : H a = some (.frz o (.dT kvs))) : h.get? a = some o /\ ∃ xs es ep,KT H kvs xs /\ o.data = .dict es ep /\ es.toList = xs.map (entryOfKey (tupleKind (zaZ P w))):=by
 obtain ⟨h0,_,_,xs,r,o',es,ep,h1,h2,h3,h4,h5⟩:=(show zbX P w H h a (.frz o (.dT kvs)) from ok a _ e)
 rw [h0] at h1
 cases h1
 exact ⟨h0,xs,es,ep,r,h3,h4⟩
theorem zsd {H : Hp} {kvs : List (List Key × V)} {xs : List (List Key × Addr × Value)} (r : KT H kvs xs) : ∀ {i : Nat} {kv : List Key × V},kvs[i]? = some kv -> ∃ x,xs[i]? = some x /\ H x.2.1 = some (.tup (kv.1.map kV)):=by
 induction r with
 | nil=>intro i kv h; simp at h
 | @cons p q ps qs h t ih =>
   intro i kv hi
   cases i with
   | zero =>
     have e : p = kv:=Option.some.inj hi
     subst e
     exact ⟨q,rfl,h.2.1⟩
   | succ i=>exact ih hi
theorem zlh {P : Program} {w : World} {K : PySem.W.Frag} {tg : Expr} (a it : Addr) (od : Obj) (kvs : List (List Key × V)) : Turn P w K tg (Itd a od kvs) [it] it (fun i h=>∃ es ep,od.data = .dict es ep /\ h.IsKeyIter it a i es.size ep) where
 mem:=by simp
 obj:=fun i h st b hb=>by
  have e : b = it:=by simpa using hb
  subst e
  obtain ⟨_,_,_,o,e,c,d⟩:=st
  exact ⟨o,e,fun v z=>by rw [d] at z; cases z⟩
 keep:=fun i h h' ⟨es,ep,h1,st⟩ k=>⟨es,ep,h1,st.at fun o e=>k it (by simp) o e⟩
 item:=by
  intro X hP hw hK hc i pins s σ H E I hf st hg
  subst hP hw hK
  obtain ⟨ha,hi⟩:=hg
  obtain ⟨es,ep,hd,st⟩:=st
  obtain ⟨h0,xs,es',ep',r,h1,h2⟩:=znd I.hok ha
  rw [hd] at h1
  cases h1
  obtain ⟨x,hx,hb⟩:=zsd r (List.getElem?_eq_getElem hi)
  obtain ⟨f0,f1,f2,f3,f4,f5⟩:=hf it (by simp)
  have he : es[i]? = some (entryOfKey (tupleKind (zaZ X.prog X.w)) x):=by
   rw [<- Array.getElem?_toList,h2,List.getElem?_map,hx]
   rfl
  refine zgh st h0 hd rfl he fun h' st' sb=>?_
  have I1 : Inv X pins σ H { s with heap:=h' }:=I.turned (t':=s.toks) (fun b o hb e=>(sb.2 b hb).trans e) f0 f1 f3 f4 f5
  obtain ⟨o,e,c,d⟩:=id st'
  exact ⟨_,rfl,zof (s:={ s with heap:=h' }) e c d (by decide) ⟨.ref x.2.1,H,I1,rfl,⟨rfl,kvs[i],x.2.1,List.getElem?_eq_getElem hi,rfl,hb⟩,⟨es,ep,hd,st'⟩,fun b hb=>(hf b hb).1⟩⟩
 done:=by
  intro X hP hw hK hc i pins s σ H E I hf st hg
  subst hP hw hK
  obtain ⟨ha,hi⟩:=hg
  obtain ⟨es,ep,hd,st⟩:=st
  obtain ⟨h0,xs,es',ep',r,h1,h2⟩:=znd I.hok ha
  rw [hd] at h1
  cases h1
  have hl : es.size = kvs.length:=by
   have:=congrArg List.length h2
   rw [List.length_map,<- Paired.length r] at this
   exact this
  obtain ⟨f0,f1,f2,f3,f4,f5⟩:=hf it (by simp)
  exact zhy (I.ok.hd hc) st h0 hd rfl (Array.getElem?_eq_none (by omega)) fun h' eb=>⟨rfl,I.turned (t':=s.toks) (fun b o hb e=>eb b o hb e) f0 f1 f3 f4 f5⟩
 self:=fun _ _ _ _ _ ⟨_,_,_,st⟩ h=>wpAny_pyIter_keyiter st h
theorem zlg {prog : Program} {w : World} {A : Around} {E : Value -> Shared -> Prop} {s : Shared} {d : Addr} {od : Obj} {es : Array DictEntry} {ep : Nat} {Q : Value -> Shared -> Prop}
 (hs : (d == sysModules) = false) (hod : s.heap.get? d = some od) (hx : od.ExactDict) (hdd : od.data = .dict es ep)
 (hQ : Q (.ref s.heap.objs.size) { s with heap:=s.heap.push { cls:=.type "dict_keyiterator",data:=.fields #[.ref d,.int 0 0,.int es.size 0,.int ep 0] } }) : wpAny (model prog w) A (pyIter (.ref d)) Q E s:=by
 have ty : s.TypeIs (.ref d) "dict":=⟨od,hod,hx.1⟩
 refine wpAny_pyIter_slot ty F.slot_dict_iter (wpAny_call_entry F.slot_dict_iter ty F.entry_dict_iter ?_ (F.args_dict_iter_1 _))
 refine wpAny_bind (wpAny_bind (wpAny_notOrdered_dict ty ?_))
 refine wpAny_bind (wpAny_pure ?_)
 refine wpAny_pure ?_
 refine wpAny_bind (wpAny_pure ?_)
 refine wpAny_bind ?_
 unfold Dict.showsAll
 rw [hs]
 rw [if_neg Bool.false_ne_true]
 refine wpAny_pure ?_
 refine wpAny_bind (wpAny_dictEntries hod hdd ?_)
 refine wpAny_bind (wpAny_dictEpoch hod hdd ?_)
 refine wpAny_bind (wpAny_newObj_type ?_ ?_)
 ·exact wpAny_pure ⟨_,rfl,"dict_keyiterator",_,⟨_,Heap.get?_push_size _ (Obj.isFreed_of_fields rfl),rfl⟩,F.slot_dict_keyiterator_next.lookup,hQ⟩
 ·simp [sizeOk]
  exact Nat.le_of_ble_eq_true rfl
def zvI (td : TE) : TI:=fun σ H R=>td σ H fun x H1=>∃ a kvs,x = .ref a /\ H1 a = some (.dT kvs) /\ ∀ o,R (Itd a o kvs) (upd H1 a (.frz o (.dT kvs)))
section
variable {X : Cx}
theorem zon {tg l : Expr} {tl : TE} (hl : PE X l tl) : PI X tg l (zvI tl):=by
 intro pins s σ H R I h
 refine thn (hl pins s σ H _ I h) fun v s1 ⟨x,H1,I1,r1,q1⟩=>?_
 obtain ⟨a,kvs,e,ha,q⟩:=q1
 subst e
 cases r1
 obtain ⟨z,hsys,xs,r,od,es,ep,h1,h2,h3,h4,h5⟩:=(show zbX X.prog X.w H1 s1.heap a (.dT kvs) from I1.hok a _ ha)
 have tne : ∀ b ys,H1 b = some (.tup ys) -> upd H1 a (.frz od (.dT kvs)) b = some (.tup ys):=fun b ys e=>by
  rw [zai (zbZ e ha (fun z=>by cases z))]
  exact e
 have I2 : Inv X pins σ (upd H1 a (.frz od (.dT kvs))) s1:=zhX (t':=s1.toks) I1 (by rw [ha]; exact True.intro) ⟨rfl,fun _ _=>rfl⟩ ⟨od,h1⟩ ⟨h1,z,hsys,xs,Paired.mapP r fun p q z=>⟨z.1,tne _ _ z.2.1,z.2.2⟩,od,es,ep,h1,h2,h3,h4,h5⟩
 refine zlg hsys h1 h2 h3 ?_
 refine ⟨s1.heap.objs.size,[s1.heap.objs.size],_,_,_,rfl,I2.kept (t':=s1.toks) fun b o e=>Heap.get?_push_of_some _ e,zlh a _ od kvs,⟨es,ep,h3,_,Heap.get?_push_size _ rfl,rfl,rfl⟩,fun b hb=>?_,q od⟩
 have e : b = s1.heap.objs.size:=by simpa using hb
 subst e
 exact I2.fpOk (Nat.le_refl _) (I2.hok.fresh (Nat.le_refl _))
end
section
variable {a D : Addr} {g : TG} {tc : TT} {te : TE} {Q : VK} {σ : St} {H : Hp} {o : Obj} {kvs : List (List Key × V)}
theorem zkV (Pv : Nat -> List V -> St -> Hp -> Prop) (h0 : Pv 0 [] σ (upd H D (.lst []))) (hl : ∀ i ys σ H,i <= kvs.length -> Pv i ys σ H -> H a = some (.frz o (.dT kvs)))
 (hs : ∀ i kv b ys σ H,kvs[i]? = some kv -> i < kvs.length -> H b = some (.tup (kv.1.map kV)) -> Pv i ys σ H -> g (.ref b) σ H fun σ2 H4=>tc σ2 H4 fun c H5=>if c = true then te σ2 H5 (zlT D kvs.length i Pv σ2) else zmN kvs.length i Pv σ2 H5)
 (hd : ∀ ys σ H,Pv kvs.length ys σ H -> Q (.ref D) H) :
 zmB (Itd a o kvs) g tc te D Q σ H:=by
 refine ⟨fun i m σ H=>m = kvs.length - i /\ i <= kvs.length /\ ∃ ys,Pv i ys σ H,⟨kvs.length,by simp,Nat.zero_le _,[],h0⟩,?_⟩
 rintro i m σ H ⟨rfl,hi,ys,p⟩
 have q:=hl i ys σ H hi p
 by_cases hlt : i < kvs.length
 ·refine .inr ⟨⟨q,hlt⟩,fun x H' y=>?_⟩
  obtain ⟨e,kv,b,h1,h2,h3⟩:=y
  subst e h2
  exact hs i kv b ys σ _ h1 hlt h3 p
 ·have e : i = kvs.length:=by omega
  subst e
  exact .inl ⟨⟨q,Nat.le_refl _⟩,hd ys σ H p⟩
end
end L2
namespace L2
open PySem
/-- behind a statement the rest and the names are lets: the proofs' terms stay small -/
theorem hideSeq {t u : TS} {D : Ends} {σ : St} {H : Hp} (h : let D' : Ends:={ D with nx:=u D }; t D' σ H) : tSeq t u D σ H:=h
theorem hideAll {t u : TS} {D : Ends} {σ : St} {H : Hp} (h : let D' : Ends:={ D with nx:=u D }; let σ' : St:=σ; t D' σ' H) : tSeq t u D σ H:=h
theorem exE {α β : Type} {f : β} {g : α -> β} {P : α -> Prop} {w : α} (e : f = g w) (h : P w) : ∃ v,f = g v /\ P v:=⟨w,e,h⟩
theorem gNameH {i : Nat} {v : V} {σ : St} {H : Hp} {Q : St -> Hp -> Prop} (h : Q (σ.set i (some v)) H) : zlC i v σ H Q:=h
end L2
namespace Lw
open PySem L2
set_option maxHeartbeats 4000000
section

def top (i : Nat) : Stmt:=PySem.Challenge.pw_linecaster_k73_whole_broken_teeth_found.main.body.getD i (.Pass ⟨0,0,0,0⟩)
abbrev s_wall : Stmt:=top 0
theorem sc_wall : FnScope ["k"] ["k"] (zac s_wall):=⟨rfl,rfl,rfl,by decide +kernel,rfl,by decide +kernel,by decide +kernel⟩
abbrev s_has_all : Stmt:=top 6
theorem zfy : FnScope ["teeth","others"] ["teeth","others"] (zac s_has_all):=⟨rfl,rfl,rfl,by decide +kernel,rfl,by decide +kernel,by decide +kernel⟩
abbrev s_falls_at : Stmt:=top 7
theorem zig : FnScope ["codes","teeth","channel","code"] ["codes","teeth"] (zac s_falls_at):=⟨rfl,rfl,rfl,by decide +kernel,rfl,by decide +kernel,by decide +kernel⟩
abbrev s_number_of_teeth : Stmt:=top 8
theorem zdD : FnScope ["teeth"] ["teeth"] (zac s_number_of_teeth):=⟨rfl,rfl,rfl,by decide +kernel,rfl,by decide +kernel,by decide +kernel⟩
abbrev s_broken_sets : Stmt:=top 10
theorem zfs : FnScope ["codes","channel","where","own","sets"] ["codes","channel","where"] (zac s_broken_sets):=⟨rfl,rfl,rfl,by decide +kernel,rfl,by decide +kernel,by decide +kernel⟩
abbrev s_fewest_broken : Stmt:=top 11
theorem zei : FnScope ["codes","channel","where"] ["codes","channel","where"] (zac s_fewest_broken):=⟨rfl,rfl,rfl,by decide +kernel,rfl,by decide +kernel,by decide +kernel⟩
abbrev s_channel_of : Stmt:=top 13
theorem zgj : FnScope ["case","sign","number","channel"] ["case","sign"] (zac s_channel_of):=⟨rfl,rfl,rfl,by decide +kernel,rfl,by decide +kernel,by decide +kernel⟩
abbrev s_codes_of_ : Stmt:=top 14
theorem zhS : FnScope ["case"] ["case"] (zac s_codes_of_):=⟨rfl,rfl,rfl,by decide +kernel,rfl,by decide +kernel,by decide +kernel⟩
abbrev s_is_sign_key : Stmt:=top 18
theorem zfi : FnScope ["key"] ["key"] (zac s_is_sign_key):=⟨rfl,rfl,rfl,by decide +kernel,rfl,by decide +kernel,by decide +kernel⟩
abbrev s_goes_on : Stmt:=top 19
theorem zjM : FnScope ["case","keys","at"] ["case","keys","at"] (zac s_goes_on):=⟨rfl,rfl,rfl,by decide +kernel,rfl,by decide +kernel,by decide +kernel⟩
abbrev s_look_at_keys : Stmt:=top 20
theorem zfc : FnScope ["case","keys","at"] ["case","keys"] (zac s_look_at_keys):=⟨rfl,rfl,rfl,by decide +kernel,rfl,by decide +kernel,by decide +kernel⟩
abbrev s_can_break : Stmt:=top 22
theorem zgR : FnScope ["case","ahead","channel","teeth","sign","width","own","many"] ["case","ahead","channel","teeth"] (zac s_can_break):=⟨rfl,rfl,rfl,by decide +kernel,rfl,by decide +kernel,by decide +kernel⟩
abbrev s_channels_of : Stmt:=top 23
theorem zdl : FnScope ["case","broken","channels","ahead","at","part","channel","lost","sign","width","own","many"] ["case","broken"] (zac s_channels_of):=⟨rfl,rfl,rfl,by decide +kernel,rfl,by decide +kernel,by decide +kernel⟩
abbrev s_law_cell : Stmt:=top 28
theorem ziW : FnScope ["_law_script","_law_k"] ["_law_script","_law_k"] (zac s_law_cell):=⟨rfl,rfl,rfl,by decide +kernel,rfl,by decide +kernel,by decide +kernel⟩
abbrev s_law_stream : Stmt:=top 29
theorem zfW : FnScope ["_law_cell_here","_law_many","_law_number","_law_found","_law_k"] ["_law_cell_here","_law_many"] (zac s_law_stream):=⟨rfl,rfl,rfl,by decide +kernel,rfl,by decide +kernel,by decide +kernel⟩
abbrev s_law_bits : Stmt:=top 30
theorem zil : FnScope ["_law_number","_law_many"] ["_law_number"] (zac s_law_bits):=⟨rfl,rfl,rfl,by decide +kernel,rfl,by decide +kernel,by decide +kernel⟩
abbrev s_law_over : Stmt:=top 31
theorem zia : FnScope ["_law_code","_law_other"] ["_law_code","_law_other"] (zac s_law_over):=⟨rfl,rfl,rfl,by decide +kernel,rfl,by decide +kernel,by decide +kernel⟩
abbrev s_law_first : Stmt:=top 32
theorem zht : FnScope ["_law_left","_law_code"] ["_law_left"] (zac s_law_first):=⟨rfl,rfl,rfl,by decide +kernel,rfl,by decide +kernel,by decide +kernel⟩
abbrev s_law_codes : Stmt:=top 33
theorem zhA : FnScope ["_law_cell_here","_law_many","_law_left","_law_number","_law_code","_law_codes_here","_law_k"] ["_law_cell_here","_law_many"] (zac s_law_codes):=⟨rfl,rfl,rfl,by decide +kernel,rfl,by decide +kernel,by decide +kernel⟩
abbrev s_law_case : Stmt:=top 34
theorem ziX : FnScope ["_law_script","_law_most","_law_signs","_law_first_here","_law_many","_law_codes_here","_law_some","_law_case_here","_law_k","_law_sign"] ["_law_script","_law_most"] (zac s_law_case):=⟨rfl,rfl,rfl,by decide +kernel,rfl,by decide +kernel,by decide +kernel⟩
abbrev s_law_falls : Stmt:=top 35
theorem zhu : FnScope ["_law_codes_here","_law_teeth","_law_k"] ["_law_codes_here","_law_teeth"] (zac s_law_falls):=⟨rfl,rfl,rfl,by decide +kernel,rfl,by decide +kernel,by decide +kernel⟩
abbrev s_law_has : Stmt:=top 36
theorem zjY : FnScope ["_law_code","_law_teeth"] ["_law_code","_law_teeth"] (zac s_law_has):=⟨rfl,rfl,rfl,by decide +kernel,rfl,by decide +kernel,by decide +kernel⟩
abbrev s_law_broken : Stmt:=top 37
theorem zgo : FnScope ["_law_case_here","_law_script","_law_found","_law_counts","_law_cell_here","_law_k","_law_left"] ["_law_case_here","_law_script"] (zac s_law_broken):=⟨rfl,rfl,rfl,by decide +kernel,rfl,by decide +kernel,by decide +kernel⟩
abbrev s_law_part : Stmt:=top 38
theorem zio : FnScope ["_law_teeth","_law_number","_law_part_here","_law_tooth"] ["_law_teeth","_law_number"] (zac s_law_part):=⟨rfl,rfl,rfl,by decide +kernel,rfl,by decide +kernel,by decide +kernel⟩
abbrev s_law_sets : Stmt:=top 39
theorem zid : FnScope ["_law_codes_here","_law_channel","_law_where","_law_found","_law_broken_here"] ["_law_codes_here","_law_channel","_law_where"] (zac s_law_sets):=⟨rfl,rfl,rfl,by decide +kernel,rfl,by decide +kernel,by decide +kernel⟩
abbrev s_law_order : Stmt:=top 40
theorem zgU : FnScope ["_law_case_here","_law_script","_law_signs","_law_row","_law_cell_here"] ["_law_case_here","_law_script"] (zac s_law_order):=⟨rfl,rfl,rfl,by decide +kernel,rfl,by decide +kernel,by decide +kernel⟩
abbrev s_law_homes : Stmt:=top 41
theorem zhD : FnScope ["_law_machine","_law_case_here","_law_codes_here","_law_broken_here","_law_owed","_law_channel","_law_left","_law_one","_law_many","_law_rows","_law_k","_law_sign","_law_teeth","_law_home"] ["_law_machine","_law_case_here","_law_codes_here","_law_broken_here"] (zac s_law_homes):=⟨rfl,rfl,rfl,by decide +kernel,rfl,by decide +kernel,by decide +kernel⟩
abbrev s_law : Stmt:=top 42
theorem zpu : FnScope ["_law_script","_law_case_here","_law_codes_here","_law_broken_here","_law_keys","_law_casting","_law_machine","_law_channel","_law_left","_law_where","_law_due","_law_found","_law_whole"] ["_law_script"] (zac s_law):=⟨rfl,rfl,rfl,by decide +kernel,rfl,by decide +kernel,by decide +kernel⟩
abbrev zfJ : List Str:=["lying","case","played","struck","casting","line","heated","to_go","hanging","texts","done","waits"]
theorem zaO : zfJ.idxOf? ("lying" : Str) = some 0:=by decide +kernel
theorem zbb : zfJ.idxOf? ("case" : Str) = some 1:=by decide +kernel
theorem zbd : zfJ.idxOf? ("played" : Str) = some 2:=by decide +kernel
theorem zaz : zfJ.idxOf? ("struck" : Str) = some 3:=by decide +kernel
theorem zbF : zfJ.idxOf? ("casting" : Str) = some 4:=by decide +kernel
theorem zaT : zfJ.idxOf? ("line" : Str) = some 5:=by decide +kernel
theorem zat : zfJ.idxOf? ("heated" : Str) = some 6:=by decide +kernel
theorem zaN : zfJ.idxOf? ("to_go" : Str) = some 7:=by decide +kernel
theorem zaD : zfJ.idxOf? ("hanging" : Str) = some 8:=by decide +kernel
theorem zbT : zfJ.idxOf? ("texts" : Str) = some 9:=by decide +kernel
theorem zaS : zfJ.idxOf? ("done" : Str) = some 10:=by decide +kernel
theorem zbu : zfJ.idxOf? ("waits" : Str) = some 11:=by decide +kernel
abbrev s_Machine_init : Stmt:=zak (top 26) 0
theorem zcN : FnScope ["self","case","keys","casting","broken"] ["self","case","keys","casting","broken"] (zac s_Machine_init):=⟨rfl,rfl,rfl,by decide +kernel,rfl,by decide +kernel,by decide +kernel⟩
abbrev s_Machine_next_key : Stmt:=zak (top 26) 1
theorem zdu : FnScope ["self"] ["self"] (zac s_Machine_next_key):=⟨rfl,rfl,rfl,by decide +kernel,rfl,by decide +kernel,by decide +kernel⟩
theorem zbw : zfJ.idxOf? ("next_key" : Str) = none:=by decide +kernel
abbrev s_Machine_lacks_matrix : Stmt:=zak (top 26) 2
theorem zcs : FnScope ["self","channel"] ["self"] (zac s_Machine_lacks_matrix):=⟨rfl,rfl,rfl,by decide +kernel,rfl,by decide +kernel,by decide +kernel⟩
theorem zbI : zfJ.idxOf? ("lacks_matrix" : Str) = none:=by decide +kernel
abbrev s_Machine_stuck : Stmt:=zak (top 26) 3
theorem zem : FnScope ["self"] ["self"] (zac s_Machine_stuck):=⟨rfl,rfl,rfl,by decide +kernel,rfl,by decide +kernel,by decide +kernel⟩
theorem zeh : zfJ.idxOf? ("stuck" : Str) = none:=by decide +kernel
abbrev s_Machine_resting : Stmt:=zak (top 26) 4
theorem zdN : FnScope ["self"] ["self"] (zac s_Machine_resting):=⟨rfl,rfl,rfl,by decide +kernel,rfl,by decide +kernel,by decide +kernel⟩
theorem zce : zfJ.idxOf? ("resting" : Str) = none:=by decide +kernel
abbrev s_Machine_move_bar : Stmt:=zak (top 26) 5
theorem zdr : FnScope ["self","matrix"] ["self"] (zac s_Machine_move_bar):=⟨rfl,rfl,rfl,by decide +kernel,rfl,by decide +kernel,by decide +kernel⟩
theorem zdw : zfJ.idxOf? ("move_bar" : Str) = none:=by decide +kernel
abbrev s_Machine_move_caster : Stmt:=zak (top 26) 6
theorem zcI : FnScope ["self"] ["self"] (zac s_Machine_move_caster):=⟨rfl,rfl,rfl,by decide +kernel,rfl,by decide +kernel,by decide +kernel⟩
theorem zcJ : zfJ.idxOf? ("move_caster" : Str) = none:=by decide +kernel
abbrev s_Machine_move_line : Stmt:=zak (top 26) 7
theorem zdj : FnScope ["self","key"] ["self"] (zac s_Machine_move_line):=⟨rfl,rfl,rfl,by decide +kernel,rfl,by decide +kernel,by decide +kernel⟩
theorem zdg : zfJ.idxOf? ("move_line" : Str) = none:=by decide +kernel
abbrev s_Machine_send_line : Stmt:=zak (top 26) 8
theorem zdk : FnScope ["self"] ["self"] (zac s_Machine_send_line):=⟨rfl,rfl,rfl,by decide +kernel,rfl,by decide +kernel,by decide +kernel⟩
theorem zdi : zfJ.idxOf? ("send_line" : Str) = none:=by decide +kernel
abbrev s_Machine_take : Stmt:=zak (top 26) 9
theorem zeT : FnScope ["self","part"] ["self","part"] (zac s_Machine_take):=⟨rfl,rfl,rfl,by decide +kernel,rfl,by decide +kernel,by decide +kernel⟩
theorem zcT : zfJ.idxOf? ("take" : Str) = none:=by decide +kernel
abbrev s_Machine_tick : Stmt:=zak (top 26) 10
theorem zeW : FnScope ["self"] ["self"] (zac s_Machine_tick):=⟨rfl,rfl,rfl,by decide +kernel,rfl,by decide +kernel,by decide +kernel⟩
theorem zeM : zfJ.idxOf? ("tick" : Str) = none:=by decide +kernel
abbrev s_Machine_run : Stmt:=zak (top 26) 11
theorem zfm : FnScope ["self","ahead"] ["self"] (zac s_Machine_run):=⟨rfl,rfl,rfl,by decide +kernel,rfl,by decide +kernel,by decide +kernel⟩
theorem zdo : zfJ.idxOf? ("run" : Str) = none:=by decide +kernel
abbrev s_Machine_channels : Stmt:=zak (top 26) 15
theorem zdt : FnScope ["self"] ["self"] (zac s_Machine_channels):=⟨rfl,rfl,rfl,by decide +kernel,rfl,by decide +kernel,by decide +kernel⟩
theorem zds : zfJ.idxOf? ("channels" : Str) = none:=by decide +kernel
set_option genInjectivity false
set_option genSizeOf false
structure Ad where
 f_wall : Addr
 d_wall : FuncData
 f_has_all : Addr
 d_has_all : FuncData
 f_falls_at : Addr
 d_falls_at : FuncData
 f_number_of_teeth : Addr
 d_number_of_teeth : FuncData
 f_broken_sets : Addr
 d_broken_sets : FuncData
 f_fewest_broken : Addr
 d_fewest_broken : FuncData
 f_channel_of : Addr
 d_channel_of : FuncData
 f_codes_of_ : Addr
 d_codes_of_ : FuncData
 f_is_sign_key : Addr
 d_is_sign_key : FuncData
 f_goes_on : Addr
 d_goes_on : FuncData
 f_look_at_keys : Addr
 d_look_at_keys : FuncData
 f_can_break : Addr
 d_can_break : FuncData
 f_channels_of : Addr
 d_channels_of : FuncData
 f_law_cell : Addr
 d_law_cell : FuncData
 f_law_stream : Addr
 d_law_stream : FuncData
 f_law_bits : Addr
 d_law_bits : FuncData
 f_law_over : Addr
 d_law_over : FuncData
 f_law_first : Addr
 d_law_first : FuncData
 f_law_codes : Addr
 d_law_codes : FuncData
 f_law_case : Addr
 d_law_case : FuncData
 f_law_falls : Addr
 d_law_falls : FuncData
 f_law_has : Addr
 d_law_has : FuncData
 f_law_broken : Addr
 d_law_broken : FuncData
 f_law_part : Addr
 d_law_part : FuncData
 f_law_sets : Addr
 d_law_sets : FuncData
 f_law_order : Addr
 d_law_order : FuncData
 f_law_homes : Addr
 d_law_homes : FuncData
 f_law : Addr
 d_law : FuncData
 c_Machine : Addr
 f_Machine_init : Addr
 d_Machine_init : FuncData
 f_Machine_next_key : Addr
 d_Machine_next_key : FuncData
 f_Machine_lacks_matrix : Addr
 d_Machine_lacks_matrix : FuncData
 f_Machine_stuck : Addr
 d_Machine_stuck : FuncData
 f_Machine_resting : Addr
 d_Machine_resting : FuncData
 f_Machine_move_bar : Addr
 d_Machine_move_bar : FuncData
 f_Machine_move_caster : Addr
 d_Machine_move_caster : FuncData
 f_Machine_move_line : Addr
 d_Machine_move_line : FuncData
 f_Machine_send_line : Addr
 d_Machine_send_line : FuncData
 f_Machine_take : Addr
 d_Machine_take : FuncData
 f_Machine_tick : Addr
 d_Machine_tick : FuncData
 f_Machine_run : Addr
 d_Machine_run : FuncData
 f_Machine_channels : Addr
 d_Machine_channels : FuncData
 t_GAP_KEY : Tok
 t_SEND_KEY : Tok
 t_WEDGE : Tok
structure Tx (K : PySem.W.Frag) (mg : Str -> Option Value) (a : Ad) : Prop where
 wall : D K mg "_wall" s_wall ["k"] a.f_wall a.d_wall
 has_all : D K mg "has_all" s_has_all ["teeth","others"] a.f_has_all a.d_has_all
 falls_at : D K mg "falls_at" s_falls_at ["codes","teeth"] a.f_falls_at a.d_falls_at
 number_of_teeth : D K mg "number_of_teeth" s_number_of_teeth ["teeth"] a.f_number_of_teeth a.d_number_of_teeth
 broken_sets : D K mg "broken_sets" s_broken_sets ["codes","channel","where"] a.f_broken_sets a.d_broken_sets
 fewest_broken : D K mg "fewest_broken" s_fewest_broken ["codes","channel","where"] a.f_fewest_broken a.d_fewest_broken
 channel_of : D K mg "channel_of" s_channel_of ["case","sign"] a.f_channel_of a.d_channel_of
 codes_of_ : D K mg "codes_of" s_codes_of_ ["case"] a.f_codes_of_ a.d_codes_of_
 is_sign_key : D K mg "is_sign_key" s_is_sign_key ["key"] a.f_is_sign_key a.d_is_sign_key
 goes_on : D K mg "goes_on" s_goes_on ["case","keys","at"] a.f_goes_on a.d_goes_on
 look_at_keys : D K mg "look_at_keys" s_look_at_keys ["case","keys"] a.f_look_at_keys a.d_look_at_keys
 can_break : D K mg "can_break" s_can_break ["case","ahead","channel","teeth"] a.f_can_break a.d_can_break
 channels_of : D K mg "channels_of" s_channels_of ["case","broken"] a.f_channels_of a.d_channels_of
 law_cell : D K mg "_law_cell" s_law_cell ["_law_script","_law_k"] a.f_law_cell a.d_law_cell
 law_stream : D K mg "_law_stream" s_law_stream ["_law_cell_here","_law_many"] a.f_law_stream a.d_law_stream
 law_bits : D K mg "_law_bits" s_law_bits ["_law_number"] a.f_law_bits a.d_law_bits
 law_over : D K mg "_law_over" s_law_over ["_law_code","_law_other"] a.f_law_over a.d_law_over
 law_first : D K mg "_law_first" s_law_first ["_law_left"] a.f_law_first a.d_law_first
 law_codes : D K mg "_law_codes" s_law_codes ["_law_cell_here","_law_many"] a.f_law_codes a.d_law_codes
 law_case : D K mg "_law_case" s_law_case ["_law_script","_law_most"] a.f_law_case a.d_law_case
 law_falls : D K mg "_law_falls" s_law_falls ["_law_codes_here","_law_teeth"] a.f_law_falls a.d_law_falls
 law_has : D K mg "_law_has" s_law_has ["_law_code","_law_teeth"] a.f_law_has a.d_law_has
 law_broken : D K mg "_law_broken" s_law_broken ["_law_case_here","_law_script"] a.f_law_broken a.d_law_broken
 law_part : D K mg "_law_part" s_law_part ["_law_teeth","_law_number"] a.f_law_part a.d_law_part
 law_sets : D K mg "_law_sets" s_law_sets ["_law_codes_here","_law_channel","_law_where"] a.f_law_sets a.d_law_sets
 law_order : D K mg "_law_order" s_law_order ["_law_case_here","_law_script"] a.f_law_order a.d_law_order
 law_homes : D K mg "_law_homes" s_law_homes ["_law_machine","_law_case_here","_law_codes_here","_law_broken_here"] a.f_law_homes a.d_law_homes
 law : D K mg "law" s_law ["_law_script"] a.f_law a.d_law
 Machine : DI K mg "Machine" "Machine.__init__" s_Machine_init ["self","case","keys","casting","broken"] a.c_Machine a.f_Machine_init a.d_Machine_init
 Machine_next_key : DM K "next_key" "Machine.next_key" s_Machine_next_key ["self"] a.c_Machine a.f_Machine_next_key a.d_Machine_next_key
 Machine_lacks_matrix : DM K "lacks_matrix" "Machine.lacks_matrix" s_Machine_lacks_matrix ["self"] a.c_Machine a.f_Machine_lacks_matrix a.d_Machine_lacks_matrix
 Machine_stuck : DM K "stuck" "Machine.stuck" s_Machine_stuck ["self"] a.c_Machine a.f_Machine_stuck a.d_Machine_stuck
 Machine_resting : DM K "resting" "Machine.resting" s_Machine_resting ["self"] a.c_Machine a.f_Machine_resting a.d_Machine_resting
 Machine_move_bar : DM K "move_bar" "Machine.move_bar" s_Machine_move_bar ["self"] a.c_Machine a.f_Machine_move_bar a.d_Machine_move_bar
 Machine_move_caster : DM K "move_caster" "Machine.move_caster" s_Machine_move_caster ["self"] a.c_Machine a.f_Machine_move_caster a.d_Machine_move_caster
 Machine_move_line : DM K "move_line" "Machine.move_line" s_Machine_move_line ["self"] a.c_Machine a.f_Machine_move_line a.d_Machine_move_line
 Machine_send_line : DM K "send_line" "Machine.send_line" s_Machine_send_line ["self"] a.c_Machine a.f_Machine_send_line a.d_Machine_send_line
 Machine_take : DM K "take" "Machine.take" s_Machine_take ["self","part"] a.c_Machine a.f_Machine_take a.d_Machine_take
 Machine_tick : DM K "tick" "Machine.tick" s_Machine_tick ["self"] a.c_Machine a.f_Machine_tick a.d_Machine_tick
 Machine_run : DM K "run" "Machine.run" s_Machine_run ["self"] a.c_Machine a.f_Machine_run a.d_Machine_run
 Machine_channels : DM K "channels" "Machine.channels" s_Machine_channels ["self"] a.c_Machine a.f_Machine_channels a.d_Machine_channels
 n_Machine_lying : zbQ K a.c_Machine "lying"
 n_Machine_case : zbQ K a.c_Machine "case"
 n_Machine_played : zbQ K a.c_Machine "played"
 n_Machine_struck : zbQ K a.c_Machine "struck"
 n_Machine_casting : zbQ K a.c_Machine "casting"
 n_Machine_line : zbQ K a.c_Machine "line"
 n_Machine_heated : zbQ K a.c_Machine "heated"
 n_Machine_to_go : zbQ K a.c_Machine "to_go"
 n_Machine_hanging : zbQ K a.c_Machine "hanging"
 n_Machine_texts : zbQ K a.c_Machine "texts"
 n_Machine_done : zbQ K a.c_Machine "done"
 n_Machine_waits : zbQ K a.c_Machine "waits"
 g_GAP_KEY : mg "GAP_KEY" = some (.str " " a.t_GAP_KEY)
 g_SEND_KEY : mg "SEND_KEY" = some (.str "/" a.t_SEND_KEY)
 g_WEDGE : mg "WEDGE" = some (.str " " a.t_WEDGE)
 b_ValueError : mg "ValueError" = none
 b_enumerate : mg "enumerate" = none
 b_len : mg "len" = none
 b_list : mg "list" = none
 b_min : mg "min" = none
 b_range : mg "range" = none
 b_sum : mg "sum" = none
abbrev lawLevel : Nat:=10
end
end Lw
namespace Lw
open PySem L2
set_option maxHeartbeats 4000000
section
variable {P : Program} {w : World} {K : PySem.W.Frag} {mg : Str -> Option Value} {base : Heap} {a : Ad}
local macro_rules | `(tactic| walk_at "hk")=>`(tactic| first | assumption | exact upd_same | exact zaf (by assumption) _ _ _ (by walk_at "hk"))
local macro_rules | `(tactic| walk_at "rd1")=>`(tactic| first | (with_reducible refine hideAll ?_; intro Dzz σzz) | with_reducible refine gNameH ?_ | refine ⟨_,rfl,?_⟩ | refine ⟨_,_,rfl,rfl,?_⟩ | refine ⟨_,_,_,_,rfl,rfl,SqL.of (by walk_at "hk"),(by assumption),?_⟩ | refine And.intro rfl ?_ | refine And.intro (Nat.le_of_ble_eq_true rfl) ?_ | refine And.intro (by first | decide | omega) ?_ | refine And.intro ⟨by first | decide | omega,by first | decide | omega⟩ ?_ | refine And.intro (.inl ⟨by first | decide | omega,by first | decide | omega⟩) ?_ | refine And.intro (.inr ⟨by first | decide | omega,by first | decide | omega⟩) ?_ | refine ⟨_,_,rfl,SqT.of (by first | exact upd_same | assumption),rfl,?_⟩ | refine ⟨_,_,_,rfl,(by assumption),rfl,?_⟩ | refine ⟨_,_,rfl,(by assumption),?_⟩)
local macro_rules | `(tactic| walk_at "rd")=>`(tactic| repeat (walk_at "rd1"))
local macro_rules | `(tactic| walk_at "tg")=>`(tactic| refine ⟨_,_,rfl,?_⟩)
def ziJ (K : PySem.W.Frag) : Sp:=fun vs H Q _=>∃ (l : Addr) (k : Int) (ns : List Int),vs = [.ref l,.int k] /\ SqL K H l (ns.map V.int) /\ 0 <= k /\ ∀ z,Q (.int z) H
theorem zeR (T : Tx K mg a) : FnOk P w K mg base CX0 1 a.f_law_cell a.d_law_cell ["_law_script","_law_k"] (ziJ K):=by
 refine T.law_cell.fn.ok ziW (fun vs H Q E h=>?_) (fun cdv A outer s H vs Q E hr h=>?_)
 ·obtain ⟨l,k,ns,rfl,_⟩:=h
  rfl
 obtain ⟨l,k,ns,rfl,hS,h0,q⟩:=h
 refine ⟨_,(zab (zbp (zao zii (pv 1) (zaJ (zbf K rfl) rfl T.b_len zbY (zaa (pv 0) zad)) (zap _)) (zae (zav (zaK (zas K rfl) (pv 0) (pv 1) (fun _ _=>rfl)))) zaB)
  (zae (zav zag))),?_⟩
 walk_at "rd"
 refine ⟨l,_,rfl,.inl hS,?_⟩
 walk_at "rd"
 refine ite2 (fun c=>?_) (fun c=>?_)
 ·have c':=of_decide_eq_true c
  rw [List.length_map] at c'
  walk_at "rd"
  exact ⟨l,_,_,_,rfl,rfl,hS,zmq h0 c',q _⟩
 ·exact q _
def zgy : Sp:=fun vs H Q _=>∃ c n : Int,vs = [.int c,.int n] /\ 0 <= n /\ n <= 1000 /\
 ∀ (zs : List Int) (r : Addr) (H' : Hp),(zs.length : Int) = n -> (∀ z ∈ zs,0 <= z /\ z < 33554432) -> H r = none -> Same H H' -> H' r = some (.lst (zs.map V.int)) -> Q (.ref r) H'
theorem zdK (T : Tx K mg a) : FnOk P w K mg base CX0 1 a.f_law_stream a.d_law_stream ["_law_cell_here","_law_many"] zgy:=by
 refine T.law_stream.fn.ok zfW (fun vs H Q E h=>?_) (fun cdv A outer s H vs Q E hr h=>?_)
 ·obtain ⟨c,n,rfl,_⟩:=h
  rfl
 obtain ⟨c,n,rfl,h0,h1,q⟩:=h
 refine ⟨_,(zab (zau (i:=2) zfW.nd rfl (Or.inl rfl) (zar zbs (zar zbi (pv 0) zag) zag))
  (zab (zau (i:=3) zfW.nd rfl (Or.inl rfl) (zaE zad))
  (zab (zbE PassesOwn.never rfl (zbt rfl T.b_range (zaa (pv 1) zad)) (zah (i:=4) zfW.nd rfl (Or.inl rfl)) (zab (zau (i:=2) zfW.nd rfl (Or.inl rfl) (zar zbi (zar zbs (zar zbs (zar zbs (zar zjw (pv 2) (pv 2)) (zar zjw zag (pv 2))) (zar zjw zag (pv 4))) zag) zag))
  (zae (zaH (zbo K rfl PySem.F.plainAttrs_list PySem.F.slot_list_append PySem.F.type_list_append zaY (pv 3) (zaa (zar zbx (pv 2) zag) zad))))))
  (zae (zav (pv 3)))))),?_⟩
 walk_at "rd"
 intro r hr'
 walk_at "rd"
 have hc0:=Int.emod_nonneg c (show (2147483647 : Int) ≠ 0 by decide)
 have hc1:=Int.emod_lt_of_pos c (show (0 : Int) < 2147483647 by decide)
 refine zbW (n:=n.toNat) (fun i σ H2=>∃ (x : Int) (zs : List Int) (v : Option V),σ = [some (.int c),some (.int n),some (.int x),some (.ref r),v] /\ 0 <= x /\ x < 2147600000 /\ zs.length = i /\ (∀ z ∈ zs,0 <= z /\ z < 33554432) /\ Same H H2 /\ H2 r = some (.lst (zs.map V.int)))
  ⟨_,[],none,rfl,by omega,by omega,rfl,(fun z hz=>nomatch hz),zaf hr' _,upd_same⟩ ?_ ?_
 ·rintro i σ H2 hi ⟨x,zs,v,rfl,hx0,hx1,hl,hz,hs,hh⟩
  walk_at "rd"
  refine ⟨.inl ⟨rfl,_,SqL.of hh⟩,?_⟩
  walk_at "rd"
  refine ⟨_,_,_,rfl,rfl,hh,zby (by rw [List.length_map]; omega),?_⟩
  have hm0:=Int.emod_nonneg (x * x + 48271 * x + 7 * (0 + (i : Int)) + 1) (show (2147483647 : Int) ≠ 0 by decide)
  have hm1:=Int.emod_lt_of_pos (x * x + 48271 * x + 7 * (0 + (i : Int)) + 1) (show (0 : Int) < 2147483647 by decide)
  refine ⟨_,zs ++ [((x * x + 48271 * x + 7 * (0 + (i : Int)) + 1) % 2147483647) / 64],_,rfl,hm0,by omega,by rw [List.length_append,hl]; rfl,fun z hz'=>?_,zan hs hr',?_⟩
  ·rcases List.mem_append.mp hz' with q | q
   ·exact hz z q
   ·rw [List.mem_singleton.mp q]
    omega
  ·rw [upd_same,List.map_append]; rfl
 ·rintro σ H2 ⟨x,zs,v,rfl,hx0,hx1,hl,hz,hs,hh⟩
  walk_at "rd"
  exact q zs r H2 (by omega) hz hr' hs hh
theorem zew {o : Int} (i : Nat) : o / 2 ^ i / 2 = o / 2 ^ (i + 1):=by
 rw [Int.pow_succ,Int.ediv_ediv_of_nonneg (Int.le_of_lt (Int.pow_pos (by decide)))]
theorem zkB {o : Int} (h0 : 0 <= o) {i k : Nat} (h : o / 2 ^ i <= 0) (hk : i <= k) : o / 2 ^ k % 2 = 0:=by
 obtain ⟨j,rfl⟩:=Nat.exists_eq_add_of_le hk
 have e : o / 2 ^ i = 0:=Int.le_antisymm h (Int.ediv_nonneg h0 (Int.le_of_lt (Int.pow_pos (by decide))))
 rw [Int.pow_add,<- Int.ediv_ediv_of_nonneg (Int.le_of_lt (Int.pow_pos (by decide))),e,Int.zero_ediv]
 rfl
theorem zdY {x : Int} : 0 <= x % 2 /\ x % 2 < 2:=⟨Int.emod_nonneg _ (by decide),Int.emod_lt_of_pos _ (by decide)⟩
def ziq : Sp:=fun vs H Q _=>∃ t o : Int,vs = [.int t,.int o] /\ 0 <= t /\ 0 <= o /\ o < 128 /\ Q (.bl (Mt.has t o)) H
theorem zix (T : Tx K mg a) : FnOk P w K mg base CX0 1 a.f_law_over a.d_law_over ["_law_code","_law_other"] ziq:=by
 refine T.law_over.fn.ok zia (fun vs H Q E h=>?_) (fun cdv A outer s H vs Q E hr h=>?_)
 ·obtain ⟨t,o,rfl,_⟩:=h
  rfl
 obtain ⟨t,o,rfl,h1,h2,h3,q⟩:=h
 refine ⟨_,(zab (zey PassesOwn.never (zao zjZ (pv 1) zag (zap _)) (zab (zbp (PW.pt (zdp (zao zcU (zar zbi (pv 1) zag) zag (zap _)) (zci (zao zcU (zar zbi (pv 0) zag) zag (zap _))))) (zae (zav zeg)) zaB)
  (zab (zau (i:=1) zia.nd rfl (Or.inl rfl) (zar zbx (pv 1) zag))
  (zae (zau (i:=0) zia.nd rfl (Or.inl rfl) (zar zbx (pv 0) zag))))))
  (zae (zav zeg))),?_⟩
 have h7 : o / 2 ^ 7 <= 0:=by
  rw [show (2 : Int) ^ 7 = 128 by decide]
  omega
 refine ⟨fun n σ H2=>∃ i : Nat,n = 8 - i /\ i <= 7 /\ σ = [some (.int (t / 2 ^ i)),some (.int (o / 2 ^ i))] /\ H2 = H /\ ∀ k,k < i -> o / 2 ^ k % 2 <= t / 2 ^ k % 2,⟨8,0,rfl,by decide,by rw [Int.pow_zero,Int.ediv_one,Int.ediv_one]; rfl,rfl,fun k hk=>absurd hk (Nat.not_lt_zero _)⟩,?_⟩
 rintro n σ H2 ⟨i,rfl,hi,rfl,rfl,hb⟩
 walk_at "rd"
 refine ite2 (fun c=>?_) (fun c=>?_)
 ·have c : 0 < o / 2 ^ i:=of_decide_eq_true c
  have hi7 : i < 7:=Nat.lt_of_le_of_ne hi fun e=>by
   rw [e] at c
   omega
  refine ⟨fun σ' H'=>σ' = [some (.int (t / 2 ^ (i + 1))),some (.int (o / 2 ^ (i + 1)))] /\ H' = H2 /\ ∀ k,k < i + 1 -> o / 2 ^ k % 2 <= t / 2 ^ k % 2,fun σ' H' h=>⟨8 - (i + 1),by omega,i + 1,rfl,hi7,h⟩,?_⟩
  have hb1:=zdY (x:=o / 2 ^ i)
  have hb2:=zdY (x:=t / 2 ^ i)
  have go : o / 2 ^ i % 2 <= t / 2 ^ i % 2 -> ∀ k,k < i + 1 -> o / 2 ^ k % 2 <= t / 2 ^ k % 2:=fun h k hk=>by
   by_cases e : k = i
   ·rw [e]; exact h
   ·exact hb k (by omega)
  rw [<- zew,<- zew]
  generalize hot : o / 2 ^ i = oi at *
  generalize htt : t / 2 ^ i = ti at *
  walk_at "rd"
  rw [decV]
  refine ite2 (fun c1=>?_) (fun c1=>?_)
  ·have c1 : oi % 2 = 1:=of_decide_eq_true c1
   walk_at "rd"
   rw [decV]
   refine ite2 (fun c2=>?_) (fun c2=>?_)
   ·have c2 : ti % 2 = 0:=of_decide_eq_true c2
    walk_at "rd"
    have e : Mt.has t o = false:=decide_eq_false fun h=>by
     have:=h i hi7
     rw [hot,htt] at this
     omega
    rw [e] at q
    exact q
   ·have c2 : ¬ ti % 2 = 0:=fun z=>c2 (decide_eq_true z)
    walk_at "rd"
    first | exact ⟨rfl,rfl,go (by omega)⟩ | exact go (by omega)
  ·have c1 : ¬ oi % 2 = 1:=fun z=>c1 (decide_eq_true z)
   try refine iteF ?_
   walk_at "rd"
   first | exact ⟨rfl,rfl,go (by omega)⟩ | exact go (by omega)
 ·have c : o / 2 ^ i <= 0:=Int.not_lt.mp fun z=>c (decide_eq_true z)
  walk_at "rd"
  have e : Mt.has t o = true:=decide_eq_true fun k hk=>by
   by_cases h : k < i
   ·exact hb k h
   ·rw [zkB h2 c (Nat.not_lt.mp h)]
    exact zdY.1
  rw [e] at q
  exact q
def zhd (K : PySem.W.Frag) : Sp:=fun vs H Q _=>∃ (l : Addr) (ls : List Int),vs = [.ref l] /\ SqL K H l (ls.map V.int) /\ ls ≠ [] /\ (∀ c ∈ ls,0 <= c /\ c < 128) /\ ls.length <= 30 /\ ∀ c H',Same H H' -> c ∈ ls -> Mt.under ls c = [] -> Q (.int c) H'
theorem zhj (T : Tx K mg a) : FnOk P w K mg base CX0 2 a.f_law_first a.d_law_first ["_law_left"] (zhd K):=by
 have G_law_over:=zix (P:=P) (w:=w) (base:=base) T
 refine T.law_first.fn.ok zht (fun vs H Q E h=>?_) (fun cdv A outer s H vs Q E hr h=>?_)
 ·obtain ⟨l,ls,rfl,_⟩:=h
  rfl
 obtain ⟨l,ls,rfl,hS,hne,hlb,hlen,q⟩:=h
 refine ⟨_,(zab (zbE PassesOwn.never rfl (zaC K rfl (pv 0)) (zah (i:=1) zht.nd rfl (Or.inr rfl)) (zae (zbp (zao (keqD K rfl hr.units) (zbg rfl (zaC K rfl (pv 0)) (BlkOk.of (N':=["_law_left","_law_code","_law_other"]) (ms:=[]) (k:=1) (by rfl)) (fun _ _ _ _ _=>(zah (i:=2) (show List.Nodup (["_law_left","_law_code","_law_other"] : List Str) from by decide +kernel) rfl (Or.inl rfl))) (fun _ _ _ _ _=>(zdU (PW.pt (zdp (zao zfd (pv 2) (pv 1) (zap _)) (zci (zcg (zaQ T.law_over G_law_over hr rfl (zaa (pv 1) (zaa (pv 2) zad))))))))) (fun _ _ _ _ _=>(pv 2))) (zaE zad) (zap _)) (zae (zav (pv 1))) zaB)))
  (zae (zav zgG))),?_⟩
 walk_at "rd"
 refine ⟨⟨_,hS⟩,?_⟩
 refine zca (a:=l) (xs:=ls.map V.int) (fun i σ H5=>∃ (v1 : Option V),σ = [some (.ref l),v1] /\ Same H H5 /\ ∀ (j : Nat) c,j < i -> ls[j]? = some c -> Mt.under ls c ≠ [])
  ⟨_,rfl,Same.refl _,fun j _ h=>absurd h (Nat.not_lt_zero _)⟩ (fun i σ H5 _ ⟨_,_,hs5,_⟩=>hs5.seq hS) ?_ ?_
 ·rintro i y σ H5 hy ⟨w3,rfl,hs5,hb5⟩
  obtain ⟨c,rfl,hci⟩:=zaR hy
  have hcl : c ∈ ls:=List.mem_of_getElem? hci
  have hcb:=hlb c hcl
  have hS5:=hs5.seq hS
  walk_at "rd"
  refine ⟨⟨_,hS5⟩,fun D hD=>?_⟩
  refine zaI (a:=l) (xs:=ls.map V.int) (fun i ys σ H6=>∃ (v4 : Option V),ys = (Mt.under (ls.take i) c).map V.int /\ σ = [some (.ref l),some (.int c),v4] /\ Same H5 H6 /\ H6 D = some (.lst ys))
   ?_ ?_ ?_ ?_
  ·exact ⟨none,rfl,rfl,zaf hD _,upd_same⟩
  ·exact fun i ys σ H6 _ ⟨_,_,_,hs6,_⟩=>hs6.seq hS5
  ·rintro k y ys σ H6 hy6 hkl ⟨v4,rfl,rfl,hs6,hh6⟩
   obtain ⟨o,rfl,hok⟩:=zaR hy6
   have hob:=hlb o (List.mem_of_getElem? hok)
   have hkl2:=hkl
   rw [List.length_map] at hkl2
   have htk : ls.take (k + 1) = ls.take k ++ [o]:=by rw [List.take_add_one,hok]; rfl
   have hul : (Mt.under (ls.take k) c).length <= 30:=by
    have h1 : (Mt.under (ls.take k) c).length <= (ls.take k).length:=List.length_filter_le _ _
    rw [List.length_take] at h1
    omega
   have skip : ¬ ((!decide (o = c) && Mt.has c o) = true) -> Mt.under (ls.take (k + 1)) c = Mt.under (ls.take k) c:=fun hn=>by
    unfold Mt.under
    rw [htk,List.filter_append,List.filter_cons,if_neg hn,List.filter_nil,List.append_nil]
   walk_at "rd"
   rw [decV]
   refine ite2 (fun h1=>?_) (fun h1=>?_)
   ·walk_at "rd"
    refine ⟨c,o,rfl,hcb.1,hob.1,hob.2,?_⟩
    walk_at "rd"
    refine ite2 (fun h2=>?_) (fun h2=>?_)
    ·walk_at "rd"
     refine zcz hkl hh6 (by rw [List.length_map]; omega) ⟨_,?_,rfl,zan hs6 hD,upd_same⟩
     unfold Mt.under
     rw [htk,List.filter_append,List.filter_cons,if_pos (by rw [Bool.and_eq_true]; exact ⟨h1,h2⟩),List.filter_nil,List.map_append]
     rfl
    ·refine ziS hkl ⟨_,?_,rfl,hs6,hh6⟩
     rw [skip (by rw [Bool.and_eq_true]; exact fun z=>h2 z.2)]
   ·try refine iteF ?_
    refine ziS hkl ⟨_,?_,rfl,hs6,hh6⟩
    rw [skip (by rw [Bool.and_eq_true]; exact fun z=>h1 z.1)]
  rintro ys σ H6 ⟨v4,rfl,rfl,hs6,hh6⟩
  rw [List.length_map,List.take_of_length_le (Nat.le_refl _)] at hh6
  walk_at "rd"
  intro p7 hp7
  refine ⟨zdX (Mt.under ls c),zdX [],zez (SqL.of (zaf hp7 _ _ _ hh6)),zez (SqL.of upd_same),zfa _ _,?_⟩
  rw [zmt]
  walk_at "rd"
  have hs57:=zbP (o:=.lst []) hs6 hp7
  by_cases hu : Mt.under ls c = []
  ·rw [decide_eq_true hu]
   refine iteT ?_
   walk_at "rd"
   exact q c _ (hs5.trans hs57) hcl hu
  ·rw [decide_eq_false hu]
   refine iteF ?_
   refine ⟨_,rfl,hs5.trans hs57,fun j x hj hx=>?_⟩
   by_cases z : j = i
   ·subst z
    rw [hci] at hx
    cases hx
    exact hu
   ·exact hb5 j x (by omega) hx
 ·rintro σ H5 ⟨w3,rfl,hs5,hb5⟩
  exfalso
  obtain ⟨c,hcl,hu⟩:=Mt.zin hne hlb
  obtain ⟨j,hj,e⟩:=List.getElem_of_mem hcl
  exact hb5 j c (by rw [List.length_map]; exact hj) (by rw [List.getElem?_eq_getElem hj,e]) hu
def zgP : Sp:=fun vs H Q _=>∃ (c n : Int),vs = [.int c,.int n] /\ 1 <= n /\ n <= 30 /\
 ∀ (r : Addr) (rs : List Int) (H' : Hp),H r = none -> Same H H' -> H' r = some (.lst (rs.map V.int)) -> rs.Nodup -> (∀ c ∈ rs,0 <= c /\ c < 128) -> Mt.Fit rs -> 1 <= rs.length -> rs.length <= 30 -> Q (.ref r) H'
theorem zhK (T : Tx K mg a) : FnOk P w K mg base CX0 3 a.f_law_codes a.d_law_codes ["_law_cell_here","_law_many"] zgP:=by
 have G_law_stream:=zdK (P:=P) (w:=w) (base:=base) T
 have G_law_first:=zhj (P:=P) (w:=w) (base:=base) T
 refine T.law_codes.fn.ok zhA (fun vs H Q E h=>?_) (fun cdv A outer s H vs Q E hr h=>?_)
 ·obtain ⟨c,n,rfl,_⟩:=h
  rfl
 obtain ⟨c,n,rfl,hn1,hn2,q⟩:=h
 refine ⟨_,(zab (zau (i:=2) zhA.nd rfl (Or.inl rfl) (zaE zad))
  (zab (zbE PassesOwn.never rfl (zaC K rfl (zaQ T.law_stream G_law_stream hr rfl (zaa (pv 0) (zaa zag zad)))) (zah (i:=3) zhA.nd rfl (Or.inl rfl)) (zab (zau (i:=4) zhA.nd rfl (Or.inl rfl) (zar zbi (pv 3) zag))
  (zae (zbp (PW.pt (zdp (zao (zfK K rfl) (pv 4) (pv 2) (by with_unfolding_all rfl)) (zci (zao zii (zaJ (zbf K rfl) rfl T.b_len zbY (zaa (pv 2) zad)) (pv 1) (zap _))))) (zae (zaH (zbo K rfl PySem.F.plainAttrs_list PySem.F.slot_list_append PySem.F.type_list_append zaY (pv 2) (zaa (pv 4) zad)))) zaB))))
  (zab (zau (i:=5) zhA.nd rfl (Or.inl rfl) (zaE zad))
  (zab (zbE PassesOwn.never rfl (zbt rfl T.b_range (zaa (zaJ (zbf K rfl) rfl T.b_len zbY (zaa (pv 2) zad)) zad)) (zah (i:=6) zhA.nd rfl (Or.inl rfl)) (zab (zau (i:=4) zhA.nd rfl (Or.inl rfl) (zaQ T.law_first G_law_first hr rfl (zaa (pv 2) zad)))
  (zab (zaH (zbo K rfl PySem.F.plainAttrs_list PySem.F.slot_list_append PySem.F.type_list_append zaY (pv 5) (zaa (pv 4) zad)))
  (zae (zaH (zbo K rfl PySem.F.plainAttrs_list PySem.F.slot_list_remove PySem.F.type_list_remove zkJ (pv 2) (zaa (pv 4) zad)))))))
  (zae (zav (pv 5))))))),?_⟩
 walk_at "rd"
 intro p hp
 have hs1:=zaf hp (.lst [])
 have h1p : upd H p (.lst []) p = some (.lst (([] : List Int).map V.int)):=upd_same
 generalize upd H p (.lst []) = H1 at hs1 h1p ⊢
 walk_at "rd"
 refine ⟨c,60,rfl,by decide,by decide,fun zs st H2 hzl hzb hst0 hs2 hst=>?_⟩
 have hzl : zs.length = 60:=by omega
 refine ⟨st,rfl,⟨_,SqL.of hst⟩,?_⟩
 have hpst : p ≠ st:=zaq h1p hst0
 refine zca (a:=st) (xs:=zs.map V.int) (fun i σ H3=>∃ (ls : List Int) (v3 v4 : Option V),σ = [some (.int c),some (.int n),some (.ref p),v3,v4,none,none] /\ Same H H3 /\ H3 p = some (.lst (ls.map V.int)) /\ H3 st = some (.lst (zs.map V.int)) /\ ls.Nodup /\ (∀ c ∈ ls,0 <= c /\ c < 128) /\ (ls.length : Int) <= n /\ (1 <= i -> 1 <= ls.length))
  ⟨[],none,none,rfl,hs1.trans hs2,hs2 _ _ h1p,hst,List.nodup_nil,(fun c h=>nomatch h),by show (0 : Int) <= n; omega,fun h=>absurd h (by decide)⟩ (by rintro i σ H3 _ ⟨_,_,_,_,_,_,h,_⟩; exact SqL.of h) ?_ ?_
 ·rintro i y σ H3 hy ⟨ls,v3,v4,rfl,hs3,hp3,hst3,hnd,hb,hln,h1i⟩
  obtain ⟨z,rfl,hzi⟩:=zaR hy
  have hz0:=hzb z (List.mem_of_getElem? hzi)
  walk_at "rd"
  have hc0 : 0 <= z % 128 /\ z % 128 < 128:=⟨Int.emod_nonneg _ (by decide),Int.emod_lt_of_pos _ (by decide)⟩
  have hflat : (ls.map V.int).all zfY = true:=by rw [List.all_map]; exact List.all_eq_true.mpr fun _ _=>rfl
  have hin : inV (.int (z % 128)) (ls.map V.int) = decide ((z % 128) ∈ ls):=by
   unfold inV
   rw [List.any_map,Bool.eq_iff_iff,List.any_eq_true,decide_eq_true_iff]
   constructor
   ·rintro ⟨x,hx,e⟩
    have e' : x = (z % 128):=eq_of_beq e
    rw [<- e']; exact hx
   ·intro h
    exact ⟨(z % 128),h,beq_self_eq_true (z % 128)⟩
  walk_at "rd"
  refine ⟨p,_,rfl,.inl (SqL.of hp3),rfl,hflat,?_⟩
  walk_at "rd"
  refine ite2 (fun hc=>?_) (fun hc=>?_)
  ·have hc:=hc
   rw [if_pos rfl] at hc
   change (!inV (V.int (z % 128)) (ls.map V.int)) = true at hc
   rw [hin] at hc
   have hnot : (z % 128) ∉ ls:=by
    intro z3
    rw [decide_eq_true z3] at hc
    exact absurd hc (by decide)
   walk_at "rd"
   refine ⟨p,_,rfl,.inl (SqL.of hp3),?_⟩
   rw [List.length_map]
   walk_at "rd"
   refine ite2 (fun hc2=>?_) (fun hc2=>?_)
   ·have hc2 : (ls.length : Int) < n:=of_decide_eq_true hc2
    walk_at "rd"
    refine ⟨.inl ⟨rfl,_,SqL.of hp3⟩,?_⟩
    walk_at "rd"
    refine ⟨p,_,_,rfl,rfl,hp3,zby (by rw [List.length_map]; omega),?_⟩
    refine ⟨ls ++ [(z % 128)],_,_,rfl,zan hs3 hp,by rw [upd_same,List.map_append]; rfl,by rw [zai hpst.symm]; exact hst3,?_,fun z2 hz'=>?_,by rw [List.length_append]; show ((ls.length + 1 : Nat) : Int) <= n; omega,fun _=>by rw [List.length_append]; exact Nat.le_add_left _ _⟩
    ·exact List.nodup_append.mpr ⟨hnd,by simp,fun x hx y hy=>by rw [List.mem_singleton.mp hy]; exact fun z3=>hnot (z3 ▸ hx)⟩
    ·rcases List.mem_append.mp hz' with q | q
     ·exact hb z2 q
     ·rw [List.mem_singleton.mp q]
      exact hc0
   ·have hc2 : ¬ (ls.length : Int) < n:=fun z3=>hc2 (decide_eq_true z3)
    exact ⟨ls,_,_,rfl,hs3,hp3,hst3,hnd,hb,hln,fun _=>by omega⟩
  ·rw [if_pos rfl] at hc
   change ¬ (!inV (V.int (z % 128)) (ls.map V.int)) = true at hc
   rw [hin] at hc
   have hin' : (z % 128) ∈ ls:=by
    by_cases z3 : (z % 128) ∈ ls
    ·exact z3
    ·rw [decide_eq_false z3] at hc
     exact absurd rfl hc
   try refine iteF ?_
   exact ⟨ls,_,_,rfl,hs3,hp3,hst3,hnd,hb,hln,fun _=>List.length_pos_of_mem hin'⟩
 ·rintro σ H3 ⟨cs,v3,v4,rfl,hs3,hp3,hst3,hnd,hb,hln,h1i⟩
  have hl1 : 1 <= cs.length:=h1i (by rw [List.length_map,hzl]; decide)
  have hp0 : H p = none:=hp
  walk_at "rd"
  intro rr hrr
  have hr0 : H rr = none:=hs3.free hrr
  have hpr : p ≠ rr:=zaq hp3 hrr
  have hs4:=zbP (o:=.lst []) hs3 hrr
  have h4p : upd H3 rr (.lst []) p = some (.lst (cs.map V.int)):=zaf hrr _ _ _ hp3
  have h4r : upd H3 rr (.lst []) rr = some (.lst (([] : List Int).map V.int)):=upd_same
  generalize upd H3 rr (.lst []) = H4 at hs4 h4p h4r ⊢
  walk_at "rd"
  refine ⟨p,_,rfl,.inl (SqL.of h4p),?_⟩
  rw [List.length_map]
  walk_at "rd"
  refine zbW (lo:=0) (n:=((cs.length : Nat) : Int).toNat) (fun i σ H2=>∃ (ls rs : List Int) (v4 v6 : Option V),σ = [some (.int c),some (.int n),some (.ref p),v3,v4,some (.ref rr),v6] /\ ls.length + i = cs.length /\ Same H H2 /\ H2 p = some (.lst (ls.map V.int)) /\ H2 rr = some (.lst (rs.map V.int)) /\ (rs ++ ls).Perm cs /\ Mt.Fit rs /\ ∀ r ∈ rs,∀ o ∈ ls,Mt.has r o = false)
   ⟨cs,[],_,_,rfl,rfl,hs4,h4p,h4r,List.Perm.refl _,(fun j k x y _ hx=>by simp at hx),fun r hr'=>nomatch hr'⟩ ?_ ?_
  ·rintro i σ H2 hi ⟨ls,rs,w4,w6,rfl,hlm,hs,hhp,hhr,hpm,hft,hno⟩
   have hlb : ∀ c ∈ ls,0 <= c /\ c < 128:=fun c hc'=>hb c (hpm.mem_iff.mp (List.mem_append_right _ hc'))
   have hnd2 : (rs ++ ls).Nodup:=hpm.nodup_iff.mpr hnd
   have hlnd : ls.Nodup:=(List.nodup_append.mp hnd2).2.1
   have hlen:=hpm.length_eq
   rw [List.length_append] at hlen
   have hne' : ls ≠ []:=fun z=>by rw [z] at hlm; have : 0 + i = cs.length:=hlm; omega
   walk_at "rd"
   refine ⟨p,ls,rfl,SqL.of hhp,hne',hlb,by omega,fun d H5 hs5 hdl hu=>?_⟩
   have hr5:=hs5 _ _ hhr
   have hp5:=hs5 _ _ hhp
   walk_at "rd"
   refine ⟨.inl ⟨rfl,_,SqL.of hr5⟩,?_⟩
   walk_at "rd"
   refine ⟨rr,_,_,rfl,rfl,hr5,zby (by rw [List.length_map]; omega),?_⟩
   have hpu : upd H5 rr (.lst (rs.map V.int ++ [.int d])) p = some (.lst (ls.map V.int)):=by rw [zai hpr]; exact hp5
   walk_at "rd"
   refine ⟨.inl ⟨rfl,_,SqL.of hpu⟩,?_⟩
   walk_at "rd"
   refine ⟨p,ls,d,rfl,rfl,hpu,hdl,?_⟩
   have hpos : 0 < ls.length:=List.length_pos_of_mem hdl
   refine ⟨ls.erase d,rs ++ [d],_,_,rfl,?_,?_,upd_same,?_,?_,Mt.zmK hft fun r hr'=>hno r hr' d hdl,fun r hr' o ho'=>?_⟩
   ·rw [List.length_erase_of_mem hdl]
    omega
   ·exact zan (zan (hs.trans hs5) hr0) hp0
   ·rw [zai (Ne.symm hpr),upd_same,List.map_append]
    rfl
   ·refine List.Perm.trans ?_ hpm
    rw [List.append_assoc]
    exact List.Perm.append_left rs (List.perm_cons_erase hdl).symm
   ·have ho2 : o ∈ ls:=List.mem_of_mem_erase ho'
    rcases List.mem_append.mp hr' with h | h
    ·exact hno r h o ho2
    ·rw [List.mem_singleton.mp h]
     exact Mt.zkY hu ho2 fun z=>by
      rw [z] at ho'
      exact absurd ho' (hlnd.not_mem_erase)
  ·rintro σ H2 ⟨ls,rs,w4,w6,rfl,hlm,hs,hhp,hhr,hpm,hft,hno⟩
   have he : ls = []:=List.length_eq_zero_iff.mp (by omega)
   subst he
   rw [List.append_nil] at hpm
   walk_at "rd"
   exact q rr rs H2 hr0 hs hhr (hpm.nodup_iff.mpr hnd) (fun z hz=>hb z (hpm.mem_iff.mp hz)) hft (by rw [hpm.length_eq]; exact hl1) (by rw [hpm.length_eq]; omega)
/-- rows as the whole-machine laws draw them -/
structure Row71 (most : Int) (rs : List Cs.Row) : Prop where
 l1 : 1 <= rs.length
 l2 : rs.length <= 30
 sg : ∀ r ∈ rs,∃ c ∈ Cs.signs,r.s = L2.sg c
 wd : ∀ r ∈ rs,2 <= r.w /\ r.w <= 10
 th : ∀ r ∈ rs,0 <= r.t /\ r.t < 128
 mn : ∀ r ∈ rs,0 <= r.n /\ r.n <= most
 nd : (rs.map fun r=>r.t).Nodup
 ft : Mt.Fit (rs.map fun r=>r.t)
 pl : ∀ (j : Nat) r,rs[j]? = some r -> Cs.place rs r.s = some j
theorem Row71.fl {most : Int} {rs : List Cs.Row} (R : Row71 most rs) : ∀ (j : Nat) r,rs[j]? = some r -> Mt.zaG (rs.map fun r=>r.t) r.t = some j:=fun j r hr=>Mt.zkM R.ft (by rw [List.getElem?_map,hr]; rfl)
def sgn (z : Int) : Nat:=Cs.signs.getD z.toNat 0
theorem znR : ∀ k : Fin 30,atI (Str.ofString "abcdefghijklmnopqrstuvwxyz.,-'").cps.toList (k.val : Int) = some (sgn (k.val : Int)) /\ sgn (k.val : Int) ∈ Cs.signs:=by decide +kernel
theorem zrl {z : Int} (h0 : 0 <= z) (h1 : z < 30) : atI (Str.ofString "abcdefghijklmnopqrstuvwxyz.,-'").cps.toList z = some (sgn z) /\ sgn z ∈ Cs.signs:=by
 obtain ⟨k,rfl⟩:=Int.eq_ofNat_of_zero_le h0
 exact znR ⟨k,by omega⟩
theorem zmZ : ∀ j k : Fin 30,sgn (j.val : Int) = sgn (k.val : Int) -> j = k:=by decide +kernel
theorem znS {y z : Int} (h0 : 0 <= y /\ y < 30) (h1 : 0 <= z /\ z < 30) (h : sgn y = sgn z) : y = z:=by
 obtain ⟨j,rfl⟩:=Int.eq_ofNat_of_zero_le h0.1
 obtain ⟨k,rfl⟩:=Int.eq_ofNat_of_zero_le h1.1
 have:=zmZ ⟨j,by omega⟩ ⟨k,by omega⟩ h
 have:=congrArg Fin.val this
 have : j = k:=this
 omega
theorem zkU {rs : List Cs.Row} {b st : Int} (hst : st = 1 \/ st = 7 \/ st = 11 \/ st = 13) (hl : rs.length <= 30) (h : ∀ (j : Nat) r,rs[j]? = some r -> r.s = L2.sg (sgn ((b + st * (j : Int)) % 30))) : ∀ (j : Nat) r,rs[j]? = some r -> Cs.place rs r.s = some j:=fun j r hr=>by
 refine Cs.zfx hr rfl fun i r' hi hr' e=>?_
 have hjl:=(List.getElem?_eq_some_iff.mp hr).1
 rw [h i r' hr',h j r hr] at e
 have e2:=znS (by omega) (by omega) (Mc.zjP e)
 rcases hst with rfl | rfl | rfl | rfl <;> omega
theorem zkO {xs : List Int} {z : Int} (h0 : 0 <= z) (h1 : z < (xs.length : Int)) : ∃ y,atI (xs.map V.int) z = some (.int y) /\ y ∈ xs:=by
 obtain ⟨y,hy,e⟩:=zmr h0 h1
 exact ⟨y,e,hy⟩
def ziu (K : PySem.W.Frag) : Sp:=fun vs H Q _=>∃ (l : Addr) (ns : List Int) (most : Int),vs = [.ref l,.int most] /\ SqL K H l (ns.map V.int) /\ 0 <= most /\ most <= 40 /\
 ∀ (r : Addr) (xs : List V) (rs : List Cs.Row) (H' : Hp),H r = none -> Same H H' -> H' r = some (.lst xs) -> Paired (Cs.zbU H') xs rs -> Row71 most rs -> Q (.ref r) H'
theorem ziw (T : Tx K mg a) : FnOk P w K mg base CX0 4 a.f_law_case a.d_law_case ["_law_script","_law_most"] (ziu K):=by
 have G_law_cell:=zeR (P:=P) (w:=w) (base:=base) T
 have G_law_stream:=zdK (P:=P) (w:=w) (base:=base) T
 have G_law_codes:=zhK (P:=P) (w:=w) (base:=base) T
 refine T.law_case.fn.ok ziX (fun vs H Q E h=>?_) (fun cdv A outer s H vs Q E hr h=>?_)
 ·obtain ⟨l,ns,most,rfl,_⟩:=h
  rfl
 obtain ⟨l,ns,most,rfl,hS,hm0,hm1,q⟩:=h
 refine ⟨_,(zab (zau (i:=2) ziX.nd rfl (Or.inl rfl) zea)
  (zab (zau (i:=3) ziX.nd rfl (Or.inl rfl) (zaQ T.law_cell G_law_cell hr rfl (zaa (pv 0) (zaa zag zad))))
  (zab (zau (i:=4) ziX.nd rfl (Or.inl rfl) (zar zbs zag (zaK (zas K rfl) (zaE (zaa (zar zbi (pv 3) zag) (zaa (zar zbi (pv 3) zag) (zaa (zar zbi (zar zbx (pv 3) zag) zag) zad)))) (zar zbi (zar zbx (pv 3) zag) zag) (fun _ _=>rfl))))
  (zab (zau (i:=5) ziX.nd rfl (Or.inl rfl) (zaQ T.law_codes G_law_codes hr rfl (zaa (zaQ T.law_cell G_law_cell hr rfl (zaa (pv 0) (zaa zag zad))) (zaa (pv 4) zad))))
  (zab (zau (i:=6) ziX.nd rfl (Or.inl rfl) (zaQ T.law_stream G_law_stream hr rfl (zaa (zaQ T.law_cell G_law_cell hr rfl (zaa (pv 0) (zaa zag zad))) (zaa (zaJ (zbf K rfl) rfl T.b_len zbY (zaa (pv 5) zad)) zad))))
  (zab (zau (i:=7) ziX.nd rfl (Or.inl rfl) (zaE zad))
  (zab (zbE PassesOwn.never rfl (zbt rfl T.b_range (zaa (zaJ (zbf K rfl) rfl T.b_len zbY (zaa (pv 5) zad)) zad)) (zah (i:=8) ziX.nd rfl (Or.inl rfl)) (zab (zau (i:=9) ziX.nd rfl (Or.inl rfl) (zaK zeJ (pv 2) (zar zbi (zar zbs (zar zbx (pv 3) zag) (zar zjw (zaK (zas K rfl) (zaE (zaa zag (zaa zag (zaa zag (zaa zag zad))))) (zar zbi (zar zbx (pv 3) zag) zag) (fun _ _=>rfl)) (pv 8))) zag) (fun _ _=>rfl)))
  (zae (zaH (zbo K rfl PySem.F.plainAttrs_list PySem.F.slot_list_append PySem.F.type_list_append zaY (pv 7) (zaa (zcM (zaa (pv 9) (zaa (zar zbs zag (zar zbi (zaK (zas K rfl) (pv 6) (pv 8) (fun _ _=>rfl)) zag)) (zaa (zaK (zas K rfl) (pv 5) (pv 8) (fun _ _=>rfl)) (zaa (zar zbi (zar zbx (zaK (zas K rfl) (pv 6) (pv 8) (fun _ _=>rfl)) zag) (zar zbs (pv 1) zag)) zad))))) zad))))))
  (zae (zav (pv 7)))))))))),?_⟩
 walk_at "rd"
 refine ⟨l,0,ns,rfl,hS,by decide,fun c0=>?_⟩
 walk_at "rd"
 refine fun p1 hp1=>?_
 obtain ⟨y,ey,hy⟩:=zkO (xs:=[c0 % 7,c0 % 7,c0 / 7 % 29]) (z:=c0 / 840 % 3) (by omega) (by show c0 / 840 % 3 < ((3 : Nat) : Int); omega)
 have hyb : 0 <= y /\ y <= 28:=by
  simp only [List.mem_cons,List.not_mem_nil,or_false] at hy
  rcases hy with rfl | rfl | rfl <;> omega
 obtain ⟨stp,estp,hstp⟩:=zkO (xs:=[1,7,11,13]) (z:=c0 / 210 % 4) (by omega) (by show c0 / 210 % 4 < ((4 : Nat) : Int); omega)
 have hstp : stp = 1 \/ stp = 7 \/ stp = 11 \/ stp = 13:=by simpa using hstp
 have estp : ∀ _ : Unit,atI [V.int 1,V.int 7,V.int 11,V.int 13] (c0 / 210 % 4) = some (.int stp):=fun _=>estp
 walk_at "rd"
 clear ey hy
 refine ⟨l,1,ns,rfl,(zaf hp1 _).seq hS,by decide,fun c1=>?_⟩
 walk_at "rd"
 refine ⟨c1,2 + y,rfl,by omega,by omega,fun rc cs H2 hrc0 hs2 hrc hnd hcb hft hcl1 hcl2=>?_⟩
 have hs02:=(zaf hp1 _).trans hs2
 walk_at "rd"
 refine ⟨l,2,ns,rfl,hs02.seq hS,by decide,fun c2=>?_⟩
 walk_at "rd"
 refine ⟨rc,_,rfl,.inl (SqL.of hrc),?_⟩
 rw [List.length_map]
 refine ⟨c2,_,rfl,by omega,by omega,fun zs st H3 hzl hzb hst0 hs3 hst=>?_⟩
 have hzl : zs.length = cs.length:=by omega
 walk_at "rd"
 intro pc hpc
 have hs03:=hs02.trans hs3
 have hpc0 : H pc = none:=hs03.free hpc
 have hs4:=zaf hpc (.lst [])
 have h4c : upd H3 pc (.lst []) pc = some (.lst []):=upd_same
 generalize upd H3 pc (.lst []) = H4 at hs4 h4c ⊢
 have hrc4:=(hs3.trans hs4) _ _ hrc
 have hst4:=hs4 _ _ hst
 walk_at "rd"
 refine ⟨rc,_,rfl,.inl (SqL.of hrc4),?_⟩
 rw [List.length_map]
 walk_at "rd"
 refine zbW (lo:=0) (n:=((cs.length : Nat) : Int).toNat) (fun i σ H5=>∃ (xs : List V) (rs : List Cs.Row) (v8 v9 : Option V),σ = [some (.ref l),some (.int most),some (.str "abcdefghijklmnopqrstuvwxyz.,-'"),some (.int c0),some (.int (2 + y)),some (.ref rc),some (.ref st),some (.ref pc),v8,v9] /\ Same H3 H5 /\ H5 pc = some (.lst xs) /\ Paired (Cs.zbU H5) xs rs /\ (rs.map fun r=>r.t) = cs.take i /\ (∀ r ∈ rs,∃ c ∈ Cs.signs,r.s = sg c) /\ (∀ r ∈ rs,2 <= r.w /\ r.w <= 10) /\ (∀ r ∈ rs,0 <= r.n /\ r.n <= most) /\ (∀ (j : Nat) r,rs[j]? = some r -> r.s = sg (sgn ((c0 / 7 + stp * (j : Int)) % 30))))
  ⟨[],[],none,none,rfl,hs4,h4c,.nil,rfl,(fun r h=>by cases h),(fun r h=>by cases h),(fun r h=>by cases h),(fun j r h=>by simp at h)⟩ ?_ ?_
 ·rintro i σ H5 hi ⟨xs,rs,v8,v9,rfl,hs5,hhc,hpd,hmt,hsg,hwd,hmn,hsq⟩
  rw [Int.zero_add]
  have hil : i < cs.length:=by omega
  have hxl:=Cs.zbC hpd
  have hrl : rs.length = i:=by
   have:=congrArg List.length hmt
   rw [List.length_map,List.length_take] at this
   omega
  obtain ⟨ci,hci⟩ : ∃ x,cs[i]? = some x:=⟨_,List.getElem?_eq_getElem hil⟩
  obtain ⟨zi,hzi⟩ : ∃ x,zs[i]? = some x:=⟨_,List.getElem?_eq_getElem (by omega)⟩
  have hz0:=hzb zi (List.mem_of_getElem? hzi)
  have aC : ∀ _ : Unit,atI (cs.map V.int) (i : Int) = some (.int ci):=fun _=>zaF (by rw [List.getElem?_map,hci]; rfl)
  have aZ : ∀ _ : Unit,atI (zs.map V.int) (i : Int) = some (.int zi):=fun _=>zaF (by rw [List.getElem?_map,hzi]; rfl)
  obtain ⟨ec,hcs⟩:=zrl (z:=(c0 / 7 + stp * (i : Int)) % 30) (by omega) (by omega)
  generalize hcc : sgn ((c0 / 7 + stp * (i : Int)) % 30) = cc at ec hcs
  have ec : ∀ _ : Unit,atI (Str.ofString "abcdefghijklmnopqrstuvwxyz.,-'").cps.toList ((c0 / 7 + stp * (i : Int)) % 30) = some cc:=fun _=>ec
  walk_at "rd"
  refine fun p5 hp5=>?_
  have hs56:=zaf hp5 (.lst [.int 1,.int 7,.int 11,.int 13])
  have h6p : upd H5 p5 (.lst [.int 1,.int 7,.int 11,.int 13]) p5 = some (.lst [.int 1,.int 7,.int 11,.int 13]):=upd_same
  generalize upd H5 p5 (.lst [.int 1,.int 7,.int 11,.int 13]) = H6 at hs56 h6p ⊢
  walk_at "rd"
  refine ⟨_,_,_,rfl,rfl,by decide,ec (),?_⟩
  have hs6:=hs5.trans hs56
  have hhc6:=hs56 _ _ hhc
  have hrc6:=(hs3.trans hs6) _ _ hrc
  have hst6:=hs6 _ _ hst
  walk_at "rd"
  refine ⟨.inl ⟨rfl,_,SqL.of hhc6⟩,?_⟩
  walk_at "rd"
  refine ⟨st,_,_,_,rfl,rfl,SqL.of hst6,aZ (),?_⟩
  walk_at "rd"
  refine ⟨rc,_,_,_,rfl,rfl,SqL.of hrc6,aC (),?_⟩
  walk_at "rd"
  refine ⟨st,_,_,_,rfl,rfl,SqL.of hst6,aZ (),?_⟩
  walk_at "rd"
  intro t ht
  have hz2:=Int.emod_nonneg (zi / 16) (show most + 1 ≠ 0 by omega)
  have hz3:=Int.emod_lt_of_pos (zi / 16) (show 0 < most + 1 by omega)
  have hst':=zaf ht (.tup (Cs.rowV ⟨sg cc,2 + zi % 9,ci,zi / 16 % (most + 1)⟩))
  have hhC:=hst' _ _ hhc6
  have htC : upd H6 t (.tup (Cs.rowV ⟨sg cc,2 + zi % 9,ci,zi / 16 % (most + 1)⟩)) t = some (.tup (Cs.rowV ⟨sg cc,2 + zi % 9,ci,zi / 16 % (most + 1)⟩)):=upd_same
  refine ⟨pc,_,_,rfl,rfl,hhC,zby (by omega),?_⟩
  refine ⟨xs ++ [.ref t],rs ++ [⟨sg cc,2 + zi % 9,ci,zi / 16 % (most + 1)⟩],_,_,rfl,zan (hs6.trans hst') hpc,upd_same,?_,?_,?_,?_,?_,?_⟩
  ·exact Paired.snoc (Cs.zcV (Cs.zay hpd (hs56.trans hst')) hhC (fun z e=>by cases e)) ⟨t,rfl,by rw [zai (zbZ htC hhC (fun e=>by cases e))]; exact htC⟩
  ·rw [List.map_append,hmt,List.take_add_one,hci]
   rfl
  ·intro r hr
   rcases List.mem_append.mp hr with h | h
   ·exact hsg r h
   ·rw [List.mem_singleton.mp h]
    exact ⟨cc,hcs,rfl⟩
  ·intro r hr
   rcases List.mem_append.mp hr with h | h
   ·exact hwd r h
   ·rw [List.mem_singleton.mp h]
    show 2 <= 2 + zi % 9 /\ 2 + zi % 9 <= 10
    omega
  ·intro r hr
   rcases List.mem_append.mp hr with h | h
   ·exact hmn r h
   ·rw [List.mem_singleton.mp h]
    show 0 <= zi / 16 % (most + 1) /\ zi / 16 % (most + 1) <= most
    omega
  ·intro j r hr
   by_cases hj : j < rs.length
   ·rw [List.getElem?_append_left hj] at hr
    exact hsq j r hr
   ·rw [List.getElem?_append_right (by omega)] at hr
    have hj2 : j = i:=by
     have:=(List.getElem?_eq_some_iff.mp hr).1
     have : j - rs.length < 1:=this
     omega
    rw [hj2,hrl,Nat.sub_self] at hr
    cases hr
    rw [hj2,hcc]
 ·rintro σ H5 ⟨xs,rs,v8,v9,rfl,hs5,hhc,hpd,hmt,hsg,hwd,hmn,hsq⟩
  rw [List.take_of_length_le (by omega)] at hmt
  have hrl : rs.length = cs.length:=by
   have:=congrArg List.length hmt
   rw [List.length_map] at this
   exact this
  walk_at "rd"
  refine q pc xs rs H5 hpc0 (hs03.trans hs5) hhc hpd ⟨by omega,by omega,hsg,hwd,fun r hr=>?_,hmn,by rw [hmt]; exact hnd,by rw [hmt]; exact hft,zkU hstp (by omega) hsq⟩
  exact hcb r.t (by rw [<- hmt]; exact List.mem_map_of_mem hr)
def zkd : Sp:=fun vs H Q _=>∃ t o : Int,vs = [.int t,.int o] /\ 0 <= t /\ 0 <= o /\ o < 128 /\ Q (.bl (Mt.has t o)) H
theorem zfG (T : Tx K mg a) : FnOk P w K mg base CX0 1 a.f_has_all a.d_has_all ["teeth","others"] zkd:=by
 refine T.has_all.fn.ok zfy (fun vs H Q E h=>?_) (fun cdv A outer s H vs Q E hr h=>?_)
 ·obtain ⟨t,o,rfl,_⟩:=h
  rfl
 obtain ⟨t,o,rfl,h1,h2,h3,q⟩:=h
 refine ⟨_,(zae (zav (zbk zcU (zar zll (pv 0) (pv 1)) (pv 1) (zap _)))),?_⟩
 walk_at "rd"
 rw [decV,Mt.zhY h1 h2 h3]
 exact q
def ziI (K : PySem.W.Frag) : Sp:=fun vs H Q _=>∃ (l : Addr) (t : Int) (cs : List Int),vs = [.ref l,.int t] /\ SqL K H l (cs.map V.int) /\ (∀ c ∈ cs,0 <= c) /\ 0 <= t /\ t < 128 /\ ∀ H',Same H H' -> Q (Mt.optV (Mt.zaG cs t)) H'
theorem zeZ (T : Tx K mg a) : FnOk P w K mg base CX0 2 a.f_falls_at a.d_falls_at ["codes","teeth"] (ziI K):=by
 have G_has_all:=zfG (P:=P) (w:=w) (base:=base) T
 refine T.falls_at.fn.ok zig (fun vs H Q E h=>?_) (fun cdv A outer s H vs Q E hr h=>?_)
 ·obtain ⟨l,t,cs,rfl,_⟩:=h
  rfl
 obtain ⟨l,t,cs,rfl,hS,hc,h0,h1,q⟩:=h
 refine ⟨_,(zab (zbE PassesOwn.never rfl (zex K rfl rfl T.b_enumerate (zaa (pv 0) zad)) (zbj K rfl (n:=2) rfl (zaj (zah (i:=2) zig.nd rfl (Or.inl rfl)) (zaj (zah (i:=3) zig.nd rfl (Or.inl rfl)) zbl))) (zae (zbp (zcg (zaQ T.has_all G_has_all hr rfl (zaa (pv 3) (zaa (pv 1) zad)))) (zae (zav (pv 2))) zaB)))
  (zae (zav zgG))),?_⟩
 walk_at "rd"
 refine ⟨⟨_,hS⟩,?_⟩
 refine zeo (a:=l) (xs:=cs.map V.int) (fun i σ H2=>∃ (v1 v2 : Option V),σ = [some (.ref l),some (.int t),v1,v2] /\ Same H H2 /\ ∀ (j : Nat) c',j < i -> cs[j]? = some c' -> Mt.has c' t = false)
  ⟨none,none,rfl,Same.refl _,fun j _ h=>absurd h (Nat.not_lt_zero _)⟩ (by rintro i σ H2 _ ⟨_,_,_,hs,_⟩; exact hs.seq hS) ?_ ?_
 ·rintro i y p σ H2 hy ⟨v1,v2,rfl,hs,hb⟩ hp
  obtain ⟨c,rfl,hci⟩:=zaR hy
  have hs2:=zbP (o:=.tup [.int i,.int c]) hs hp
  walk_at "rd"
  walk_at "tg"
  walk_at "tg"
  walk_at "rd"
  refine ⟨_,_,rfl,hc c (List.mem_of_getElem? hci),h0,h1,?_⟩
  walk_at "rd"
  cases e : Mt.has c t with
  | true =>
    refine iteT ?_
    walk_at "rd"
    have:=q _ hs2
    rw [Mt.zdV hci e hb] at this
    exact this
  | false =>
    refine iteF ?_
    refine ⟨_,_,rfl,hs2,fun j c' hj hc'=>?_⟩
    by_cases z : j = i
    ·subst z
     rw [hci] at hc'
     cases hc'
     exact e
    ·exact hb j c' (by omega) hc'
 ·rintro σ H2 ⟨v1,v2,rfl,hs,hb⟩
  have:=q _ hs
  rw [Mt.zfB (fun j c' hj=>hb j c' (by rw [List.length_map]; exact hj))] at this
  exact this
def ziv : Sp:=fun vs H Q _=>∃ t o : Int,vs = [.int t,.int o] /\ Q (.bl (decide (Builtin.bitAnd t o = o))) H
theorem ziV (T : Tx K mg a) : FnOk P w K mg base CX0 1 a.f_has_all a.d_has_all ["teeth","others"] ziv:=by
 refine T.has_all.fn.ok zfy (fun vs H Q E h=>?_) (fun cdv A outer s H vs Q E hr h=>?_)
 ·obtain ⟨t,o,rfl,_⟩:=h
  rfl
 obtain ⟨t,o,rfl,q⟩:=h
 refine ⟨_,(zae (zav (zbk zcU (zar zll (pv 0) (pv 1)) (pv 1) (zap _)))),?_⟩
 walk_at "rd"
 rw [decV]
 exact q
def zgr (K : PySem.W.Frag) : Sp:=fun vs H Q _=>∃ (l : Addr) (x : Str) (rs : List Cs.Row),vs = [.ref l,.str x] /\ Cs.zeB K H l rs /\ ∀ H',Same H H' -> Q (Mt.optV (Cs.place rs x)) H'
theorem zcF (T : Tx K mg a) : FnOk P w K mg base CX0 1 a.f_channel_of a.d_channel_of ["case","sign"] (zgr K):=by
 refine T.channel_of.fn.ok zgj (fun vs H Q E h=>?_) (fun cdv A outer s H vs Q E hr h=>?_)
 ·obtain ⟨l,x,rs,rfl,_⟩:=h
  rfl
 obtain ⟨l,x,rs,rfl,⟨xs,hS,hp⟩,q⟩:=h
 refine ⟨_,(zab (zbE PassesOwn.never rfl (zex K rfl rfl T.b_enumerate (zaa (pv 0) zad)) (zbj K rfl (n:=2) rfl (zaj (zah (i:=2) zgj.nd rfl (Or.inl rfl)) (zaj (zah (i:=3) zgj.nd rfl (Or.inl rfl)) zbl))) (zae (zbp (zao zcU (zaK (zcv K rfl) (pv 3) zag (fun _ _=>rfl)) (pv 1) (zap _)) (zae (zav (pv 2))) zaB)))
  (zae (zav zgG))),?_⟩
 walk_at "rd"
 try refine ⟨⟨_,hS⟩,?_⟩
 refine zeo (a:=l) (xs:=xs) (fun i σ H2=>∃ (v1 v2 : Option V),σ = [some (.ref l),some (.str x),v1,v2] /\ Same H H2 /\ ∀ (j : Nat) r,j < i -> rs[j]? = some r -> r.s ≠ x)
  ⟨none,none,rfl,Same.refl _,fun j _ h=>absurd h (Nat.not_lt_zero _)⟩ (by rintro i σ H2 _ ⟨_,_,_,hs,_⟩; exact hs.seq hS) ?_ ?_
 ·rintro i y p σ H2 hy ⟨v1,v2,rfl,hs,hb⟩ hpn
  obtain ⟨r,hri,t,rfl,ht⟩:=Cs.zaX hp hy
  have hs2:=zbP (o:=.tup [.int i,.ref t]) hs hpn
  have ht2:=hs2 _ _ ht
  walk_at "rd"
  walk_at "tg"
  walk_at "tg"
  walk_at "rd"
  refine ⟨t,_,_,_,rfl,rfl,SqT.of ht2,rfl,?_⟩
  walk_at "rd"
  rw [Cs.strV]
  by_cases e : r.s = x
  ·rw [decide_eq_true e]
   refine iteT ?_
   walk_at "rd"
   have:=q _ hs2
   rw [Cs.zfx hri e hb] at this
   exact this
  ·rw [decide_eq_false e]
   refine iteF ?_
   refine ⟨_,_,rfl,hs2,fun j r' hj hr'=>?_⟩
   by_cases z : j = i
   ·subst z
    rw [hri] at hr'
    cases hr'
    exact e
   ·exact hb j r' (by omega) hr'
 ·rintro σ H2 ⟨v1,v2,rfl,hs,hb⟩
  have:=q _ hs
  rw [Cs.zfI (fun j r hj=>hb j r (by rw [Cs.zbC hp]; exact hj))] at this
  exact this
def zhF (K : PySem.W.Frag) : Sp:=fun vs H Q _=>∃ (l : Addr) (rs : List Cs.Row),vs = [.ref l] /\ Cs.zeB K H l rs /\ rs.length <= 1000 /\ ∀ (r : Addr) H',H r = none -> Same H H' -> H' r = some (.lst ((rs.map fun x=>x.t).map V.int)) -> Q (.ref r) H'
theorem zhP (T : Tx K mg a) : FnOk P w K mg base CX0 1 a.f_codes_of_ a.d_codes_of_ ["case"] (zhF K):=by
 refine T.codes_of_.fn.ok zhS (fun vs H Q E h=>?_) (fun cdv A outer s H vs Q E hr h=>?_)
 ·obtain ⟨l,rs,rfl,_⟩:=h
  rfl
 obtain ⟨l,rs,rfl,⟨xs,hS,hp⟩,hl,q⟩:=h
 refine ⟨_,(zae (zav (zbg rfl (zaC K rfl (pv 0)) (BlkOk.of (N':=["case","sign","width","teeth","many"]) (ms:=[]) (k:=4) (by rfl)) (fun _ _ _ _ _=>(zbj K rfl (n:=4) rfl (zaj (zah (i:=1) (show List.Nodup (["case","sign","width","teeth","many"] : List Str) from by decide +kernel) rfl (Or.inl rfl)) (zaj (zah (i:=2) (show List.Nodup (["case","sign","width","teeth","many"] : List Str) from by decide +kernel) rfl (Or.inl rfl)) (zaj (zah (i:=3) (show List.Nodup (["case","sign","width","teeth","many"] : List Str) from by decide +kernel) rfl (Or.inl rfl)) (zaj (zah (i:=4) (show List.Nodup (["case","sign","width","teeth","many"] : List Str) from by decide +kernel) rfl (Or.inl rfl)) zbl)))))) (fun _ _ _ _ _=>zbK) (fun _ _ _ _ _=>(pv 3))))),?_⟩
 have hxl:=Cs.zbC hp
 walk_at "rd"
 intro D hD
 refine zaI (a:=l) (xs:=xs) (fun i ys σ H2=>∃ (v1 v2 v3 v4 : Option V),ys = ((rs.take i).map fun x=>x.t).map V.int /\ σ = [some (.ref l),v1,v2,v3,v4] /\ Same H H2 /\ H2 D = some (.lst ys))
  ?_ ?_ ?_ ?_
 ·exact ⟨none,none,none,none,rfl,rfl,zaf hD _,upd_same⟩
 ·exact fun i ys σ H2 _ ⟨_,_,_,_,_,_,hs,_⟩=>hs.seq hS
 ·rintro i y ys σ H2 hy hil ⟨v1,v2,v3,v4,rfl,rfl,hs,hh⟩
  obtain ⟨r,hri,t,rfl,ht⟩:=Cs.zaX hp hy
  have ht2:=hs _ _ ht
  refine ⟨_,_,rfl,SqT.of ht2,rfl,?_⟩
  walk_at "tg"
  walk_at "tg"
  walk_at "tg"
  walk_at "tg"
  walk_at "rd"
  refine zcz hil hh ?_ ⟨_,_,_,_,?_,rfl,zan hs hD,upd_same⟩
  ·rw [List.length_map,List.length_map,List.length_take]
   omega
  ·rw [List.take_add_one,hri,List.map_append,List.map_append]
   rfl
 ·rintro ys σ H2 ⟨v1,v2,v3,v4,rfl,rfl,hs,hh⟩
  rw [hxl,List.take_of_length_le (Nat.le_refl _)] at hh
  exact q D H2 hD hs hh
abbrev MA (a : Ad) (c : Mc.Cf) (H : Hp) (p : Addr) (A : Mc.Adr) (m : Mc.Ms) : Prop:=Mc.Mac a.c_Machine zfJ c H p A m
abbrev IA (a : Ad) (H : Hp) (p : Addr) (vs : List (Option V)) : Prop:=zcy a.c_Machine zfJ H p vs
def zhV (a : Ad) : Sp:=fun vs H Q _=>∃ (p : Addr) (A : Mc.Adr) (c : Mc.Cf) (m : Mc.Ms),vs = [.ref p] /\ MA a c H p A m /\ Mc.Ok c m /\ Q (.str (Mc.keyS c m)) H
theorem zbv (T : Tx K mg a) : FnOk P w K mg base CX0 1 a.f_Machine_next_key a.d_Machine_next_key ["self"] (zhV a):=by
 refine T.Machine_next_key.fn.ok zdu (fun vs H Q E h=>?_) (fun cdv A outer s H vs Q E hr h=>?_)
 ·obtain ⟨p,A,c,m,rfl,_⟩:=h
  rfl
 obtain ⟨p,A,c,m,rfl,M,O,q⟩:=h
 have I:=M.ins
 have hxl : c.keys.cps.toList.length = c.keys.length:=Array.length_toList
 have hks:=O.cf.short
 have hsz : c.keys.length <= sizeLine:=zdq (by omega)
 refine ⟨_,(zae (zav (zgb (zao zii (pfld (K:=K) rfl T.Machine.cl T.n_Machine_struck zaz (pv 0)) (zaJ zed rfl T.b_len zbY (zaa (pfld (K:=K) rfl T.Machine.cl T.n_Machine_played zbd (pv 0)) zad)) (zap _)) (zaK zeJ (pfld (K:=K) rfl T.Machine.cl T.n_Machine_played zbd (pv 0)) (pfld (K:=K) rfl T.Machine.cl T.n_Machine_struck zaz (pv 0)) (fun _ _=>rfl)) zea))),?_⟩
 walk_at "rd"
 unfold Mc.keyS Mc.key at q
 by_cases hl : m.at_ < c.keys.cps.toList.length
 ·rw [decide_eq_true (by omega)]
  refine iteT ?_
  walk_at "rd"
  refine ⟨_,_,_,rfl,rfl,hsz,zaF (List.getElem?_eq_getElem hl),?_⟩
  rw [List.getElem?_eq_getElem hl] at q
  exact q
 ·rw [decide_eq_false (by omega)]
  refine iteF ?_
  rw [List.getElem?_eq_none (by omega)] at q
  exact q
def zkR (a : Ad) (f : Mc.Cf -> Mc.Ms -> V) : Sp:=fun vs H Q _=>∃ (p : Addr) (A : Mc.Adr) (c : Mc.Cf) (m : Mc.Ms),vs = [.ref p] /\ MA a c H p A m /\ Mc.Ok c m /\ ∀ H',Same H H' -> Q (f c m) H'
theorem zbB (T : Tx K mg a) : FnOk P w K mg base CX0 2 a.f_Machine_lacks_matrix a.d_Machine_lacks_matrix ["self"] (zkR a fun c m=>.bl (Mc.zaU c m)):=by
 have G_channel_of:=zcF (P:=P) (w:=w) (base:=base) T
 have G_Machine_next_key:=zbv (P:=P) (w:=w) (base:=base) T
 refine T.Machine_lacks_matrix.fn.ok zcs (fun vs H Q E h=>?_) (fun cdv A outer s H vs Q E hr h=>?_)
 ·obtain ⟨p,A,c,m,rfl,_⟩:=h
  rfl
 obtain ⟨p,A,c,m,rfl,M,O,q⟩:=h
 have I:=M.ins
 refine ⟨_,(zab (zau (i:=1) zcs.nd rfl (Or.inl rfl) (zaQ T.channel_of G_channel_of hr rfl (zaa (pfld (K:=K) rfl T.Machine.cl T.n_Machine_case zbb (pv 0)) (zaa (zbV (K:=K) rfl T.Machine.cl T.Machine_next_key G_Machine_next_key hr zbw (pv 0)) zad))))
  (zae (zav (zcH (zku (zkS (pv 1))) (zeb (zbk (keqD K rfl hr.units) (zaK (zas K rfl) (pfld (K:=K) rfl T.Machine.cl T.n_Machine_lying zaO (pv 0)) (pv 1) (fun _ _=>rfl)) (zaE zad) (zap _))))))),?_⟩
 walk_at "rd"
 refine ⟨p,A,c,m,rfl,M,O,?_⟩
 walk_at "rd"
 obtain ⟨xs,hx1,hx2⟩:=M.li.rows
 refine ⟨A.c,_,c.rs,rfl,⟨xs,SqL.of hx1,hx2⟩,fun H1 hs1=>?_⟩
 have q : ∀ H',Same H H' -> Q (.bl (Mc.zaU c m)) H':=q
 cases hp : Cs.place c.rs (Mc.keyS c m) with
 | none =>
   rw [Mc.zdc hp] at q
   walk_at "rd"
   exact q H1 hs1
 | some k =>
   rw [Mc.zfM hp] at q
   have hk:=Cs.zcX hp
   obtain ⟨lq,l,h1,h2,h3,h4⟩:=M.lane O hk
   rw [Mc.zfO h2] at q
   have M1:=M.same hs1
   have I1:=M1.ins
   refine ⟨_,rfl,?_⟩
   refine ⟨true,rfl,?_⟩
   refine iteT ?_
   refine ⟨_,rfl,?_⟩
   refine ⟨_,_,_,rfl,I1,rfl,?_⟩
   refine ⟨_,rfl,?_⟩
   refine ⟨A.L,_,(k : Int),_,rfl,rfl,SqL.of M1.li.lan,h4,?_⟩
   refine And.intro (Nat.zero_le _) fun e he=>?_
   have hs2:=zaf he (.lst [])
   have h3' : Mc.LnAt (upd H1 e (.lst [])) lq l:=Mc.LnAt.keep (Mc.Keep.of_same (S:=fun _=>True) (hs1.trans hs2)) trivial h3
   refine ⟨_,_,h3'.den (O.llay h2),Mc.zcD upd_same,Mc.zcA _,?_⟩
   have q:=q _ (hs1.trans hs2)
   rw [<- Mc.zcx Mc.mxD l] at q
   exact q
theorem zek (T : Tx K mg a) : FnOk P w K mg base CX0 3 a.f_Machine_stuck a.d_Machine_stuck ["self"] (zkR a fun c m=>.bl (Mc.zfp c m)):=by
 have G_Machine_lacks_matrix:=zbB (P:=P) (w:=w) (base:=base) T
 refine T.Machine_stuck.fn.ok zem (fun vs H Q E h=>?_) (fun cdv A outer s H vs Q E hr h=>?_)
 ·obtain ⟨p,A,c,m,rfl,_⟩:=h
  rfl
 obtain ⟨p,A,c,m,rfl,M,O,q⟩:=h
 have q : ∀ H',Same H H' -> Q (.bl (Mc.zaU c m && m.heat.isEmpty && m.bar.isEmpty)) H':=q
 have I:=M.ins
 refine ⟨_,(zae (zav (zcH (zbV (K:=K) rfl T.Machine.cl T.Machine_lacks_matrix G_Machine_lacks_matrix hr zbI (pv 0)) (zcH (zbk (keqD K rfl hr.units) (pfld (K:=K) rfl T.Machine.cl T.n_Machine_heated zat (pv 0)) (zaE zad) (zap _)) (zeb (zbk (keqD K rfl hr.units) (pfld (K:=K) rfl T.Machine.cl T.n_Machine_hanging zaD (pv 0)) (zaE zad) (zap _))))))),?_⟩
 walk_at "rd"
 refine ⟨p,A,c,m,rfl,M,O,fun H1 hs1=>?_⟩
 have M1:=M.same hs1
 have I1:=M1.ins
 refine ⟨_,rfl,?_⟩
 cases hl : Mc.zaU c m with
 | false =>
   rw [hl] at q
   refine iteF ?_
   exact q H1 hs1
 | true =>
   rw [hl] at q
   refine iteT ?_
   walk_at "rd"
   refine fun e he=>?_
   have hs2:=zaf he (.lst [])
   have hs12:=hs1.trans hs2
   have M2:=M.same hs12
   refine ⟨_,_,M2.li.het.den O.hlay,Mc.zcD upd_same,Mc.zcA _,?_⟩
   rw [Mc.zcx Mc.zen m.heat]
   generalize upd H1 e (.lst []) = H2 at hs2 hs12 M2 ⊢
   have I2:=M2.ins
   refine ⟨_,rfl,?_⟩
   cases hh : m.heat.isEmpty with
   | false =>
     rw [hh] at q
     refine iteF ?_
     exact q H2 hs12
   | true =>
     rw [hh] at q
     refine iteT ?_
     walk_at "rd"
     refine fun e he=>?_
     have hs3:=zaf he (.lst [])
     have M3:=M2.same hs3
     refine ⟨_,_,M3.li.bar.den O.blay,Mc.zcD upd_same,Mc.zcA _,?_⟩
     have q:=q _ (hs12.trans hs3)
     rw [<- Mc.zcx Mc.mxD m.bar] at q
     exact q
theorem zcf (T : Tx K mg a) : FnOk P w K mg base CX0 3 a.f_Machine_resting a.d_Machine_resting ["self"] (zkR a fun c m=>.bl (Mc.zbn c m)):=by
 have G_Machine_next_key:=zbv (P:=P) (w:=w) (base:=base) T
 refine T.Machine_resting.fn.ok zdN (fun vs H Q E h=>?_) (fun cdv A outer s H vs Q E hr h=>?_)
 ·obtain ⟨p,A,c,m,rfl,_⟩:=h
  rfl
 obtain ⟨p,A,c,m,rfl,M,O,q⟩:=h
 have q : ∀ H',Same H H' -> Q (.bl ((Mc.key c m).isNone && m.line.isEmpty && m.heat.isEmpty && m.bar.isEmpty)) H':=q
 have I:=M.ins
 refine ⟨_,(zae (zav (zcH (zbk zcU (zbV (K:=K) rfl T.Machine.cl T.Machine_next_key G_Machine_next_key hr zbw (pv 0)) zea (zap _)) (zcH (zbk (keqD K rfl hr.units) (pfld (K:=K) rfl T.Machine.cl T.n_Machine_line zaT (pv 0)) (zaE zad) (zap _)) (zcH (zbk (keqD K rfl hr.units) (pfld (K:=K) rfl T.Machine.cl T.n_Machine_heated zat (pv 0)) (zaE zad) (zap _)) (zeb (zbk (keqD K rfl hr.units) (pfld (K:=K) rfl T.Machine.cl T.n_Machine_hanging zaD (pv 0)) (zaE zad) (zap _)))))))),?_⟩
 walk_at "rd"
 refine ⟨p,A,c,m,rfl,M,O,?_⟩
 walk_at "rd"
 have ek : decide (V.str (Mc.keyS c m) = V.str (Str.ofString "")) = (Mc.key c m).isNone:=by
  rw [Cs.strV]
  unfold Mc.keyS
  cases Mc.key c m with
  | none=>exact decide_eq_true rfl
  | some k=>exact decide_eq_false fun e=>by cases e
 rw [ek]
 cases hl : (Mc.key c m).isNone with
 | false =>
   rw [hl] at q
   refine iteF ?_
   exact q H (Same.refl _)
 | true =>
   rw [hl] at q
   refine iteT ?_
   walk_at "rd"
   refine fun e he=>?_
   have hs2:=zaf he (.lst [])
   have M2:=M.same hs2
   refine ⟨_,_,M2.li.lin.den O.ilay,Mc.zcD upd_same,Mc.zcA _,?_⟩
   rw [Mc.zcx Mc.zen m.line]
   generalize upd H e (.lst []) = H2 at hs2 M2 ⊢
   have I2:=M2.ins
   refine ⟨_,rfl,?_⟩
   cases hh : m.line.isEmpty with
   | false =>
     rw [hh] at q
     refine iteF ?_
     exact q H2 hs2
   | true =>
     rw [hh] at q
     refine iteT ?_
     walk_at "rd"
     refine fun e he=>?_
     have hs3:=zbP (o:=.lst []) hs2 he
     have M3:=M.same hs3
     refine ⟨_,_,M3.li.het.den O.hlay,Mc.zcD upd_same,Mc.zcA _,?_⟩
     rw [Mc.zcx Mc.zen m.heat]
     generalize upd H2 e (.lst []) = H3 at hs3 M3 ⊢
     have I3:=M3.ins
     refine ⟨_,rfl,?_⟩
     cases hg : m.heat.isEmpty with
     | false =>
       rw [hg] at q
       refine iteF ?_
       exact q H3 hs3
     | true =>
       rw [hg] at q
       refine iteT ?_
       walk_at "rd"
       refine fun e he=>?_
       have hs4:=zbP (o:=.lst []) hs3 he
       have M4:=M.same hs4
       refine ⟨_,_,M4.li.bar.den O.blay,Mc.zcD upd_same,Mc.zcA _,?_⟩
       have q:=q _ hs4
       rw [<- Mc.zcx Mc.mxD m.bar] at q
       exact q
theorem zjA {α β : Type} {F : α -> β -> Prop} : ∀ {xs xs' : List α} {ys ys' : List β},Paired F xs ys -> Paired F xs' ys' -> Paired F (xs ++ xs') (ys ++ ys')
 | _,_,_,_,.nil,h=>h
 | _,_,_,_,.cons r t,h=>.cons r (zjA t h)
def ziY (a : Ad) (f : Mc.Cf -> Mc.Ms -> Mc.Ms) : Sp:=fun vs H Q _=>∃ (p : Addr) (A : Mc.Adr) (c : Mc.Cf) (m : Mc.Ms),vs = [.ref p] /\ MA a c H p A m /\ Mc.Ok c m /\ ∀ A' H',MA a c H' p A' (f c m) -> Mc.Step p A H A' H' -> Q .non H'
theorem zdz (T : Tx K mg a) : FnOk P w K mg base CX0 3 a.f_Machine_move_bar a.d_Machine_move_bar ["self"] (ziY a Mc.fall):=by
 have G_falls_at:=zeZ (P:=P) (w:=w) (base:=base) T
 have G_codes_of_:=zhP (P:=P) (w:=w) (base:=base) T
 refine T.Machine_move_bar.fn.ok zdr (fun vs H Q E h=>?_) (fun cdv A outer s H vs Q E hr h=>?_)
 ·obtain ⟨p,A,c,m,rfl,_⟩:=h
  rfl
 obtain ⟨p,A,c,m,rfl,M,O,q⟩:=h
 have I:=M.ins
 refine ⟨_,(zae (zbp (zao (kneD K rfl hr.units) (pfld (K:=K) rfl T.Machine.cl T.n_Machine_hanging zaD (pv 0)) (zaE zad) (zap _)) (zab (zau (i:=1) zdr.nd rfl (Or.inl rfl) (zbo K rfl PySem.F.plainAttrs_list PySem.F.slot_list_pop PySem.F.type_list_pop zjz (pfld (K:=K) rfl T.Machine.cl T.n_Machine_hanging zaD (pv 0)) (zaa zag zad)))
  (zae (zaH (zbo K rfl PySem.F.plainAttrs_list PySem.F.slot_list_append PySem.F.type_list_append zaY (zaK (zas K rfl) (pfld (K:=K) rfl T.Machine.cl T.n_Machine_lying zaO (pv 0)) (zaQ T.falls_at G_falls_at hr rfl (zaa (zaQ T.codes_of_ G_codes_of_ hr rfl (zaa (pfld (K:=K) rfl T.Machine.cl T.n_Machine_case zbb (pv 0)) zad)) (zaa (zaK (zcv K rfl) (pv 1) zag (fun _ _=>rfl)) zad))) (fun _ _=>rfl)) (zaa (pv 1) zad))))) zaB)),?_⟩
 walk_at "rd"
 refine fun e he=>?_
 have hs1:=zaf he (.lst [])
 have M1:=M.same hs1
 refine ⟨_,_,M1.li.bar.den O.blay,Mc.zcD upd_same,Mc.zcA _,?_⟩
 rw [Mc.zcx Mc.mxD m.bar]
 generalize upd H e (.lst []) = H1 at hs1 M1 ⊢
 have I1:=M1.ins
 refine ⟨_,rfl,?_⟩
 unfold Mc.fall at q
 cases hb : m.bar with
 | nil =>
   rw [hb] at q
   refine iteF ?_
   exact q A H1 M1 (Mc.Step.of_same hs1)
 | cons x r =>
   rw [hb] at q
   obtain ⟨o1,o2,o3,o4,k,hk,hkl⟩:=O.bm x (by rw [hb]; exact List.mem_cons_self)
   have q : ∀ A' H',MA a c H' p A' (match Mt.zaG (c.rs.map fun r=>r.t) x.2 with
    | some k=>{ m with bar:=r,lanes:=Mc.zbM m.lanes k x }
    | none=>m) -> Mc.Step p A H A' H' -> Q .non H':=q
   rw [hk] at q
   refine iteT ?_
   walk_at "rd"
   obtain ⟨bs,hb1,hb2⟩:=M1.li.bar
   rw [hb] at hb2
   obtain ⟨v,vs,rfl,hv,hvs⟩ : ∃ v vs,bs = v :: vs /\ Lan.zbS H1 v x /\ Paired (Lan.zbS H1) vs r:=by
    cases hb2 with
    | cons h1 h2=>exact ⟨_,_,rfl,h1,h2⟩
   refine ⟨.inl ⟨rfl,_,SqL.of hb1⟩,?_⟩
   walk_at "rd"
   refine ⟨A.b,_,0,0,v,rfl,rfl,hb1,by decide,by decide,Mc.ix0 _ _,rfl,?_⟩
   have M2 : MA a c (upd H1 A.b (.lst vs)) p A { m with bar:=r }:=M1.setBar hb1 hvs
   have hst2 : Mc.Step p A H A (upd H1 A.b (.lst vs)):=(Mc.Step.of_same hs1).trans (Mc.Step.lst (by unfold Mc.Adr.all; simp) hb1)
   have hv2:=Mc.zdF (Mc.Keep.lst (o:=.lst vs) hb1) hv
   have eer : ((v :: vs).eraseIdx 0) = vs:=rfl
   rw [eer]
   generalize upd H1 A.b (.lst vs) = H2 at M2 hst2 hv2 ⊢
   have I2:=M2.ins
   obtain ⟨t,rfl,ht⟩:=hv2
   walk_at "rd"
   obtain ⟨ws,hw1,hw2⟩:=M2.li.rows
   have hfew:=O.cf.few
   refine ⟨A.c,c.rs,rfl,⟨ws,SqL.of hw1,hw2⟩,by omega,fun pr H3 hpr hs3 hr3=>?_⟩
   have M3:=M2.same hs3
   have ht3:=hs3 _ _ ht
   walk_at "rd"
   refine ⟨t,_,_,_,rfl,rfl,SqT.of ht3,rfl,?_⟩
   refine ⟨pr,x.2,_,rfl,SqL.of hr3,?_,o3,o4,fun H4 hs4=>?_⟩
   ·intro y hy
    obtain ⟨r',hr',rfl⟩:=List.mem_map.mp hy
    exact (O.cf.th r' hr').1
   rw [hk]
   have M4:=M3.same hs4
   have ht4:=hs4 _ _ ht3
   have hst4:=hst2.trans (Mc.Step.of_same (hs3.trans hs4))
   have hln : m.lanes.length = c.rs.length:=O.ln
   have hkl2 : k < m.lanes.length:=by omega
   obtain ⟨lq,hlq,hl5⟩:=Cs.zdA M4.li.lns (List.getElem?_eq_getElem hkl2)
   obtain ⟨ys,hy1,hy2⟩:=hl5
   have hat : atI (A.ls.map V.ref) (k : Int) = some (.ref lq):=zaF (by rw [List.getElem?_map,hlq]; rfl)
   refine ⟨A.L,_,(k : Int),_,rfl,rfl,SqL.of M4.li.lan,hat,?_⟩
   refine ⟨.inl ⟨rfl,_,SqL.of hy1⟩,?_⟩
   refine ⟨_,rfl,?_⟩
   have hlen : ys.length <= 100000:=by
    have h1:=Paired.length hy2
    have h2:=Mc.znQ (List.getElem?_eq_getElem hkl2)
    have h3:=O.sz
    have h4:=Mc.ziz O
    unfold Mc.cnt at h3
    omega
   refine ⟨lq,ys,_,rfl,rfl,hy1,zby hlen,?_⟩
   have ea : Mc.zbM m.lanes k x = m.lanes.set k (m.lanes[k] ++ [x]):=by
    unfold Mc.zbM
    rw [List.getElem?_eq_getElem hkl2]
   have M5 : MA a c (upd H4 lq (.lst (ys ++ [.ref t]))) p A { m with bar:=r,lanes:=m.lanes.set k (m.lanes[k] ++ [x]) }:=M4.setLane hlq hy1 (Paired.snoc hy2 ⟨t,rfl,ht4⟩)
   have q : ∀ A' H',MA a c H' p A' { m with bar:=r,lanes:=Mc.zbM m.lanes k x } -> Mc.Step p A H A' H' -> Q .non H':=q
   rw [ea] at q
   have q:=q A _ M5 (hst4.trans (Mc.Step.lst (by unfold Mc.Adr.all; simp [List.mem_of_getElem? hlq]) hy1))
   exact q
theorem zcK (T : Tx K mg a) : FnOk P w K mg base CX0 2 a.f_Machine_move_caster a.d_Machine_move_caster ["self"] (ziY a fun _ m=>Mc.cool m):=by
 refine T.Machine_move_caster.fn.ok zcI (fun vs H Q E h=>?_) (fun cdv A outer s H vs Q E hr h=>?_)
 ·obtain ⟨p,A,c,m,rfl,_⟩:=h
  rfl
 obtain ⟨p,A,c,m,rfl,M,O,q⟩:=h
 have q : ∀ A' H',MA a c H' p A' (Mc.cool m) -> Mc.Step p A H A' H' -> Q .non H':=q
 have I:=M.ins
 refine ⟨_,(zab (zbp (zao (keqD K rfl hr.units) (pfld (K:=K) rfl T.Machine.cl T.n_Machine_heated zat (pv 0)) (zaE zad) (zap _)) (zae zot) zaB)
  (zab (zbm (K:=K) rfl T.Machine.cl T.n_Machine_to_go zaN (pv 0) (zar zdn (pfld (K:=K) rfl T.Machine.cl T.n_Machine_to_go zaN (pv 0)) zag))
  (zae (zbp (zao zrB (pfld (K:=K) rfl T.Machine.cl T.n_Machine_to_go zaN (pv 0)) zag (zap _)) (zab (zaH (zbo K rfl PySem.F.plainAttrs_list PySem.F.slot_list_append PySem.F.type_list_append zaY (pfld (K:=K) rfl T.Machine.cl T.n_Machine_texts zbT (pv 0)) (zaa (zbo K rfl PySem.F.plainAttrs_str PySem.F.slot_str_join PySem.F.type_str_join (zjB K rfl) zea (zaa (zbg rfl (zaC K rfl (pfld (K:=K) rfl T.Machine.cl T.n_Machine_heated zat (pv 0))) (BlkOk.of (N':=["self","part"]) (ms:=[]) (k:=1) (by rfl)) (fun _ _ _ _ _=>(zah (i:=1) (show List.Nodup (["self","part"] : List Str) from by decide +kernel) rfl (Or.inl rfl))) (fun _ _ _ _ _=>zbK) (fun _ _ _ _ _=>(zaK (znb K rfl) (pv 1) zag (fun _ _=>rfl)))) zad)) zad)))
  (zab (zaH (zbo K rfl PySem.F.plainAttrs_list PySem.F.slot_list_extend PySem.F.type_list_extend zkx (pfld (K:=K) rfl T.Machine.cl T.n_Machine_hanging zaD (pv 0)) (zaa (zbg rfl (zaC K rfl (pfld (K:=K) rfl T.Machine.cl T.n_Machine_heated zat (pv 0))) (BlkOk.of (N':=["self","part"]) (ms:=[]) (k:=1) (by rfl)) (fun _ _ _ _ _=>(zah (i:=1) (show List.Nodup (["self","part"] : List Str) from by decide +kernel) rfl (Or.inl rfl))) (fun _ _ _ _ _=>(zdU (zao (kneD K rfl hr.units) (pv 1) (zdy (v:=.str " ") rfl T.g_WEDGE ⟨_,rfl⟩) (zap _)))) (fun _ _ _ _ _=>(pv 1))) zad)))
  (zae (zbm (K:=K) rfl T.Machine.cl T.n_Machine_heated zat (pv 0) (zaE zad))))) zaB)))),?_⟩
 walk_at "rd"
 refine fun e he=>?_
 have hs1:=zaf he (.lst [])
 have M1:=M.same hs1
 refine ⟨_,_,M1.li.het.den O.hlay,Mc.zcD upd_same,Mc.zcA _,?_⟩
 rw [Mc.zcx Mc.zen m.heat]
 generalize upd H e (.lst []) = H1 at hs1 M1 ⊢
 have I1:=M1.ins
 refine ⟨_,rfl,?_⟩
 unfold Mc.cool at q
 cases hh : m.heat.isEmpty with
 | true =>
   rw [if_pos hh] at q
   refine iteT ?_
   exact q A H1 M1 (Mc.Step.of_same hs1)
 | false =>
   rw [if_neg (by rw [hh]; decide)] at q
   refine iteF ?_
   walk_at "rd"
   refine fun H2 I2 k2=>?_
   have I2 : IA a H2 p (Mc.vals c A { m with togo:=m.togo - 1 }):=I2
   have M2:=M1.setF I2 k2 rfl rfl rfl rfl rfl
   have st2:=(Mc.Step.of_same (p:=p) (A:=A) hs1).trans (Mc.Step.flds I1 I2 k2)
   have hne : m.heat ≠ []:=fun z=>by rw [z] at hh; cases hh
   have O2 : ∀ x,some x ∈ m.heat -> Mc.OkM c x:=O.hm
   walk_at "rd"
   by_cases ht : m.togo - 1 <= 0
   ·rw [if_pos ht] at q
    rw [decide_eq_true ht]
    refine iteT ?_
    walk_at "rd"
    have hsz:=O.sz
    have hkl:=Mc.ziz O
    unfold Mc.cnt at hsz
    obtain ⟨hv,hh1,hh2⟩:=M2.li.het
    have hh2 : Paired (Mc.zcn H2) hv m.heat:=hh2
    have hhl:=Paired.length hh2
    refine ⟨.inl ⟨rfl,_,SqL.of M2.li.txt⟩,?_⟩
    walk_at "rd"
    refine ⟨⟨_,SqL.of hh1⟩,fun D hD=>?_⟩
    refine zaI (a:=A.h) (xs:=hv) (fun i ys σ H3=>∃ (v2 : Option V),ys = ((m.heat.take i).map Mc.zbz).map V.str /\ σ = [some (.ref p),v2] /\ Same H2 H3 /\ H3 D = some (.lst ys))
     ?_ ?_ ?_ ?_
    ·exact ⟨none,rfl,rfl,zaf hD _,upd_same⟩
    ·rintro i ys σ H3 hi ⟨v2,_,_,hs,_⟩
     exact hs.seq (SqL.of hh1)
    ·rintro i y ys σ H3 hy hil ⟨v2,rfl,rfl,hs,hh3⟩
     obtain ⟨pt,hpt,hpa⟩:=Mc.zhr hh2 hy
     have hpa3:=Mc.zeX (Mc.Keep.of_same (S:=fun _=>True) hs) hpa
     have hlen : (((m.heat.take i).map Mc.zbz).map V.str).length <= 100000:=by
      rw [List.length_map,List.length_map,List.length_take]
      omega
     have etk : (((m.heat.take (i + 1)).map Mc.zbz).map V.str) = (((m.heat.take i).map Mc.zbz).map V.str) ++ [V.str (Mc.zbz pt)]:=by
      rw [List.take_add_one,hpt,List.map_append,List.map_append]
      rfl
     walk_at "rd"
     cases pt with
     | none =>
       have e : y = .str " ":=hpa3
       subst e
       refine .inr ⟨_,_,32,rfl,rfl,zdq (by decide),rfl,?_⟩
       exact zcz hil hh3 hlen ⟨_,etk.symm,rfl,zan hs hD,upd_same⟩
     | some x =>
       obtain ⟨t,rfl,htt⟩:=hpa3
       refine .inl ⟨t,_,_,_,rfl,rfl,SqT.of htt,rfl,?_⟩
       exact zcz hil hh3 hlen ⟨_,etk.symm,rfl,zan hs hD,upd_same⟩
    ·rintro ys σ H3 ⟨v2,rfl,rfl,hs3,hh3⟩
     rw [hhl,List.take_of_length_le (Nat.le_refl _)] at hh3
     have M3:=M2.same hs3
     refine ⟨_,D,_,rfl,rfl,SqL.of hh3,Mc.zka O2 (by omega),?_⟩
     have htl:=O.tx
     refine ⟨A.t,_,_,rfl,rfl,M3.li.txt,zby (by rw [List.length_map]; show m.texts.length <= _; omega),?_⟩
     have et : (m.texts.map V.str) ++ [V.str (Txt.join (Str.ofString "") (m.heat.map Mc.zbz))] = (m.texts ++ [Mc.zaM m.heat]).map V.str:=by
      rw [List.map_append]
      rfl
     have M4 : MA a c (upd H3 A.t (.lst ((m.texts.map V.str) ++ [V.str (Txt.join (Str.ofString "") (m.heat.map Mc.zbz))]))) p A { m with togo:=m.togo - 1,texts:=m.texts ++ [Mc.zaM m.heat] }:=by
      rw [et]
      exact M3.setTxt M3.li.txt
     have st4 : Mc.Step p A H A (upd H3 A.t (.lst ((m.texts.map V.str) ++ [V.str (Txt.join (Str.ofString "") (m.heat.map Mc.zbz))]))):=(st2.trans (Mc.Step.of_same hs3)).trans (Mc.Step.lst (by unfold Mc.Adr.all; simp) M3.li.txt)
     generalize upd H3 A.t (.lst ((m.texts.map V.str) ++ [V.str (Txt.join (Str.ofString "") (m.heat.map Mc.zbz))])) = H4 at M4 st4 ⊢
     have I4:=M4.ins
     obtain ⟨hw,hw1,hw2⟩:=M4.li.het
     have hw2 : Paired (Mc.zcn H4) hw m.heat:=hw2
     have hwl:=Paired.length hw2
     obtain ⟨bv,hb1,hb2⟩:=M4.li.bar
     have hbl:=Paired.length hb2
     have hbl : bv.length = m.bar.length:=hbl
     walk_at "rd"
     refine ⟨.inl ⟨rfl,_,SqL.of hb1⟩,?_⟩
     walk_at "rd"
     refine ⟨⟨_,SqL.of hw1⟩,fun D2 hD2=>?_⟩
     refine zaI (a:=A.h) (xs:=hw) (fun i ys σ H5=>∃ (v2 : Option V),Paired (Lan.zbS H5) ys (Mc.mats (m.heat.take i)) /\ σ = [some (.ref p),v2] /\ Same H4 H5 /\ H5 D2 = some (.lst ys))
      ?_ ?_ ?_ ?_
     ·exact ⟨none,.nil,rfl,zaf hD2 _,upd_same⟩
     ·rintro i ys σ H5 hi ⟨v2,_,_,hs,_⟩
      exact hs.seq (SqL.of hw1)
     ·rintro i y ys σ H5 hy hil ⟨v2,hp5,rfl,hs,hh5⟩
      obtain ⟨pt,hpt,hpa⟩:=Mc.zhr hw2 hy
      have hpa5:=Mc.zeX (Mc.Keep.of_same (S:=fun _=>True) hs) hpa
      have hmem:=List.mem_of_getElem? hpt
      have hlen : ys.length <= 100000:=by
       have h1:=Paired.length hp5
       have h2:=Mc.zgf (m.heat.take i)
       rw [List.length_take] at h2
       omega
      walk_at "rd"
      refine ⟨_,_,Mc.zjb hpa5 (fun x e=>O.hlay x (e ▸ hmem)),.str _ (by decide +kernel),by show min _ 0 <= 64; omega,?_⟩
      refine ⟨_,rfl,?_⟩
      cases pt with
      | none =>
        have e : (if true = true then !PyData.eqv (Mc.zen none) (.str (Str.ofString " ")) else PyData.eqv (Mc.zen none) (.str (Str.ofString " "))) = false:=by
         show (!PyData.eqv (.str " ") (.str " ")) = false
         rw [Mc.zmp]
         rfl
        rw [e]
        refine iteF ?_
        refine ziS hil ⟨_,?_,rfl,hs,hh5⟩
        rw [Mc.zgH hpt,Option.toList_none,List.append_nil]
        exact hp5
      | some x =>
        have e : (if true = true then !PyData.eqv (Mc.zen (some x)) (.str (Str.ofString " ")) else PyData.eqv (Mc.zen (some x)) (.str (Str.ofString " "))) = true:=rfl
        rw [e]
        refine iteT ?_
        walk_at "rd"
        refine zcz hil hh5 hlen ⟨_,?_,rfl,zan hs hD2,upd_same⟩
        rw [Mc.zgH hpt]
        exact Paired.snoc (Lan.zcr hp5 hh5) (Mc.zdF (Mc.Keep.lst hh5) hpa5)
     ·rintro ys σ H5 ⟨v2,hp5,rfl,hs5,hh5⟩
      rw [hwl,List.take_of_length_le (Nat.le_refl _)] at hp5
      have M5:=M4.same hs5
      have hyl:=Paired.length hp5
      have hml:=Mc.zgf m.heat
      refine ⟨A.b,D2,bv,ys,rfl,rfl,hs5 _ _ hb1,hh5,zdq (by omega),?_⟩
      have hb5:=Lan.zdM hb2 hs5
      have M6 : MA a c (upd H5 A.b (.lst (bv ++ ys))) p A { m with togo:=m.togo - 1,texts:=m.texts ++ [Mc.zaM m.heat],bar:=m.bar ++ Mc.mats m.heat }:=M5.setBar (hs5 _ _ hb1) (zjA hb5 hp5)
      have st6 : Mc.Step p A H A (upd H5 A.b (.lst (bv ++ ys))):=(st4.trans (Mc.Step.of_same hs5)).trans (Mc.Step.lst (by unfold Mc.Adr.all; simp) (hs5 _ _ hb1))
      generalize upd H5 A.b (.lst (bv ++ ys)) = H6 at M6 st6 ⊢
      walk_at "rd"
      refine fun e7 he7=>?_
      have hs7:=zaf he7 (.lst [])
      have M7:=M6.same hs7
      have I7:=M7.ins
      have h77 : upd H6 e7 (.lst []) e7 = some (.lst []):=upd_same
      have hnew:=M6.new he7
      generalize upd H6 e7 (.lst []) = H7 at hs7 M7 I7 h77 ⊢
      walk_at "rd"
      refine fun H8 I8 k8=>?_
      have I8 : IA a H8 p (Mc.vals c { A with h:=e7 } { m with togo:=m.togo - 1,texts:=m.texts ++ [Mc.zaM m.heat],bar:=m.bar ++ Mc.mats m.heat,heat:=[] }):=I8
      have st8:=(st6.trans (Mc.Step.of_same hs7)).trans (Mc.Step.flds I7 I8 k8)
      exact q _ H8 (Mc.Mac.fields I7 I8 k8 ⟨M7.li.rows,M7.li.lan,M7.li.lns,M7.li.lin,⟨[],h77,.nil⟩,M7.li.bar,M7.li.txt⟩ (Mc.nd_h M7.nd hnew)) (st8.to (Mc.zvk (st6.free he7)))
   ·rw [if_neg ht] at q
    rw [decide_eq_false ht]
    refine iteF ?_
    exact q A H2 M2 st2
theorem zdh (T : Tx K mg a) : FnOk P w K mg base CX0 1 a.f_Machine_send_line a.d_Machine_send_line ["self"] (ziY a Mc.send):=by
 refine T.Machine_send_line.fn.ok zdk (fun vs H Q E h=>?_) (fun cdv A outer s H vs Q E hr h=>?_)
 ·obtain ⟨p,A,c,m,rfl,_⟩:=h
  rfl
 obtain ⟨p,A,c,m,rfl,M,O,q⟩:=h
 have I:=M.ins
 refine ⟨_,(zae (zbp (zao (keqD K rfl hr.units) (pfld (K:=K) rfl T.Machine.cl T.n_Machine_heated zat (pv 0)) (zaE zad) (zap _)) (zab (zbm (K:=K) rfl T.Machine.cl T.n_Machine_heated zat (pv 0) (pfld (K:=K) rfl T.Machine.cl T.n_Machine_line zaT (pv 0)))
  (zab (zbm (K:=K) rfl T.Machine.cl T.n_Machine_to_go zaN (pv 0) (pfld (K:=K) rfl T.Machine.cl T.n_Machine_casting zbF (pv 0)))
  (zab (zbm (K:=K) rfl T.Machine.cl T.n_Machine_line zaT (pv 0) (zaE zad))
  (zae (zbm (K:=K) rfl T.Machine.cl T.n_Machine_struck zaz (pv 0) (zar zbs (pfld (K:=K) rfl T.Machine.cl T.n_Machine_struck zaz (pv 0)) zag)))))) zaB)),?_⟩
 walk_at "rd"
 refine fun e he=>?_
 have hs1:=zaf he (.lst [])
 have M1:=M.same hs1
 refine ⟨_,_,M1.li.het.den O.hlay,Mc.zcD upd_same,Mc.zcA _,?_⟩
 rw [Mc.zcx Mc.zen m.heat]
 generalize upd H e (.lst []) = H1 at hs1 M1 ⊢
 have I1:=M1.ins
 refine ⟨_,rfl,?_⟩
 unfold Mc.send at q
 cases hh : m.heat.isEmpty with
 | false =>
   rw [if_neg (by rw [hh]; decide)] at q
   refine iteF ?_
   exact q A H1 M1 (Mc.Step.of_same hs1)
 | true =>
   rw [if_pos hh] at q
   refine iteT ?_
   walk_at "rd"
   refine fun H2 I2 k2=>?_
   walk_at "rd"
   refine fun H3 I3 k3=>?_
   walk_at "rd"
   refine fun e4 he4=>?_
   have hs4:=zaf he4 (.lst [])
   have h44 : upd H3 e4 (.lst []) e4 = some (.lst []):=upd_same
   have I4:=I3.same hs4
   have k43 : ∀ b o,H3 b = some o -> upd H3 e4 (.lst []) b = some o:=hs4
   generalize upd H3 e4 (.lst []) = H4 at hs4 h44 I4 k43 ⊢
   walk_at "rd"
   refine fun H5 I5 k5=>?_
   walk_at "rd"
   refine fun H6 I6 k6=>?_
   have I6 : IA a H6 p (Mc.vals c { A with h:=A.l,l:=e4 } { m with heat:=m.line,togo:=c.cast,line:=[],at_:=m.at_ + 1 }):=by
    have e : ((m.at_ : Int) + 1) = ((m.at_ + 1 : Nat) : Int):=by omega
    have I6 : IA a H6 p [some (.ref A.L),some (.ref A.c),some (.str c.keys),some (.int ((m.at_ : Int) + 1)),some (.int c.cast),some (.ref e4),some (.ref A.l),some (.int c.cast),some (.ref A.b),some (.ref A.t),some (.int m.done),some (.int m.waits)]:=I6
    rw [e] at I6
    exact I6
   have k3' : ∀ b,b ≠ p -> H3 b = H1 b:=fun b hb=>(k3 b hb).trans (k2 b hb)
   have k6' : ∀ b,b ≠ p -> H6 b = H4 b:=fun b hb=>(k6 b hb).trans (k5 b hb)
   have M3 : Mc.Lists c H3 A m:=M1.li.keep (by obtain ⟨_,_,z,_⟩:=I1; exact Mc.Keep.fld z k3') (M1.pne)
   have M4 : Mc.Lists c H4 A m:=M3.keep (Mc.Keep.of_same (S:=fun _=>True) hs4) fun _ _=>trivial
   have hnew : e4 ∉ A.all:=fun z=>by
    obtain ⟨xs,ex⟩:=M3.is e4 z
    rw [he4] at ex
    cases ex
   have st3:=(Mc.Step.of_same (p:=p) (A:=A) hs1).trans (Mc.Step.flds I1 I3 k3')
   have st6:=(st3.trans (Mc.Step.of_same hs4)).trans (Mc.Step.flds I4 I6 k6')
   exact q _ H6 (Mc.Mac.fields I4 I6 k6' ⟨M4.rows,M4.lan,M4.lns,⟨[],h44,.nil⟩,M4.lin,M4.bar,M4.txt⟩ (Mc.nd_s M.nd hnew)) (st6.to (Mc.zuD (st3.free he4)))
def znN (a : Ad) : Sp:=fun vs H Q _=>∃ (p : Addr) (A : Mc.Adr) (c : Mc.Cf) (m : Mc.Ms) (v : V) (pt : Mc.Part),vs = [.ref p,v] /\ MA a c H p A m /\ Mc.zcn H v pt /\ m.line.length <= 99999 /\ ∀ A' H',MA a c H' p A' (Mc.take m pt) -> Mc.Step p A H A' H' -> Q .non H'
theorem zeE (T : Tx K mg a) : FnOk P w K mg base CX0 1 a.f_Machine_take a.d_Machine_take ["self","part"] (znN a):=by
 refine T.Machine_take.fn.ok zeT (fun vs H Q E h=>?_) (fun cdv A outer s H vs Q E hr h=>?_)
 ·obtain ⟨p,A,c,m,v,pt,rfl,_⟩:=h
  rfl
 obtain ⟨p,A,c,m,v,pt,rfl,M,hpt,hsz,q⟩:=h
 have I:=M.ins
 obtain ⟨lv,hl1,hl2⟩:=M.li.lin
 have hll:=Paired.length hl2
 refine ⟨_,(zab (zaH (zbo K rfl PySem.F.plainAttrs_list PySem.F.slot_list_append PySem.F.type_list_append zaY (pfld (K:=K) rfl T.Machine.cl T.n_Machine_line zaT (pv 0)) (zaa (pv 1) zad)))
  (zae (zbm (K:=K) rfl T.Machine.cl T.n_Machine_struck zaz (pv 0) (zar zbs (pfld (K:=K) rfl T.Machine.cl T.n_Machine_struck zaz (pv 0)) zag)))),?_⟩
 walk_at "rd"
 refine ⟨.inl ⟨rfl,_,SqL.of hl1⟩,?_⟩
 walk_at "rd"
 refine ⟨A.l,lv,v,rfl,rfl,hl1,zby (by omega),?_⟩
 have M2 : MA a c (upd H A.l (.lst (lv ++ [v]))) p A { m with line:=m.line ++ [pt] }:=M.setLine hl1 (Paired.snoc hl2 hpt)
 have st2 : Mc.Step p A H A (upd H A.l (.lst (lv ++ [v]))):=Mc.Step.lst (by unfold Mc.Adr.all; simp) hl1
 generalize upd H A.l (.lst (lv ++ [v])) = H2 at M2 st2 ⊢
 have I2:=M2.ins
 walk_at "rd"
 refine fun H3 I3 k3=>?_
 have I3 : IA a H3 p (Mc.vals c A (Mc.take m pt)):=by
  have e : ((m.at_ : Int) + 1) = ((m.at_ + 1 : Nat) : Int):=by omega
  have I3 : IA a H3 p [some (.ref A.L),some (.ref A.c),some (.str c.keys),some (.int ((m.at_ : Int) + 1)),some (.int c.cast),some (.ref A.l),some (.ref A.h),some (.int m.togo),some (.ref A.b),some (.ref A.t),some (.int m.done),some (.int m.waits)]:=I3
  rw [e] at I3
  exact I3
 exact q A H3 (M2.setF I3 k3 rfl rfl rfl rfl rfl) (st2.trans (Mc.Step.flds I2 I3 k3))
theorem zdf (T : Tx K mg a) : FnOk P w K mg base CX0 3 a.f_Machine_move_line a.d_Machine_move_line ["self"] (ziY a Mc.strike):=by
 have G_Machine_next_key:=zbv (P:=P) (w:=w) (base:=base) T
 have G_Machine_send_line:=zdh (P:=P) (w:=w) (base:=base) T
 have G_Machine_take:=zeE (P:=P) (w:=w) (base:=base) T
 have G_Machine_lacks_matrix:=zbB (P:=P) (w:=w) (base:=base) T
 have G_channel_of:=zcF (P:=P) (w:=w) (base:=base) T
 refine T.Machine_move_line.fn.ok zdj (fun vs H Q E h=>?_) (fun cdv A outer s H vs Q E hr h=>?_)
 ·obtain ⟨p,A,c,m,rfl,_⟩:=h
  rfl
 obtain ⟨p,A,c,m,rfl,M,O,q⟩:=h
 have I:=M.ins
 have hsz:=O.sz
 have hkl:=Mc.ziz O
 unfold Mc.cnt at hsz
 refine ⟨_,(zab (zau (i:=1) zdj.nd rfl (Or.inl rfl) (zbV (K:=K) rfl T.Machine.cl T.Machine_next_key G_Machine_next_key hr zbw (pv 0)))
  (zae (zbp (zao zcU (pv 1) (zdy (v:=.str "/") rfl T.g_SEND_KEY ⟨_,rfl⟩) (zap _)) (zae (zaH (zbV (K:=K) rfl T.Machine.cl T.Machine_send_line G_Machine_send_line hr zdi (pv 0)))) (zae (zbp (zao zcU (pv 1) (zdy (v:=.str " ") rfl T.g_GAP_KEY ⟨_,rfl⟩) (zap _)) (zae (zaH (zpD (K:=K) rfl T.Machine.cl T.Machine_take G_Machine_take hr zcT (pv 0) (zaa (zdy (v:=.str " ") rfl T.g_WEDGE ⟨_,rfl⟩) zad)))) (zae (zbp (zcg (zbV (K:=K) rfl T.Machine.cl T.Machine_lacks_matrix G_Machine_lacks_matrix hr zbI (pv 0))) (zae (zbm (K:=K) rfl T.Machine.cl T.n_Machine_waits zbu (pv 0) (zar zbs (pfld (K:=K) rfl T.Machine.cl T.n_Machine_waits zbu (pv 0)) zag))) (zae (zbp (zao zfd (pv 1) zea (zap _)) (zae (zaH (zpD (K:=K) rfl T.Machine.cl T.Machine_take G_Machine_take hr zcT (pv 0) (zaa (zbo K rfl PySem.F.plainAttrs_list PySem.F.slot_list_pop PySem.F.type_list_pop zjz (zaK (zas K rfl) (pfld (K:=K) rfl T.Machine.cl T.n_Machine_lying zaO (pv 0)) (zaQ T.channel_of G_channel_of hr rfl (zaa (pfld (K:=K) rfl T.Machine.cl T.n_Machine_case zbb (pv 0)) (zaa (pv 1) zad))) (fun _ _=>rfl)) (zaa zag zad)) zad)))) zaB))))))))),?_⟩
 walk_at "rd"
 refine ⟨p,A,c,m,rfl,M,O,?_⟩
 unfold Mc.strike at q
 walk_at "rd"
 cases hk : Mc.key c m with
 | none =>
   rw [hk] at q
   have es:=Mc.zgX hk
   have hla : Mc.zaU c m = false:=Mc.zdc (by rw [es]; exact O.cf.noWedge.2.2)
   rw [es,show decide (V.str (Str.ofString "") = V.str (Str.ofString "/")) = false from by rw [Cs.strV]; decide +kernel]
   refine iteF ?_
   walk_at "rd"
   refine ⟨p,A,c,m,rfl,M,O,fun H1 hs1=>?_⟩
   refine ⟨_,rfl,?_⟩
   rw [hla]
   refine iteF ?_
   walk_at "rd"
   try rw [show (!decide (V.str (Str.ofString "") = V.str (Str.ofString ""))) = false from by rw [decide_eq_true rfl]; rfl]
   try refine iteF ?_
   exact q A H1 (M.same hs1) (Mc.Step.of_same hs1)
 | some k =>
   rw [hk] at q
   have q : ∀ (A' : Mc.Adr) (H' : Hp),MA a c H' p A' (if k = 47 then Mc.send c m else if k = 32 then Mc.take m none else if Mc.zaU c m = true then { m with waits:=m.waits + 1 } else match Cs.place c.rs (sg k) with
    | some j=>Mc.pick m j
    | none=>m) -> Mc.Step p A H A' H' -> Q V.non H':=q
   have es:=Mc.zhJ hk
   have d47 : decide (V.str (sg k) = V.str (Str.ofString "/")) = decide (k = 47):=Mc.sgD (d:=47)
   have d32 : decide (V.str (sg k) = V.str (Str.ofString " ")) = decide (k = 32):=Mc.sgD (d:=32)
   rw [es,d47]
   by_cases h47 : k = 47
   ·rw [if_pos h47] at q
    rw [decide_eq_true h47]
    refine iteT ?_
    walk_at "rd"
    exact ⟨p,A,c,m,rfl,M,O,q⟩
   ·rw [if_neg h47] at q
    rw [decide_eq_false h47]
    refine iteF ?_
    walk_at "rd"
    rw [d32]
    by_cases h32 : k = 32
    ·rw [if_pos h32] at q
     rw [decide_eq_true h32]
     refine iteT ?_
     walk_at "rd"
     exact ⟨p,A,c,m,_,none,rfl,M,rfl,by omega,q⟩
    ·rw [if_neg h32] at q
     rw [decide_eq_false h32]
     refine iteF ?_
     walk_at "rd"
     refine ⟨p,A,c,m,rfl,M,O,fun H1 hs1=>?_⟩
     have M1:=M.same hs1
     have I1:=M1.ins
     refine ⟨_,rfl,?_⟩
     cases hla : Mc.zaU c m with
     | true =>
       rw [if_pos hla] at q
       refine iteT ?_
       walk_at "rd"
       refine fun H2 I2 k2=>?_
       have I2 : IA a H2 p (Mc.vals c A { m with waits:=m.waits + 1 }):=I2
       exact q A H2 (M1.setF I2 k2 rfl rfl rfl rfl rfl) ((Mc.Step.of_same hs1).trans (Mc.Step.flds I1 I2 k2))
     | false =>
       rw [if_neg (by rw [hla]; decide)] at q
       refine iteF ?_
       obtain ⟨j,hj,x,r,hx⟩:=Mc.znJ O hk h47 h32 hla
       rw [hj] at q
       have q : ∀ (A' : Mc.Adr) (H' : Hp),MA a c H' p A' (Mc.pick m j) -> Mc.Step p A H A' H' -> Q V.non H':=q
       have ep : Mc.pick m j = Mc.take { m with lanes:=m.lanes.set j r } (some x):=by unfold Mc.pick; rw [hx]
       rw [ep] at q
       walk_at "rd"
       obtain ⟨ws,hw1,hw2⟩:=M1.li.rows
       refine ⟨A.c,_,c.rs,rfl,⟨ws,SqL.of hw1,hw2⟩,fun H2 hs2=>?_⟩
       rw [hj]
       have M2:=M1.same hs2
       have hjl:=Cs.zcX hj
       obtain ⟨lq,hlq,hl5⟩:=Cs.zdA M2.li.lns hx
       obtain ⟨ys,hy1,hy2⟩:=hl5
       obtain ⟨v,vs,rfl,hv,hvs⟩ : ∃ v vs,ys = v :: vs /\ Lan.zbS H2 v x /\ Paired (Lan.zbS H2) vs r:=by
        cases hy2 with
        | cons h1 h2=>exact ⟨_,_,rfl,h1,h2⟩
       have hat : atI (A.ls.map V.ref) (j : Int) = some (.ref lq):=zaF (by rw [List.getElem?_map,hlq]; rfl)
       refine ⟨A.L,_,(j : Int),_,rfl,rfl,SqL.of M2.li.lan,hat,?_⟩
       refine ⟨.inl ⟨rfl,_,SqL.of hy1⟩,?_⟩
       walk_at "rd"
       refine ⟨lq,_,0,0,v,rfl,rfl,hy1,by decide,by decide,Mc.ix0 _ _,rfl,?_⟩
       have M3 : MA a c (upd H2 lq (.lst vs)) p A { m with lanes:=m.lanes.set j r }:=M2.setLane hlq hy1 hvs
       have st3 : Mc.Step p A H A (upd H2 lq (.lst vs)):=(Mc.Step.of_same (hs1.trans hs2)).trans (Mc.Step.lst (by unfold Mc.Adr.all; simp [List.mem_of_getElem? hlq]) hy1)
       have hv3:=Mc.zdF (Mc.Keep.lst (o:=.lst vs) hy1) hv
       have eer : ((v :: vs).eraseIdx 0) = vs:=rfl
       rw [eer]
       generalize upd H2 lq (.lst vs) = H3 at M3 st3 hv3 ⊢
       exact ⟨p,A,c,_,v,some x,rfl,M3,hv3,by show m.line.length <= 99999; omega,fun A' H' M' s'=>q A' H' M' (st3.trans s')⟩
def znY (a : Ad) : Sp:=fun vs H Q _=>∃ (p : Addr) (A : Mc.Adr) (c : Mc.Cf) (m : Mc.Ms),vs = [.ref p] /\ MA a c H p A m /\ Mc.Ok c m /\ (Mc.still c m = true -> ∀ H',Same H H' -> Q (.bl false) H') /\ (Mc.still c m = false -> ∀ A' H',MA a c H' p A' (Mc.tick c m) -> Mc.Step p A H A' H' -> Q (.bl true) H')
theorem zeV (T : Tx K mg a) : FnOk P w K mg base CX0 4 a.f_Machine_tick a.d_Machine_tick ["self"] (znY a):=by
 have G_Machine_resting:=zcf (P:=P) (w:=w) (base:=base) T
 have G_Machine_stuck:=zek (P:=P) (w:=w) (base:=base) T
 have G_Machine_move_bar:=zdz (P:=P) (w:=w) (base:=base) T
 have G_Machine_move_caster:=zcK (P:=P) (w:=w) (base:=base) T
 have G_Machine_move_line:=zdf (P:=P) (w:=w) (base:=base) T
 refine T.Machine_tick.fn.ok zeW (fun vs H Q E h=>?_) (fun cdv A outer s H vs Q E hr h=>?_)
 ·obtain ⟨p,A,c,m,rfl,_⟩:=h
  rfl
 obtain ⟨p,A,c,m,rfl,M,O,qf,qt⟩:=h
 have I:=M.ins
 unfold Mc.still at qf qt
 refine ⟨_,(zab (zbp (PW.pt (zoB (zcg (zbV (K:=K) rfl T.Machine.cl T.Machine_resting G_Machine_resting hr zce (pv 0))) (zlA (zcg (zbV (K:=K) rfl T.Machine.cl T.Machine_stuck G_Machine_stuck hr zeh (pv 0)))))) (zae (zav zeg)) zaB)
  (zab (zaH (zbV (K:=K) rfl T.Machine.cl T.Machine_move_bar G_Machine_move_bar hr zdw (pv 0)))
  (zab (zaH (zbV (K:=K) rfl T.Machine.cl T.Machine_move_caster G_Machine_move_caster hr zcJ (pv 0)))
  (zab (zaH (zbV (K:=K) rfl T.Machine.cl T.Machine_move_line G_Machine_move_line hr zdg (pv 0)))
  (zab (zbm (K:=K) rfl T.Machine.cl T.n_Machine_done zaS (pv 0) (zar zbs (pfld (K:=K) rfl T.Machine.cl T.n_Machine_done zaS (pv 0)) zag))
  (zae (zav zeg))))))),?_⟩
 walk_at "rd"
 refine ⟨p,A,c,m,rfl,M,O,fun H1 hs1=>?_⟩
 have M1:=M.same hs1
 have I1:=M1.ins
 refine ⟨_,rfl,?_⟩
 cases hrs : Mc.zbn c m with
 | true =>
   refine iteT ?_
   exact qf (by rw [hrs]; rfl) H1 hs1
 | false =>
   refine iteF ?_
   walk_at "rd"
   refine ⟨p,A,c,m,rfl,M1,O,fun H2 hs2=>?_⟩
   have hs12:=hs1.trans hs2
   have M2:=M.same hs12
   have I2:=M2.ins
   refine ⟨_,rfl,?_⟩
   cases hst : Mc.zfp c m with
   | true =>
     refine iteT ?_
     exact qf (by rw [hrs,hst]; rfl) H2 hs12
   | false =>
     refine iteF ?_
     walk_at "rd"
     refine ⟨p,A,c,m,rfl,M2,O,fun A3 H3 M3 s3=>?_⟩
     have I3:=M3.ins
     walk_at "rd"
     refine ⟨p,A3,c,_,rfl,M3,O.fall,fun A4 H4 M4 s4=>?_⟩
     have I4:=M4.ins
     walk_at "rd"
     refine ⟨p,A4,c,_,rfl,M4,O.fall.cool,fun A5 H5 M5 s5=>?_⟩
     have I5:=M5.ins
     walk_at "rd"
     refine fun H6 I6 k6=>?_
     have I6 : IA a H6 p (Mc.vals c A5 (Mc.tick c m)):=I6
     exact qt (by rw [hrs,hst]; rfl) A5 H6 (M5.setF I6 k6 rfl rfl rfl rfl rfl) (((((Mc.Step.of_same hs12).trans s3).trans s4).trans s5).trans (Mc.Step.flds I5 I6 k6))
def zqN (a : Ad) : Sp:=fun vs H Q _=>∃ (p : Addr) (A : Mc.Adr) (c : Mc.Cf) (m : Mc.Ms),vs = [.ref p] /\ MA a c H p A m /\ Mc.Ok c m /\ ∀ A' H',MA a c H' p A' (Mc.fin c m) -> Mc.Step p A H A' H' -> Q (.int ((Mc.fin c m).done - m.done)) H'
theorem zfj (T : Tx K mg a) : FnOk P w K mg base CX0 5 a.f_Machine_run a.d_Machine_run ["self"] (zqN a):=by
 have G_Machine_tick:=zeV (P:=P) (w:=w) (base:=base) T
 refine T.Machine_run.fn.ok zfm (fun vs H Q E h=>?_) (fun cdv A outer s H vs Q E hr h=>?_)
 ·obtain ⟨p,A,c,m,rfl,_⟩:=h
  rfl
 obtain ⟨p,A,c,m,rfl,M,O,q⟩:=h
 have I:=M.ins
 refine ⟨_,(zab (zau (i:=1) zfm.nd rfl (Or.inl rfl) (pfld (K:=K) rfl T.Machine.cl T.n_Machine_done zaS (pv 0)))
  (zab (zey PassesOwn.never (zcg (zbV (K:=K) rfl T.Machine.cl T.Machine_tick G_Machine_tick hr zeM (pv 0))) (zae zou))
  (zae (zav (zar zdn (pfld (K:=K) rfl T.Machine.cl T.n_Machine_done zaS (pv 0)) (pv 1)))))),?_⟩
 walk_at "rd"
 refine ⟨fun n σ H1=>∃ A1 m1,σ = [some (.ref p),some (.int m.done)] /\ MA a c H1 p A1 m1 /\ Mc.Ok c m1 /\ Mc.Step p A H A1 H1 /\ Mc.fin c m1 = Mc.fin c m /\ Mc.work c m1 = n,⟨_,A,m,rfl,M,O,Mc.Step.of_same (Same.refl _),rfl,rfl⟩,?_⟩
 rintro n σ H1 ⟨A1,m1,rfl,M1,O1,st1,hf,rfl⟩
 have I1:=M1.ins
 refine ⟨_,rfl,?_⟩
 refine ⟨_,_,rfl,I1,?_⟩
 refine ⟨p,A1,c,m1,rfl,M1,O1,fun hs H2 hs2=>?_,fun hs A2 H2 M2 st2=>?_⟩
 ·refine ⟨_,rfl,?_⟩
  refine iteF ?_
  have M2:=M1.same hs2
  have I2:=M2.ins
  walk_at "rd"
  have e:=Mc.zeN hs
  rw [hf] at e
  rw [e] at q
  exact q A1 H2 M2 (st1.trans (Mc.Step.of_same hs2))
 ·refine ⟨_,rfl,?_⟩
  refine iteT ?_
  refine ⟨fun σ' H'=>σ' = [some (.ref p),some (.int m.done)] /\ H' = H2,?_,⟨rfl,rfl⟩⟩
  rintro σ' H' ⟨rfl,rfl⟩
  exact ⟨_,Mc.zcS O1 hs,A2,_,rfl,M2,O1.tick,st1.trans st2,(Mc.zlf O1 hs).trans hf,rfl⟩
def znK (a : Ad) (F : Mc.Cf -> Mc.Ms -> Hp -> Hp -> Addr -> Prop) : Sp:=fun vs H Q _=>∃ (p : Addr) (A : Mc.Adr) (c : Mc.Cf) (m : Mc.Ms),vs = [.ref p] /\ MA a c H p A m /\ Mc.Ok c m /\ ∀ r H',H r = none -> Same H H' -> F c m H H' r -> Q (.ref r) H'
/-- new lists of matrices -/
def zoD (H H' : Hp) (r : Addr) (ms : List (List Mc.Mx)) : Prop:=∃ ls : List Addr,H' r = some (.lst (ls.map V.ref)) /\ Paired (Mc.LnAt H') ls ms /\ (r :: ls).Nodup /\ ∀ z ∈ ls,H z = none
theorem zdx (T : Tx K mg a) : FnOk P w K mg base CX0 1 a.f_Machine_channels a.d_Machine_channels ["self"] (znK a fun c m H H' r=>zoD H H' r m.lanes):=by
 refine T.Machine_channels.fn.ok zdt (fun vs H Q E h=>?_) (fun cdv A outer s H vs Q E hr h=>?_)
 ·obtain ⟨p,A,c,m,rfl,_⟩:=h
  rfl
 obtain ⟨p,A,c,m,rfl,M,O,q⟩:=h
 have I:=M.ins
 have hll:=Paired.length M.li.lns
 have hln:=O.ln
 have hfew:=O.cf.few
 refine ⟨_,(zae (zav (zbg rfl (zaC K rfl (pfld (K:=K) rfl T.Machine.cl T.n_Machine_lying zaO (pv 0))) (BlkOk.of (N':=["self","matrices"]) (ms:=[]) (k:=1) (by rfl)) (fun _ _ _ _ _=>(zah (i:=1) (show List.Nodup (["self","matrices"] : List Str) from by decide +kernel) rfl (Or.inl rfl))) (fun _ _ _ _ _=>zbK) (fun _ _ _ _ _=>(zdI (zeu K rfl) rfl T.b_list zgu (zaa (pv 1) zad)))))),?_⟩
 walk_at "rd"
 refine ⟨⟨_,SqL.of M.li.lan⟩,fun D hD=>?_⟩
 refine zaI (a:=A.L) (xs:=A.ls.map V.ref) (fun i ys σ H2=>∃ (v2 : Option V) (ls : List Addr),ys = ls.map V.ref /\ σ = [some (.ref p),v2] /\ Same H H2 /\ H2 D = some (.lst ys) /\ Paired (Mc.LnAt H2) ls (m.lanes.take i) /\ (D :: ls).Nodup /\ ∀ z ∈ ls,H z = none)
  ?_ ?_ ?_ ?_
 ·exact ⟨none,[],rfl,rfl,zaf hD _,upd_same,.nil,by simp,fun z hz=>nomatch hz⟩
 ·rintro i ys σ H2 hi ⟨_,_,_,_,hs,_⟩
  exact hs.seq (SqL.of M.li.lan)
 ·rintro i y ys σ H2 hy hil ⟨v2,ls,rfl,rfl,hs,hh,hp,hn,hf⟩
  rw [List.getElem?_map] at hy
  obtain ⟨q1,hq1,rfl⟩:=Option.map_eq_some_iff.mp hy
  obtain ⟨l,hl,xs,hx1,hx2⟩:=Cs.zaX M.li.lns hq1
  have hlp:=Paired.length hp
  rw [List.length_take] at hlp
  rw [List.length_map] at hil
  walk_at "rd"
  refine ⟨q1,xs,rfl,.inl (SqL.of (hs _ _ hx1)),fun r hr=>?_⟩
  have hsr:=zaf hr (.lst xs)
  have hrr : upd H2 r (.lst xs) r = some (.lst xs):=upd_same
  generalize upd H2 r (.lst xs) = H3 at hsr hrr ⊢
  have hh3:=hsr _ _ hh
  have hrD : r ≠ D:=fun e=>by rw [e,hh] at hr; cases hr
  have kp : Mc.Keep (fun b=>b ≠ D) H3 (upd H3 D (.lst (ls.map V.ref ++ [V.ref r]))):=Mc.Keep.lst hh3
  obtain ⟨hn1,hn2⟩:=List.nodup_cons.mp hn
  have hrl : r ∉ ls:=fun z=>by
   obtain ⟨k,hk,e⟩:=List.getElem_of_mem z
   obtain ⟨_,_,ws,hw,_⟩:=Cs.zaX hp (List.getElem?_eq_getElem hk)
   rw [e,hr] at hw
   cases hw
  have hm3:=Mc.zcm (Mc.Keep.of_same (S:=fun _=>True) (hs.trans hsr)) hx2
  have h33:=Mc.zbH (Mc.Keep.of_same (S:=fun _=>True) hsr) (fun _ _=>trivial) hp
  refine zcz (by rw [List.length_map]; exact hil) hh3 (by rw [List.length_map]; omega) ⟨_,ls ++ [r],by rw [List.map_append]; rfl,rfl,zan (hs.trans hsr) hD,upd_same,?_,?_,?_⟩
  ·rw [List.take_add_one,hl]
   exact Paired.snoc (Mc.zbH kp (fun z hz e=>hn1 (e ▸ hz)) h33) ⟨xs,kp _ _ hrr (.inl hrD),Mc.zcm kp hm3⟩
  ·rw [List.nodup_cons,List.nodup_append]
   refine ⟨fun z=>?_,hn2,by simp,fun x hx y hy e=>?_⟩
   ·rcases List.mem_append.mp z with z | z
    ·exact hn1 z
    ·exact hrD (List.mem_singleton.mp z).symm
   ·rw [List.mem_singleton.mp hy] at e
    exact hrl (e ▸ hx)
  ·intro z hz
   rcases List.mem_append.mp hz with hz | hz
   ·exact hf z hz
   ·rw [List.mem_singleton.mp hz]
    exact hs.free hr
 ·rintro ys σ H2 ⟨v2,ls,rfl,rfl,hs,hh,hp,hn,hf⟩
  rw [List.length_map,hll,List.take_of_length_le (Nat.le_refl _)] at hp
  exact q D H2 hD hs ⟨ls,hh,hp,hn,hf⟩
/-- whether one more matrix of a channel can be broken so -/
def zax (rs : List Cs.Row) (ah : List Int) (ch te : Int) : Bool :=
 if 0 <= ch /\ ch < rs.length then (match rs[ch.toNat]? with
  | some r=>decide ((ah.count ch : Int) < r.n) && decide (1 <= te) && decide (Builtin.bitAnd r.t te = te)
  | none=>false)
 else false
def zhb (K : PySem.W.Frag) : Sp:=fun vs H Q _=>∃ (c h : Addr) (ch te : Int) (rs : List Cs.Row) (ah : List Int),vs = [.ref c,.ref h,.int ch,.int te] /\ Cs.zeB K H c rs /\ H h = some (.lst (ah.map V.int)) /\ rs.length <= 1000 /\ ∀ H',Same H H' -> Q (.bl (zax rs ah ch te)) H'
theorem zhC (T : Tx K mg a) : FnOk P w K mg base CX0 2 a.f_can_break a.d_can_break ["case","ahead","channel","teeth"] (zhb K):=by
 have G_has_all:=ziV (P:=P) (w:=w) (base:=base) T
 refine T.can_break.fn.ok zgR (fun vs H Q E h=>?_) (fun cdv A outer s H vs Q E hr h=>?_)
 ·obtain ⟨c,h,ch,te,rs,ah,rfl,_⟩:=h
  rfl
 obtain ⟨c,h,ch,te,rs,ah,rfl,⟨xs,hS,hpd⟩,hah,hrl,q⟩:=h
 have hxl:=Cs.zbC hpd
 have qf : zax rs ah ch te = false -> Q (.bl false) H:=fun e=>by have:=q H (Same.refl _); rw [e] at this; exact this
 refine ⟨_,(zab (zbp (zho (zms zrB zii zag (pv 2) (zaJ (zbf K rfl) rfl T.b_len zbY (zaa (pv 0) zad)))) (zae (zav zeg)) zaB)
  (zab (zeG (zaK (zas K rfl) (pv 0) (pv 2) (fun _ _=>rfl)) (zbj K rfl (n:=4) rfl (zaj (zah (i:=4) zgR.nd rfl (Or.inl rfl)) (zaj (zah (i:=5) zgR.nd rfl (Or.inl rfl)) (zaj (zah (i:=6) zgR.nd rfl (Or.inl rfl)) (zaj (zah (i:=7) zgR.nd rfl (Or.inl rfl)) zbl))))))
  (zae (zav (zcH (zbk zii (zbo K rfl PySem.F.plainAttrs_list PySem.F.slot_list_count PySem.F.type_list_count zfV (pv 1) (zaa (pv 2) zad)) (pv 7) (zap _)) (zcH (zbk zuu (pv 3) zag (zap _)) (zeb (zaQ T.has_all G_has_all hr rfl (zaa (pv 6) (zaa (pv 3) zad)))))))))),?_⟩
 refine ⟨_,rfl,?_⟩
 refine ⟨_,_,rfl,rfl,?_⟩
 refine ⟨_,rfl,?_⟩
 refine ite2 (fun c1=>?_) (fun c1=>?_)
 ·have c1 : 0 <= ch:=of_decide_eq_true c1
  refine ⟨_,rfl,?_⟩
  refine ⟨c,_,rfl,.inl hS,?_⟩
  refine ⟨_,_,rfl,rfl,?_⟩
  refine ⟨_,rfl,?_⟩
  by_cases c2 : ch < (xs.length : Int)
  ·rw [decide_eq_true c2]
   refine iteF ?_
   obtain ⟨k,rfl⟩:=Int.eq_ofNat_of_zero_le c1
   have hxk : xs[k]? = some (xs[k]'(by omega)):=List.getElem?_eq_getElem _
   obtain ⟨r,hrk,t,et,ht⟩:=Cs.zaX hpd hxk
   rw [et] at hxk
   have ek : atI xs (k : Int) = some (.ref t):=zaF hxk
   have eB : zax rs ah (k : Int) te = (decide ((ah.count (k : Int) : Int) < r.n) && decide (1 <= te) && decide (Builtin.bitAnd r.t te = te)):=by
    unfold zax
    rw [if_pos ⟨by omega,by omega⟩,Int.toNat_natCast,hrk]
   have q:=q H (Same.refl _)
   rw [eB] at q
   clear qf
   refine ⟨_,rfl,?_⟩
   refine ⟨_,rfl,?_⟩
   refine ⟨c,_,_,_,rfl,rfl,hS,ek,?_⟩
   clear ek
   refine ⟨_,_,rfl,SqT.of ht,rfl,?_⟩
   walk_at "tg"
   walk_at "tg"
   walk_at "tg"
   walk_at "tg"
   refine And.intro rfl ?_
   refine ⟨_,rfl,?_⟩
   refine ⟨.inl ⟨rfl,_,SqL.of hah⟩,?_⟩
   refine ⟨_,rfl,?_⟩
   refine ⟨h,ah,_,rfl,rfl,hah,?_⟩
   refine ⟨_,rfl,?_⟩
   refine ⟨_,_,rfl,rfl,?_⟩
   refine ⟨_,rfl,?_⟩
   by_cases c3 : (ah.count (k : Int) : Int) < r.n
   ·rw [decide_eq_true c3] at q ⊢
    refine iteT ?_
    refine ⟨_,rfl,?_⟩
    refine ⟨_,_,rfl,rfl,?_⟩
    refine ⟨_,rfl,?_⟩
    by_cases c4 : 1 <= te
    ·rw [decide_eq_true c4] at q ⊢
     refine iteT ?_
     refine ⟨_,rfl,?_⟩
     refine ⟨_,rfl,?_⟩
     exact ⟨r.t,te,rfl,q⟩
    ·rw [decide_eq_false c4] at q ⊢
     refine iteF ?_
     exact q
   ·rw [decide_eq_false c3] at q ⊢
    refine iteF ?_
    exact q
  ·rw [decide_eq_false c2]
   refine iteT ?_
   exact qf (by unfold zax; rw [if_neg (fun z=>c2 (by have:=z.2; omega))])
 ·have c1 : ¬ 0 <= ch:=fun z=>c1 (decide_eq_true z)
  try refine ⟨_,rfl,?_⟩
  try refine iteT ?_
  exact qf (by unfold zax; rw [if_neg (fun z=>c1 z.1)])
open Lan in
/-- matrices as they lie at first -/
def zaP (rs : List Cs.Row) : List (List Mx):=rs.map fun r=>List.replicate r.n.toNat (r.s,r.t)
open Lan in
def setLane (rs : List Cs.Row) (ls : List (List Mx)) (ah : List Int) (b : Int × Int) : List (List Mx) :=
 match rs[b.1.toNat]?,ls[b.1.toNat]? with
 | some r,some m=>ls.set b.1.toNat (m.set (ah.count b.1) (r.s,r.t - b.2))
 | _,_=>ls
open Lan in
def zlM (rs : List Cs.Row) (st : Option (List (List Mx) × List Int)) (b : Int × Int) : Option (List (List Mx) × List Int) :=
 st.bind fun s=>if zax rs s.2 b.1 b.2 = true then some (setLane rs s.1 s.2 b,s.2 ++ [b.1]) else none
open Lan in
def after (rs : List Cs.Row) (bs : List (Int × Int)) (k : Nat) : Option (List (List Mx) × List Int):=(bs.take k).foldl (zlM rs) (some (zaP rs,[]))
theorem zdS (rs : List Cs.Row) (bs : List (Int × Int)) : after rs bs 0 = some (zaP rs,[]):=rfl
theorem zdd {rs : List Cs.Row} {bs : List (Int × Int)} {k : Nat} {b : Int × Int} (h : bs[k]? = some b) : after rs bs (k + 1) = zlM rs (after rs bs k) b:=by
 unfold after
 rw [List.take_add_one,h]
 show List.foldl (zlM rs) _ (bs.take k ++ [b]) = _
 rw [List.foldl_append]
 rfl
open Lan in
/-- what is told of broken matrices -/
inductive Told40 (rs : List Cs.Row) (bs : List (Int × Int)) : Sum Nat (List (List Mx)) -> Prop
 | bad {k : Nat} {ls : List (List Mx)} {ah : List Int} {b : Int × Int} : after rs bs k = some (ls,ah) -> bs[k]? = some b -> zax rs ah b.1 b.2 = false -> Told40 rs bs (.inl k)
 | good {ls : List (List Mx)} {ah : List Int} : after rs bs bs.length = some (ls,ah) -> Told40 rs bs (.inr ls)
theorem zcl {rs : List Cs.Row} {bs : List (Int × Int)} {k : Nat} (h : after rs bs k = none) : ∀ j,k + j <= bs.length -> after rs bs (k + j) = none
 | 0,_=>h
 | j + 1,hj=>by
   have hlt : k + j < bs.length:=by omega
   rw [<- Nat.add_assoc,zdd (List.getElem?_eq_getElem hlt),zcl h j (by omega)]
   rfl
theorem zfZ {rs : List Cs.Row} {bs : List (Int × Int)} {k : Nat} {ls : List (List Lan.Mx)} {ah : List Int} {b : Int × Int} (h : after rs bs k = some (ls,ah)) (hb : bs[k]? = some b) (hc : zax rs ah b.1 b.2 = false) : after rs bs (k + 1) = none:=by
 rw [zdd hb,h]
 show (if zax rs ah b.1 b.2 = true then _ else none) = none
 rw [hc]
 rfl
theorem Told40.uniq {rs : List Cs.Row} {bs : List (Int × Int)} {a b : Sum Nat (List (List Lan.Mx))} (ha : Told40 rs bs a) (hb : Told40 rs bs b) : a = b:=by
 have lt : ∀ {k : Nat} {b : Int × Int},bs[k]? = some b -> k < bs.length:=fun h=>(List.getElem?_eq_some_iff.mp h).1
 cases ha with
 | bad h1 g1 c1 =>
   rename_i k ls ah b1
   have n1:=zfZ h1 g1 c1
   cases hb with
   | bad h2 g2 c2 =>
     rename_i k' ls' ah' b2
     have n2:=zfZ h2 g2 c2
     have l1:=lt g1
     have l2:=lt g2
     rcases Nat.lt_trichotomy k k' with z | z | z
     ·have:=zcl n1 (k' - (k + 1)) (by omega)
      rw [show k + 1 + (k' - (k + 1)) = k' by omega,h2] at this
      cases this
     ·rw [z]
     ·have:=zcl n2 (k - (k' + 1)) (by omega)
      rw [show k' + 1 + (k - (k' + 1)) = k by omega,h1] at this
      cases this
   | good h2 =>
     have l1:=lt g1
     have:=zcl n1 (bs.length - (k + 1)) (by omega)
     rw [show k + 1 + (bs.length - (k + 1)) = bs.length by omega,h2] at this
     cases this
 | good h1 =>
   cases hb with
   | bad h2 g2 c2 =>
     rename_i k' ls' ah' b2
     have l2:=lt g2
     have:=zcl (zfZ h2 g2 c2) (bs.length - (k' + 1)) (by omega)
     rw [show k' + 1 + (bs.length - (k' + 1)) = bs.length by omega,h1] at this
     cases this
   | good h2 =>
     rw [h1] at h2
     cases h2
     rfl
/-- a tuple of two numbers -/
def Two (H : Hp) (v : V) (b : Int × Int) : Prop:=∃ a,v = .ref a /\ H a = some (.tup [.int b.1,.int b.2])
theorem zct {H H' : Hp} {xs : List V} {bs : List (Int × Int)} (h : Paired (Two H) xs bs) (s : Same H H') : Paired (Two H') xs bs:=Paired.mapP h fun _ _ ⟨a,e,z⟩=>⟨a,e,s _ _ z⟩
theorem ztR {n k : Nat} (h : k < n) : ixN n (k : Int) = some k:=by
 unfold ixN
 rw [if_pos (by omega),if_pos (by omega)]
 simp
theorem zoi {rs : List Cs.Row} {ah : List Int} {ch te : Int} (h : zax rs ah ch te = true) : ∃ (k : Nat) (r : Cs.Row),ch = (k : Int) /\ rs[k]? = some r /\ ah.count ch < r.n.toNat:=by
 unfold zax at h
 split at h
 ·rename_i hb
  obtain ⟨k,rfl⟩:=Int.eq_ofNat_of_zero_le hb.1
  rw [Int.toNat_natCast] at h
  split at h
  ·rename_i r hr
   simp only [Bool.and_eq_true,decide_eq_true_eq] at h
   exact ⟨k,r,rfl,hr,by omega⟩
  ·cases h
 ·cases h
def zfn (K : PySem.W.Frag) : Sp:=fun vs H Q E=>∃ (c b : Addr) (xs bv : List V) (rs : List Cs.Row) (bs : List (Int × Int)) (lt : List (List Lan.Mx)),vs = [.ref c,.ref b] /\ H c = some (.lst xs) /\ Paired (Cs.zbU H) xs rs /\ rs.length <= 100 /\ (∀ r ∈ rs,0 <= r.n /\ r.n <= 1000) /\ H b = some (.lst bv) /\ Paired (Two H) bv bs /\ bs.length <= 1000 /\ Told40 rs bs (.inr lt) /\
 (∀ (D : Addr) (zs : List V) H',H D = none -> Same H H' -> H' D = some (.lst zs) -> Paired (Lan.zcd H D H') zs lt -> zs.Nodup -> Q (.ref D) H')
theorem zfk (T : Tx K mg a) : FnOk P w K mg base CX0 3 a.f_channels_of a.d_channels_of ["case","broken"] (zfn K):=by
 have G_can_break:=zhC (P:=P) (w:=w) (base:=base) T
 refine T.channels_of.fn.ok zdl (fun vs H Q E h=>?_) (fun cdv A outer s H vs Q E hr h=>?_)
 ·obtain ⟨c,b,xs,bv,rs,bs,lt,rfl,_⟩:=h
  rfl
 obtain ⟨c,b,xs,bv,rs,bs,lt,rfl,hc,hpd,hrl,hrn,hb,hbd,hbl,htd,q⟩:=h
 have hxl:=Cs.zbC hpd
 have hbvl:=Paired.length hbd
 refine ⟨_,(zab (zdP (i:=2) zdl.nd rfl (Or.inl rfl) rfl (zaC K rfl (pv 0)) (BlkOk.of (N':=["case","broken","channels","ahead","at","part","channel","lost","sign","width","own","many","teeth"]) (ms:=[8,9,11]) (k:=1) (by rfl)) (fun _ _ _ _ _=>(zbj K rfl (n:=4) rfl (zaj (zah (i:=8) (show List.Nodup (["case","broken","channels","ahead","at","part","channel","lost","sign","width","own","many","teeth"] : List Str) from by decide +kernel) rfl (Or.inl rfl)) (zaj (zah (i:=9) (show List.Nodup (["case","broken","channels","ahead","at","part","channel","lost","sign","width","own","many","teeth"] : List Str) from by decide +kernel) rfl (Or.inl rfl)) (zaj (zah (i:=12) (show List.Nodup (["case","broken","channels","ahead","at","part","channel","lost","sign","width","own","many","teeth"] : List Str) from by decide +kernel) rfl (Or.inl rfl)) (zaj (zah (i:=11) (show List.Nodup (["case","broken","channels","ahead","at","part","channel","lost","sign","width","own","many","teeth"] : List Str) from by decide +kernel) rfl (Or.inl rfl)) zbl)))))) (fun _ _ _ _ _=>zbK) (fun _ _ _ _ _=>(zar znt (zaE (zaa (zcM (zaa (pv 8) (zaa (pv 12) zad))) zad)) (pv 11))))
  (zab (zau (i:=3) zdl.nd rfl (Or.inl rfl) (zaE zad))
  (zab (zbE PassesOwn.never rfl (zex K rfl rfl T.b_enumerate (zaa (zgb (znf (zng (pv 1))) (zaE zad) (pv 1)) zad)) (zbj K rfl (n:=2) rfl (zaj (zah (i:=4) zdl.nd rfl (Or.inl rfl)) (zaj (zah (i:=5) zdl.nd rfl (Or.inl rfl)) zbl))) (zab (zeG (pv 5) (zbj K rfl (n:=2) rfl (zaj (zah (i:=6) zdl.nd rfl (Or.inl rfl)) (zaj (zah (i:=7) zdl.nd rfl (Or.inl rfl)) zbl))))
  (zab (zbp (zho (zcg (zaQ T.can_break G_can_break hr rfl (zaa (pv 0) (zaa (pv 3) (zaa (pv 6) (zaa (pv 7) zad))))))) (zae zep) zaB)
  (zab (zeG (zaK (zas K rfl) (pv 0) (pv 6) (fun _ _=>rfl)) (zbj K rfl (n:=4) rfl (zaj (zah (i:=8) zdl.nd rfl (Or.inl rfl)) (zaj (zah (i:=9) zdl.nd rfl (Or.inl rfl)) (zaj (zah (i:=10) zdl.nd rfl (Or.inl rfl)) (zaj (zah (i:=11) zdl.nd rfl (Or.inl rfl)) zbl))))))
  (zab (zeG (zcM (zaa (pv 8) (zaa (zar zdn (pv 10) (pv 7)) zad))) (znx (zaK (zas K rfl) (pv 2) (pv 6) (fun _ _=>rfl)) (zbo K rfl PySem.F.plainAttrs_list PySem.F.slot_list_count PySem.F.type_list_count zfV (pv 3) (zaa (pv 6) zad)) zjn))
  (zae (zaH (zbo K rfl PySem.F.plainAttrs_list PySem.F.slot_list_append PySem.F.type_list_append zaY (pv 3) (zaa (pv 6) zad)))))))))
  (zae (zav (pv 2)))))),?_⟩
 walk_at "rd"
 refine ⟨⟨_,SqL.of hc⟩,fun D hD=>?_⟩
 refine zaI (a:=c) (xs:=xs) (fun j zs σ H2=>∃ (w8 w9 w11 w12 : Option V),σ = [some (.ref c),some (.ref b),none,none,none,none,none,none,w8,w9,none,w11,w12] /\ Same H H2 /\ H2 D = some (.lst zs) /\ Paired (Lan.zcd H D H2) zs ((zaP rs).take j) /\ zs.Nodup)
  ?_ ?_ ?_ ?_
 ·exact ⟨none,none,none,none,rfl,zaf hD _,upd_same,.nil,List.nodup_nil⟩
 ·rintro j zs σ H2 hj ⟨_,_,_,_,_,hs,_⟩
  exact hs.seq (SqL.of hc)
 ·rintro j y zs σ H2 hy hjl ⟨w8,w9,w11,w12,rfl,hs2,hh2,hz2,hzn⟩
  obtain ⟨r,hrj,t,rfl,ht⟩:=Cs.zaX hpd hy
  have hrb:=hrn r (List.mem_of_getElem? hrj)
  have hzl:=Paired.length hz2
  rw [List.length_take] at hzl
  refine ⟨_,_,rfl,SqT.of (hs2 _ _ ht),rfl,?_⟩
  walk_at "tg"
  walk_at "tg"
  walk_at "tg"
  walk_at "tg"
  try refine And.intro rfl ?_
  walk_at "rd"
  intro pt hpt
  have hs3:=zaf hpt (.tup [.str r.s,.int r.t])
  have h3t : upd H2 pt (.tup [.str r.s,.int r.t]) pt = some (.tup [.str r.s,.int r.t]):=upd_same
  generalize upd H2 pt (.tup [.str r.s,.int r.t]) = H3 at hs3 h3t ⊢
  walk_at "rd"
  intro p1 hp1
  have hs4:=zaf hp1 (.lst [.ref pt])
  have h41 : upd H3 p1 (.lst [.ref pt]) p1 = some (.lst [.ref pt]):=upd_same
  generalize upd H3 p1 (.lst [.ref pt]) = H4 at hs4 h41 ⊢
  walk_at "rd"
  refine ⟨p1,_,_,rfl,rfl,h41,by omega,by omega,zdq (by show 1 * r.n.toNat <= _; omega),fun p2 hp2=>?_⟩
  have efl : (List.replicate r.n.toNat [V.ref pt]).flatten = List.replicate r.n.toNat (V.ref pt):=by
   generalize r.n.toNat = n
   induction n with
   | zero=>rfl
   | succ n ih=>rw [List.replicate_succ,List.flatten_cons,ih]; rfl
  rw [efl]
  have hs5:=zaf hp2 (.lst (List.replicate r.n.toNat (V.ref pt)))
  have h52 : upd H4 p2 (.lst (List.replicate r.n.toNat (V.ref pt))) p2 = some (.lst (List.replicate r.n.toNat (V.ref pt))):=upd_same
  generalize upd H4 p2 (.lst (List.replicate r.n.toNat (V.ref pt))) = H5 at hs5 h52 ⊢
  have hs25:=hs3.trans (hs4.trans hs5)
  have hh5:=hs25 _ _ hh2
  have hpD : p2 ≠ D:=fun e=>by rw [e,(hs3.trans hs4) _ _ hh2] at hp2; cases hp2
  have hp20 : H2 p2 = none:=hs3.free (hs4.free hp2)
  refine zcz hjl hh5 (by omega) ⟨_,_,_,_,rfl,zan (hs2.trans hs25) hD,upd_same,?_,?_⟩
  ·have e0 : (zaP rs)[j]? = some (List.replicate r.n.toNat (r.s,r.t)):=by
    unfold zaP
    rw [List.getElem?_map,hrj]
    rfl
   rw [List.take_add_one,e0]
   refine Paired.snoc (Lan.zjC (Lan.zck hz2 hs25) hh5) ⟨p2,_,rfl,hpD,hs2.free hp20,by rw [zai hpD]; exact h52,Lan.zcr (Lan.zgp ⟨pt,rfl,(hs4.trans hs5) _ _ h3t⟩ _) hh5⟩
  ·rw [List.nodup_append]
   refine ⟨hzn,by simp,fun x hx y hy=>?_⟩
   rw [List.mem_singleton.mp hy]
   exact fun e=>Lan.zeY hz2 hp20 (e ▸ hx)
 ·rintro zs σ H2 ⟨w8,w9,w11,w12,rfl,hs2,hh2,hz2,hzn⟩
  rw [hxl,List.take_of_length_le (by unfold zaP; rw [List.length_map]; exact Nat.le_refl _)] at hz2
  walk_at "rd"
  intro ph hph
  have hs3:=zaf hph (.lst [])
  have h3h : upd H2 ph (.lst []) ph = some (.lst (([] : List Int).map V.int)):=upd_same
  generalize upd H2 ph (.lst []) = H3 at hs3 h3h ⊢
  have hphz : V.ref ph ∉ zs:=Lan.zeY hz2 hph
  have hphD : ph ≠ D:=fun e=>by rw [e,hh2] at hph; cases hph
  have hph0 : H ph = none:=hs2.free hph
  have hb3:=(hs2.trans hs3) _ _ hb
  refine ⟨_,rfl,?_⟩
  refine ⟨_,rfl,?_⟩
  refine iteF ?_
  refine ⟨_,rfl,?_⟩
  refine ⟨b,rfl,⟨_,SqL.of hb3⟩,?_⟩
  refine zeo (a:=b) (xs:=bv) (fun i σ H4=>∃ (ls : List (List Lan.Mx)) (ah : List Int) (v4 v5 v6 v7 v8 v9 v10 v11 : Option V),σ = [some (.ref c),some (.ref b),some (.ref D),some (.ref ph),v4,v5,v6,v7,v8,v9,v10,v11] /\ Same H H4 /\ H4 D = some (.lst zs) /\ Paired (Lan.zcd H D H4) zs ls /\ H4 ph = some (.lst (ah.map V.int)) /\ after rs bs i = some (ls,ah) /\ ah.length = i /\ (∀ (k : Nat) m r,ls[k]? = some m -> rs[k]? = some r -> m.length = r.n.toNat))
   ⟨zaP rs,[],none,none,none,none,none,none,none,none,rfl,hs2.trans hs3,hs3 _ _ hh2,Lan.zck hz2 hs3,h3h,zdS rs bs,rfl,fun k m r hm hr=>?_⟩ (fun i σ H4 _ ⟨_,_,_,_,_,_,_,_,_,_,_,hs,_⟩=>hs.seq (SqL.of hb)) ?_ ?_
  ·unfold zaP at hm
   rw [List.getElem?_map,hr] at hm
   have hm : List.replicate r.n.toNat (r.s,r.t) = m:=Option.some.inj hm
   rw [<- hm,List.length_replicate]
  ·rintro i y te σ H4 hy ⟨ls,ah,v4,v5,v6,v7,v8,v9,v10,v11,rfl,hs4,hD4,hz4,hp4,haf,hal,hlen⟩ hte
   obtain ⟨bb,hbi,tp,rfl,htp⟩:=Cs.zaX hbd hy
   have hsA:=zaf hte (.tup [.int i,.ref tp])
   have hAt : upd H4 te (.tup [.int i,.ref tp]) te = some (.tup [.int i,.ref tp]):=upd_same
   generalize upd H4 te (.tup [.int i,.ref tp]) = H5 at hsA hAt ⊢
   have hs05:=hs4.trans hsA
   refine ⟨_,_,rfl,SqT.of hAt,rfl,?_⟩
   walk_at "tg"
   walk_at "tg"
   try refine And.intro rfl ?_
   refine ⟨_,rfl,?_⟩
   refine ⟨_,_,rfl,SqT.of (hs05 _ _ htp),rfl,?_⟩
   walk_at "tg"
   walk_at "tg"
   try refine And.intro rfl ?_
   refine ⟨_,rfl,?_⟩
   refine ⟨_,rfl,?_⟩
   refine ⟨_,rfl,?_⟩
   refine ⟨_,rfl,?_⟩
   refine ⟨c,ph,bb.1,bb.2,rs,ah,rfl,⟨xs,SqL.of (hs05 _ _ hc),Cs.zay hpd hs05⟩,hsA _ _ hp4,by omega,fun H6 hs6=>?_⟩
   have hs46:=hsA.trans hs6
   have hs06:=hs4.trans hs46
   refine ⟨_,rfl,?_⟩
   cases hcb : zax rs ah bb.1 bb.2 with
   | false =>
     refine iteT ?_
     exact absurd (Told40.uniq (.bad haf hbi hcb) htd) (by intro z; cases z)
   | true =>
     refine iteF ?_
     have hib:=(List.getElem?_eq_some_iff.mp hy).1
     obtain ⟨k,r,hk1,hrk,hcnt⟩:=zoi hcb
     have hkl : k < rs.length:=(List.getElem?_eq_some_iff.mp hrk).1
     have hxk : xs[k]? = some (xs[k]'(by omega)):=List.getElem?_eq_getElem _
     obtain ⟨r',hrk',t,et,ht⟩:=Cs.zaX hpd hxk
     rw [hrk] at hrk'
     cases hrk'
     rw [et] at hxk
     have ek : atI xs (k : Int) = some (.ref t):=zaF hxk
     have hzl:=Paired.length hz4
     obtain ⟨hzk,m,hmk⟩ : k < zs.length /\ ∃ m,ls[k]? = some m:=by
      have h1 : (zaP rs).length = rs.length:=List.length_map _
      have h2:=Paired.length hz2
      exact ⟨by omega,ls[k]'(by omega),List.getElem?_eq_getElem _⟩
     have hzk' : zs[k]? = some zs[k]:=List.getElem?_eq_getElem hzk
     obtain ⟨m',hmk',p,ms0,ep,hpD,hp0,hp4',hpm⟩:=Cs.zaX hz4 hzk'
     rw [hmk] at hmk'
     cases hmk'
     rw [ep] at hzk'
     have ez : atI zs (k : Int) = some (.ref p):=zaF hzk'
     have hml:=hlen k m r hmk hrk
     have hmsl:=Paired.length hpm
     have hpph : p ≠ ph:=fun e=>hphz (by rw [<- e]; exact List.mem_of_getElem? hzk')
     have hD6:=hs46 _ _ hD4
     have hph6:=hs46 _ _ hp4
     have hp6:=hs46 _ _ hp4'
     have hz6:=Lan.zck hz4 hs46
     have hpm6:=Lan.zdM hpm hs46
     rw [hk1]
     refine ⟨_,rfl,?_⟩
     refine ⟨_,rfl,?_⟩
     refine ⟨c,_,_,_,rfl,rfl,SqL.of (hs06 _ _ hc),ek,?_⟩
     clear ek
     refine ⟨_,_,rfl,SqT.of (hs06 _ _ ht),rfl,?_⟩
     walk_at "tg"
     walk_at "tg"
     walk_at "tg"
     walk_at "tg"
     try refine And.intro rfl ?_
     refine ⟨_,rfl,?_⟩
     refine ⟨_,rfl,?_⟩
     refine ⟨_,rfl,?_⟩
     refine ⟨_,_,rfl,rfl,?_⟩
     walk_at "rd"
     intro tn htn
     have hs67:=zaf htn (HO.tup [V.str r.s,(fun i j : Int=>V.int (i - j)) r.t bb.2])
     have h7n : upd H6 tn (HO.tup [V.str r.s,(fun i j : Int=>V.int (i - j)) r.t bb.2]) tn = some (.tup [.str r.s,.int (r.t - bb.2)]):=upd_same
     generalize upd H6 tn (HO.tup [V.str r.s,(fun i j : Int=>V.int (i - j)) r.t bb.2]) = H7 at hs67 h7n ⊢
     have hs07:=hs06.trans hs67
     have hD7:=hs67 _ _ hD6
     have hph7:=hs67 _ _ hph6
     have hp7:=hs67 _ _ hp6
     have hz7:=Lan.zck hz6 hs67
     have hpm7:=Lan.zdM hpm6 hs67
     have hcnt' : ah.count (k : Int) < ms0.length:=by rw [hk1] at hcnt; omega
     refine ⟨_,rfl,?_⟩
     refine ⟨_,rfl,?_⟩
     refine ⟨D,_,_,_,rfl,rfl,SqL.of hD7,ez,?_⟩
     clear ez
     refine ⟨_,rfl,?_⟩
     refine ⟨.inl ⟨rfl,_,SqL.of hph7⟩,?_⟩
     refine ⟨_,rfl,?_⟩
     refine ⟨ph,ah,_,rfl,rfl,hph7,?_⟩
     refine ⟨p,ms0,_,ah.count (k : Int),rfl,rfl,hp7,ztR hcnt',?_⟩
     have hm8 : Paired (Lan.zbS (upd H7 p (.lst (ms0.set (ah.count (k : Int)) (.ref tn))))) (ms0.set (ah.count (k : Int)) (.ref tn)) (m.set (ah.count (k : Int)) (r.s,r.t - bb.2)):=Lan.znp ⟨tn,rfl,by rw [zai (zbZ h7n hp7 (fun q=>by cases q))]; exact h7n⟩ _ (Lan.zcr hpm7 hp7)
     have hz8:=Lan.lanes_set k hz7 hzn hzk' hp7 hm8 hpD hp0
     have hs08 : Same H (upd H7 p (.lst (ms0.set (ah.count (k : Int)) (.ref tn)))):=zan hs07 hp0
     have hD8 : upd H7 p (.lst (ms0.set (ah.count (k : Int)) (.ref tn))) D = some (.lst zs):=by rw [zai (Ne.symm hpD)]; exact hD7
     have hph8 : upd H7 p (.lst (ms0.set (ah.count (k : Int)) (.ref tn))) ph = some (.lst (ah.map V.int)):=by rw [zai (Ne.symm hpph)]; exact hph7
     generalize upd H7 p (.lst (ms0.set (ah.count (k : Int)) (.ref tn))) = H8 at hz8 hs08 hD8 hph8 ⊢
     refine ⟨_,rfl,?_⟩
     refine ⟨.inl ⟨rfl,_,SqL.of hph8⟩,?_⟩
     refine ⟨_,rfl,?_⟩
     refine ⟨ph,_,_,rfl,rfl,hph8,zby (by rw [List.length_map]; omega),?_⟩
     have hsl : setLane rs ls ah bb = ls.set k (m.set (ah.count (k : Int)) (r.s,r.t - bb.2)):=by
      unfold setLane
      rw [hk1,Int.toNat_natCast,hrk,hmk]
     refine ⟨ls.set k (m.set (ah.count (k : Int)) (r.s,r.t - bb.2)),ah ++ [(k : Int)],_,_,_,_,_,_,_,_,rfl,zan hs08 hph0,by rw [zai (Ne.symm hphD)]; exact hD8,Lan.lanes_set.lanes_else hz8 hphz hph8,by rw [upd_same,List.map_append]; rfl,?_,by rw [List.length_append,hal]; rfl,fun k' m' r' hm' hr'=>?_⟩
     ·rw [zdd hbi,haf]
      show (if zax rs ah bb.1 bb.2 = true then some (setLane rs ls ah bb,ah ++ [bb.1]) else none) = _
      rw [if_pos hcb,hsl,hk1]
     ·rw [List.getElem?_set] at hm'
      split at hm'
      ·rename_i e
       subst e
       split at hm'
       ·have hm':=Option.some.inj hm'
        rw [<- hm',List.length_set]
        exact hlen k m r' hmk hr'
       ·cases hm'
      ·exact hlen k' m' r' hm' hr'
  ·rintro σ H4 ⟨ls,ah,v4,v5,v6,v7,v8,v9,v10,v11,rfl,hs4,hD4,hz4,hp4,haf,hal,hlen⟩
   rw [hbvl] at haf
   refine ⟨_,rfl,?_⟩
   have e : ls = lt:=Sum.inr.inj (Told40.uniq (.good haf) htd)
   exact q D zs H4 hD hs4 hD4 (e ▸ hz4) hzn
theorem zpt {c d : Nat} (h : sg c = sg d) : c = d:=by
 have h : (#[c] : Array Nat) = #[d]:=congrArg Str.cps h
 simpa using h
theorem sgV {c d : Nat} : decide (V.str (sg c) = V.str (sg d)) = decide (c = d):=by
 rw [Cs.strV,decide_eq_decide]
 exact ⟨fun h=>zpt h,fun h=>by rw [h]⟩
def zfo : Sp:=fun vs H Q _=>∃ c : Nat,vs = [.str (sg c)] /\ Q (.bl (Lns.isS c)) H
theorem zfl (T : Tx K mg a) : FnOk P w K mg base CX0 1 a.f_is_sign_key a.d_is_sign_key ["key"] zfo:=by
 refine T.is_sign_key.fn.ok zfi (fun vs H Q E h=>?_) (fun cdv A outer s H vs Q E hr h=>?_)
 ·obtain ⟨c,rfl,_⟩:=h
  rfl
 obtain ⟨c,rfl,q⟩:=h
 have e1 : decide (V.str (sg c) = V.str (Str.ofString " ")) = decide (c = 32):=sgV (d:=32)
 have e2 : decide (V.str (sg c) = V.str (Str.ofString "/")) = decide (c = 47):=sgV (d:=47)
 unfold Lns.isS at q
 refine ⟨_,(zae (zav (zcH (zbk zfd (pv 0) (zdy (v:=.str " ") rfl T.g_GAP_KEY ⟨_,rfl⟩) (zap _)) (zeb (zbk zfd (pv 0) (zdy (v:=.str "/") rfl T.g_SEND_KEY ⟨_,rfl⟩) (zap _)))))),?_⟩
 walk_at "rd"
 rw [e1]
 cases h32 : decide (c = 32) with
 | true =>
   rw [h32] at q
   exact q
 | false =>
   rw [h32] at q
   refine iteT ?_
   walk_at "rd"
   rw [e2]
   exact q
def zkh (K : PySem.W.Frag) : Sp:=fun vs H Q _=>∃ (l : Addr) (x : Str) (i : Nat) (rs : List Cs.Row),vs = [.ref l,.str x,.int (i : Int)] /\ Cs.zeB K H l rs /\ x.length <= 90000 /\ i < x.cps.toList.length /\ ∀ H',Same H H' -> Q (.bl (Lns.zjo rs x.cps.toList i)) H'
theorem zjJ (T : Tx K mg a) : FnOk P w K mg base CX0 2 a.f_goes_on a.d_goes_on ["case","keys","at"] (zkh K):=by
 have G_is_sign_key:=zfl (P:=P) (w:=w) (base:=base) T
 have G_channel_of:=zcF (P:=P) (w:=w) (base:=base) T
 refine T.goes_on.fn.ok zjM (fun vs H Q E h=>?_) (fun cdv A outer s H vs Q E hr h=>?_)
 ·obtain ⟨l,x,i,rs,rfl,_⟩:=h
  rfl
 obtain ⟨l,x,i,rs,rfl,hC,hx,hi,q⟩:=h
 have hxs : x.length <= sizeLine:=zdq (by omega)
 have ec : atI x.cps.toList (i : Int) = some x.cps.toList[i]:=zaF (List.getElem?_eq_getElem hi)
 unfold Lns.zjo at q
 rw [List.getElem?_eq_getElem hi] at q
 generalize x.cps.toList[i] = c at ec q
 have q : ∀ H',Same H H' -> Q (.bl (if Lns.isS c = true then (Cs.place rs (sg c)).isSome else decide (0 < i) && (match x.cps.toList[i - 1]? with | none=>false | some d=>Lns.isS d))) H':=q
 refine ⟨_,(zab (zbp (zcg (zaQ T.is_sign_key G_is_sign_key hr rfl (zaa (zaK zeJ (pv 1) (pv 2) (fun _ _=>rfl)) zad))) (zae (zav (zku (zkS (zaQ T.channel_of G_channel_of hr rfl (zaa (pv 0) (zaa (zaK zeJ (pv 1) (pv 2) (fun _ _=>rfl)) zad))))))) zaB)
  (zae (zav (zcH (zbk zjZ (pv 2) zag (zap _)) (zeb (zaQ T.is_sign_key G_is_sign_key hr rfl (zaa (zaK zeJ (pv 1) (zar zdn (pv 2) zag) (fun _ _=>rfl)) zad))))))),?_⟩
 walk_at "rd"
 refine ⟨_,_,_,rfl,rfl,hxs,ec,?_⟩
 walk_at "rd"
 try refine ⟨_,rfl,?_⟩
 cases hs : Lns.isS c with
 | true =>
   rw [hs] at q
   refine iteT ?_
   walk_at "rd"
   refine ⟨_,_,_,rfl,rfl,hxs,ec,?_⟩
   walk_at "rd"
   refine ⟨l,sg c,rs,rfl,hC,fun H1 hs1=>?_⟩
   have e : (!decide (Mt.optV (Cs.place rs (sg c)) = V.non)) = (Cs.place rs (sg c)).isSome:=by
    cases Cs.place rs (sg c) <;> rfl
   have q:=q H1 hs1
   rw [if_pos rfl,<- e] at q
   exact q
 | false =>
   rw [hs] at q
   refine iteF ?_
   walk_at "rd"
   have q:=q H (Same.refl _)
   rw [if_neg (by decide)] at q
   cases i with
   | zero =>
     refine iteF ?_
     exact q
   | succ j =>
     have hj : j < x.cps.toList.length:=by omega
     have ec2 : atI x.cps.toList (((j + 1 : Nat) : Int) - 1) = some x.cps.toList[j]:=by
      rw [show (((j + 1 : Nat) : Int) - 1) = ((j : Nat) : Int) by omega]
      exact zaF (List.getElem?_eq_getElem hj)
     rw [show j + 1 - 1 = j from rfl,List.getElem?_eq_getElem hj] at q
     have e0 : decide ((0 : Int) < ((j + 1 : Nat) : Int)) = true:=decide_eq_true (by omega)
     rw [e0]
     refine iteT ?_
     walk_at "rd"
     refine ⟨_,_,_,rfl,rfl,hxs,ec2,?_⟩
     walk_at "rd"
     have q : Q (.bl (decide (0 < j + 1) && Lns.isS x.cps.toList[j])) H:=q
     rw [show decide (0 < j + 1) = true from decide_eq_true (by omega),Bool.true_and] at q
     exact q
def zej (K : PySem.W.Frag) : Sp:=fun vs H Q _=>∃ (l : Addr) (x : Str) (rs : List Cs.Row),vs = [.ref l,.str x] /\ Cs.zeB K H l rs /\ x.length <= 90000 /\ Lns.zbh rs false x.cps.toList = true /\ (x.cps.toList = [] \/ ∃ a,x.cps.toList = a ++ [47]) /\ ∀ H',Same H H' -> Q .non H'
theorem zcG (T : Tx K mg a) : FnOk P w K mg base CX0 3 a.f_look_at_keys a.d_look_at_keys ["case","keys"] (zej K):=by
 have G_goes_on:=zjJ (P:=P) (w:=w) (base:=base) T
 refine T.look_at_keys.fn.ok zfc (fun vs H Q E h=>?_) (fun cdv A outer s H vs Q E hr h=>?_)
 ·obtain ⟨l,x,rs,rfl,_⟩:=h
  rfl
 obtain ⟨l,x,rs,rfl,hC,hx,hok,hend,q⟩:=h
 have hxs : x.length <= sizeLine:=zdq (by omega)
 have hxl : x.cps.toList.length = x.length:=Array.length_toList
 refine ⟨_,(zab (zbE PassesOwn.never rfl (zbt rfl T.b_range (zaa (zaJ zed rfl T.b_len zbY (zaa (pv 1) zad)) zad)) (zah (i:=2) zfc.nd rfl (Or.inl rfl)) (zae (zbp (zho (zcg (zaQ T.goes_on G_goes_on hr rfl (zaa (pv 0) (zaa (pv 1) (zaa (pv 2) zad)))))) (zae zep) zaB)))
  (zae (zbp (PW.pt (zdp (zao zfd (pv 1) zea (zap _)) (zci (zao zfd (zaK zeJ (pv 1) (zun zqw zag) (fun _ _=>rfl)) (zdy (v:=.str "/") rfl T.g_SEND_KEY ⟨_,rfl⟩) (zap _))))) (zae zep) zaB))),?_⟩
 walk_at "rd"
 refine zbW (n:=x.length) (fun i σ H2=>∃ v2 : Option V,σ = [some (.ref l),some (.str x),v2] /\ Same H H2) ⟨none,rfl,Same.refl _⟩ ?_ ?_
 ·rintro i σ H2 hi ⟨v2,rfl,hs⟩
  walk_at "rd"
  refine ⟨l,x,i,rs,by rw [Int.zero_add]; rfl,hC.same hs,hx,by omega,fun H3 hs3=>?_⟩
  rw [Lns.zor hok (by omega)]
  refine ⟨_,rfl,?_⟩
  refine iteF ?_
  exact ⟨_,rfl,hs.trans hs3⟩
 ·rintro σ H2 ⟨v2,rfl,hs⟩
  walk_at "rd"
  rcases hend with he | ⟨a0,he⟩
  ·have ex : x = "":=Lns.zkA he
   subst ex
   have e1 : (!decide (V.str (Str.ofString "") = V.str (Str.ofString ""))) = false:=by rw [decide_eq_true rfl]; rfl
   rw [e1]
   try refine iteF ?_
   exact q H2 hs
  ·have hne : x ≠ "":=fun e=>by
    rw [e] at he
    have h:=congrArg List.length he
    rw [List.length_append] at h
    have h : 0 = a0.length + 1:=h
    omega
   have e1 : (!decide (V.str x = V.str (Str.ofString ""))) = true:=by rw [Cs.strV,decide_eq_false hne]; rfl
   rw [e1]
   try refine iteT ?_
   have ec : atI x.cps.toList (-1) = some 47:=by
    rw [he]
    exact Lns.zqU a0 47
   walk_at "rd"
   refine ⟨_,_,_,rfl,rfl,hxs,ec,?_⟩
   walk_at "rd"
   have e2 : (!decide (V.str ({ cps:=#[47] } : Str) = V.str (Str.ofString "/"))) = false:=by rw [show (Str.ofString "/") = ({ cps:=#[47] } : Str) from rfl,decide_eq_true rfl]; rfl
   rw [e2]
   try refine iteF ?_
   exact q H2 hs
def startB (lt : List (List Mc.Mx)) : Mc.Ms:=⟨lt,[],[],0,[],[],0,0,0⟩
def zlE (a : Ad) : Sp:=fun vs H Q _=>∃ (p pc pb dx : Addr) (c : Mc.Cf) (xs bv : List V) (bs : List (Int × Int)) (lt : List (List Mc.Mx)),vs = [.ref p,.ref pc,.str c.keys,.int c.cast,.ref pb] /\ H p = some (.ins a.c_Machine dx []) /\ H pc = some (.lst xs) /\ Paired (Cs.zbU H) xs c.rs /\ Mc.OkC c /\ Lns.zbh c.rs false c.keys.cps.toList = true /\ (∀ r ∈ c.rs,0 <= r.n /\ r.n <= 1000) /\ H pb = some (.lst bv) /\ Paired (Two H) bv bs /\ bs.length <= 1000 /\ Told40 c.rs bs (.inr lt) /\
 ∀ A H',MA a c H' p A (startB lt) -> Mc.Off p H H' -> (∀ b ∈ A.all,H b = none) -> Q .non H'
theorem zeL (T : Tx K mg a) : FnOk P w K mg base CX0 4 a.f_Machine_init a.d_Machine_init ["self","case","keys","casting","broken"] (zlE a):=by
 have G_look_at_keys:=zcG (P:=P) (w:=w) (base:=base) T
 have G_channels_of:=zfk (P:=P) (w:=w) (base:=base) T
 refine T.Machine.fn.ok zcN (fun vs H Q E h=>?_) (fun cdv A outer s H vs Q E hr h=>?_)
 ·obtain ⟨p,pc,pb,dx,c,xs,bv,bs,lt,rfl,_⟩:=h
  rfl
 obtain ⟨p,pc,pb,dx,c,xs,bv,bs,lt,rfl,hp,hc,hpd,OC,hok,hrn,hb,hbd,hbl,htd,q⟩:=h
 have hfew:=OC.few
 have I0 : IA a H p (List.replicate zfJ.length none):=⟨dx,[],hp,FS.nil (by decide)⟩
 refine ⟨_,(zab (zaH (zaQ T.look_at_keys G_look_at_keys hr rfl (zaa (pv 1) (zaa (pv 2) zad))))
  (zab (zbm (K:=K) rfl T.Machine.cl T.n_Machine_lying zaO (pv 0) (zaQ T.channels_of G_channels_of hr rfl (zaa (pv 1) (zaa (pv 4) zad))))
  (zab (zbm (K:=K) rfl T.Machine.cl T.n_Machine_case zbb (pv 0) (zdI (zeu K rfl) rfl T.b_list zgu (zaa (pv 1) zad)))
  (zab (zbm (K:=K) rfl T.Machine.cl T.n_Machine_played zbd (pv 0) (pv 2))
  (zab (zbm (K:=K) rfl T.Machine.cl T.n_Machine_struck zaz (pv 0) zag)
  (zab (zbm (K:=K) rfl T.Machine.cl T.n_Machine_casting zbF (pv 0) (pv 3))
  (zab (zbm (K:=K) rfl T.Machine.cl T.n_Machine_line zaT (pv 0) (zaE zad))
  (zab (zbm (K:=K) rfl T.Machine.cl T.n_Machine_heated zat (pv 0) (zaE zad))
  (zab (zbm (K:=K) rfl T.Machine.cl T.n_Machine_to_go zaN (pv 0) zag)
  (zab (zbm (K:=K) rfl T.Machine.cl T.n_Machine_hanging zaD (pv 0) (zaE zad))
  (zab (zbm (K:=K) rfl T.Machine.cl T.n_Machine_texts zbT (pv 0) (zaE zad))
  (zab (zbm (K:=K) rfl T.Machine.cl T.n_Machine_done zaS (pv 0) zag)
  (zae (zbm (K:=K) rfl T.Machine.cl T.n_Machine_waits zbu (pv 0) zag)))))))))))))),?_⟩
 walk_at "rd"
 refine ⟨pc,_,c.rs,rfl,⟨xs,SqL.of hc,hpd⟩,OC.short,hok,OC.ends,fun H1 hs1=>?_⟩
 walk_at "rd"
 refine ⟨pc,pb,xs,bv,c.rs,bs,lt,rfl,hs1 _ _ hc,Cs.zay hpd hs1,by omega,hrn,hs1 _ _ hb,zct hbd hs1,hbl,htd,fun D zs H2 hD hs2 hD2 hz hzn=>?_⟩
 obtain ⟨ls,rfl,hls,hnd,hfr⟩:=Mc.zft hz hzn
 have I2:=I0.same (hs1.trans hs2)
 walk_at "rd"
 refine fun H3 I3 k3=>?_
 have o3:=(Mc.Off.of_same (p:=p) (hs1.trans hs2)).trans (Mc.Off.of_fld k3)
 have hpcp:=Mc.zgN I0 hc
 walk_at "rd"
 refine ⟨pc,xs,rfl,.inl (SqL.of (o3 _ _ hpcp hc)),fun e4 he4=>?_⟩
 have hs4:=zaf he4 (.lst xs)
 have h44 : upd H3 e4 (.lst xs) e4 = some (.lst xs):=upd_same
 have I4:=I3.same hs4
 generalize upd H3 e4 (.lst xs) = H4 at hs4 h44 I4 ⊢
 walk_at "rd"
 refine fun H5 I5 k5=>?_
 have o5:=(Mc.Off.of_same (p:=p) hs4).trans (Mc.Off.of_fld k5)
 walk_at "rd"
 refine fun H6 I6 k6=>?_
 walk_at "rd"
 refine fun H7 I7 k7=>?_
 walk_at "rd"
 refine fun H8 I8 k8=>?_
 have o8:=((Mc.Off.of_fld k6).trans (Mc.Off.of_fld k7)).trans (Mc.Off.of_fld k8)
 walk_at "rd"
 refine fun e9 he9=>?_
 have hs9:=zaf he9 (.lst [])
 have h99 : upd H8 e9 (.lst []) e9 = some (.lst []):=upd_same
 have I9:=I8.same hs9
 generalize upd H8 e9 (.lst []) = H9 at hs9 h99 I9 ⊢
 walk_at "rd"
 refine fun H10 I10 k10=>?_
 have o10:=(Mc.Off.of_same (p:=p) hs9).trans (Mc.Off.of_fld k10)
 walk_at "rd"
 refine fun e11 he11=>?_
 have hs11:=zaf he11 (.lst [])
 have h111 : upd H10 e11 (.lst []) e11 = some (.lst []):=upd_same
 have I11:=I10.same hs11
 generalize upd H10 e11 (.lst []) = H11 at hs11 h111 I11 ⊢
 walk_at "rd"
 refine fun H12 I12 k12=>?_
 walk_at "rd"
 refine fun H13 I13 k13=>?_
 have o13:=((Mc.Off.of_same (p:=p) hs11).trans (Mc.Off.of_fld k12)).trans (Mc.Off.of_fld k13)
 walk_at "rd"
 refine fun e14 he14=>?_
 have hs14:=zaf he14 (.lst [])
 have h144 : upd H13 e14 (.lst []) e14 = some (.lst []):=upd_same
 have I14:=I13.same hs14
 generalize upd H13 e14 (.lst []) = H14 at hs14 h144 I14 ⊢
 walk_at "rd"
 refine fun H15 I15 k15=>?_
 have o15:=(Mc.Off.of_same (p:=p) hs14).trans (Mc.Off.of_fld k15)
 walk_at "rd"
 refine fun e16 he16=>?_
 have hs16:=zaf he16 (.lst [])
 have h166 : upd H15 e16 (.lst []) e16 = some (.lst []):=upd_same
 have I16:=I15.same hs16
 generalize upd H15 e16 (.lst []) = H16 at hs16 h166 I16 ⊢
 walk_at "rd"
 refine fun H17 I17 k17=>?_
 walk_at "rd"
 refine fun H18 I18 k18=>?_
 walk_at "rd"
 refine fun H19 I19 k19=>?_
 have o19:=(((Mc.Off.of_same (p:=p) hs16).trans (Mc.Off.of_fld k17)).trans (Mc.Off.of_fld k18)).trans (Mc.Off.of_fld k19)
 have I19 : IA a H19 p (Mc.vals c ⟨D,e4,e9,e11,e14,e16,ls⟩ (startB lt)):=I19
 -- from each list's begin to the end
 have o05:=o3.trans o5
 have o08:=o05.trans o8
 have o010:=o08.trans o10
 have o013:=o010.trans o13
 have o015:=o013.trans o15
 have o019:=o015.trans o19
 have f15:=o19
 have f13:=o15.trans f15
 have f10:=o13.trans f13
 have f8:=o10.trans f10
 have f5:=o8.trans f8
 have f3:=o5.trans f5
 have f2:=(Mc.Off.of_fld k3).trans f3
 have f4:=(Mc.Off.of_fld k5).trans f5
 have f9:=(Mc.Off.of_fld k10).trans f10
 have f11:=((Mc.Off.of_fld k12).trans (Mc.Off.of_fld k13)).trans f13
 have f14:=(Mc.Off.of_fld k15).trans f15
 have f16:=((Mc.Off.of_fld k17).trans (Mc.Off.of_fld k18)).trans (Mc.Off.of_fld k19)
 have hDp:=Mc.zgN I2 hD2
 have hlp : ∀ z ∈ ls,z ≠ p:=fun z hz=>Mc.zbR (I0.same hs1) (hfr z hz)
 have n4:=Mc.zbR I3 he4
 have n9:=Mc.zbR I8 he9
 have n11:=Mc.zbR I10 he11
 have n14:=Mc.zbR I13 he14
 have n16:=Mc.zbR I15 he16
 have Lls : Paired (Mc.LnAt H19) ls (startB lt).lanes:=Mc.zbH (Mc.Off.keep I2 f2) hlp hls
 have some_ls : ∀ z ∈ ls,∃ ws,H2 z = some (.lst ws):=fun z hz=>by
  obtain ⟨i,hi,e⟩:=List.getElem_of_mem hz
  obtain ⟨_,_,ws,hw,_⟩:=Cs.zaX hls (List.getElem?_eq_getElem hi)
  rw [e] at hw
  exact ⟨ws,hw⟩
 have dif : ∀ {x e : Addr} {Hk : Hp} {ws : List V},Hk x = some (.lst ws) -> Hk e = none -> x ≠ e:=fun h1 h2 z=>by rw [z,h2] at h1; cases h1
 obtain ⟨hn1,hn2⟩:=List.nodup_cons.mp hnd
 have g3:=Mc.Off.of_fld k3
 have g8:=(g3.trans o5).trans o8
 have g10:=g8.trans o10
 have g13:=g10.trans o13
 have g15:=g13.trans o15
 have lsn : ∀ {e : Addr} {Hk : Hp},Mc.Off p H2 Hk -> Hk e = none -> e ∉ ls:=fun o h hz=>by
  obtain ⟨ws,hw⟩:=some_ls _ hz
  rw [o _ _ (hlp _ hz) hw] at h
  cases h
 refine q ⟨D,e4,e9,e11,e14,e16,ls⟩ H19 ⟨I19,?_,⟨⟨xs,f4 _ _ n4 h44,?_⟩,f2 _ _ hDp hD2,Lls,⟨[],f9 _ _ n9 h99,.nil⟩,⟨[],f11 _ _ n11 h111,.nil⟩,⟨[],f14 _ _ n14 h144,.nil⟩,f16 _ _ n16 h166⟩⟩ o019 ?_
 ·unfold Mc.Adr.all
  simp only [List.nodup_cons,List.mem_cons,not_or]
  exact ⟨⟨dif (g3 _ _ hDp hD2) he4,dif (g8 _ _ hDp hD2) he9,dif (g10 _ _ hDp hD2) he11,dif (g13 _ _ hDp hD2) he14,dif (g15 _ _ hDp hD2) he16,hn1⟩,
   ⟨dif (((Mc.Off.of_fld k5).trans o8) _ _ n4 h44) he9,dif ((((Mc.Off.of_fld k5).trans o8).trans o10) _ _ n4 h44) he11,dif (((((Mc.Off.of_fld k5).trans o8).trans o10).trans o13) _ _ n4 h44) he14,dif ((((((Mc.Off.of_fld k5).trans o8).trans o10).trans o13).trans o15) _ _ n4 h44) he16,lsn g3 he4⟩,
   ⟨dif ((Mc.Off.of_fld k10) _ _ n9 h99) he11,dif (((Mc.Off.of_fld k10).trans o13) _ _ n9 h99) he14,dif ((((Mc.Off.of_fld k10).trans o13).trans o15) _ _ n9 h99) he16,lsn g8 he9⟩,
   ⟨dif (((Mc.Off.of_fld k12).trans (Mc.Off.of_fld k13)) _ _ n11 h111) he14,dif ((((Mc.Off.of_fld k12).trans (Mc.Off.of_fld k13)).trans o15) _ _ n11 h111) he16,lsn g10 he11⟩,
   ⟨dif ((Mc.Off.of_fld k15) _ _ n14 h144) he16,lsn g13 he14⟩,lsn g15 he16,hn2⟩
 ·exact Mc.zbA (Mc.Off.keep I0 o019) hpd
 ·unfold Mc.Adr.all
  intro b hb
  simp only [List.mem_cons] at hb
  rcases hb with rfl | rfl | rfl | rfl | rfl | rfl | hb
  ·exact hs1.free hD
  ·exact o3.free I3 he4
  ·exact o08.free I8 he9
  ·exact o010.free I10 he11
  ·exact o013.free I13 he14
  ·exact o015.free I15 he16
  ·exact hs1.free (hfr b hb)
theorem zmj : ∀ t l : Fin 128,Mt.has (t.val : Int) (l.val : Int) = true -> Mt.has (t.val : Int) ((t.val : Int) - (l.val : Int)) = true:=by decide +kernel
theorem ziC {t l : Int} (ht : 0 <= t /\ t < 128) (hl : 0 <= l /\ l < 128) (h : Mt.has t l = true) : Mt.has t (t - l) = true:=by
 obtain ⟨j,rfl⟩:=Int.eq_ofNat_of_zero_le ht.1
 obtain ⟨k,rfl⟩:=Int.eq_ofNat_of_zero_le hl.1
 exact zmj ⟨j,by omega⟩ ⟨k,by omega⟩ h
theorem zmW {rs : List Cs.Row} {ah : List Int} {ch te : Int} (h : zax rs ah ch te = true) : ∃ (k : Nat) (r : Cs.Row),ch = (k : Int) /\ rs[k]? = some r /\ Builtin.bitAnd r.t te = te:=by
 unfold zax at h
 split at h
 ·rename_i hb
  obtain ⟨k,rfl⟩:=Int.eq_ofNat_of_zero_le hb.1
  rw [Int.toNat_natCast] at h
  split at h
  ·rename_i r hr
   simp only [Bool.and_eq_true,decide_eq_true_eq] at h
   exact ⟨k,r,rfl,hr,h.2⟩
  ·cases h
 ·cases h
/-- lanes of a case some of whose matrices are broken -/
structure LOk (rs : List Cs.Row) (ls : List (List Mc.Mx)) : Prop where
 ln : ls.length = rs.length
 one : ∀ (j : Nat) m r,ls[j]? = some m -> rs[j]? = some r -> m.length = r.n.toNat /\ ∀ x ∈ m,x.1 = r.s /\ 0 <= x.2 /\ x.2 < 128 /\ Mt.has r.t x.2 = true
theorem LOk.zero {rs : List Cs.Row} (R : Mc.Rows rs) : LOk rs (zaP rs):=by
 refine ⟨List.length_map _,fun j m r hm hr=>?_⟩
 unfold zaP at hm
 rw [List.getElem?_map,hr] at hm
 have hm : List.replicate r.n.toNat (r.s,r.t) = m:=Option.some.inj hm
 rw [<- hm]
 refine ⟨List.length_replicate,fun x hx=>?_⟩
 rw [List.eq_of_mem_replicate hx]
 obtain ⟨h1,h2⟩:=R.th r (List.mem_of_getElem? hr)
 exact ⟨rfl,h1,h2,Mt.zgd _⟩
theorem LOk.step {rs : List Cs.Row} (R : Mc.Rows rs) {ls : List (List Mc.Mx)} (h : LOk rs ls) {ah : List Int} {b : Int × Int} (hb : 1 <= b.2 /\ b.2 < 128) (hc : zax rs ah b.1 b.2 = true) : LOk rs (setLane rs ls ah b):=by
 obtain ⟨k,r,hk,hr,ha⟩:=zmW hc
 have hkl : k < ls.length:=by rw [h.ln]; exact (List.getElem?_eq_some_iff.mp hr).1
 have hm : ls[k]? = some ls[k]:=List.getElem?_eq_getElem hkl
 have ht:=R.th r (List.mem_of_getElem? hr)
 have hh : Mt.has r.t b.2 = true:=by rw [<- Mt.zhY ht.1 (by omega) hb.2]; exact decide_eq_true ha
 have hle:=Mt.zgQ ht ⟨by omega,hb.2⟩ hh
 have hs:=ziC ht ⟨by omega,hb.2⟩ hh
 have e : setLane rs ls ah b = ls.set k (ls[k].set (ah.count b.1) (r.s,r.t - b.2)):=by
  unfold setLane
  rw [hk,Int.toNat_natCast,hr,hm]
 rw [e]
 refine ⟨by rw [List.length_set]; exact h.ln,fun j m r' hm' hr'=>?_⟩
 rw [List.getElem?_set] at hm'
 split at hm'
 ·rename_i ej
  subst ej
  rw [hr] at hr'
  cases hr'
  have hm':=Option.some.inj hm'
  obtain ⟨g1,g2⟩:=h.one k _ r hm hr
  rw [<- hm']
  refine ⟨by rw [List.length_set]; exact g1,fun x hx=>?_⟩
  rcases List.mem_or_eq_of_mem_set hx with hx | hx
  ·exact g2 x hx
  ·rw [hx]
   exact ⟨rfl,by show 0 <= r.t - b.2; omega,by show r.t - b.2 < 128; omega,hs⟩
 ·exact h.one j m r' hm' hr'
theorem zlH {rs : List Cs.Row} (R : Mc.Rows rs) {bs : List (Int × Int)} (hb : ∀ b ∈ bs,1 <= b.2 /\ b.2 < 128) : ∀ (k : Nat) (ls : List (List Mc.Mx)) (ah : List Int),after rs bs k = some (ls,ah) -> LOk rs ls:=by
 intro k
 induction k with
 | zero =>
   intro ls ah h
   rw [zdS] at h
   cases h
   exact LOk.zero R
 | succ k ih =>
   intro ls ah h
   cases hk : bs[k]? with
   | none =>
     have hl : bs.length <= k:=List.getElem?_eq_none_iff.mp hk
     have e : after rs bs (k + 1) = after rs bs k:=by
      unfold after
      rw [List.take_of_length_le (by omega),List.take_of_length_le hl]
     rw [e] at h
     exact ih ls ah h
   | some b =>
     rw [zdd hk] at h
     unfold zlM at h
     cases ha : after rs bs k with
     | none=>rw [ha] at h; cases h
     | some s =>
       rw [ha] at h
       have h : (if zax rs s.2 b.1 b.2 = true then some (setLane rs s.1 s.2 b,s.2 ++ [b.1]) else none) = some (ls,ah):=h
       by_cases hc : zax rs s.2 b.1 b.2 = true
       ·rw [if_pos hc] at h
        cases h
        exact LOk.step R (ih s.1 s.2 ha) (hb b (List.mem_of_getElem? hk)) hc
       ·rw [if_neg hc] at h
        cases h
theorem LOk.ok {rs : List Cs.Row} (R : Mc.Rows rs) {lt : List (List Mc.Mx)} (h : LOk rs lt) {c : Mc.Cf} (hc : c.rs = rs) (O : Mc.OkC c) : Mc.Ok c (startB lt):=by
 have hf:=R.few
 refine ⟨O,?_,fun l hl x hx=>?_,(fun x hx=>nomatch hx),(fun x hx=>nomatch hx),(fun x hx=>nomatch hx),Nat.zero_le _,fun _=>rfl,?_,Nat.le_refl _,(fun x hx=>nomatch hx),fun z=>absurd rfl z⟩
 ·show lt.length = c.rs.length
  rw [h.ln,hc]
 ·obtain ⟨j,hj,e⟩:=List.getElem_of_mem hl
  have hj : j < lt.length:=hj
  have hr : rs[j]? = some (rs[j]'(by rw [<- h.ln]; exact hj)):=List.getElem?_eq_getElem _
  have hmem:=List.mem_of_getElem? hr
  obtain ⟨g1,g2⟩:=h.one j l _ (by rw [List.getElem?_eq_getElem hj]; exact congrArg some e) hr
  obtain ⟨x1,x2,x3,x4⟩:=g2 x hx
  obtain ⟨o1,o2,_,_,_⟩:=R.okM hc hmem
  refine ⟨by rw [x1]; exact o1,by rw [x1]; exact o2,x2,x3,?_⟩
  obtain ⟨i,hi,hij⟩:=Mt.zfQ (cs:=c.rs.map fun r=>r.t) (t:=x.2) (i:=j) (c:=(rs[j]'(by rw [<- h.ln]; exact hj)).t) (by rw [hc,List.getElem?_map,hr]; rfl) x4
  exact ⟨i,hi,by rw [hc,<- h.ln]; omega⟩
 ·have hs : (lt.map List.length).sum <= lt.length * 40:=Lns.zhO List.length 40 lt fun l hl=>by
   obtain ⟨j,hj,e⟩:=List.getElem_of_mem hl
   have hr : rs[j]? = some (rs[j]'(by rw [<- h.ln]; exact hj)):=List.getElem?_eq_getElem _
   obtain ⟨g1,_⟩:=h.one j l _ (by rw [List.getElem?_eq_getElem hj]; exact congrArg some e) hr
   have:=R.mn _ (List.mem_of_getElem? hr)
   omega
  have hl:=h.ln
  show (lt.map List.length).sum + 0 + 0 + 0 <= 2000 + 0
  omega
theorem zko {rs : List Cs.Row} {bs : List (Int × Int)} {b : Int × Int} {ls : List (List Mc.Mx)} {ah : List Int} (h : after rs bs bs.length = some (ls,ah)) (hc : zax rs ah b.1 b.2 = true) : after rs (bs ++ [b]) (bs ++ [b]).length = some (setLane rs ls ah b,ah ++ [b.1]):=by
 have e : after rs (bs ++ [b]) (bs ++ [b]).length = zlM rs (after rs bs bs.length) b:=by
  unfold after
  rw [List.take_length,List.take_length,List.foldl_append]
  rfl
 rw [e,h]
 show (if zax rs ah b.1 b.2 = true then some (setLane rs ls ah b,ah ++ [b.1]) else none) = _
 rw [if_pos hc]
theorem zmH : ∀ t w : Fin 128,Builtin.bitAnd (t.val : Int) (Builtin.bitAnd (t.val : Int) (w.val : Int)) = Builtin.bitAnd (t.val : Int) (w.val : Int) /\ 0 <= Builtin.bitAnd (t.val : Int) (w.val : Int) /\ Builtin.bitAnd (t.val : Int) (w.val : Int) < 128:=by decide +kernel
theorem zox {t w : Int} (ht : 0 <= t /\ t < 128) (hw : 0 <= w /\ w < 128) : Builtin.bitAnd t (Builtin.bitAnd t w) = Builtin.bitAnd t w /\ 0 <= Builtin.bitAnd t w /\ Builtin.bitAnd t w < 128:=by
 obtain ⟨j,rfl⟩:=Int.eq_ofNat_of_zero_le ht.1
 obtain ⟨k,rfl⟩:=Int.eq_ofNat_of_zero_le hw.1
 exact zmH ⟨j,by omega⟩ ⟨k,by omega⟩
theorem zsD {rs : List Cs.Row} {ah : List Int} {k : Nat} {r : Cs.Row} {te : Int} (hr : rs[k]? = some r) (hn : (ah.count (k : Int) : Int) < r.n) (h1 : 1 <= te) (ha : Builtin.bitAnd r.t te = te) : zax rs ah (k : Int) te = true:=by
 have hk:=(List.getElem?_eq_some_iff.mp hr).1
 unfold zax
 rw [if_pos ⟨by omega,by omega⟩,Int.toNat_natCast,hr]
 show (decide _ && decide _ && decide _) = true
 rw [decide_eq_true hn,decide_eq_true h1,decide_eq_true ha]
 rfl
def spF : Sp:=fun _ _ _ _=>False
theorem fnF {CX : CXT} {k : Nat} {f : Addr} {fd : FuncData} {ps : List Str} : FnOk P w K mg base CX k f fd ps spF:=⟨fun _ _ _ _ h=>h.elim,fun _ _ _ _ _ _ _ _ _ _ _ _ _ h=>h.elim⟩
def zeQ : Sp:=fun vs H Q _=>∃ (c : Addr) (xs : List V) (rs : List Cs.Row),vs = [.ref c,.non] /\ H c = some (.lst xs) /\ Paired (Cs.zbU H) xs rs /\ rs.length <= 100 /\ (∀ r ∈ rs,0 <= r.n /\ r.n <= 1000) /\
 (∀ (D : Addr) (ls : List Addr) H',H D = none -> Same H H' -> H' D = some (.lst (ls.map V.ref)) -> Paired (Mc.LnAt H') ls (Mc.zaP rs) -> (D :: ls).Nodup -> (∀ z ∈ ls,H z = none) -> Q (.ref D) H')
theorem zeC (T : Tx K mg a) : FnOk P w K mg base CX0 2 a.f_channels_of a.d_channels_of ["case","broken"] zeQ:=by
 have G_can_break : FnOk P w K mg base CX0 1 a.f_can_break a.d_can_break ["case","ahead","channel","teeth"] spF:=fnF
 refine T.channels_of.fn.ok zdl (fun vs H Q E h=>?_) (fun cdv A outer s H vs Q E hr h=>?_)
 ·obtain ⟨c,xs,rs,rfl,_⟩:=h
  rfl
 obtain ⟨c,xs,rs,rfl,hc,hpd,hrl,hrn,q⟩:=h
 have hxl:=Cs.zbC hpd
 refine ⟨_,(zab (zdP (i:=2) zdl.nd rfl (Or.inl rfl) rfl (zaC K rfl (pv 0)) (BlkOk.of (N':=["case","broken","channels","ahead","at","part","channel","lost","sign","width","own","many","teeth"]) (ms:=[8,9,11]) (k:=1) (by rfl)) (fun _ _ _ _ _=>(zbj K rfl (n:=4) rfl (zaj (zah (i:=8) (show List.Nodup (["case","broken","channels","ahead","at","part","channel","lost","sign","width","own","many","teeth"] : List Str) from by decide +kernel) rfl (Or.inl rfl)) (zaj (zah (i:=9) (show List.Nodup (["case","broken","channels","ahead","at","part","channel","lost","sign","width","own","many","teeth"] : List Str) from by decide +kernel) rfl (Or.inl rfl)) (zaj (zah (i:=12) (show List.Nodup (["case","broken","channels","ahead","at","part","channel","lost","sign","width","own","many","teeth"] : List Str) from by decide +kernel) rfl (Or.inl rfl)) (zaj (zah (i:=11) (show List.Nodup (["case","broken","channels","ahead","at","part","channel","lost","sign","width","own","many","teeth"] : List Str) from by decide +kernel) rfl (Or.inl rfl)) zbl)))))) (fun _ _ _ _ _=>zbK) (fun _ _ _ _ _=>(zar znt (zaE (zaa (zcM (zaa (pv 8) (zaa (pv 12) zad))) zad)) (pv 11))))
  (zab (zau (i:=3) zdl.nd rfl (Or.inl rfl) (zaE zad))
  (zab (zbE PassesOwn.never rfl (zex K rfl rfl T.b_enumerate (zaa (zgb (znf (zng (pv 1))) (zaE zad) (pv 1)) zad)) (zbj K rfl (n:=2) rfl (zaj (zah (i:=4) zdl.nd rfl (Or.inl rfl)) (zaj (zah (i:=5) zdl.nd rfl (Or.inl rfl)) zbl))) (zab (zeG (pv 5) (zbj K rfl (n:=2) rfl (zaj (zah (i:=6) zdl.nd rfl (Or.inl rfl)) (zaj (zah (i:=7) zdl.nd rfl (Or.inl rfl)) zbl))))
  (zab (zbp (zho (zcg (zaQ T.can_break G_can_break hr rfl (zaa (pv 0) (zaa (pv 3) (zaa (pv 6) (zaa (pv 7) zad))))))) (zae zep) zaB)
  (zab (zeG (zaK (zas K rfl) (pv 0) (pv 6) (fun _ _=>rfl)) (zbj K rfl (n:=4) rfl (zaj (zah (i:=8) zdl.nd rfl (Or.inl rfl)) (zaj (zah (i:=9) zdl.nd rfl (Or.inl rfl)) (zaj (zah (i:=10) zdl.nd rfl (Or.inl rfl)) (zaj (zah (i:=11) zdl.nd rfl (Or.inl rfl)) zbl))))))
  (zab (zeG (zcM (zaa (pv 8) (zaa (zar zdn (pv 10) (pv 7)) zad))) (znx (zaK (zas K rfl) (pv 2) (pv 6) (fun _ _=>rfl)) (zbo K rfl PySem.F.plainAttrs_list PySem.F.slot_list_count PySem.F.type_list_count zfV (pv 3) (zaa (pv 6) zad)) zjn))
  (zae (zaH (zbo K rfl PySem.F.plainAttrs_list PySem.F.slot_list_append PySem.F.type_list_append zaY (pv 3) (zaa (pv 6) zad)))))))))
  (zae (zav (pv 2)))))),?_⟩
 walk_at "rd"
 refine ⟨⟨_,SqL.of hc⟩,fun D hD=>?_⟩
 refine zaI (a:=c) (xs:=xs) (fun j zs σ H2=>∃ (w8 w9 w11 w12 : Option V),σ = [some (.ref c),some .non,none,none,none,none,none,none,w8,w9,none,w11,w12] /\ Same H H2 /\ H2 D = some (.lst zs) /\ Paired (Lan.zcd H D H2) zs ((Mc.zaP rs).take j) /\ zs.Nodup)
  ?_ ?_ ?_ ?_
 ·exact ⟨none,none,none,none,rfl,zaf hD _,upd_same,.nil,List.nodup_nil⟩
 ·rintro j zs σ H2 hj ⟨_,_,_,_,_,hs,_⟩
  exact hs.seq (SqL.of hc)
 ·rintro j y zs σ H2 hy hjl ⟨w8,w9,w11,w12,rfl,hs2,hh2,hz2,hzn⟩
  obtain ⟨r,hrj,t,rfl,ht⟩:=Cs.zaX hpd hy
  have hrb:=hrn r (List.mem_of_getElem? hrj)
  have hzl:=Paired.length hz2
  rw [List.length_take] at hzl
  refine ⟨_,_,rfl,SqT.of (hs2 _ _ ht),rfl,?_⟩
  walk_at "tg"
  walk_at "tg"
  walk_at "tg"
  walk_at "tg"
  try refine And.intro rfl ?_
  walk_at "rd"
  intro pt hpt
  have hs3:=zaf hpt (.tup [.str r.s,.int r.t])
  have h3t : upd H2 pt (.tup [.str r.s,.int r.t]) pt = some (.tup [.str r.s,.int r.t]):=upd_same
  generalize upd H2 pt (.tup [.str r.s,.int r.t]) = H3 at hs3 h3t ⊢
  walk_at "rd"
  intro p1 hp1
  have hs4:=zaf hp1 (.lst [.ref pt])
  have h41 : upd H3 p1 (.lst [.ref pt]) p1 = some (.lst [.ref pt]):=upd_same
  generalize upd H3 p1 (.lst [.ref pt]) = H4 at hs4 h41 ⊢
  walk_at "rd"
  refine ⟨p1,_,_,rfl,rfl,h41,by omega,by omega,zdq (by show 1 * r.n.toNat <= _; omega),fun p2 hp2=>?_⟩
  have efl : (List.replicate r.n.toNat [V.ref pt]).flatten = List.replicate r.n.toNat (V.ref pt):=by
   generalize r.n.toNat = n
   induction n with
   | zero=>rfl
   | succ n ih=>rw [List.replicate_succ,List.flatten_cons,ih]; rfl
  rw [efl]
  have hs5:=zaf hp2 (.lst (List.replicate r.n.toNat (V.ref pt)))
  have h52 : upd H4 p2 (.lst (List.replicate r.n.toNat (V.ref pt))) p2 = some (.lst (List.replicate r.n.toNat (V.ref pt))):=upd_same
  generalize upd H4 p2 (.lst (List.replicate r.n.toNat (V.ref pt))) = H5 at hs5 h52 ⊢
  have hs25:=hs3.trans (hs4.trans hs5)
  have hh5:=hs25 _ _ hh2
  have hpD : p2 ≠ D:=fun e=>by rw [e,(hs3.trans hs4) _ _ hh2] at hp2; cases hp2
  have hp20 : H2 p2 = none:=hs3.free (hs4.free hp2)
  refine zcz hjl hh5 (by omega) ⟨_,_,_,_,rfl,zan (hs2.trans hs25) hD,upd_same,?_,?_⟩
  ·have e0 : (Mc.zaP rs)[j]? = some (List.replicate r.n.toNat (r.s,r.t)):=by
    unfold Mc.zaP
    rw [List.getElem?_map,hrj]
    rfl
   rw [List.take_add_one,e0]
   refine Paired.snoc (Lan.zjC (Lan.zck hz2 hs25) hh5) ⟨p2,_,rfl,hpD,hs2.free hp20,by rw [zai hpD]; exact h52,Lan.zcr (Lan.zgp ⟨pt,rfl,(hs4.trans hs5) _ _ h3t⟩ _) hh5⟩
  ·rw [List.nodup_append]
   refine ⟨hzn,by simp,fun x hx y hy=>?_⟩
   rw [List.mem_singleton.mp hy]
   exact fun e=>Lan.zeY hz2 hp20 (e ▸ hx)
 ·rintro zs σ H2 ⟨w8,w9,w11,w12,rfl,hs2,hh2,hz2,hzn⟩
  rw [hxl,List.take_of_length_le (by unfold Mc.zaP; rw [List.length_map]; exact Nat.le_refl _)] at hz2
  obtain ⟨ls,rfl,hls,hnd,hfr⟩:=Mc.zft hz2 hzn
  walk_at "rd"
  intro ph hph
  have hs3:=zbP (o:=.lst []) hs2 hph
  have hs23:=zaf hph (.lst [])
  generalize upd H2 ph (.lst []) = H3 at hs3 hs23 ⊢
  walk_at "rd"
  intro pe hpe
  have hs4:=zbP (o:=.lst []) hs23 hpe
  have hs04:=zbP (o:=.lst []) hs3 hpe
  have h4e : upd H3 pe (.lst []) pe = some (.lst []):=upd_same
  generalize upd H3 pe (.lst []) = H4 at hs4 hs04 h4e ⊢
  refine ⟨pe,rfl,⟨_,SqL.of h4e⟩,?_⟩
  refine zeo (a:=pe) (xs:=[]) (fun i σ H5=>∃ (v4 v5 v6 v7 v8 v9 v10 v11 : Option V),σ = [some (.ref c),some .non,some (.ref D),some (.ref ph),v4,v5,v6,v7,v8,v9,v10,v11] /\ H5 = H4)
   ⟨none,none,none,none,none,none,none,none,rfl,rfl⟩ (by rintro i σ H5 _ ⟨_,_,_,_,_,_,_,_,_,e⟩; exact by rw [e]; exact SqL.of h4e) ?_ ?_
  ·rintro i y tp σ H5 hy _ _
   cases hy
  ·rintro σ H5 ⟨v4,v5,v6,v7,v8,v9,v10,v11,rfl,rfl⟩
   refine ⟨_,rfl,?_⟩
   exact q D ls H5 hD hs04 (hs4 _ _ hh2) (Mc.zbH (Mc.Keep.of_same (S:=fun _=>True) hs4) (fun _ _=>trivial) hls) hnd hfr
def zmm (a : Ad) : Sp:=fun vs H Q _=>∃ (p pc dx : Addr) (c : Mc.Cf) (xs : List V),vs = [.ref p,.ref pc,.str c.keys,.int c.cast,.non] /\ H p = some (.ins a.c_Machine dx []) /\ H pc = some (.lst xs) /\ Paired (Cs.zbU H) xs c.rs /\ Mc.OkC c /\ Lns.zbh c.rs false c.keys.cps.toList = true /\ (∀ r ∈ c.rs,0 <= r.n /\ r.n <= 1000) /\
 ∀ A H',MA a c H' p A (Mc.start c.rs) -> Mc.Off p H H' -> (∀ b ∈ A.all,H b = none) -> Q .non H'
theorem zef (T : Tx K mg a) : FnOk P w K mg base CX0 4 a.f_Machine_init a.d_Machine_init ["self","case","keys","casting","broken"] (zmm a):=by
 have G_look_at_keys:=zcG (P:=P) (w:=w) (base:=base) T
 have G_channels_of:=zeC (P:=P) (w:=w) (base:=base) T
 refine T.Machine.fn.ok zcN (fun vs H Q E h=>?_) (fun cdv A outer s H vs Q E hr h=>?_)
 ·obtain ⟨p,pc,dx,c,xs,rfl,_⟩:=h
  rfl
 obtain ⟨p,pc,dx,c,xs,rfl,hp,hc,hpd,OC,hok,hrn,q⟩:=h
 have hfew:=OC.few
 have I0 : IA a H p (List.replicate zfJ.length none):=⟨dx,[],hp,FS.nil (by decide)⟩
 refine ⟨_,(zab (zaH (zaQ T.look_at_keys G_look_at_keys hr rfl (zaa (pv 1) (zaa (pv 2) zad))))
  (zab (zbm (K:=K) rfl T.Machine.cl T.n_Machine_lying zaO (pv 0) (zaQ T.channels_of G_channels_of hr rfl (zaa (pv 1) (zaa (pv 4) zad))))
  (zab (zbm (K:=K) rfl T.Machine.cl T.n_Machine_case zbb (pv 0) (zdI (zeu K rfl) rfl T.b_list zgu (zaa (pv 1) zad)))
  (zab (zbm (K:=K) rfl T.Machine.cl T.n_Machine_played zbd (pv 0) (pv 2))
  (zab (zbm (K:=K) rfl T.Machine.cl T.n_Machine_struck zaz (pv 0) zag)
  (zab (zbm (K:=K) rfl T.Machine.cl T.n_Machine_casting zbF (pv 0) (pv 3))
  (zab (zbm (K:=K) rfl T.Machine.cl T.n_Machine_line zaT (pv 0) (zaE zad))
  (zab (zbm (K:=K) rfl T.Machine.cl T.n_Machine_heated zat (pv 0) (zaE zad))
  (zab (zbm (K:=K) rfl T.Machine.cl T.n_Machine_to_go zaN (pv 0) zag)
  (zab (zbm (K:=K) rfl T.Machine.cl T.n_Machine_hanging zaD (pv 0) (zaE zad))
  (zab (zbm (K:=K) rfl T.Machine.cl T.n_Machine_texts zbT (pv 0) (zaE zad))
  (zab (zbm (K:=K) rfl T.Machine.cl T.n_Machine_done zaS (pv 0) zag)
  (zae (zbm (K:=K) rfl T.Machine.cl T.n_Machine_waits zbu (pv 0) zag)))))))))))))),?_⟩
 walk_at "rd"
 refine ⟨pc,_,c.rs,rfl,⟨xs,SqL.of hc,hpd⟩,OC.short,hok,OC.ends,fun H1 hs1=>?_⟩
 walk_at "rd"
 refine ⟨pc,xs,c.rs,rfl,hs1 _ _ hc,Cs.zay hpd hs1,by omega,hrn,fun D ls H2 hD hs2 hD2 hls hnd hfr=>?_⟩
 have I2:=I0.same (hs1.trans hs2)
 walk_at "rd"
 refine fun H3 I3 k3=>?_
 have o3:=(Mc.Off.of_same (p:=p) (hs1.trans hs2)).trans (Mc.Off.of_fld k3)
 have hpcp:=Mc.zgN I0 hc
 walk_at "rd"
 refine ⟨pc,xs,rfl,.inl (SqL.of (o3 _ _ hpcp hc)),fun e4 he4=>?_⟩
 have hs4:=zaf he4 (.lst xs)
 have h44 : upd H3 e4 (.lst xs) e4 = some (.lst xs):=upd_same
 have I4:=I3.same hs4
 generalize upd H3 e4 (.lst xs) = H4 at hs4 h44 I4 ⊢
 walk_at "rd"
 refine fun H5 I5 k5=>?_
 have o5:=(Mc.Off.of_same (p:=p) hs4).trans (Mc.Off.of_fld k5)
 walk_at "rd"
 refine fun H6 I6 k6=>?_
 walk_at "rd"
 refine fun H7 I7 k7=>?_
 walk_at "rd"
 refine fun H8 I8 k8=>?_
 have o8:=((Mc.Off.of_fld k6).trans (Mc.Off.of_fld k7)).trans (Mc.Off.of_fld k8)
 walk_at "rd"
 refine fun e9 he9=>?_
 have hs9:=zaf he9 (.lst [])
 have h99 : upd H8 e9 (.lst []) e9 = some (.lst []):=upd_same
 have I9:=I8.same hs9
 generalize upd H8 e9 (.lst []) = H9 at hs9 h99 I9 ⊢
 walk_at "rd"
 refine fun H10 I10 k10=>?_
 have o10:=(Mc.Off.of_same (p:=p) hs9).trans (Mc.Off.of_fld k10)
 walk_at "rd"
 refine fun e11 he11=>?_
 have hs11:=zaf he11 (.lst [])
 have h111 : upd H10 e11 (.lst []) e11 = some (.lst []):=upd_same
 have I11:=I10.same hs11
 generalize upd H10 e11 (.lst []) = H11 at hs11 h111 I11 ⊢
 walk_at "rd"
 refine fun H12 I12 k12=>?_
 walk_at "rd"
 refine fun H13 I13 k13=>?_
 have o13:=((Mc.Off.of_same (p:=p) hs11).trans (Mc.Off.of_fld k12)).trans (Mc.Off.of_fld k13)
 walk_at "rd"
 refine fun e14 he14=>?_
 have hs14:=zaf he14 (.lst [])
 have h144 : upd H13 e14 (.lst []) e14 = some (.lst []):=upd_same
 have I14:=I13.same hs14
 generalize upd H13 e14 (.lst []) = H14 at hs14 h144 I14 ⊢
 walk_at "rd"
 refine fun H15 I15 k15=>?_
 have o15:=(Mc.Off.of_same (p:=p) hs14).trans (Mc.Off.of_fld k15)
 walk_at "rd"
 refine fun e16 he16=>?_
 have hs16:=zaf he16 (.lst [])
 have h166 : upd H15 e16 (.lst []) e16 = some (.lst []):=upd_same
 have I16:=I15.same hs16
 generalize upd H15 e16 (.lst []) = H16 at hs16 h166 I16 ⊢
 walk_at "rd"
 refine fun H17 I17 k17=>?_
 walk_at "rd"
 refine fun H18 I18 k18=>?_
 walk_at "rd"
 refine fun H19 I19 k19=>?_
 have o19:=(((Mc.Off.of_same (p:=p) hs16).trans (Mc.Off.of_fld k17)).trans (Mc.Off.of_fld k18)).trans (Mc.Off.of_fld k19)
 have I19 : IA a H19 p (Mc.vals c ⟨D,e4,e9,e11,e14,e16,ls⟩ (Mc.start c.rs)):=I19
 -- from each list's begin to the end
 have o05:=o3.trans o5
 have o08:=o05.trans o8
 have o010:=o08.trans o10
 have o013:=o010.trans o13
 have o015:=o013.trans o15
 have o019:=o015.trans o19
 have f15:=o19
 have f13:=o15.trans f15
 have f10:=o13.trans f13
 have f8:=o10.trans f10
 have f5:=o8.trans f8
 have f3:=o5.trans f5
 have f2:=(Mc.Off.of_fld k3).trans f3
 have f4:=(Mc.Off.of_fld k5).trans f5
 have f9:=(Mc.Off.of_fld k10).trans f10
 have f11:=((Mc.Off.of_fld k12).trans (Mc.Off.of_fld k13)).trans f13
 have f14:=(Mc.Off.of_fld k15).trans f15
 have f16:=((Mc.Off.of_fld k17).trans (Mc.Off.of_fld k18)).trans (Mc.Off.of_fld k19)
 have hDp:=Mc.zgN I2 hD2
 have hlp : ∀ z ∈ ls,z ≠ p:=fun z hz=>Mc.zbR (I0.same hs1) (hfr z hz)
 have n4:=Mc.zbR I3 he4
 have n9:=Mc.zbR I8 he9
 have n11:=Mc.zbR I10 he11
 have n14:=Mc.zbR I13 he14
 have n16:=Mc.zbR I15 he16
 have Lls : Paired (Mc.LnAt H19) ls (Mc.start c.rs).lanes:=Mc.zbH (Mc.Off.keep I2 f2) hlp hls
 have some_ls : ∀ z ∈ ls,∃ ws,H2 z = some (.lst ws):=fun z hz=>by
  obtain ⟨i,hi,e⟩:=List.getElem_of_mem hz
  obtain ⟨_,_,ws,hw,_⟩:=Cs.zaX hls (List.getElem?_eq_getElem hi)
  rw [e] at hw
  exact ⟨ws,hw⟩
 have dif : ∀ {x e : Addr} {Hk : Hp} {ws : List V},Hk x = some (.lst ws) -> Hk e = none -> x ≠ e:=fun h1 h2 z=>by rw [z,h2] at h1; cases h1
 obtain ⟨hn1,hn2⟩:=List.nodup_cons.mp hnd
 have g3:=Mc.Off.of_fld k3
 have g8:=(g3.trans o5).trans o8
 have g10:=g8.trans o10
 have g13:=g10.trans o13
 have g15:=g13.trans o15
 have lsn : ∀ {e : Addr} {Hk : Hp},Mc.Off p H2 Hk -> Hk e = none -> e ∉ ls:=fun o h hz=>by
  obtain ⟨ws,hw⟩:=some_ls _ hz
  rw [o _ _ (hlp _ hz) hw] at h
  cases h
 refine q ⟨D,e4,e9,e11,e14,e16,ls⟩ H19 ⟨I19,?_,⟨⟨xs,f4 _ _ n4 h44,?_⟩,f2 _ _ hDp hD2,Lls,⟨[],f9 _ _ n9 h99,.nil⟩,⟨[],f11 _ _ n11 h111,.nil⟩,⟨[],f14 _ _ n14 h144,.nil⟩,f16 _ _ n16 h166⟩⟩ o019 ?_
 ·unfold Mc.Adr.all
  simp only [List.nodup_cons,List.mem_cons,not_or]
  exact ⟨⟨dif (g3 _ _ hDp hD2) he4,dif (g8 _ _ hDp hD2) he9,dif (g10 _ _ hDp hD2) he11,dif (g13 _ _ hDp hD2) he14,dif (g15 _ _ hDp hD2) he16,hn1⟩,
   ⟨dif (((Mc.Off.of_fld k5).trans o8) _ _ n4 h44) he9,dif ((((Mc.Off.of_fld k5).trans o8).trans o10) _ _ n4 h44) he11,dif (((((Mc.Off.of_fld k5).trans o8).trans o10).trans o13) _ _ n4 h44) he14,dif ((((((Mc.Off.of_fld k5).trans o8).trans o10).trans o13).trans o15) _ _ n4 h44) he16,lsn g3 he4⟩,
   ⟨dif ((Mc.Off.of_fld k10) _ _ n9 h99) he11,dif (((Mc.Off.of_fld k10).trans o13) _ _ n9 h99) he14,dif ((((Mc.Off.of_fld k10).trans o13).trans o15) _ _ n9 h99) he16,lsn g8 he9⟩,
   ⟨dif (((Mc.Off.of_fld k12).trans (Mc.Off.of_fld k13)) _ _ n11 h111) he14,dif ((((Mc.Off.of_fld k12).trans (Mc.Off.of_fld k13)).trans o15) _ _ n11 h111) he16,lsn g10 he11⟩,
   ⟨dif ((Mc.Off.of_fld k15) _ _ n14 h144) he16,lsn g13 he14⟩,lsn g15 he16,hn2⟩
 ·exact Mc.zbA (Mc.Off.keep I0 o019) hpd
 ·unfold Mc.Adr.all
  intro b hb
  simp only [List.mem_cons] at hb
  rcases hb with rfl | rfl | rfl | rfl | rfl | rfl | hb
  ·exact hs1.free hD
  ·exact o3.free I3 he4
  ·exact o08.free I8 he9
  ·exact o010.free I10 he11
  ·exact o013.free I13 he14
  ·exact o015.free I15 he16
  ·exact hs1.free (hfr b hb)
def zlp : List V:=[.int 1,.int 2,.int 4,.int 8,.int 16,.int 32,.int 64]
theorem zjF : ∀ k : Nat,k < 7 -> atI zlp (k : Int) = some (.int (2 ^ k)):=by
 intro k hk
 refine zaF ?_
 match k,hk with
 | 0,_=>rfl
 | 1,_=>rfl
 | 2,_=>rfl
 | 3,_=>rfl
 | 4,_=>rfl
 | 5,_=>rfl
 | 6,_=>rfl
theorem bits7_int {i : Int} (h0 : 0 <= i) (h1 : i < 7) : ∃ k : Nat,k < 7 /\ atI zlp i = some (.int (2 ^ k)):=by
 refine ⟨i.toNat,by omega,?_⟩
 have:=zjF i.toNat (by omega)
 rw [show ((i.toNat : Nat) : Int) = i by omega] at this
 exact this
theorem pow7 : ∀ k : Nat,k < 7 -> (0 : Int) < 2 ^ k /\ (2 : Int) ^ k < 1073741824 /\ (2 : Int) ^ k <= 64:=by decide
def zkk : Sp:=fun vs H Q _=>∃ t o : Int,vs = [.int t,.int o] /\ 0 <= t /\ 0 <= o /\ o < 128 /\ Q (.bl (Mt.has t o)) H
theorem zfH (T : Tx K mg a) : FnOk P w K mg base CX0 1 a.f_law_has a.d_law_has ["_law_code","_law_teeth"] zkk:=by
 refine T.law_has.fn.ok zjY (fun vs H Q E h=>?_) (fun cdv A outer s H vs Q E hr h=>?_)
 ·obtain ⟨t,o,rfl,_⟩:=h
  rfl
 obtain ⟨t,o,rfl,h1,h2,h3,q⟩:=h
 refine ⟨_,(zab (zey PassesOwn.never (zao zjZ (pv 1) zag (zap _)) (zab (zbp (PW.pt (zdp (zao zcU (zar zbi (pv 1) zag) zag (zap _)) (zci (zao zcU (zar zbi (pv 0) zag) zag (zap _))))) (zae (zav zeg)) zaB)
  (zab (zau (i:=1) zjY.nd rfl (Or.inl rfl) (zar zbx (pv 1) zag))
  (zae (zau (i:=0) zjY.nd rfl (Or.inl rfl) (zar zbx (pv 0) zag))))))
  (zae (zav zeg))),?_⟩
 have h7 : o / 2 ^ 7 <= 0:=by
  rw [show (2 : Int) ^ 7 = 128 by decide]
  omega
 refine ⟨fun n σ H2=>∃ i : Nat,n = 8 - i /\ i <= 7 /\ σ = [some (.int (t / 2 ^ i)),some (.int (o / 2 ^ i))] /\ H2 = H /\ ∀ k,k < i -> o / 2 ^ k % 2 <= t / 2 ^ k % 2,⟨8,0,rfl,by decide,by rw [Int.pow_zero,Int.ediv_one,Int.ediv_one]; rfl,rfl,fun k hk=>absurd hk (Nat.not_lt_zero _)⟩,?_⟩
 rintro n σ H2 ⟨i,rfl,hi,rfl,rfl,hb⟩
 walk_at "rd"
 refine ite2 (fun c=>?_) (fun c=>?_)
 ·have c : 0 < o / 2 ^ i:=of_decide_eq_true c
  have hi7 : i < 7:=Nat.lt_of_le_of_ne hi fun e=>by
   rw [e] at c
   omega
  refine ⟨fun σ' H'=>σ' = [some (.int (t / 2 ^ (i + 1))),some (.int (o / 2 ^ (i + 1)))] /\ H' = H2 /\ ∀ k,k < i + 1 -> o / 2 ^ k % 2 <= t / 2 ^ k % 2,fun σ' H' h=>⟨8 - (i + 1),by omega,i + 1,rfl,hi7,h⟩,?_⟩
  have hb1:=zdY (x:=o / 2 ^ i)
  have hb2:=zdY (x:=t / 2 ^ i)
  have go : o / 2 ^ i % 2 <= t / 2 ^ i % 2 -> ∀ k,k < i + 1 -> o / 2 ^ k % 2 <= t / 2 ^ k % 2:=fun h k hk=>by
   by_cases e : k = i
   ·rw [e]; exact h
   ·exact hb k (by omega)
  rw [<- zew,<- zew]
  generalize hot : o / 2 ^ i = oi at *
  generalize htt : t / 2 ^ i = ti at *
  walk_at "rd"
  rw [decV]
  refine ite2 (fun c1=>?_) (fun c1=>?_)
  ·have c1 : oi % 2 = 1:=of_decide_eq_true c1
   walk_at "rd"
   rw [decV]
   refine ite2 (fun c2=>?_) (fun c2=>?_)
   ·have c2 : ti % 2 = 0:=of_decide_eq_true c2
    walk_at "rd"
    have e : Mt.has t o = false:=decide_eq_false fun h=>by
     have:=h i hi7
     rw [hot,htt] at this
     omega
    rw [e] at q
    exact q
   ·have c2 : ¬ ti % 2 = 0:=fun z=>c2 (decide_eq_true z)
    walk_at "rd"
    first | exact ⟨rfl,rfl,go (by omega)⟩ | exact go (by omega)
  ·have c1 : ¬ oi % 2 = 1:=fun z=>c1 (decide_eq_true z)
   try refine iteF ?_
   walk_at "rd"
   first | exact ⟨rfl,rfl,go (by omega)⟩ | exact go (by omega)
 ·have c : o / 2 ^ i <= 0:=Int.not_lt.mp fun z=>c (decide_eq_true z)
  walk_at "rd"
  have e : Mt.has t o = true:=decide_eq_true fun k hk=>by
   by_cases h : k < i
   ·exact hb k h
   ·rw [zkB h2 c (Nat.not_lt.mp h)]
    exact zdY.1
  rw [e] at q
  exact q
def zhN (K : PySem.W.Frag) : Sp:=fun vs H Q _=>∃ (l : Addr) (t : Int) (cs : List Int),vs = [.ref l,.int t] /\ SqL K H l (cs.map V.int) /\ cs.length <= 1000 /\ (∀ c ∈ cs,0 <= c) /\ 0 <= t /\ t < 128 /\ ∀ H',Same H H' -> Q (Mt.optV (Mt.zaG cs t)) H'
theorem zcR (T : Tx K mg a) : FnOk P w K mg base CX0 2 a.f_law_falls a.d_law_falls ["_law_codes_here","_law_teeth"] (zhN K):=by
 have G_law_has:=zfH (P:=P) (w:=w) (base:=base) T
 refine T.law_falls.fn.ok zhu (fun vs H Q E h=>?_) (fun cdv A outer s H vs Q E hr h=>?_)
 ·obtain ⟨l,t,cs,rfl,_⟩:=h
  rfl
 obtain ⟨l,t,cs,rfl,hS,hl,hcb,ht0,ht1,q⟩:=h
 refine ⟨_,(zab (zbE PassesOwn.never rfl (zbt rfl T.b_range (zaa (zaJ (zbf K rfl) rfl T.b_len zbY (zaa (pv 0) zad)) zad)) (zah (i:=2) zhu.nd rfl (Or.inl rfl)) (zae (zbp (zcg (zaQ T.law_has G_law_has hr rfl (zaa (zaK (zas K rfl) (pv 0) (pv 2) (fun _ _=>rfl)) (zaa (pv 1) zad)))) (zae (zav (pv 2))) zaB)))
  (zae (zav zgG))),?_⟩
 have hlen : (cs.map V.int).length = cs.length:=List.length_map _
 walk_at "rd"
 refine ⟨l,_,rfl,.inl hS,?_⟩
 rw [hlen]
 refine ⟨_,rfl,by omega,by omega,?_⟩
 refine zbW (n:=cs.length) (fun i σ H2=>∃ (v1 : Option V),σ = [some (.ref l),some (.int t),v1] /\ Same H H2 /\ ∀ (j : Nat) c',j < i -> cs[j]? = some c' -> Mt.has c' t = false)
  ⟨none,rfl,Same.refl _,fun j _ h=>absurd h (Nat.not_lt_zero _)⟩ ?_ ?_
 ·rintro i σ H2 hi ⟨v1,rfl,hs,hb⟩
  have hci : cs[i]? = some cs[i]:=List.getElem?_eq_getElem hi
  have hat : atI (cs.map V.int) (0 + (i : Int)) = some (.int cs[i]):=by rw [Int.zero_add]; exact zaF (by rw [List.getElem?_map,hci] <;> rfl)
  walk_at "rd"
  refine ⟨l,_,_,_,rfl,rfl,hs.seq hS,hat,?_⟩
  walk_at "rd"
  refine ⟨_,_,rfl,hcb _ (List.getElem_mem hi),ht0,ht1,?_⟩
  have hs2:=hs
  walk_at "rd"
  cases e : Mt.has cs[i] t with
  | true =>
    refine iteT ?_
    walk_at "rd"
    have:=q _ hs2
    rw [Mt.zdV hci e hb] at this
    rw [Int.zero_add]
    exact this
  | false =>
    refine iteF ?_
    refine ⟨_,rfl,hs2,fun j c' hj hc'=>?_⟩
    by_cases z : j = i
    ·subst z
     rw [hci] at hc'
     cases hc'
     exact e
    ·exact hb j c' (by omega) hc'
 ·rintro σ H2 ⟨v1,rfl,hs,hb⟩
  have:=q _ hs
  rw [Mt.zfB (fun j c' hj=>hb j c' hj)] at this
  exact this
def zfh (K : PySem.W.Frag) : Sp:=fun vs H Q _=>∃ (l : Addr) (ch wh : Nat) (cs : List Int) (own : Int),vs = [.ref l,.int (ch : Int),.int (wh : Int)] /\ SqL K H l (cs.map V.int) /\ cs.Nodup /\ (∀ c ∈ cs,0 <= c /\ c < 128) /\ cs.length <= 1000 /\ Mt.Fit cs /\ cs[ch]? = some own /\ wh < cs.length /\
 ∀ (r : Addr) (H' : Hp),H r = none -> Same H H' -> H' r = some (.lst ((Mt.sets cs own wh).map V.int)) -> Q (.ref r) H'
theorem zdm (T : Tx K mg a) : FnOk P w K mg base CX0 3 a.f_broken_sets a.d_broken_sets ["codes","channel","where"] (zfh K):=by
 have G_has_all:=zfG (P:=P) (w:=w) (base:=base) T
 have G_falls_at:=zeZ (P:=P) (w:=w) (base:=base) T
 refine T.broken_sets.fn.ok zfs (fun vs H Q E h=>?_) (fun cdv A outer s H vs Q E hr h=>?_)
 ·obtain ⟨l,ch,wh,cs,own,rfl,_⟩:=h
  rfl
 obtain ⟨l,ch,wh,cs,own,rfl,hS,hnd,hc,hl,hft,hch,hwl,q⟩:=h
 refine ⟨_,(zab (zau (i:=3) zfs.nd rfl (Or.inr rfl) (zaK (zas K rfl) (pv 0) (pv 1) (fun _ _=>rfl)))
  (zab (zdP (i:=4) zfs.nd rfl (Or.inl rfl) rfl (zbt rfl T.b_range (zaa (zar zbs (pv 3) zag) zad)) (BlkOk.of (N':=["codes","channel","where","own","sets","broken"]) (ms:=[]) (k:=1) (by rfl)) (fun _ _ _ _ _=>(zah (i:=5) (show List.Nodup (["codes","channel","where","own","sets","broken"] : List Str) from by decide +kernel) rfl (Or.inl rfl))) (fun _ _ _ _ _=>(zdU (zcg (zaQ T.has_all G_has_all hr rfl (zaa (pv 3) (zaa (pv 5) zad)))))) (fun _ _ _ _ _=>(pv 5)))
  (zae (zav (zbg rfl (zaC K rfl (pv 4)) (BlkOk.of (N':=["codes","channel","where","own","sets","broken"]) (ms:=[]) (k:=1) (by rfl)) (fun _ _ _ _ _=>(zah (i:=5) (show List.Nodup (["codes","channel","where","own","sets","broken"] : List Str) from by decide +kernel) rfl (Or.inl rfl))) (fun _ _ _ _ _=>(zdU (zao zcU (zaQ T.falls_at G_falls_at hr rfl (zaa (pv 0) (zaa (zar zdn (pv 3) (pv 5)) zad))) (pv 2) (zap _)))) (fun _ _ _ _ _=>(pv 5))))))),?_⟩
 have hob:=hc own (List.mem_of_getElem? hch)
 have hat : atI (cs.map V.int) (ch : Int) = some (.int own):=zaF (by rw [List.getElem?_map,hch] <;> rfl)
 walk_at "rd"
 refine ⟨l,_,_,_,rfl,rfl,hS,hat,?_⟩
 walk_at "rd"
 intro D hD
 have hn : (own + 1).toNat = own.toNat + 1:=by omega
 refine zdQ (n:=(own + 1).toNat) (fun i ys σ H2=>∃ (v5 : Option V),ys = ((Mt.upto i).filter fun b=>Mt.has own b).map V.int /\ σ = [some (.ref l),some (.int ch),some (.int wh),some (.int own),none,v5] /\ Same H H2 /\ H2 D = some (.lst ys))
  ?_ ?_ ?_
 ·exact ⟨none,rfl,rfl,zaf hD _,upd_same⟩
 ·rintro i ys σ H2 hi ⟨v5,rfl,rfl,hs,hh⟩
  have hul : ((Mt.upto i).filter fun b=>Mt.has own b).length <= 128:=by
   have h1 : ((Mt.upto i).filter fun b=>Mt.has own b).length <= (Mt.upto i).length:=List.length_filter_le _ _
   rw [Mt.zgv] at h1
   omega
  walk_at "rd"
  refine ⟨_,_,rfl,hob.1,by omega,by omega,?_⟩
  rw [Int.zero_add]
  walk_at "rd"
  refine ite2 (fun h1=>?_) (fun h1=>?_)
  ·walk_at "rd"
   refine zcz hi hh (by rw [List.length_map]; omega) ⟨_,?_,rfl,zan hs hD,upd_same⟩
   rw [Mt.zcQ,List.filter_append,Mt.zrO h1,List.map_append]
   rfl
  ·refine ziS hi ⟨_,?_,rfl,hs,hh⟩
   rw [Mt.zcQ,List.filter_append,Mt.zpp h1,List.append_nil]
 ·rintro ys σ H2 ⟨v5,rfl,rfl,hs,hh⟩
  rw [hn] at hh
  have hh : H2 D = some (.lst ((Mt.subs own).map V.int)):=hh
  walk_at "rd"
  refine ⟨⟨_,SqL.of hh⟩,fun D2 hD2=>?_⟩
  refine zaI (a:=D) (xs:=(Mt.subs own).map V.int) (fun i ys σ H3=>∃ (v5 : Option V),ys = (((Mt.subs own).take i).filter fun b=>decide (Mt.zaG cs (own - b) = some wh)).map V.int /\ σ = [some (.ref l),some (.int ch),some (.int wh),some (.int own),some (.ref D),v5] /\ Same H2 H3 /\ H3 D2 = some (.lst ys))
   ?_ ?_ ?_ ?_
  ·exact ⟨none,rfl,rfl,zaf hD2 _,upd_same⟩
  ·exact fun i ys σ H3 _ ⟨_,_,_,hs3,_⟩=>SqL.of (hs3 _ _ hh)
  ·rintro i y ys σ H3 hy hil ⟨v5,rfl,rfl,hs3,hh3⟩
   obtain ⟨b,rfl,hbi⟩:=zaR hy
   have hbb:=Mt.zga hob.1 (List.mem_of_getElem? hbi)
   have htk : (Mt.subs own).take (i + 1) = (Mt.subs own).take i ++ [b]:=by rw [List.take_add_one,hbi]; rfl
   have hul : (((Mt.subs own).take i).filter fun b=>decide (Mt.zaG cs (own - b) = some wh)).length <= 128:=by
    have h1 : (((Mt.subs own).take i).filter fun b=>decide (Mt.zaG cs (own - b) = some wh)).length <= ((Mt.subs own).take i).length:=List.length_filter_le _ _
    rw [List.length_take] at h1
    have:=Mt.zgB hob.2
    omega
   walk_at "rd"
   refine ⟨l,_,cs,rfl,(hs.trans hs3).seq hS,fun c hc'=>(hc c hc').1,(by show (0 : Int) <= _; omega),(by show _ < (128 : Int); omega),fun H4 hs4=>?_⟩
   dsimp only
   have hsc : scal (Mt.optV (Mt.zaG cs (own - b))) (V.int (wh : Int)) = true:=by cases Mt.zaG cs (own - b) <;> rfl
   walk_at "rd"
   try refine ⟨hsc,_,rfl,?_⟩
   rw [Mt.zqL]
   refine ite2 (fun h1=>?_) (fun h1=>?_)
   ·walk_at "rd"
    refine zcz hil (hs4 _ _ hh3) (by rw [List.length_map]; omega) ⟨_,?_,rfl,zan (hs3.trans hs4) hD2,upd_same⟩
    rw [htk,List.filter_append,Mt.zrO (p:=fun b=>decide (Mt.zaG cs (own - b) = some wh)) h1,List.map_append]
    rfl
   ·refine ziS hil ⟨_,?_,rfl,hs3.trans hs4,hs4 _ _ hh3⟩
    rw [htk,List.filter_append,Mt.zpp (p:=fun b=>decide (Mt.zaG cs (own - b) = some wh)) h1,List.append_nil]
  ·rintro ys σ H3 ⟨v5,rfl,rfl,hs3,hh3⟩
   rw [List.length_map,List.take_of_length_le (Nat.le_refl _)] at hh3
   exact q D2 H3 (hs.free hD2) (hs.trans hs3) hh3
def zdH : Sp:=fun vs H Q _=>∃ c : Int,vs = [.int c] /\ 0 <= c /\ c < 128 /\ ∀ H',Same H H' -> Q (.int (Mt.pc c)) H'
theorem zdG (T : Tx K mg a) : FnOk P w K mg base CX0 1 a.f_number_of_teeth a.d_number_of_teeth ["teeth"] zdH:=by
 refine T.number_of_teeth.fn.ok zdD (fun vs H Q E h=>?_) (fun cdv A outer s H vs Q E hr h=>?_)
 ·obtain ⟨c,rfl,_⟩:=h
  rfl
 obtain ⟨c,rfl,h0,h1,q⟩:=h
 refine ⟨_,(zae (zav (zaJ (ksum K rfl rfl) rfl T.b_sum znc (zaa (zbg rfl (zbt rfl T.b_range (zaa (zoy K rfl PySem.F.plainAttrs_int PySem.F.slot_int_bit_length PySem.F.type_int_bit_length zlI (pv 0)) zad)) (BlkOk.of (N':=["teeth","place"]) (ms:=[]) (k:=1) (by rfl)) (fun _ _ _ _ _=>(zah (i:=1) (show List.Nodup (["teeth","place"] : List Str) from by decide +kernel) rfl (Or.inl rfl))) (fun _ _ _ _ _=>zbK) (fun _ _ _ _ _=>(zar zll (zar zqt (pv 0) (pv 1)) zag))) zad)))),?_⟩
 obtain ⟨hb7,hsum⟩:=Mt.zlj h0 h1
 walk_at "rd"
 intro D hD
 refine zdQ (n:=Builtin.Int.intBits c) (fun i ys σ H2=>∃ (v1 : Option V),ys = ((List.range i).map fun k=>Builtin.bitAnd (c / 2 ^ k) 1).map V.int /\ σ = [some (.int c),v1] /\ Same H H2 /\ H2 D = some (.lst ys))
  ?_ ?_ ?_
 ·exact ⟨none,rfl,rfl,zaf hD _,upd_same⟩
 ·rintro i ys σ H2 hi ⟨v1,rfl,rfl,hs,hh⟩
  walk_at "rd"
  refine zcz hi hh ?_ ⟨_,?_,rfl,zan hs hD,upd_same⟩
  ·rw [List.length_map,List.length_map,List.length_range]
   omega
  ·rw [List.range_succ,List.map_append,List.map_append,Int.zero_add]
   rfl
 ·rintro ys σ H2 ⟨v1,rfl,rfl,hs,hh⟩
  refine ⟨D,_,rfl,SqL.of hh,?_⟩
  rw [hsum]
  exact q _ hs
def zel (K : PySem.W.Frag) : Sp:=fun vs H Q _=>∃ (l : Addr) (ch wh : Nat) (cs : List Int) (own : Int),vs = [.ref l,.int (ch : Int),.int (wh : Int)] /\ SqL K H l (cs.map V.int) /\ cs.Nodup /\ (∀ c ∈ cs,0 <= c /\ c < 128) /\ cs.length <= 1000 /\ Mt.Fit cs /\ cs[ch]? = some own /\ wh < cs.length /\
 ∀ H',Same H H' -> Q (Mt.optI (Mt.zfw cs own wh)) H'
theorem zgS {cs : List Int} {own : Int} {wh : Nat} : Mt.zfw cs own wh = zfb ((Mt.sets cs own wh).map Mt.pc):=by
 by_cases h : Mt.sets cs own wh = []
 ·rw [Mt.zir h,h]; rfl
 ·obtain ⟨m,h1,h2,b,hb,h3⟩:=Mt.zeP h
  rw [h1]
  exact (leastO_some.mpr ⟨List.mem_map.mpr ⟨b,hb,h3⟩,fun y hy=>by
   obtain ⟨b2,hb2,rfl⟩:=List.mem_map.mp hy
   exact h2 b2 hb2⟩).symm
theorem zee (T : Tx K mg a) : FnOk P w K mg base CX0 4 a.f_fewest_broken a.d_fewest_broken ["codes","channel","where"] (zel K):=by
 have G_broken_sets:=zdm (P:=P) (w:=w) (base:=base) T
 have G_number_of_teeth:=zdG (P:=P) (w:=w) (base:=base) T
 refine T.fewest_broken.fn.ok zei (fun vs H Q E h=>?_) (fun cdv A outer s H vs Q E hr h=>?_)
 ·obtain ⟨l,ch,wh,cs,own,rfl,_⟩:=h
  rfl
 obtain ⟨l,ch,wh,cs,own,rfl,hS,hnd,hc,hl,hft,hch,hwl,q⟩:=h
 have hob:=hc own (List.mem_of_getElem? hch)
 have hsb : ∀ b ∈ Mt.sets cs own wh,0 <= b /\ b < 128:=fun b hb=>by
  have h1:=Mt.zga hob.1 (List.mem_filter.mp hb).1
  omega
 have hsl : (Mt.sets cs own wh).length <= 128:=by
  have h1 : (Mt.sets cs own wh).length <= (Mt.subs own).length:=List.length_filter_le _ _
  have:=Mt.zgB hob.2
  omega
 refine ⟨_,(zae (zav (zmD K rfl rfl rfl T.b_min (zbg rfl (zaC K rfl (zaQ T.broken_sets G_broken_sets hr rfl (zaa (pv 0) (zaa (pv 1) (zaa (pv 2) zad))))) (BlkOk.of (N':=["codes","channel","where","broken"]) (ms:=[]) (k:=1) (by rfl)) (fun _ _ _ _ _=>(zah (i:=3) (show List.Nodup (["codes","channel","where","broken"] : List Str) from by decide +kernel) rfl (Or.inl rfl))) (fun _ _ _ _ _=>zbK) (fun _ _ _ _ _=>(zaQ T.number_of_teeth G_number_of_teeth hr rfl (zaa (pv 3) zad))))))),?_⟩
 walk_at "rd"
 refine ⟨l,ch,wh,cs,own,rfl,hS,hnd,hc,hl,hft,hch,hwl,fun r H1 hr1 hs1 hh1=>?_⟩
 walk_at "rd"
 refine ⟨⟨_,SqL.of hh1⟩,fun D hD=>?_⟩
 refine zaI (a:=r) (xs:=(Mt.sets cs own wh).map V.int) (fun i ys σ H2=>∃ (v3 : Option V),ys = (((Mt.sets cs own wh).take i).map Mt.pc).map V.int /\ σ = [some (.ref l),some (.int ch),some (.int wh),v3] /\ Same H1 H2 /\ H2 D = some (.lst ys))
  ?_ ?_ ?_ ?_
 ·exact ⟨none,rfl,rfl,zaf hD _,upd_same⟩
 ·exact fun i ys σ H3 _ ⟨_,_,_,hs3,_⟩=>SqL.of (hs3 _ _ hh1)
 ·rintro i y ys σ H3 hy hil ⟨v3,rfl,rfl,hs3,hh3⟩
  obtain ⟨b,rfl,hbi⟩:=zaR hy
  have hbb:=hsb b (List.mem_of_getElem? hbi)
  have htk : (Mt.sets cs own wh).take (i + 1) = (Mt.sets cs own wh).take i ++ [b]:=by rw [List.take_add_one,hbi]; rfl
  walk_at "rd"
  intro H4 hs4
  refine zcz hil (hs4 _ _ hh3) ?_ ⟨_,?_,rfl,zan (hs3.trans hs4) hD,upd_same⟩
  ·rw [List.length_map,List.length_map,List.length_take]
   omega
  ·rw [htk,List.map_append,List.map_append]
   rfl
 ·rintro ys σ H3 ⟨v3,rfl,rfl,hs3,hh3⟩
  rw [List.length_map,List.take_of_length_le (Nat.le_refl _)] at hh3
  refine ⟨D,_,rfl,SqL.of hh3,?_⟩
  rw [<- zgS]
  exact q _ (hs1.trans hs3)
def pt (t n : Int) : Nat -> Int
 | 0=>0
 | k + 1=>if t / 2 ^ k % 2 = 1 /\ n / 2 ^ k % 2 = 1 then pt t n k + 2 ^ k else pt t n k
theorem zmo (n : Int) : ∀ k,k < 7 -> n / 2 ^ k % 2 = n % 128 / 2 ^ k % 2
 | 0,_=>by rw [Int.pow_zero]; omega
 | 1,_=>by rw [show (2 : Int) ^ 1 = 2 by decide]; omega
 | 2,_=>by rw [show (2 : Int) ^ 2 = 4 by decide]; omega
 | 3,_=>by rw [show (2 : Int) ^ 3 = 8 by decide]; omega
 | 4,_=>by rw [show (2 : Int) ^ 4 = 16 by decide]; omega
 | 5,_=>by rw [show (2 : Int) ^ 5 = 32 by decide]; omega
 | 6,_=>by rw [show (2 : Int) ^ 6 = 64 by decide]; omega
 | k + 7,h=>absurd h (by omega)
theorem znl (t n : Int) : ∀ k,k <= 7 -> pt t n k = pt t (n % 128) k
 | 0,_=>rfl
 | k + 1,h=>by
   show (if t / 2 ^ k % 2 = 1 /\ n / 2 ^ k % 2 = 1 then pt t n k + 2 ^ k else pt t n k) = if t / 2 ^ k % 2 = 1 /\ n % 128 / 2 ^ k % 2 = 1 then pt t (n % 128) k + 2 ^ k else pt t (n % 128) k
   rw [zmo n k (by omega),znl t n k (by omega)]
theorem znH : ∀ t w : Fin 128,pt (t.val : Int) (w.val : Int) 7 = Builtin.bitAnd (t.val : Int) (w.val : Int):=by decide +kernel
theorem ztx {t n : Int} (ht : 0 <= t /\ t < 128) : pt t n 7 = Builtin.bitAnd t (n % 128):=by
 rw [znl t n 7 (Nat.le_refl _)]
 have hw : 0 <= n % 128 /\ n % 128 < 128:=⟨by omega,by omega⟩
 generalize n % 128 = w at hw
 obtain ⟨j,rfl⟩:=Int.eq_ofNat_of_zero_le ht.1
 obtain ⟨k,rfl⟩:=Int.eq_ofNat_of_zero_le hw.1
 exact znH ⟨j,by omega⟩ ⟨k,by omega⟩
theorem zlY : ∀ {i : Nat} {y : V},zlp[i]? = some y -> i < 7 /\ y = .int (2 ^ i):=fun {i y} h=>by
 have hl : i < 7:=(List.getElem?_eq_some_iff.mp h).1
 have h2:=zjF i hl
 rw [zaF h] at h2
 exact ⟨hl,Option.some.inj h2⟩
theorem pw73 : ∀ i : Fin 7,(2 : Int) ^ i.val < 1073741824:=by decide
def ziF : Sp:=fun vs H Q _=>∃ (t n : Int),vs = [.int t,.int n] /\ 0 <= t /\ t < 128 /\ ∀ H',Same H H' -> Q (.int (Builtin.bitAnd t (n % 128))) H'
theorem ziH (T : Tx K mg a) : FnOk P w K mg base CX0 1 a.f_law_part a.d_law_part ["_law_teeth","_law_number"] ziF:=by
 refine T.law_part.fn.ok zio (fun vs H Q E h=>?_) (fun cdv A outer s H vs Q E hr h=>?_)
 ·obtain ⟨t,n,rfl,_⟩:=h
  rfl
 obtain ⟨t,n,rfl,ht0,ht1,q⟩:=h
 refine ⟨_,(zab (zau (i:=2) zio.nd rfl (Or.inl rfl) zag)
  (zab (zbE PassesOwn.never rfl (zaC K rfl (zaE (zaa zag (zaa zag (zaa zag (zaa zag (zaa zag (zaa zag (zaa zag zad))))))))) (zah (i:=3) zio.nd rfl (Or.inl rfl)) (zae (zbp (PW.pt (zdp (zao zcU (zar zbi (zar zbx (pv 0) (pv 3)) zag) zag (zap _)) (zci (zao zcU (zar zbi (zar zbx (pv 1) (pv 3)) zag) zag (zap _))))) (zae (zau (i:=2) zio.nd rfl (Or.inl rfl) (zar zbs (pv 2) (pv 3)))) zaB)))
  (zae (zav (pv 2))))),?_⟩
 walk_at "rd"
 intro p hp
 have hs1:=zaf hp (.lst [V.int 1,V.int 2,V.int 4,V.int 8,V.int 16,V.int 32,V.int 64])
 have h1p : upd H p (.lst [V.int 1,V.int 2,V.int 4,V.int 8,V.int 16,V.int 32,V.int 64]) p = some (.lst zlp):=upd_same
 generalize upd H p (.lst [V.int 1,V.int 2,V.int 4,V.int 8,V.int 16,V.int 32,V.int 64]) = H1 at hs1 h1p ⊢
 refine ⟨p,rfl,⟨_,SqL.of h1p⟩,?_⟩
 refine zca (a:=p) (xs:=zlp) (fun i σ H2=>∃ (v3 : Option V),σ = [some (.int t),some (.int n),some (.int (pt t n i)),v3] /\ H2 = H1) ⟨none,rfl,rfl⟩ (by rintro i σ H2 _ ⟨_,_,rfl⟩; exact SqL.of h1p) ?_ ?_
 ·rintro i y σ H2 hy ⟨v3,rfl,rfl⟩
  obtain ⟨hi,rfl⟩:=zlY hy
  have hpos : (0 : Int) < 2 ^ i:=Int.pow_pos (by decide)
  have ept : pt t n (i + 1) = if t / 2 ^ i % 2 = 1 /\ n / 2 ^ i % 2 = 1 then pt t n i + 2 ^ i else pt t n i:=rfl
  have hw:=pw73 ⟨i,hi⟩
  dsimp only at hw
  generalize (2 : Int) ^ i = w at hpos ept hw
  rw [ept]
  walk_at "rd"
  rw [decV]
  refine ite2 (fun c1=>?_) (fun c1=>?_)
  ·have c1 : t / w % 2 = 1:=of_decide_eq_true c1
   walk_at "rd"
   rw [decV]
   refine ite2 (fun c2=>?_) (fun c2=>?_)
   ·have c2 : n / w % 2 = 1:=of_decide_eq_true c2
    walk_at "rd"
    exact ⟨_,by rw [if_pos ⟨c1,c2⟩]; rfl,rfl⟩
   ·have c2 : ¬ n / w % 2 = 1:=fun z=>c2 (decide_eq_true z)
    exact ⟨_,by rw [if_neg (fun z=>c2 z.2)]; rfl,rfl⟩
  ·have c1 : ¬ t / w % 2 = 1:=fun z=>c1 (decide_eq_true z)
   try refine iteF ?_
   exact ⟨_,by rw [if_neg (fun z=>c1 z.1)]; rfl,rfl⟩
 ·rintro σ H2 ⟨v3,rfl,rfl⟩
  walk_at "rd"
  have e : pt t n zlp.length = Builtin.bitAnd t (n % 128):=ztx ⟨ht0,ht1⟩
  rw [e]
  exact q _ hs1
/-- the matrices that are broken,as they are then -/
def zcw (rs : List Cs.Row) (bs : List (Int × Int)) : List Mc.Mx:=bs.filterMap fun b=>(rs[b.1.toNat]?).map fun r=>(r.s,r.t - b.2)
def zfr (rs : List Cs.Row) (x : Mc.Mx) : Prop:=∃ r ∈ rs,x = (r.s,r.t)
theorem zkW {l : List Mc.Mx} {i : Nat} {y z x : Mc.Mx} (h : l[i]? = some z) : (l.set i y).count x + (if z = x then 1 else 0) = l.count x + (if y = x then 1 else 0):=by
 induction l generalizing i with
 | nil=>simp at h
 | cons a l ih =>
   cases i with
   | zero =>
     have e : a = z:=Option.some.inj h
     subst e
     show (y :: l).count x + _ = (a :: l).count x + _
     rw [List.count_cons,List.count_cons]
     simp only [beq_iff_eq]
     omega
   | succ i =>
     show (a :: l.set i y).count x + _ = _
     have:=ih h
     rw [List.count_cons,List.count_cons]
     omega
structure Bq (rs : List Cs.Row) (bs : List (Int × Int)) (ls : List (List Mc.Mx)) (ah : List Int) : Prop where
 ln : ls.length = rs.length
 wh : ∀ (j : Nat) r l,rs[j]? = some r -> ls[j]? = some l -> l.length = r.n.toNat /\ ∀ i,ah.count (j : Int) <= i -> i < l.length -> l[i]? = some (r.s,r.t)
 ct : ∀ x,¬ zfr rs x -> ls.flatten.count x = (zcw rs bs).count x
theorem Bq.zero (rs : List Cs.Row) : Bq rs [] (zaP rs) []:=by
 refine ⟨List.length_map _,fun j r l hr hl=>?_,fun x hx=>?_⟩
 ·unfold zaP at hl
  rw [List.getElem?_map,hr] at hl
  have hl : List.replicate r.n.toNat (r.s,r.t) = l:=Option.some.inj hl
  rw [<- hl]
  refine ⟨List.length_replicate,fun i _ hi=>?_⟩
  rw [List.length_replicate] at hi
  rw [List.getElem?_replicate,if_pos hi]
 ·rw [show (zcw rs []).count x = 0 from rfl]
  refine List.count_eq_zero.mpr fun hm=>hx ?_
  obtain ⟨l,hl,hm⟩:=List.mem_flatten.mp hm
  obtain ⟨r,hr,rfl⟩:=List.mem_map.mp hl
  exact ⟨r,hr,List.eq_of_mem_replicate hm⟩
theorem zmC {rs : List Cs.Row} {ah : List Int} {ch te : Int} (h : zax rs ah ch te = true) : ∃ (k : Nat) (r : Cs.Row),ch = (k : Int) /\ rs[k]? = some r /\ (ah.count (k : Int) : Int) < r.n:=by
 unfold zax at h
 split at h
 ·rename_i hb
  obtain ⟨k,rfl⟩:=Int.eq_ofNat_of_zero_le hb.1
  rw [Int.toNat_natCast] at h
  split at h
  ·rename_i r hr
   simp only [Bool.and_eq_true,decide_eq_true_eq] at h
   exact ⟨k,r,rfl,hr,h.1.1⟩
  ·cases h
 ·cases h
theorem Bq.step {rs : List Cs.Row} {bs : List (Int × Int)} {ls : List (List Mc.Mx)} {ah : List Int} {b : Int × Int} (Q : Bq rs bs ls ah) (hc : zax rs ah b.1 b.2 = true) : Bq rs (bs ++ [b]) (setLane rs ls ah b) (ah ++ [b.1]):=by
 obtain ⟨k,r,hk,hr,hn⟩:=zmC hc
 have hkl : k < ls.length:=by rw [Q.ln]; exact (List.getElem?_eq_some_iff.mp hr).1
 have hm : ls[k]? = some ls[k]:=List.getElem?_eq_getElem hkl
 obtain ⟨h1,h2⟩:=Q.wh k r _ hr hm
 generalize ls[k] = m at hm h1 h2
 have hil : ah.count (k : Int) < m.length:=by omega
 have hz:=h2 _ (Nat.le_refl _) hil
 have e : setLane rs ls ah b = ls.set k (m.set (ah.count b.1) (r.s,r.t - b.2)):=by
  unfold setLane
  rw [hk,Int.toNat_natCast,hr,hm]
 rw [e]
 refine ⟨by rw [List.length_set]; exact Q.ln,fun j r' l hr' hl=>?_,fun x hx=>?_⟩
 ·rw [List.getElem?_set] at hl
  rw [List.count_append]
  split at hl
  ·rename_i ej
   subst ej
   rw [hr] at hr'
   cases hr'
   have hl:=Option.some.inj hl
   rw [<- hl]
   refine ⟨by rw [List.length_set]; exact h1,fun i hi hil'=>?_⟩
   rw [List.length_set] at hil'
   rw [hk,List.count_singleton_self] at hi
   rw [hk,List.getElem?_set,if_neg (by omega)]
   exact h2 i (by omega) hil'
  ·obtain ⟨g1,g2⟩:=Q.wh j r' l hr' hl
   exact ⟨g1,fun i hi=>g2 i (by omega)⟩
 ·obtain ⟨u,v,e1,e2⟩:=Mc.zgD (l':=m.set (ah.count b.1) (r.s,r.t - b.2)) hm
  have hq:=Q.ct x hx
  have ho : zcw rs (bs ++ [b]) = zcw rs bs ++ [(r.s,r.t - b.2)]:=by
   unfold zcw
   rw [List.filterMap_append]
   congr 1
   have e3 : (rs[b.1.toNat]?).map (fun r=>(r.s,r.t - b.2)) = some (r.s,r.t - b.2):=by
    rw [hk,Int.toNat_natCast,hr]
    rfl
   exact List.filterMap_cons_some e3
  rw [e2,ho]
  rw [e1] at hq
  have hcp:=zkW (y:=(r.s,r.t - b.2)) (x:=x) hz
  rw [if_neg (fun z=>hx ⟨r,List.mem_of_getElem? hr,z.symm⟩),<- hk] at hcp
  simp only [List.count_append,List.count_singleton,beq_iff_eq] at hq ⊢
  omega
def zgw (K : PySem.W.Frag) : Sp:=fun vs H Q _=>∃ (pc ps : Addr) (xs : List V) (rs : List Cs.Row) (ns : List Int),vs = [.ref pc,.ref ps] /\ H pc = some (.lst xs) /\ Paired (Cs.zbU H) xs rs /\ Mc.Rows rs /\ 1 <= rs.length /\ SqL K H ps (ns.map V.int) /\ ns.length <= 63 /\ ∀ pf fv bs ls ah H',H pf = none -> Same H H' -> H' pf = some (.lst fv) -> Paired (Two H') fv bs -> bs.length <= 63 -> (∀ b ∈ bs,1 <= b.2 /\ b.2 < 128 /\ ∃ (k : Nat) (r : Cs.Row),b.1 = (k : Int) /\ rs[k]? = some r /\ Mt.has r.t b.2 = true) -> after rs bs bs.length = some (ls,ah) -> Bq rs bs ls ah -> Q (.ref pf) H'
theorem zfT (T : Tx K mg a) : FnOk P w K mg base CX0 2 a.f_law_broken a.d_law_broken ["_law_case_here","_law_script"] (zgw K):=by
 have G_law_part:=ziH (P:=P) (w:=w) (base:=base) T
 refine T.law_broken.fn.ok zgo (fun vs H Q E h=>?_) (fun cdv A outer s H vs Q E hr h=>?_)
 ·obtain ⟨pc,ps,xs,rs,ns,rfl,_⟩:=h
  rfl
 obtain ⟨pc,ps,xs,rs,ns,rfl,hc,hpd,R,hl1,hS,hnl,q⟩:=h
 have hxl:=Cs.zbC hpd
 have hfew:=R.few
 refine ⟨_,(zab (zau (i:=2) zgo.nd rfl (Or.inl rfl) (zaE zad))
  (zab (zau (i:=3) zgo.nd rfl (Or.inl rfl) zmF)
  (zab (zbE PassesOwn.never rfl (zaC K rfl (zjp (zjl K rfl) (pv 1) (zfX zag) (zfX zag))) (zah (i:=4) zgo.nd rfl (Or.inl rfl)) (zab (zau (i:=5) zgo.nd rfl (Or.inl rfl) (zar zbi (pv 4) (zaJ (zbf K rfl) rfl T.b_len zbY (zaa (pv 0) zad))))
  (zab (zau (i:=6) zgo.nd rfl (Or.inl rfl) (zaQ T.law_part G_law_part hr rfl (zaa (zaK (zcv K rfl) (zaK (zas K rfl) (pv 0) (pv 5) (fun _ _=>rfl)) zag (fun _ _=>rfl)) (zaa (zar zbx (pv 4) zag) zad))))
  (zae (zbp (PW.pt (zdp (zao zjZ (pv 6) zag (zap _)) (zci (zao zii (zeq (zgC hr) (pv 3) (pv 5) zag ⟨rfl,rfl,rfl,rfl⟩) (zaK (zcv K rfl) (zaK (zas K rfl) (pv 0) (pv 5) (fun _ _=>rfl)) zag (fun _ _=>rfl)) (zap _))))) (zab (ziU (zgC hr) (pv 3) (pv 5) (zar zbs (zeq (zgC hr) (pv 3) (pv 5) zag ⟨rfl,rfl,rfl,rfl⟩) zag) rfl)
  (zae (zaH (zbo K rfl PySem.F.plainAttrs_list PySem.F.slot_list_append PySem.F.type_list_append zaY (pv 2) (zaa (zcM (zaa (pv 5) (zaa (pv 6) zad))) zad))))) zaB)))))
  (zae (zav (pv 2)))))),?_⟩
 walk_at "rd"
 intro pf hpf
 have hs1:=zaf hpf (.lst [])
 have h1f : upd H pf (.lst []) pf = some (.lst []):=upd_same
 generalize upd H pf (.lst []) = H1 at hs1 h1f ⊢
 walk_at "rd"
 intro pk hpk
 have hs2:=zaf hpk (.dK [])
 have h2k : upd H1 pk (.dK []) pk = some (.dK []):=upd_same
 generalize upd H1 pk (.dK []) = H2 at hs2 h2k ⊢
 walk_at "rd"
 refine ⟨ps,_,rfl,(hs1.trans hs2).seq hS,fun pm hpm=>?_⟩
 obtain ⟨ms,ecut,hml⟩:=Cs.zkH ns (some 4) (some 12)
 rw [ecut]
 have hs3:=zaf hpm (.lst (ms.map V.int))
 have h3m : upd H2 pm (.lst (ms.map V.int)) pm = some (.lst (ms.map V.int)):=upd_same
 generalize upd H2 pm (.lst (ms.map V.int)) = H3 at hs3 h3m ⊢
 have hs03:=hs1.trans (hs2.trans hs3)
 have h3f:=(hs2.trans hs3) _ _ h1f
 have h3k:=hs3 _ _ h2k
 have nfk : pf ≠ pk:=fun e=>by rw [<- e,h1f] at hpk; cases hpk
 have hpk0 : H pk = none:=hs1.free hpk
 have nmk : pm ≠ pk:=fun e=>by rw [e,h2k] at hpm; cases hpm
 have nmf : pm ≠ pf:=fun e=>by rw [e,hs2 _ _ h1f] at hpm; cases hpm
 refine ⟨pm,rfl,⟨_,SqL.of h3m⟩,?_⟩
 refine zca (a:=pm) (xs:=ms.map V.int) (fun i σ H4=>∃ (fv : List V) (bs : List (Int × Int)) (ls : List (List Mc.Mx)) (ah : List Int) (kvs : List (Key × V)) (v4 v5 v6 : Option V),σ = [some (.ref pc),some (.ref ps),some (.ref pf),some (.ref pk),v4,v5,v6] /\ Same H H4 /\ H4 pm = some (.lst (ms.map V.int)) /\ H4 pf = some (.lst fv) /\ Paired (Two H4) fv bs /\ bs.length <= i /\ (∀ b ∈ bs,1 <= b.2 /\ b.2 < 128 /\ ∃ (k : Nat) (r : Cs.Row),b.1 = (k : Int) /\ rs[k]? = some r /\ Mt.has r.t b.2 = true) /\ after rs bs bs.length = some (ls,ah) /\ Bq rs bs ls ah /\ H4 pk = some (.dK kvs) /\ kvs.length <= i /\ ∀ j : Nat,(valV kvs (Sum.inl (j : Int))).getD (.int 0) = .int (ah.count (j : Int) : Int))
  ⟨[],[],zaP rs,[],[],none,none,none,rfl,hs03,h3m,h3f,.nil,Nat.zero_le _,(fun b hb=>nomatch hb),zdS rs [],Bq.zero rs,h3k,Nat.zero_le _,fun j=>rfl⟩ (by rintro i σ H4 _ ⟨_,_,_,_,_,_,_,_,_,_,h,_⟩; exact SqL.of h) ?_ ?_
 ·rintro i y σ H4 hy ⟨fv,bs,ls,ah,kvs,v4,v5,v6,rfl,hs4,h4m,h4f,hfd,hbl,hbb,haf,BQ,h4k,hkl,hkv⟩
  obtain ⟨cc,rfl,hci⟩:=zaR hy
  have hil : i < ms.length:=(List.getElem?_eq_some_iff.mp hci).1
  have hc4:=hs4 _ _ hc
  have hk0:=Int.emod_nonneg cc (show (xs.length : Int) ≠ 0 by omega)
  have hk1:=Int.emod_lt_of_pos cc (show (0 : Int) < (xs.length : Int) by omega)
  obtain ⟨k,hk⟩:=Int.eq_ofNat_of_zero_le hk0
  have hkl2 : k < rs.length:=by omega
  have hrk : rs[k]? = some rs[k]:=List.getElem?_eq_getElem hkl2
  generalize rs[k] = r at hrk
  have hxk : xs[k]? = some (xs[k]'(by omega)):=List.getElem?_eq_getElem _
  obtain ⟨r',hrk',t,et,ht⟩:=Cs.zaX hpd hxk
  rw [hrk] at hrk'
  cases hrk'
  rw [et] at hxk
  have EK : ∀ _ : Unit,atI xs (k : Int) = some (.ref t):=fun _=>zaF hxk
  have a2 : atI (Cs.rowV r) 2 = some (.int r.t):=rfl
  have a3 : atI (Cs.rowV r) 3 = some (.int r.n):=rfl
  have ht4:=hs4 _ _ ht
  have hth:=R.th r (List.mem_of_getElem? hrk)
  walk_at "rd"
  refine ⟨pc,_,rfl,.inl (SqL.of hc4),?_⟩
  refine ⟨_,_,rfl,rfl,by show (0 : Int) < (xs.length : Int); omega,?_⟩
  dsimp only
  rw [hk]
  walk_at "rd"
  refine ⟨pc,_,_,_,rfl,rfl,SqL.of hc4,EK (),?_⟩
  refine ⟨t,_,_,_,rfl,rfl,SqT.of ht4,a2,?_⟩
  walk_at "rd"
  refine ⟨_,_,rfl,hth.1,hth.2,fun H5 hs5=>?_⟩
  obtain ⟨w1,w2,w3⟩:=zox hth (w:=cc / 8 % 128) ⟨by omega,by omega⟩
  generalize Builtin.bitAnd r.t (cc / 8 % 128) = te at w1 w2 w3 ⊢
  have hs05:=hs4.trans hs5
  have h5m:=hs5 _ _ h4m
  have h5f:=hs5 _ _ h4f
  have h5k:=hs5 _ _ h4k
  have hf5:=zct hfd hs5
  have hc5:=hs5 _ _ hc4
  have ht5:=hs5 _ _ ht4
  clear hs5 h4m h4f h4k hfd hc4 ht4
  walk_at "rd"
  refine ite2 (fun c1=>?_) (fun c1=>?_)
  rotate_left
  ·try refine iteF ?_
   exact ⟨fv,bs,ls,ah,kvs,_,_,_,rfl,hs05,h5m,h5f,hf5,by omega,hbb,haf,BQ,h5k,by omega,hkv⟩
  have c1 : 0 < te:=of_decide_eq_true c1
  have ID : IsD H5 pk:=.inl ⟨kvs,.inl h5k⟩
  have DG : DGet H5 pk (.int (k : Int)) (valV kvs (Sum.inl (k : Int))):=DGet.k (k:=Sum.inl (k : Int)) h5k
  walk_at "rd"
  try refine ⟨pk,rfl,ID,?_⟩
  walk_at "rd"
  refine ⟨_,DG,?_⟩
  rw [hkv k]
  walk_at "rd"
  refine ⟨pc,_,_,_,rfl,rfl,SqL.of hc5,EK (),?_⟩
  refine ⟨t,_,_,_,rfl,rfl,SqT.of ht5,a3,?_⟩
  walk_at "rd"
  refine ite2 (fun c2=>?_) (fun c2=>?_)
  rotate_left
  ·exact ⟨fv,bs,ls,ah,kvs,_,_,_,rfl,hs05,h5m,h5f,hf5,by omega,hbb,haf,BQ,h5k,by omega,hkv⟩
  have c2 : (ah.count (k : Int) : Int) < r.n:=of_decide_eq_true c2
  have hcb : zax rs ah (k : Int) te = true:=zsD hrk c2 (by omega) w1
  have hh : Mt.has r.t te = true:=by rw [<- Mt.zhY hth.1 (by omega) w3]; exact decide_eq_true w1
  walk_at "rd"
  try refine ⟨pk,rfl,ID,?_⟩
  walk_at "rd"
  refine ⟨_,DG,?_⟩
  rw [hkv k]
  walk_at "rd"
  refine ⟨pk,_,rfl,DPut.k (k:=Sum.inl (k : Int)) h5k (zby (by omega)),?_⟩
  have hs6 : Same H (upd H5 pk (.dK (putK kvs (Sum.inl (k : Int)) (.int ((ah.count (k : Int) : Int) + 1))))):=zan hs05 hpk0
  have h6k : upd H5 pk (.dK (putK kvs (Sum.inl (k : Int)) (.int ((ah.count (k : Int) : Int) + 1)))) pk = some (.dK (putK kvs (Sum.inl (k : Int)) (.int ((ah.count (k : Int) : Int) + 1)))):=upd_same
  have h6f : upd H5 pk (.dK (putK kvs (Sum.inl (k : Int)) (.int ((ah.count (k : Int) : Int) + 1)))) pf = some (.lst fv):=by rw [zai nfk]; exact h5f
  have h6m : upd H5 pk (.dK (putK kvs (Sum.inl (k : Int)) (.int ((ah.count (k : Int) : Int) + 1)))) pm = some (.lst (ms.map V.int)):=by rw [zai nmk]; exact h5m
  have hf6 : Paired (Two (upd H5 pk (.dK (putK kvs (Sum.inl (k : Int)) (.int ((ah.count (k : Int) : Int) + 1)))))) fv bs:=Paired.mapP hf5 fun _ _ ⟨b,e1,e2⟩=>⟨b,e1,by rw [zai (zbZ e2 h5k fun z=>by cases z)]; exact e2⟩
  generalize upd H5 pk (.dK (putK kvs (Sum.inl (k : Int)) (.int ((ah.count (k : Int) : Int) + 1)))) = H6 at hs6 h6k h6f h6m hf6 ⊢
  have hfl:=Paired.length hf6
  walk_at "rd"
  refine ⟨.inl ⟨rfl,_,SqL.of h6f⟩,?_⟩
  walk_at "rd"
  intro tn htn
  have hs7:=zaf htn (.tup [.int (k : Int),.int te])
  have h7n : upd H6 tn (.tup [.int (k : Int),.int te]) tn = some (.tup [.int (k : Int),.int te]):=upd_same
  generalize upd H6 tn (.tup [.int (k : Int),.int te]) = H7 at hs7 h7n ⊢
  have h7f:=hs7 _ _ h6f
  have hf7:=zct hf6 hs7
  refine ⟨pf,fv,_,rfl,rfl,h7f,zby (by omega),?_⟩
  have nkf : pk ≠ pf:=Ne.symm nfk
  refine ⟨fv ++ [.ref tn],bs ++ [((k : Int),te)],setLane rs ls ah ((k : Int),te),ah ++ [(k : Int)],_,_,_,_,rfl,zan (hs6.trans hs7) hpf,by rw [zai nmf]; exact hs7 _ _ h6m,upd_same,?_,by rw [List.length_append]; show bs.length + 1 <= i + 1; omega,fun b hb=>?_,zko (b:=((k : Int),te)) haf hcb,BQ.step (b:=((k : Int),te)) hcb,by rw [zai nkf]; exact hs7 _ _ h6k,?_,fun j=>?_⟩
  ·exact Paired.snoc (Paired.mapP hf7 fun _ _ ⟨b,e1,e2⟩=>⟨b,e1,by rw [zai (zbZ e2 h7f fun z=>by cases z)]; exact e2⟩) ⟨tn,rfl,by rw [zai (zbZ h7n h7f fun z=>by cases z)]; exact h7n⟩
  ·rcases List.mem_append.mp hb with hb | hb
   ·exact hbb b hb
   ·rw [List.mem_singleton.mp hb]
    exact ⟨by show 1 <= te; omega,w3,k,r,rfl,hrk,hh⟩
  ·have:=zbL kvs (Sum.inl (k : Int)) (.int ((ah.count (k : Int) : Int) + 1))
   omega
  ·rw [zjD,List.count_append,List.count_singleton]
   by_cases e : j = k
   ·subst e
    rw [if_pos rfl,if_pos (beq_self_eq_true _)]
    rfl
   ·rw [if_neg (fun z=>e (by have:=Sum.inl.inj z; omega)),if_neg (fun z=>e (by have:=eq_of_beq z; omega))]
    exact hkv j
 ·rintro σ H4 ⟨fv,bs,ls,ah,kvs,v4,v5,v6,rfl,hs4,h4m,h4f,hfd,hbl,hbb,haf,BQ,h4k,hkl,hkv⟩
  rw [List.length_map] at hbl
  walk_at "rd"
  exact q pf fv bs ls ah H4 hpf hs4 h4f hfd (by omega) hbb haf BQ
def zhn (K : PySem.W.Frag) : Sp:=fun vs H Q _=>∃ (pc ps : Addr) (xs : List V) (rs : List Cs.Row) (ns : List Int),vs = [.ref pc,.ref ps] /\ H pc = some (.lst xs) /\ Paired (Cs.zbU H) xs rs /\ rs.length <= 30 /\ 1 <= rs.length /\ SqL K H ps (ns.map V.int) /\ ns.length <= 63 /\ ∀ r (ss : List Str) H',H r = none -> Same H H' -> H' r = some (.lst (ss.map V.str)) -> ss.length <= 63 -> (∀ x ∈ ss,∃ r ∈ rs,x = r.s) -> Q (.ref r) H'
theorem zhx (T : Tx K mg a) : FnOk P w K mg base CX0 1 a.f_law_order a.d_law_order ["_law_case_here","_law_script"] (zhn K):=by
 refine T.law_order.fn.ok zgU (fun vs H Q E h=>?_) (fun cdv A outer s H vs Q E hr h=>?_)
 ·obtain ⟨pc,ps,xs,rs,ns,rfl,_⟩:=h
  rfl
 obtain ⟨pc,ps,xs,rs,ns,rfl,hc,hpd,hfew,hl1,hS,hnl,q⟩:=h
 have hxl:=Cs.zbC hpd
 refine ⟨_,(zab (zdP (i:=2) zgU.nd rfl (Or.inl rfl) rfl (zaC K rfl (pv 0)) (BlkOk.of (N':=["_law_case_here","_law_script","_law_signs","_law_row","_law_cell_here","_law_channel"]) (ms:=[]) (k:=1) (by rfl)) (fun _ _ _ _ _=>(zah (i:=5) (show List.Nodup (["_law_case_here","_law_script","_law_signs","_law_row","_law_cell_here","_law_channel"] : List Str) from by decide +kernel) rfl (Or.inl rfl))) (fun _ _ _ _ _=>zbK) (fun _ _ _ _ _=>(zaK (zcv K rfl) (pv 5) zag (fun _ _=>rfl))))
  (zab (zau (i:=3) zgU.nd rfl (Or.inl rfl) (zaE zad))
  (zab (zbE PassesOwn.never rfl (zaC K rfl (zjp (zjl K rfl) (pv 1) (zfX zag) (zfX zag))) (zah (i:=4) zgU.nd rfl (Or.inl rfl)) (zae (zaH (zbo K rfl PySem.F.plainAttrs_list PySem.F.slot_list_insert PySem.F.type_list_insert zkq (pv 3) (zaa (zar zbi (pv 4) (zar zbs (zaJ (zbf K rfl) rfl T.b_len zbY (zaa (pv 3) zad)) zag)) (zaa (zaK (zas K rfl) (pv 2) (zar zbi (zar zbx (pv 4) zag) (zaJ (zbf K rfl) rfl T.b_len zbY (zaa (pv 2) zad))) (fun _ _=>rfl)) zad))))))
  (zae (zav (pv 3)))))),?_⟩
 walk_at "rd"
 refine ⟨⟨_,SqL.of hc⟩,fun D hD=>?_⟩
 refine zaI (a:=pc) (xs:=xs) (fun j ys σ H2=>∃ (v5 : Option V),ys = ((rs.take j).map fun r=>r.s).map V.str /\ σ = [some (.ref pc),some (.ref ps),none,none,none,v5] /\ Same H H2 /\ H2 D = some (.lst ys))
  ?_ ?_ ?_ ?_
 ·exact ⟨none,rfl,rfl,zaf hD _,upd_same⟩
 ·rintro j ys σ H2 hj ⟨_,_,_,hs,_⟩
  exact hs.seq (SqL.of hc)
 ·rintro j y ys σ H2 hy hjl ⟨v5,rfl,rfl,hs2,hh2⟩
  obtain ⟨r,hrj,t,rfl,ht⟩:=Cs.zaX hpd hy
  have a0 : atI (Cs.rowV r) 0 = some (.str r.s):=rfl
  walk_at "rd"
  refine ⟨t,_,_,_,rfl,rfl,SqT.of (hs2 _ _ ht),a0,?_⟩
  refine zcz hjl hh2 ?_ ⟨_,?_,rfl,zan hs2 hD,upd_same⟩
  ·rw [List.length_map,List.length_map,List.length_take]
   omega
  ·rw [List.take_add_one,hrj,List.map_append,List.map_append]
   rfl
 rintro ys σ H2 ⟨v5,rfl,rfl,hs2,hh2⟩
 rw [hxl,List.take_of_length_le (Nat.le_refl _)] at hh2
 generalize hsn : (rs.map fun r=>r.s) = sns at hh2
 have hsl : sns.length = rs.length:=by rw [<- hsn,List.length_map]
 walk_at "rd"
 intro pr hpr
 have hs3:=zaf hpr (.lst [])
 have h3r : upd H2 pr (.lst []) pr = some (.lst []):=upd_same
 generalize upd H2 pr (.lst []) = H3 at hs3 h3r ⊢
 have hs03:=hs2.trans hs3
 have hr0 : H pr = none:=hs2.free hpr
 walk_at "rd"
 refine ⟨ps,_,rfl,hs03.seq hS,fun pm hpm=>?_⟩
 obtain ⟨ms,ecut,hml⟩:=Cs.zkH ns (some 12) (some 28)
 rw [ecut]
 have hs4:=zaf hpm (.lst (ms.map V.int))
 have h4m : upd H3 pm (.lst (ms.map V.int)) pm = some (.lst (ms.map V.int)):=upd_same
 generalize upd H3 pm (.lst (ms.map V.int)) = H4 at hs4 h4m ⊢
 have h4r:=hs4 _ _ h3r
 have h4D:=(hs3.trans hs4) _ _ hh2
 have nmr : pm ≠ pr:=fun e=>by rw [e,h3r] at hpm; cases hpm
 have nDr : D ≠ pr:=fun e=>by rw [e,hpr] at hh2; cases hh2
 refine ⟨pm,rfl,⟨_,SqL.of h4m⟩,?_⟩
 refine zca (a:=pm) (xs:=ms.map V.int) (fun i σ H5=>∃ (ss : List Str) (v4 : Option V),σ = [some (.ref pc),some (.ref ps),some (.ref D),some (.ref pr),v4] /\ Same H H5 /\ H5 pm = some (.lst (ms.map V.int)) /\ H5 D = some (.lst (sns.map V.str)) /\ H5 pr = some (.lst (ss.map V.str)) /\ ss.length = i /\ ∀ x ∈ ss,x ∈ sns)
  ⟨[],none,rfl,hs03.trans hs4,h4m,h4D,h4r,rfl,(fun x hx=>nomatch hx)⟩ (by rintro i σ H5 _ ⟨_,_,_,_,h,_⟩; exact SqL.of h) ?_ ?_
 ·rintro i y σ H5 hy ⟨ss,v4,rfl,hs5,h5m,h5D,h5r,hssl,hss⟩
  obtain ⟨cc,rfl,hci⟩:=zaR hy
  have hil : i < ms.length:=(List.getElem?_eq_some_iff.mp hci).1
  have hz0:=Int.emod_nonneg cc (show ((i : Int) + 1) ≠ 0 by omega)
  have hz1:=Int.emod_lt_of_pos cc (show (0 : Int) < (i : Int) + 1 by omega)
  have hk0:=Int.emod_nonneg (cc / 32) (show (rs.length : Int) ≠ 0 by omega)
  have hk1:=Int.emod_lt_of_pos (cc / 32) (show (0 : Int) < (rs.length : Int) by omega)
  obtain ⟨k,hk⟩:=Int.eq_ofNat_of_zero_le hk0
  have hkl : k < sns.length:=by omega
  have hsk : sns[k]? = some sns[k]:=List.getElem?_eq_getElem hkl
  generalize sns[k] = sk at hsk
  have EK : ∀ _ : Unit,atI (sns.map V.str) (cc / 32 % (rs.length : Int)) = some (.str sk):=fun _=>by rw [hk]; exact zaF (by rw [List.getElem?_map,hsk]; rfl)
  walk_at "rd"
  refine ⟨.inl ⟨rfl,_,SqL.of h5r⟩,?_⟩
  walk_at "rd"
  refine ⟨pr,_,rfl,.inl (SqL.of h5r),?_⟩
  rw [List.length_map,hssl]
  walk_at "rd"
  try refine ⟨_,_,rfl,rfl,by show (0 : Int) < (i : Int) + 1; omega,?_⟩
  walk_at "rd"
  refine ⟨D,_,rfl,.inl (SqL.of h5D),?_⟩
  rw [List.length_map,hsl]
  try refine ⟨_,_,rfl,rfl,by show (0 : Int) < (rs.length : Int); omega,?_⟩
  refine ⟨D,_,_,_,rfl,rfl,SqL.of h5D,EK (),?_⟩
  generalize hzz : cc % ((i : Int) + 1) = z at hz0 hz1
  refine ⟨pr,_,_,z,rfl,by rw [<- hzz],h5r,hz0,by rw [List.length_map]; omega,by rw [List.length_map]; omega,?_⟩
  refine ⟨ss.take z.toNat ++ (sk :: ss.drop z.toNat),_,rfl,zan hs5 hr0,by rw [zai nmr]; exact h5m,by rw [zai nDr]; exact h5D,?_,?_,fun x hx=>?_⟩
  ·rw [upd_same,List.map_append,List.map_cons,List.map_take,List.map_drop]
  ·rw [List.length_append,List.length_cons,List.length_take,List.length_drop]
   omega
  ·rcases List.mem_append.mp hx with hx | hx
   ·exact hss x (List.mem_of_mem_take hx)
   ·rcases List.mem_cons.mp hx with hx | hx
    ·rw [hx]
     exact List.mem_of_getElem? hsk
    ·exact hss x (List.mem_of_mem_drop hx)
 ·rintro σ H5 ⟨ss,v4,rfl,hs5,h5m,h5D,h5r,hssl,hss⟩
  rw [List.length_map] at hssl
  walk_at "rd"
  refine q pr ss H5 hr0 hs5 h5r (by omega) fun x hx=>?_
  have:=hss x hx
  rw [<- hsn] at this
  obtain ⟨r,hr,e⟩:=List.mem_map.mp this
  exact ⟨r,hr,e.symm⟩
/-! where matrices lie: at home,or where their teeth let them fall -/
theorem zgq {c : Mc.Cf} {P : Mc.Ms -> Prop} (step : ∀ m,Mc.Ok c m -> P m -> P (Mc.tick c m)) : ∀ n m,Mc.Ok c m -> P m -> P (Mc.runF c n m)
 | 0,_,_,p=>p
 | n + 1,m,O,p=>by
   show P (if Mc.still c m = true then m else Mc.runF c n (Mc.tick c m))
   split
   ·exact p
   ·exact zgq step n _ O.tick (step m O p)
def znV (rs : List Cs.Row) (x : Mc.Mx) : Prop:=∃ (j : Nat) (r : Cs.Row),rs[j]? = some r /\ r.s = x.1
def zoF (rs : List Cs.Row) (k : Nat) (x : Mc.Mx) : Prop:=∃ (j : Nat) (r : Cs.Row),rs[j]? = some r /\ r.s = x.1 /\ (k = j \/ Mt.zaG (rs.map fun r=>r.t) x.2 = some k) /\ (x.2 = r.t -> k = j)
structure Hom (c : Mc.Cf) (m : Mc.Ms) : Prop where
 ln : ∀ (k : Nat) l,m.lanes[k]? = some l -> ∀ x ∈ l,zoF c.rs k x
 li : ∀ x ∈ Mc.mats m.line,znV c.rs x
 he : ∀ x ∈ Mc.mats m.heat,znV c.rs x
 ba : ∀ x ∈ m.bar,znV c.rs x
 em : m.line ≠ [] -> m.at_ ≠ 0 /\ ∃ d,c.keys.cps.toList[m.at_ - 1]? = some d /\ d ≠ 47
theorem Hom.fall {c : Mc.Cf} {m : Mc.Ms} (fl : ∀ (j : Nat) r,c.rs[j]? = some r -> Mt.zaG (c.rs.map fun r=>r.t) r.t = some j) (O : Mc.Ok c m) (h : Hom c m) : Hom c (Mc.fall c m):=by
 unfold Mc.fall
 cases hb : m.bar with
 | nil=>exact h
 | cons x r =>
   obtain ⟨_,_,_,_,k,hk,hkl⟩:=O.bm x (by rw [hb]; exact List.mem_cons_self)
   show Hom c (match Mt.zaG (c.rs.map fun r=>r.t) x.2 with
    | some k=>{ m with bar:=r,lanes:=Mc.zbM m.lanes k x }
    | none=>m)
   rw [hk]
   refine ⟨fun k' l hl y hy=>?_,h.li,h.he,fun y hy=>h.ba y (by rw [hb]; exact List.mem_cons_of_mem _ hy),h.em⟩
   replace hl : (Mc.zbM m.lanes k x)[k']? = some l:=hl
   have hg : m.lanes[k]? = some (m.lanes[k]'(by rw [O.ln]; exact hkl)):=List.getElem?_eq_getElem _
   have ea : Mc.zbM m.lanes k x = m.lanes.set k (m.lanes[k]'(by rw [O.ln]; exact hkl) ++ [x]):=by unfold Mc.zbM; rw [hg]
   rw [ea,List.getElem?_set] at hl
   split at hl
   ·rename_i e
    subst e
    split at hl
    ·have hl:=Option.some.inj hl
     rw [<- hl] at hy
     rcases List.mem_append.mp hy with hy | hy
     ·exact h.ln k _ hg y hy
     ·rw [List.mem_singleton.mp hy]
      obtain ⟨j,r0,h1,h2⟩:=h.ba x (by rw [hb]; exact List.mem_cons_self)
      refine ⟨j,r0,h1,h2,.inr hk,fun e=>?_⟩
      rw [e,fl j r0 h1] at hk
      exact (Option.some.inj hk).symm
    ·cases hl
   ·exact h.ln k' l hl y hy
theorem Hom.cool {c : Mc.Cf} {m : Mc.Ms} (h : Hom c m) : Hom c (Mc.cool m):=by
 unfold Mc.cool
 split
 ·exact h
 ·split
  ·refine ⟨h.ln,h.li,(fun x hx=>nomatch hx),fun x hx=>?_,h.em⟩
   rcases List.mem_append.mp hx with hx | hx
   ·exact h.ba x hx
   ·exact h.he x hx
  ·exact ⟨h.ln,h.li,h.he,h.ba,h.em⟩
theorem Hom.strike {c : Mc.Cf} {m : Mc.Ms} (h : Hom c m) : Hom c (Mc.strike c m):=by
 unfold Mc.strike
 split
 ·exact h
 ·rename_i k hk
  split
  ·unfold Mc.send
   split
   ·exact ⟨h.ln,(fun x hx=>nomatch hx),h.li,h.ba,fun z=>absurd rfl z⟩
   ·exact h
  ·rename_i h47
   have em : m.at_ + 1 ≠ 0 /\ ∃ d,c.keys.cps.toList[m.at_ + 1 - 1]? = some d /\ d ≠ 47:=⟨by omega,k,hk,h47⟩
   split
   ·refine ⟨h.ln,fun x hx=>?_,h.he,h.ba,fun _=>em⟩
    have hx : x ∈ Mc.mats (m.line ++ [none]):=hx
    rw [Mc.zcb] at hx
    rcases List.mem_append.mp hx with hx | hx
    ·exact h.li x hx
    ·cases hx
   ·split
    ·exact ⟨h.ln,h.li,h.he,h.ba,h.em⟩
    ·split
     ·rename_i j _
      unfold Mc.pick
      split
      ·rename_i x r hl
       refine ⟨fun k' l hl' y hy=>?_,fun y hy=>?_,h.he,h.ba,fun _=>em⟩
       ·replace hl' : (m.lanes.set j r)[k']? = some l:=hl'
        rw [List.getElem?_set] at hl'
        split at hl'
        ·rename_i e
         subst e
         split at hl'
         ·have hl':=Option.some.inj hl'
          rw [<- hl'] at hy
          exact h.ln j _ hl y (List.mem_cons_of_mem _ hy)
         ·cases hl'
        ·exact h.ln k' l hl' y hy
       ·have hy : y ∈ Mc.mats (m.line ++ [some x]):=hy
        rw [Mc.zcb] at hy
        rcases List.mem_append.mp hy with hy | hy
        ·exact h.li y hy
        ·have e : y = x:=by simpa using hy
         rw [e]
         obtain ⟨i,r0,h1,h2,_⟩:=h.ln j _ hl x List.mem_cons_self
         exact ⟨i,r0,h1,h2⟩
      ·exact h
     ·exact h
theorem Hom.tick {c : Mc.Cf} {m : Mc.Ms} (fl : ∀ (j : Nat) r,c.rs[j]? = some r -> Mt.zaG (c.rs.map fun r=>r.t) r.t = some j) (O : Mc.Ok c m) (h : Hom c m) : Hom c (Mc.tick c m):=by
 have h2:=((h.fall fl O).cool).strike
 exact ⟨h2.ln,h2.li,h2.he,h2.ba,h2.em⟩
theorem zmb {c : Mc.Cf} {m : Mc.Ms} (O : Mc.Ok c m) : (Mc.allM (Mc.fin c m)).Perm (Mc.allM m) :=
 zgq (P:=fun n=>(Mc.allM n).Perm (Mc.allM m)) (fun n On p=>(Mc.zmn On).trans p) _ m O (List.Perm.refl _)
/-- keys of one sign each: a sign stands first or behind a send key -/
def Lone (ks : List Nat) : Prop:=∀ i d,ks[i]? = some d -> d ≠ 47 -> i = 0 \/ ks[i - 1]? = some 47
theorem Hom.none {c : Mc.Cf} {m : Mc.Ms} (L : Lone c.keys.cps.toList) (O : Mc.Ok c m) (h : Hom c m) (hs : Mc.still c m = true) : m.line = [] /\ m.heat = [] /\ m.bar = []:=by
 unfold Mc.still at hs
 rw [Bool.or_eq_true] at hs
 rcases hs with h1 | h1
 ·unfold Mc.zbn at h1
  simp only [Bool.and_eq_true] at h1
  exact ⟨List.isEmpty_iff.mp h1.1.1.2,List.isEmpty_iff.mp h1.1.2,List.isEmpty_iff.mp h1.2⟩
 ·unfold Mc.zfp at h1
  simp only [Bool.and_eq_true] at h1
  refine ⟨?_,List.isEmpty_iff.mp h1.1.2,List.isEmpty_iff.mp h1.2⟩
  apply Classical.byContradiction
  intro hne
  obtain ⟨h0,d,hd,hd47⟩:=h.em hne
  have hl:=h1.1.1
  cases hk : Mc.key c m with
  | none =>
    have e1 : c.keys.cps.toList.length <= m.at_:=List.getElem?_eq_none_iff.mp hk
    exact hne (O.en (Nat.le_antisymm O.le e1))
  | some k =>
    have hk47 : k ≠ 47:=fun e=>by
     unfold Mc.zaU Mc.keyS at hl
     rw [hk,e] at hl
     have:=O.cf.noWedge.1
     dsimp only at hl
     rw [this] at hl
     cases hl
    rcases L m.at_ k hk hk47 with z | z
    ·exact h0 z
    ·rw [hd] at z
     exact hd47 (Option.some.inj z)
theorem Hom.all {c : Mc.Cf} {m : Mc.Ms} (L : Lone c.keys.cps.toList) (O : Mc.Ok c m) (h : Hom c m) (hs : Mc.still c m = true) : Mc.allM m = m.lanes.flatten:=by
 have e:=h.none L O hs
 unfold Mc.allM
 rw [e.1,e.2.1,e.2.2]
 show m.lanes.flatten ++ ([] ++ ([] ++ [])) = _
 rw [List.append_nil,List.append_nil,List.append_nil]
/-! a dict keyed by a sign and teeth,which counts -/
def kx (x : Mc.Mx) : List Key:=[Sum.inr x.1,Sum.inl x.2]
theorem zre {x y : Mc.Mx} (h : kx x = kx y) : x = y:=by
 unfold kx at h
 injection h with h1 h2
 injection h2 with h2 _
 exact Prod.ext (Sum.inr.inj h1) (Sum.inl.inj h2)
theorem zmY {kvs : List (List Key × V)} {k : List Key} {v : V} {kv : List Key × V} (h : kv ∈ putK kvs k v) : kv.1 = k \/ kv ∈ kvs:=by
 unfold putK at h
 split at h
 ·obtain ⟨kv',h1,h2⟩:=List.mem_map.mp h
  by_cases e : kv'.1 = k
  ·rw [if_pos e] at h2
   rw [<- h2]
   exact .inl e
  ·rw [if_neg e] at h2
   rw [<- h2]
   exact .inr h1
 ·rcases List.mem_append.mp h with h | h
  ·exact .inr h
  ·rw [List.mem_singleton.mp h]
   exact .inl rfl
def DV (W : Mc.Mx -> Prop) (kvs : List (List Key × V)) (f : Mc.Mx -> Int) : Prop:=(∀ x,¬ W x -> (valV kvs (kx x)).getD (.int 0) = .int (f x)) /\ ∀ kv ∈ kvs,∃ x,kv.1 = kx x /\ ¬ W x
theorem DV.nil {W : Mc.Mx -> Prop} : DV W [] fun _=>0:=⟨fun _ _=>rfl,fun kv hkv=>nomatch hkv⟩
theorem DV.put {W : Mc.Mx -> Prop} {kvs : List (List Key × V)} {f g : Mc.Mx -> Int} {x0 : Mc.Mx} {v : Int} (h : DV W kvs f) (hx : ¬ W x0) (h0 : g x0 = v) (h1 : ∀ x,x ≠ x0 -> g x = f x) : DV W (putK kvs (kx x0) (.int v)) g:=by
 refine ⟨fun x hw=>?_,fun kv hkv=>?_⟩
 ·rw [zjD]
  by_cases e : kx x = kx x0
  ·rw [if_pos e,zre e,h0]
   rfl
  ·rw [if_neg e,h1 x (fun z=>e (by rw [z]))]
   exact h.1 x hw
 ·rcases zmY hkv with e | e
  ·exact ⟨x0,e,hx⟩
  ·exact h.2 kv e
theorem DV.at {W : Mc.Mx -> Prop} {kvs : List (List Key × V)} {f : Mc.Mx -> Int} {kv : List Key × V} (h : DV W kvs f) (hm : kv ∈ kvs) : ∃ x,¬ W x /\ valV kvs kv.1 = some (.int (f x)):=by
 obtain ⟨x,e,hw⟩:=h.2 kv hm
 refine ⟨x,hw,?_⟩
 have h1:=h.1 x hw
 rw [<- e] at h1
 cases hv : valV kvs kv.1 with
 | none =>
   exfalso
   have:=zdL kv.1 kvs
   rw [hv] at this
   have h2 : (kvs.any fun kv'=>decide (kv'.1 = kv.1)) = true:=List.any_eq_true.mpr ⟨kv,hm,decide_eq_true rfl⟩
   rw [h2] at this
   cases this
 | some v =>
   rw [hv] at h1
   have h1 : v = .int (f x):=h1
   rw [h1]
theorem DV.some {W : Mc.Mx -> Prop} {kvs : List (List Key × V)} {f : Mc.Mx -> Int} {x : Mc.Mx} (h : DV W kvs f) (hw : ¬ W x) (hp : 0 < f x) : valV kvs (kx x) = some (.int (f x)):=by
 have h1:=h.1 x hw
 cases hv : valV kvs (kx x) with
 | none =>
   rw [hv] at h1
   have h1 : V.int 0 = .int (f x):=h1
   injection h1 with h1
   omega
 | some v =>
   rw [hv] at h1
   have h1 : v = .int (f x):=h1
   rw [h1]
theorem zha {most : Int} {rs : List Cs.Row} (R : Row71 most rs) {k : Nat} {r : Cs.Row} {t : Int} (hr : rs[k]? = some r) (ht : t ≠ r.t) : ¬ zfr rs (r.s,t):=by
 rintro ⟨r',hr',e⟩
 obtain ⟨j,hj,ej⟩:=List.getElem_of_mem hr'
 have h1:=R.pl j r' (by rw [List.getElem?_eq_getElem hj,ej])
 have h2:=R.pl k r hr
 have e1 : r.s = r'.s:=congrArg Prod.fst e
 have e2 : t = r'.t:=congrArg Prod.snd e
 rw [<- e1,h2] at h1
 have e3 : k = j:=Option.some.inj h1
 subst e3
 have e4 : rs[k]? = some r':=by rw [List.getElem?_eq_getElem hj,ej]
 rw [hr] at e4
 rw [Option.some.inj e4] at ht
 exact ht e2
def ps73 (cs : List Int) (own : Int) (wh : Nat) (b : Int) : Bool:=Mt.has own b && decide (Mt.zaG cs (own - b) = some wh)
theorem znn {cs : List Int} {own : Int} {wh : Nat} (ho : 0 <= own /\ own < 128) : ∀ n,own.toNat + 1 <= n -> n <= 128 -> (Mt.upto n).filter (ps73 cs own wh) = Mt.sets cs own wh
 | 0,h,_=>absurd h (by omega)
 | n + 1,h,h2=>by
   by_cases e : own.toNat + 1 = n + 1
   ·rw [Mt.zlU,<- e]
    rfl
   ·rw [Mt.zcQ,List.filter_append,znn ho n (by omega) (by omega)]
    have : ps73 cs own wh (n : Int) = false:=by
     unfold ps73
     cases hh : Mt.has own (n : Int) with
     | false=>rfl
     | true =>
       have:=Mt.zgQ ho ⟨by omega,by omega⟩ hh
       omega
    rw [List.filter_cons_of_neg (by rw [this]; exact Bool.false_ne_true),List.filter_nil,List.append_nil]
def zim (K : PySem.W.Frag) : Sp:=fun vs H Q _=>∃ (l : Addr) (ch wh : Nat) (cs : List Int) (own : Int),vs = [.ref l,.int (ch : Int),.int (wh : Int)] /\ SqL K H l (cs.map V.int) /\ (∀ c ∈ cs,0 <= c /\ c < 128) /\ cs.length <= 1000 /\ cs[ch]? = some own /\
 ∀ (r : Addr) (H' : Hp),H r = none -> Same H H' -> H' r = some (.lst ((Mt.sets cs own wh).map V.int)) -> Q (.ref r) H'
theorem zik (T : Tx K mg a) : FnOk P w K mg base CX0 3 a.f_law_sets a.d_law_sets ["_law_codes_here","_law_channel","_law_where"] (zim K):=by
 have G_law_has:=zfH (P:=P) (w:=w) (base:=base) T
 have G_law_falls:=zcR (P:=P) (w:=w) (base:=base) T
 refine T.law_sets.fn.ok zid (fun vs H Q E h=>?_) (fun cdv A outer s H vs Q E hr h=>?_)
 ·obtain ⟨l,ch,wh,cs,own,rfl,_⟩:=h
  rfl
 obtain ⟨l,ch,wh,cs,own,rfl,hS,hc,hl,hch,q⟩:=h
 have hob:=hc own (List.mem_of_getElem? hch)
 have hat : ∀ _ : Unit,atI (cs.map V.int) (ch : Int) = some (.int own):=fun _=>zaF (by rw [List.getElem?_map,hch]; rfl)
 refine ⟨_,(zab (zau (i:=3) zid.nd rfl (Or.inl rfl) (zaE zad))
  (zab (zbE PassesOwn.never rfl (zbt rfl T.b_range (zaa zag zad)) (zah (i:=4) zid.nd rfl (Or.inl rfl)) (zae (zbp (PW.pt (zdp (zcg (zaQ T.law_has G_law_has hr rfl (zaa (zaK (zas K rfl) (pv 0) (pv 1) (fun _ _=>rfl)) (zaa (pv 4) zad)))) (zci (zao zcU (zaQ T.law_falls G_law_falls hr rfl (zaa (pv 0) (zaa (zar zdn (zaK (zas K rfl) (pv 0) (pv 1) (fun _ _=>rfl)) (pv 4)) zad))) (pv 2) (zap _))))) (zae (zaH (zbo K rfl PySem.F.plainAttrs_list PySem.F.slot_list_append PySem.F.type_list_append zaY (pv 3) (zaa (pv 4) zad)))) zaB)))
  (zae (zav (pv 3))))),?_⟩
 walk_at "rd"
 intro D hD
 have hs1:=zaf hD (.lst [])
 have h1D : upd H D (.lst []) D = some (.lst []):=upd_same
 generalize upd H D (.lst []) = H1 at hs1 h1D ⊢
 have hDu : ∀ _ : Unit,H D = none:=fun _=>hD
 clear hD
 walk_at "rd"
 refine zbW (n:=128) (fun i σ H2=>∃ (v4 : Option V),σ = [some (.ref l),some (.int ch),some (.int wh),some (.ref D),v4] /\ Same H H2 /\ H2 D = some (.lst (((Mt.upto i).filter (ps73 cs own wh)).map V.int))) ⟨none,rfl,hs1,h1D⟩ ?_ ?_
 ·rintro i σ H2 hi ⟨v4,rfl,hs2,h2D⟩
  have hi : i < 128:=hi
  rw [Int.zero_add]
  have hul : ((Mt.upto i).filter (ps73 cs own wh)).length <= 128:=by
   have h1 : ((Mt.upto i).filter (ps73 cs own wh)).length <= (Mt.upto i).length:=List.length_filter_le _ _
   rw [Mt.zgv] at h1
   omega
  have hno : ps73 cs own wh (i : Int) = false -> (Mt.upto (i + 1)).filter (ps73 cs own wh) = (Mt.upto i).filter (ps73 cs own wh):=fun e=>by
   rw [Mt.zcQ,List.filter_append,List.filter_cons_of_neg (by rw [e]; exact Bool.false_ne_true),List.filter_nil,List.append_nil]
  have hye : ps73 cs own wh (i : Int) = true -> (Mt.upto (i + 1)).filter (ps73 cs own wh) = (Mt.upto i).filter (ps73 cs own wh) ++ [(i : Int)]:=fun e=>by
   rw [Mt.zcQ,List.filter_append,List.filter_cons_of_pos e,List.filter_nil]
  walk_at "rd"
  refine ⟨l,_,_,_,rfl,rfl,hs2.seq hS,hat (),?_⟩
  walk_at "rd"
  refine ⟨_,_,rfl,hob.1,by omega,by omega,?_⟩
  cases hh : Mt.has own (i : Int) with
  | false =>
    refine ⟨_,rfl,?_⟩
    refine iteF ?_
    exact ⟨_,rfl,hs2,by rw [hno (by unfold ps73; rw [hh]; rfl)]; exact h2D⟩
  | true =>
    have hle:=Mt.zgQ hob ⟨by omega,by omega⟩ hh
    refine ⟨_,rfl,?_⟩
    refine iteT ?_
    walk_at "rd"
    refine ⟨l,_,_,_,rfl,rfl,hs2.seq hS,hat (),?_⟩
    walk_at "rd"
    refine ⟨l,own - (i : Int),cs,rfl,hs2.seq hS,hl,fun c hcm=>(hc c hcm).1,by omega,by omega,fun H3 hs3=>?_⟩
    have h3D:=hs3 _ _ h2D
    have hs03:=hs2.trans hs3
    cases hf : Mt.zaG cs (own - (i : Int)) with
    | none =>
      have hp : ps73 cs own wh (i : Int) = false:=by unfold ps73; rw [hh,hf]; rfl
      refine ⟨_,rfl,?_⟩
      refine ⟨rfl,?_⟩
      refine ⟨false,congrArg V.bl (decide_eq_false (fun z=>by cases z)),?_⟩
      refine iteF ?_
      exact ⟨_,rfl,hs03,by rw [hno hp]; exact h3D⟩
    | some k =>
      refine ⟨_,rfl,?_⟩
      refine ⟨rfl,?_⟩
      by_cases e : k = wh
      ·subst e
       have hp : ps73 cs own k (i : Int) = true:=by unfold ps73; rw [hh,hf,decide_eq_true rfl]; rfl
       refine ⟨true,congrArg V.bl (decide_eq_true rfl),?_⟩
       refine iteT ?_
       walk_at "rd"
       refine ⟨.inl ⟨rfl,_,SqL.of h3D⟩,?_⟩
       walk_at "rd"
       refine ⟨D,_,_,rfl,rfl,h3D,zby (by rw [List.length_map]; omega),?_⟩
       exact ⟨_,rfl,zan hs03 (hDu ()),by rw [hye hp,upd_same,List.map_append]; rfl⟩
      ·have hp : ps73 cs own wh (i : Int) = false:=by unfold ps73; rw [hh,hf,decide_eq_false (fun z=>e (Option.some.inj z))]; rfl
       refine ⟨false,congrArg V.bl (decide_eq_false (fun z=>e (by have z : V.int (k : Int) = V.int (wh : Int):=z; injection z with z; omega))),?_⟩
       refine iteF ?_
       exact ⟨_,rfl,hs03,by rw [hno hp]; exact h3D⟩
 ·rintro σ H2 ⟨v4,rfl,hs2,h2D⟩
  rw [znn hob 128 (by omega) (Nat.le_refl _)] at h2D
  walk_at "rd"
  exact q D H2 (hDu ()) hs2 h2D
theorem zlD {rs : List Cs.Row} {bs : List (Int × Int)} {i k : Nat} {b : Int × Int} {r : Cs.Row} (h : bs[i]? = some b) (hk : b.1 = (k : Int)) (hr : rs[k]? = some r) : zcw rs (bs.take (i + 1)) = zcw rs (bs.take i) ++ [(r.s,r.t - b.2)]:=by
 unfold zcw
 rw [List.take_add_one,h,List.filterMap_append]
 congr 1
 have e3 : (rs[b.1.toNat]?).map (fun r=>(r.s,r.t - b.2)) = some (r.s,r.t - b.2):=by
  rw [hk,Int.toNat_natCast,hr]
  rfl
 exact List.filterMap_cons_some e3
theorem zcu (l : List Mc.Mx) (x y : Mc.Mx) : ((l ++ [y]).count x : Int) = (l.count x : Int) + (if x = y then 1 else 0):=by
 rw [List.count_append,List.count_singleton]
 by_cases e : x = y
 ·subst e
  rw [if_pos rfl,if_pos (beq_self_eq_true _)]
  rfl
 ·rw [if_neg e,if_neg (fun z=>e (eq_of_beq z).symm)]
  rfl
def zhh (a : Ad) : Sp:=fun vs H Q _=>∃ (p pc pk pb : Addr) (A : Mc.Adr) (c : Mc.Cf) (m : Mc.Ms) (xs bv : List V) (bs : List (Int × Int)) (most : Int),vs = [.ref p,.ref pc,.ref pk,.ref pb] /\ MA a c H p A m /\ Mc.Ok c m /\ H pc = some (.lst xs) /\ Paired (Cs.zbU H) xs c.rs /\ H pk = some (.lst ((c.rs.map fun r=>r.t).map V.int)) /\ H pb = some (.lst bv) /\ Paired (Two H) bv bs /\ bs.length <= 63 /\ Row71 most c.rs /\ most <= 40 /\ (∀ b ∈ bs,1 <= b.2 /\ b.2 < 128 /\ ∃ (k : Nat) (r : Cs.Row),b.1 = (k : Int) /\ c.rs[k]? = some r /\ Mt.has r.t b.2 = true) /\ (∀ (k : Nat) l,m.lanes[k]? = some l -> ∀ x ∈ l,zoF c.rs k x) /\ (∀ x,¬ zfr c.rs x -> m.lanes.flatten.count x = (zcw c.rs bs).count x) /\ (m.lanes.flatten.length : Int) = (c.rs.map fun r=>r.n).sum /\ ∀ H',Same H H' -> Q (.bl true) H'
theorem zhB (T : Tx K mg a) : FnOk P w K mg base CX0 4 a.f_law_homes a.d_law_homes ["_law_machine","_law_case_here","_law_codes_here","_law_broken_here"] (zhh a):=by
 have G_law_falls:=zcR (P:=P) (w:=w) (base:=base) T
 have G_Machine_channels:=zdx (P:=P) (w:=w) (base:=base) T
 refine T.law_homes.fn.ok zhD (fun vs H Q E h=>?_) (fun cdv A outer s H vs Q E hr h=>?_)
 ·obtain ⟨p,pc,pk,pb,A,c,m,xs,bv,bs,most,rfl,_⟩:=h
  rfl
 obtain ⟨p,pc,pk,pb,A,c,m,xs,bv,bs,most,rfl,M,O,hpc,hpd,hpk,hpb,hbd,hbl,R,hmost,hbb,hlie,hct,hlen,q⟩:=h
 have hxl:=Cs.zbC hpd
 have hbvl:=Paired.length hbd
 have hfew:=R.l2
 have tot : m.lanes.flatten.length <= 1300:=by
  have h1 : (c.rs.map fun r=>r.n).sum <= 40 * (c.rs.length : Int):=by
   have hb : ∀ r ∈ c.rs,r.n <= 40:=fun r hr=>by have:=(R.mn r hr).2; omega
   revert hb
   generalize c.rs = rs
   intro hb
   induction rs with
   | nil=>exact Int.le_refl _
   | cons r rs ih =>
     have:=ih fun r hr=>hb r (List.mem_cons_of_mem _ hr)
     have h2:=hb r List.mem_cons_self
     rw [List.map_cons,List.sum_cons,List.length_cons]
     omega
  omega
 refine ⟨_,(zab (zau (i:=4) zhD.nd rfl (Or.inr rfl) zmL)
  (zab (zbE PassesOwn.never rfl (zaC K rfl (pv 3)) (zbj K rfl (n:=2) rfl (zaj (zah (i:=5) zhD.nd rfl (Or.inl rfl)) (zaj (zah (i:=6) zhD.nd rfl (Or.inl rfl)) zbl))) (zab (zau (i:=7) zhD.nd rfl (Or.inl rfl) (zcM (zaa (zaK (zcv K rfl) (zaK (zas K rfl) (pv 1) (pv 5) (fun _ _=>rfl)) zag (fun _ _=>rfl)) (zaa (zar zdn (zaK (zas K rfl) (pv 2) (pv 5) (fun _ _=>rfl)) (pv 6)) zad))))
  (zae (ziU (zgC hr) (pv 4) (pv 7) (zar zbs (zeq (zgC hr) (pv 4) (pv 7) zag ⟨rfl,rfl,rfl,rfl⟩) zag) rfl))))
  (zab (zau (i:=8) zhD.nd rfl (Or.inl rfl) zag)
  (zab (zau (i:=9) zhD.nd rfl (Or.inl rfl) (zbV (K:=K) rfl T.Machine.cl T.Machine_channels G_Machine_channels hr zds (pv 0)))
  (zab (zbE PassesOwn.never rfl (zbt rfl T.b_range (zaa (zaJ (zbf K rfl) rfl T.b_len zbY (zaa (pv 9) zad)) zad)) (zah (i:=10) zhD.nd rfl (Or.inl rfl)) (zab (zau (i:=8) zhD.nd rfl (Or.inl rfl) (zar zbs (pv 8) (zaJ (zbf K rfl) rfl T.b_len zbY (zaa (zaK (zas K rfl) (pv 9) (pv 10) (fun _ _=>rfl)) zad))))
  (zae (zbE PassesOwn.never rfl (zaC K rfl (zaK (zas K rfl) (pv 9) (pv 10) (fun _ _=>rfl))) (zbj K rfl (n:=2) rfl (zaj (zah (i:=11) zhD.nd rfl (Or.inr rfl)) (zaj (zah (i:=12) zhD.nd rfl (Or.inl rfl)) zbl))) (zab (zau (i:=13) zhD.nd rfl (Or.inl rfl) (zaK (zas K rfl) (zbg rfl (zbt rfl T.b_range (zaa (zaJ (zbf K rfl) rfl T.b_len zbY (zaa (pv 1) zad)) zad)) (BlkOk.of (N':=["_law_machine","_law_case_here","_law_codes_here","_law_broken_here","_law_owed","_law_channel","_law_left","_law_one","_law_many","_law_rows","_law_k","_law_sign","_law_teeth","_law_home","_law_j"]) (ms:=[]) (k:=1) (by rfl)) (fun _ _ _ _ _=>(zah (i:=14) (show List.Nodup (["_law_machine","_law_case_here","_law_codes_here","_law_broken_here","_law_owed","_law_channel","_law_left","_law_one","_law_many","_law_rows","_law_k","_law_sign","_law_teeth","_law_home","_law_j"] : List Str) from by decide +kernel) rfl (Or.inl rfl))) (fun _ _ _ _ _=>(zdU (zao zcU (zaK (zcv K rfl) (zaK (zas K rfl) (pv 1) (pv 14) (fun _ _=>rfl)) zag (fun _ _=>rfl)) (pv 11) (zap _)))) (fun _ _ _ _ _=>(pv 14))) zag (fun _ _=>rfl)))
  (zab (zbp (PW.pt (zdp (zao zcU (pv 12) (zaK (zas K rfl) (pv 2) (pv 13) (fun _ _=>rfl)) (zap _)) (zci (zao zfd (pv 10) (pv 13) (zap _))))) (zae (zav zeg)) zaB)
  (zae (zbp (zao zfd (pv 12) (zaK (zas K rfl) (pv 2) (pv 13) (fun _ _=>rfl)) (zap _)) (zab (zbp (PW.pt (zoB (PW.pt (zdp (zao zfd (pv 10) (pv 13) (zap _)) (zci (zao zfd (pv 10) (zaQ T.law_falls G_law_falls hr rfl (zaa (pv 2) (zaa (pv 12) zad))) (zap _))))) (zlA (zao zii (zeq (zgC hr) (pv 4) (zcM (zaa (pv 11) (zaa (pv 12) zad))) zag ⟨rfl,rfl,rfl,rfl⟩) zag (zap _))))) (zae (zav zeg)) zaB)
  (zae (ziU (zgC hr) (pv 4) (zcM (zaa (pv 11) (zaa (pv 12) zad))) (zar zdn (zlo (zgC hr) (pv 4) (zcM (zaa (pv 11) (zaa (pv 12) zad))) (fun _ _=>rfl)) zag) rfl))) zaB))))))))
  (zae (zav (zcH (zbk zcU (pv 8) (zaJ (ksum K rfl rfl) rfl T.b_sum znc (zaa (zbg rfl (zaC K rfl (pv 1)) (BlkOk.of (N':=["_law_machine","_law_case_here","_law_codes_here","_law_broken_here","_law_owed","_law_channel","_law_left","_law_one","_law_many","_law_rows","_law_k","_law_sign","_law_teeth","_law_home"]) (ms:=[5]) (k:=0) (by rfl)) (fun _ _ _ _ _=>(zah (i:=5) (show List.Nodup (["_law_machine","_law_case_here","_law_codes_here","_law_broken_here","_law_owed","_law_channel","_law_left","_law_one","_law_many","_law_rows","_law_k","_law_sign","_law_teeth","_law_home"] : List Str) from by decide +kernel) rfl (Or.inl rfl))) (fun _ _ _ _ _=>zbK) (fun _ _ _ _ _=>(zaK (zcv K rfl) (pv 5) zag (fun _ _=>rfl)))) zad)) (zap _)) (zeb (zbk (keqD K rfl hr.units) (zbg rfl (zon (pv 4)) (BlkOk.of (N':=["_law_machine","_law_case_here","_law_codes_here","_law_broken_here","_law_owed","_law_channel","_law_left","_law_one","_law_many","_law_rows","_law_k","_law_sign","_law_teeth","_law_home"]) (ms:=[7]) (k:=0) (by rfl)) (fun _ _ _ _ _=>(zah (i:=7) (show List.Nodup (["_law_machine","_law_case_here","_law_codes_here","_law_broken_here","_law_owed","_law_channel","_law_left","_law_one","_law_many","_law_rows","_law_k","_law_sign","_law_teeth","_law_home"] : List Str) from by decide +kernel) rfl (Or.inl rfl))) (fun _ _ _ _ _=>(zdU (zao zjZ (zlo (zgC hr) (pv 4) (pv 7) (fun _ _=>rfl)) zag (zap _)))) (fun _ _ _ _ _=>(pv 7))) (zaE zad) (zap _))))))))))),?_⟩
 walk_at "rd"
 intro dA hdA
 have hs1:=zaf hdA (.dT [])
 have h1d : upd H dA (.dT []) dA = some (.dT []):=upd_same
 generalize upd H dA (.dT []) = H1 at hs1 h1d ⊢
 have hdAu : ∀ _ : Unit,H dA = none:=fun _=>hdA
 clear hdA
 have ndA : ∀ {b : Addr} {o : HO},H b = some o -> b ≠ dA:=fun h e=>by rw [e,hdAu ()] at h; cases h
 walk_at "rd"
 refine ⟨⟨_,SqL.of (hs1 _ _ hpb)⟩,?_⟩
 refine zca (a:=pb) (xs:=bv) (fun i σ H2=>∃ (kvs : List (List Key × V)) (v5 v6 v7 : Option V),σ = [some (.ref p),some (.ref pc),some (.ref pk),some (.ref pb),some (.ref dA),v5,v6,v7,none,none,none,none,none,none] /\ Same H H2 /\ H2 dA = some (.dT kvs) /\ kvs.length <= i /\ DV (zfr c.rs) kvs fun x=>((zcw c.rs (bs.take i)).count x : Int))
  ⟨[],none,none,none,rfl,hs1,h1d,Nat.zero_le _,DV.nil⟩ (by rintro i σ H2 _ ⟨_,_,_,_,_,hs,_⟩; exact hs.seq (SqL.of hpb)) ?_ ?_
 ·rintro i y σ H2 hy ⟨kvs,v5,v6,v7,rfl,hs2,h2d,hkl,hdv⟩
  obtain ⟨b,hbi,tb,rfl,htb⟩:=Cs.zaX hbd hy
  have hil : i < bs.length:=(List.getElem?_eq_some_iff.mp hbi).1
  obtain ⟨hb1,hb2,k,r,hbk,hrk,hh⟩:=hbb b (List.mem_of_getElem? hbi)
  have hot:=zlD hbi hbk hrk
  have hx0 : ¬ zfr c.rs (r.s,r.t - b.2):=zha R hrk (by omega)
  obtain ⟨b1,b2⟩:=b
  have hbk : b1 = (k : Int):=hbk
  subst hbk
  obtain ⟨_,hv0,t0,rfl,ht0⟩:=Cs.zdA hpd hrk
  have EK : ∀ _ : Unit,atI xs (k : Int) = some (.ref t0):=fun _=>zaF hv0
  have EC : ∀ _ : Unit,atI ((c.rs.map fun r=>r.t).map V.int) (k : Int) = some (.int r.t):=fun _=>zaF (by rw [List.getElem?_map,List.getElem?_map,hrk]; rfl)
  have a0 : atI (Cs.rowV r) 0 = some (.str r.s):=rfl
  have hpc2:=hs2 _ _ hpc
  have hpk2:=hs2 _ _ hpk
  have ht02:=hs2 _ _ ht0
  refine ⟨_,_,rfl,SqT.of (hs2 _ _ htb),rfl,?_⟩
  walk_at "tg"
  walk_at "tg"
  try refine And.intro rfl ?_
  walk_at "rd"
  refine ⟨pc,_,_,_,rfl,rfl,SqL.of hpc2,EK (),?_⟩
  refine ⟨t0,_,_,_,rfl,rfl,SqT.of ht02,a0,?_⟩
  walk_at "rd"
  refine ⟨pk,_,_,_,rfl,rfl,SqL.of hpk2,EC (),?_⟩
  walk_at "rd"
  intro t1 ht1
  have hs3':=zaf ht1 (.tup [.str r.s,.int (r.t - b2)])
  have h3t : upd H2 t1 (.tup [.str r.s,.int (r.t - b2)]) t1 = some (.tup ((kx (r.s,r.t - b2)).map kV)):=upd_same
  show (fun x H1=>zlC 7 x _ H1 _) (V.ref t1) (upd H2 t1 (HO.tup [V.str r.s,V.int (r.t - b2)]))
  generalize upd H2 t1 (HO.tup [V.str r.s,V.int (r.t - b2)]) = H3 at hs3' h3t ⊢
  have hs3:=hs2.trans hs3'
  have h3d:=hs3' _ _ h2d
  have ID : IsD H3 dA:=.inr ⟨kvs,.inl h3d⟩
  have DG:=DGet.t h3d h3t
  clear ht1
  walk_at "rd"
  try refine ⟨dA,rfl,ID,?_⟩
  walk_at "rd"
  refine ⟨_,DG,?_⟩
  rw [hdv.1 _ hx0]
  walk_at "rd"
  refine ⟨dA,_,rfl,DPut.t h3d h3t (zby (by omega)),?_⟩
  refine ⟨_,_,_,_,rfl,zan hs3 (hdAu ()),upd_same,?_,hdv.put hx0 ?_ fun x hx=>?_⟩
  ·refine Nat.le_trans (zbL _ _ _) ?_
   omega
  ·rw [hot,zcu,if_pos rfl]
  ·rw [hot,zcu,if_neg hx]
   exact Int.add_zero _
 ·rintro σ H2 ⟨kvs,v5,v6,v7,rfl,hs2,h2d,hkl,hdv⟩
  rw [hbvl,List.take_of_length_le (Nat.le_refl _)] at hdv
  rw [hbvl] at hkl
  have M2:=M.same hs2
  have I2:=M2.ins
  walk_at "rd"
  refine ⟨p,A,c,m,rfl,M2,O,fun rA H4 hrA hs4 hL=>?_⟩
  obtain ⟨ls,hr4,hls,_,_⟩:=hL
  have hll:=Paired.length hls
  have h4d:=hs4 _ _ h2d
  have hs04:=hs2.trans hs4
  have nrA : rA ≠ dA:=fun e=>by rw [e,h2d] at hrA; cases hrA
  clear hrA
  have hlam:=O.ln
  walk_at "rd"
  refine ⟨rA,_,rfl,.inl (SqL.of hr4),?_⟩
  rw [List.length_map,hll]
  refine ⟨_,rfl,by omega,by omega,?_⟩
  refine zbW (n:=m.lanes.length) (fun i σ H6=>∃ (kvs : List (List Key × V)) (v5 v6 v7 v10 v11 v12 v13 : Option V),σ = [some (.ref p),some (.ref pc),some (.ref pk),some (.ref pb),some (.ref dA),v5,v6,v7,some (.int ((m.lanes.take i).flatten.length : Int)),some (.ref rA),v10,v11,v12,v13] /\ Same H H6 /\ (∀ b o,b ≠ dA -> H4 b = some o -> H6 b = some o) /\ H6 dA = some (.dT kvs) /\ kvs.length <= 63 + (m.lanes.take i).flatten.length /\ DV (zfr c.rs) kvs fun x=>((zcw c.rs bs).count x : Int) - ((m.lanes.take i).flatten.count x : Int))
   ⟨kvs,v5,v6,v7,none,none,none,none,rfl,hs04,(fun b o _ h=>h),h4d,by omega,⟨fun x hx=>by rw [hdv.1 x hx]; show V.int _ = V.int (_ - ((([] : List Mc.Mx).count x : Nat) : Int)); rw [List.count_nil]; simp,hdv.2⟩⟩ ?_ ?_
  ·rintro i σ H6 hi ⟨kvs,v5,v6,v7,v10,v11,v12,v13,rfl,hs6,hk6,h6d,hkl,hdv⟩
   rw [Int.zero_add]
   obtain ⟨q1,hq1⟩ : ∃ q1,ls[i]? = some q1:=⟨_,List.getElem?_eq_getElem (by omega)⟩
   obtain ⟨l0,hl0,us,hu1,hu2⟩:=Cs.zaX hls hq1
   have hul:=Paired.length hu2
   have hatl : ∀ _ : Unit,atI (ls.map V.ref) (i : Int) = some (.ref q1):=fun _=>zaF (by rw [List.getElem?_map,hq1]; rfl)
   have hrA6:=hk6 _ _ nrA hr4
   have nq1 : q1 ≠ dA:=fun e=>by rw [e,h4d] at hu1; cases hu1
   have hq6:=hk6 _ _ nq1 hu1
   have e1 : (m.lanes.take (i + 1)).flatten = (m.lanes.take i).flatten ++ l0:=by
    rw [List.take_add_one,hl0,List.flatten_append]
    show _ ++ (l0 ++ []) = _
    rw [List.append_nil]
   have esp : m.lanes.flatten = (m.lanes.take i).flatten ++ l0 ++ (m.lanes.drop (i + 1)).flatten:=by
    rw [<- e1,<- List.flatten_append,List.take_append_drop]
   have hle : (m.lanes.take i).flatten.length + l0.length <= 1300:=by
    rw [esp,List.length_append,List.length_append] at tot
    omega
   rw [e1]
   generalize (m.lanes.take i).flatten = pre at hkl hdv hle esp ⊢
   walk_at "rd"
   refine ⟨rA,_,_,_,rfl,rfl,SqL.of hrA6,hatl (),?_⟩
   walk_at "rd"
   refine ⟨q1,_,rfl,.inl (SqL.of hq6),?_⟩
   rw [hul]
   walk_at "rd"
   refine ⟨rA,_,_,_,rfl,rfl,SqL.of hrA6,hatl (),?_⟩
   refine ⟨q1,rfl,⟨_,SqL.of hq6⟩,?_⟩
   refine zca (a:=q1) (xs:=us) (fun j σ H7=>∃ (kvs : List (List Key × V)) (v11 v12 v13 : Option V),σ = [some (.ref p),some (.ref pc),some (.ref pk),some (.ref pb),some (.ref dA),v5,v6,v7,some (.int ((pre.length : Int) + (l0.length : Int))),some (.ref rA),some (.int (i : Int)),v11,v12,v13] /\ Same H H7 /\ (∀ b o,b ≠ dA -> H4 b = some o -> H7 b = some o) /\ H7 dA = some (.dT kvs) /\ kvs.length <= 63 + (pre.length + j) /\ DV (zfr c.rs) kvs fun x=>((zcw c.rs bs).count x : Int) - ((pre ++ l0.take j).count x : Int))
    ⟨kvs,_,_,_,rfl,hs6,hk6,h6d,by omega,by rw [List.take_zero,List.append_nil]; exact hdv⟩ (by rintro j σ H7 _ ⟨_,_,_,_,_,_,hk,_⟩; exact SqL.of (hk _ _ nq1 hu1)) ?_ ?_
   ·rintro j y σ H7 hy ⟨kvs,v11,v12,v13,rfl,hs7,hk7,h7d,hkl7,hdv7⟩
    obtain ⟨x,hxj,tx,rfl,htx⟩:=Cs.zaX hu2 hy
    have hxm:=List.mem_of_getElem? hxj
    have hjl : j < l0.length:=(List.getElem?_eq_some_iff.mp hxj).1
    obtain ⟨j0,r0,hr0,hs0,hor,hwh⟩:=hlie i l0 hl0 x hxm
    have hj0 : j0 < c.rs.length:=(List.getElem?_eq_some_iff.mp hr0).1
    have ntx : tx ≠ dA:=fun e=>by rw [e,h4d] at htx; cases htx
    have htx7:=hk7 _ _ ntx htx
    have hpc7:=hs7 _ _ hpc
    have hpk7:=hs7 _ _ hpk
    obtain ⟨x1,x2⟩:=x
    have hs0 : r0.s = x1:=hs0
    subst hs0
    have EC : ∀ _ : Unit,atI ((c.rs.map fun r=>r.t).map V.int) (j0 : Int) = some (.int r0.t):=fun _=>zaF (by rw [List.getElem?_map,List.getElem?_map,hr0]; rfl)
    have e2 : l0.take (j + 1) = l0.take j ++ [(r0.s,x2)]:=by rw [List.take_add_one,hxj]; rfl
    refine ⟨_,_,rfl,SqT.of htx7,rfl,?_⟩
    walk_at "tg"
    walk_at "tg"
    try refine And.intro rfl ?_
    walk_at "rd"
    refine ⟨pc,_,rfl,.inl (SqL.of hpc7),?_⟩
    rw [hxl]
    refine ⟨_,rfl,by omega,by omega,?_⟩
    intro D hD
    refine zdQ (n:=c.rs.length) (fun k ys σ H8=>∃ (v14 : Option V),ys = (if j0 < k then [V.int (j0 : Int)] else []) /\ σ = [some (.ref p),some (.ref pc),some (.ref pk),some (.ref pb),some (.ref dA),v5,v6,v7,some (.int ((pre.length : Int) + (l0.length : Int))),some (.ref rA),some (.int (i : Int)),some (.str r0.s),some (.int x2),v13,v14] /\ Same H7 H8 /\ H8 D = some (.lst ys))
     ?_ ?_ ?_
    ·exact ⟨none,rfl,rfl,zaf hD _,upd_same⟩
    ·rintro k ys σ H8 hk ⟨v14,rfl,rfl,hs8,h8D⟩
     rw [Int.zero_add]
     have hrk : c.rs[k]? = some c.rs[k]:=List.getElem?_eq_getElem hk
     generalize c.rs[k] = rk at hrk
     obtain ⟨_,hv0,t0,rfl,ht0⟩:=Cs.zdA hpd hrk
     have EK : ∀ _ : Unit,atI xs (k : Int) = some (.ref t0):=fun _=>zaF hv0
     have a0 : atI (Cs.rowV rk) 0 = some (.str rk.s):=rfl
     have hpc8:=hs8 _ _ hpc7
     have ht8:=hs8 _ _ (hs7 _ _ ht0)
     walk_at "rd"
     refine ⟨pc,_,_,_,rfl,rfl,SqL.of hpc8,EK (),?_⟩
     refine ⟨t0,_,_,_,rfl,rfl,SqT.of ht8,a0,?_⟩
     walk_at "rd"
     by_cases e : k = j0
     ·subst e
      rw [hr0] at hrk
      cases hrk
      have ed : decide (V.str r0.s = V.str r0.s) = true:=decide_eq_true rfl
      rw [ed]
      refine iteT ?_
      refine ⟨_,rfl,?_⟩
      refine zcz hk h8D (by split <;> simp) ⟨_,?_,rfl,zan hs8 hD,upd_same⟩
      rw [if_neg (Nat.lt_irrefl _),if_pos (Nat.lt_succ_self _)]
      rfl
     ·have ne : rk.s ≠ r0.s:=fun z=>by
       have h1:=R.pl k rk hrk
       rw [z,R.pl j0 r0 hr0] at h1
       exact e (Option.some.inj h1).symm
      have ed : decide (V.str rk.s = V.str r0.s) = false:=decide_eq_false fun z=>ne (by injection z)
      rw [ed]
      refine iteF ?_
      refine ziS hk ⟨_,?_,rfl,hs8,h8D⟩
      by_cases h3 : j0 < k
      ·rw [if_pos h3,if_pos (by omega)]
      ·rw [if_neg h3,if_neg (by omega)]
    ·rintro ys σ H8 ⟨v14,rfl,rfl,hs8,h8D⟩
     rw [if_pos hj0] at h8D
     have hs08:=hs7.trans hs8
     have hk8 : ∀ b o,b ≠ dA -> H4 b = some o -> H8 b = some o:=fun b o n h=>hs8 _ _ (hk7 b o n h)
     have h8d:=hs8 _ _ h7d
     have hpk8:=hs8 _ _ hpk7
     clear hD
     refine ⟨D,_,_,_,rfl,rfl,SqL.of h8D,rfl,?_⟩
     walk_at "rd"
     refine ⟨pk,_,_,_,rfl,rfl,SqL.of hpk8,EC (),?_⟩
     walk_at "rd"
     by_cases ew : x2 = r0.t
     ·have ei:=hwh ew
      subst ew
      have d1 : decide (V.int r0.t = V.int r0.t) = true:=decide_eq_true rfl
      rw [d1]
      refine iteT ?_
      walk_at "rd"
      have d2 : decide (V.int (i : Int) = V.int (j0 : Int)) = true:=decide_eq_true (by rw [ei])
      rw [d2]
      refine iteF ?_
      walk_at "rd"
      refine ⟨pk,_,_,_,rfl,rfl,SqL.of hpk8,EC (),?_⟩
      walk_at "rd"
      rw [d1]
      refine iteF ?_
      refine ⟨kvs,_,_,_,rfl,hs08,hk8,h8d,by omega,⟨fun x hx=>?_,hdv7.2⟩⟩
      rw [hdv7.1 x hx,e2,<- List.append_assoc]
      have hne : x ≠ (r0.s,r0.t):=fun z=>hx ⟨r0,List.mem_of_getElem? hr0,z⟩
      have:=zcu (pre ++ l0.take j) x (r0.s,r0.t)
      rw [if_neg hne] at this
      show V.int _ = V.int (_ - (((pre ++ l0.take j ++ [(r0.s,r0.t)]).count x : Nat) : Int))
      rw [this]
      simp
     ·have hx0 : ¬ zfr c.rs (r0.s,x2):=zha R hr0 ew
      have hcx:=hct _ hx0
      have hpos : (pre ++ l0.take j).count (r0.s,x2) + 1 <= (zcw c.rs bs).count (r0.s,x2):=by
       have e4 : l0 = l0.take j ++ [(r0.s,x2)] ++ l0.drop (j + 1):=by rw [<- e2,List.take_append_drop]
       rw [<- hcx,esp]
       rw [e4]
       simp only [List.count_append,List.count_singleton_self]
       rw [<- e4]
       omega
      have d1 : decide (V.int x2 = V.int r0.t) = false:=decide_eq_false fun z=>ew (by injection z)
      rw [d1]
      refine iteF ?_
      try refine iteF ?_
      walk_at "rd"
      refine ⟨pk,_,_,_,rfl,rfl,SqL.of hpk8,EC (),?_⟩
      walk_at "rd"
      rw [d1]
      refine iteT ?_
      walk_at "rd"
      by_cases ek : i = j0
      ·have d3 : (!decide (V.int (i : Int) = V.int (j0 : Int))) = false:=by rw [decide_eq_true (by rw [ek])]; rfl
       rw [d3]
       refine iteF ?_
       refine iteF ?_
       have ID : IsD H8 dA:=.inr ⟨kvs,.inl h8d⟩
       walk_at "rd"
       try refine ⟨dA,rfl,ID,?_⟩
       walk_at "rd"
       intro t2 ht2
       have hsA:=zaf ht2 (.tup [.str r0.s,.int x2])
       have hAt : upd H8 t2 (.tup [.str r0.s,.int x2]) t2 = some (.tup ((kx (r0.s,x2)).map kV)):=upd_same
       generalize upd H8 t2 (.tup [.str r0.s,.int x2]) = HA at hsA hAt ⊢
       have hAd:=hsA _ _ h8d
       clear ht2
       walk_at "rd"
       refine ⟨_,DGet.t hAd hAt,?_⟩
       rw [hdv7.1 _ hx0]
       walk_at "rd"
       try dsimp only
       rw [show decide (((zcw c.rs bs).count (r0.s,x2) : Int) - ((pre ++ l0.take j).count (r0.s,x2) : Int) < 1) = false from decide_eq_false (by omega)]
       refine iteF ?_
       walk_at "rd"
       intro t3 ht3
       have hsB:=zaf ht3 (.tup [.str r0.s,.int x2])
       have hBt : upd HA t3 (.tup [.str r0.s,.int x2]) t3 = some (.tup ((kx (r0.s,x2)).map kV)):=upd_same
       generalize upd HA t3 (.tup [.str r0.s,.int x2]) = HB at hsB hBt ⊢
       have hBd:=hsB _ _ hAd
       clear ht3
       refine ⟨dA,_,rfl,by have g:=DGet.t hBd hBt; rw [hdv7.some hx0 (by omega)] at g; exact g,?_⟩
       walk_at "rd"
       intro t4 ht4
       have hsC:=zaf ht4 (.tup [.str r0.s,.int x2])
       have hCt : upd HB t4 (.tup [.str r0.s,.int x2]) t4 = some (.tup ((kx (r0.s,x2)).map kV)):=upd_same
       generalize upd HB t4 (.tup [.str r0.s,.int x2]) = HC at hsC hCt ⊢
       have hCd:=hsC _ _ hBd
       clear ht4
       refine ⟨dA,_,rfl,DPut.t hCd hCt (zby (by omega)),?_⟩
       have hsXC:=hsA.trans (hsB.trans hsC)
       refine ⟨_,_,_,_,rfl,zan (hs08.trans hsXC) (hdAu ()),(fun b o n h=>by rw [zai n]; exact hsXC _ _ (hk8 b o n h)),upd_same,Nat.le_trans (zbL _ _ _) (by omega),hdv7.put hx0 ?_ fun x hx=>?_⟩
       ·rw [e2,<- List.append_assoc,zcu,if_pos rfl]
        show _ = ((zcw c.rs bs).count (r0.s,x2) : Int) - ((pre ++ l0.take j).count (r0.s,x2) : Int) - 1
        omega
       ·rw [e2,<- List.append_assoc,zcu,if_neg hx,Int.add_zero]
      ·have d3 : (!decide (V.int (i : Int) = V.int (j0 : Int))) = true:=by rw [decide_eq_false (fun z=>ek (by injection z with z; omega))]; rfl
       rw [d3]
       refine iteT ?_
       walk_at "rd"
       obtain ⟨_,_,hx20,hx21,_⟩:=O.lm l0 (List.mem_of_getElem? hl0) _ hxm
       have hx20 : 0 <= x2:=hx20
       have hx21 : x2 < 128:=hx21
       refine ⟨pk,x2,c.rs.map fun r=>r.t,rfl,SqL.of hpk8,by rw [List.length_map]; omega,fun t ht=>?_,hx20,hx21,fun H9 hs9=>?_⟩
       ·obtain ⟨r,hr,rfl⟩:=List.mem_map.mp ht
        exact (R.th r hr).1
       have hfi:=hor.resolve_left ek
       have hfi : Mt.zaG (c.rs.map fun r=>r.t) x2 = some i:=hfi
       rw [hfi]
       have hs09:=hs08.trans hs9
       have hk9 : ∀ b o,b ≠ dA -> H4 b = some o -> H9 b = some o:=fun b o n h=>hs9 _ _ (hk8 b o n h)
       have h9d:=hs9 _ _ h8d
       try walk_at "rd"
       have d4 : (!decide (V.int (i : Int) = Mt.optV (some i))) = false:=by rw [decide_eq_true (show V.int (i : Int) = Mt.optV (some i) from rfl)]; rfl
       rw [d4]
       refine iteF ?_
       have ID : IsD H9 dA:=.inr ⟨kvs,.inl h9d⟩
       walk_at "rd"
       try refine ⟨dA,rfl,ID,?_⟩
       walk_at "rd"
       intro t2 ht2
       have hsA:=zaf ht2 (.tup [.str r0.s,.int x2])
       have hAt : upd H9 t2 (.tup [.str r0.s,.int x2]) t2 = some (.tup ((kx (r0.s,x2)).map kV)):=upd_same
       generalize upd H9 t2 (.tup [.str r0.s,.int x2]) = HA at hsA hAt ⊢
       have hAd:=hsA _ _ h9d
       clear ht2
       walk_at "rd"
       refine ⟨_,DGet.t hAd hAt,?_⟩
       rw [hdv7.1 _ hx0]
       walk_at "rd"
       try dsimp only
       rw [show decide (((zcw c.rs bs).count (r0.s,x2) : Int) - ((pre ++ l0.take j).count (r0.s,x2) : Int) < 1) = false from decide_eq_false (by omega)]
       refine iteF ?_
       walk_at "rd"
       intro t3 ht3
       have hsB:=zaf ht3 (.tup [.str r0.s,.int x2])
       have hBt : upd HA t3 (.tup [.str r0.s,.int x2]) t3 = some (.tup ((kx (r0.s,x2)).map kV)):=upd_same
       generalize upd HA t3 (.tup [.str r0.s,.int x2]) = HB at hsB hBt ⊢
       have hBd:=hsB _ _ hAd
       clear ht3
       refine ⟨dA,_,rfl,by have g:=DGet.t hBd hBt; rw [hdv7.some hx0 (by omega)] at g; exact g,?_⟩
       walk_at "rd"
       intro t4 ht4
       have hsC:=zaf ht4 (.tup [.str r0.s,.int x2])
       have hCt : upd HB t4 (.tup [.str r0.s,.int x2]) t4 = some (.tup ((kx (r0.s,x2)).map kV)):=upd_same
       generalize upd HB t4 (.tup [.str r0.s,.int x2]) = HC at hsC hCt ⊢
       have hCd:=hsC _ _ hBd
       clear ht4
       refine ⟨dA,_,rfl,DPut.t hCd hCt (zby (by omega)),?_⟩
       have hsXC:=hsA.trans (hsB.trans hsC)
       refine ⟨_,_,_,_,rfl,zan (hs09.trans hsXC) (hdAu ()),(fun b o n h=>by rw [zai n]; exact hsXC _ _ (hk9 b o n h)),upd_same,Nat.le_trans (zbL _ _ _) (by omega),hdv7.put hx0 ?_ fun x hx=>?_⟩
       ·rw [e2,<- List.append_assoc,zcu,if_pos rfl]
        show _ = ((zcw c.rs bs).count (r0.s,x2) : Int) - ((pre ++ l0.take j).count (r0.s,x2) : Int) - 1
        omega
       ·rw [e2,<- List.append_assoc,zcu,if_neg hx,Int.add_zero]
   ·rintro σ H7 ⟨kvs,v11,v12,v13,rfl,hs7,hk7,h7d,hkl7,hdv7⟩
    rw [hul,List.take_of_length_le (Nat.le_refl _)] at hdv7
    rw [hul] at hkl7
    exact ⟨kvs,_,_,_,_,_,_,_,by rw [List.length_append]; rfl,hs7,hk7,h7d,by rw [List.length_append]; exact hkl7,hdv7⟩
  ·rintro σ H6 ⟨kvs,v5,v6,v7,v10,v11,v12,v13,rfl,hs6,hk6,h6d,hkl,hdv⟩
   rw [List.take_of_length_le (Nat.le_refl _)] at hkl hdv
   rw [List.take_of_length_le (Nat.le_refl _)]
   have hpc6:=hs6 _ _ hpc
   have hf0 : ∀ x,¬ zfr c.rs x -> ((zcw c.rs bs).count x : Int) - (m.lanes.flatten.count x : Int) = 0:=fun x hx=>by rw [hct x hx]; omega
   walk_at "rd"
   refine ⟨⟨_,SqL.of hpc6⟩,fun D hD=>?_⟩
   have nDd : D ≠ dA:=fun e=>by rw [e,h6d] at hD; cases hD
   have hD0 : H D = none:=hs6.free hD
   refine zaI (a:=pc) (xs:=xs) (fun j ys σ H7=>∃ (w5 : Option V),ys = ((c.rs.take j).map fun r=>r.n).map V.int /\ σ = [some (.ref p),some (.ref pc),some (.ref pk),some (.ref pb),some (.ref dA),w5,v6,v7,some (.int (m.lanes.flatten.length : Int)),some (.ref rA),v10,v11,v12,v13] /\ Same H6 H7 /\ H7 D = some (.lst ys))
    ?_ ?_ ?_ ?_
   ·exact ⟨none,rfl,rfl,zaf hD _,upd_same⟩
   ·rintro j ys σ H7 hj ⟨_,_,_,hs,_⟩
    exact hs.seq (SqL.of hpc6)
   ·rintro j y ys σ H7 hy hjl ⟨w5,rfl,rfl,hs7,hh7⟩
    obtain ⟨r,hrj,t,rfl,ht⟩:=Cs.zaX hpd hy
    have a3 : atI (Cs.rowV r) 3 = some (.int r.n):=rfl
    walk_at "rd"
    refine ⟨t,_,_,_,rfl,rfl,SqT.of ((hs6.trans hs7) _ _ ht),a3,?_⟩
    refine zcz hjl hh7 ?_ ⟨_,?_,rfl,zan hs7 hD,upd_same⟩
    ·rw [List.length_map,List.length_map,List.length_take]
     omega
    ·rw [List.take_add_one,hrj,List.map_append,List.map_append]
     rfl
   rintro ys σ H7 ⟨w5,rfl,rfl,hs7,hh7⟩
   rw [hxl,List.take_of_length_le (Nat.le_refl _)] at hh7
   have h7d:=hs7 _ _ h6d
   have hs07:=hs6.trans hs7
   clear hD
   walk_at "rd"
   refine ⟨D,_,rfl,SqL.of hh7,?_⟩
   refine ⟨rfl,?_⟩
   refine ⟨true,congrArg V.bl (decide_eq_true (by rw [hlen])),iteT ?_⟩
   walk_at "rd"
   refine fun o=>?_
   have hs8 : Same H (upd H7 dA (.frz o (.dT kvs))):=zan hs07 (hdAu ())
   have h8d : upd H7 dA (.frz o (.dT kvs)) dA = some (.frz o (.dT kvs)):=upd_same
   generalize upd H7 dA (.frz o (.dT kvs)) = H8 at hs8 h8d ⊢
   intro D2 hD2
   have nD2 : dA ≠ D2:=fun e=>by rw [<- e,h8d] at hD2; cases hD2
   refine zkV (a:=dA) (o:=o) (kvs:=kvs) (fun j ys σ H9=>∃ (w7 : Option V),ys = [] /\ σ = [some (.ref p),some (.ref pc),some (.ref pk),some (.ref pb),some (.ref dA),v5,v6,w7,some (.int (m.lanes.flatten.length : Int)),some (.ref rA),v10,v11,v12,v13] /\ Same H H9 /\ H9 dA = some (.frz o (.dT kvs)) /\ H9 D2 = some (.lst [])) ?_ ?_ ?_ ?_
   ·exact ⟨none,rfl,rfl,zbP hs8 hD2,by rw [zai nD2]; exact h8d,upd_same⟩
   ·rintro j ys σ H9 _ ⟨_,_,_,_,h,_⟩
    exact h
   ·rintro j kv b ys σ H9 hkv hjl hb ⟨w7,rfl,rfl,hs9,h9d,h9D⟩
    obtain ⟨x,hx,hv⟩:=hdv.at (List.mem_of_getElem? hkv)
    have h0:=hf0 x hx
    rw [h0] at hv
    clear hD2
    walk_at "rd"
    refine ⟨dA,_,rfl,.inr ⟨kvs,kv.1,b,.inr ⟨o,h9d⟩,rfl,hb,hv.symm⟩,?_⟩
    walk_at "rd"
    refine iteF ?_
    exact ziS hjl ⟨_,rfl,rfl,hs9,h9d,h9D⟩
   ·rintro ys σ H9 ⟨w7,rfl,rfl,hs9,h9d,h9D⟩
    clear hD2
    walk_at "rd"
    intro e9 he9
    have hs10:=zaf he9 (.lst [])
    have h10e : upd H9 e9 (.lst []) e9 = some (.lst []):=upd_same
    generalize upd H9 e9 (.lst []) = H10 at hs10 h10e ⊢
    refine ⟨.list [],.list [],.lst (SqL.of (hs10 _ _ h9D)) .nil,.lst (SqL.of h10e) .nil,by decide,?_⟩
    exact q _ (hs9.trans hs10)
theorem zog : ∀ c : Nat,c < 128 -> Mt.pc (c : Int) = ((c % 2 : Nat) : Int) + Mt.pc ((c / 2 : Nat) : Int):=by decide +kernel
def zif : Sp:=fun vs H Q _=>∃ c : Nat,vs = [.int (c : Int)] /\ c < 128 /\ Q (.int (Mt.pc (c : Int))) H
theorem ziT (T : Tx K mg a) : FnOk P w K mg base CX0 1 a.f_law_bits a.d_law_bits ["_law_number"] zif:=by
 refine T.law_bits.fn.ok zil (fun vs H Q E h=>?_) (fun cdv A outer s H vs Q E hr h=>?_)
 ·obtain ⟨c,rfl,_⟩:=h
  rfl
 obtain ⟨c,rfl,hc,q⟩:=h
 refine ⟨_,(zab (zau (i:=1) zil.nd rfl (Or.inl rfl) zag)
  (zab (zey PassesOwn.never (zao zjZ (pv 0) zag (zap _)) (zab (zau (i:=1) zil.nd rfl (Or.inl rfl) (zar zbs (pv 1) (zar zbi (pv 0) zag)))
  (zae (zau (i:=0) zil.nd rfl (Or.inl rfl) (zar zbx (pv 0) zag)))))
  (zae (zav (pv 1))))),?_⟩
 walk_at "rd"
 refine ⟨fun m σ H2=>∃ (n : Nat) (s0 : Int),σ = [some (.int (n : Int)),some (.int s0)] /\ H2 = H /\ n < 128 /\ s0 + Mt.pc (n : Int) = Mt.pc (c : Int) /\ n = m,⟨c,c,0,rfl,rfl,hc,by omega,rfl⟩,?_⟩
 rintro m σ H2 ⟨n,s0,rfl,rfl,hn,hs,rfl⟩
 walk_at "rd"
 refine ite2 (fun c1=>?_) (fun c1=>?_)
 ·have c1 : (0 : Int) < (n : Int):=of_decide_eq_true c1
  refine ⟨fun σ' H'=>∃ (n' : Nat) (s1 : Int),σ' = [some (.int (n' : Int)),some (.int s1)] /\ H' = H2 /\ n' < 128 /\ s1 + Mt.pc (n' : Int) = Mt.pc (c : Int) /\ n' < n,fun σ' H' ⟨n',s1,e1,e2,e3,e4,e5⟩=>⟨n',e5,n',s1,e1,e2,e3,e4,rfl⟩,?_⟩
  have hst:=zog n hn
  refine ⟨_,rfl,?_⟩
  refine ⟨_,rfl,?_⟩
  refine ⟨_,_,rfl,rfl,by show (0 : Int) < 2; decide,?_⟩
  refine ⟨_,_,rfl,rfl,?_⟩
  refine ⟨_,rfl,?_⟩
  walk_at "rd1"
  walk_at "rd1"
  refine ⟨n / 2,s0 + ((n % 2 : Nat) : Int),?_,rfl,by omega,by omega,by omega⟩
  rw [Int.natCast_ediv,Int.natCast_emod]
  rfl
 ·have c1 : ¬ (0 : Int) < (n : Int):=fun z=>c1 (decide_eq_true z)
  have h0 : n = 0:=by omega
  subst h0
  walk_at "rd"
  have e : s0 = Mt.pc (c : Int):=by
   have : Mt.pc ((0 : Nat) : Int) = 0:=by decide +kernel
   omega
  rw [<- e] at q
  exact q
theorem FnOk.or {P : Program} {w : World} {K : PySem.W.Frag} {mg : Str -> Option Value} {base : Heap} {CX : CXT} {k : Nat} {f : Addr} {fd : FuncData} {ps : List Str} {sp1 sp2 : Sp} (F1 : FnOk P w K mg base CX k f fd ps sp1) (F2 : FnOk P w K mg base CX k f fd ps sp2) : FnOk P w K mg base CX k f fd ps (fun vs H Q E=>sp1 vs H Q E \/ sp2 vs H Q E) :=
 ⟨fun vs H Q E h=>h.elim (F1.len vs H Q E) (F2.len vs H Q E),fun A outer s H args us vs Q E hr he hb hv h=>h.elim (F1.run A outer s H args us vs Q E hr he hb hv) (F2.run A outer s H args us vs Q E hr he hb hv)⟩
/-- two more matrices in each channel -/
def add2 (r : Cs.Row) : Cs.Row:=⟨r.s,r.w,r.t,2 + r.n⟩
theorem zjV (rs : List Cs.Row) (y : Str) : Cs.place (rs.map add2) y = Cs.place rs y:=by
 unfold Cs.place
 rw [List.findIdx?_map]
 rfl
theorem zfN (rs : List Cs.Row) : ((rs.map add2).map fun r=>r.t) = rs.map fun r=>r.t:=by
 rw [List.map_map]
 rfl
theorem Row71.add2 {rs : List Cs.Row} (R : Row71 3 rs) : Row71 5 (rs.map add2):=by
 have mem : ∀ r ∈ rs.map Lw.add2,∃ r0 ∈ rs,r = Lw.add2 r0:=fun r hr=>by
  obtain ⟨r0,h0,e⟩:=List.mem_map.mp hr
  exact ⟨r0,h0,e.symm⟩
 refine ⟨by rw [List.length_map]; exact R.l1,by rw [List.length_map]; exact R.l2,fun r hr=>?_,fun r hr=>?_,fun r hr=>?_,fun r hr=>?_,by rw [zfN]; exact R.nd,by rw [zfN]; exact R.ft,fun j r hr=>?_⟩
 ·obtain ⟨r0,h0,rfl⟩:=mem r hr
  exact R.sg r0 h0
 ·obtain ⟨r0,h0,rfl⟩:=mem r hr
  exact R.wd r0 h0
 ·obtain ⟨r0,h0,rfl⟩:=mem r hr
  exact R.th r0 h0
 ·obtain ⟨r0,h0,rfl⟩:=mem r hr
  have:=R.mn r0 h0
  show 0 <= 2 + r0.n /\ 2 + r0.n <= 5
  omega
 ·rw [List.getElem?_map] at hr
  obtain ⟨r0,h0,rfl⟩:=Option.map_eq_some_iff.mp hr
  rw [zjV]
  exact R.pl j r0 h0
/-- keys of lines of one sign each -/
def lone (ss : List Str) : List (List Str):=ss.map fun x=>[x]
theorem zgn (x : Str) : Lns.zbc [x] = x:=by
 rw [Lns.zdO]
 rfl
theorem zhs : ∀ ss : List Str,Txt.join "" (ss.map fun x=>x ++ "/") = Lns.keyT (lone ss)
 | []=>rfl
 | x :: ss=>by
   rw [List.map_cons,Mc.zdR,zhs ss]
   show _ = Lns.zbc [x] ++ "/" ++ Lns.keyT (lone ss)
   rw [zgn]
theorem zoE {rs : List Cs.Row} {ss : List Str} (sgs : ∀ r ∈ rs,∃ c ∈ Cs.signs,r.s = sg c) (h : ∀ x ∈ ss,∃ r ∈ rs,x = r.s) : ∀ l ∈ lone ss,l ≠ [] /\ ∀ x ∈ l,Lns.zco rs x:=fun l hl=>by
 obtain ⟨x,hx,rfl⟩:=List.mem_map.mp hl
 refine ⟨List.cons_ne_nil _ _,fun y hy=>?_⟩
 rw [List.mem_singleton.mp hy]
 obtain ⟨r,hr,rfl⟩:=h x hx
 obtain ⟨c,hc,e⟩:=sgs r hr
 rw [e]
 refine ⟨Nat.le_refl _,fun d hd=>?_⟩
 have hd : d = c:=by simpa [sg] using hd
 subst hd
 obtain ⟨_,_,h1,h2⟩:=Mc.zaV d hc
 refine ⟨?_,?_⟩
 ·unfold Lns.isS
  rw [decide_eq_false h1,decide_eq_false h2]
  rfl
 ·rw [<- e]
  unfold Cs.place
  rw [List.findIdx?_isSome,List.any_eq_true]
  exact ⟨r,hr,decide_eq_true rfl⟩
theorem zjs {rs : List Cs.Row} (sgs : ∀ r ∈ rs,∃ c ∈ Cs.signs,r.s = sg c) : ∀ {ss : List Str},(∀ x ∈ ss,∃ r ∈ rs,x = r.s) -> Lone (Lns.keyT (lone ss)).cps.toList /\ (Lns.keyT (lone ss)).length <= 2 * ss.length
 | [],_=>⟨fun i d h=>by
    have e : (Lns.keyT (lone [])).cps.toList = []:=by decide
    rw [e] at h
    simp at h,Nat.le_of_eq (by decide)⟩
 | x :: ss,h=>by
   obtain ⟨ih1,ih2⟩:=zjs sgs (ss:=ss) fun y hy=>h y (List.mem_cons_of_mem _ hy)
   obtain ⟨r,hr,ex⟩:=h x List.mem_cons_self
   obtain ⟨c,hc,e⟩:=sgs r hr
   have ek : Lns.keyT (lone (x :: ss)) = sg c ++ "/" ++ Lns.keyT (lone ss):=by
    show Lns.zbc [x] ++ "/" ++ Lns.keyT (lone ss) = _
    rw [zgn,ex,e]
   have el : (Lns.keyT (lone (x :: ss))).cps.toList = c :: 47 :: (Lns.keyT (lone ss)).cps.toList:=by
    rw [ek,Lns.zch,Lns.zch]
    rfl
   refine ⟨?_,?_⟩
   ·rw [el]
    intro i d hi hd
    match i,hi with
    | 0,_=>exact .inl rfl
    | 1,hi =>
      have : (47 : Nat) = d:=Option.some.inj hi
      exact absurd this.symm hd
    | i + 2,hi =>
      have hi : (Lns.keyT (lone ss)).cps.toList[i]? = some d:=hi
      refine .inr ?_
      rcases ih1 i d hi hd with z | z
      ·subst z
       rfl
      ·cases i with
       | zero=>rfl
       | succ i=>exact z
   ·rw [ek,Str.length_append,Str.length_append,List.length_cons]
    have e1 : (sg c).length = 1:=rfl
    have e2 : ("/" : Str).length = 1:=by decide
    omega
theorem zjU {rs : List Cs.Row} (sgs : ∀ r ∈ rs,∃ c ∈ Cs.signs,r.s = sg c) {ss : List Str} (h : ∀ x ∈ ss,∃ r ∈ rs,x = r.s) : ∀ l ∈ lone ss,47 ∉ Mc.cps (Lns.zbc l):=fun l hl hm=>by
 obtain ⟨x,hx,rfl⟩:=List.mem_map.mp hl
 rw [zgn] at hm
 obtain ⟨r,hr,rfl⟩:=h x hx
 obtain ⟨c,hc,e⟩:=sgs r hr
 rw [e] at hm
 have hm : 47 = c:=by simpa [sg,Mc.cps] using hm
 exact (Mc.zaV c hc).2.2.1 hm.symm
theorem Bq.sum {rs : List Cs.Row} {bs : List (Int × Int)} {ls : List (List Mc.Mx)} {ah : List Int} (Q : Bq rs bs ls ah) (hn : ∀ r ∈ rs,0 <= r.n) : (ls.flatten.length : Int) = (rs.map fun r=>r.n).sum:=by
 have e : ls.map List.length = rs.map fun r=>r.n.toNat:=by
  apply List.ext_getElem?
  intro j
  rw [List.getElem?_map,List.getElem?_map]
  by_cases hj : j < rs.length
  ·have h1 : rs[j]? = some rs[j]:=List.getElem?_eq_getElem hj
   have h2 : ls[j]? = some (ls[j]'(by rw [Q.ln]; exact hj)):=List.getElem?_eq_getElem _
   rw [h1,h2]
   exact congrArg some (Q.wh j _ _ h1 h2).1
  ·rw [List.getElem?_eq_none (by rw [Q.ln]; omega),List.getElem?_eq_none (by omega)]
   rfl
 rw [List.length_flatten,e]
 clear e Q
 induction rs with
 | nil=>rfl
 | cons r rs ih =>
   have h1:=ih fun r hr=>hn r (List.mem_cons_of_mem _ hr)
   have h2:=hn r List.mem_cons_self
   rw [List.map_cons,List.map_cons,List.sum_cons,List.sum_cons]
   omega
/-- what the law asks of a machine that has come to its end -/
theorem zni {rs : List Cs.Row} {bs : List (Int × Int)} {ls : List (List Mc.Mx)} {ah : List Int} {c : Mc.Cf} {m0 : Mc.Ms} (hcr : c.rs = rs) (fl : ∀ (j : Nat) r,rs[j]? = some r -> Mt.zaG (rs.map fun r=>r.t) r.t = some j) (L : Lone c.keys.cps.toList) (O : Mc.Ok c m0) (Q : Bq rs bs ls ah) (hn : ∀ r ∈ rs,0 <= r.n) (hm : m0 = ⟨ls,[],[],0,[],[],0,0,0⟩) (ho : ∀ (j : Nat) l r,ls[j]? = some l -> rs[j]? = some r -> ∀ x ∈ l,x.1 = r.s) :
 Mc.Ok c (Mc.fin c m0) /\ (Mc.fin c m0).line = [] /\ (∀ (k : Nat) l,(Mc.fin c m0).lanes[k]? = some l -> ∀ x ∈ l,zoF rs k x) /\ (∀ x,¬ zfr rs x -> (Mc.fin c m0).lanes.flatten.count x = (zcw rs bs).count x) /\ ((Mc.fin c m0).lanes.flatten.length : Int) = (rs.map fun r=>r.n).sum:=by
 have e0 : Mc.allM m0 = ls.flatten:=by
  rw [hm]
  show ls.flatten ++ ([] ++ ([] ++ [])) = _
  rw [List.append_nil,List.append_nil,List.append_nil]
 have H0 : Hom c m0:=by
  rw [hm]
  refine ⟨fun k l hl x hx=>?_,(fun x hx=>nomatch hx),(fun x hx=>nomatch hx),(fun x hx=>nomatch hx),fun z=>absurd rfl z⟩
  have hl : ls[k]? = some l:=hl
  have hk : k < rs.length:=by rw [<- Q.ln]; exact (List.getElem?_eq_some_iff.mp hl).1
  have hr : rs[k]? = some rs[k]:=List.getElem?_eq_getElem hk
  rw [hcr]
  exact ⟨k,rs[k],hr,(ho k l _ hl hr x hx).symm,.inl rfl,fun _=>rfl⟩
 have H1 : Hom c (Mc.fin c m0):=zgq (P:=fun n=>Hom c n) (fun n On h=>h.tick (by rw [hcr]; exact fl) On) _ m0 O H0
 obtain ⟨hs,O1⟩:=Mc.zlw O
 have hp:=zmb O
 rw [H1.all L O1 hs,e0] at hp
 refine ⟨O1,(H1.none L O1 hs).1,fun k l hl x hx=>by rw [<- hcr]; exact H1.ln k l hl x hx,fun x hx=>?_,?_⟩
 ·rw [hp.count_eq]
  exact Q.ct x hx
 ·rw [hp.length_eq]
  exact Q.sum hn
def sp_law (K : PySem.W.Frag) : Sp:=fun vs H Q _=>∃ (l : Addr) (ns : List Int),vs = [.ref l] /\ SqL K H l (ns.map V.int) /\ ns.length <= 63 /\ ∀ H',Q (.bl true) H'
theorem ok_law (T : Tx K mg a) : FnOk P w K mg base CX0 lawLevel a.f_law a.d_law ["_law_script"] (sp_law K):=by
 have G_law_case:=ziw (P:=P) (w:=w) (base:=base) T
 have G_law_cell:=zeR (P:=P) (w:=w) (base:=base) T
 have G_law_broken:=zfT (P:=P) (w:=w) (base:=base) T
 have G_law_order:=zhx (P:=P) (w:=w) (base:=base) T
 have G_law_homes:=zhB (P:=P) (w:=w) (base:=base) T
 have G_law_falls:=zcR (P:=P) (w:=w) (base:=base) T
 have G_law_sets:=zik (P:=P) (w:=w) (base:=base) T
 have G_law_bits:=ziT (P:=P) (w:=w) (base:=base) T
 have G_broken_sets:=zdm (P:=P) (w:=w) (base:=base) T
 have G_fewest_broken:=zee (P:=P) (w:=w) (base:=base) T
 have G_Machine_init:=FnOk.or (zeL (P:=P) (w:=w) (base:=base) T) (zef (P:=P) (w:=w) (base:=base) T)
 have G_Machine_run:=zfj (P:=P) (w:=w) (base:=base) T
 have G_Machine_resting:=zcf (P:=P) (w:=w) (base:=base) T
 refine T.law.fn.ok zpu (fun vs H Q E h=>?_) (fun cdv A outer s H vs Q E hr h=>?_)
 ·obtain ⟨l,ns,rfl,_⟩:=h
  rfl
 obtain ⟨l,ns,rfl,hS,hl,q⟩:=h
 refine ⟨_,(zab (zdP (i:=1) zpu.nd rfl (Or.inl rfl) rfl (zaC K rfl (zaQ T.law_case G_law_case hr rfl (zaa (pv 0) (zaa zag zad)))) (BlkOk.of (N':=["_law_script","_law_case_here","_law_codes_here","_law_broken_here","_law_keys","_law_casting","_law_machine","_law_channel","_law_left","_law_where","_law_due","_law_found","_law_whole","_law_sign","_law_width","_law_teeth","_law_many"]) (ms:=[]) (k:=4) (by rfl)) (fun _ _ _ _ _=>(zbj K rfl (n:=4) rfl (zaj (zah (i:=13) (show List.Nodup (["_law_script","_law_case_here","_law_codes_here","_law_broken_here","_law_keys","_law_casting","_law_machine","_law_channel","_law_left","_law_where","_law_due","_law_found","_law_whole","_law_sign","_law_width","_law_teeth","_law_many"] : List Str) from by decide +kernel) rfl (Or.inl rfl)) (zaj (zah (i:=14) (show List.Nodup (["_law_script","_law_case_here","_law_codes_here","_law_broken_here","_law_keys","_law_casting","_law_machine","_law_channel","_law_left","_law_where","_law_due","_law_found","_law_whole","_law_sign","_law_width","_law_teeth","_law_many"] : List Str) from by decide +kernel) rfl (Or.inl rfl)) (zaj (zah (i:=15) (show List.Nodup (["_law_script","_law_case_here","_law_codes_here","_law_broken_here","_law_keys","_law_casting","_law_machine","_law_channel","_law_left","_law_where","_law_due","_law_found","_law_whole","_law_sign","_law_width","_law_teeth","_law_many"] : List Str) from by decide +kernel) rfl (Or.inl rfl)) (zaj (zah (i:=16) (show List.Nodup (["_law_script","_law_case_here","_law_codes_here","_law_broken_here","_law_keys","_law_casting","_law_machine","_law_channel","_law_left","_law_where","_law_due","_law_found","_law_whole","_law_sign","_law_width","_law_teeth","_law_many"] : List Str) from by decide +kernel) rfl (Or.inl rfl)) zbl)))))) (fun _ _ _ _ _=>zbK) (fun _ _ _ _ _=>(zcM (zaa (pv 13) (zaa (pv 14) (zaa (pv 15) (zaa (zar zbs zag (pv 16)) zad)))))))
  (zab (zdP (i:=2) zpu.nd rfl (Or.inl rfl) rfl (zaC K rfl (pv 1)) (BlkOk.of (N':=["_law_script","_law_case_here","_law_codes_here","_law_broken_here","_law_keys","_law_casting","_law_machine","_law_channel","_law_left","_law_where","_law_due","_law_found","_law_whole"]) (ms:=[7]) (k:=0) (by rfl)) (fun _ _ _ _ _=>(zah (i:=7) (show List.Nodup (["_law_script","_law_case_here","_law_codes_here","_law_broken_here","_law_keys","_law_casting","_law_machine","_law_channel","_law_left","_law_where","_law_due","_law_found","_law_whole"] : List Str) from by decide +kernel) rfl (Or.inl rfl))) (fun _ _ _ _ _=>zbK) (fun _ _ _ _ _=>(zaK (zcv K rfl) (pv 7) zag (fun _ _=>rfl))))
  (zab (zau (i:=3) zpu.nd rfl (Or.inl rfl) (zaQ T.law_broken G_law_broken hr rfl (zaa (pv 1) (zaa (pv 0) zad))))
  (zab (zau (i:=4) zpu.nd rfl (Or.inl rfl) (zbo K rfl PySem.F.plainAttrs_str PySem.F.slot_str_join PySem.F.type_str_join (zjB K rfl) zea (zaa (zbg rfl (zaC K rfl (zaQ T.law_order G_law_order hr rfl (zaa (pv 1) (zaa (pv 0) zad)))) (BlkOk.of (N':=["_law_script","_law_case_here","_law_codes_here","_law_broken_here","_law_keys","_law_casting","_law_machine","_law_channel","_law_left","_law_where","_law_due","_law_found","_law_whole","_law_sign"]) (ms:=[]) (k:=1) (by rfl)) (fun _ _ _ _ _=>(zah (i:=13) (show List.Nodup (["_law_script","_law_case_here","_law_codes_here","_law_broken_here","_law_keys","_law_casting","_law_machine","_law_channel","_law_left","_law_where","_law_due","_law_found","_law_whole","_law_sign"] : List Str) from by decide +kernel) rfl (Or.inl rfl))) (fun _ _ _ _ _=>zbK) (fun _ _ _ _ _=>(zar zkg (pv 13) zea))) zad)))
  (zab (zau (i:=5) zpu.nd rfl (Or.inl rfl) (zar zbs zag (zar zbi (zaQ T.law_cell G_law_cell hr rfl (zaa (pv 0) (zaa zag zad))) zag)))
  (zab (zau (i:=6) zpu.nd rfl (Or.inl rfl) (zuQ T.Machine G_Machine_init hr rfl (zaa (pv 1) (zaa (pv 4) (zaa (pv 5) (zaa (zdI (zeu K rfl) rfl T.b_list zgu (zaa (pv 3) zad)) zad))))))
  (zab (zaH (zbV (K:=K) rfl T.Machine.cl T.Machine_run G_Machine_run hr zdo (pv 6)))
  (zab (zbp (zho (zcg (zaQ T.law_homes G_law_homes hr rfl (zaa (pv 6) (zaa (pv 1) (zaa (pv 2) (zaa (pv 3) zad))))))) (zae (zav zeg)) zaB)
  (zab (zbE PassesOwn.never rfl (zaC K rfl (pv 3)) (zbj K rfl (n:=2) rfl (zaj (zah (i:=7) zpu.nd rfl (Or.inl rfl)) (zaj (zah (i:=8) zpu.nd rfl (Or.inl rfl)) zbl))) (zab (zau (i:=9) zpu.nd rfl (Or.inl rfl) (zaQ T.law_falls G_law_falls hr rfl (zaa (pv 2) (zaa (zar zdn (zaK (zas K rfl) (pv 2) (pv 7) (fun _ _=>rfl)) (pv 8)) zad))))
  (zab (zau (i:=10) zpu.nd rfl (Or.inl rfl) (zaQ T.law_sets G_law_sets hr rfl (zaa (pv 2) (zaa (pv 7) (zaa (pv 9) zad)))))
  (zab (zau (i:=11) zpu.nd rfl (Or.inl rfl) (zaQ T.broken_sets G_broken_sets hr rfl (zaa (pv 2) (zaa (pv 7) (zaa (pv 9) zad)))))
  (zab (zbp (PW.pt (zoB (zao (kneD K rfl hr.units) (pv 11) (pv 10) (zap _)) (zlA (zao (zfK K rfl) (pv 8) (pv 10) (by with_unfolding_all rfl))))) (zae (zav zeg)) zaB)
  (zae (zbp (zao zfd (zaQ T.fewest_broken G_fewest_broken hr rfl (zaa (pv 2) (zaa (pv 7) (zaa (pv 9) zad)))) (zaJ (zjI K rfl rfl) rfl T.b_min zlW (zaa (zbg rfl (zaC K rfl (pv 10)) (BlkOk.of (N':=["_law_script","_law_case_here","_law_codes_here","_law_broken_here","_law_keys","_law_casting","_law_machine","_law_channel","_law_left","_law_where","_law_due","_law_found","_law_whole","_law_one"]) (ms:=[]) (k:=1) (by rfl)) (fun _ _ _ _ _=>(zah (i:=13) (show List.Nodup (["_law_script","_law_case_here","_law_codes_here","_law_broken_here","_law_keys","_law_casting","_law_machine","_law_channel","_law_left","_law_where","_law_due","_law_found","_law_whole","_law_one"] : List Str) from by decide +kernel) rfl (Or.inl rfl))) (fun _ _ _ _ _=>zbK) (fun _ _ _ _ _=>(zaQ T.law_bits G_law_bits hr rfl (zaa (pv 13) zad)))) zad)) (zap _)) (zae (zav zeg)) zaB)))))))
  (zab (zau (i:=12) zpu.nd rfl (Or.inl rfl) (zsT T.Machine G_Machine_init hr rfl (zaa (pv 1) (zaa (pv 4) (zaa (pv 5) zad)))))
  (zab (zaH (zbV (K:=K) rfl T.Machine.cl T.Machine_run G_Machine_run hr zdo (pv 12)))
  (zae (zav (zcH (zaQ T.law_homes G_law_homes hr rfl (zaa (pv 12) (zaa (pv 1) (zaa (pv 2) (zaa (zaE zad) zad))))) (zeb (zku (zqB (zbV (K:=K) rfl T.Machine.cl T.Machine_resting G_Machine_resting hr zce (pv 12))))))))))))))))))),?_⟩
 walk_at "rd"
 refine ⟨l,ns,3,rfl,hS,by decide,by decide,fun pc0 xs0 rs0 H1 hpc00 hs1 hpc0 hpd0 R0=>?_⟩
 have R:=R0.add2
 have hxl0:=Cs.zbC hpd0
 have hl02:=R0.l2
 clear hpc00
 refine ⟨pc0,rfl,⟨_,SqL.of hpc0⟩,fun pc hpcn=>?_⟩
 refine zaI (a:=pc0) (xs:=xs0) (fun j ys σ H2=>∃ (w13 w14 w15 w16 : Option V),σ = [some (.ref l),none,none,none,none,none,none,none,none,none,none,none,none,w13,w14,w15,w16] /\ Same H1 H2 /\ H2 pc = some (.lst ys) /\ Paired (Cs.zbU H2) ys ((rs0.take j).map add2))
  ?_ ?_ ?_ ?_
 ·exact ⟨none,none,none,none,rfl,zaf hpcn _,upd_same,.nil⟩
 ·rintro j ys σ H2 hj ⟨_,_,_,_,_,hs,_⟩
  exact hs.seq (SqL.of hpc0)
 ·rintro j y ys σ H2 hy hjl ⟨w13,w14,w15,w16,rfl,hs2,hh2,hpy⟩
  obtain ⟨r,hrj,t,rfl,ht⟩:=Cs.zaX hpd0 hy
  have hyl:=Paired.length hpy
  rw [List.length_map,List.length_take] at hyl
  have ht2:=hs2 _ _ ht
  refine ⟨_,_,rfl,SqT.of ht2,rfl,?_⟩
  walk_at "tg"
  walk_at "tg"
  walk_at "tg"
  walk_at "tg"
  try refine And.intro rfl ?_
  walk_at "rd"
  intro tn htn
  have hs3:=zaf htn (.tup (Cs.rowV (add2 r)))
  have h3t : upd H2 tn (.tup (Cs.rowV (add2 r))) tn = some (.tup (Cs.rowV (add2 r))):=upd_same
  show zlT pc xs0.length j _ _ (V.ref tn) (upd H2 tn (HO.tup (Cs.rowV (add2 r))))
  generalize upd H2 tn (HO.tup (Cs.rowV (add2 r))) = H3 at hs3 h3t ⊢
  refine zcz hjl (hs3 _ _ hh2) (by omega) ⟨_,_,_,_,rfl,zan (hs2.trans hs3) hpcn,upd_same,?_⟩
  rw [List.take_add_one,hrj,List.map_append]
  exact Paired.snoc (Cs.zcV (Cs.zay hpy hs3) (hs3 _ _ hh2) (fun z e=>by cases e)) ⟨tn,rfl,by rw [zai (zbZ h3t (hs3 _ _ hh2) (fun e=>by cases e))]; exact h3t⟩
 rintro ys σ H2 ⟨w13,w14,w15,w16,rfl,hs2,hpc2,hpd2⟩
 rw [hxl0,List.take_of_length_le (Nat.le_refl _)] at hpd2
 clear hpcn
 have hs02:=hs1.trans hs2
 have RR : Mc.Rows (rs0.map add2):=⟨R.l2,R.sg,R.th,fun r hr=>⟨(R.mn r hr).1,by have:=(R.mn r hr).2; omega⟩⟩
 have hn2 : ∀ r ∈ rs0.map add2,2 <= r.n:=fun r hr=>by
  obtain ⟨r0,h0,e⟩:=List.mem_map.mp hr
  have:=(R0.mn r0 h0).1
  rw [<- e]
  show 2 <= 2 + r0.n
  omega
 clear R0 hl02 hpd0 hpc0 hxl0
 generalize rs0.map add2 = rs at R RR hpd2 hn2
 have hxl:=Cs.zbC hpd2
 have hl1:=R.l1
 have hl2:=R.l2
 walk_at "rd"
 refine ⟨⟨_,SqL.of hpc2⟩,fun pk hpkn=>?_⟩
 refine zaI (a:=pc) (xs:=ys) (fun j zs σ H3=>∃ (w7 : Option V),zs = ((rs.take j).map fun r=>r.t).map V.int /\ σ = [some (.ref l),some (.ref pc),none,none,none,none,none,w7,none,none,none,none,none] /\ Same H2 H3 /\ H3 pk = some (.lst zs))
  ?_ ?_ ?_ ?_
 ·exact ⟨none,rfl,rfl,zaf hpkn _,upd_same⟩
 ·rintro j zs σ H3 hj ⟨_,_,_,hs,_⟩
  exact hs.seq (SqL.of hpc2)
 ·rintro j y zs σ H3 hy hjl ⟨w7,rfl,rfl,hs3,hh3⟩
  obtain ⟨r,hrj,t,rfl,ht⟩:=Cs.zaX hpd2 hy
  have a2 : atI (Cs.rowV r) 2 = some (.int r.t):=rfl
  walk_at "rd"
  refine ⟨t,_,_,_,rfl,rfl,SqT.of (hs3 _ _ ht),a2,?_⟩
  refine zcz hjl hh3 ?_ ⟨_,?_,rfl,zan hs3 hpkn,upd_same⟩
  ·rw [List.length_map,List.length_map,List.length_take]
   omega
  ·rw [List.take_add_one,hrj,List.map_append,List.map_append]
   rfl
 rintro zs σ H3 ⟨w7,rfl,rfl,hs3,hpk3⟩
 rw [hxl,List.take_of_length_le (Nat.le_refl _)] at hpk3
 clear hpkn
 have hpc3:=hs3 _ _ hpc2
 have hpd3:=Cs.zay hpd2 hs3
 have hS3:=(hs02.trans hs3).seq hS
 walk_at "rd"
 refine ⟨pc,l,ys,rs,ns,rfl,hpc3,hpd3,RR,hl1,hS3,hl,fun pb bv bs lt ah H4 hpb0 hs4 hpb4 hbd4 hbl hbb haf BQ=>?_⟩
 clear hpb0
 have hS4:=hs4.seq hS3
 walk_at "rd"
 refine ⟨pc,l,ys,rs,ns,rfl,hs4 _ _ hpc3,Cs.zay hpd3 hs4,hl2,hl1,hS4,hl,fun ro ss H5 hro hs5 hro5 hssl hss=>?_⟩
 clear hro
 have hs35:=hs4.trans hs5
 refine ⟨ro,rfl,⟨_,SqL.of hro5⟩,fun D hD=>?_⟩
 refine zaI (a:=ro) (xs:=ss.map V.str) (fun j zs σ H6=>∃ (w13 : Option V),zs = ((ss.take j).map fun (x : Str)=>x ++ "/").map V.str /\ σ = [some (.ref l),some (.ref pc),some (.ref pk),some (.ref pb),none,none,none,none,none,none,none,none,none,w13] /\ Same H5 H6 /\ H6 D = some (.lst zs))
  ?_ ?_ ?_ ?_
 ·exact ⟨none,rfl,rfl,zaf hD _,upd_same⟩
 ·rintro j zs σ H6 hj ⟨_,_,_,hs,_⟩
  exact hs.seq (SqL.of hro5)
 ·rintro j y zs σ H6 hy hjl ⟨w13,rfl,rfl,hs6,hh6⟩
  rw [List.getElem?_map] at hy
  obtain ⟨x,hxj,rfl⟩:=Option.map_eq_some_iff.mp hy
  have hxl1 : x.length <= 1:=by
   obtain ⟨r,hr,rfl⟩:=hss x (List.mem_of_getElem? hxj)
   obtain ⟨c,_,e⟩:=R.sg r hr
   rw [e]
   exact Nat.le_refl _
  have e1 : ("/" : Str).length = 1:=by decide
  walk_at "rd"
  refine ⟨zdq (by have e2 : (Str.ofString "/").length = 1:=e1; omega),?_⟩
  refine zcz hjl hh6 ?_ ⟨_,?_,rfl,zan hs6 hD,upd_same⟩
  ·rw [List.length_map,List.length_map,List.length_take]
   omega
  ·rw [List.take_add_one,hxj,List.map_append,List.map_append]
   rfl
 rintro zs σ H6 ⟨w13,rfl,rfl,hs6,hD6⟩
 rw [List.length_map,List.take_of_length_le (Nat.le_refl _)] at hD6
 clear hD
 have hs36:=hs35.trans hs6
 have ejn:=zhs ss
 obtain ⟨hlone,hklen⟩:=zjs R.sg hss
 have hset:=zoE R.sg hss
 have hplain:=zjU R.sg hss
 have hsum : ((ss.map fun (x : Str)=>x ++ "/").map (·.length)).sum <= ss.length * 2:=by
  rw [List.map_map]
  refine Lns.zhO ((·.length) ∘ fun (x : Str)=>x ++ "/") 2 ss fun x hx=>?_
  show (x ++ "/").length <= 2
  obtain ⟨r,hr,rfl⟩:=hss x hx
  obtain ⟨c,_,e⟩:=R.sg r hr
  rw [e,Str.length_append]
  have e1 : (sg c).length = 1:=rfl
  have e2 : ("/" : Str).length = 1:=by decide
  omega
 walk_at "rd"
 refine ⟨_,D,_,rfl,rfl,SqL.of hD6,by rw [List.length_map]; show _ + _ * 0 <= _; omega,?_⟩
 rw [show Txt.join (Str.ofString "") (ss.map fun (x : Str)=>x ++ "/") = Lns.keyT (lone ss) from ejn]
 have hok : Lns.zbh rs false (Lns.keyT (lone ss)).cps.toList = true:=Lns.ziA hset
 have hrn : ∀ r ∈ rs,0 <= r.n /\ r.n <= 1000:=fun r hr=>⟨(R.mn r hr).1,by have:=(R.mn r hr).2; omega⟩
 have OC : ∀ z : Int,1 <= z -> Mc.OkC ⟨rs,Lns.keyT (lone ss),z⟩:=fun z hz=>RR.okC (by omega) hset hz
 generalize hK0 : Lns.keyT (lone ss) = keys at hok OC hlone
 have hpc6:=hs36 _ _ hpc3
 have hpd6:=Cs.zay hpd3 hs36
 have hpk6:=hs36 _ _ hpk3
 have hpb6:=(hs5.trans hs6) _ _ hpb4
 have hbd6:=zct hbd4 (hs5.trans hs6)
 have hS6:=hs36.seq hS3
 clear hs6 hs5 hs4 hs35 hs36 hpc3 hpd3 hpk3 hpb4 hbd4 hS3 hS4 hD6 hro5 hsum ejn hs3 hs02 hs1 hs2 hpc2 hpd2
 walk_at "rd"
 refine ⟨l,3,ns,rfl,hS6,by decide,fun c3=>?_⟩
 have hz0 : 1 <= 1 + c3 % 12:=by omega
 walk_at "rd"
 refine ⟨pb,_,rfl,.inl (SqL.of hpb6),fun pb2 hpb2=>?_⟩
 have hs7:=zaf hpb2 (.lst bv)
 have h7b : upd H6 pb2 (.lst bv) pb2 = some (.lst bv):=upd_same
 generalize upd H6 pb2 (.lst bv) = H7 at hs7 h7b ⊢
 clear hpb2
 have hpc7:=hs7 _ _ hpc6
 have hpd7:=Cs.zay hpd6 hs7
 have hpk7:=hs7 _ _ hpk6
 have hpb7:=hs7 _ _ hpb6
 have hbd7:=zct hbd6 hs7
 intro p0 dx0 hp0 hdx0 hne0
 have hsm : Same H7 (upd (upd H7 dx0 (HO.own p0)) p0 (HO.ins a.c_Machine dx0 [])):=fun b u hb=>by rw [zai (zaq hb hp0),zai (zaq hb hdx0)]; exact hb
 refine .inl ⟨p0,pc,pb2,dx0,⟨rs,keys,1 + c3 % 12⟩,ys,bv,bs,lt,rfl,upd_same,hsm _ _ hpc7,Cs.zay hpd7 hsm,OC _ hz0,hok,hrn,hsm _ _ h7b,zct hbd7 hsm,by omega,.good haf,fun A0 H8 M0 off0 fr0=>⟨rfl,?_⟩⟩
 have hs8:=Mc.zgF hp0 hdx0 off0
 have fr0' : ∀ b ∈ A0.all,H7 b = none:=fun b hb=>Mc.zjh hp0 hdx0 (fr0 b hb)
 have LO : LOk rs lt:=zlH RR (fun b hb=>⟨(hbb b hb).1,(hbb b hb).2.1⟩) _ _ _ haf
 have O0 : Mc.Ok ⟨rs,keys,1 + c3 % 12⟩ (startB lt):=LOk.ok RR LO rfl (OC _ hz0)
 obtain ⟨O1,hline1,hlie1,hct1,hlen1⟩:=zni (c:=⟨rs,keys,1 + c3 % 12⟩) (m0:=startB lt) rfl R.fl hlone O0 BQ (fun r hr=>(R.mn r hr).1) rfl (fun j l r hl hr x hx=>((LO.one j l r hl hr).2 x hx).1)
 clear off0 fr0 hsm hdx0 hne0
 have I0:=M0.ins
 walk_at "rd"
 refine ⟨p0,A0,_,_,rfl,M0,O0,fun A1 H9 M1 st1=>?_⟩
 obtain ⟨hs79,_⟩:=st1.same hs8 hp0 fr0'
 clear st1 M0 I0 hs8 fr0'
 generalize Mc.fin ⟨rs,keys,1 + c3 % 12⟩ (startB lt) = m1 at M1 O1 hline1 hlie1 hct1 hlen1
 walk_at "rd"
 refine ⟨p0,pc,pk,pb,A1,⟨rs,keys,1 + c3 % 12⟩,m1,ys,bv,bs,5,rfl,M1,O1,hs79 _ _ hpc7,Cs.zay hpd7 hs79,hs79 _ _ hpk7,hs79 _ _ hpb7,zct hbd7 hs79,hbl,R,by decide,hbb,hlie1,hct1,hlen1,fun H10 hs10=>?_⟩
 refine ⟨_,rfl,?_⟩
 refine iteF ?_
 have hs710:=hs79.trans hs10
 clear hs10 hs79 M1 O1 hline1 hlie1 hct1 hlen1 O0 LO hp0
 have hbvl:=Paired.length hbd7
 walk_at "rd"
 refine ⟨⟨_,SqL.of (hs710 _ _ hpb7)⟩,?_⟩
 refine zca (a:=pb) (xs:=bv) (fun i σ H11=>∃ (v7 v8 v9 v10 v11 : Option V),σ = [some (.ref l),some (.ref pc),some (.ref pk),some (.ref pb),some (.str keys),some (.int (1 + c3 % 12)),some (.ref p0),v7,v8,v9,v10,v11,none] /\ Same H7 H11)
  ⟨none,none,none,none,none,rfl,hs710⟩ (by rintro i σ H11 _ ⟨_,_,_,_,_,_,hs⟩; exact hs.seq (SqL.of hpb7)) ?_ ?_
 ·rintro i y σ H11 hy ⟨v7,v8,v9,v10,v11,rfl,hs11⟩
  obtain ⟨b,hbi,tb,rfl,htb⟩:=Cs.zaX hbd7 hy
  obtain ⟨hb1,hb2,k,r,hbk,hrk,hh⟩:=hbb b (List.mem_of_getElem? hbi)
  obtain ⟨b1,b2⟩:=b
  have hbk : b1 = (k : Int):=hbk
  subst hbk
  have hb1 : 1 <= b2:=hb1
  have hb2 : b2 < 128:=hb2
  have hh : Mt.has r.t b2 = true:=hh
  have hkl : k < rs.length:=(List.getElem?_eq_some_iff.mp hrk).1
  have hth:=R.th r (List.mem_of_getElem? hrk)
  have hle:=Mt.zgQ hth ⟨by omega,hb2⟩ hh
  have hcl : (rs.map fun r=>r.t).length = rs.length:=List.length_map _
  have hck : (rs.map fun r=>r.t)[k]? = some r.t:=by rw [List.getElem?_map,hrk]; rfl
  have hcb : ∀ c ∈ rs.map fun r=>r.t,0 <= c /\ c < 128:=fun c hc=>by
   obtain ⟨r',hr',rfl⟩:=List.mem_map.mp hc
   exact R.th r' hr'
  obtain ⟨wh,hwh,hwk⟩:=Mt.zfQ (cs:=rs.map fun r=>r.t) (t:=r.t - b2) hck (ziC hth ⟨by omega,hb2⟩ hh)
  have hnd:=R.nd
  have hft:=R.ft
  have hpk11:=hs11 _ _ hpk7
  have htb11:=hs11 _ _ htb
  generalize (rs.map fun r=>r.t) = cs at hcl hck hcb hwh hnd hft hpk11
  have EC : ∀ _ : Unit,atI (cs.map V.int) (k : Int) = some (.int r.t):=fun _=>zaF (by rw [List.getElem?_map,hck]; rfl)
  refine ⟨_,_,rfl,SqT.of htb11,rfl,?_⟩
  walk_at "tg"
  walk_at "tg"
  try refine And.intro rfl ?_
  walk_at "rd"
  refine ⟨pk,_,_,_,rfl,rfl,SqL.of hpk11,EC (),?_⟩
  walk_at "rd"
  refine ⟨pk,r.t - b2,cs,rfl,SqL.of hpk11,by omega,fun c hc=>(hcb c hc).1,by omega,by omega,fun H12 hs12=>?_⟩
  rw [hwh]
  have hpk12:=hs12 _ _ hpk11
  have hwl : wh < cs.length:=by omega
  walk_at "rd"
  refine ⟨pk,k,wh,cs,r.t,rfl,SqL.of hpk12,hcb,by omega,hck,fun d1 H13 hd1 hs13 h13=>?_⟩
  have hpk13:=hs13 _ _ hpk12
  clear hd1
  walk_at "rd"
  refine ⟨pk,k,wh,cs,r.t,rfl,SqL.of hpk13,hnd,hcb,by omega,hft,hck,hwl,fun d2 H14 hd2 hs14 h14=>?_⟩
  have hpk14:=hs14 _ _ hpk13
  have h14d:=hs14 _ _ h13
  clear hd2
  have hbm : b2 ∈ Mt.sets cs r.t wh:=by
   rw [Mt.zlU]
   refine List.mem_filter.mpr ⟨?_,by rw [hh,hwh,decide_eq_true rfl]; rfl⟩
   unfold Mt.upto
   exact List.mem_map.mpr ⟨b2.toNat,List.mem_range.mpr (by omega),by omega⟩
  have hfew:=zgS (cs:=cs) (own:=r.t) (wh:=wh)
  have hSb : ∀ x ∈ Mt.sets cs r.t wh,0 <= x /\ x < 128:=fun x hx=>by
   have:=Mt.zga hth.1 (List.mem_filter.mp hx).1
   omega
  have hSl : (Mt.sets cs r.t wh).length <= 128:=by
   have h1 : (Mt.sets cs r.t wh).length <= (Mt.subs r.t).length:=List.length_filter_le _ _
   have:=Mt.zgB hth.2
   omega
  obtain ⟨mf,hmf,_⟩:=Mt.zeP (cs:=cs) (own:=r.t) (wh:=wh) (fun z=>by rw [z] at hbm; cases hbm)
  rw [hmf] at hfew
  have e0 : PyData.eqv (zdX (Mt.sets cs r.t wh)) (zdX (Mt.sets cs r.t wh)) = true:=zjE (zeS _)
  walk_at "rd"
  refine ⟨zdX (Mt.sets cs r.t wh),zdX (Mt.sets cs r.t wh),zez (SqL.of h14),zez (SqL.of h14d),zfa _ _,?_⟩
  rw [e0]
  refine ⟨_,rfl,?_⟩
  refine iteF ?_
  walk_at "rd"
  have hin : inV (.int b2) ((Mt.sets cs r.t wh).map V.int) = true:=List.any_eq_true.mpr ⟨.int b2,List.mem_map_of_mem hbm,by show eqV (V.int b2) (V.int b2) = true; simp [eqV]⟩
  refine ⟨d1,_,rfl,.inl (SqL.of h14d),rfl,by rw [List.all_map]; exact List.all_eq_true.mpr fun _ _=>rfl,?_⟩
  refine ⟨false,congrArg V.bl (by rw [if_pos rfl]; show (!inV (.int b2) ((Mt.sets cs r.t wh).map V.int)) = false; rw [hin]; rfl),?_⟩
  refine iteF ?_
  walk_at "rd"
  refine ⟨pk,k,wh,cs,r.t,rfl,SqL.of hpk14,hnd,hcb,by omega,hft,hck,hwl,fun H15 hs15=>?_⟩
  rw [hmf]
  have h15d:=hs15 _ _ h14d
  walk_at "rd"
  refine ⟨⟨_,SqL.of h15d⟩,fun D hD=>?_⟩
  refine zaI (a:=d1) (xs:=(Mt.sets cs r.t wh).map V.int) (fun j zs σ H16=>∃ (w13 : Option V),zs = (((Mt.sets cs r.t wh).take j).map Mt.pc).map V.int /\ σ = [some (.ref l),some (.ref pc),some (.ref pk),some (.ref pb),some (.str keys),some (.int (1 + c3 % 12)),some (.ref p0),some (.int (k : Int)),some (.int b2),some (.int (wh : Int)),some (.ref d1),some (.ref d2),none,w13] /\ Same H15 H16 /\ H16 D = some (.lst zs))
   ?_ ?_ ?_ ?_
  ·exact ⟨none,rfl,rfl,zaf hD _,upd_same⟩
  ·rintro j zs σ H16 hj ⟨_,_,_,hs,_⟩
   exact hs.seq (SqL.of h15d)
  ·rintro j y zs σ H16 hy hjl ⟨w13,rfl,rfl,hs16,hh16⟩
   obtain ⟨x,rfl,hxj⟩:=zaR hy
   obtain ⟨hx0,hx1⟩:=hSb x (List.mem_of_getElem? hxj)
   obtain ⟨c,rfl⟩:=Int.eq_ofNat_of_zero_le hx0
   walk_at "rd"
   try refine ⟨c,rfl,by omega,?_⟩
   refine zcz hjl hh16 ?_ ⟨_,?_,rfl,zan hs16 hD,upd_same⟩
   ·rw [List.length_map,List.length_map,List.length_take]
    omega
   ·rw [List.take_add_one,hxj,List.map_append,List.map_append]
    rfl
  rintro zs σ H16 ⟨w13,rfl,rfl,hs16,hD16⟩
  rw [List.length_map,List.take_of_length_le (Nat.le_refl _)] at hD16
  clear hD
  refine ⟨D,_,mf,rfl,SqL.of hD16,hfew.symm,?_⟩
  refine ⟨rfl,?_⟩
  refine ⟨false,congrArg V.bl (by show (!decide (V.int mf = V.int mf)) = false; rw [decide_eq_true rfl]; rfl),?_⟩
  refine iteF ?_
  exact ⟨_,_,_,_,_,rfl,hs11.trans (hs12.trans (hs13.trans (hs14.trans (hs15.trans hs16))))⟩
 rintro σ H11 ⟨v7,v8,v9,v10,v11,rfl,hs11⟩
 have hpc11:=hs11 _ _ hpc7
 have hpd11:=Cs.zay hpd7 hs11
 have hpk11:=hs11 _ _ hpk7
 walk_at "rd"
 intro p2 dx2 hp2 hdx2 hne2
 have hsm : Same H11 (upd (upd H11 dx2 (HO.own p2)) p2 (HO.ins a.c_Machine dx2 [])):=fun b u hb=>by rw [zai (zaq hb hp2),zai (zaq hb hdx2)]; exact hb
 refine .inr ⟨p2,pc,dx2,⟨rs,keys,1 + c3 % 12⟩,ys,rfl,upd_same,hsm _ _ hpc11,Cs.zay hpd11 hsm,OC _ hz0,hok,hrn,fun A2 H12 M2 off2 fr2=>⟨rfl,?_⟩⟩
 have hs12:=Mc.zgF hp2 hdx2 off2
 have fr2' : ∀ b ∈ A2.all,H11 b = none:=fun b hb=>Mc.zjh hp2 hdx2 (fr2 b hb)
 have O2 : Mc.Ok ⟨rs,keys,1 + c3 % 12⟩ (Mc.start rs):=RR.ok rfl (OC _ hz0)
 obtain ⟨O3,hline3,hlie3,hct3,hlen3⟩:=zni (c:=⟨rs,keys,1 + c3 % 12⟩) (m0:=Mc.start rs) rfl R.fl hlone O2 (Bq.zero rs) (fun r hr=>(R.mn r hr).1) rfl (fun j l r hl hr x hx=>by
  unfold zaP at hl
  rw [List.getElem?_map,hr] at hl
  have hl : List.replicate r.n.toNat (r.s,r.t) = l:=Option.some.inj hl
  rw [<- hl] at hx
  rw [List.eq_of_mem_replicate hx])
 have RT : Mc.Rt ⟨rs,keys,1 + c3 % 12⟩:=⟨R.fl,R.pl,R.sg,hok⟩
 have GD:=Mc.Gd.fin RT O2 (Mc.Gd.start (c:=⟨rs,keys,1 + c3 % 12⟩) fun r hr=>(R.mn r hr).1)
 have hrest : Mc.zbn ⟨rs,keys,1 + c3 % 12⟩ (Mc.fin ⟨rs,keys,1 + c3 % 12⟩ (Mc.start rs)) = true:=by
  have hst:=(Mc.zlw O2).1
  unfold Mc.still at hst
  rw [Bool.or_eq_true] at hst
  rcases hst with h | h
  ·exact h
  ·exfalso
   obtain ⟨_,_,j,k,r,l',w',hr',ers,_,hcn,_⟩:=Mc.zmS RT O3 GD h hK0.symm hplain
   rw [hline3] at hcn
   have h2:=hn2 r (List.mem_of_getElem? hr')
   have h3 : (Mc.cps (Mc.zaM [])).count k = 0:=by rw [Mc.zdb]; rfl
   rw [h3] at hcn
   omega
 clear off2 fr2 hsm hdx2 hne2 RT GD O2
 have I2:=M2.ins
 walk_at "rd"
 refine ⟨p2,A2,_,_,rfl,M2,RR.ok rfl (OC _ hz0),fun A3 H13 M3 st3=>?_⟩
 obtain ⟨hs1113,_⟩:=st3.same hs12 hp2 fr2'
 clear st3 M2 I2 hs12 fr2' hp2
 generalize Mc.fin ⟨rs,keys,1 + c3 % 12⟩ (Mc.start rs) = m3 at M3 O3 hline3 hlie3 hct3 hlen3 hrest
 walk_at "rd"
 intro e14 he14
 have hs14:=zaf he14 (.lst [])
 have h14e : upd H13 e14 (.lst []) e14 = some (.lst []):=upd_same
 generalize upd H13 e14 (.lst []) = H14 at hs14 h14e ⊢
 have M4:=M3.same hs14
 have hs1114:=hs1113.trans hs14
 clear he14
 refine ⟨p2,pc,pk,e14,A3,⟨rs,keys,1 + c3 % 12⟩,m3,ys,[],[],5,rfl,M4,O3,hs1114 _ _ hpc11,Cs.zay hpd11 hs1114,hs1114 _ _ hpk11,h14e,.nil,by decide,R,by decide,(fun b hb=>nomatch hb),hlie3,hct3,hlen3,fun H15 hs15=>?_⟩
 have M5:=M4.same hs15
 have I5:=M5.ins
 walk_at "rd"
 refine ⟨p2,A3,_,_,rfl,M5,O3,fun H16 hs16=>?_⟩
 refine ⟨true,congrArg V.bl hrest,?_⟩
 exact q _
theorem ba1 {fd : FuncData} {ps : List Str} (h : ∀ a : Value,bindArgs fd ⟨[a],[]⟩ = pure (ps.zip [a])) : ∀ us : List Value,us.length = 1 -> bindArgs fd ⟨us,[]⟩ = pure (ps.zip us):=us1 (P:=fun us=>bindArgs fd ⟨us,[]⟩ = pure (ps.zip us)) h
theorem ba2 {fd : FuncData} {ps : List Str} (h : ∀ a b : Value,bindArgs fd ⟨[a,b],[]⟩ = pure (ps.zip [a,b])) : ∀ us : List Value,us.length = 2 -> bindArgs fd ⟨us,[]⟩ = pure (ps.zip us):=us2 (P:=fun us=>bindArgs fd ⟨us,[]⟩ = pure (ps.zip us)) h
theorem ba3 {fd : FuncData} {ps : List Str} (h : ∀ a b c : Value,bindArgs fd ⟨[a,b,c],[]⟩ = pure (ps.zip [a,b,c])) : ∀ us : List Value,us.length = 3 -> bindArgs fd ⟨us,[]⟩ = pure (ps.zip us):=us3 (P:=fun us=>bindArgs fd ⟨us,[]⟩ = pure (ps.zip us)) h
theorem ba4 {fd : FuncData} {ps : List Str} (h : ∀ a b c d : Value,bindArgs fd ⟨[a,b,c,d],[]⟩ = pure (ps.zip [a,b,c,d])) : ∀ us : List Value,us.length = 4 -> bindArgs fd ⟨us,[]⟩ = pure (ps.zip us):=us4 (P:=fun us=>bindArgs fd ⟨us,[]⟩ = pure (ps.zip us)) h
theorem ba5 {fd : FuncData} {ps : List Str} (h : ∀ a b c d e : Value,bindArgs fd ⟨[a,b,c,d,e],[]⟩ = pure (ps.zip [a,b,c,d,e])) : ∀ us : List Value,us.length = 5 -> bindArgs fd ⟨us,[]⟩ = pure (ps.zip us):=us5 (P:=fun us=>bindArgs fd ⟨us,[]⟩ = pure (ps.zip us)) h
theorem bd4 {s : Shared} {fd : FuncData} {ps : List Str} {ds : List Value} (h : ∀ a b c d : Value,BindsTo s fd ⟨[a,b,c,d],[]⟩ (ps.zip ([a,b,c,d] ++ ds))) : ∀ us : List Value,us.length = 4 -> BindsTo s fd ⟨us,[]⟩ (ps.zip (us ++ ds)):=us4 (P:=fun us=>BindsTo s fd ⟨us,[]⟩ (ps.zip (us ++ ds))) h
theorem bd5 {s : Shared} {fd : FuncData} {ps : List Str} {ds : List Value} (h : ∀ a b c d e : Value,BindsTo s fd ⟨[a,b,c,d,e],[]⟩ (ps.zip ([a,b,c,d,e] ++ ds))) : ∀ us : List Value,us.length = 5 -> BindsTo s fd ⟨us,[]⟩ (ps.zip (us ++ ds)):=us5 (P:=fun us=>BindsTo s fd ⟨us,[]⟩ (ps.zip (us ++ ds))) h
theorem txt_mk {K : PySem.W.Frag} {h : Heap} {mg : Str -> Option Value} (X : K.In h) (G : h.Ns mainGlobals mg)
 {f0 : Addr} {od0 an0 : Option Addr} {sl0 : Array (Option Value)} {oc0 kV0 dc0 pm0 cd0 ct0 : Value} {f1 : Addr} {od1 an1 : Option Addr} {sl1 : Array (Option Value)} {oc1 kV1 dc1 pm1 cd1 ct1 : Value} {f2 : Addr} {od2 an2 : Option Addr} {sl2 : Array (Option Value)} {oc2 kV2 dc2 pm2 cd2 ct2 : Value} {f3 : Addr} {od3 an3 : Option Addr} {sl3 : Array (Option Value)} {oc3 kV3 dc3 pm3 cd3 ct3 : Value} {f4 : Addr} {od4 an4 : Option Addr} {sl4 : Array (Option Value)} {oc4 kV4 dc4 pm4 cd4 ct4 : Value} {f5 : Addr} {od5 an5 : Option Addr} {sl5 : Array (Option Value)} {oc5 kV5 dc5 pm5 cd5 ct5 : Value} {f6 : Addr} {od6 an6 : Option Addr} {sl6 : Array (Option Value)} {oc6 kV6 dc6 pm6 cd6 ct6 : Value} {f7 : Addr} {od7 an7 : Option Addr} {sl7 : Array (Option Value)} {oc7 kV7 dc7 pm7 cd7 ct7 : Value} {f8 : Addr} {od8 an8 : Option Addr} {sl8 : Array (Option Value)} {oc8 kV8 dc8 pm8 cd8 ct8 : Value} {f9 : Addr} {od9 an9 : Option Addr} {sl9 : Array (Option Value)} {oc9 kV9 dc9 pm9 cd9 ct9 : Value} {f10 : Addr} {od10 an10 : Option Addr} {sl10 : Array (Option Value)} {oc10 kV10 dc10 pm10 cd10 ct10 : Value} {f11 : Addr} {od11 an11 : Option Addr} {sl11 : Array (Option Value)} {oc11 kV11 dc11 pm11 cd11 ct11 : Value} {f12 : Addr} {od12 an12 : Option Addr} {sl12 : Array (Option Value)} {oc12 kV12 dc12 pm12 cd12 ct12 : Value} {f13 : Addr} {od13 an13 : Option Addr} {sl13 : Array (Option Value)} {oc13 kV13 dc13 pm13 cd13 ct13 : Value} {f14 : Addr} {od14 an14 : Option Addr} {sl14 : Array (Option Value)} {oc14 kV14 dc14 pm14 cd14 ct14 : Value} {f15 : Addr} {od15 an15 : Option Addr} {sl15 : Array (Option Value)} {oc15 kV15 dc15 pm15 cd15 ct15 : Value} {f16 : Addr} {od16 an16 : Option Addr} {sl16 : Array (Option Value)} {oc16 kV16 dc16 pm16 cd16 ct16 : Value} {f17 : Addr} {od17 an17 : Option Addr} {sl17 : Array (Option Value)} {oc17 kV17 dc17 pm17 cd17 ct17 : Value} {f18 : Addr} {od18 an18 : Option Addr} {sl18 : Array (Option Value)} {oc18 kV18 dc18 pm18 cd18 ct18 : Value} {f19 : Addr} {od19 an19 : Option Addr} {sl19 : Array (Option Value)} {oc19 kV19 dc19 pm19 cd19 ct19 : Value} {f20 : Addr} {od20 an20 : Option Addr} {sl20 : Array (Option Value)} {oc20 kV20 dc20 pm20 cd20 ct20 : Value} {f21 : Addr} {od21 an21 : Option Addr} {sl21 : Array (Option Value)} {oc21 kV21 dc21 pm21 cd21 ct21 : Value} {f22 : Addr} {od22 an22 : Option Addr} {sl22 : Array (Option Value)} {oc22 kV22 dc22 pm22 cd22 ct22 : Value} {f23 : Addr} {od23 an23 : Option Addr} {sl23 : Array (Option Value)} {oc23 kV23 dc23 pm23 cd23 ct23 : Value} {f24 : Addr} {od24 an24 : Option Addr} {sl24 : Array (Option Value)} {oc24 kV24 dc24 pm24 cd24 ct24 : Value} {f25 : Addr} {od25 an25 : Option Addr} {sl25 : Array (Option Value)} {oc25 kV25 dc25 pm25 cd25 ct25 : Value} {f26 : Addr} {od26 an26 : Option Addr} {sl26 : Array (Option Value)} {oc26 kV26 dc26 pm26 cd26 ct26 : Value} {f27 : Addr} {od27 an27 : Option Addr} {sl27 : Array (Option Value)} {oc27 kV27 dc27 pm27 cd27 ct27 : Value}
 (a0 : PySem.W.nsIn K mainGlobals "_wall" = some (some (.ref f0))) (l0 : K.lookup f0 = some ⟨oc0,od0,.func (PySem.W.fnOf "_wall" "_wall" (zam s_wall) (zal s_wall) (zac s_wall) .none kV0 dc0 pm0 an0 cd0 ct0),sl0⟩) (c0 : PySem.W.codeIn K cd0 "_wall" = true) (k0 : PySem.W.keepIn K (.ref f0) = true)
 (a1 : PySem.W.nsIn K mainGlobals "has_all" = some (some (.ref f1))) (l1 : K.lookup f1 = some ⟨oc1,od1,.func (PySem.W.fnOf "has_all" "has_all" (zam s_has_all) (zal s_has_all) (zac s_has_all) .none kV1 dc1 pm1 an1 cd1 ct1),sl1⟩) (c1 : PySem.W.codeIn K cd1 "has_all" = true) (k1 : PySem.W.keepIn K (.ref f1) = true)
 (a2 : PySem.W.nsIn K mainGlobals "falls_at" = some (some (.ref f2))) (l2 : K.lookup f2 = some ⟨oc2,od2,.func (PySem.W.fnOf "falls_at" "falls_at" (zam s_falls_at) (zal s_falls_at) (zac s_falls_at) .none kV2 dc2 pm2 an2 cd2 ct2),sl2⟩) (c2 : PySem.W.codeIn K cd2 "falls_at" = true) (k2 : PySem.W.keepIn K (.ref f2) = true)
 (a3 : PySem.W.nsIn K mainGlobals "number_of_teeth" = some (some (.ref f3))) (l3 : K.lookup f3 = some ⟨oc3,od3,.func (PySem.W.fnOf "number_of_teeth" "number_of_teeth" (zam s_number_of_teeth) (zal s_number_of_teeth) (zac s_number_of_teeth) .none kV3 dc3 pm3 an3 cd3 ct3),sl3⟩) (c3 : PySem.W.codeIn K cd3 "number_of_teeth" = true) (k3 : PySem.W.keepIn K (.ref f3) = true)
 (a4 : PySem.W.nsIn K mainGlobals "broken_sets" = some (some (.ref f4))) (l4 : K.lookup f4 = some ⟨oc4,od4,.func (PySem.W.fnOf "broken_sets" "broken_sets" (zam s_broken_sets) (zal s_broken_sets) (zac s_broken_sets) .none kV4 dc4 pm4 an4 cd4 ct4),sl4⟩) (c4 : PySem.W.codeIn K cd4 "broken_sets" = true) (k4 : PySem.W.keepIn K (.ref f4) = true)
 (a5 : PySem.W.nsIn K mainGlobals "fewest_broken" = some (some (.ref f5))) (l5 : K.lookup f5 = some ⟨oc5,od5,.func (PySem.W.fnOf "fewest_broken" "fewest_broken" (zam s_fewest_broken) (zal s_fewest_broken) (zac s_fewest_broken) .none kV5 dc5 pm5 an5 cd5 ct5),sl5⟩) (c5 : PySem.W.codeIn K cd5 "fewest_broken" = true) (k5 : PySem.W.keepIn K (.ref f5) = true)
 (a6 : PySem.W.nsIn K mainGlobals "channel_of" = some (some (.ref f6))) (l6 : K.lookup f6 = some ⟨oc6,od6,.func (PySem.W.fnOf "channel_of" "channel_of" (zam s_channel_of) (zal s_channel_of) (zac s_channel_of) .none kV6 dc6 pm6 an6 cd6 ct6),sl6⟩) (c6 : PySem.W.codeIn K cd6 "channel_of" = true) (k6 : PySem.W.keepIn K (.ref f6) = true)
 (a7 : PySem.W.nsIn K mainGlobals "codes_of" = some (some (.ref f7))) (l7 : K.lookup f7 = some ⟨oc7,od7,.func (PySem.W.fnOf "codes_of" "codes_of" (zam s_codes_of_) (zal s_codes_of_) (zac s_codes_of_) .none kV7 dc7 pm7 an7 cd7 ct7),sl7⟩) (c7 : PySem.W.codeIn K cd7 "codes_of" = true) (k7 : PySem.W.keepIn K (.ref f7) = true)
 (a8 : PySem.W.nsIn K mainGlobals "is_sign_key" = some (some (.ref f8))) (l8 : K.lookup f8 = some ⟨oc8,od8,.func (PySem.W.fnOf "is_sign_key" "is_sign_key" (zam s_is_sign_key) (zal s_is_sign_key) (zac s_is_sign_key) .none kV8 dc8 pm8 an8 cd8 ct8),sl8⟩) (c8 : PySem.W.codeIn K cd8 "is_sign_key" = true) (k8 : PySem.W.keepIn K (.ref f8) = true)
 (a9 : PySem.W.nsIn K mainGlobals "goes_on" = some (some (.ref f9))) (l9 : K.lookup f9 = some ⟨oc9,od9,.func (PySem.W.fnOf "goes_on" "goes_on" (zam s_goes_on) (zal s_goes_on) (zac s_goes_on) .none kV9 dc9 pm9 an9 cd9 ct9),sl9⟩) (c9 : PySem.W.codeIn K cd9 "goes_on" = true) (k9 : PySem.W.keepIn K (.ref f9) = true)
 (a10 : PySem.W.nsIn K mainGlobals "look_at_keys" = some (some (.ref f10))) (l10 : K.lookup f10 = some ⟨oc10,od10,.func (PySem.W.fnOf "look_at_keys" "look_at_keys" (zam s_look_at_keys) (zal s_look_at_keys) (zac s_look_at_keys) .none kV10 dc10 pm10 an10 cd10 ct10),sl10⟩) (c10 : PySem.W.codeIn K cd10 "look_at_keys" = true) (k10 : PySem.W.keepIn K (.ref f10) = true)
 (a11 : PySem.W.nsIn K mainGlobals "can_break" = some (some (.ref f11))) (l11 : K.lookup f11 = some ⟨oc11,od11,.func (PySem.W.fnOf "can_break" "can_break" (zam s_can_break) (zal s_can_break) (zac s_can_break) .none kV11 dc11 pm11 an11 cd11 ct11),sl11⟩) (c11 : PySem.W.codeIn K cd11 "can_break" = true) (k11 : PySem.W.keepIn K (.ref f11) = true)
 (a12 : PySem.W.nsIn K mainGlobals "channels_of" = some (some (.ref f12))) (l12 : K.lookup f12 = some ⟨oc12,od12,.func (PySem.W.fnOf "channels_of" "channels_of" (zam s_channels_of) (zal s_channels_of) (zac s_channels_of) .none kV12 dc12 pm12 an12 cd12 ct12),sl12⟩) (c12 : PySem.W.codeIn K cd12 "channels_of" = true) (k12 : PySem.W.keepIn K (.ref f12) = true)
 (a13 : PySem.W.nsIn K mainGlobals "_law_cell" = some (some (.ref f13))) (l13 : K.lookup f13 = some ⟨oc13,od13,.func (PySem.W.fnOf "_law_cell" "_law_cell" (zam s_law_cell) (zal s_law_cell) (zac s_law_cell) .none kV13 dc13 pm13 an13 cd13 ct13),sl13⟩) (c13 : PySem.W.codeIn K cd13 "_law_cell" = true) (k13 : PySem.W.keepIn K (.ref f13) = true)
 (a14 : PySem.W.nsIn K mainGlobals "_law_stream" = some (some (.ref f14))) (l14 : K.lookup f14 = some ⟨oc14,od14,.func (PySem.W.fnOf "_law_stream" "_law_stream" (zam s_law_stream) (zal s_law_stream) (zac s_law_stream) .none kV14 dc14 pm14 an14 cd14 ct14),sl14⟩) (c14 : PySem.W.codeIn K cd14 "_law_stream" = true) (k14 : PySem.W.keepIn K (.ref f14) = true)
 (a15 : PySem.W.nsIn K mainGlobals "_law_bits" = some (some (.ref f15))) (l15 : K.lookup f15 = some ⟨oc15,od15,.func (PySem.W.fnOf "_law_bits" "_law_bits" (zam s_law_bits) (zal s_law_bits) (zac s_law_bits) .none kV15 dc15 pm15 an15 cd15 ct15),sl15⟩) (c15 : PySem.W.codeIn K cd15 "_law_bits" = true) (k15 : PySem.W.keepIn K (.ref f15) = true)
 (a16 : PySem.W.nsIn K mainGlobals "_law_over" = some (some (.ref f16))) (l16 : K.lookup f16 = some ⟨oc16,od16,.func (PySem.W.fnOf "_law_over" "_law_over" (zam s_law_over) (zal s_law_over) (zac s_law_over) .none kV16 dc16 pm16 an16 cd16 ct16),sl16⟩) (c16 : PySem.W.codeIn K cd16 "_law_over" = true) (k16 : PySem.W.keepIn K (.ref f16) = true)
 (a17 : PySem.W.nsIn K mainGlobals "_law_first" = some (some (.ref f17))) (l17 : K.lookup f17 = some ⟨oc17,od17,.func (PySem.W.fnOf "_law_first" "_law_first" (zam s_law_first) (zal s_law_first) (zac s_law_first) .none kV17 dc17 pm17 an17 cd17 ct17),sl17⟩) (c17 : PySem.W.codeIn K cd17 "_law_first" = true) (k17 : PySem.W.keepIn K (.ref f17) = true)
 (a18 : PySem.W.nsIn K mainGlobals "_law_codes" = some (some (.ref f18))) (l18 : K.lookup f18 = some ⟨oc18,od18,.func (PySem.W.fnOf "_law_codes" "_law_codes" (zam s_law_codes) (zal s_law_codes) (zac s_law_codes) .none kV18 dc18 pm18 an18 cd18 ct18),sl18⟩) (c18 : PySem.W.codeIn K cd18 "_law_codes" = true) (k18 : PySem.W.keepIn K (.ref f18) = true)
 (a19 : PySem.W.nsIn K mainGlobals "_law_case" = some (some (.ref f19))) (l19 : K.lookup f19 = some ⟨oc19,od19,.func (PySem.W.fnOf "_law_case" "_law_case" (zam s_law_case) (zal s_law_case) (zac s_law_case) .none kV19 dc19 pm19 an19 cd19 ct19),sl19⟩) (c19 : PySem.W.codeIn K cd19 "_law_case" = true) (k19 : PySem.W.keepIn K (.ref f19) = true)
 (a20 : PySem.W.nsIn K mainGlobals "_law_falls" = some (some (.ref f20))) (l20 : K.lookup f20 = some ⟨oc20,od20,.func (PySem.W.fnOf "_law_falls" "_law_falls" (zam s_law_falls) (zal s_law_falls) (zac s_law_falls) .none kV20 dc20 pm20 an20 cd20 ct20),sl20⟩) (c20 : PySem.W.codeIn K cd20 "_law_falls" = true) (k20 : PySem.W.keepIn K (.ref f20) = true)
 (a21 : PySem.W.nsIn K mainGlobals "_law_has" = some (some (.ref f21))) (l21 : K.lookup f21 = some ⟨oc21,od21,.func (PySem.W.fnOf "_law_has" "_law_has" (zam s_law_has) (zal s_law_has) (zac s_law_has) .none kV21 dc21 pm21 an21 cd21 ct21),sl21⟩) (c21 : PySem.W.codeIn K cd21 "_law_has" = true) (k21 : PySem.W.keepIn K (.ref f21) = true)
 (a22 : PySem.W.nsIn K mainGlobals "_law_broken" = some (some (.ref f22))) (l22 : K.lookup f22 = some ⟨oc22,od22,.func (PySem.W.fnOf "_law_broken" "_law_broken" (zam s_law_broken) (zal s_law_broken) (zac s_law_broken) .none kV22 dc22 pm22 an22 cd22 ct22),sl22⟩) (c22 : PySem.W.codeIn K cd22 "_law_broken" = true) (k22 : PySem.W.keepIn K (.ref f22) = true)
 (a23 : PySem.W.nsIn K mainGlobals "_law_part" = some (some (.ref f23))) (l23 : K.lookup f23 = some ⟨oc23,od23,.func (PySem.W.fnOf "_law_part" "_law_part" (zam s_law_part) (zal s_law_part) (zac s_law_part) .none kV23 dc23 pm23 an23 cd23 ct23),sl23⟩) (c23 : PySem.W.codeIn K cd23 "_law_part" = true) (k23 : PySem.W.keepIn K (.ref f23) = true)
 (a24 : PySem.W.nsIn K mainGlobals "_law_sets" = some (some (.ref f24))) (l24 : K.lookup f24 = some ⟨oc24,od24,.func (PySem.W.fnOf "_law_sets" "_law_sets" (zam s_law_sets) (zal s_law_sets) (zac s_law_sets) .none kV24 dc24 pm24 an24 cd24 ct24),sl24⟩) (c24 : PySem.W.codeIn K cd24 "_law_sets" = true) (k24 : PySem.W.keepIn K (.ref f24) = true)
 (a25 : PySem.W.nsIn K mainGlobals "_law_order" = some (some (.ref f25))) (l25 : K.lookup f25 = some ⟨oc25,od25,.func (PySem.W.fnOf "_law_order" "_law_order" (zam s_law_order) (zal s_law_order) (zac s_law_order) .none kV25 dc25 pm25 an25 cd25 ct25),sl25⟩) (c25 : PySem.W.codeIn K cd25 "_law_order" = true) (k25 : PySem.W.keepIn K (.ref f25) = true)
 (a26 : PySem.W.nsIn K mainGlobals "_law_homes" = some (some (.ref f26))) (l26 : K.lookup f26 = some ⟨oc26,od26,.func (PySem.W.fnOf "_law_homes" "_law_homes" (zam s_law_homes) (zal s_law_homes) (zac s_law_homes) .none kV26 dc26 pm26 an26 cd26 ct26),sl26⟩) (c26 : PySem.W.codeIn K cd26 "_law_homes" = true) (k26 : PySem.W.keepIn K (.ref f26) = true)
 (a27 : PySem.W.nsIn K mainGlobals "law" = some (some (.ref f27))) (l27 : K.lookup f27 = some ⟨oc27,od27,.func (PySem.W.fnOf "law" "law" (zam s_law) (zal s_law) (zac s_law) .none kV27 dc27 pm27 an27 cd27 ct27),sl27⟩) (c27 : PySem.W.codeIn K cd27 "law" = true) (k27 : PySem.W.keepIn K (.ref f27) = true)
 {c_Machine : Addr} (ca_Machine : PySem.W.nsIn K mainGlobals "Machine" = some (some (.ref c_Machine)))
 (pg_Machine : PySem.W.plainGet K c_Machine Str.empty = true) (hd_Machine : PySem.W.hasDictIn K c_Machine = true) (po_Machine : PySem.W.plainOver K c_Machine = true) (sa_Machine : PySem.W.findIn K (.ref c_Machine) "__setattr__" = some (some (.builtin "object.__setattr__"))) (mk_Machine : PySem.W.makesIn K c_Machine = true) (kc_Machine : PySem.W.keepIn K (.ref c_Machine) = true)
 {f_Machine_init : Addr} (a_Machine_init : PySem.W.findIn K (.ref c_Machine) "__init__" = some (some (.ref f_Machine_init))) (i_Machine_init : PySem.W.isFn K (.ref f_Machine_init) = true)
 {od_Machine_init an_Machine_init : Option Addr} {sl_Machine_init : Array (Option Value)} {oc_Machine_init kV_Machine_init dc_Machine_init pm_Machine_init cd_Machine_init ct_Machine_init : Value}
 {T_Machine_init : Addr}
 (l_Machine_init : K.lookup f_Machine_init = some ⟨oc_Machine_init,od_Machine_init,.func (PySem.W.fnOf "__init__" "Machine.__init__" (zam s_Machine_init) (zal s_Machine_init) (zac s_Machine_init) (.ref T_Machine_init) kV_Machine_init dc_Machine_init pm_Machine_init an_Machine_init cd_Machine_init ct_Machine_init),sl_Machine_init⟩) (c_Machine_init : PySem.W.codeIn K cd_Machine_init "Machine.__init__" = true) (k_Machine_init : PySem.W.keepIn K (.ref f_Machine_init) = true)
 {to_Machine_init : Value} {td_Machine_init : Option Addr} {tn_Machine_init : Nat} {ts_Machine_init : Array (Option Value)} (t_Machine_init : K.lookup T_Machine_init = some ⟨to_Machine_init,td_Machine_init,.seq #[.none] tn_Machine_init,ts_Machine_init⟩)
 {f_Machine_next_key : Addr} (a_Machine_next_key : PySem.W.findIn K (.ref c_Machine) "next_key" = some (some (.ref f_Machine_next_key))) (i_Machine_next_key : PySem.W.isFn K (.ref f_Machine_next_key) = true)
 {od_Machine_next_key an_Machine_next_key : Option Addr} {sl_Machine_next_key : Array (Option Value)} {oc_Machine_next_key kV_Machine_next_key dc_Machine_next_key pm_Machine_next_key cd_Machine_next_key ct_Machine_next_key : Value}
 (l_Machine_next_key : K.lookup f_Machine_next_key = some ⟨oc_Machine_next_key,od_Machine_next_key,.func (PySem.W.fnOf "next_key" "Machine.next_key" (zam s_Machine_next_key) (zal s_Machine_next_key) (zac s_Machine_next_key) .none kV_Machine_next_key dc_Machine_next_key pm_Machine_next_key an_Machine_next_key cd_Machine_next_key ct_Machine_next_key),sl_Machine_next_key⟩) (c_Machine_next_key : PySem.W.codeIn K cd_Machine_next_key "Machine.next_key" = true) (k_Machine_next_key : PySem.W.keepIn K (.ref f_Machine_next_key) = true)
 {f_Machine_lacks_matrix : Addr} (a_Machine_lacks_matrix : PySem.W.findIn K (.ref c_Machine) "lacks_matrix" = some (some (.ref f_Machine_lacks_matrix))) (i_Machine_lacks_matrix : PySem.W.isFn K (.ref f_Machine_lacks_matrix) = true)
 {od_Machine_lacks_matrix an_Machine_lacks_matrix : Option Addr} {sl_Machine_lacks_matrix : Array (Option Value)} {oc_Machine_lacks_matrix kV_Machine_lacks_matrix dc_Machine_lacks_matrix pm_Machine_lacks_matrix cd_Machine_lacks_matrix ct_Machine_lacks_matrix : Value}
 (l_Machine_lacks_matrix : K.lookup f_Machine_lacks_matrix = some ⟨oc_Machine_lacks_matrix,od_Machine_lacks_matrix,.func (PySem.W.fnOf "lacks_matrix" "Machine.lacks_matrix" (zam s_Machine_lacks_matrix) (zal s_Machine_lacks_matrix) (zac s_Machine_lacks_matrix) .none kV_Machine_lacks_matrix dc_Machine_lacks_matrix pm_Machine_lacks_matrix an_Machine_lacks_matrix cd_Machine_lacks_matrix ct_Machine_lacks_matrix),sl_Machine_lacks_matrix⟩) (c_Machine_lacks_matrix : PySem.W.codeIn K cd_Machine_lacks_matrix "Machine.lacks_matrix" = true) (k_Machine_lacks_matrix : PySem.W.keepIn K (.ref f_Machine_lacks_matrix) = true)
 {f_Machine_stuck : Addr} (a_Machine_stuck : PySem.W.findIn K (.ref c_Machine) "stuck" = some (some (.ref f_Machine_stuck))) (i_Machine_stuck : PySem.W.isFn K (.ref f_Machine_stuck) = true)
 {od_Machine_stuck an_Machine_stuck : Option Addr} {sl_Machine_stuck : Array (Option Value)} {oc_Machine_stuck kV_Machine_stuck dc_Machine_stuck pm_Machine_stuck cd_Machine_stuck ct_Machine_stuck : Value}
 (l_Machine_stuck : K.lookup f_Machine_stuck = some ⟨oc_Machine_stuck,od_Machine_stuck,.func (PySem.W.fnOf "stuck" "Machine.stuck" (zam s_Machine_stuck) (zal s_Machine_stuck) (zac s_Machine_stuck) .none kV_Machine_stuck dc_Machine_stuck pm_Machine_stuck an_Machine_stuck cd_Machine_stuck ct_Machine_stuck),sl_Machine_stuck⟩) (c_Machine_stuck : PySem.W.codeIn K cd_Machine_stuck "Machine.stuck" = true) (k_Machine_stuck : PySem.W.keepIn K (.ref f_Machine_stuck) = true)
 {f_Machine_resting : Addr} (a_Machine_resting : PySem.W.findIn K (.ref c_Machine) "resting" = some (some (.ref f_Machine_resting))) (i_Machine_resting : PySem.W.isFn K (.ref f_Machine_resting) = true)
 {od_Machine_resting an_Machine_resting : Option Addr} {sl_Machine_resting : Array (Option Value)} {oc_Machine_resting kV_Machine_resting dc_Machine_resting pm_Machine_resting cd_Machine_resting ct_Machine_resting : Value}
 (l_Machine_resting : K.lookup f_Machine_resting = some ⟨oc_Machine_resting,od_Machine_resting,.func (PySem.W.fnOf "resting" "Machine.resting" (zam s_Machine_resting) (zal s_Machine_resting) (zac s_Machine_resting) .none kV_Machine_resting dc_Machine_resting pm_Machine_resting an_Machine_resting cd_Machine_resting ct_Machine_resting),sl_Machine_resting⟩) (c_Machine_resting : PySem.W.codeIn K cd_Machine_resting "Machine.resting" = true) (k_Machine_resting : PySem.W.keepIn K (.ref f_Machine_resting) = true)
 {f_Machine_move_bar : Addr} (a_Machine_move_bar : PySem.W.findIn K (.ref c_Machine) "move_bar" = some (some (.ref f_Machine_move_bar))) (i_Machine_move_bar : PySem.W.isFn K (.ref f_Machine_move_bar) = true)
 {od_Machine_move_bar an_Machine_move_bar : Option Addr} {sl_Machine_move_bar : Array (Option Value)} {oc_Machine_move_bar kV_Machine_move_bar dc_Machine_move_bar pm_Machine_move_bar cd_Machine_move_bar ct_Machine_move_bar : Value}
 (l_Machine_move_bar : K.lookup f_Machine_move_bar = some ⟨oc_Machine_move_bar,od_Machine_move_bar,.func (PySem.W.fnOf "move_bar" "Machine.move_bar" (zam s_Machine_move_bar) (zal s_Machine_move_bar) (zac s_Machine_move_bar) .none kV_Machine_move_bar dc_Machine_move_bar pm_Machine_move_bar an_Machine_move_bar cd_Machine_move_bar ct_Machine_move_bar),sl_Machine_move_bar⟩) (c_Machine_move_bar : PySem.W.codeIn K cd_Machine_move_bar "Machine.move_bar" = true) (k_Machine_move_bar : PySem.W.keepIn K (.ref f_Machine_move_bar) = true)
 {f_Machine_move_caster : Addr} (a_Machine_move_caster : PySem.W.findIn K (.ref c_Machine) "move_caster" = some (some (.ref f_Machine_move_caster))) (i_Machine_move_caster : PySem.W.isFn K (.ref f_Machine_move_caster) = true)
 {od_Machine_move_caster an_Machine_move_caster : Option Addr} {sl_Machine_move_caster : Array (Option Value)} {oc_Machine_move_caster kV_Machine_move_caster dc_Machine_move_caster pm_Machine_move_caster cd_Machine_move_caster ct_Machine_move_caster : Value}
 (l_Machine_move_caster : K.lookup f_Machine_move_caster = some ⟨oc_Machine_move_caster,od_Machine_move_caster,.func (PySem.W.fnOf "move_caster" "Machine.move_caster" (zam s_Machine_move_caster) (zal s_Machine_move_caster) (zac s_Machine_move_caster) .none kV_Machine_move_caster dc_Machine_move_caster pm_Machine_move_caster an_Machine_move_caster cd_Machine_move_caster ct_Machine_move_caster),sl_Machine_move_caster⟩) (c_Machine_move_caster : PySem.W.codeIn K cd_Machine_move_caster "Machine.move_caster" = true) (k_Machine_move_caster : PySem.W.keepIn K (.ref f_Machine_move_caster) = true)
 {f_Machine_move_line : Addr} (a_Machine_move_line : PySem.W.findIn K (.ref c_Machine) "move_line" = some (some (.ref f_Machine_move_line))) (i_Machine_move_line : PySem.W.isFn K (.ref f_Machine_move_line) = true)
 {od_Machine_move_line an_Machine_move_line : Option Addr} {sl_Machine_move_line : Array (Option Value)} {oc_Machine_move_line kV_Machine_move_line dc_Machine_move_line pm_Machine_move_line cd_Machine_move_line ct_Machine_move_line : Value}
 (l_Machine_move_line : K.lookup f_Machine_move_line = some ⟨oc_Machine_move_line,od_Machine_move_line,.func (PySem.W.fnOf "move_line" "Machine.move_line" (zam s_Machine_move_line) (zal s_Machine_move_line) (zac s_Machine_move_line) .none kV_Machine_move_line dc_Machine_move_line pm_Machine_move_line an_Machine_move_line cd_Machine_move_line ct_Machine_move_line),sl_Machine_move_line⟩) (c_Machine_move_line : PySem.W.codeIn K cd_Machine_move_line "Machine.move_line" = true) (k_Machine_move_line : PySem.W.keepIn K (.ref f_Machine_move_line) = true)
 {f_Machine_send_line : Addr} (a_Machine_send_line : PySem.W.findIn K (.ref c_Machine) "send_line" = some (some (.ref f_Machine_send_line))) (i_Machine_send_line : PySem.W.isFn K (.ref f_Machine_send_line) = true)
 {od_Machine_send_line an_Machine_send_line : Option Addr} {sl_Machine_send_line : Array (Option Value)} {oc_Machine_send_line kV_Machine_send_line dc_Machine_send_line pm_Machine_send_line cd_Machine_send_line ct_Machine_send_line : Value}
 (l_Machine_send_line : K.lookup f_Machine_send_line = some ⟨oc_Machine_send_line,od_Machine_send_line,.func (PySem.W.fnOf "send_line" "Machine.send_line" (zam s_Machine_send_line) (zal s_Machine_send_line) (zac s_Machine_send_line) .none kV_Machine_send_line dc_Machine_send_line pm_Machine_send_line an_Machine_send_line cd_Machine_send_line ct_Machine_send_line),sl_Machine_send_line⟩) (c_Machine_send_line : PySem.W.codeIn K cd_Machine_send_line "Machine.send_line" = true) (k_Machine_send_line : PySem.W.keepIn K (.ref f_Machine_send_line) = true)
 {f_Machine_take : Addr} (a_Machine_take : PySem.W.findIn K (.ref c_Machine) "take" = some (some (.ref f_Machine_take))) (i_Machine_take : PySem.W.isFn K (.ref f_Machine_take) = true)
 {od_Machine_take an_Machine_take : Option Addr} {sl_Machine_take : Array (Option Value)} {oc_Machine_take kV_Machine_take dc_Machine_take pm_Machine_take cd_Machine_take ct_Machine_take : Value}
 (l_Machine_take : K.lookup f_Machine_take = some ⟨oc_Machine_take,od_Machine_take,.func (PySem.W.fnOf "take" "Machine.take" (zam s_Machine_take) (zal s_Machine_take) (zac s_Machine_take) .none kV_Machine_take dc_Machine_take pm_Machine_take an_Machine_take cd_Machine_take ct_Machine_take),sl_Machine_take⟩) (c_Machine_take : PySem.W.codeIn K cd_Machine_take "Machine.take" = true) (k_Machine_take : PySem.W.keepIn K (.ref f_Machine_take) = true)
 {f_Machine_tick : Addr} (a_Machine_tick : PySem.W.findIn K (.ref c_Machine) "tick" = some (some (.ref f_Machine_tick))) (i_Machine_tick : PySem.W.isFn K (.ref f_Machine_tick) = true)
 {od_Machine_tick an_Machine_tick : Option Addr} {sl_Machine_tick : Array (Option Value)} {oc_Machine_tick kV_Machine_tick dc_Machine_tick pm_Machine_tick cd_Machine_tick ct_Machine_tick : Value}
 (l_Machine_tick : K.lookup f_Machine_tick = some ⟨oc_Machine_tick,od_Machine_tick,.func (PySem.W.fnOf "tick" "Machine.tick" (zam s_Machine_tick) (zal s_Machine_tick) (zac s_Machine_tick) .none kV_Machine_tick dc_Machine_tick pm_Machine_tick an_Machine_tick cd_Machine_tick ct_Machine_tick),sl_Machine_tick⟩) (c_Machine_tick : PySem.W.codeIn K cd_Machine_tick "Machine.tick" = true) (k_Machine_tick : PySem.W.keepIn K (.ref f_Machine_tick) = true)
 {f_Machine_run : Addr} (a_Machine_run : PySem.W.findIn K (.ref c_Machine) "run" = some (some (.ref f_Machine_run))) (i_Machine_run : PySem.W.isFn K (.ref f_Machine_run) = true)
 {od_Machine_run an_Machine_run : Option Addr} {sl_Machine_run : Array (Option Value)} {oc_Machine_run kV_Machine_run dc_Machine_run pm_Machine_run cd_Machine_run ct_Machine_run : Value}
 (l_Machine_run : K.lookup f_Machine_run = some ⟨oc_Machine_run,od_Machine_run,.func (PySem.W.fnOf "run" "Machine.run" (zam s_Machine_run) (zal s_Machine_run) (zac s_Machine_run) .none kV_Machine_run dc_Machine_run pm_Machine_run an_Machine_run cd_Machine_run ct_Machine_run),sl_Machine_run⟩) (c_Machine_run : PySem.W.codeIn K cd_Machine_run "Machine.run" = true) (k_Machine_run : PySem.W.keepIn K (.ref f_Machine_run) = true)
 {f_Machine_channels : Addr} (a_Machine_channels : PySem.W.findIn K (.ref c_Machine) "channels" = some (some (.ref f_Machine_channels))) (i_Machine_channels : PySem.W.isFn K (.ref f_Machine_channels) = true)
 {od_Machine_channels an_Machine_channels : Option Addr} {sl_Machine_channels : Array (Option Value)} {oc_Machine_channels kV_Machine_channels dc_Machine_channels pm_Machine_channels cd_Machine_channels ct_Machine_channels : Value}
 (l_Machine_channels : K.lookup f_Machine_channels = some ⟨oc_Machine_channels,od_Machine_channels,.func (PySem.W.fnOf "channels" "Machine.channels" (zam s_Machine_channels) (zal s_Machine_channels) (zac s_Machine_channels) .none kV_Machine_channels dc_Machine_channels pm_Machine_channels an_Machine_channels cd_Machine_channels ct_Machine_channels),sl_Machine_channels⟩) (c_Machine_channels : PySem.W.codeIn K cd_Machine_channels "Machine.channels" = true) (k_Machine_channels : PySem.W.keepIn K (.ref f_Machine_channels) = true)
 (n_Machine_lying : PySem.W.findIn K (.ref c_Machine) "lying" = some none)
 (n_Machine_case : PySem.W.findIn K (.ref c_Machine) "case" = some none)
 (n_Machine_played : PySem.W.findIn K (.ref c_Machine) "played" = some none)
 (n_Machine_struck : PySem.W.findIn K (.ref c_Machine) "struck" = some none)
 (n_Machine_casting : PySem.W.findIn K (.ref c_Machine) "casting" = some none)
 (n_Machine_line : PySem.W.findIn K (.ref c_Machine) "line" = some none)
 (n_Machine_heated : PySem.W.findIn K (.ref c_Machine) "heated" = some none)
 (n_Machine_to_go : PySem.W.findIn K (.ref c_Machine) "to_go" = some none)
 (n_Machine_hanging : PySem.W.findIn K (.ref c_Machine) "hanging" = some none)
 (n_Machine_texts : PySem.W.findIn K (.ref c_Machine) "texts" = some none)
 (n_Machine_done : PySem.W.findIn K (.ref c_Machine) "done" = some none)
 (n_Machine_waits : PySem.W.findIn K (.ref c_Machine) "waits" = some none)
 {t_GAP_KEY : Tok} (y_GAP_KEY : PySem.W.nsIn K mainGlobals "GAP_KEY" = some (some (.str " " t_GAP_KEY)))
 {t_SEND_KEY : Tok} (y_SEND_KEY : PySem.W.nsIn K mainGlobals "SEND_KEY" = some (some (.str "/" t_SEND_KEY)))
 {t_WEDGE : Tok} (y_WEDGE : PySem.W.nsIn K mainGlobals "WEDGE" = some (some (.str " " t_WEDGE)))
 (z_ValueError : PySem.W.nsIn K mainGlobals "ValueError" = some none)
 (z_enumerate : PySem.W.nsIn K mainGlobals "enumerate" = some none)
 (z_len : PySem.W.nsIn K mainGlobals "len" = some none)
 (z_list : PySem.W.nsIn K mainGlobals "list" = some none)
 (z_min : PySem.W.nsIn K mainGlobals "min" = some none)
 (z_range : PySem.W.nsIn K mainGlobals "range" = some none)
 (z_sum : PySem.W.nsIn K mainGlobals "sum" = some none)
 : ∃ a : Ad,Tx K mg a:=by
 have D0 : D K mg "_wall" s_wall ["k"] f0 _:=⟨zaA l0 c0 k0,ba1 (fun _=>rfl),PySem.W.mg_of X G a0⟩
 have D1 : D K mg "has_all" s_has_all ["teeth","others"] f1 _:=⟨zaA l1 c1 k1,ba2 (fun _ _=>rfl),PySem.W.mg_of X G a1⟩
 have D2 : D K mg "falls_at" s_falls_at ["codes","teeth"] f2 _:=⟨zaA l2 c2 k2,ba2 (fun _ _=>rfl),PySem.W.mg_of X G a2⟩
 have D3 : D K mg "number_of_teeth" s_number_of_teeth ["teeth"] f3 _:=⟨zaA l3 c3 k3,ba1 (fun _=>rfl),PySem.W.mg_of X G a3⟩
 have D4 : D K mg "broken_sets" s_broken_sets ["codes","channel","where"] f4 _:=⟨zaA l4 c4 k4,ba3 (fun _ _ _=>rfl),PySem.W.mg_of X G a4⟩
 have D5 : D K mg "fewest_broken" s_fewest_broken ["codes","channel","where"] f5 _:=⟨zaA l5 c5 k5,ba3 (fun _ _ _=>rfl),PySem.W.mg_of X G a5⟩
 have D6 : D K mg "channel_of" s_channel_of ["case","sign"] f6 _:=⟨zaA l6 c6 k6,ba2 (fun _ _=>rfl),PySem.W.mg_of X G a6⟩
 have D7 : D K mg "codes_of" s_codes_of_ ["case"] f7 _:=⟨zaA l7 c7 k7,ba1 (fun _=>rfl),PySem.W.mg_of X G a7⟩
 have D8 : D K mg "is_sign_key" s_is_sign_key ["key"] f8 _:=⟨zaA l8 c8 k8,ba1 (fun _=>rfl),PySem.W.mg_of X G a8⟩
 have D9 : D K mg "goes_on" s_goes_on ["case","keys","at"] f9 _:=⟨zaA l9 c9 k9,ba3 (fun _ _ _=>rfl),PySem.W.mg_of X G a9⟩
 have D10 : D K mg "look_at_keys" s_look_at_keys ["case","keys"] f10 _:=⟨zaA l10 c10 k10,ba2 (fun _ _=>rfl),PySem.W.mg_of X G a10⟩
 have D11 : D K mg "can_break" s_can_break ["case","ahead","channel","teeth"] f11 _:=⟨zaA l11 c11 k11,ba4 (fun _ _ _ _=>rfl),PySem.W.mg_of X G a11⟩
 have D12 : D K mg "channels_of" s_channels_of ["case","broken"] f12 _:=⟨zaA l12 c12 k12,ba2 (fun _ _=>rfl),PySem.W.mg_of X G a12⟩
 have D13 : D K mg "_law_cell" s_law_cell ["_law_script","_law_k"] f13 _:=⟨zaA l13 c13 k13,ba2 (fun _ _=>rfl),PySem.W.mg_of X G a13⟩
 have D14 : D K mg "_law_stream" s_law_stream ["_law_cell_here","_law_many"] f14 _:=⟨zaA l14 c14 k14,ba2 (fun _ _=>rfl),PySem.W.mg_of X G a14⟩
 have D15 : D K mg "_law_bits" s_law_bits ["_law_number"] f15 _:=⟨zaA l15 c15 k15,ba1 (fun _=>rfl),PySem.W.mg_of X G a15⟩
 have D16 : D K mg "_law_over" s_law_over ["_law_code","_law_other"] f16 _:=⟨zaA l16 c16 k16,ba2 (fun _ _=>rfl),PySem.W.mg_of X G a16⟩
 have D17 : D K mg "_law_first" s_law_first ["_law_left"] f17 _:=⟨zaA l17 c17 k17,ba1 (fun _=>rfl),PySem.W.mg_of X G a17⟩
 have D18 : D K mg "_law_codes" s_law_codes ["_law_cell_here","_law_many"] f18 _:=⟨zaA l18 c18 k18,ba2 (fun _ _=>rfl),PySem.W.mg_of X G a18⟩
 have D19 : D K mg "_law_case" s_law_case ["_law_script","_law_most"] f19 _:=⟨zaA l19 c19 k19,ba2 (fun _ _=>rfl),PySem.W.mg_of X G a19⟩
 have D20 : D K mg "_law_falls" s_law_falls ["_law_codes_here","_law_teeth"] f20 _:=⟨zaA l20 c20 k20,ba2 (fun _ _=>rfl),PySem.W.mg_of X G a20⟩
 have D21 : D K mg "_law_has" s_law_has ["_law_code","_law_teeth"] f21 _:=⟨zaA l21 c21 k21,ba2 (fun _ _=>rfl),PySem.W.mg_of X G a21⟩
 have D22 : D K mg "_law_broken" s_law_broken ["_law_case_here","_law_script"] f22 _:=⟨zaA l22 c22 k22,ba2 (fun _ _=>rfl),PySem.W.mg_of X G a22⟩
 have D23 : D K mg "_law_part" s_law_part ["_law_teeth","_law_number"] f23 _:=⟨zaA l23 c23 k23,ba2 (fun _ _=>rfl),PySem.W.mg_of X G a23⟩
 have D24 : D K mg "_law_sets" s_law_sets ["_law_codes_here","_law_channel","_law_where"] f24 _:=⟨zaA l24 c24 k24,ba3 (fun _ _ _=>rfl),PySem.W.mg_of X G a24⟩
 have D25 : D K mg "_law_order" s_law_order ["_law_case_here","_law_script"] f25 _:=⟨zaA l25 c25 k25,ba2 (fun _ _=>rfl),PySem.W.mg_of X G a25⟩
 have D26 : D K mg "_law_homes" s_law_homes ["_law_machine","_law_case_here","_law_codes_here","_law_broken_here"] f26 _:=⟨zaA l26 c26 k26,ba4 (fun _ _ _ _=>rfl),PySem.W.mg_of X G a26⟩
 have D27 : D K mg "law" s_law ["_law_script"] f27 _:=⟨zaA l27 c27 k27,ba1 (fun _=>rfl),PySem.W.mg_of X G a27⟩
 have M_Machine_init : DI K mg "Machine" "Machine.__init__" s_Machine_init ["self","case","keys","casting","broken"] c_Machine f_Machine_init _:=⟨PySem.W.mg_of X G ca_Machine,⟨pg_Machine,hd_Machine,po_Machine,sa_Machine⟩,⟨mk_Machine,a_Machine_init,i_Machine_init,kc_Machine⟩,⟨⟨_,_,_,_,_,_,_,_,_,_,rfl,l_Machine_init,c_Machine_init⟩,k_Machine_init⟩,fun s us XX hl=>bd5 (fun _ _ _ _ _=>BindsTo.of_defaults rfl (XX _ _ t_Machine_init) rfl rfl rfl) us (zla hl),fun s us XX hl=>bd4 (fun _ _ _ _=>BindsTo.of_defaults rfl (XX _ _ t_Machine_init) rfl rfl rfl) us (zla hl)⟩
 have M_Machine_next_key : DM K "next_key" "Machine.next_key" s_Machine_next_key ["self"] c_Machine f_Machine_next_key _:=⟨zaA l_Machine_next_key c_Machine_next_key k_Machine_next_key,ba1 (fun _=>rfl),⟨a_Machine_next_key,i_Machine_next_key,k_Machine_next_key⟩⟩
 have M_Machine_lacks_matrix : DM K "lacks_matrix" "Machine.lacks_matrix" s_Machine_lacks_matrix ["self"] c_Machine f_Machine_lacks_matrix _:=⟨zaA l_Machine_lacks_matrix c_Machine_lacks_matrix k_Machine_lacks_matrix,ba1 (fun _=>rfl),⟨a_Machine_lacks_matrix,i_Machine_lacks_matrix,k_Machine_lacks_matrix⟩⟩
 have M_Machine_stuck : DM K "stuck" "Machine.stuck" s_Machine_stuck ["self"] c_Machine f_Machine_stuck _:=⟨zaA l_Machine_stuck c_Machine_stuck k_Machine_stuck,ba1 (fun _=>rfl),⟨a_Machine_stuck,i_Machine_stuck,k_Machine_stuck⟩⟩
 have M_Machine_resting : DM K "resting" "Machine.resting" s_Machine_resting ["self"] c_Machine f_Machine_resting _:=⟨zaA l_Machine_resting c_Machine_resting k_Machine_resting,ba1 (fun _=>rfl),⟨a_Machine_resting,i_Machine_resting,k_Machine_resting⟩⟩
 have M_Machine_move_bar : DM K "move_bar" "Machine.move_bar" s_Machine_move_bar ["self"] c_Machine f_Machine_move_bar _:=⟨zaA l_Machine_move_bar c_Machine_move_bar k_Machine_move_bar,ba1 (fun _=>rfl),⟨a_Machine_move_bar,i_Machine_move_bar,k_Machine_move_bar⟩⟩
 have M_Machine_move_caster : DM K "move_caster" "Machine.move_caster" s_Machine_move_caster ["self"] c_Machine f_Machine_move_caster _:=⟨zaA l_Machine_move_caster c_Machine_move_caster k_Machine_move_caster,ba1 (fun _=>rfl),⟨a_Machine_move_caster,i_Machine_move_caster,k_Machine_move_caster⟩⟩
 have M_Machine_move_line : DM K "move_line" "Machine.move_line" s_Machine_move_line ["self"] c_Machine f_Machine_move_line _:=⟨zaA l_Machine_move_line c_Machine_move_line k_Machine_move_line,ba1 (fun _=>rfl),⟨a_Machine_move_line,i_Machine_move_line,k_Machine_move_line⟩⟩
 have M_Machine_send_line : DM K "send_line" "Machine.send_line" s_Machine_send_line ["self"] c_Machine f_Machine_send_line _:=⟨zaA l_Machine_send_line c_Machine_send_line k_Machine_send_line,ba1 (fun _=>rfl),⟨a_Machine_send_line,i_Machine_send_line,k_Machine_send_line⟩⟩
 have M_Machine_take : DM K "take" "Machine.take" s_Machine_take ["self","part"] c_Machine f_Machine_take _:=⟨zaA l_Machine_take c_Machine_take k_Machine_take,ba2 (fun _ _=>rfl),⟨a_Machine_take,i_Machine_take,k_Machine_take⟩⟩
 have M_Machine_tick : DM K "tick" "Machine.tick" s_Machine_tick ["self"] c_Machine f_Machine_tick _:=⟨zaA l_Machine_tick c_Machine_tick k_Machine_tick,ba1 (fun _=>rfl),⟨a_Machine_tick,i_Machine_tick,k_Machine_tick⟩⟩
 have M_Machine_run : DM K "run" "Machine.run" s_Machine_run ["self"] c_Machine f_Machine_run _:=⟨zaA l_Machine_run c_Machine_run k_Machine_run,ba1 (fun _=>rfl),⟨a_Machine_run,i_Machine_run,k_Machine_run⟩⟩
 have M_Machine_channels : DM K "channels" "Machine.channels" s_Machine_channels ["self"] c_Machine f_Machine_channels _:=⟨zaA l_Machine_channels c_Machine_channels k_Machine_channels,ba1 (fun _=>rfl),⟨a_Machine_channels,i_Machine_channels,k_Machine_channels⟩⟩
 exact ⟨⟨f0,_,f1,_,f2,_,f3,_,f4,_,f5,_,f6,_,f7,_,f8,_,f9,_,f10,_,f11,_,f12,_,f13,_,f14,_,f15,_,f16,_,f17,_,f18,_,f19,_,f20,_,f21,_,f22,_,f23,_,f24,_,f25,_,f26,_,f27,_,c_Machine,f_Machine_init,_,f_Machine_next_key,_,f_Machine_lacks_matrix,_,f_Machine_stuck,_,f_Machine_resting,_,f_Machine_move_bar,_,f_Machine_move_caster,_,f_Machine_move_line,_,f_Machine_send_line,_,f_Machine_take,_,f_Machine_tick,_,f_Machine_run,_,f_Machine_channels,_,t_GAP_KEY,t_SEND_KEY,t_WEDGE⟩,⟨D0,D1,D2,D3,D4,D5,D6,D7,D8,D9,D10,D11,D12,D13,D14,D15,D16,D17,D18,D19,D20,D21,D22,D23,D24,D25,D26,D27,M_Machine_init,M_Machine_next_key,M_Machine_lacks_matrix,M_Machine_stuck,M_Machine_resting,M_Machine_move_bar,M_Machine_move_caster,M_Machine_move_line,M_Machine_send_line,M_Machine_take,M_Machine_tick,M_Machine_run,M_Machine_channels,n_Machine_lying,n_Machine_case,n_Machine_played,n_Machine_struck,n_Machine_casting,n_Machine_line,n_Machine_heated,n_Machine_to_go,n_Machine_hanging,n_Machine_texts,n_Machine_done,n_Machine_waits,PySem.W.mg_of X G y_GAP_KEY,PySem.W.mg_of X G y_SEND_KEY,PySem.W.mg_of X G y_WEDGE,PySem.W.mg_none_of X G z_ValueError,PySem.W.mg_none_of X G z_enumerate,PySem.W.mg_none_of X G z_len,PySem.W.mg_none_of X G z_list,PySem.W.mg_none_of X G z_min,PySem.W.mg_none_of X G z_range,PySem.W.mg_none_of X G z_sum⟩⟩
section
open PySem.W PyProof.Rows
open Hd (qr qi qs qt qb qe qF qG qT qN qf qg qC HD)
noncomputable def h_3 (P : Params) : Obj:=⟨(qt "dict"),.none,(.dict #[qe P "__name__" 165 (qs "law_linecaster_k73_whole_broken_teeth_found" 558),qe P "__doc__" 166 .none,qe P "__package__" 167 .none,qe P "__loader__" 168 (qb "__main__.__loader__#opaque"),qe P "__spec__" 169 .none,qe P "__annotations__" 170 (qr 6),qe P "__builtins__" 171 (qr 4),qe P "__file__" 173 (qs "/claim/cut.py" 172),qe P "__cached__" 174 .none,qe P "_wall" 193 (qr 21),qe P "CasterError" 213 (qr 31),qe P "NoCase" 238 (qr 51),qe P "NoKeys" 263 (qr 70),qe P "has_all" 273 (qr 79),qe P "falls_at" 283 (qr 86),qe P "number_of_teeth" 289 (qr 91),qe P "broken_sets" 297 (qr 96),qe P "fewest_broken" 303 (qr 101),qe P "channel_of" 315 (qr 108),qe P "codes_of" 321 (qr 113),qe P "GAP_KEY" 325 (qs " " 324),qe P "SEND_KEY" 327 (qs "/" 326),qe P "is_sign_key" 334 (qr 120),qe P "goes_on" 343 (qr 127),qe P "look_at_keys" 352 (qr 134),qe P "can_break" 368 (qr 141),qe P "channels_of" 374 (qr 146),qe P "WEDGE" 378 (qs " " 377),qe P "Machine" 557 (qr 293),qe P "_law_cell" 567 (qr 304),qe P "_law_stream" 578 (qr 311),qe P "_law_bits" 586 (qr 318),qe P "_law_over" 594 (qr 325),qe P "_law_first" 600 (qr 330),qe P "_law_codes" 613 (qr 337),qe P "_law_case" 629 (qr 344),qe P "_law_falls" 638 (qr 351),qe P "_law_has" 646 (qr 358),qe P "_law_broken" 659 (qr 365),qe P "_law_part" 669 (qr 372),qe P "_law_sets" 680 (qr 379),qe P "_law_order" 686 (qr 384),qe P "_law_homes" 692 (qr 389),qe P "law" 698 (qr 394)] 44),#[]⟩
noncomputable def h_11 : Obj:=qT []
noncomputable def h_12 : Obj:=qN [(qi 1),(qi 0),(qr 20),(qi 5),(qi 0),(qr 27),(qi 7),(qi 0),(qr 40),(qi 12),(qi 0),(qr 59),(qi 18),(qi 0),(qr 78),(qi 20),(qi 0),(qr 85),(qi 25),(qi 0),(qr 90),(qi 28),(qi 0),(qr 95),(qi 32),(qi 0),(qr 100),(qi 35),(qi 0),(qr 107),(qi 40),(qi 0),(qr 112),(qi 45),(qi 0),(qr 119),(qi 47),(qi 0),(qr 126),(qi 51),(qi 0),(qr 133),(qi 58),(qi 0),(qr 140),(qi 63),(qi 0),(qr 145),(qi 76),(qi 0),(qr 152),(qi 181),(qi 0),(qr 303),(qi 185),(qi 0),(qr 310),(qi 192),(qi 0),(qr 317),(qi 198),(qi 0),(qr 324),(qi 205),(qi 0),(qr 329),(qi 210),(qi 0),(qr 336),(qi 222),(qi 0),(qr 343),(qi 233),(qi 0),(qr 350),(qi 238),(qi 0),(qr 357),(qi 245),(qi 0),(qr 364),(qi 255),(qi 0),(qr 371),(qi 261),(qi 0),(qr 378),(qi 267),(qi 0),(qr 383),(qi 273),(qi 0),(qr 388),(qi 291),(qi 0),(qr 393)]
noncomputable def h_13 : Obj:=qC "<module>" "<module>" 182 1 0 0 0 0 11 false 12 .none .none .none .none 185 186
noncomputable def h_14 : Obj:=⟨(qt "frame"),.none,.plain,#[(.some (qr 13)),(.some (qr 3)),(.some (qr 3)),.none,(.some (qs "__main__" 164)),.none,(.some (qr 0))]⟩
noncomputable def h_15 : Obj:=qT []
noncomputable def h_16 : Obj:=qN []
noncomputable def h_17 : Obj:=qT [(qs "k" 190)]
noncomputable def h_18 : Obj:=qT []
noncomputable def h_19 : Obj:=qg "_wall" "_wall" (top 0)
noncomputable def h_20 : Obj:=qC "_wall" "_wall" 187 1 1 0 0 3 15 true 16 .none (qr 17) (qr 18) (qr 19) 191 192
noncomputable def h_21 : Obj:=qf "_wall" "_wall" (top 0) (qs "__main__" 164) (qr 20)
noncomputable def h_22 : Obj:=qT [(qt "ValueError")]
noncomputable def h_23 : Obj:=⟨(qt "builtin_function_or_method"),.none,(.fields #[(qb "type.__prepare__"),(qt "type")]),#[]⟩
noncomputable def h_24 (P : Params) : Obj:=⟨(qt "dict"),.none,(.dict #[qe P "__module__" 203 (qs "linecaster.errors" 194),qe P "__qualname__" 205 (qs "CasterError" 204),qe P "__firstlineno__" 207 (.int (5) 206),qe P "__static_attributes__" 208 (qr 29)] 4),#[]⟩
noncomputable def h_25 : Obj:=qT []
noncomputable def h_26 : Obj:=qN []
noncomputable def h_27 : Obj:=qC "CasterError" "CasterError" 198 5 0 0 0 0 25 false 26 .none .none .none .none 201 202
noncomputable def h_28 : Obj:=⟨(qt "frame"),.none,.plain,#[(.some (qr 27)),(.some (qr 3)),(.some (qr 24)),.none,(.some (qs "linecaster.errors" 194)),.none,(.some (qr 0))]⟩
noncomputable def h_29 : Obj:=qT []
noncomputable def h_30 (P : Params) : Obj:=⟨(qt "dict"),.none,(.dict #[qe P "__module__" 203 (qs "linecaster.errors" 194),qe P "__firstlineno__" 207 (.int (5) 206),qe P "__static_attributes__" 208 (qr 29),qe P "__weakref__" 210 (qr 32),qe P "__doc__" 211 .none] 3),#[]⟩
noncomputable def h_31 : Obj:=⟨(qt "type"),.none,(.cls ⟨(.ofString "CasterError"),[(qt "ValueError")],[(qr 31),(qt "ValueError"),(qt "Exception"),(qt "BaseException"),(qt "object")],30,(.ofString "CasterError"),true,[],[(qr 51),(qr 70)],false,.none,false⟩),#[(.some (qr 22)),.none,(.some (qs "CasterError" 196)),(.some (qs "CasterError" 204)),(.some (qb "ValueError.__new__")),(.some (.bool true))]⟩
noncomputable def h_32 : Obj:=⟨(qt "getset_descriptor"),.none,(.fields #[(qs "__weakref__" 209),(qr 31),(qb "ExceptionGroup.__weakref__"),.none]),#[]⟩
noncomputable def h_33 : Obj:=⟨(qt "super"),.none,(.fields #[(qr 31),(qr 31),(qr 31)]),#[]⟩
noncomputable def h_34 : Obj:=⟨(qt "builtin_function_or_method"),.none,(.fields #[(qb "object.__init_subclass__"),(qr 31)]),#[]⟩
noncomputable def h_35 : Obj:=qT [(qr 31)]
noncomputable def h_36 : Obj:=⟨(qt "builtin_function_or_method"),.none,(.fields #[(qb "type.__prepare__"),(qt "type")]),#[]⟩
noncomputable def h_37 (P : Params) : Obj:=⟨(qt "dict"),.none,(.dict #[qe P "__module__" 221 (qs "linecaster.errors" 194),qe P "__qualname__" 223 (qs "NoCase" 222),qe P "__firstlineno__" 225 (.int (7) 224),qe P "__init__" 233 (qr 48),qe P "__static_attributes__" 235 (qr 49)] 5),#[]⟩
noncomputable def h_38 : Obj:=qT []
noncomputable def h_39 : Obj:=qN [(qi 9),(qi 4),(qr 47)]
noncomputable def h_40 : Obj:=qC "NoCase" "NoCase" 216 7 0 0 0 0 38 false 39 .none .none .none .none 219 220
noncomputable def h_41 : Obj:=⟨(qt "frame"),.none,.plain,#[(.some (qr 40)),(.some (qr 3)),(.some (qr 37)),.none,(.some (qs "linecaster.errors" 194)),.none,(.some (qr 0))]⟩
noncomputable def h_42 : Obj:=qT []
noncomputable def h_43 : Obj:=qN []
noncomputable def h_44 : Obj:=qT [(qs "self" 229),(qs "at" 230)]
noncomputable def h_45 : Obj:=qT []
noncomputable def h_46 : Obj:=qg "__init__" "NoCase.__init__" (zak (top 3) 0)
noncomputable def h_47 : Obj:=qC "__init__" "NoCase.__init__" 226 9 2 0 0 3 42 true 43 .none (qr 44) (qr 45) (qr 46) 231 232
noncomputable def h_48 : Obj:=qf "__init__" "NoCase.__init__" (zak (top 3) 0) (qs "linecaster.errors" 194) (qr 47)
noncomputable def h_49 : Obj:=qT [(qs "at" 234)]
noncomputable def h_50 (P : Params) : Obj:=⟨(qt "dict"),.none,(.dict #[qe P "__module__" 221 (qs "linecaster.errors" 194),qe P "__firstlineno__" 225 (.int (7) 224),qe P "__init__" 233 (qr 48),qe P "__static_attributes__" 235 (qr 49),qe P "__doc__" 236 .none] 2),#[]⟩
noncomputable def h_51 : Obj:=⟨(qt "type"),.none,(.cls ⟨(.ofString "NoCase"),[(qr 31)],[(qr 51),(qr 31),(qt "ValueError"),(qt "Exception"),(qt "BaseException"),(qt "object")],50,(.ofString "NoCase"),true,[],[],false,.none,false⟩),#[(.some (qr 35)),.none,(.some (qs "NoCase" 214)),(.some (qs "NoCase" 222)),(.some (qb "ValueError.__new__")),(.some (.bool true))]⟩
noncomputable def h_52 : Obj:=⟨(qt "super"),.none,(.fields #[(qr 51),(qr 51),(qr 51)]),#[]⟩
noncomputable def h_53 : Obj:=⟨(qt "builtin_function_or_method"),.none,(.fields #[(qb "object.__init_subclass__"),(qr 51)]),#[]⟩
noncomputable def h_54 : Obj:=qT [(qr 31)]
noncomputable def h_55 : Obj:=⟨(qt "builtin_function_or_method"),.none,(.fields #[(qb "type.__prepare__"),(qt "type")]),#[]⟩
noncomputable def h_56 (P : Params) : Obj:=⟨(qt "dict"),.none,(.dict #[qe P "__module__" 246 (qs "linecaster.errors" 194),qe P "__qualname__" 248 (qs "NoKeys" 247),qe P "__firstlineno__" 250 (.int (12) 249),qe P "__init__" 258 (qr 67),qe P "__static_attributes__" 260 (qr 68)] 5),#[]⟩
noncomputable def h_57 : Obj:=qT []
noncomputable def h_58 : Obj:=qN [(qi 14),(qi 4),(qr 66)]
noncomputable def h_59 : Obj:=qC "NoKeys" "NoKeys" 241 12 0 0 0 0 57 false 58 .none .none .none .none 244 245
noncomputable def h_60 : Obj:=⟨(qt "frame"),.none,.plain,#[(.some (qr 59)),(.some (qr 3)),(.some (qr 56)),.none,(.some (qs "linecaster.errors" 194)),.none,(.some (qr 0))]⟩
noncomputable def h_61 : Obj:=qT []
noncomputable def h_62 : Obj:=qN []
noncomputable def h_63 : Obj:=qT [(qs "self" 254),(qs "at" 255)]
noncomputable def h_64 : Obj:=qT []
noncomputable def h_65 : Obj:=qg "__init__" "NoKeys.__init__" (zak (top 4) 0)
noncomputable def h_66 : Obj:=qC "__init__" "NoKeys.__init__" 251 14 2 0 0 3 61 true 62 .none (qr 63) (qr 64) (qr 65) 256 257
noncomputable def h_67 : Obj:=qf "__init__" "NoKeys.__init__" (zak (top 4) 0) (qs "linecaster.errors" 194) (qr 66)
noncomputable def h_68 : Obj:=qT [(qs "at" 259)]
noncomputable def h_69 (P : Params) : Obj:=⟨(qt "dict"),.none,(.dict #[qe P "__module__" 246 (qs "linecaster.errors" 194),qe P "__firstlineno__" 250 (.int (12) 249),qe P "__init__" 258 (qr 67),qe P "__static_attributes__" 260 (qr 68),qe P "__doc__" 261 .none] 2),#[]⟩
noncomputable def h_70 : Obj:=⟨(qt "type"),.none,(.cls ⟨(.ofString "NoKeys"),[(qr 31)],[(qr 70),(qr 31),(qt "ValueError"),(qt "Exception"),(qt "BaseException"),(qt "object")],69,(.ofString "NoKeys"),true,[],[],false,.none,false⟩),#[(.some (qr 54)),.none,(.some (qs "NoKeys" 239)),(.some (qs "NoKeys" 247)),(.some (qb "ValueError.__new__")),(.some (.bool true))]⟩
noncomputable def h_71 : Obj:=⟨(qt "super"),.none,(.fields #[(qr 70),(qr 70),(qr 70)]),#[]⟩
noncomputable def h_72 : Obj:=⟨(qt "builtin_function_or_method"),.none,(.fields #[(qb "object.__init_subclass__"),(qr 70)]),#[]⟩
noncomputable def h_73 : Obj:=qT []
noncomputable def h_74 : Obj:=qN []
noncomputable def h_75 : Obj:=qT [(qs "teeth" 269),(qs "others" 270)]
noncomputable def h_76 : Obj:=qT []
noncomputable def h_77 : Obj:=qg "has_all" "has_all" (top 6)
noncomputable def h_78 : Obj:=qC "has_all" "has_all" 266 18 2 0 0 3 73 true 74 .none (qr 75) (qr 76) (qr 77) 271 272
noncomputable def h_79 : Obj:=qf "has_all" "has_all" (top 6) (qs "linecaster.bars" 264) (qr 78)
noncomputable def h_80 : Obj:=qT []
noncomputable def h_81 : Obj:=qN []
noncomputable def h_82 : Obj:=qT [(qs "codes" 277),(qs "teeth" 278),(qs "channel" 279),(qs "code" 280)]
noncomputable def h_83 : Obj:=qT []
noncomputable def h_84 : Obj:=qg "falls_at" "falls_at" (top 7)
noncomputable def h_85 : Obj:=qC "falls_at" "falls_at" 274 20 2 0 0 3 80 true 81 .none (qr 82) (qr 83) (qr 84) 281 282
noncomputable def h_86 : Obj:=qf "falls_at" "falls_at" (top 7) (qs "linecaster.bars" 264) (qr 85)
noncomputable def h_87 : Obj:=qT []
noncomputable def h_88 : Obj:=qN []
noncomputable def h_89 : Obj:=qg "number_of_teeth" "number_of_teeth" (top 8)
noncomputable def h_90 : Obj:=qC "number_of_teeth" "number_of_teeth" 284 25 1 0 0 3 87 true 88 .none .none .none (qr 89) 287 288
noncomputable def h_91 : Obj:=qf "number_of_teeth" "number_of_teeth" (top 8) (qs "linecaster.bars" 264) (qr 90)
noncomputable def h_92 : Obj:=qT []
noncomputable def h_93 : Obj:=qN []
noncomputable def h_94 : Obj:=qg "broken_sets" "broken_sets" (top 10)
noncomputable def h_95 : Obj:=qC "broken_sets" "broken_sets" 292 28 3 0 0 3 92 true 93 .none .none .none (qr 94) 295 296
noncomputable def h_96 : Obj:=qf "broken_sets" "broken_sets" (top 10) (qs "linecaster.breakage" 290) (qr 95)
noncomputable def h_97 : Obj:=qT []
noncomputable def h_98 : Obj:=qN []
noncomputable def h_99 : Obj:=qg "fewest_broken" "fewest_broken" (top 11)
noncomputable def zrv : Obj:=qC "fewest_broken" "fewest_broken" 298 32 3 0 0 3 97 true 98 .none .none .none (qr 99) 301 302
noncomputable def zsK : Obj:=qf "fewest_broken" "fewest_broken" (top 11) (qs "linecaster.breakage" 290) (qr 100)
noncomputable def zrN : Obj:=qT []
noncomputable def zuK : Obj:=qN []
noncomputable def zsE : Obj:=qT [(qs "case" 309),(qs "sign" 310),(qs "number" 311),(qs "channel" 312)]
noncomputable def zpk : Obj:=qT []
noncomputable def zvq : Obj:=qg "channel_of" "channel_of" (top 13)
noncomputable def ztl : Obj:=qC "channel_of" "channel_of" 306 35 2 0 0 3 102 true 103 .none (qr 104) (qr 105) (qr 106) 313 314
noncomputable def zti : Obj:=qf "channel_of" "channel_of" (top 13) (qs "linecaster.cases" 304) (qr 107)
noncomputable def zsx : Obj:=qT []
noncomputable def zua : Obj:=qN []
noncomputable def zvy : Obj:=qg "codes_of" "codes_of" (top 14)
noncomputable def zpv : Obj:=qC "codes_of" "codes_of" 316 40 1 0 0 3 109 true 110 .none .none .none (qr 111) 319 320
noncomputable def zqO : Obj:=qf "codes_of" "codes_of" (top 14) (qs "linecaster.cases" 304) (qr 112)
noncomputable def zqV : Obj:=qT []
noncomputable def ztM : Obj:=qN []
noncomputable def ztA : Obj:=qT [(qs "key" 331)]
noncomputable def zqz : Obj:=qT []
noncomputable def zvj : Obj:=qg "is_sign_key" "is_sign_key" (top 18)
noncomputable def ztz : Obj:=qC "is_sign_key" "is_sign_key" 328 45 1 0 0 3 114 true 115 .none (qr 116) (qr 117) (qr 118) 332 333
noncomputable def zpI : Obj:=qf "is_sign_key" "is_sign_key" (top 18) (qs "linecaster.keys" 322) (qr 119)
noncomputable def zrF : Obj:=qT []
noncomputable def zuv : Obj:=qN []
noncomputable def zrz : Obj:=qT [(qs "case" 338),(qs "keys" 339),(qs "at" 340)]
noncomputable def zoK : Obj:=qT []
noncomputable def zuU : Obj:=qg "goes_on" "goes_on" (top 19)
noncomputable def ztp : Obj:=qC "goes_on" "goes_on" 335 47 3 0 0 3 121 true 122 .none (qr 123) (qr 124) (qr 125) 341 342
noncomputable def zts : Obj:=qf "goes_on" "goes_on" (top 19) (qs "linecaster.keys" 322) (qr 126)
noncomputable def zpK : Obj:=qT []
noncomputable def ztY : Obj:=qN []
noncomputable def zsj : Obj:=qT [(qs "case" 347),(qs "keys" 348),(qs "at" 349)]
noncomputable def zqk : Obj:=qT []
noncomputable def ztP : Obj:=qg "look_at_keys" "look_at_keys" (top 20)
noncomputable def zsN : Obj:=qC "look_at_keys" "look_at_keys" 344 51 2 0 0 3 128 true 129 .none (qr 130) (qr 131) (qr 132) 350 351
noncomputable def zrZ : Obj:=qf "look_at_keys" "look_at_keys" (top 20) (qs "linecaster.keys" 322) (qr 133)
noncomputable def zso : Obj:=qT []
noncomputable def zvU : Obj:=qN []
noncomputable def zrV : Obj:=qT [(qs "case" 358),(qs "ahead" 359),(qs "channel" 360),(qs "teeth" 361),(qs "sign" 362),(qs "width" 363),(qs "own" 364),(qs "many" 365)]
noncomputable def zrt : Obj:=qT []
noncomputable def zuZ : Obj:=qg "can_break" "can_break" (top 22)
noncomputable def zpz : Obj:=qC "can_break" "can_break" 355 58 4 0 0 3 135 true 136 .none (qr 137) (qr 138) (qr 139) 366 367
noncomputable def zpN : Obj:=qf "can_break" "can_break" (top 22) (qs "linecaster.matrices" 353) (qr 140)
noncomputable def ztd : Obj:=qT []
noncomputable def zuH : Obj:=qN []
noncomputable def zuo : Obj:=qg "channels_of" "channels_of" (top 23)
noncomputable def zoJ : Obj:=qC "channels_of" "channels_of" 369 63 2 0 0 3 142 true 143 .none .none .none (qr 144) 372 373
noncomputable def zrb : Obj:=qf "channels_of" "channels_of" (top 23) (qs "linecaster.matrices" 353) (qr 145)
noncomputable def zvr : Obj:=qT []
noncomputable def zvu : Obj:=⟨(qt "builtin_function_or_method"),.none,(.fields #[(qb "type.__prepare__"),(qt "type")]),#[]⟩
noncomputable def zvl (P : Params) : Obj:=⟨(qt "dict"),.none,(.dict #[qe P "__module__" 386 (qs "linecaster.machine" 375),qe P "__qualname__" 388 (qs "Machine" 387),qe P "__firstlineno__" 390 (.int (76) 389),qe P "__init__" 401 (qr 161),qe P "next_key" 408 (qr 168),qe P "lacks_matrix" 416 (qr 175),qe P "stuck" 423 (qr 182),qe P "resting" 430 (qr 189),qe P "move_bar" 438 (qr 196),qe P "move_caster" 444 (qr 201),qe P "move_line" 452 (qr 208),qe P "send_line" 459 (qr 215),qe P "take" 467 (qr 222),qe P "tick" 474 (qr 229),qe P "run" 482 (qr 236),qe P "ticks" 489 (qr 243),qe P "slugs" 496 (qr 250),qe P "waited" 503 (qr 257),qe P "channels" 509 (qr 262),qe P "numbers_lying" 516 (qr 269),qe P "gathered" 523 (qr 276),qe P "in_caster" 530 (qr 283),qe P "bar" 537 (qr 290),qe P "__static_attributes__" 550 (qr 291)] 24),#[]⟩
noncomputable def ztQ : Obj:=qT []
noncomputable def zuW : Obj:=qN [(qi 78),(qi 4),(qr 160),(qi 93),(qi 4),(qr 167),(qi 96),(qi 4),(qr 174),(qi 100),(qi 4),(qr 181),(qi 103),(qi 4),(qr 188),(qi 106),(qi 4),(qr 195),(qi 111),(qi 4),(qr 200),(qi 120),(qi 4),(qr 207),(qi 131),(qi 4),(qr 214),(qi 138),(qi 4),(qr 221),(qi 142),(qi 4),(qr 228),(qi 151),(qi 4),(qr 235),(qi 157),(qi 4),(qr 242),(qi 160),(qi 4),(qr 249),(qi 163),(qi 4),(qr 256),(qi 166),(qi 4),(qr 261),(qi 169),(qi 4),(qr 268),(qi 172),(qi 4),(qr 275),(qi 175),(qi 4),(qr 282),(qi 178),(qi 4),(qr 289)]
noncomputable def zvL : Obj:=qC "Machine" "Machine" 381 76 0 0 0 0 150 false 151 .none .none .none .none 384 385
noncomputable def zvJ : Obj:=⟨(qt "frame"),.none,.plain,#[(.some (qr 152)),(.some (qr 3)),(.some (qr 149)),.none,(.some (qs "linecaster.machine" 375)),.none,(.some (qr 0))]⟩
noncomputable def zrS : Obj:=qT [.none]
noncomputable def zsM : Obj:=qT []
noncomputable def ztT : Obj:=qN []
noncomputable def zqn : Obj:=qT [(qs "self" 394),(qs "case" 395),(qs "keys" 396),(qs "casting" 397),(qs "broken" 398)]
noncomputable def zoL : Obj:=qT []
noncomputable def ztX : Obj:=qg "__init__" "Machine.__init__" (zak (top 26) 0)
noncomputable def zrK : Obj:=qC "__init__" "Machine.__init__" 391 78 5 0 0 3 155 true 156 .none (qr 157) (qr 158) (qr 159) 399 400
noncomputable def zsk : Obj:=⟨(qt "function"),.none,(qF "__init__" "Machine.__init__" (zak (top 26) 0) (qr 154) .none .none (qs "linecaster.machine" 375) .none (qr 160) .none),#[]⟩
noncomputable def zpf : Obj:=qT []
noncomputable def ztU : Obj:=qN []
noncomputable def zst : Obj:=qT [(qs "self" 405)]
noncomputable def zpH : Obj:=qT []
noncomputable def ztV : Obj:=qg "next_key" "Machine.next_key" (zak (top 26) 1)
noncomputable def zra : Obj:=qC "next_key" "Machine.next_key" 402 93 1 0 0 3 162 true 163 .none (qr 164) (qr 165) (qr 166) 406 407
noncomputable def zru : Obj:=qf "next_key" "Machine.next_key" (zak (top 26) 1) (qs "linecaster.machine" 375) (qr 167)
noncomputable def zpn : Obj:=qT []
noncomputable def zum : Obj:=qN []
noncomputable def zsZ : Obj:=qT [(qs "self" 412),(qs "channel" 413)]
noncomputable def zqg : Obj:=qT []
noncomputable def zue : Obj:=qg "lacks_matrix" "Machine.lacks_matrix" (zak (top 26) 2)
noncomputable def zqR : Obj:=qC "lacks_matrix" "Machine.lacks_matrix" 409 96 1 0 0 3 169 true 170 .none (qr 171) (qr 172) (qr 173) 414 415
noncomputable def zqY : Obj:=qf "lacks_matrix" "Machine.lacks_matrix" (zak (top 26) 2) (qs "linecaster.machine" 375) (qr 174)
noncomputable def zrk : Obj:=qT []
noncomputable def zvz : Obj:=qN []
noncomputable def zsv : Obj:=qT [(qs "self" 420)]
noncomputable def zsr : Obj:=qT []
noncomputable def zvA : Obj:=qg "stuck" "Machine.stuck" (zak (top 26) 3)
noncomputable def zpm : Obj:=qC "stuck" "Machine.stuck" 417 100 1 0 0 3 176 true 177 .none (qr 178) (qr 179) (qr 180) 421 422
noncomputable def zqe : Obj:=qf "stuck" "Machine.stuck" (zak (top 26) 3) (qs "linecaster.machine" 375) (qr 181)
noncomputable def zql : Obj:=qT []
noncomputable def zuq : Obj:=qN []
noncomputable def zsa : Obj:=qT [(qs "self" 427)]
noncomputable def zsB : Obj:=qT []
noncomputable def zuB : Obj:=qg "resting" "Machine.resting" (zak (top 26) 4)
noncomputable def zsO : Obj:=qC "resting" "Machine.resting" 424 103 1 0 0 3 183 true 184 .none (qr 185) (qr 186) (qr 187) 428 429
noncomputable def zsP : Obj:=qf "resting" "Machine.resting" (zak (top 26) 4) (qs "linecaster.machine" 375) (qr 188)
noncomputable def zrr : Obj:=qT []
noncomputable def zuh : Obj:=qN []
noncomputable def zpw : Obj:=qT [(qs "self" 434),(qs "matrix" 435)]
noncomputable def zsA : Obj:=qT []
noncomputable def zuc : Obj:=qg "move_bar" "Machine.move_bar" (zak (top 26) 5)
noncomputable def zrs : Obj:=qC "move_bar" "Machine.move_bar" 431 106 1 0 0 3 190 true 191 .none (qr 192) (qr 193) (qr 194) 436 437
noncomputable def zty : Obj:=qf "move_bar" "Machine.move_bar" (zak (top 26) 5) (qs "linecaster.machine" 375) (qr 195)
noncomputable def zsC : Obj:=qT []
noncomputable def zve : Obj:=qN []
noncomputable def zvO : Obj:=qg "move_caster" "Machine.move_caster" (zak (top 26) 6)
noncomputable def zri : Obj:=qC "move_caster" "Machine.move_caster" 439 111 1 0 0 3 197 true 198 .none .none .none (qr 199) 442 443
noncomputable def zpE : Obj:=qf "move_caster" "Machine.move_caster" (zak (top 26) 6) (qs "linecaster.machine" 375) (qr 200)
noncomputable def zsh : Obj:=qT []
noncomputable def zuP : Obj:=qN []
noncomputable def ztr : Obj:=qT [(qs "self" 448),(qs "key" 449)]
noncomputable def zoM : Obj:=qT []
noncomputable def zvV : Obj:=qg "move_line" "Machine.move_line" (zak (top 26) 7)
noncomputable def zrU : Obj:=qC "move_line" "Machine.move_line" 445 120 1 0 0 3 202 true 203 .none (qr 204) (qr 205) (qr 206) 450 451
noncomputable def zqv : Obj:=qf "move_line" "Machine.move_line" (zak (top 26) 7) (qs "linecaster.machine" 375) (qr 207)
noncomputable def zoQ : Obj:=qT []
noncomputable def zvE : Obj:=qN []
noncomputable def zsp : Obj:=qT [(qs "self" 456)]
noncomputable def zqP : Obj:=qT []
noncomputable def zvD : Obj:=qg "send_line" "Machine.send_line" (zak (top 26) 8)
noncomputable def zpO : Obj:=qC "send_line" "Machine.send_line" 453 131 1 0 0 3 209 true 210 .none (qr 211) (qr 212) (qr 213) 457 458
noncomputable def zqD : Obj:=qf "send_line" "Machine.send_line" (zak (top 26) 8) (qs "linecaster.machine" 375) (qr 214)
noncomputable def zsI : Obj:=qT []
noncomputable def zuO : Obj:=qN []
noncomputable def zoP : Obj:=qT [(qs "self" 463),(qs "part" 464)]
noncomputable def ztG : Obj:=qT []
noncomputable def ztI : Obj:=qg "take" "Machine.take" (zak (top 26) 9)
noncomputable def zpi : Obj:=qC "take" "Machine.take" 460 138 2 0 0 3 216 true 217 .none (qr 218) (qr 219) (qr 220) 465 466
noncomputable def zry : Obj:=qf "take" "Machine.take" (zak (top 26) 9) (qs "linecaster.machine" 375) (qr 221)
noncomputable def zpB : Obj:=qT []
noncomputable def zur : Obj:=qN []
noncomputable def ztw : Obj:=qT [(qs "self" 471)]
noncomputable def zrg : Obj:=qT []
noncomputable def zvd : Obj:=qg "tick" "Machine.tick" (zak (top 26) 10)
noncomputable def zrx : Obj:=qC "tick" "Machine.tick" 468 142 1 0 0 3 223 true 224 .none (qr 225) (qr 226) (qr 227) 472 473
noncomputable def zrn : Obj:=qf "tick" "Machine.tick" (zak (top 26) 10) (qs "linecaster.machine" 375) (qr 228)
noncomputable def zpq : Obj:=qT []
noncomputable def zup : Obj:=qN []
noncomputable def zsH : Obj:=qT [(qs "self" 478),(qs "ahead" 479)]
noncomputable def zsn : Obj:=qT []
noncomputable def zvw : Obj:=qg "run" "Machine.run" (zak (top 26) 11)
noncomputable def zsi : Obj:=qC "run" "Machine.run" 475 151 1 0 0 3 230 true 231 .none (qr 232) (qr 233) (qr 234) 480 481
noncomputable def zsc : Obj:=qf "run" "Machine.run" (zak (top 26) 11) (qs "linecaster.machine" 375) (qr 235)
noncomputable def ztg : Obj:=qT []
noncomputable def zvQ : Obj:=qN []
noncomputable def zsQ : Obj:=qT [(qs "self" 486)]
noncomputable def zrQ : Obj:=qT []
noncomputable def zvH : Obj:=qg "ticks" "Machine.ticks" (zak (top 26) 12)
noncomputable def zss : Obj:=qC "ticks" "Machine.ticks" 483 157 1 0 0 3 237 true 238 .none (qr 239) (qr 240) (qr 241) 487 488
noncomputable def zrj : Obj:=qf "ticks" "Machine.ticks" (zak (top 26) 12) (qs "linecaster.machine" 375) (qr 242)
noncomputable def zoO : Obj:=qT []
noncomputable def zuC : Obj:=qN []
noncomputable def zrA : Obj:=qT [(qs "self" 493)]
noncomputable def zsz : Obj:=qT []
noncomputable def zvK : Obj:=qg "slugs" "Machine.slugs" (zak (top 26) 13)
noncomputable def ztt : Obj:=qC "slugs" "Machine.slugs" 490 160 1 0 0 3 244 true 245 .none (qr 246) (qr 247) (qr 248) 494 495
noncomputable def zpQ : Obj:=qf "slugs" "Machine.slugs" (zak (top 26) 13) (qs "linecaster.machine" 375) (qr 249)
noncomputable def zpG : Obj:=qT []
noncomputable def zus : Obj:=qN []
noncomputable def zps : Obj:=qT [(qs "self" 500)]
noncomputable def zta : Obj:=qT []
noncomputable def zuT : Obj:=qg "waited" "Machine.waited" (zak (top 26) 14)
noncomputable def zsR : Obj:=qC "waited" "Machine.waited" 497 163 1 0 0 3 251 true 252 .none (qr 253) (qr 254) (qr 255) 501 502
noncomputable def zsJ : Obj:=qf "waited" "Machine.waited" (zak (top 26) 14) (qs "linecaster.machine" 375) (qr 256)
noncomputable def zqb : Obj:=qT []
noncomputable def zuF : Obj:=qN []
noncomputable def zuw : Obj:=qg "channels" "Machine.channels" (zak (top 26) 15)
noncomputable def zsX : Obj:=qC "channels" "Machine.channels" 504 166 1 0 0 3 258 true 259 .none .none .none (qr 260) 507 508
noncomputable def zpo : Obj:=qf "channels" "Machine.channels" (zak (top 26) 15) (qs "linecaster.machine" 375) (qr 261)
noncomputable def zpe : Obj:=qT []
noncomputable def ztJ : Obj:=qN []
noncomputable def zrq : Obj:=qT [(qs "self" 513)]
noncomputable def zqr : Obj:=qT []
noncomputable def zvF : Obj:=qg "numbers_lying" "Machine.numbers_lying" (zak (top 26) 16)
noncomputable def zsm : Obj:=qC "numbers_lying" "Machine.numbers_lying" 510 169 1 0 0 3 263 true 264 .none (qr 265) (qr 266) (qr 267) 514 515
noncomputable def zoS : Obj:=qf "numbers_lying" "Machine.numbers_lying" (zak (top 26) 16) (qs "linecaster.machine" 375) (qr 268)
noncomputable def zqH : Obj:=qT []
noncomputable def zvR : Obj:=qN []
noncomputable def zrd : Obj:=qT [(qs "self" 520)]
noncomputable def zpC : Obj:=qT []
noncomputable def zuJ : Obj:=qg "gathered" "Machine.gathered" (zak (top 26) 17)
noncomputable def zqq : Obj:=qC "gathered" "Machine.gathered" 517 172 1 0 0 3 270 true 271 .none (qr 272) (qr 273) (qr 274) 521 522
noncomputable def zpV : Obj:=qf "gathered" "Machine.gathered" (zak (top 26) 17) (qs "linecaster.machine" 375) (qr 275)
noncomputable def ztB : Obj:=qT []
noncomputable def zvS : Obj:=qN []
noncomputable def zpA : Obj:=qT [(qs "self" 527)]
noncomputable def zqh : Obj:=qT []
noncomputable def zvG : Obj:=qg "in_caster" "Machine.in_caster" (zak (top 26) 18)
noncomputable def zpY : Obj:=qC "in_caster" "Machine.in_caster" 524 175 1 0 0 3 277 true 278 .none (qr 279) (qr 280) (qr 281) 528 529
noncomputable def zqj : Obj:=qf "in_caster" "Machine.in_caster" (zak (top 26) 18) (qs "linecaster.machine" 375) (qr 282)
noncomputable def zoW : Obj:=qT []
noncomputable def zuf : Obj:=qN []
noncomputable def zoN : Obj:=qT [(qs "self" 534)]
noncomputable def ztj : Obj:=qT []
noncomputable def zul : Obj:=qg "bar" "Machine.bar" (zak (top 26) 19)
noncomputable def zsq : Obj:=qC "bar" "Machine.bar" 531 178 1 0 0 3 284 true 285 .none (qr 286) (qr 287) (qr 288) 535 536
noncomputable def zrG : Obj:=qf "bar" "Machine.bar" (zak (top 26) 19) (qs "linecaster.machine" 375) (qr 289)
noncomputable def zpb : Obj:=qT [(qs "case" 538),(qs "casting" 539),(qs "done" 540),(qs "hanging" 541),(qs "heated" 542),(qs "line" 543),(qs "lying" 544),(qs "played" 545),(qs "struck" 546),(qs "texts" 547),(qs "to_go" 548),(qs "waits" 549)]
noncomputable def zsy (P : Params) : Obj:=⟨(qt "dict"),.none,(.dict #[qe P "__module__" 386 (qs "linecaster.machine" 375),qe P "__firstlineno__" 390 (.int (76) 389),qe P "__init__" 401 (qr 161),qe P "next_key" 408 (qr 168),qe P "lacks_matrix" 416 (qr 175),qe P "stuck" 423 (qr 182),qe P "resting" 430 (qr 189),qe P "move_bar" 438 (qr 196),qe P "move_caster" 444 (qr 201),qe P "move_line" 452 (qr 208),qe P "send_line" 459 (qr 215),qe P "take" 467 (qr 222),qe P "tick" 474 (qr 229),qe P "run" 482 (qr 236),qe P "ticks" 489 (qr 243),qe P "slugs" 496 (qr 250),qe P "waited" 503 (qr 257),qe P "channels" 509 (qr 262),qe P "numbers_lying" 516 (qr 269),qe P "gathered" 523 (qr 276),qe P "in_caster" 530 (qr 283),qe P "bar" 537 (qr 290),qe P "__static_attributes__" 550 (qr 291),qe P "__dict__" 552 (qr 294),qe P "__weakref__" 554 (qr 295),qe P "__doc__" 555 .none] 4),#[]⟩
noncomputable def zoY : Obj:=⟨(qt "type"),.none,(.cls ⟨(.ofString "Machine"),[(qt "object")],[(qr 293),(qt "object")],292,(.ofString "Machine"),true,[],[],false,.none,false⟩),#[.none,.none,(.some (qs "Machine" 379)),(.some (qs "Machine" 387)),(.some (qb "object.__new__")),(.some (.bool true))]⟩
noncomputable def zsU : Obj:=⟨(qt "getset_descriptor"),.none,(.fields #[(qs "__dict__" 551),(qr 293),(qb "function.__dict__"),(qb "function.__dict__#set")]),#[]⟩
noncomputable def zpd : Obj:=⟨(qt "getset_descriptor"),.none,(.fields #[(qs "__weakref__" 553),(qr 293),(qb "ExceptionGroup.__weakref__"),.none]),#[]⟩
noncomputable def zvM : Obj:=⟨(qt "super"),.none,(.fields #[(qr 293),(qr 293),(qr 293)]),#[]⟩
noncomputable def zvm : Obj:=⟨(qt "builtin_function_or_method"),.none,(.fields #[(qb "object.__init_subclass__"),(qr 293)]),#[]⟩
noncomputable def zpr : Obj:=qT []
noncomputable def zvp : Obj:=qN []
noncomputable def ztk : Obj:=qT [(qs "_law_script" 563),(qs "_law_k" 564)]
noncomputable def zqS : Obj:=qT []
noncomputable def zuL : Obj:=qg "_law_cell" "_law_cell" (top 28)
noncomputable def ztE : Obj:=qC "_law_cell" "_law_cell" 560 181 2 0 0 3 298 true 299 .none (qr 300) (qr 301) (qr 302) 565 566
noncomputable def zrL : Obj:=qf "_law_cell" "_law_cell" (top 28) (qs "law_linecaster_k73_whole_broken_teeth_found" 558) (qr 303)
noncomputable def zsu : Obj:=qT []
noncomputable def zvf : Obj:=qN []
noncomputable def zoH : Obj:=qT [(qs "_law_cell_here" 571),(qs "_law_many" 572),(qs "_law_number" 573),(qs "_law_found" 574),(qs "_law_k" 575)]
noncomputable def zqC : Obj:=qT []
noncomputable def ztL : Obj:=qg "_law_stream" "_law_stream" (top 29)
noncomputable def zrM : Obj:=qC "_law_stream" "_law_stream" 568 185 2 0 0 3 305 true 306 .none (qr 307) (qr 308) (qr 309) 576 577
noncomputable def zpR : Obj:=qf "_law_stream" "_law_stream" (top 29) (qs "law_linecaster_k73_whole_broken_teeth_found" 558) (qr 310)
noncomputable def zro : Obj:=qT []
noncomputable def zug : Obj:=qN []
noncomputable def zqT : Obj:=qT [(qs "_law_number" 582),(qs "_law_many" 583)]
noncomputable def zqQ : Obj:=qT []
noncomputable def ztZ : Obj:=qg "_law_bits" "_law_bits" (top 30)
noncomputable def zsb : Obj:=qC "_law_bits" "_law_bits" 579 192 1 0 0 3 312 true 313 .none (qr 314) (qr 315) (qr 316) 584 585
noncomputable def zpS : Obj:=qf "_law_bits" "_law_bits" (top 30) (qs "law_linecaster_k73_whole_broken_teeth_found" 558) (qr 317)
noncomputable def zpX : Obj:=qT []
noncomputable def zuM : Obj:=qN []
noncomputable def zsw : Obj:=qT [(qs "_law_code" 590),(qs "_law_other" 591)]
noncomputable def zqf : Obj:=qT []
noncomputable def zuR : Obj:=qg "_law_over" "_law_over" (top 31)
noncomputable def zpP : Obj:=qC "_law_over" "_law_over" 587 198 2 0 0 3 319 true 320 .none (qr 321) (qr 322) (qr 323) 592 593
noncomputable def ztn : Obj:=qf "_law_over" "_law_over" (top 31) (qs "law_linecaster_k73_whole_broken_teeth_found" 558) (qr 324)
noncomputable def zph : Obj:=qT []
noncomputable def zvn : Obj:=qN []
noncomputable def ztN : Obj:=qg "_law_first" "_law_first" (top 32)
noncomputable def zrw : Obj:=qC "_law_first" "_law_first" 595 205 1 0 0 3 326 true 327 .none .none .none (qr 328) 598 599
noncomputable def zpL : Obj:=qf "_law_first" "_law_first" (top 32) (qs "law_linecaster_k73_whole_broken_teeth_found" 558) (qr 329)
noncomputable def zsl : Obj:=qT []
noncomputable def zuz : Obj:=qN []
noncomputable def ztu : Obj:=qT [(qs "_law_cell_here" 604),(qs "_law_many" 605),(qs "_law_left" 606),(qs "_law_number" 607),(qs "_law_code" 608),(qs "_law_codes_here" 609),(qs "_law_k" 610)]
noncomputable def ztD : Obj:=qT []
noncomputable def zvh : Obj:=qg "_law_codes" "_law_codes" (top 33)
noncomputable def zsS : Obj:=qC "_law_codes" "_law_codes" 601 210 2 0 0 3 331 true 332 .none (qr 333) (qr 334) (qr 335) 611 612
noncomputable def ztb : Obj:=qf "_law_codes" "_law_codes" (top 33) (qs "law_linecaster_k73_whole_broken_teeth_found" 558) (qr 336)
noncomputable def zqa : Obj:=qT []
noncomputable def ztS : Obj:=qN []
noncomputable def zsW : Obj:=qT [(qs "_law_script" 617),(qs "_law_most" 618),(qs "_law_signs" 619),(qs "_law_first_here" 620),(qs "_law_many" 621),(qs "_law_codes_here" 622),(qs "_law_some" 623),(qs "_law_case_here" 624),(qs "_law_k" 625),(qs "_law_sign" 626)]
noncomputable def zpF : Obj:=qT []
noncomputable def zuI : Obj:=qg "_law_case" "_law_case" (top 34)
noncomputable def ztc : Obj:=qC "_law_case" "_law_case" 614 222 2 0 0 3 338 true 339 .none (qr 340) (qr 341) (qr 342) 627 628
noncomputable def zpl : Obj:=qf "_law_case" "_law_case" (top 34) (qs "law_linecaster_k73_whole_broken_teeth_found" 558) (qr 343)
noncomputable def zqA : Obj:=qT []
noncomputable def zvB : Obj:=qN []
noncomputable def zqG : Obj:=qT [(qs "_law_codes_here" 633),(qs "_law_teeth" 634),(qs "_law_k" 635)]
noncomputable def ztH : Obj:=qT []
noncomputable def zvs : Obj:=qg "_law_falls" "_law_falls" (top 35)
noncomputable def zoV : Obj:=qC "_law_falls" "_law_falls" 630 233 2 0 0 3 345 true 346 .none (qr 347) (qr 348) (qr 349) 636 637
noncomputable def zrT : Obj:=qf "_law_falls" "_law_falls" (top 35) (qs "law_linecaster_k73_whole_broken_teeth_found" 558) (qr 350)
noncomputable def zqX : Obj:=qT []
noncomputable def zui : Obj:=qN []
noncomputable def zqs : Obj:=qT [(qs "_law_code" 642),(qs "_law_teeth" 643)]
noncomputable def zrY : Obj:=qT []
noncomputable def zvt : Obj:=qg "_law_has" "_law_has" (top 36)
noncomputable def zrf : Obj:=qC "_law_has" "_law_has" 639 238 2 0 0 3 352 true 353 .none (qr 354) (qr 355) (qr 356) 644 645
noncomputable def zqd : Obj:=qf "_law_has" "_law_has" (top 36) (qs "law_linecaster_k73_whole_broken_teeth_found" 558) (qr 357)
noncomputable def zqu : Obj:=qT []
noncomputable def zvx : Obj:=qN []
noncomputable def zqp : Obj:=qT [(qs "_law_case_here" 650),(qs "_law_script" 651),(qs "_law_found" 652),(qs "_law_counts" 653),(qs "_law_cell_here" 654),(qs "_law_k" 655),(qs "_law_left" 656)]
noncomputable def zsL : Obj:=qT []
noncomputable def zud : Obj:=qg "_law_broken" "_law_broken" (top 37)
noncomputable def zsY : Obj:=qC "_law_broken" "_law_broken" 647 245 2 0 0 3 359 true 360 .none (qr 361) (qr 362) (qr 363) 657 658
noncomputable def ztC : Obj:=qf "_law_broken" "_law_broken" (top 37) (qs "law_linecaster_k73_whole_broken_teeth_found" 558) (qr 364)
noncomputable def zqo : Obj:=qT []
noncomputable def zuE : Obj:=qN []
noncomputable def zsF : Obj:=qT [(qs "_law_teeth" 663),(qs "_law_number" 664),(qs "_law_part_here" 665),(qs "_law_tooth" 666)]
noncomputable def zsG : Obj:=qT []
noncomputable def zvi : Obj:=qg "_law_part" "_law_part" (top 38)
noncomputable def ztF : Obj:=qC "_law_part" "_law_part" 660 255 2 0 0 3 366 true 367 .none (qr 368) (qr 369) (qr 370) 667 668
noncomputable def zqM : Obj:=qf "_law_part" "_law_part" (top 38) (qs "law_linecaster_k73_whole_broken_teeth_found" 558) (qr 371)
noncomputable def zpM : Obj:=qT []
noncomputable def zut : Obj:=qN []
noncomputable def zrp : Obj:=qT [(qs "_law_codes_here" 673),(qs "_law_channel" 674),(qs "_law_where" 675),(qs "_law_found" 676),(qs "_law_broken_here" 677)]
noncomputable def zoR : Obj:=qT []
noncomputable def zvb : Obj:=qg "_law_sets" "_law_sets" (top 39)
noncomputable def zoZ : Obj:=qC "_law_sets" "_law_sets" 670 261 3 0 0 3 373 true 374 .none (qr 375) (qr 376) (qr 377) 678 679
noncomputable def zrI : Obj:=qf "_law_sets" "_law_sets" (top 39) (qs "law_linecaster_k73_whole_broken_teeth_found" 558) (qr 378)
noncomputable def zto : Obj:=qT []
noncomputable def zuy : Obj:=qN []
noncomputable def zuN : Obj:=qg "_law_order" "_law_order" (top 40)
noncomputable def zte : Obj:=qC "_law_order" "_law_order" 681 267 2 0 0 3 380 true 381 .none .none .none (qr 382) 684 685
noncomputable def zrD : Obj:=qf "_law_order" "_law_order" (top 40) (qs "law_linecaster_k73_whole_broken_teeth_found" 558) (qr 383)
noncomputable def zqJ : Obj:=qT []
noncomputable def zva : Obj:=qN []
noncomputable def zub : Obj:=qg "_law_homes" "_law_homes" (top 41)
noncomputable def zrX : Obj:=qC "_law_homes" "_law_homes" 687 273 4 0 0 3 385 true 386 .none .none .none (qr 387) 690 691
noncomputable def ztv : Obj:=qf "_law_homes" "_law_homes" (top 41) (qs "law_linecaster_k73_whole_broken_teeth_found" 558) (qr 388)
noncomputable def zrC : Obj:=qT []
noncomputable def zuS : Obj:=qN []
noncomputable def zvo : Obj:=qg "law" "law" (top 42)
noncomputable def zrP : Obj:=qC "law" "law" 693 291 1 0 0 3 390 true 391 .none .none .none (qr 392) 696 697
noncomputable def zrm : Obj:=qf "law" "law" (top 42) (qs "law_linecaster_k73_whole_broken_teeth_found" 558) (qr 393)
noncomputable def a_11 (P : Params) : Obj:=h_11
noncomputable def a_12 (P : Params) : Obj:=qN []
noncomputable def a_13 (P : Params) : Obj:=h_13
noncomputable def a_14 (P : Params) : Obj:=h_14
noncomputable def hO (P : Params) : List Obj:=[boot_o_0 P,boot_o_1 P,boot_o_2 P,h_3 P,boot_o_4 P,boot_o_5 P,boot_o_6 P,boot_o_7 P,boot_o_8 P,boot_o_9 P,boot_o_10 P,h_11,h_12,h_13,h_14,h_15,h_16,h_17,h_18,h_19,h_20,h_21,h_22,h_23,h_24 P,h_25,h_26,h_27,h_28,h_29,h_30 P,h_31,h_32,h_33,h_34,h_35,h_36,h_37 P,h_38,h_39,h_40,h_41,h_42,h_43,h_44,h_45,h_46,h_47,h_48,h_49,h_50 P,h_51,h_52,h_53,h_54,h_55,h_56 P,h_57,h_58,h_59,h_60,h_61,h_62,h_63,h_64,h_65,h_66,h_67,h_68,h_69 P,h_70,h_71,h_72,h_73,h_74,h_75,h_76,h_77,h_78,h_79,h_80,h_81,h_82,h_83,h_84,h_85,h_86,h_87,h_88,h_89,h_90,h_91,h_92,h_93,h_94,h_95,h_96,h_97,h_98,h_99,zrv,zsK,zrN,zuK,zsE,zpk,zvq,ztl,zti,zsx,zua,zvy,zpv,zqO,zqV,ztM,ztA,zqz,zvj,ztz,zpI,zrF,zuv,zrz,zoK,zuU,ztp,zts,zpK,ztY,zsj,zqk,ztP,zsN,zrZ,zso,zvU,zrV,zrt,zuZ,zpz,zpN,ztd,zuH,zuo,zoJ,zrb,zvr,zvu,zvl P,ztQ,zuW,zvL,zvJ,zrS,zsM,ztT,zqn,zoL,ztX,zrK,zsk,zpf,ztU,zst,zpH,ztV,zra,zru,zpn,zum,zsZ,zqg,zue,zqR,zqY,zrk,zvz,zsv,zsr,zvA,zpm,zqe,zql,zuq,zsa,zsB,zuB,zsO,zsP,zrr,zuh,zpw,zsA,zuc,zrs,zty,zsC,zve,zvO,zri,zpE,zsh,zuP,ztr,zoM,zvV,zrU,zqv,zoQ,zvE,zsp,zqP,zvD,zpO,zqD,zsI,zuO,zoP,ztG,ztI,zpi,zry,zpB,zur,ztw,zrg,zvd,zrx,zrn,zpq,zup,zsH,zsn,zvw,zsi,zsc,ztg,zvQ,zsQ,zrQ,zvH,zss,zrj,zoO,zuC,zrA,zsz,zvK,ztt,zpQ,zpG,zus,zps,zta,zuT,zsR,zsJ,zqb,zuF,zuw,zsX,zpo,zpe,ztJ,zrq,zqr,zvF,zsm,zoS,zqH,zvR,zrd,zpC,zuJ,zqq,zpV,ztB,zvS,zpA,zqh,zvG,zpY,zqj,zoW,zuf,zoN,ztj,zul,zsq,zrG,zpb,zsy P,zoY,zsU,zpd,zvM,zvm,zpr,zvp,ztk,zqS,zuL,ztE,zrL,zsu,zvf,zoH,zqC,ztL,zrM,zpR,zro,zug,zqT,zqQ,ztZ,zsb,zpS,zpX,zuM,zsw,zqf,zuR,zpP,ztn,zph,zvn,ztN,zrw,zpL,zsl,zuz,ztu,ztD,zvh,zsS,ztb,zqa,ztS,zsW,zpF,zuI,ztc,zpl,zqA,zvB,zqG,ztH,zvs,zoV,zrT,zqX,zui,zqs,zrY,zvt,zrf,zqd,zqu,zvx,zqp,zsL,zud,zsY,ztC,zqo,zuE,zsF,zsG,zvi,ztF,zqM,zpM,zut,zrp,zoR,zvb,zoZ,zrI,zto,zuy,zuN,zte,zrD,zqJ,zva,zub,zrX,ztv,zrC,zuS,zvo,zrP,zrm]
noncomputable def hA (P : Params) : List Obj:=[boot_o_0 P,boot_o_1 P,boot_o_2 P,boot_o_3 P,boot_o_4 P,boot_o_5 P,boot_o_6 P,boot_o_7 P,boot_o_8 P,boot_o_9 P,boot_o_10 P,a_11 P,a_12 P,a_13 P,a_14 P]
noncomputable def hK (P : Params) : Frag:=(nat_lit 2,boot_o_2 P) :: (nat_lit 3,h_3 P) :: (nat_lit 15,h_15) :: (nat_lit 17,h_17) :: (nat_lit 18,h_18) :: (nat_lit 20,h_20) :: (nat_lit 21,h_21) :: (nat_lit 22,h_22) :: (nat_lit 29,h_29) :: (nat_lit 30,h_30 P) :: (nat_lit 31,h_31) :: (nat_lit 32,h_32) :: (nat_lit 35,h_35) :: (nat_lit 42,h_42) :: (nat_lit 44,h_44) :: (nat_lit 45,h_45) :: (nat_lit 47,h_47) :: (nat_lit 48,h_48) :: (nat_lit 49,h_49) :: (nat_lit 50,h_50 P) :: (nat_lit 51,h_51) :: (nat_lit 54,h_54) :: (nat_lit 61,h_61) :: (nat_lit 63,h_63) :: (nat_lit 64,h_64) :: (nat_lit 66,h_66) :: (nat_lit 67,h_67) :: (nat_lit 68,h_68) :: (nat_lit 69,h_69 P) :: (nat_lit 70,h_70) :: (nat_lit 73,h_73) :: (nat_lit 75,h_75) :: (nat_lit 76,h_76) :: (nat_lit 78,h_78) :: (nat_lit 79,h_79) :: (nat_lit 80,h_80) :: (nat_lit 82,h_82) :: (nat_lit 83,h_83) :: (nat_lit 85,h_85) :: (nat_lit 86,h_86) :: (nat_lit 87,h_87) :: (nat_lit 90,h_90) :: (nat_lit 91,h_91) :: (nat_lit 92,h_92) :: (nat_lit 95,h_95) :: (nat_lit 96,h_96) :: (nat_lit 97,h_97) :: (nat_lit 100,zrv) :: (nat_lit 101,zsK) :: (nat_lit 102,zrN) :: (nat_lit 104,zsE) :: (nat_lit 105,zpk) :: (nat_lit 107,ztl) :: (nat_lit 108,zti) :: (nat_lit 109,zsx) :: (nat_lit 112,zpv) :: (nat_lit 113,zqO) :: (nat_lit 114,zqV) :: (nat_lit 116,ztA) :: (nat_lit 117,zqz) :: (nat_lit 119,ztz) :: (nat_lit 120,zpI) :: (nat_lit 121,zrF) :: (nat_lit 123,zrz) :: (nat_lit 124,zoK) :: (nat_lit 126,ztp) :: (nat_lit 127,zts) :: (nat_lit 128,zpK) :: (nat_lit 130,zsj) :: (nat_lit 131,zqk) :: (nat_lit 133,zsN) :: (nat_lit 134,zrZ) :: (nat_lit 135,zso) :: (nat_lit 137,zrV) :: (nat_lit 138,zrt) :: (nat_lit 140,zpz) :: (nat_lit 141,zpN) :: (nat_lit 142,ztd) :: (nat_lit 145,zoJ) :: (nat_lit 146,zrb) :: (nat_lit 154,zrS) :: (nat_lit 155,zsM) :: (nat_lit 157,zqn) :: (nat_lit 158,zoL) :: (nat_lit 160,zrK) :: (nat_lit 161,zsk) :: (nat_lit 162,zpf) :: (nat_lit 164,zst) :: (nat_lit 165,zpH) :: (nat_lit 167,zra) :: (nat_lit 168,zru) :: (nat_lit 169,zpn) :: (nat_lit 171,zsZ) :: (nat_lit 172,zqg) :: (nat_lit 174,zqR) :: (nat_lit 175,zqY) :: (nat_lit 176,zrk) :: (nat_lit 178,zsv) :: (nat_lit 179,zsr) :: (nat_lit 181,zpm) :: (nat_lit 182,zqe) :: (nat_lit 183,zql) :: (nat_lit 185,zsa) :: (nat_lit 186,zsB) :: (nat_lit 188,zsO) :: (nat_lit 189,zsP) :: (nat_lit 190,zrr) :: (nat_lit 192,zpw) :: (nat_lit 193,zsA) :: (nat_lit 195,zrs) :: (nat_lit 196,zty) :: (nat_lit 197,zsC) :: (nat_lit 200,zri) :: (nat_lit 201,zpE) :: (nat_lit 202,zsh) :: (nat_lit 204,ztr) :: (nat_lit 205,zoM) :: (nat_lit 207,zrU) :: (nat_lit 208,zqv) :: (nat_lit 209,zoQ) :: (nat_lit 211,zsp) :: (nat_lit 212,zqP) :: (nat_lit 214,zpO) :: (nat_lit 215,zqD) :: (nat_lit 216,zsI) :: (nat_lit 218,zoP) :: (nat_lit 219,ztG) :: (nat_lit 221,zpi) :: (nat_lit 222,zry) :: (nat_lit 223,zpB) :: (nat_lit 225,ztw) :: (nat_lit 226,zrg) :: (nat_lit 228,zrx) :: (nat_lit 229,zrn) :: (nat_lit 230,zpq) :: (nat_lit 232,zsH) :: (nat_lit 233,zsn) :: (nat_lit 235,zsi) :: (nat_lit 236,zsc) :: (nat_lit 237,ztg) :: (nat_lit 239,zsQ) :: (nat_lit 240,zrQ) :: (nat_lit 242,zss) :: (nat_lit 243,zrj) :: (nat_lit 244,zoO) :: (nat_lit 246,zrA) :: (nat_lit 247,zsz) :: (nat_lit 249,ztt) :: (nat_lit 250,zpQ) :: (nat_lit 251,zpG) :: (nat_lit 253,zps) :: (nat_lit 254,zta) :: (nat_lit 256,zsR) :: (nat_lit 257,zsJ) :: (nat_lit 258,zqb) :: (nat_lit 261,zsX) :: (nat_lit 262,zpo) :: (nat_lit 263,zpe) :: (nat_lit 265,zrq) :: (nat_lit 266,zqr) :: (nat_lit 268,zsm) :: (nat_lit 269,zoS) :: (nat_lit 270,zqH) :: (nat_lit 272,zrd) :: (nat_lit 273,zpC) :: (nat_lit 275,zqq) :: (nat_lit 276,zpV) :: (nat_lit 277,ztB) :: (nat_lit 279,zpA) :: (nat_lit 280,zqh) :: (nat_lit 282,zpY) :: (nat_lit 283,zqj) :: (nat_lit 284,zoW) :: (nat_lit 286,zoN) :: (nat_lit 287,ztj) :: (nat_lit 289,zsq) :: (nat_lit 290,zrG) :: (nat_lit 291,zpb) :: (nat_lit 292,zsy P) :: (nat_lit 293,zoY) :: (nat_lit 294,zsU) :: (nat_lit 295,zpd) :: (nat_lit 298,zpr) :: (nat_lit 300,ztk) :: (nat_lit 301,zqS) :: (nat_lit 303,ztE) :: (nat_lit 304,zrL) :: (nat_lit 305,zsu) :: (nat_lit 307,zoH) :: (nat_lit 308,zqC) :: (nat_lit 310,zrM) :: (nat_lit 311,zpR) :: (nat_lit 312,zro) :: (nat_lit 314,zqT) :: (nat_lit 315,zqQ) :: (nat_lit 317,zsb) :: (nat_lit 318,zpS) :: (nat_lit 319,zpX) :: (nat_lit 321,zsw) :: (nat_lit 322,zqf) :: (nat_lit 324,zpP) :: (nat_lit 325,ztn) :: (nat_lit 326,zph) :: (nat_lit 329,zrw) :: (nat_lit 330,zpL) :: (nat_lit 331,zsl) :: (nat_lit 333,ztu) :: (nat_lit 334,ztD) :: (nat_lit 336,zsS) :: (nat_lit 337,ztb) :: (nat_lit 338,zqa) :: (nat_lit 340,zsW) :: (nat_lit 341,zpF) :: (nat_lit 343,ztc) :: (nat_lit 344,zpl) :: (nat_lit 345,zqA) :: (nat_lit 347,zqG) :: (nat_lit 348,ztH) :: (nat_lit 350,zoV) :: (nat_lit 351,zrT) :: (nat_lit 352,zqX) :: (nat_lit 354,zqs) :: (nat_lit 355,zrY) :: (nat_lit 357,zrf) :: (nat_lit 358,zqd) :: (nat_lit 359,zqu) :: (nat_lit 361,zqp) :: (nat_lit 362,zsL) :: (nat_lit 364,zsY) :: (nat_lit 365,ztC) :: (nat_lit 366,zqo) :: (nat_lit 368,zsF) :: (nat_lit 369,zsG) :: (nat_lit 371,ztF) :: (nat_lit 372,zqM) :: (nat_lit 373,zpM) :: (nat_lit 375,zrp) :: (nat_lit 376,zoR) :: (nat_lit 378,zoZ) :: (nat_lit 379,zrI) :: (nat_lit 380,zto) :: (nat_lit 383,zte) :: (nat_lit 384,zrD) :: (nat_lit 385,zqJ) :: (nat_lit 388,zrX) :: (nat_lit 389,ztv) :: (nat_lit 390,zrC) :: (nat_lit 393,zrP) :: (nat_lit 394,zrm) :: []
abbrev has : List Addr:=[2,3,15,17,18,20,21,22,29,30,31,32,35,42,44,45,47,48,49,50,51,54,61,63,64,66,67,68,69,70,73,75,76,78,79,80,82,83,85,86,87,90,91,92,95,96,97,100,101,102,104,105,107,108,109,112,113,114,116,117,119,120,121,123,124,126,127,128,130,131,133,134,135,137,138,140,141,142,145,146,154,155,157,158,160,161,162,164,165,167,168,169,171,172,174,175,176,178,179,181,182,183,185,186,188,189,190,192,193,195,196,197,200,201,202,204,205,207,208,209,211,212,214,215,216,218,219,221,222,223,225,226,228,229,230,232,233,235,236,237,239,240,242,243,244,246,247,249,250,251,253,254,256,257,258,261,262,263,265,266,268,269,270,272,273,275,276,277,279,280,282,283,284,286,287,289,290,291,292,293,294,295,298,300,301,303,304,305,307,308,310,311,312,314,315,317,318,319,321,322,324,325,326,329,330,331,333,334,336,337,338,340,341,343,344,345,347,348,350,351,352,354,355,357,358,359,361,362,364,365,366,368,369,371,372,373,375,376,378,379,380,383,384,385,388,389,390,393,394]
abbrev zhc : Life:=⟨[],[],[],0,[],[],false,#[],[],0,false,false,false,0,[2000,10,10],false,0,true,[],[],0,false⟩
abbrev hD : HD:=⟨5008,12,0,2441,1,⟨0,0,0,0⟩,187,⟨0,0,0,0⟩,187,⟨0,0,0,0⟩,699,395,15,⟨0,0,0,0⟩,⟨0,0,0,0⟩,⟨0,0,0,0⟩,⟨291,0,311,103⟩,(qr 13),14,(.some (qr 6))⟩
abbrev hview : Program:={ PySem.Challenge.pw_linecaster_k73_whole_broken_teeth_found with main:={ PySem.Challenge.pw_linecaster_k73_whole_broken_teeth_found.main with body:=[top 0,top 2,top 3,top 4,top 6,top 7,top 8,top 10,top 11,top 13,top 14,top 16,top 17,top 18,top 19,top 20,top 22,top 23,top 25,top 26,top 28,top 29,top 30,top 31,top 32,top 33,top 34,top 35,top 36,top 37,top 38,top 39,top 40,top 41,top 42] } }
theorem hpre : Hd.Pre PySem.Challenge.pw_linecaster_k73_whole_broken_teeth_found hD zhc hA:=fun w os=>by kernel_rfl
theorem hblk : Hd.Blk PySem.Challenge.pw_linecaster_k73_whole_broken_teeth_found hD zhc hA:=fun w os=>by kernel_rfl
theorem hgo : Hd.Go PySem.Challenge.pw_linecaster_k73_whole_broken_teeth_found hD zhc hA hO:=fun w os=>by kernel_rfl
theorem hfin : Hd.Fin PySem.Challenge.pw_linecaster_k73_whole_broken_teeth_found hD zhc hO:=fun w os=>by kernel_rfl
theorem hl1 : Hd.Lk1 PySem.Challenge.pw_linecaster_k73_whole_broken_teeth_found hD zhc hO:=fun w os=>by kernel_rfl
theorem hl3 : Hd.Lk3 hD zhc hO hK has:=fun w os=>by kernel_rfl
theorem hKe : ∀ P,has = (hK P).map (·.1):=fun P=>by kernel_rfl
theorem hl2 : Hd.Lk2 PySem.Challenge.pw_linecaster_k73_whole_broken_teeth_found hview hD zhc hO (Hd.XtH PySem.Challenge.rw_linecaster_k73_whole_broken_teeth_found hview):=fun w os=>by kernel_rfl
theorem hsaid : Hd.zoG PySem.Challenge.rw_linecaster_k73_whole_broken_teeth_found = true:=by kernel_rfl
theorem hleft : LeftO PySem.Challenge.pw_linecaster_k73_whole_broken_teeth_found hview [] (Hd.XtH PySem.Challenge.rw_linecaster_k73_whole_broken_teeth_found hview) (Hook.obs (kHook hK has hKe)) (Hook.val (kHook hK has hKe)) hD.N:=Hd.znE (D:=hD) (L:=zhc) (A:=hA) (O:=hO) (by kernel_rfl) (fun s=>by kernel_rfl) (by kernel_rfl) (by kernel_rfl) (by kernel_rfl) hpre hblk hgo hfin hl1 hl2 hl3
end
end
end Lw
open PySem PySem.W PyProof.Rows
set_option maxRecDepth 100000 in
set_option maxHeartbeats 0 in
theorem PySem.Challenge.cw_linecaster_k73_whole_broken_teeth_found_holds : PySem.Challenge.rw_linecaster_k73_whole_broken_teeth_found.Holds := by
 w_on
 refine Hd.holds (st:=Lw.s_law) (x:="law") (l:=PySem.Challenge.rw_linecaster_k73_whole_broken_teeth_found) (q:=Lw.hview) (K:=Lw.hK) (as:=Lw.has) (e:=Lw.hKe) (N:=Lw.hD.N) Lw.hsaid Lw.hleft (by kernel_rfl) (by kernel_rfl) (by kernel_rfl) (by kernel_rfl) (by decide +kernel) ⟨rfl,rfl,rfl,rfl,rfl,by decide +kernel⟩ ?hw ?hc
 (case hw=>w_witness2)
 k_fill
 refine L2.walk_ofK (l:=PySem.Challenge.rw_linecaster_k73_whole_broken_teeth_found) (n:=63) (k:=Lw.lawLevel) (x:="_law_script") (CX:=L2.CX0) (sp:=Lw.sp_law) rfl (by decide) rfl ⟨rfl,by decide,by decide⟩ (fun w h Y=>PySem.W.kIn_of Y) ?F ?S ?C
 case F =>
  intro w mg fa h KX G hmg
  have T : ∃ a : Lw.Ad,Lw.Tx (L2.KOf KX) mg a:=by
   dsimp only [L2.KOf]
   refine' Lw.txt_mk KX G ?a0 ?l0 ?c0 ?k0 ?a1 ?l1 ?c1 ?k1 ?a2 ?l2 ?c2 ?k2 ?a3 ?l3 ?c3 ?k3 ?a4 ?l4 ?c4 ?k4 ?a5 ?l5 ?c5 ?k5 ?a6 ?l6 ?c6 ?k6 ?a7 ?l7 ?c7 ?k7 ?a8 ?l8 ?c8 ?k8 ?a9 ?l9 ?c9 ?k9 ?a10 ?l10 ?c10 ?k10 ?a11 ?l11 ?c11 ?k11 ?a12 ?l12 ?c12 ?k12 ?a13 ?l13 ?c13 ?k13 ?a14 ?l14 ?c14 ?k14 ?a15 ?l15 ?c15 ?k15 ?a16 ?l16 ?c16 ?k16 ?a17 ?l17 ?c17 ?k17 ?a18 ?l18 ?c18 ?k18 ?a19 ?l19 ?c19 ?k19 ?a20 ?l20 ?c20 ?k20 ?a21 ?l21 ?c21 ?k21 ?a22 ?l22 ?c22 ?k22 ?a23 ?l23 ?c23 ?k23 ?a24 ?l24 ?c24 ?k24 ?a25 ?l25 ?c25 ?k25 ?a26 ?l26 ?c26 ?k26 ?a27 ?l27 ?c27 ?k27 ?ca_Machine ?pg_Machine ?hd_Machine ?po_Machine ?sa_Machine ?mk_Machine ?kc_Machine ?a_Machine_init ?i_Machine_init ?l_Machine_init ?c_Machine_init ?k_Machine_init ?t_Machine_init ?a_Machine_next_key ?i_Machine_next_key ?l_Machine_next_key ?c_Machine_next_key ?k_Machine_next_key ?a_Machine_lacks_matrix ?i_Machine_lacks_matrix ?l_Machine_lacks_matrix ?c_Machine_lacks_matrix ?k_Machine_lacks_matrix ?a_Machine_stuck ?i_Machine_stuck ?l_Machine_stuck ?c_Machine_stuck ?k_Machine_stuck ?a_Machine_resting ?i_Machine_resting ?l_Machine_resting ?c_Machine_resting ?k_Machine_resting ?a_Machine_move_bar ?i_Machine_move_bar ?l_Machine_move_bar ?c_Machine_move_bar ?k_Machine_move_bar ?a_Machine_move_caster ?i_Machine_move_caster ?l_Machine_move_caster ?c_Machine_move_caster ?k_Machine_move_caster ?a_Machine_move_line ?i_Machine_move_line ?l_Machine_move_line ?c_Machine_move_line ?k_Machine_move_line ?a_Machine_send_line ?i_Machine_send_line ?l_Machine_send_line ?c_Machine_send_line ?k_Machine_send_line ?a_Machine_take ?i_Machine_take ?l_Machine_take ?c_Machine_take ?k_Machine_take ?a_Machine_tick ?i_Machine_tick ?l_Machine_tick ?c_Machine_tick ?k_Machine_tick ?a_Machine_run ?i_Machine_run ?l_Machine_run ?c_Machine_run ?k_Machine_run ?a_Machine_channels ?i_Machine_channels ?l_Machine_channels ?c_Machine_channels ?k_Machine_channels ?n_Machine_lying ?n_Machine_case ?n_Machine_played ?n_Machine_struck ?n_Machine_casting ?n_Machine_line ?n_Machine_heated ?n_Machine_to_go ?n_Machine_hanging ?n_Machine_texts ?n_Machine_done ?n_Machine_waits ?y_GAP_KEY ?y_SEND_KEY ?y_WEDGE ?z_ValueError ?z_enumerate ?z_len ?z_list ?z_min ?z_range ?z_sum
   (case a0=>k_is)
   (case l0=>k_is)
   (case c0=>k_is)
   (case k0=>k_is)
   (case a1=>k_is)
   (case l1=>k_is)
   (case c1=>k_is)
   (case k1=>k_is)
   (case a2=>k_is)
   (case l2=>k_is)
   (case c2=>k_is)
   (case k2=>k_is)
   (case a3=>k_is)
   (case l3=>k_is)
   (case c3=>k_is)
   (case k3=>k_is)
   (case a4=>k_is)
   (case l4=>k_is)
   (case c4=>k_is)
   (case k4=>k_is)
   (case a5=>k_is)
   (case l5=>k_is)
   (case c5=>k_is)
   (case k5=>k_is)
   (case a6=>k_is)
   (case l6=>k_is)
   (case c6=>k_is)
   (case k6=>k_is)
   (case a7=>k_is)
   (case l7=>k_is)
   (case c7=>k_is)
   (case k7=>k_is)
   (case a8=>k_is)
   (case l8=>k_is)
   (case c8=>k_is)
   (case k8=>k_is)
   (case a9=>k_is)
   (case l9=>k_is)
   (case c9=>k_is)
   (case k9=>k_is)
   (case a10=>k_is)
   (case l10=>k_is)
   (case c10=>k_is)
   (case k10=>k_is)
   (case a11=>k_is)
   (case l11=>k_is)
   (case c11=>k_is)
   (case k11=>k_is)
   (case a12=>k_is)
   (case l12=>k_is)
   (case c12=>k_is)
   (case k12=>k_is)
   (case a13=>k_is)
   (case l13=>k_is)
   (case c13=>k_is)
   (case k13=>k_is)
   (case a14=>k_is)
   (case l14=>k_is)
   (case c14=>k_is)
   (case k14=>k_is)
   (case a15=>k_is)
   (case l15=>k_is)
   (case c15=>k_is)
   (case k15=>k_is)
   (case a16=>k_is)
   (case l16=>k_is)
   (case c16=>k_is)
   (case k16=>k_is)
   (case a17=>k_is)
   (case l17=>k_is)
   (case c17=>k_is)
   (case k17=>k_is)
   (case a18=>k_is)
   (case l18=>k_is)
   (case c18=>k_is)
   (case k18=>k_is)
   (case a19=>k_is)
   (case l19=>k_is)
   (case c19=>k_is)
   (case k19=>k_is)
   (case a20=>k_is)
   (case l20=>k_is)
   (case c20=>k_is)
   (case k20=>k_is)
   (case a21=>k_is)
   (case l21=>k_is)
   (case c21=>k_is)
   (case k21=>k_is)
   (case a22=>k_is)
   (case l22=>k_is)
   (case c22=>k_is)
   (case k22=>k_is)
   (case a23=>k_is)
   (case l23=>k_is)
   (case c23=>k_is)
   (case k23=>k_is)
   (case a24=>k_is)
   (case l24=>k_is)
   (case c24=>k_is)
   (case k24=>k_is)
   (case a25=>k_is)
   (case l25=>k_is)
   (case c25=>k_is)
   (case k25=>k_is)
   (case a26=>k_is)
   (case l26=>k_is)
   (case c26=>k_is)
   (case k26=>k_is)
   (case a27=>k_is)
   (case l27=>k_is)
   (case c27=>k_is)
   (case k27=>k_is)
   (case ca_Machine=>k_is)
   (case pg_Machine=>k_is)
   (case hd_Machine=>k_is)
   (case po_Machine=>k_is)
   (case sa_Machine=>k_is)
   (case mk_Machine=>k_is)
   (case kc_Machine=>k_is)
   (case a_Machine_init=>k_is)
   (case i_Machine_init=>k_is)
   (case l_Machine_init=>k_is)
   (case c_Machine_init=>k_is)
   (case k_Machine_init=>k_is)
   (case t_Machine_init=>k_is)
   (case a_Machine_next_key=>k_is)
   (case i_Machine_next_key=>k_is)
   (case l_Machine_next_key=>k_is)
   (case c_Machine_next_key=>k_is)
   (case k_Machine_next_key=>k_is)
   (case a_Machine_lacks_matrix=>k_is)
   (case i_Machine_lacks_matrix=>k_is)
   (case l_Machine_lacks_matrix=>k_is)
   (case c_Machine_lacks_matrix=>k_is)
   (case k_Machine_lacks_matrix=>k_is)
   (case a_Machine_stuck=>k_is)
   (case i_Machine_stuck=>k_is)
   (case l_Machine_stuck=>k_is)
   (case c_Machine_stuck=>k_is)
   (case k_Machine_stuck=>k_is)
   (case a_Machine_resting=>k_is)
   (case i_Machine_resting=>k_is)
   (case l_Machine_resting=>k_is)
   (case c_Machine_resting=>k_is)
   (case k_Machine_resting=>k_is)
   (case a_Machine_move_bar=>k_is)
   (case i_Machine_move_bar=>k_is)
   (case l_Machine_move_bar=>k_is)
   (case c_Machine_move_bar=>k_is)
   (case k_Machine_move_bar=>k_is)
   (case a_Machine_move_caster=>k_is)
   (case i_Machine_move_caster=>k_is)
   (case l_Machine_move_caster=>k_is)
   (case c_Machine_move_caster=>k_is)
   (case k_Machine_move_caster=>k_is)
   (case a_Machine_move_line=>k_is)
   (case i_Machine_move_line=>k_is)
   (case l_Machine_move_line=>k_is)
   (case c_Machine_move_line=>k_is)
   (case k_Machine_move_line=>k_is)
   (case a_Machine_send_line=>k_is)
   (case i_Machine_send_line=>k_is)
   (case l_Machine_send_line=>k_is)
   (case c_Machine_send_line=>k_is)
   (case k_Machine_send_line=>k_is)
   (case a_Machine_take=>k_is)
   (case i_Machine_take=>k_is)
   (case l_Machine_take=>k_is)
   (case c_Machine_take=>k_is)
   (case k_Machine_take=>k_is)
   (case a_Machine_tick=>k_is)
   (case i_Machine_tick=>k_is)
   (case l_Machine_tick=>k_is)
   (case c_Machine_tick=>k_is)
   (case k_Machine_tick=>k_is)
   (case a_Machine_run=>k_is)
   (case i_Machine_run=>k_is)
   (case l_Machine_run=>k_is)
   (case c_Machine_run=>k_is)
   (case k_Machine_run=>k_is)
   (case a_Machine_channels=>k_is)
   (case i_Machine_channels=>k_is)
   (case l_Machine_channels=>k_is)
   (case c_Machine_channels=>k_is)
   (case k_Machine_channels=>k_is)
   (case n_Machine_lying=>k_is)
   (case n_Machine_case=>k_is)
   (case n_Machine_played=>k_is)
   (case n_Machine_struck=>k_is)
   (case n_Machine_casting=>k_is)
   (case n_Machine_line=>k_is)
   (case n_Machine_heated=>k_is)
   (case n_Machine_to_go=>k_is)
   (case n_Machine_hanging=>k_is)
   (case n_Machine_texts=>k_is)
   (case n_Machine_done=>k_is)
   (case n_Machine_waits=>k_is)
   (case y_GAP_KEY=>k_is)
   (case y_SEND_KEY=>k_is)
   (case y_WEDGE=>k_is)
   (case z_ValueError=>k_is)
   (case z_enumerate=>k_is)
   (case z_len=>k_is)
   (case z_list=>k_is)
   (case z_min=>k_is)
   (case z_range=>k_is)
   (case z_sum=>k_is)
  obtain ⟨a,T⟩:=T
  have e0:=hmg.symm.trans T.law.mg
  cases e0
  exact ⟨_,fun s u=>.of_eq (T.law.ba [u] rfl),fun base kb nb=>Lw.ok_law T⟩
 case S=>exact fun K H a ns hl hO hS=>⟨a,ns,rfl,hS,hl,fun _=>rfl⟩
 case C=>exact fun _ _ _ _ z=>z
