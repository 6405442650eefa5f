import PyProof.Rows.All
import Wide.All
import OpenK.AllK
import Wide.FinOn
import Lean
import PyProof.EqAt
import PyProof.EqKinds
import PyProof.TupleCall
import PyProof.P3Eq
import PyProof.NeData
import PyProof.Rows.SortShellK
import PySem.Challenge.RW_linecaster_k47_whole_each_matrix_somewhe
set_option Elab.async false
set_option linter.all false
set_option maxRecDepth 100000
namespace L2
open PySem PySem.Spec PyProof.Rows
abbrev Key:=Sum Int Str
def zrQ:Key->Value->Bool
 | .inl k,v=>Value.isInt k v
 | .inr x,v=>Value.isStrOf x v
def keyH (w:World):Key->Int
 | .inl k=>hashInt k
 | .inr x=>hashStr w x
theorem zaN:∀ {k:Key} {v:Value},zrQ k v=true->(∃ i t,k=Sum.inl i/\v=Value.int i t)\/(∃ x t,k=Sum.inr x/\v=Value.str x t)
 | .inl i,v,h=>by
   obtain ⟨t,e⟩:=Value.isInt_shape (k:=i) (v:=v) h
   exact .inl ⟨i,t,rfl,e⟩
 | .inr x,v,h=>by
   obtain ⟨t,e⟩:=Value.isStrOf_shape (x:=x) (v:=v) h
   exact .inr ⟨x,t,rfl,e⟩
theorem zrq (a b:Int):decide ((Sum.inl a:Key)=Sum.inl b)=(a == b):=by
 by_cases e:a=b
 ·subst e;simp
 ·have h:¬ (Sum.inl a:Key)=Sum.inl b:=fun q=>e (Sum.inl.inj q)
  rw [decide_eq_false h]
  exact (beq_eq_false_iff_ne.mpr e).symm
theorem zrM (a b:Str):decide ((Sum.inr a:Key)=Sum.inr b)=decide (a=b):=by
 by_cases e:a=b
 ·subst e;simp
 ·have h:¬ (Sum.inr a:Key)=Sum.inr b:=fun q=>e (Sum.inr.inj q)
  rw [decide_eq_false h,decide_eq_false e]
theorem zsd (a:Int) (b:Str):decide ((Sum.inl a:Key)=Sum.inr b)=false:=decide_eq_false (fun q=>nomatch q)
theorem zpA (a:Str) (b:Int):decide ((Sum.inr a:Key)=Sum.inl b)=false:=decide_eq_false (fun q=>nomatch q)
def zli (prog:Program) (w:World):PySem.KeyKind prog w Key where
 is:=zrQ
 hash:=keyH w
 inj:=fun v a b ha hb=>by
  rcases zaN ha with ⟨i,t,rfl,rfl⟩ | ⟨x,t,rfl,rfl⟩
  ·rcases zaN hb with ⟨j,u,rfl,e⟩ | ⟨y,u,rfl,e⟩
   ·injection e with e1 _;rw [e1]
   ·exact nomatch e
  ·rcases zaN hb with ⟨j,u,rfl,e⟩ | ⟨y,u,rfl,e⟩
   ·exact nomatch e
   ·injection e with e1 _;rw [e1]
 byValue:=fun k v h=>by
  rcases zaN h with ⟨i,t,rfl,rfl⟩ | ⟨x,t,rfl,rfl⟩ <;> rfl
 pyHash:=fun hv h=>by
  rcases zaN hv with ⟨i,t,rfl,rfl⟩ | ⟨x,t,rfl,rfl⟩
  ·exact wpAny_pyHash_int h
  ·exact wpAny_pyHash_str h
 eqBool:=fun hu hv h=>by
  rcases zaN hu with ⟨i,t,rfl,rfl⟩ | ⟨x,t,rfl,rfl⟩
  ·rcases zaN hv with ⟨j,u,rfl,rfl⟩ | ⟨y,u,rfl,rfl⟩
   ·rw [zrq] at h;exact wpAny_eqBool_int h
   ·rw [zsd] at h;exact SeqAt.EqAt.int_str i t y u _ _ _ _ h
  ·rcases zaN hv with ⟨j,u,rfl,rfl⟩ | ⟨y,u,rfl,rfl⟩
   ·rw [zpA] at h;exact SeqAt.EqAt.str_int x t j u _ _ _ _ h
   ·rw [zrM] at h;exact wpAny_eqBool_str h
 «strs»:=fun k x t v h=>by
  rcases zaN h with ⟨i,u,rfl,e⟩ | ⟨y,u,rfl,e⟩
  ·exact nomatch e
  ·injection e with e1 _
   subst e1
   cases v <;> rfl
end L2
namespace L2
open PySem PySem.Spec PyProof.Rows
inductive V where
 | non | bl (b:Bool) | int (i:Int) | str (x:Str) | byt (b:Array UInt8) | flt (b:UInt64) | ref (a:Addr) | ty (n:String)
 deriving DecidableEq
def RelV:V->Value->Prop
 | .non,u=>u=Value.none
 | .bl b,u=>u=Value.bool b
 | .int i,u=>∃ t,u=Value.int i t
 | .str x,u=>∃ t,u=Value.str x t
 | .byt b,u=>∃ t,u=Value.bytes b t
 | .flt b,u=>∃ t,u=Value.float b t
 | .ref a,u=>u=Value.ref a
 | .ty n,u=>u=Value.type n
abbrev Vals:List V->List Value->Prop:=Paired RelV
theorem Vals.length {xs:List V} {us:List Value} (r:Vals xs us):xs.length=us.length:=Paired.length r
theorem Vals.get:∀ {xs:List V} {us:List Value} {i:Nat} {x:V},Vals xs us->xs[i]?=some x->∃ u,us[i]?=some u/\RelV x u
 | _,_,_,_,.nil,e=>by simp at e
 | _,_,0,_,.cons r _,e=>by simp at e;subst e;exact ⟨_,rfl,r⟩
 | _,_,i+1,x,.cons _ t,e=>by
   obtain ⟨u,h1,h2⟩:=Vals.get (i:=i) (x:=x) t (by simpa using e)
   exact ⟨u,by simpa using h1,h2⟩
theorem Vals.set {x:V} {u:Value} (r:RelV x u):∀ {xs:List V} {us:List Value} (i:Nat),Vals xs us->Vals (xs.set i x) (us.set i u)
 | _,_,_,.nil=>.nil
 | _,_,0,.cons _ t=>.cons r t
 | _,_,i+1,.cons q t=>.cons q (Vals.set r i t)
theorem Vals.append:∀ {xs ys:List V} {us ws:List Value},Vals xs us->Vals ys ws->Vals (xs++ys) (us++ws)
 | _,_,_,_,.nil,s=>s
 | _,_,_,_,.cons r t,s=>.cons r (Vals.append t s)
theorem Vals.take:∀ {xs:List V} {us:List Value} (n:Nat),Vals xs us->Vals (xs.take n) (us.take n)
 | _,_,0,_=>.nil
 | _,_,_+1,.nil=>.nil
 | _,_,n+1,.cons r t=>.cons r (Vals.take n t)
theorem Vals.drop:∀ {xs:List V} {us:List Value} (n:Nat),Vals xs us->Vals (xs.drop n) (us.drop n)
 | _,_,0,r=>r
 | _,_,_+1,.nil=>.nil
 | _,_,n+1,.cons _ t=>Vals.drop n t
def RelO:Option V->Option Value->Prop
 | some v,some u=>RelV v u
 | none,none=>True
 | _,_=>False
def KV {κ:Type}:List (κ × V)->List (κ × Value)->Prop:=Paired fun (p:κ × V) (q:κ × Value)=>p.1=q.1/\RelV p.2 q.2
def kV:Key->V
 | .inl i=>.int i
 | .inr x=>.str x
inductive HO where
 | lst (xs:List V)
 | tup (xs:List V)
 | dK (kvs:List (Key × V)) | dT (kvs:List (List Key × V))
 | set (S:Int->Bool) (n:Nat)
 | ins (C dx:Addr) (fs:List (Str × V))
 | own (x:Addr)
 | xd (fs:List (Str × V))
 | met (f x:Addr)
 | rng (lo hi:Int)
 | frz (o:Obj) (u:HO)
 | tbl (ps:Array Value)
 | ext (φ:Heap->Prop)
abbrev Hp:=Addr->Option HO
def upd (H:Hp) (a:Addr) (o:HO):Hp:=fun b=>if b=a then some o else H b
theorem upd_same {H:Hp} {a:Addr} {o:HO}:upd H a o a=some o:=by unfold upd;rw [if_pos rfl]
theorem zai {H:Hp} {a b:Addr} {o:HO} (h:b ≠ a):upd H a o b=H b:=by unfold upd;rw [if_neg h]
theorem zcq {H:Hp} {a b:Addr} {o u:HO} (h:H a=some o) (h':H b=some u) (d:o ≠ u):a ≠ b:=by
 intro e;subst e;rw [h] at h';exact d (Option.some.inj h')
theorem zar {H:Hp} {a b:Addr} {o:HO} (h:H a=some o) (h':H b=none):a ≠ b:=by
 intro e;subst e;rw [h] at h';cases h'
section
variable (P:Program) (w:World)
def zed (H:Hp) (h:Heap) (a:Addr):HO->Prop
 | .lst xs=>xs.length<=sizeLine/\∃ (its:List Value) (n:Nat),Vals xs its/\h.get? a=some { cls:=.type "list",data:=.seq its.toArray n }
 | .tup xs=>xs.length<=sizeLine/\∃ its:List Value,Vals xs its/\IsTup h a its.toArray
 | .dK kvs=>kvs.length<=sizeLine/\(a == sysModules)=false/\∃ vs,KV kvs vs/\h.DictOf (zli P w) a vs
 | .dT kvs=>kvs.length<=sizeLine/\(a == sysModules)=false/\∃ xs:List (List Key × Addr × Value),
    Paired (fun (p:List Key × V) (q:List Key × Addr × Value)=>p.1=q.1/\H q.2.1=some (.tup (p.1.map kV))/\RelV p.2 q.2.2) kvs xs /\
    ∃ o es ep,h.get? a=some o/\o.ExactDict/\o.data=.dict es ep/\es.toList=xs.map (entryOfKey (tupleKind (zli P w)))/\(xs.map (·.1)).Nodup
 | .set S n=>h.SetOf (intKind P w) a S n
 | .ins C dx fs=>H dx=some (.own a)/\fs.length<=1000/\dx ≠ a/\h.get? a=some (PySem.W.instObj C dx) /\
    ∃ mA,h.Ns1 dx mA/\(∀ f,RelO (fs.lookup f) (mA f))/\PySem.Within mA (fs.map (·.1))
 | .own _=>∃ o,h.get? a=some o
 | .xd fs=>∃ mA,h.Ns1 a mA/\∀ f,RelO (fs.lookup f) (mA f)
 | .rng lo hi=>∃ t u v,h.get? a=some { cls:=.type "range",data:=.fields #[.int lo t,.int hi u,.int 1 v] }
 | .frz o u=>h.get? a=some o/\zed H h a u
 | .tbl ps=>h.get? a=some { cls:=.none,data:=.fields ps }
 | .met f x=>h.get? a=some (PySem.W.methodObj (.ref f) (.ref x))
 | .ext φ=>φ h/\(∃ o,h.get? a=some o)/\∀ h1 h2:Heap,φ h1->(∀ o,h1.get? a=some o->h2.get? a=some o)->φ h2
def HOk (H:Hp) (h:Heap):Prop:=∀ a o,H a=some o->zed P w H h a o
end
section
variable {P:Program} {w:World} {H H':Hp} {h h':Heap} {a:Addr} {o:HO}
theorem zed.lt (x:zed P w H h a o):a < h.objs.size:=by
 cases o with
 | lst xs=>obtain ⟨_,_,_,_,e⟩:=x;exact Heap.lt_size e
 | tup xs=>obtain ⟨_,_,_,p⟩:=x;exact p.lt
 | dK kvs=>obtain ⟨_,_,_,_,o,_,_,e,_⟩:=x;exact Heap.lt_size e
 | dT kvs=>obtain ⟨_,_,_,_,o,_,_,e,_⟩:=x;exact Heap.lt_size e
 | set S n=>obtain ⟨o,_,_,_,e,_⟩:=x;exact Heap.lt_size e
 | ins C dx fs=>obtain ⟨_,_,_,e,_⟩:=x;exact Heap.lt_size e
 | own y=>obtain ⟨_,e⟩:=x;exact Heap.lt_size e
 | xd fs=>obtain ⟨_,⟨_,_,_,e,_⟩,_⟩:=x;exact Heap.lt_size e
 | rng lo hi=>obtain ⟨_,_,_,e⟩:=x;exact Heap.lt_size e
 | frz ob u=>obtain ⟨e,_⟩:=x;exact Heap.lt_size e
 | tbl ps=>exact Heap.lt_size (show h.get? a=some _ from x)
 | met f y=>exact Heap.lt_size (show h.get? a=some _ from x)
 | ext φ=>obtain ⟨_,⟨_,e⟩,_⟩:=x;exact Heap.lt_size e
theorem Paired.mapP {α β:Type} {F G:α->β->Prop}:∀ {l₁:List α} {l₂:List β},Paired F l₁ l₂->(∀ a b,F a b->G a b)->Paired G l₁ l₂
 | _,_,.nil,_=>.nil
 | _,_,.cons r t,f=>.cons (f _ _ r) (Paired.mapP t f)
theorem zed.stay (x:zed P w H h a o) (k:∀ b u,(b=a\/H b=some (.own a))->h.get? b=some u->h'.get? b=some u)
 (ho:∀ b,H b=some (.own a)->H' b=some (.own a)) (ht:∀ b xs,H b=some (.tup xs)->H' b=some (.tup xs)):zed P w H' h' a o:=by
 induction o with
 | lst xs=>obtain ⟨z,its,n,r,e⟩:=x;exact ⟨z,its,n,r,k _ _ (.inl rfl) e⟩
 | tup xs=>obtain ⟨z,its,r,ob,e,c⟩:=x;exact ⟨z,its,r,ob,k _ _ (.inl rfl) e,c⟩
 | dK kvs=>obtain ⟨z,y,vs,r,ob,es,ep,e,c⟩:=x;exact ⟨z,y,vs,r,ob,es,ep,k _ _ (.inl rfl) e,c⟩
 | dT kvs =>
   obtain ⟨z,y,xs,r,ob,es,ep,e,c⟩:=x
   exact ⟨z,y,xs,Paired.mapP r fun p q z=>⟨z.1,ht _ _ z.2.1,z.2.2⟩,ob,es,ep,k _ _ (.inl rfl) e,c⟩
 | set S n=>obtain ⟨ob,es,ep,t,e,c⟩:=x;exact ⟨ob,es,ep,t,k _ _ (.inl rfl) e,c⟩
 | ins C dx fs =>
   obtain ⟨d,z,ne,e,mA,⟨od,es,ep,e2,c⟩,r⟩:=x
   exact ⟨ho _ d,z,ne,k _ _ (.inl rfl) e,mA,⟨od,es,ep,k _ _ (.inr d) e2,c⟩,r⟩
 | own y=>obtain ⟨ob,e⟩:=x;exact ⟨ob,k _ _ (.inl rfl) e⟩
 | xd fs=>obtain ⟨mA,⟨od,es,ep,e,c⟩,r⟩:=x;exact ⟨mA,⟨od,es,ep,k _ _ (.inl rfl) e,c⟩,r⟩
 | rng lo hi=>obtain ⟨t,u,v,e⟩:=x;exact ⟨t,u,v,k _ _ (.inl rfl) e⟩
 | frz ob u ih=>obtain ⟨e,q⟩:=x;exact ⟨k _ _ (.inl rfl) e,ih q⟩
 | tbl ps =>
   have e:h.get? a=some { cls:=.none,data:=.fields ps }:=x
   show h'.get? a=some { cls:=.none,data:=.fields ps }
   exact k a _ (.inl rfl) e
 | met f y =>
   have e:h.get? a=some (PySem.W.methodObj (.ref f) (.ref y)):=x
   show h'.get? a=some (PySem.W.methodObj (.ref f) (.ref y))
   exact k a _ (.inl rfl) e
 | ext φ=>obtain ⟨p,⟨o,e⟩,st⟩:=x;exact ⟨st _ _ p fun o q=>k _ _ (.inl rfl) q,⟨o,k _ _ (.inl rfl) e⟩,st⟩
theorem HOk.lt (x:HOk P w H h) (e:H a=some o):a < h.objs.size:=(x a o e).lt
theorem HOk.fresh (x:HOk P w H h) (e:h.objs.size<=a):H a=none:=by
 cases q:H a with
 | none=>rfl
 | some u=>exact absurd (Nat.lt_of_lt_of_le (x.lt q) e) (Nat.lt_irrefl _)
theorem HOk.kept (x:HOk P w H h) (k:∀ b u,h.get? b=some u->h'.get? b=some u):HOk P w H h':=fun a o e =>
 (x a o e).stay (fun b u _ q=>k b u q) (fun _ q=>q) fun _ _ q=>q
theorem HOk.laid (x:HOk P w H h) (k:∀ b u,h.get? b=some u->h'.get? b=some u) (hp:h.objs.size<=a) (new:zed P w (upd H a o) h' a o):HOk P w (upd H a o) h':=fun b u e=>by
 have hn:=x.fresh hp
 by_cases hb:b=a
 ·subst hb;rw [upd_same] at e;cases e;exact new
 ·rw [zai hb] at e
  exact (x b u e).stay (fun c v _ q=>k c v q) (fun c q=>by rw [zai (zar q hn)];exact q) fun c xs q=>by rw [zai (zar q hn)];exact q
end
def Rd (H:Hp) (a:Addr) (u:HO):Prop:=H a=some u\/∃ o,H a=some (.frz o u)
theorem Rd.of {H:Hp} {a:Addr} {u:HO} (h:H a=some u):Rd H a u:=.inl h
theorem Rd.ok {P:Program} {w:World} {H:Hp} {h:Heap} {a:Addr} {u:HO} (r:Rd H a u) (x:HOk P w H h):zed P w H h a u:=by
 rcases r with r | ⟨o,r⟩
 ·exact x a u r
 ·obtain ⟨_,q⟩:=x a _ r
  exact q
def Mut:Option HO->Prop
 | some (.lst _)=>True
 | some (.dK _)=>True
 | some (.dT _)=>True
 | some (.set _ _)=>True
 | some (.ins _ _ _)=>True
 | some (.ext _)=>True
 | _=>False
section
variable {P:Program} {w:World} {H:Hp} {h h':Heap} {x e:Addr} {o':HO}
theorem HOk.write (ok:HOk P w H h) (mu:Mut (H x)) (he:e=x\/H e=some (.own x)) (k:∀ b u,b ≠ e->h.get? b=some u->h'.get? b=some u) (heo:∃ u,h'.get? e=some u)
 (new:zed P w (upd H x o') h' x o'):HOk P w (upd H x o') h':=fun b u q=>by
 have nown:∀ c y,H c=some (.own y)->c ≠ x:=fun c y r z=>by subst z;rw [r] at mu;exact mu
 have ntup:∀ c xs,H c=some (.tup xs)->c ≠ x:=fun c xs r z=>by subst z;rw [r] at mu;exact mu
 by_cases hb:b=x
 ·subst hb;rw [upd_same] at q;cases q;exact new
 ·rw [zai hb] at q
  by_cases hbe:b=e
  ·have q':H b=some (.own x):=by
    rcases he with z | z
    ·exact absurd (hbe.trans z) hb
    ·rw [hbe];exact z
   rw [q] at q';cases q'
   obtain ⟨v,hv⟩:=heo
   exact ⟨v,by rw [hbe];exact hv⟩
  ·refine (ok b u q).stay (fun c v hc r=>k c v ?_ r) (fun c r=>by rw [zai (nown c b r)];exact r) fun c xs r=>by rw [zai (ntup c xs r)];exact r
   rcases hc with rfl | hc
   ·exact hbe
   ·rintro rfl
    rcases he with z | z
    ·exact nown c b hc z
    ·rw [hc] at z;cases z;exact hb rfl
end
structure Un (fs ex:List Addr) (H H':Hp) (h h':Heap):Prop where
 keep:∀ b o,h.get? b=some o->H b=none->b ∉ fs->b ∉ ex->h'.get? b=some o
 slot:∀ b o,h.get? b=some o->H b=none->b ∈ fs->b ∉ ex->∃ sl,h'.get? b=some { o with slots:=sl }
 free:∀ b o,h.get? b=some o->H b=none->b ∉ ex->H' b=none
 there:∀ b o,h.get? b=some o->b ∉ ex->∃ o',h'.get? b=some o'
 tups:∀ b xs,H b=some (.tup xs)->H' b=some (.tup xs)
 frzs:∀ b o u,H b=some (.frz o u)->H' b=some (.frz o u)
 tbls:∀ b ps,H b=some (.tbl ps)->∃ more,H' b=some (.tbl (ps++more))
section
variable {fs fs' ex ex':List Addr} {H H1 H2:Hp} {h h1 h2 h':Heap} {a x e:Addr} {o:HO}
theorem Un.any (u:Un fs ex H H1 h h1) {b:Addr} {ob:Obj} (q:h.get? b=some ob) (n:H b=none) (hx:b ∉ ex):∃ sl,h1.get? b=some { ob with slots:=sl }:=by
 by_cases hb:b ∈ fs
 ·exact u.slot b ob q n hb hx
 ·exact ⟨ob.slots,u.keep b ob q n hb hx⟩
theorem Un.trans (a:Un fs ex H H1 h h1) (b:Un fs ex H1 H2 h1 h2):Un fs ex H H2 h h2 where
 keep:=fun c ob q n hc hx=>b.keep c ob (a.keep c ob q n hc hx) (a.free c ob q n hx) hc hx
 slot:=fun c ob q n hc hx=>by
  obtain ⟨sl,e1⟩:=a.slot c ob q n hc hx
  obtain ⟨sl',e2⟩:=b.slot c _ e1 (a.free c ob q n hx) hc hx
  exact ⟨sl',e2⟩
 free:=fun c ob q n hx=>by
  obtain ⟨o',e1⟩:=a.there c ob q hx
  exact b.free c o' e1 (a.free c ob q n hx) hx
 there:=fun c ob q hx=>by
  obtain ⟨o',e1⟩:=a.there c ob q hx
  exact b.there c o' e1 hx
 tups:=fun c xs q=>b.tups c xs (a.tups c xs q)
 frzs:=fun c ob xs q=>b.frzs c ob xs (a.frzs c ob xs q)
 tbls:=fun c ps q=>by
  obtain ⟨m1,e1⟩:=a.tbls c ps q
  obtain ⟨m2,e2⟩:=b.tbls c _ e1
  exact ⟨m1++m2,by rw [e2,Array.append_assoc]⟩
theorem Un.kept (k:∀ b u,h.get? b=some u->h'.get? b=some u):Un fs ex H H h h' :=
 ⟨fun b ob q _ _ _=>k b ob q,fun b ob q _ _ _=>⟨ob.slots,k b ob q⟩,fun _ _ _ n _=>n,fun b ob q _=>⟨ob,k b ob q⟩,fun _ _ q=>q,fun _ _ _ q=>q,fun _ ps q=>⟨#[],by rw [q];simp⟩⟩
theorem Un.refl:Un fs ex H H h h:=Un.kept fun _ _ q=>q
theorem Un.laid (k:∀ b u,h.get? b=some u->h'.get? b=some u) (hp:h.objs.size<=a) (hn:H a=none):Un fs ex H (upd H a o) h h' where
 keep:=fun b u q _ _ _=>k b u q
 slot:=fun b u q _ _ _=>⟨u.slots,k b u q⟩
 free:=fun b u q n _=>by rw [zai (Nat.ne_of_lt (Nat.lt_of_lt_of_le (Heap.lt_size q) hp))];exact n
 there:=fun b u q _=>⟨u,k b u q⟩
 tups:=fun b xs q=>by rw [zai (zar q hn)];exact q
 frzs:=fun b u xs q=>by rw [zai (zar q hn)];exact q
 tbls:=fun b ps q=>⟨#[],by rw [zai (zar q hn),q];simp⟩
theorem Un.write (mu:Mut (H x)) (he:e=x\/H e=some (.own x)) (k:∀ b u,b ≠ e->h.get? b=some u->h'.get? b=some u) (heo:∃ u,h'.get? e=some u):Un fs ex H (upd H x o) h h':=by
 have hx:∀ b,H b=none->b ≠ x:=fun b n z=>by subst z;rw [n] at mu;exact mu
 have hb:∀ b,H b=none->b ≠ e:=fun b n z=>by
  subst z
  rcases he with r | r
  ·exact hx b n r
  ·rw [n] at r;cases r
 have hm:∀ b u,H b=some u->¬ Mut (some u)->b ≠ x:=fun b u q nm z=>by subst z;rw [q] at mu;exact nm mu
 refine ⟨fun b u q n _ _=>k b u (hb b n) q,fun b u q n _ _=>⟨u.slots,k b u (hb b n) q⟩,fun b u q n _=>by rw [zai (hx b n)];exact n,fun b u q _=>?_,
  fun b xs q=>by rw [zai (hm b _ q fun z=>z)];exact q,fun b u xs q=>by rw [zai (hm b _ q fun z=>z)];exact q,fun b ps q=>⟨#[],by rw [zai (hm b _ q fun z=>z),q];simp⟩⟩
 by_cases hbe:b=e
 ·subst hbe;exact heo
 ·exact ⟨u,k b u hbe q⟩
end
def trk (h:Heap) (H:Hp):List Addr:=(List.range h.objs.size).filter fun a=>(H a).isSome
def hidT (h:Heap) (H:Hp):Heap:=PySem.W.hideAll h (trk h H)
theorem zlr (h:Heap) (H:Hp):(hidT h H).objs.size=h.objs.size:=PySem.W.hideAll_size _ _
theorem zmW {h:Heap} {H:Hp} {b:Addr} {o:Obj} (e:h.get? b=some o) (n:H b=none):(hidT h H).get? b=some o :=
 PySem.W.hideAll_get _ e fun hm=>by
  have q:(H b).isSome=true:=(List.mem_filter.mp hm).2
  rw [n] at q;simp at q
theorem zoa {h:Heap} {H:Hp} {b:Addr} {o:Obj} (e:(hidT h H).get? b=some o):h.get? b=some o/\H b=none:=by
 have e':h.get? b=some o:=PySem.W.of_hideAll (trk h H) e
 refine ⟨e',?_⟩
 cases q:H b with
 | none=>rfl
 | some x =>
   have hm:b ∈ trk h H:=List.mem_filter.mpr ⟨List.mem_range.mpr (Heap.lt_size e'),by simp [q]⟩
   have z:(hidT h H).get? b=none:=PySem.W.hideAll_none (trk h H) hm
   rw [z] at e;cases e
def znA (g h:Heap) (L:Addr):List (Addr × Obj):=(List.range h.objs.size).filterMap fun a=>if a=L\/(g.get? a).isSome=true then none else (h.get? a).map fun o=>(a,o)
def rest (g h:Heap) (L d:Addr):List (Addr × Obj):=(znA g h L).filter fun p=>decide (p.1 ≠ d)
end L2
namespace L2
open PySem PySem.Spec PyProof.Rows
structure Mod (K:PySem.W.Frag) (mg:Str->Option Value) (base:Heap):Prop where
 kin:K.In base
 glob:base.Ns mainGlobals mg
 blt:∃ mb,base.Ns builtinsNs mb/\∀ x:Str,x ≠ "__name__"->mb x=bootBuiltins x
 nolimit:base.NoLimit
structure Cx where
 prog:Program
 w:World
 K:PySem.W.Frag
 mg:Str->Option Value
 base:Heap
 A:Around
 N:List Str
 s₀:Shared
 H₀:Hp
 env:Env
 outer:List Env
 stack:List Env
 ex:List Addr
 fn:Str->Bool
 calm:Bool
 pn:List (Addr × Obj)
 xe:Value->Shared->Prop
def frs (l:List Env):List Addr:=l.filterMap (·.frame)
abbrev Cx.fs (X:Cx):List Addr:=frs X.outer
def Vis (sc:Scope) (x:Str):Prop:=sc.names.lookup x=some .local\/sc.names.lookup x=some .cell\/sc.names.lookup x=some .free
def Loc (sc:Scope) (x:Str):Prop:=sc.names.lookup x=some .local\/sc.names.lookup x=some .cell
def Look (env:Env) (h:Heap) (m:Str->Option Value) (x:Str) (u:Value):Prop :=
 (env.kindOf x=some .local/\m x=some u)\/((env.kindOf x=some .cell\/env.kindOf x=some .free)/\∃ c,env.cells.lookup x=some c/\h.IsCell c (some u))
structure Cx.Ok (X:Cx):Prop where
 mod:Mod X.K X.mg X.base
 kind:X.env.scope.kind=.function
 glob:X.env.globals=mainGlobals
 blt:X.env.builtins=builtinsNs
 above:X.s₀.heap.objs.size<=X.env.locals
 inj:∀ x y c,X.env.cells.lookup x=some c->X.env.cells.lookup y=some c->x=y
 has:∀ x,(X.env.kindOf x=some .cell\/X.env.kindOf x=some .free)->∃ c,X.env.cells.lookup x=some c
 cab:∀ x c,X.fn x=true->X.env.cells.lookup x=some c->X.s₀.heap.objs.size<=c
 hd:X.calm=true->X.A.handled=none
 frames:X.A.frames=some X.stack
 stk:X.stack=X.outer\/(X.stack=X.env :: X.outer/\X.env.frame=some X.env.locals)
 exf:∀ b ∈ X.ex,b ≠ X.env.locals/\∀ x c,X.env.cells.lookup x=some c->c ≠ b
 bs:∀ b o,X.base.get? b=some o->X.s₀.heap.get? b=some o/\X.H₀ b=none
 bsz:X.base.objs.size<=X.s₀.heap.objs.size
 noex:∀ b o,X.base.get? b=some o->b ∉ X.ex
 exfs:∀ b ∈ X.ex,b ∉ X.fs
 funs:X.s₀.heap.FunFrames X.base X.outer
 frf:∀ b ∈ X.fs,X.H₀ b=none
structure Inv (X:Cx) (pins:List (Addr × Obj)) (σ:List (Option V)) (H:Hp) (s:Shared):Prop where
 ok:X.Ok
 os:s.os=X.s₀.os
 bare:AllBare s.gens
 base:Un X.fs X.ex X.H₀ H X.s₀.heap s.heap
 loc:∃ m,s.heap.Ns X.env.locals m/\∀ (i:Nat) (x:Str) (v:V),X.N[i]?=some x->σ[i]?=some (some v)->Vis X.env.scope x->∃ u,RelV v u/\Look X.env s.heap m x u
 cell:∀ x c,X.env.cells.lookup x=some c->∃ v,s.heap.IsCell c v
 free:H X.env.locals=none
 freeC:∀ x c,X.env.cells.lookup x=some c->H c=none
 pin:∀ p ∈ X.pn++pins,s.heap.get? p.1=some p.2/\H p.1=none/\p.1 ≠ X.env.locals/\p.1 ∉ X.fs/\∀ v,p.2.data ≠ .cell v
 hok:HOk X.prog X.w H s.heap
 len:σ.length=X.N.length
section
variable {X:Cx} {pins:List (Addr × Obj)} {σ:List (Option V)} {H H':Hp} {s:Shared} {h':Heap}
theorem Cx.Ok.nofr (ok:X.Ok) {b:Addr} {o:Obj} (e:X.base.get? b=some o):b ∉ X.fs:=fun hb=>by
 have:=(ok.funs.mem hb).1
 rw [e] at this;cases this
theorem Inv.bs (I:Inv X pins σ H s):∀ b o,X.base.get? b=some o->s.heap.get? b=some o/\H b=none:=fun b o e =>
 ⟨I.base.keep b o (I.ok.bs b o e).1 (I.ok.bs b o e).2 (I.ok.nofr e) (I.ok.noex b o e),I.base.free b o (I.ok.bs b o e).1 (I.ok.bs b o e).2 (I.ok.noex b o e)⟩
theorem Inv.bk (I:Inv X pins σ H s):∀ b o,X.base.get? b=some o->s.heap.get? b=some o:=fun b o e=>(I.bs b o e).1
theorem Inv.mod (I:Inv X pins σ H s):Mod X.K X.mg X.base:=I.ok.mod
theorem Inv.kIn (I:Inv X pins σ H s):X.K.In s.heap:=I.ok.mod.kin.keeps I.bk
theorem Inv.nolimit (I:Inv X pins σ H s):s.heap.NoLimit:=I.ok.mod.nolimit.keeps I.bk
theorem Inv.fr (I:Inv X pins σ H s):∃ m,Fr X.base X.env.locals s.heap m :=
 let ⟨m,hn,_⟩:=I.loc
 ⟨m,hn,I.bk,Nat.le_trans I.ok.bsz I.ok.above⟩
theorem Inv.lt (I:Inv X pins σ H s):X.env.locals < s.heap.objs.size:=let ⟨_,hn,_⟩:=I.loc;hn.lt
theorem Inv.sz (I:Inv X pins σ H s):X.s₀.heap.objs.size<=s.heap.objs.size:=Nat.le_trans I.ok.above (Nat.le_of_lt I.lt)
theorem Inv.nofs (I:Inv X pins σ H s) {a:Addr} (h:s.heap.objs.size<=a):a ∉ X.fs:=fun hb=>by
 obtain ⟨_,o,ho,_⟩:=I.ok.funs.mem hb
 exact absurd (Nat.lt_of_lt_of_le (Heap.lt_size ho) (Nat.le_trans I.sz h)) (Nat.lt_irrefl _)
theorem Inv.cne (I:Inv X pins σ H s):∀ x c,X.env.cells.lookup x=some c->c ≠ X.env.locals:=fun x c e z=>by
 obtain ⟨v,o,ho,hd⟩:=I.cell x c e
 obtain ⟨m,⟨o',es,ep,ho',hd',_⟩,_⟩:=I.loc
 rw [z,ho'] at ho;cases ho;rw [hd'] at hd;cases hd
theorem Inv.funs (I:Inv X pins σ H s):s.heap.FunFrames X.base X.outer:=by
 have all:∀ (l:List Env),(∀ b ∈ frs l,b ∈ X.fs)->X.s₀.heap.FunFrames X.base l->s.heap.FunFrames X.base l:=by
  intro l
  induction l with
  | nil=>intro _ _;trivial
  | cons env r ih =>
    intro hs hl
    obtain ⟨hk,⟨L,o,hf,hn,ho,hd⟩,hr⟩:=hl
    have hL:L ∈ X.fs:=hs L (by unfold frs;rw [List.filterMap_cons,hf];exact List.mem_cons_self)
    obtain ⟨sl,e⟩:=I.base.slot L o ho (I.ok.frf L hL) hL fun z=>I.ok.exfs L z hL
    exact ⟨hk,⟨L,_,hf,hn,e,hd⟩,ih (fun b hb=>hs b (by unfold frs;rw [List.filterMap_cons,hf];exact List.mem_cons_of_mem _ hb)) hr⟩
 exact all X.outer (fun _ hb=>hb) I.ok.funs
theorem Inv.stack (I:Inv X pins σ H s):s.heap.FunFrames X.base X.stack:=by
 rcases I.ok.stk with e | ⟨e,hf⟩
 ·rw [e];exact I.funs
 ·rw [e]
  obtain ⟨m,hn,_⟩:=I.loc
  refine .cons (by rw [I.ok.kind];decide) hf hn ?_ I.funs
  exact Heap.get?_none_of_le (Nat.le_trans I.ok.bsz I.ok.above)
theorem Inv.stkSub (I:Inv X pins σ H s):∀ b ∈ frs X.stack,b ∈ X.env.locals :: X.fs:=fun b hb=>by
 rcases I.ok.stk with e | ⟨e,hf⟩
 ·rw [e] at hb;exact List.mem_cons_of_mem _ hb
 ·rw [e] at hb
  unfold frs at hb
  rw [List.filterMap_cons,hf] at hb
  exact hb
theorem Inv.stkFree (I:Inv X pins σ H s):∀ b ∈ frs X.stack,H b=none:=fun b hb=>by
 rcases List.mem_cons.mp (I.stkSub b hb) with e | hb
 ·rw [e];exact I.free
 ·obtain ⟨_,o,ho,_⟩:=I.ok.funs.mem hb
  exact I.base.free b o ho (I.ok.frf b hb) fun z=>I.ok.exfs b z hb
theorem Inv.step {g':Array GenState} {t':Nat} {d':Drawn} {ch:List Addr} (I:Inv X pins σ H s)
 (hch:∀ b ∈ ch,(b ∈ X.ex\/X.s₀.heap.objs.size<=b)/\b ≠ X.env.locals/\(∀ x c,X.env.cells.lookup x=some c->c ≠ b)/\∀ p ∈ X.pn++pins,p.1 ≠ b)
 (keep:∀ b o,b ≠ X.env.locals->b ∉ X.fs->b ∉ ch->s.heap.get? b=some o->H b=none->h'.get? b=some o)
 (slot:∀ b o,b ≠ X.env.locals->b ∈ X.fs->b ∉ ch->s.heap.get? b=some o->H b=none->∃ sl,h'.get? b=some { o with slots:=sl }) (free:∀ b o,b ∉ ch->s.heap.get? b=some o->H b=none->H' b=none)
 (there:∀ b o,b ∉ ch->s.heap.get? b=some o->∃ o',h'.get? b=some o')
 (tups:∀ b xs,H b=some (.tup xs)->H' b=some (.tup xs)) (frzs:∀ b o u,H b=some (.frz o u)->H' b=some (.frz o u)) (tbls:∀ b ps,H b=some (.tbl ps)->∃ more,H' b=some (.tbl (ps++more)))
 (ns:∀ m,s.heap.Ns X.env.locals m->h'.Ns X.env.locals m) (hok:HOk X.prog X.w H' h') (hg:AllBare g') :
 Inv X pins σ H' { s with heap:=h',gens:=g',drawn:=d',toks:=t' }:=by
 have neL:∀ b o,X.s₀.heap.get? b=some o->b ≠ X.env.locals:=fun b o e=>Nat.ne_of_lt (Nat.lt_of_lt_of_le (Heap.lt_size e) I.ok.above)
 have neC:∀ b o,X.s₀.heap.get? b=some o->b ∉ X.ex->b ∉ ch:=fun b o e hx hb=>by
  rcases (hch b hb).1 with z | z
  ·exact hx z
  ·exact absurd (Nat.lt_of_lt_of_le (Heap.lt_size e) z) (Nat.lt_irrefl _)
 have cellK:∀ x c,X.env.cells.lookup x=some c->∀ v,s.heap.IsCell c v->h'.IsCell c v:=fun x c e v ⟨o,ho,hd⟩=>by
  have nch:c ∉ ch:=fun z=>(hch c z).2.2.1 x c e rfl
  by_cases hc:c ∈ X.fs
  ·obtain ⟨sl,q⟩:=slot c o (I.cne x c e) hc nch ho (I.freeC x c e)
   exact ⟨_,q,hd⟩
  ·exact ⟨o,keep c o (I.cne x c e) hc nch ho (I.freeC x c e),hd⟩
 refine ⟨I.ok,I.os,hg,⟨fun b o e n hb hx=>?_,fun b o e n hb hx=>?_,fun b o e n hx=>?_,fun b o e hx=>?_,fun b xs e=>tups b xs (I.base.tups b xs e),fun b o xs e=>frzs b o xs (I.base.frzs b o xs e),fun b ps e=>?_⟩,?_,fun x c e=>?_,?_,fun x c e=>?_,fun p hp=>?_,hok,I.len⟩
 ·exact keep b o (neL b o e) hb (neC b o e hx) (I.base.keep b o e n hb hx) (I.base.free b o e n hx)
 ·obtain ⟨sl,e1⟩:=I.base.slot b o e n hb hx
  obtain ⟨sl',e2⟩:=slot b _ (neL b o e) hb (neC b o e hx) e1 (I.base.free b o e n hx)
  exact ⟨sl',e2⟩
 ·obtain ⟨o',e1⟩:=I.base.there b o e hx
  exact free b o' (neC b o e hx) e1 (I.base.free b o e n hx)
 ·obtain ⟨o',e1⟩:=I.base.there b o e hx
  exact there b o' (neC b o e hx) e1
 ·obtain ⟨m1,e1⟩:=I.base.tbls b ps e
  obtain ⟨m2,e2⟩:=tbls b _ e1
  exact ⟨m1++m2,by rw [e2,Array.append_assoc]⟩
 ·obtain ⟨m,hn,hl⟩:=I.loc
  refine ⟨m,ns m hn,fun i x v e1 e2 e3=>?_⟩
  obtain ⟨u,r,l⟩:=hl i x v e1 e2 e3
  refine ⟨u,r,?_⟩
  rcases l with l | ⟨k,c,e,z⟩
  ·exact .inl l
  ·exact .inr ⟨k,c,e,cellK x c e _ z⟩
 ·obtain ⟨v,z⟩:=I.cell x c e
  exact ⟨v,cellK x c e v z⟩
 ·obtain ⟨m,⟨o,_,_,ho,_⟩,_⟩:=I.loc
  exact free _ o (fun z=>(hch _ z).2.1 rfl) ho I.free
 ·obtain ⟨v,o,ho,hd⟩:=I.cell x c e
  exact free c o (fun z=>(hch c z).2.2.1 x c e rfl) ho (I.freeC x c e)
 ·obtain ⟨e,n,ne,nf,d⟩:=I.pin p hp
  have nch:p.1 ∉ ch:=fun z=>(hch p.1 z).2.2.2 p hp rfl
  exact ⟨keep p.1 p.2 ne nf nch e n,free p.1 p.2 nch e n,ne,nf,d⟩
theorem Inv.un {t':Nat} (I:Inv X pins σ H s) (u:Un X.fs [] H H' s.heap h') (hok:HOk X.prog X.w H' h'):Inv X pins σ H' { s with heap:=h',toks:=t' }:=by
 obtain ⟨m,⟨o,es,ep,ho,r⟩,_⟩:=id I.loc
 obtain ⟨sl,hL⟩:=u.any ho I.free (by simp)
 exact I.step (g':=s.gens) (d':=s.drawn) (ch:=[]) (fun _ z=>nomatch z) (fun b o _ hb _ e n=>u.keep b o e n hb (by simp)) (fun b o _ hb _ e n=>u.slot b o e n hb (by simp)) (fun b o _ e n=>u.free b o e n (by simp)) (fun b o _ e=>u.there b o e (by simp)) u.tups u.frzs u.tbls (fun m' hm=>by
  obtain ⟨o',es',ep',ho',r'⟩:=hm
  rw [ho] at ho';cases ho'
  exact ⟨_,es',ep',hL,r'⟩) hok I.bare
theorem Inv.call {g':Array GenState} {t':Nat} {d':Drawn} {ch:List Addr} (I:Inv X pins σ H s) (u:Un (frs X.stack) ch H H' s.heap h') (hok:HOk X.prog X.w H' h') (hg:AllBare g')
 (hch:∀ b ∈ ch,(b ∈ X.ex\/X.s₀.heap.objs.size<=b)/\b ≠ X.env.locals/\(∀ x c,X.env.cells.lookup x=some c->c ≠ b)/\∀ p ∈ X.pn++pins,p.1 ≠ b) :
 Inv X pins σ H' { s with heap:=h',gens:=g',drawn:=d',toks:=t' }:=by
 obtain ⟨m,⟨o,es,ep,ho,r⟩,_⟩:=id I.loc
 obtain ⟨sl,hL⟩:=u.any ho I.free fun z=>(hch _ z).2.1 rfl
 exact I.step (ch:=ch) hch (fun b o hL hb hc e n=>u.keep b o e n (fun z=>(List.mem_cons.mp (I.stkSub b z)).elim hL hb) hc) (fun b o _ _ hc e n=>u.any e n hc) (fun b o hc e n=>u.free b o e n hc) (fun b o hc e=>u.there b o e hc) u.tups u.frzs u.tbls (fun m' hm=>by
  obtain ⟨o',es',ep',ho',r'⟩:=hm
  rw [ho] at ho';cases ho'
  exact ⟨_,es',ep',hL,r'⟩) hok hg
theorem Inv.turned {t':Nat} {it:Addr} (I:Inv X pins σ H s) (k:∀ b o,b ≠ it->s.heap.get? b=some o->h'.get? b=some o) (hn:H it=none) (hL:it ≠ X.env.locals)
 (h1:it ∈ X.ex\/X.s₀.heap.objs.size<=it) (h2:∀ x c,X.env.cells.lookup x=some c->c ≠ it) (h3:∀ p ∈ X.pn++pins,p.1 ≠ it):Inv X pins σ H { s with heap:=h',toks:=t' }:=by
 have nit:∀ b u,H b=some u->b ≠ it:=fun b u e z=>by rw [z,hn] at e;cases e
 refine I.step (g':=s.gens) (d':=s.drawn) (ch:=[it]) (fun b hb=>?_) (fun b o _ _ hc e _=>k b o (fun z=>hc (by simp [z])) e) (fun b o _ _ hc e _=>⟨o.slots,k b o (fun z=>hc (by simp [z])) e⟩) (fun _ _ _ _ n=>n)
  (fun b o hc e=>⟨o,k b o (fun z=>hc (by simp [z])) e⟩) (fun _ _ e=>e) (fun _ _ _ e=>e) (fun b ps e=>⟨#[],by rw [e];simp⟩) (fun m hm=>?_) (fun b u e=>?_) I.bare
 ·have e:b=it:=by simpa using hb
  subst e
  exact ⟨h1,hL,h2,h3⟩
 ·obtain ⟨o,es,ep,ho,r⟩:=hm
  exact ⟨o,es,ep,k _ o (Ne.symm hL) ho,r⟩
 ·refine (I.hok b u e).stay (fun c v hc q=>k c v ?_ q) (fun _ q=>q) fun _ _ q=>q
  rcases hc with z | z
  ·rw [z];exact nit b u e
  ·exact nit c _ z
theorem Inv.tok (I:Inv X pins σ H s) (t:Nat):Inv X pins σ H { s with toks:=t }:=I.un (h':=s.heap) (t':=t) Un.refl I.hok
theorem Inv.kept {t':Nat} (I:Inv X pins σ H s) (k:∀ b u,s.heap.get? b=some u->h'.get? b=some u):Inv X pins σ H { s with heap:=h',toks:=t' }:=I.un (Un.kept k) (I.hok.kept k)
theorem Inv.laid {a:Addr} {o:HO} {t':Nat} (I:Inv X pins σ H s) (k:∀ b u,s.heap.get? b=some u->h'.get? b=some u) (hp:s.heap.objs.size<=a) (new:zed X.prog X.w (upd H a o) h' a o) :
 Inv X pins σ (upd H a o) { s with heap:=h',toks:=t' }:=I.un (Un.laid k hp (I.hok.fresh hp)) (I.hok.laid k hp new)
theorem Inv.write {x e:Addr} {o:HO} {t':Nat} (I:Inv X pins σ H s) (mu:Mut (H x)) (he:e=x\/H e=some (.own x)) (k:∀ b u,b ≠ e->s.heap.get? b=some u->h'.get? b=some u) (heo:∃ u,h'.get? e=some u)
 (new:zed X.prog X.w (upd H x o) h' x o):Inv X pins σ (upd H x o) { s with heap:=h',toks:=t' }:=I.un (Un.write mu he k heo) (I.hok.write mu he k heo new)
theorem Inv.pins_of {pins':List (Addr × Obj)} (I:Inv X pins σ H s) (h:∀ p ∈ pins',s.heap.get? p.1=some p.2/\H p.1=none/\p.1 ≠ X.env.locals/\p.1 ∉ X.fs/\∀ v,p.2.data ≠ .cell v):Inv X pins' σ H s :=
 ⟨I.ok,I.os,I.bare,I.base,I.loc,I.cell,I.free,I.freeC,fun p hp=>(List.mem_append.mp hp).elim (fun z=>I.pin p (List.mem_append_left _ z)) (h p),I.hok,I.len⟩
theorem ziH {N:List Str} (hN:N.Nodup) {i j:Nat} {x:Str} (a:N[i]?=some x) (b:N[j]?=some x):i=j:=by
 obtain ⟨h1,e1⟩:=List.getElem?_eq_some_iff.mp a
 obtain ⟨h2,e2⟩:=List.getElem?_eq_some_iff.mp b
 exact (List.getElem_inj hN).mp (e1.trans e2.symm)
theorem zhc {M:Model} {A:Around} {E:Value->Shared->Prop} {i:Nat} {x:Str} {v:V} {u:Value} {Q:Unit->Shared->Prop} (I:Inv X pins σ H s) (hN:X.N.Nodup) (hi:X.N[i]?=some x) (hx:Loc X.env.scope x) (r:RelV v u)
 (h:∀ s',Inv X pins (σ.set i (some v)) H s'->(∃ a,Heap.SameBut a s.heap s'.heap/\(a=X.env.locals\/X.env.cells.lookup x=some a))->Q () s') (hf:X.fn x=true\/X.env.scope.names.lookup x=some .local:=by first | exact .inl rfl | exact .inr rfl | assumption):wpAny M A (storeName X.env x u) Q E s:=by
 obtain ⟨m,hn,hl⟩:=id I.loc
 have hcls:(X.env.scope.kind == .class || (X.env.scope.kind == .module && X.env.locals != X.env.globals))=false:=by rw [I.ok.kind];rfl
 have hiσ:i < σ.length:=by rw [I.len];exact (List.getElem?_eq_some_iff.mp hi).1
 have cne:=I.cne
 have tracked:∀ {a:Addr} {h':Heap},(∃ o,s.heap.get? a=some o/\H a=none)->Heap.SameBut a s.heap h'->HOk X.prog X.w H h':=fun {a h'} ha hs b ob e=>by
  obtain ⟨_,_,hfree⟩:=ha
  refine (I.hok b ob e).stay (fun c w' hc q=>(hs.2 c ?_).trans q) (fun _ q=>q) fun _ _ q=>q
  rintro rfl
  rcases hc with rfl | hc
  ·rw [hfree] at e;cases e
  ·rw [hfree] at hc;cases hc
 rcases hx with hk | hk
 ·refine wpAny_storeName_local hk hn (fun h' hn' hs=>?_) hcls
  obtain ⟨oL,_,_,hoL,_⟩:=id hn
  refine h _ ⟨I.ok,I.os,I.bare,⟨fun b o e n hb hx=>?_,fun b o e n hb hx=>?_,I.base.free,fun b o e hx=>?_,I.base.tups,I.base.frzs,I.base.tbls⟩,⟨_,hn',fun j y v' e1 e2 e3=>?_⟩,fun y c e=>?_,I.free,I.freeC,fun p hp=>?_,tracked ⟨oL,hoL,I.free⟩ hs,by simpa using I.len⟩ ⟨_,hs,.inl rfl⟩
  ·exact (hs.2 b (Nat.ne_of_lt (Nat.lt_of_lt_of_le (Heap.lt_size e) I.ok.above))).trans (I.base.keep b o e n hb hx)
  ·obtain ⟨sl,e1⟩:=I.base.slot b o e n hb hx
   exact ⟨sl,(hs.2 b (Nat.ne_of_lt (Nat.lt_of_lt_of_le (Heap.lt_size e) I.ok.above))).trans e1⟩
  ·obtain ⟨o',e1⟩:=I.base.there b o e hx
   exact ⟨o',(hs.2 b (Nat.ne_of_lt (Nat.lt_of_lt_of_le (Heap.lt_size e) I.ok.above))).trans e1⟩
  ·by_cases hj:j=i
   ·subst hj
    rw [hi] at e1;cases e1
    rw [List.getElem?_set_self hiσ] at e2
    cases e2
    exact ⟨u,r,.inl ⟨hk,by simp⟩⟩
   ·rw [List.getElem?_set_ne (Ne.symm hj)] at e2
    obtain ⟨u',r',q⟩:=hl j y v' e1 e2 e3
    refine ⟨u',r',?_⟩
    rcases q with ⟨k,e⟩ | ⟨k,c,e,z⟩
    ·refine .inl ⟨k,?_⟩
     have:y ≠ x:=fun e=>hj (ziH hN e1 (e ▸ hi))
     simp [this,e]
    ·exact .inr ⟨k,c,e,z.sameBut hs (cne y c e)⟩
  ·obtain ⟨w',z⟩:=I.cell y c e
   exact ⟨w',z.sameBut hs (cne y c e)⟩
  ·obtain ⟨e,n,ne,nf,d⟩:=I.pin p hp
   exact ⟨(hs.2 p.1 ne).trans e,n,ne,nf,d⟩
 ·have hfn:X.fn x=true:=by
   rcases hf with z | z
   ·exact z
   ·rw [z] at hk;cases hk
  obtain ⟨c,hc⟩:=I.ok.has x (.inl hk)
  obtain ⟨w',z⟩:=I.cell x c hc
  refine wpAny_storeName_cell I.ok.kind hk hc z (fun h' hc' hs=>?_)
  obtain ⟨oc,hoc,hocd⟩:=id z
  refine h { s with heap:=h' } ⟨I.ok,I.os,I.bare,⟨fun b o e n hb hx=>?_,fun b o e n hb hx=>?_,I.base.free,fun b o e hx=>?_,I.base.tups,I.base.frzs,I.base.tbls⟩,⟨m,hn.sameBut hs (Ne.symm (cne x c hc)),fun j y v' e1 e2 e3=>?_⟩,fun y c' e=>?_,I.free,I.freeC,fun p hp=>?_,tracked ⟨oc,hoc,I.freeC x c hc⟩ hs,by simpa using I.len⟩ ⟨c,hs,.inr hc⟩
  ·exact (hs.2 b (Nat.ne_of_lt (Nat.lt_of_lt_of_le (Heap.lt_size e) (I.ok.cab x c hfn hc)))).trans (I.base.keep b o e n hb hx)
  ·obtain ⟨sl,e1⟩:=I.base.slot b o e n hb hx
   exact ⟨sl,(hs.2 b (Nat.ne_of_lt (Nat.lt_of_lt_of_le (Heap.lt_size e) (I.ok.cab x c hfn hc)))).trans e1⟩
  ·obtain ⟨o',e1⟩:=I.base.there b o e hx
   exact ⟨o',(hs.2 b (Nat.ne_of_lt (Nat.lt_of_lt_of_le (Heap.lt_size e) (I.ok.cab x c hfn hc)))).trans e1⟩
  ·by_cases hj:j=i
   ·subst hj
    rw [hi] at e1;cases e1
    rw [List.getElem?_set_self hiσ] at e2
    cases e2
    exact ⟨u,r,.inr ⟨.inl hk,c,hc,hc'⟩⟩
   ·rw [List.getElem?_set_ne (Ne.symm hj)] at e2
    obtain ⟨u',r',q⟩:=hl j y v' e1 e2 e3
    refine ⟨u',r',?_⟩
    rcases q with q | ⟨k,c',e,z'⟩
    ·exact .inl q
    ·refine .inr ⟨k,c',e,z'.sameBut hs ?_⟩
     rintro rfl
     exact hj (ziH hN e1 (I.ok.inj _ _ _ e hc ▸ hi))
  ·by_cases hcc:c'=c
   ·subst hcc;exact ⟨_,hc'⟩
   ·obtain ⟨w2,z2⟩:=I.cell y c' e
    exact ⟨w2,z2.sameBut hs hcc⟩
  ·obtain ⟨e,n,ne,nf,d⟩:=I.pin p hp
   refine ⟨(hs.2 p.1 ?_).trans e,n,ne,nf,d⟩
   intro q
   rw [q,hoc] at e
   have q':oc=p.2:=Option.some.inj e
   exact d w' (by rw [<- q'];exact hocd)
theorem zjr {M:Model} {A:Around} {E:Value->Shared->Prop} {i:Nat} {x:Str} {v:V} {u:Value} {Q:Unit->Shared->Prop} (I:Inv X pins σ H s) (hN:X.N.Nodup) (hi:X.N[i]?=some x) (hx:Loc X.env.scope x) (r:RelV v u)
 (h:∀ s',Inv X pins (σ.set i (some v)) H s'->Q () s') (hf:X.fn x=true\/X.env.scope.names.lookup x=some .local:=by first | exact .inl rfl | exact .inr rfl | assumption):wpAny M A (storeName X.env x u) Q E s :=
 zhc I hN hi hx r (fun s' I' _=>h s' I') hf
theorem Inv.call' {s':Shared} {ch:List Addr} (I:Inv X pins σ H s) (ho:s'.os=s.os) (u:Un (frs X.stack) ch H H' s.heap s'.heap) (hok:HOk X.prog X.w H' s'.heap) (hg:AllBare s'.gens)
 (hch:∀ b ∈ ch,(b ∈ X.ex\/X.s₀.heap.objs.size<=b)/\b ≠ X.env.locals/\(∀ x c,X.env.cells.lookup x=some c->c ≠ b)/\∀ p ∈ X.pn++pins,p.1 ≠ b):Inv X pins σ H' s':=by
 obtain ⟨h',g',d',t',o'⟩:=s'
 have e:o'=s.os:=ho
 subst e
 exact I.call (g':=g') (t':=t') (d':=d') u hok hg hch
end
abbrev XK:=Value->Option Addr->Hp->Prop
abbrev St:=List (Option V)
abbrev VK:=V->Hp->Prop
abbrev TE:=St->Hp->VK->Prop
abbrev TT:=St->Hp->(Bool->Hp->Prop)->Prop
abbrev TA:=St->Hp->(List V->Hp->Prop)->Prop
structure Ends where
 nx:St->Hp->Prop
 rt:VK
 bk:St->Hp->Prop:=fun _ _=>False
 ct:St->Hp->Prop:=fun _ _=>False
abbrev TS:=Ends->St->Hp->Prop
def EP (X:Cx) (pins:List (Addr × Obj)) (σ:St) (Q:VK) (u:Value) (s':Shared):Prop:=∃ v H',Inv X pins σ H' s'/\RelV v u/\Q v H'
def TP (X:Cx) (pins:List (Addr × Obj)) (σ:St) (Q:Bool->Hp->Prop) (b:Bool) (s':Shared):Prop:=∃ H',Inv X pins σ H' s'/\Q b H'
def AP (X:Cx) (pins:List (Addr × Obj)) (σ:St) (Q:List V->Hp->Prop) (us:List Value) (s':Shared):Prop:=∃ vs H',Inv X pins σ H' s'/\Vals vs us/\Q vs H'
def SP (X:Cx) (pins:List (Addr × Obj)) (D:Ends) (f:Flow) (s':Shared):Prop :=
 match f with
 | .next=>∃ σ' H',Inv X pins σ' H' s'/\D.nx σ' H'
 | .brk=>∃ σ' H',Inv X pins σ' H' s'/\D.bk σ' H'
 | .cont=>∃ σ' H',Inv X pins σ' H' s'/\D.ct σ' H'
 | .ret u=>∃ v σ' H',Inv X pins σ' H' s'/\RelV v u/\D.rt v H'
def PE (X:Cx) (e:Expr) (t:TE):Prop :=
 ∀ (pins:List (Addr × Obj)) (s:Shared) (σ:St) (H:Hp) (Q:VK),Inv X pins σ H s->t σ H Q->wpAny (model X.prog X.w) X.A (eval e X.env) (EP X pins σ Q) X.xe s
def PT (X:Cx) (e:Expr) (t:TT):Prop :=
 ∀ (pins:List (Addr × Obj)) (s:Shared) (σ:St) (H:Hp) (Q:Bool->Hp->Prop),Inv X pins σ H s->t σ H Q->wpAny (model X.prog X.w) X.A (isTrue e X.env (eval e X.env)) (TP X pins σ Q) X.xe s
def PW (X:Cx) (e:Expr) (t:TT):Prop :=
 ∀ (whole:Sem Value) (pins:List (Addr × Obj)) (s:Shared) (σ:St) (H:Hp) (Q:Bool->Hp->Prop),Inv X pins σ H s->t σ H Q->wpAny (model X.prog X.w) X.A (isTrue e X.env whole) (TP X pins σ Q) X.xe s
theorem PW.pt {X:Cx} {e:Expr} {t:TT} (h:PW X e t):PT X e t:=h _
def PA (X:Cx) (es:List Expr) (t:TA):Prop :=
 ∀ (pos:Pos) (pins:List (Addr × Obj)) (s:Shared) (σ:St) (H:Hp) (Q:List V->Hp->Prop),Inv X pins σ H s->t σ H Q->wpAny (model X.prog X.w) X.A (spliced (backTo pos (starEach es X.env))) (AP X pins σ Q) X.xe s
def PS (X:Cx) (st:Stmt) (t:TS):Prop :=
 ∀ (pins:List (Addr × Obj)) (s:Shared) (σ:St) (H:Hp) (D:Ends),Inv X pins σ H s->t D σ H->wpAny (model X.prog X.w) X.A (exec st X.env) (SP X pins D) X.xe s
def PSs (X:Cx) (st:List Stmt) (t:TS):Prop :=
 ∀ (pins:List (Addr × Obj)) (s:Shared) (σ:St) (H:Hp) (D:Ends),Inv X pins σ H s->t D σ H->wpAny (model X.prog X.w) X.A (execs st X.env) (SP X pins D) X.xe s
theorem thn {α:Type} {t:Sem α} {Q Q':α->Shared->Prop} {M:Model} {A:Around} {E:Value->Shared->Prop} {s:Shared} (h:wpAny M A t Q E s) (hQ:∀ a s,Q a s->Q' a s):wpAny M A t Q' E s:=wpAny_mono h hQ fun _ _ x=>x
end L2
namespace L2
open PySem PySem.Spec PyProof.Rows
section
variable {X:Cx}
theorem bin {a b:Expr} {ta tb:TE} (ha:PE X a ta) (hb:PE X b tb) {pins:List (Addr × Obj)} {s:Shared} {σ:St} {H:Hp} {R:V->V->Hp->Prop} (I:Inv X pins σ H s) (h:ta σ H fun x H1=>tb σ H1 fun y H2=>R x y H2)
 {α:Type} {Q:α->Shared->Prop} {f:Value->Value->Sem α}
 (hf:∀ v u s2 x y H2,Inv X pins σ H2 s2->RelV x v->RelV y u->R x y H2->wpAny (model X.prog X.w) X.A (f v u) Q X.xe s2) :
 wpAny (model X.prog X.w) X.A (eval a X.env) (fun v s₁=>wpAny (model X.prog X.w) X.A (eval b X.env) (fun u s₂=>wpAny (model X.prog X.w) X.A (f v u) Q X.xe s₂) X.xe s₁) X.xe s:=by
 refine thn (ha pins s σ H _ I h) fun v s1 ⟨x,H1,I1,r1,q1⟩=>?_
 refine thn (hb pins s1 σ H1 _ I1 q1) fun u s2 ⟨y,H2,I2,r2,q2⟩=>?_
 exact hf v u s2 x y H2 I2 r1 r2 q2
def tVar (i:Nat):TE:=fun σ H Q=>∃ v,σ[i]?=some (some v)/\Q v H
def tC (v:V):TE:=fun _ H Q=>Q v H
theorem zpv {i:Nat} {x:Str} {pos:Pos} (hN:X.N[i]?=some x) (hv:Vis X.env.scope x) (hd:(x == ("__debug__":Str))=false:=by decide) (hcd:(x == ("__classdict__":Str))=false:=by decide):PE X (.Name x pos) (tVar i):=by
 intro pins s σ H Q I h
 obtain ⟨v,e,h⟩:=h
 obtain ⟨m,hn,hl⟩:=I.loc
 obtain ⟨u,r,l⟩:=hl i x v hN e hv
 have fin:EP X pins σ Q u s:=⟨v,H,I,r,h⟩
 rcases l with ⟨hk,hm⟩ | ⟨hk,c,hc,hcell⟩
 ·exact wpAny_Name (wpAny_loadName_local I.ok.kind hk hn hm fin) hd
 ·rcases hk with hk | hk
  ·exact wpAny_Name (wpAny_loadName_cell I.ok.kind hk hc hcell fin) hd
  ·exact wpAny_Name (wpAny_loadName_free I.ok.kind hk hc hcell fin hcd) hd
theorem zag {i j pos}:PE X (.Constant (.int i) j pos) (tC (.int i)):=fun _ _ _ H _ I h=>wpAny_Constant_int ⟨.int i,H,I.tok _,⟨_,rfl⟩,h⟩
theorem ziy {b j pos}:PE X (.Constant (.bool b) j pos) (tC (.bl b)):=fun _ _ _ H _ I h=>Constant_bool ⟨.bl b,H,I,rfl,h⟩
theorem znp {j pos}:PE X (.Constant .none j pos) (tC .non):=fun _ _ _ H _ I h=>Constant_none ⟨.non,H,I,rfl,h⟩
theorem zcN {x j pos}:PE X (.Constant (.str x) j pos) (tC (.str x)):=fun _ _ _ H _ I h=>Calls.Constant_str ⟨.str x,H,I.tok _,⟨_,rfl⟩,h⟩
def Gl (X:Cx) (x:Str):Prop:=X.env.kindOf x=some .globalImplicit
theorem ziv {E:Value->Shared->Prop} {pins:List (Addr × Obj)} {s:Shared} {σ:St} {H:Hp} {x:Str} {u:Value} {pos:Pos} {Q:Value->Shared->Prop} (I:Inv X pins σ H s) (hg:Gl X x) (hm:X.mg x=some u) (h:Q u s)
 (hd:(x == ("__debug__":Str))=false:=by decide):wpAny (model X.prog X.w) X.A (eval (.Name x pos) X.env) Q E s :=
 Calls.Name_function_global I.ok.kind hg (Calls.loadGlobal_global (by rw [I.ok.glob];exact I.mod.glob.keeps I.bk) hm h) hd
theorem zjc {E:Value->Shared->Prop} {pins:List (Addr × Obj)} {s:Shared} {σ:St} {H:Hp} {x:Str} {u:Value} {pos:Pos} {Q:Value->Shared->Prop} (I:Inv X pins σ H s) (hg:Gl X x) (hm:X.mg x=none) (hv:bootBuiltins x=some u) (h:Q u s)
 (hn:x ≠ "__name__":=by decide) (hd:(x == ("__debug__":Str))=false:=by decide):wpAny (model X.prog X.w) X.A (eval (.Name x pos) X.env) Q E s:=by
 obtain ⟨mb,h1,h2⟩:=I.mod.blt
 exact Calls.Name_function_global I.ok.kind hg (Calls.loadGlobal_builtin (by rw [I.ok.glob];exact I.mod.glob.keeps I.bk) hm (by rw [I.ok.blt];exact h1.keeps I.bk) ((h2 x hn).trans hv) h) hd
theorem zdB {x:Str} {v:V} {u:Value} {pos:Pos} (hg:Gl X x) (hm:X.mg x=some u) (r:RelV v u) (hd:(x == ("__debug__":Str))=false:=by decide):PE X (.Name x pos) (tC v) :=
 fun _ _ _ H _ I h=>ziv I hg hm ⟨v,H,I,r,h⟩ hd
variable {a b:Expr} {ta tb:TE} {pos:Pos}
def PC (X:Cx) (op:CmpOp) (a b:Expr) (t:TE):Prop :=
 ∀ (pins:List (Addr × Obj)) (s:Shared) (σ:St) (H:Hp) (Q:VK),Inv X pins σ H s->t σ H Q ->
  wpAny (model X.prog X.w) X.A (eval a X.env) (fun v s₁=>wpAny (model X.prog X.w) X.A (eval b X.env) (fun u s₂=>wpAny (model X.prog X.w) X.A (compareOp op v u) (EP X pins σ Q) X.xe s₂) X.xe s₁) X.xe s
theorem ziI (b:Expr) {op:CmpOp} (h:op ≠ .In) (h2:op ≠ .NotIn):behindInMarks op b=false:=by
 have e1:(op == CmpOp.In)=false:=by cases op <;> first | rfl | exact absurd rfl h
 have e2:(op == CmpOp.NotIn)=false:=by cases op <;> first | rfl | exact absurd rfl h2
 cases b <;> simp [behindInMarks,e1,e2]
def tIsN (ta:TE):TE:=fun σ H Q=>ta σ H fun x H1=>Q (.bl (decide (x=.non))) H1
def ztr (ta:TE):TE:=fun σ H Q=>ta σ H fun x H1=>Q (.bl (!decide (x=.non))) H1
theorem RelV.none_iff {x:V} {v:Value} (r:RelV x v):(v == Value.none)=decide (x=.non):=by
 cases x with
 | non=>cases r;rfl
 | bl _=>cases r;rfl
 | int _=>obtain ⟨t,rfl⟩:=r;rfl
 | str _=>obtain ⟨t,rfl⟩:=r;rfl
 | byt _=>obtain ⟨t,rfl⟩:=r;rfl
 | flt _=>obtain ⟨t,rfl⟩:=r;rfl
 | ref _=>cases r;rfl
 | ty _=>cases r;rfl
theorem zrN {j pos'} (ha:PE X a ta):PC X .Is a (.Constant .none j pos') (tIsN ta):=by
 intro pins s σ H Q I h
 refine thn (ha pins s σ H _ I h) fun v s1 ⟨x,H1,I1,r1,q1⟩=>?_
 exact Constant_none (is_none_gen ⟨.bl _,H1,I1,by rw [r1.none_iff];rfl,q1⟩)
theorem zle {j pos'} (ha:PE X a ta):PC X .IsNot a (.Constant .none j pos') (ztr ta):=by
 intro pins s σ H Q I h
 refine thn (ha pins s σ H _ I h) fun v s1 ⟨x,H1,I1,r1,q1⟩=>?_
 exact Constant_none (isnot_none_gen ⟨.bl _,H1,I1,by rw [r1.none_iff];rfl,q1⟩)
def tB (t:TE):TT:=fun σ H Q=>t σ H fun x H1=>∃ c,x=.bl c/\Q c H1
theorem znn {op:CmpOp} {t:TE} (h:PC X op a b t) (h1:behindInMarks op b=false:=by first | exact ziI _ (by decide) (by decide) | rfl):PE X (.Compare a [op] [b] pos) t:=fun pins s σ H Q I hw=>wpAny_Compare1 (h pins s σ H Q I hw) h1
theorem zpM {op:CmpOp} {t:TE} (h:PC X op a b t) (h1:behindInMarks op b=false:=by first | exact ziI _ (by decide) (by decide) | rfl):PT X (.Compare a [op] [b] pos) (tB t):=by
 intro pins s σ H Q I hw
 refine wpAny_isTrue_Compare1 (thn (h pins s σ H _ I hw) fun v s1 h1=>thn h1 fun u s2 h2=>thn h2 fun c s3 ⟨x,H1,I1,r1,q1⟩=>?_) h1
 obtain ⟨d,rfl,q⟩:=q1
 cases r1
 exact wpAny_truthy_bool ⟨H1,I1,q⟩
theorem zdz {e:Expr} {t:TE} (h:PE X e t) (he:∀ whole,isTrue e X.env whole=(do let v <- whole;standAt e.pos;holding [v] (truthy v)):=by intro _;rfl):PT X e (tB t):=by
 intro pins s σ H Q I hw
 refine isTrue_plain (thn (h pins s σ H _ I hw) fun v s1 ⟨x,H1,I1,r1,q1⟩=>?_) (he _)
 obtain ⟨d,rfl,q⟩:=q1
 cases r1
 exact wpAny_truthy_bool ⟨H1,I1,q⟩
variable {tA tB':TT} {rest:List Expr}
def tAnd (t u:TT):TT:=fun σ H Q=>t σ H fun c H1=>if c=true then u σ H1 Q else Q false H1
def tOr (t u:TT):TT:=fun σ H Q=>t σ H fun c H1=>if c=true then Q true H1 else u σ H1 Q
def tNot (t:TT):TT:=fun σ H Q=>t σ H fun c H1=>Q (!c) H1
theorem zgg (ha:PT X a tA):PW X (.BoolOp .And [a] pos) tA:=by
 intro wh pins s σ H Q I h
 refine isTrue_and (thn (ha pins s σ H Q I h) fun c s1 e=>?_)
 cases c with
 | true=>exact isTrue_and_nil e
 | false=>exact e
theorem zkD (ha:PT X a tA):PW X (.BoolOp .Or [a] pos) tA:=by
 intro wh pins s σ H Q I h
 refine isTrue_or (thn (ha pins s σ H Q I h) fun c s1 e=>?_)
 cases c with
 | false=>exact isTrue_or_nil e
 | true=>exact e
theorem zjs (ha:PT X a tA) (hb:PW X (.BoolOp .And (b :: rest) pos) tB'):PW X (.BoolOp .And (a :: b :: rest) pos) (tAnd tA tB'):=by
 intro wh pins s σ H Q I h
 refine isTrue_and (thn (ha pins s σ H _ I h) fun c s1 ⟨H1,I1,q1⟩=>?_)
 cases c with
 | true=>exact hb wh pins s1 σ H1 Q I1 q1
 | false=>exact ⟨H1,I1,q1⟩
theorem zml (ha:PT X a tA) (hb:PW X (.BoolOp .Or (b :: rest) pos) tB'):PW X (.BoolOp .Or (a :: b :: rest) pos) (tOr tA tB'):=by
 intro wh pins s σ H Q I h
 refine isTrue_or (thn (ha pins s σ H _ I h) fun c s1 ⟨H1,I1,q1⟩=>?_)
 cases c with
 | true=>exact ⟨H1,I1,q1⟩
 | false=>exact hb wh pins s1 σ H1 Q I1 q1
theorem zgO (ha:PT X a tA):PT X (.UnaryOp .Not a pos) (tNot tA):=by
 intro pins s σ H Q I h
 exact isTrue_not (ha pins s σ H (fun c H1=>Q (!c) H1) I h)
def zvd (ta tb:TE):TE:=fun σ H Q=>ta σ H fun x H1=>∃ c,x=.bl c/\if c=true then tb σ H1 Q else Q (.bl false) H1
def tOrV (ta tb:TE):TE:=fun σ H Q=>ta σ H fun x H1=>∃ c,x=.bl c/\if c=true then Q (.bl true) H1 else tb σ H1 Q
theorem zew {op} {t:TE} (h:PE X a t):PE X (.BoolOp op [a] pos) t:=fun pins s σ H Q I hw=>BoolOp_one (h pins s σ H Q I hw)
theorem zdb (ha:PE X a ta) (hb:PE X (.BoolOp .And (b :: rest) pos) tb):PE X (.BoolOp .And (a :: b :: rest) pos) (zvd ta tb):=by
 intro pins s σ H Q I h
 refine BoolOp_and (thn (ha pins s σ H _ I h) fun v s1 ⟨x,H1,I1,r1,q1⟩=>?_)
 obtain ⟨c,rfl,q1⟩:=q1
 cases r1
 refine wpAny_truthy_bool ?_
 cases c with
 | true=>exact hb pins s1 σ H1 Q I1 q1
 | false=>exact ⟨.bl false,H1,I1,rfl,q1⟩
theorem zul (ha:PE X a ta) (hb:PE X (.BoolOp .Or (b :: rest) pos) tb):PE X (.BoolOp .Or (a :: b :: rest) pos) (tOrV ta tb):=by
 intro pins s σ H Q I h
 refine BoolOp_or (thn (ha pins s σ H _ I h) fun v s1 ⟨x,H1,I1,r1,q1⟩=>?_)
 obtain ⟨c,rfl,q1⟩:=q1
 cases r1
 refine wpAny_truthy_bool ?_
 cases c with
 | false=>exact hb pins s1 σ H1 Q I1 q1
 | true=>exact ⟨.bl true,H1,I1,rfl,q1⟩
def tIf (t:TT) (ta tb:TE):TE:=fun σ H Q=>t σ H fun c H1=>if c=true then ta σ H1 Q else tb σ H1 Q
theorem ziT {c:Expr} (hc:PT X c tA) (ha:PE X a ta) (hb:PE X b tb):PE X (.IfExp c a b pos) (tIf tA ta tb):=by
 intro pins s σ H Q I h
 refine wpAny_IfExp (thn (hc pins s σ H _ I h) fun d s1 ⟨H1,I1,q1⟩=>?_)
 cases d with
 | true=>exact ha pins s1 σ H1 Q I1 q1
 | false=>exact hb pins s1 σ H1 Q I1 q1
end
end L2
namespace L2
open PySem PySem.Spec PyProof.Rows
def SqL (K:PySem.W.Frag) (H:Hp) (a:Addr) (xs:List V):Prop :=
 Rd H a (.lst xs) \/
  ∃ (o:Obj) (its:Array Value) (n:Nat),K.lookup a=some o/\o.cls=.type "list"/\o.dict=none/\o.data=.seq its n/\its.size<=sizeLine/\Vals xs its.toList
def SqT (K:PySem.W.Frag) (H:Hp) (a:Addr) (xs:List V):Prop :=
 Rd H a (.tup xs) \/
  ∃ (o:Obj) (its:Array Value) (n:Nat),K.lookup a=some o/\o.cls=.type "tuple"/\o.data=.seq its n/\its.size<=sizeLine/\Vals xs its.toList
def absV:Value->Option V
 | .none=>some .non
 | .bool b=>some (.bl b)
 | .int i _=>some (.int i)
 | .str x _=>some (.str x)
 | .bytes b _=>some (.byt b)
 | .float b _=>some (.flt b)
 | .ref a=>some (.ref a)
 | .type n=>some (.ty n)
 | _=>none
theorem RelV.abs {x:V} {u:Value} (r:RelV x u):absV u=some x:=by
 cases x with
 | non=>cases r;rfl
 | bl _=>cases r;rfl
 | int _=>obtain ⟨t,rfl⟩:=r;rfl
 | str _=>obtain ⟨t,rfl⟩:=r;rfl
 | byt _=>obtain ⟨t,rfl⟩:=r;rfl
 | flt _=>obtain ⟨t,rfl⟩:=r;rfl
 | ref _=>cases r;rfl
 | ty _=>cases r;rfl
theorem RelV.inj {x y:V} {u:Value} (r:RelV x u) (q:RelV y u):x=y:=Option.some.inj (r.abs.symm.trans q.abs)
theorem Vals.inj:∀ {xs ys:List V} {us:List Value},Vals xs us->Vals ys us->xs=ys
 | _,_,_,.nil,.nil=>rfl
 | _,_,_,.cons r t,.cons r' t'=>by rw [r.inj r',Vals.inj t t']
section
variable {X:Cx} {pins:List (Addr × Obj)} {σ:St} {H:Hp} {s:Shared} {a:Addr} {xs ys:List V}
theorem SqL.of {K:PySem.W.Frag} (h:H a=some (.lst xs)):SqL K H a xs:=.inl (.inl h)
theorem SqT.of {K:PySem.W.Frag} (h:H a=some (.tup xs)):SqT K H a xs:=.inl (.inl h)
theorem Inv.list (I:Inv X pins σ H s) (h:SqL X.K H a xs):∃ its:List Value,Vals xs its/\PlainL s.heap a its.toArray/\xs.length<=sizeLine:=by
 rcases h with h | ⟨o,its,n,hk,hc,hd,hs,hz,r⟩
 ·obtain ⟨z,its,n,r,e⟩:=h.ok I.hok
  exact ⟨its,r,⟨_,n,e,rfl,rfl,rfl⟩,z⟩
 ·refine ⟨its.toList,r,⟨o,n,I.kIn a o hk,hc,hd,by simpa using hs⟩,?_⟩
  have e:=r.length
  simp only [Array.length_toList] at e
  omega
theorem Inv.tuple (I:Inv X pins σ H s) (h:SqT X.K H a xs):∃ its:List Value,Vals xs its/\IsTup s.heap a its.toArray/\xs.length<=sizeLine:=by
 rcases h with h | ⟨o,its,n,hk,hc,hs,hz,r⟩
 ·obtain ⟨z,its,r,p⟩:=h.ok I.hok
  exact ⟨its,r,p,z⟩
 ·refine ⟨its.toList,r,⟨o,I.kIn a o hk,hc,n,by simpa using hs⟩,?_⟩
  have e:=r.length
  simp only [Array.length_toList] at e
  omega
theorem Inv.list_inj (I:Inv X pins σ H s) (h:SqL X.K H a xs) (h':SqL X.K H a ys):xs=ys:=by
 obtain ⟨its,r,⟨o,n,e,_,_,d⟩,_⟩:=I.list h
 obtain ⟨its',r',⟨o',n',e',_,_,d'⟩,_⟩:=I.list h'
 rw [e] at e';cases e'
 rw [d] at d'
 injection d' with d1 _
 have:its=its':=by simpa using congrArg Array.toList d1
 subst this
 exact r.inj r'
end
abbrev Cx.wish (X:Cx) (E:Value->Shared->Prop):Cx:={ X with xe:=E }
abbrev Cx.nox (X:Cx):Cx:=X.wish fun _ _=>False
theorem Cx.Ok.wish {X:Cx} (ok:X.Ok) (E:Value->Shared->Prop):(X.wish E).Ok :=
 ⟨ok.mod,ok.kind,ok.glob,ok.blt,ok.above,ok.inj,ok.has,ok.cab,ok.hd,ok.frames,ok.stk,ok.exf,ok.bs,ok.bsz,ok.noex,ok.exfs,ok.funs,ok.frf⟩
theorem Cx.Ok.unwish {X:Cx} {E:Value->Shared->Prop} (ok:(X.wish E).Ok):X.Ok :=
 ⟨ok.mod,ok.kind,ok.glob,ok.blt,ok.above,ok.inj,ok.has,ok.cab,ok.hd,ok.frames,ok.stk,ok.exf,ok.bs,ok.bsz,ok.noex,ok.exfs,ok.funs,ok.frf⟩
section
variable {X:Cx} {pins:List (Addr × Obj)} {σ:St} {H:Hp} {s:Shared} {E:Value->Shared->Prop}
theorem Inv.wish (I:Inv X pins σ H s) (E:Value->Shared->Prop):Inv (X.wish E) pins σ H s:=⟨I.ok.wish E,I.os,I.bare,I.base,I.loc,I.cell,I.free,I.freeC,I.pin,I.hok,I.len⟩
theorem Inv.unwish (I:Inv (X.wish E) pins σ H s):Inv X pins σ H s:=⟨I.ok.unwish,I.os,I.bare,I.base,I.loc,I.cell,I.free,I.freeC,I.pin,I.hok,I.len⟩
theorem SP.unwish {D:Ends} {f:Flow} {s':Shared} (h:SP (X.wish E) pins D f s'):SP X pins D f s':=by
 cases f with
 | next=>obtain ⟨σ',H',I,q⟩:=h;exact ⟨σ',H',I.unwish,q⟩
 | brk=>obtain ⟨σ',H',I,q⟩:=h;exact ⟨σ',H',I.unwish,q⟩
 | cont=>obtain ⟨σ',H',I,q⟩:=h;exact ⟨σ',H',I.unwish,q⟩
 | ret u=>obtain ⟨v,σ',H',I,r,q⟩:=h;exact ⟨v,σ',H',I.unwish,r,q⟩
theorem PSs.nox {st:List Stmt} {t:TS} (h:PSs X.nox st t):PSs X st t:=fun pins s σ H D I hw =>
 wpAny_mono (h pins s σ H D (I.wish _) hw) (fun _ _ q=>q.unwish) fun _ _ z=>False.elim z
end
section
variable {X:Cx} {st:Stmt} {rest:List Stmt} {t u:TS} {e:Expr} {te:TE} {pos:Pos}
def ztq:TS:=fun D σ H=>D.nx σ H
def tSeq (t u:TS):TS:=fun D σ H=>t { D with nx:=u D } σ H
theorem zaI:PSs X [] ztq:=fun _ _ σ H _ I h=>wpAny_execs_nil ⟨σ,H,I,h⟩
theorem zac (h1:PS X st t) (h2:PSs X rest u):PSs X (st :: rest) (tSeq t u):=by
 intro pins s σ H D I h
 refine wpAny_execs_cons (thn (h1 pins s σ H { D with nx:=u D } I h) fun f s1 q=>?_)
 cases f with
 | next =>
   obtain ⟨σ',H',I',q⟩:=q
   exact h2 pins s1 σ' H' D I' q
 | ret v=>exact q
 | brk=>exact q
 | cont=>exact q
theorem zaf (h1:PS X st t):PSs X [st] t:=by
 intro pins s σ H D I h
 refine wpAny_execs_cons (thn (h1 pins s σ H D I h) fun f s1 q=>?_)
 cases f with
 | next=>exact wpAny_execs_nil q
 | ret v=>exact q
 | brk=>exact q
 | cont=>exact q
theorem Inv.quiet {pins:List (Addr × Obj)} {σ:St} {H:Hp} {s:Shared} (I:Inv X pins σ H s):interactive X.env=false:=by simp [interactive,I.ok.kind]
def zuh (te:TE):TS:=fun D σ H=>te σ H fun _ H1=>D.nx σ H1
theorem zaR (he:PE X e te) (hs:swapsWith e none pos.line X.env=pure false:=by rfl):PS X (.Expr e pos) (zuh te):=by
 intro pins s σ H D I h
 exact wpAny_Expr_any (thn (he pins s σ H _ I h) fun v s1 ⟨x,H1,I1,r1,q1⟩=>⟨σ,H1,I1,q1⟩) I.quiet hs
def tRet (te:TE):TS:=fun D σ H=>te σ H D.rt
theorem zav (he:PE X e te):PS X (.Return (some e) pos) (tRet te):=by
 intro pins s σ H D I h
 exact wpAny_Return_some (thn (he pins s σ H _ I h) fun v s1 ⟨x,H1,I1,r1,q1⟩=>⟨x,σ,H1,I1,r1,q1⟩)
def zvb:TS:=fun D _ H=>D.rt .non H
theorem zoC:PS X (.Return none pos) zvb:=fun _ _ σ H _ I h=>wpAny_Return_none ⟨.non,σ,H,I,rfl,h⟩
def tIfS (c:TT) (t u:TS):TS:=fun D σ H=>c σ H fun b H1=>if b=true then t D σ H1 else u D σ H1
theorem zcb {c:Expr} {a b:List Stmt} {tc:TT} (hc:PT X c tc) (ha:PSs X a t) (hb:PSs X b u):PS X (.If c a b pos) (tIfS tc t u):=by
 intro pins s σ H D I h
 refine wpAny_If (thn (hc pins s σ H _ I h) fun d s1 ⟨H1,I1,q1⟩=>?_)
 cases d with
 | true=>exact ha pins s1 σ H1 D I1 q1
 | false=>exact hb pins s1 σ H1 D I1 q1
def zpO:TS:=fun _ _ _=>False
theorem zgA:PS X st zpO:=fun _ _ _ _ _ _ h=>h.elim
end
abbrev TG:=V->St->Hp->(St->Hp->Prop)->Prop
abbrev TGs:=List V->St->Hp->(St->Hp->Prop)->Prop
def PG (X:Cx) (target:Expr) (t:TG):Prop :=
 ∀ (pins:List (Addr × Obj)) (s:Shared) (σ:St) (H:Hp) (v:V) (u:Value) (Q:St->Hp->Prop),Inv X pins σ H s->RelV v u->t v σ H Q ->
  wpAny (model X.prog X.w) X.A (assign target X.env u) (fun _ s'=>∃ σ' H',Inv X pins σ' H' s'/\Q σ' H') X.xe s
def PGs (X:Cx) (ts:List Expr) (t:TGs):Prop :=
 ∀ (pins:List (Addr × Obj)) (s:Shared) (σ:St) (H:Hp) (vs:List V) (us:List Value) (Q:St->Hp->Prop),Inv X pins σ H s->Vals vs us->t vs σ H Q ->
  wpAny (model X.prog X.w) X.A (assignInOrder ((assignEach ts X.env).map (·.2)) us) (fun _ s'=>∃ σ' H',Inv X pins σ' H' s'/\Q σ' H') X.xe s
abbrev TSet:=V->V->V->Hp->(Hp->Prop)->Prop
def PSet (X:Cx) (t:TSet):Prop :=
 ∀ (pins:List (Addr × Obj)) (s:Shared) (σ:St) (H:Hp) (o i v:V) (ov iv u:Value) (Q:Hp->Prop),Inv X pins σ H s->RelV o ov->RelV i iv->RelV v u->t o i v H Q ->
  wpAny (model X.prog X.w) X.A (setItem ov iv u) (fun _ s'=>∃ H',Inv X pins σ H' s'/\Q H') X.xe s
section
variable {X:Cx} {pos:Pos}
def zmi (i:Nat):TG:=fun v σ H Q=>Q (σ.set i (some v)) H
theorem zal {i:Nat} {x:Str} (hN:X.N.Nodup) (hi:X.N[i]?=some x) (hx:Loc X.env.scope x) (hf:X.fn x=true\/X.env.scope.names.lookup x=some .local:=by first | exact .inl rfl | exact .inr rfl | assumption):PG X (.Name x pos) (zmi i):=by
 intro pins s σ H v u Q I r h
 exact wpAny_assign_Name (zjr I hN hi hx r (fun s' I'=>⟨_,H,I',h⟩) hf)
def gNil:TGs:=fun vs σ H Q=>vs=[]/\Q σ H
def zue (t:TG) (u:TGs):TGs:=fun vs σ H Q=>∃ v r,vs=v :: r/\t v σ H fun σ' H'=>u r σ' H' Q
theorem zbz:PGs X [] gNil:=by
 intro pins s σ H vs us Q I r h
 obtain ⟨e,h⟩:=h
 subst e
 cases r
 exact assignInOrder_nil ⟨σ,H,I,h⟩
theorem zam {e:Expr} {es:List Expr} {t:TG} {u:TGs} (h1:PG X e t) (h2:PGs X es u)
 (hs:(assignEach (e :: es) X.env).map (·.2)=assign e X.env :: (assignEach es X.env).map (·.2):=by rfl):PGs X (e :: es) (zue t u):=by
 intro pins s σ H vs us Q I r h
 obtain ⟨v,vr,e1,h⟩:=h
 subst e1
 cases r with
 | cons r rr =>
   rw [hs]
   refine assignInOrder_cons (thn (h1 pins s σ H _ _ _ I r h) fun _ s1 ⟨σ1,H1,I1,q1⟩=>?_)
   exact h2 pins s1 σ1 H1 _ _ Q I1 rr q1
def gTup (K:PySem.W.Frag) (n:Nat) (t:TGs):TG:=fun v σ H Q=>∃ a xs,v=.ref a/\SqT K H a xs/\xs.length=n/\t xs σ H Q
theorem zqH {es:List Expr} {k:Nat} {t:TGs} {n:Nat} (hc:X.calm=true) (h:PGs X es t)
 (hn:(assignEach es X.env).length=n:=by rfl) (hst:(assignEach es X.env).findIdx? (·.1)=none:=by rfl):PG X (.Tuple es k pos) (gTup X.K n t):=by
 intro pins s σ H v u Q I r hw
 obtain ⟨a,xs,e1,hq,hl,hw⟩:=hw
 subst e1
 cases r
 obtain ⟨its,rv,ht,hz⟩:=I.tuple hq
 refine assign_Tuple_tuple (I.ok.hd hc) ht (by simp [hn,<- hl,rv.length]) hst fun h' hx=>?_
 have I1:Inv X pins σ H { s with heap:=h' }:=I.kept (t':=s.toks) fun b o e=>hx b o (Nat.ne_of_lt (Heap.lt_size e)) e
 exact h pins _ σ H xs _ Q I1 (by simpa using rv) hw
def gSub (to ti:TE) (t:TSet):TG:=fun v σ H Q=>to σ H fun o H1=>ti σ H1 fun i H2=>t o i v H2 fun H3=>Q σ H3
theorem zrE {o i:Expr} {to ti:TE} {t:TSet} (ho:PE X o to) (hi:PE X i ti) (hs:PSet X t)
 (ha:∀ v,assign (.Subscript o i pos) X.env v=(do
   let ov <- holding [v] (eval o X.env)
   let iv <- holding [v,ov] (eval i X.env)
   standAt pos
   holding [v,ov,iv] (setItem ov iv v)
   release [v,ov,iv] []):=by intro _;rfl):PG X (.Subscript o i pos) (gSub to ti t):=by
 intro pins s σ H v u Q I r h
 rw [ha]
 refine wpAny_bind (wpAny_holding (thn (ho pins s σ H _ I h) fun ov s1 ⟨x,H1,I1,r1,q1⟩=>?_))
 refine wpAny_bind (wpAny_holding (thn (hi pins s1 σ H1 _ I1 q1) fun iv s2 ⟨y,H2,I2,r2,q2⟩=>?_))
 refine wpAny_bind (wpAny_standAt (wpAny_bind (wpAny_holding (thn (hs pins s2 σ H2 x y v ov iv u _ I2 r1 r2 r q2) fun _ s3 ⟨H3,I3,q3⟩=>?_))))
 exact wpAny_release ⟨σ,H3,I3,q3⟩
def tAsg (te:TE) (g:TG):TS:=fun D σ H=>te σ H fun x H1=>g x σ H1 D.nx
theorem zja {tg e:Expr} {te:TE} {g:TG} (he:PE X e te) (hg:PG X tg g) (hs:swapsWithSole [tg] e pos.line X.env=pure false:=by rfl) (hw:swappedStores [tg] e X.env=pure none:=by rfl)
 (h1:(assignEach [tg] X.env).map (·.2)=[assign tg X.env]:=by rfl):PS X (.Assign [tg] e pos) (tAsg te g):=by
 intro pins s σ H D I h
 refine wpAny_Assign_stores (thn (he pins s σ H _ I h) fun v s1 ⟨x,H1,I1,r1,q1⟩=>?_) hs hw
 rw [h1]
 exact thn (hg pins s1 σ H1 x v _ I1 r1 q1) fun _ s2 q=>q
theorem zay {i:Nat} {x:Str} {e:Expr} {te:TE} {pos':Pos} (hN:X.N.Nodup) (hi:X.N[i]?=some x) (hx:Loc X.env.scope x) (he:PE X e te) (hs:swapsWith e (some (.Name x pos')) pos.line X.env=pure false:=by rfl) (hf:X.fn x=true\/X.env.scope.names.lookup x=some .local:=by first | exact .inl rfl | exact .inr rfl | assumption) :
 PS X (.Assign [.Name x pos'] e pos) (tAsg te (zmi i)):=by
 intro pins s σ H D I h
 refine wpAny_Assign_Name (thn (he pins s σ H _ I h) fun v s1 ⟨y,H1,I1,r1,q1⟩=>?_) hs
 exact zjr I1 hN hi hx r1 (fun s2 I2=>⟨_,H1,I2,q1⟩) hf
end
section
variable {X:Cx} {pos:Pos}
def zoH (c:TT) (tb:TS):TS:=fun D σ H=>∃ W:Nat->St->Hp->Prop,(∃ m,W m σ H)/\∀ m σ H,W m σ H ->
 c σ H fun b H1=>if b=true then ∃ N:St->Hp->Prop,(∀ σ' H',N σ' H'->∃ m',m' < m/\W m' σ' H')/\tb { D with nx:=N,ct:=N,bk:=D.nx } σ H1 else D.nx σ H1
theorem zgm {c:Expr} {body:List Stmt} {tc:TT} {tb:TS} (hp:PassesOwn (model X.prog X.w) X.A X.env X.xe) (hc:PT X c tc) (hb:PSs X body tb):PS X (.While c body [] pos) (zoH tc tb):=by
 intro pins s σ H D I h
 obtain ⟨W,⟨m0,w0⟩,turn⟩:=h
 refine wpAny_While (codeAny_whileLoop (fun n s'=>∃ σ' H',Inv X pins σ' H' s'/\W n σ' H') ?_ m0 ⟨σ,H,I,w0⟩)
 rintro n s1 ⟨σ1,H1,I1,w1⟩
 refine wpAny_passesOwn hp (thn (hc pins s1 σ1 H1 _ I1 (turn n σ1 H1 w1)) fun b s2 ⟨H2,I2,q2⟩=>?_)
 cases b with
 | true =>
   obtain ⟨N,hN,q2⟩:=q2
   rw [if_pos rfl]
   refine wpAny_passesOwn hp (thn (hb pins s2 σ1 H2 _ I2 q2) fun f s3 q3=>?_)
   cases f with
   | next =>
     obtain ⟨σ3,H3,I3,n3⟩:=q3
     obtain ⟨m',hm,w3⟩:=hN σ3 H3 n3
     exact ⟨m',hm,σ3,H3,I3,w3⟩
   | cont =>
     obtain ⟨σ3,H3,I3,n3⟩:=q3
     obtain ⟨m',hm,w3⟩:=hN σ3 H3 n3
     exact ⟨m',hm,σ3,H3,I3,w3⟩
   | brk=>exact q3
   | ret v=>exact q3
 | false =>
   rw [if_neg Bool.false_ne_true]
   exact wpAny_execs_nil ⟨σ1,H2,I2,q2⟩
end
structure It where
 go:Nat->Hp->Prop
 yld:Nat->Hp->V->Hp->Prop
 stop:Nat->Hp->Prop
def FpOk (X:Cx) (pins:List (Addr × Obj)) (H:Hp) (b:Addr):Prop :=
 H b=none/\b ≠ X.env.locals/\b ∉ X.fs/\(b ∈ X.ex\/X.s₀.heap.objs.size<=b)/\(∀ x c,X.env.cells.lookup x=some c->c ≠ b)/\∀ p ∈ X.pn++pins,p.1 ≠ b
theorem Inv.fpOk {X:Cx} {pins:List (Addr × Obj)} {σ:St} {H H':Hp} {s:Shared} {b:Addr} (I:Inv X pins σ H s) (hb:s.heap.objs.size<=b) (hn:H' b=none):FpOk X pins H' b:=by
 refine ⟨hn,Nat.ne_of_gt (Nat.lt_of_lt_of_le I.lt hb),I.nofs hb,.inr (Nat.le_trans I.sz hb),fun x c e z=>?_,fun p hp z=>?_⟩
 ·obtain ⟨v,q⟩:=I.cell x c e
  exact absurd (Nat.lt_of_lt_of_le q.lt (by rw [z];exact hb)) (Nat.lt_irrefl _)
 ·exact absurd (Nat.lt_of_lt_of_le (Heap.lt_size (I.pin p hp).1) (by rw [z];exact hb)) (Nat.lt_irrefl _)
structure Turn (P:Program) (w:World) (K:PySem.W.Frag) (tg:Expr) (J:It) (fp:List Addr) (it:Addr) (tn:Nat->Heap->Prop):Prop where
 mem:it ∈ fp
 obj:∀ i h,tn i h->∀ b ∈ fp,∃ o,h.get? b=some o/\∀ v,o.data ≠ .cell v
 keep:∀ i h h',tn i h->(∀ b ∈ fp,∀ o,h.get? b=some o->h'.get? b=some o)->tn i h'
 item:∀ (X:Cx),X.prog=P->X.w=w->X.K=K->X.calm=true->∀ (i:Nat) (pins:List (Addr × Obj)) (s:Shared) (σ:St) (H:Hp) (E:Value->Shared->Prop),Inv X pins σ H s->(∀ b ∈ fp,FpOk X pins H b)->tn i s.heap->J.go i H ->
  wpAny (model P w) X.A (pyNext (.ref it)) (fun r s1=>∃ u,r=some u /\
   wpAny (model P w) X.A (letOwnedTupleGo tg (.ref it) u) (fun _ s2=>∃ x H',Inv X pins σ H' s2/\RelV x u/\J.yld i H x H'/\tn (i+1) s2.heap/\∀ b ∈ fp,H' b=none) E s1) E s
 done:∀ (X:Cx),X.prog=P->X.w=w->X.K=K->X.calm=true->∀ (i:Nat) (pins:List (Addr × Obj)) (s:Shared) (σ:St) (H:Hp) (E:Value->Shared->Prop),Inv X pins σ H s->(∀ b ∈ fp,FpOk X pins H b)->tn i s.heap->J.stop i H ->
  wpAny (model P w) X.A (pyNext (.ref it)) (fun r s1=>r=none/\Inv X pins σ H s1) E s
 self:∀ (A:Around) (i:Nat) (s:Shared) (Q:Value->Shared->Prop) (E:Value->Shared->Prop),tn i s.heap->Q (.ref it) s->wpAny (model P w) A (pyIter (.ref it)) Q E s
abbrev TI:=St->Hp->(It->Hp->Prop)->Prop
def PIE (X:Cx) (pins:List (Addr × Obj)) (σ:St) (tg:Expr) (R:It->Hp->Prop) (itv:Value) (s2:Shared):Prop :=
 ∃ (it:Addr) (fp:List Addr) (tn:Nat->Heap->Prop) (J:It) (H':Hp),itv=.ref it/\Inv X pins σ H' s2/\Turn X.prog X.w X.K tg J fp it tn/\tn 0 s2.heap/\(∀ b ∈ fp,FpOk X pins H' b)/\R J H'
def PI (X:Cx) (tg iter:Expr) (wi:TI):Prop :=
 ∀ (pins:List (Addr × Obj)) (s:Shared) (σ:St) (H:Hp) (R:It->Hp->Prop),Inv X pins σ H s->wi σ H R ->
  wpAny (model X.prog X.w) X.A (eval iter X.env) (fun v s1=>wpAny (model X.prog X.w) X.A (pyIter v) (PIE X pins σ tg R) X.xe s1) X.xe s
theorem zqz {M:Model} {A:Around} {E:Value->Shared->Prop} {s:Shared} {tg:Expr} {it:Addr} {u:Value} {o:Obj} {n:String} {vs:Array Value} {Q:Unit->Shared->Prop} (ho:s.heap.get? it=some o) (hc:o.cls=.type n) (hd:o.data=.fields vs)
 (hn:["enumerate","zip","dict_itemiterator","dict_reverseitemiterator","odict_iterator","itertools.zip_longest","itertools.pairwise"].contains n=false) (hQ:Q () s):wpAny M A (letOwnedTupleGo tg (.ref it) u) Q E s:=by
 unfold letOwnedTupleGo
 cases tg <;> first
  | exact wpAny_pure hQ
  | (cases u <;> first
      | exact wpAny_pure hQ
      | (refine wpAny_bind (wpAny_load ho ?_)
         rw [hc,hd]
         show wpAny M A (if (["enumerate","zip","dict_itemiterator","dict_reverseitemiterator","odict_iterator","itertools.zip_longest","itertools.pairwise"].contains n && vs[0]? == some (rawInt _))=true then _ else _) Q E s
         rw [if_neg (by intro h;rw [hn,Bool.false_and] at h;cases h)]
         exact wpAny_pure hQ))
def Itl (K:PySem.W.Frag) (a:Addr):It :=
 ⟨fun i H=>∃ xs x,SqL K H a xs/\xs[i]?=some x,fun i H x H'=>H'=H/\∀ xs,SqL K H a xs->xs[i]?=some x,fun i H=>∃ xs,SqL K H a xs/\xs.length<=i⟩
def Itr (lo:Int) (n:Nat):It:=⟨fun i _=>i < n,fun i H x H'=>H'=H/\x=.int (lo+i),fun i _=>n<=i⟩
theorem zlz {P:Program} {w:World} {K:PySem.W.Frag} {tg:Expr} (a it:Addr):Turn P w K tg (Itl K a) [it] it (fun i h=>h.IsListIter it a i) where
 mem:=by simp
 obj:=fun i h st b hb=>by
  have e:b=it:=by simpa using hb
  subst e
  obtain ⟨o,e,c,d⟩:=st
  exact ⟨o,e,fun v z=>by rw [d] at z;cases z⟩
 keep:=fun i h h' st k=>st.at fun o e=>k it (by simp) o e
 item:=by
  intro X hP hw hK hc i pins s σ H E I hf st hg
  subst hP hw hK
  obtain ⟨xs,x,hq,hx⟩:=hg
  obtain ⟨its,rv,p,hz⟩:=I.list hq
  obtain ⟨u,hu,ru⟩:=rv.get hx
  obtain ⟨f0,f1,f2,f3,f4,f5⟩:=hf it (by simp)
  refine wpAny_pyNext_list_item st p.isList (x:=u) (by simpa using hu) fun h' st' sb=>?_
  have I1:Inv X pins σ H { s with heap:=h' }:=I.turned (t':=s.toks) (fun b o hb e=>(sb.2 b hb).trans e) f0 f1 f3 f4 f5
  obtain ⟨o,e,c,d⟩:=id st'
  exact ⟨u,rfl,zqz (s:={ s with heap:=h' }) e c d (by decide) ⟨x,H,I1,ru,⟨rfl,fun ys hy=>by rw [I.list_inj hy hq];exact hx⟩,st',fun b hb=>(hf b hb).1⟩⟩
 done:=by
  intro X hP hw hK hc i pins s σ H E I hf st hg
  subst hP hw hK
  obtain ⟨xs,hq,hx⟩:=hg
  obtain ⟨its,rv,p,hz⟩:=I.list hq
  obtain ⟨f0,f1,f2,f3,f4,f5⟩:=hf it (by simp)
  have hl:=rv.length
  exact wpAny_pyNext_list_end (I.ok.hd hc) st p.isList (by simp;omega) fun h' eb=>⟨rfl,I.turned (t':=s.toks) (fun b o hb e=>eb b o hb e) f0 f1 f3 f4 f5⟩
 self:=fun _ _ _ _ _ st h=>wpAny_pyIter_listiter st h
theorem zjM {P:Program} {w:World} {K:PySem.W.Frag} {tg:Expr} (it:Addr) (lo:Int) (n:Nat):Turn P w K tg (Itr lo n) [it] it (fun i h=>IsRangeIter h it (lo+(i:Nat) * 1) ((n:Int) - (i:Nat)) 1) where
 mem:=by simp
 obj:=fun i h st b hb=>by
  have e:b=it:=by simpa using hb
  subst e
  exact ⟨_,st,fun v z=>by
   have z':Data.fields _=Data.cell v:=z
   cases z'⟩
 keep:=fun i h h' st k=>k it (by simp) _ st
 item:=by
  intro X hP hw hK hc i pins s σ H E I hf st hg
  subst hP hw hK
  obtain ⟨f0,f1,f2,f3,f4,f5⟩:=hf it (by simp)
  have W:=Walks.range (prog:=X.prog) (w:=X.w) (I.ok.hd hc) it lo 1 n
  refine W.item i s _ _ hg st fun v h' tk hv st' kk=>?_
  obtain ⟨t,rfl⟩:=hv
  have I1:Inv X pins σ H { s with heap:=h',toks:=tk }:=I.turned (fun b o hb e=>kk b o (by simpa using hb) e) f0 f1 f3 f4 f5
  refine ⟨_,rfl,zqz (s:={ s with heap:=h',toks:=tk }) (n:="range_iterator") st' rfl rfl (by decide) ⟨.int (lo+i),H,I1,⟨t,?_⟩,⟨rfl,rfl⟩,st',fun b hb=>(hf b hb).1⟩⟩
  rw [Int.mul_one]
 done:=by
  intro X hP hw hK hc i pins s σ H E I hf st hg
  subst hP hw hK
  obtain ⟨f0,f1,f2,f3,f4,f5⟩:=hf it (by simp)
  exact wpAny_pyNext_range_end (I.ok.hd hc) st (by have:n<=i:=hg;omega) fun h' eb=>⟨rfl,I.turned (t':=s.toks) (fun b o hb e=>eb b o hb e) f0 f1 f3 f4 f5⟩
 self:=fun _ _ _ _ _ st h=>wpAny_pyIter_rangeiter st h
end L2
namespace L2
open PySem PySem.Spec PyProof.Rows
section
variable {X:Cx} {tg:Expr}
def zpE (K:PySem.W.Frag) (tl:TE):TI:=fun σ H R=>tl σ H fun x H1=>∃ a,x=.ref a/\(∃ xs,SqL K H1 a xs)/\R (Itl K a) H1
theorem znS {l:Expr} {tl:TE} (hl:PE X l tl):PI X tg l (zpE X.K tl):=by
 intro pins s σ H R I h
 refine thn (hl pins s σ H _ I h) fun v s1 ⟨x,H1,I1,r1,q1⟩=>?_
 obtain ⟨a,e,⟨xs,hq⟩,q⟩:=q1
 subst e
 cases r1
 obtain ⟨its,rv,p,hz⟩:=I1.list hq
 refine wpAny_pyIter_list p.isList ?_
 refine ⟨s1.heap.objs.size,[s1.heap.objs.size],_,_,H1,rfl,I1.kept (t':=s1.toks) fun b o e=>Heap.get?_push_of_some _ e,zlz a _,⟨_,Heap.get?_push_size _ rfl,rfl,rfl⟩,fun b hb=>?_,q⟩
 have e:b=s1.heap.objs.size:=by simpa using hb
 subst e
 exact I1.fpOk (Nat.le_refl _) (I1.hok.fresh (Nat.le_refl _))
theorem zmb {pins:List (Addr × Obj)} {σ:St} {H:Hp} {s:Shared} {R:It->Hp->Prop} {E:Value->Shared->Prop} {lo hi:Int} {t u v:Tok} {tk:Nat} (I:Inv X pins σ H s) (h1:-(2 ^ 62)<=lo) (h2:lo < 2 ^ 62) (h3:-(2 ^ 62)<=hi) (h4:hi < 2 ^ 62)
 (q:R (Itr lo (hi - lo).toNat) H):wpAny (model X.prog X.w) X.A (pyIter (.ref s.heap.objs.size)) (PIE X pins σ tg R) E { s with heap:=s.heap.push { cls:=.type "range",data:=.fields #[.int lo t,.int hi u,.int 1 v] },toks:=tk }:=by
 refine wpAny_pyIter_range (IsRange.new ..) (small_one h1 h2 h3 h4) ?_
 have I1:Inv X pins σ H { s with heap:=s.heap.push { cls:=.type "range",data:=.fields #[.int lo t,.int hi u,.int 1 v] },toks:=tk }:=I.kept fun b o e=>Heap.get?_push_of_some _ e
 refine ⟨(s.heap.push { cls:=.type "range",data:=.fields #[.int lo t,.int hi u,.int 1 v] }).objs.size,[(s.heap.push { cls:=.type "range",data:=.fields #[.int lo t,.int hi u,.int 1 v] }).objs.size],_,_,H,rfl,
  I1.kept (t':=tk) fun b o e=>Heap.get?_push_of_some _ e,zjM _ lo (hi - lo).toNat,?_,fun b hb=>?_,q⟩
 ·have e1:lo+((0:Nat):Int) * 1=lo:=by simp
  have e2:(((hi - lo).toNat:Nat):Int) - ((0:Nat):Int)=Builtin.Range.rangeSize lo hi 1:=by rw [rangeSize_one];split <;> omega
  show IsRangeIter _ _ (lo+((0:Nat):Int) * 1) ((((hi - lo).toNat:Nat):Int) - ((0:Nat):Int)) 1
  rw [e1,e2]
  exact Heap.get?_push_size _ rfl
 ·have e:b=(s.heap.push { cls:=.type "range",data:=.fields #[.int lo t,.int hi u,.int 1 v] }).objs.size:=by simpa using hb
  subst e
  exact I1.fpOk (Nat.le_refl _) (I1.hok.fresh (Nat.le_refl _))
def zth (ta:TA):TI:=fun σ H R=>ta σ H fun vs H1=>∃ j:Int,vs=[.int j]/\-(2 ^ 62)<=j/\j < 2 ^ 62/\R (Itr 0 j.toNat) H1
theorem zeW {a:Expr} {ta:TA} {p pos:Pos} (hg:Gl X "range") (hm:X.mg "range"=none) (ha:PA X [a] ta) (hs:starEach [a] X.env=[(false,eval a X.env)]:=by rfl):PI X tg (.Call (.Name "range" p) [a] [] pos) (zth ta):=by
 intro pins s σ H R I h
 refine Call_ (zjc I hg hm boot_range (PyProof.Rows.callWith_type1 (thn (ha pos pins s σ H _ I h) fun us s1 ⟨vs,H1,I1,r1,q1⟩=>?_) hs rfl))
 obtain ⟨j,e,q1,q2,q⟩:=q1
 subst e
 cases r1 with
 | cons r rr =>
   cases rr
   obtain ⟨t,rfl⟩:=r
   exact call_range_1 (zmb I1 (by omega) (by omega) q1 q2 (by simpa using q))
def tFor (wi:TI) (g:TG) (tb:TS):TS:=fun D σ H=>wi σ H fun J H1=>∃ W:Nat->Nat->St->Hp->Prop,(∃ m,W 0 m σ H1)/\∀ i m σ H,W i m σ H ->
 (J.stop i H/\D.nx σ H)\/(J.go i H/\∃ N:St->Hp->Prop,(∀ σ' H',N σ' H'->∃ m',m' < m/\W (i+1) m' σ' H')/\∀ x H',J.yld i H x H'->g x σ H' fun σ2 H2=>tb { D with nx:=N,ct:=N,bk:=D.nx } σ2 H2)
def zgZ (fp:List Addr) (h:Heap):List (Addr × Obj):=fp.filterMap fun b=>(h.get? b).map fun o=>(b,o)
theorem zdn {fp:List Addr} {h:Heap} {b:Addr} {o:Obj} (hb:b ∈ fp) (e:h.get? b=some o):(b,o) ∈ zgZ fp h:=List.mem_filterMap.mpr ⟨b,hb,by rw [e];rfl⟩
theorem zlN {fp:List Addr} {h:Heap} {p:Addr × Obj} (hp:p ∈ zgZ fp h):p.1 ∈ fp/\h.get? p.1=some p.2:=by
 obtain ⟨b,hb,e⟩:=List.mem_filterMap.mp hp
 cases q:h.get? b with
 | none=>rw [q] at e;cases e
 | some o =>
   rw [q] at e
   have e':(b,o)=p:=Option.some.inj e
   subst e'
   exact ⟨hb,q⟩
theorem Inv.pinned {pins:List (Addr × Obj)} {σ:St} {H:Hp} {s:Shared} {fp:List Addr} (I:Inv X pins σ H s) (hf:∀ b ∈ fp,FpOk X pins H b) (ho:∀ b ∈ fp,∃ o,s.heap.get? b=some o/\∀ v,o.data ≠ .cell v):Inv X (pins++zgZ fp s.heap) σ H s :=
 I.pins_of fun p hp=>(List.mem_append.mp hp).elim (fun z=>I.pin p (List.mem_append_right _ z)) fun z=>by
  obtain ⟨hb,e⟩:=zlN z
  obtain ⟨f0,f1,f2,_⟩:=hf p.1 hb
  obtain ⟨o,e',d⟩:=ho p.1 hb
  rw [e] at e';cases e'
  exact ⟨e,f0,f1,f2,d⟩
theorem Inv.unpinned {pins pl:List (Addr × Obj)} {σ:St} {H:Hp} {s:Shared} (I:Inv X (pins++pl) σ H s):Inv X pins σ H s:=I.pins_of fun p hp=>I.pin p (List.mem_append_right _ (List.mem_append_left _ hp))
theorem zcO {iter:Expr} {body:List Stmt} {wi:TI} {g:TG} {tb:TS} {pos:Pos} (hp:PassesOwn (model X.prog X.w) X.A X.env X.xe) (hc:X.calm=true) (hi:PI X tg iter wi) (hg:PG X tg g) (hb:PSs X body tb)
 (hs:∀ x,foldedSetIterable iter X.env x=pure x:=by intro _;rfl):PS X (.For tg iter body [] pos) (tFor wi g tb):=by
 intro pins s σ H D I h
 refine wpAny_For (thn (hi pins s σ H _ I h) fun v s1 h1=>thn h1 fun itv s2 h2=>?_) hs
 obtain ⟨it,fp,tn,J,H2,e,I2,T,st2,f2,W,⟨m0,w0⟩,turn⟩:=h2
 subst e
 have stat:∀ {H':Hp},(∀ b ∈ fp,H' b=none)->∀ b ∈ fp,FpOk X pins H' b:=fun hn b hb=>⟨hn b hb,(f2 b hb).2⟩
 refine codeAny_forLoop_any (fun n s'=>∃ i σ' H',Inv X pins σ' H' s'/\tn i s'.heap/\(∀ b ∈ fp,H' b=none)/\W i n σ' H') ?_ m0 ⟨0,σ,H2,I2,st2,fun b hb=>(f2 b hb).1,w0⟩
 rintro n s3 ⟨i,σ3,H3,I3,st3,fr3,w3⟩
 rcases turn i n σ3 H3 w3 with ⟨stop,qn⟩ | ⟨go,N,hN,step⟩
 ·refine wpAny_passesOwn hp (thn (T.done X rfl rfl rfl hc i pins s3 σ3 H3 X.xe I3 (stat fr3) st3 stop) fun r s4 ⟨hr,I4⟩=>?_)
  subst hr
  exact wpAny_execs_nil ⟨σ3,H3,I4,qn⟩
 ·refine wpAny_passesOwn hp (thn (T.item X rfl rfl rfl hc i pins s3 σ3 H3 X.xe I3 (stat fr3) st3 go) fun r s4 ⟨u,hr,h4⟩=>?_)
  subst hr
  refine wpAny_passesOwn hp (thn h4 fun _ s5 ⟨x,H5,I5,r5,y5,st5,fr5⟩=>?_)
  have I5':=I5.pinned (stat fr5) (T.obj _ _ st5)
  refine wpAny_passesOwn hp (thn (hg _ s5 σ3 H5 x u _ I5' r5 (step x H5 y5)) fun _ s6 ⟨σ6,H6,I6,q6⟩=>?_)
  refine wpAny_passesOwn hp (thn (hb _ s6 σ6 H6 _ I6 q6) fun f s7 q7=>?_)
  have again:∀ {σ7:St} {H7:Hp},Inv X (pins++zgZ fp s5.heap) σ7 H7 s7->N σ7 H7->∃ m,m < n/\∃ i σ' H',Inv X pins σ' H' s7/\tn i s7.heap/\(∀ b ∈ fp,H' b=none)/\W i m σ' H':=fun {σ7 H7} I7 n7=>by
   obtain ⟨m',hm,w7⟩:=hN σ7 H7 n7
   refine ⟨m',hm,i+1,σ7,H7,I7.unpinned,T.keep _ _ _ st5 fun b hb o e=>(I7.pin (b,o) (List.mem_append_right _ (List.mem_append_right _ (zdn hb e)))).1,fun b hb=>?_,w7⟩
   obtain ⟨o,e,d⟩:=T.obj _ _ st5 b hb
   exact (I7.pin (b,o) (List.mem_append_right _ (List.mem_append_right _ (zdn hb e)))).2.1
  cases f with
  | next=>obtain ⟨σ7,H7,I7,n7⟩:=q7;exact again I7 n7
  | cont=>obtain ⟨σ7,H7,I7,n7⟩:=q7;exact again I7 n7
  | brk=>obtain ⟨σ7,H7,I7,q7⟩:=q7;exact ⟨σ7,H7,I7.unpinned,q7⟩
  | ret v=>obtain ⟨x7,σ7,H7,I7,r7,q7⟩:=q7;exact ⟨x7,σ7,H7,I7.unpinned,r7,q7⟩
end
theorem zjb {K:PySem.W.Frag} {a:Addr} {xs:List V} {g:TG} {tb:TS} {D:Ends} {σ:St} {H:Hp} (Pv:Nat->St->Hp->Prop) (h0:Pv 0 σ H) (hl:∀ i σ H,i<=xs.length->Pv i σ H->SqL K H a xs)
 (hs:∀ i x σ H,xs[i]?=some x->Pv i σ H->g x σ H fun σ2 H2=>tb { D with nx:=Pv (i+1),ct:=Pv (i+1),bk:=D.nx } σ2 H2) (hd:∀ σ H,Pv xs.length σ H->D.nx σ H) :
 ∃ W:Nat->Nat->St->Hp->Prop,(∃ m,W 0 m σ H)/\∀ i m σ H,W i m σ H ->
  ((Itl K a).stop i H/\D.nx σ H)\/((Itl K a).go i H/\∃ N:St->Hp->Prop,(∀ σ' H',N σ' H'->∃ m',m' < m/\W (i+1) m' σ' H')/\∀ x H',(Itl K a).yld i H x H'->g x σ H' fun σ2 H2=>tb { D with nx:=N,ct:=N,bk:=D.nx } σ2 H2):=by
 refine ⟨fun i m σ H=>m=xs.length - i/\i<=xs.length/\Pv i σ H,⟨xs.length,by simp,Nat.zero_le _,h0⟩,?_⟩
 rintro i m σ H ⟨rfl,hi,p⟩
 have q:=hl i σ H hi p
 by_cases hlt:i < xs.length
 ·refine .inr ⟨⟨xs,xs[i],q,by simp [hlt]⟩,Pv (i+1),fun σ' H' p'=>⟨xs.length - (i+1),by omega,rfl,hlt,p'⟩,fun x H' y=>?_⟩
  obtain ⟨e,y⟩:=y
  subst e
  exact hs i x σ _ (y xs q) p
 ·have e:i=xs.length:=by omega
  subst e
  exact .inl ⟨⟨xs,q,Nat.le_refl _⟩,hd σ H p⟩
theorem zff {lo:Int} {n:Nat} {g:TG} {tb:TS} {D:Ends} {σ:St} {H:Hp} (Pv:Nat->St->Hp->Prop) (h0:Pv 0 σ H)
 (hs:∀ i σ H,i < n->Pv i σ H->g (.int (lo+i)) σ H fun σ2 H2=>tb { D with nx:=Pv (i+1),ct:=Pv (i+1),bk:=D.nx } σ2 H2) (hd:∀ σ H,Pv n σ H->D.nx σ H) :
 ∃ W:Nat->Nat->St->Hp->Prop,(∃ m,W 0 m σ H)/\∀ i m σ H,W i m σ H ->
  ((Itr lo n).stop i H/\D.nx σ H)\/((Itr lo n).go i H/\∃ N:St->Hp->Prop,(∀ σ' H',N σ' H'->∃ m',m' < m/\W (i+1) m' σ' H')/\∀ x H',(Itr lo n).yld i H x H'->g x σ H' fun σ2 H2=>tb { D with nx:=N,ct:=N,bk:=D.nx } σ2 H2):=by
 refine ⟨fun i m σ H=>m=n - i/\i<=n/\Pv i σ H,⟨n,by simp,Nat.zero_le _,h0⟩,?_⟩
 rintro i m σ H ⟨rfl,hi,p⟩
 by_cases hlt:i < n
 ·refine .inr ⟨hlt,Pv (i+1),fun σ' H' p'=>⟨n - (i+1),by omega,rfl,hlt,p'⟩,fun x H' y=>?_⟩
  obtain ⟨e,y⟩:=y
  subst e y
  exact hs i σ _ hlt p
 ·have e:i=n:=by omega
  subst e
  exact .inl ⟨Nat.le_refl _,hd σ H p⟩
end L2
namespace L2
open PySem PySem.Spec PyProof.Rows
abbrev R2:=V->V->Hp->VK->Prop
def OpR (X:Cx) (f:Value->Value->Sem Value) (r:R2):Prop :=
 ∀ (pins:List (Addr × Obj)) (s:Shared) (σ:St) (H:Hp) (x y:V) (v u:Value) (Q:VK),Inv X pins σ H s->RelV x v->RelV y u->r x y H Q ->
  wpAny (model X.prog X.w) X.A (f v u) (EP X pins σ Q) X.xe s
def UnR (X:Cx) (f:Value->Sem Value) (r:V->Hp->VK->Prop):Prop :=
 ∀ (pins:List (Addr × Obj)) (s:Shared) (σ:St) (H:Hp) (x:V) (v:Value) (Q:VK),Inv X pins σ H s->RelV x v->r x H Q ->
  wpAny (model X.prog X.w) X.A (f v) (EP X pins σ Q) X.xe s
def zcW (X:Cx) (f:Value) (r:List V->Hp->VK->Prop):Prop :=
 ∀ (pins:List (Addr × Obj)) (s:Shared) (σ:St) (H:Hp) (xs:List V) (us:List Value) (Q:VK),Inv X pins σ H s->Vals xs us->r xs H Q ->
  wpAny (model X.prog X.w) X.A (call f us) (EP X pins σ Q) X.xe s
def tOp (r:R2) (ta tb:TE):TE:=fun σ H Q=>ta σ H fun x H1=>tb σ H1 fun y H2=>r x y H2 Q
def tUn (r:V->Hp->VK->Prop) (ta:TE):TE:=fun σ H Q=>ta σ H fun x H1=>r x H1 Q
def rI (C:Int->Int->Prop) (g:Int->Int->V):R2:=fun x y H Q=>∃ i j,x=.int i/\y=.int j/\C i j/\Q (g i j) H
def rI0 (g:Int->Int->V):R2:=fun x y H Q=>∃ i j,x=.int i/\y=.int j/\Q (g i j) H
def rU (g:Int->V):V->Hp->VK->Prop:=fun x H Q=>∃ i,x=.int i/\Q (g i) H
section
variable {X:Cx} {a b c:Expr} {ta tb tc:TE} {pos:Pos}
theorem binT (ha:PE X a ta) (hb:PE X b tb) {pins:List (Addr × Obj)} {s:Shared} {σ:St} {H:Hp} {R:V->V->Hp->Prop} (I:Inv X pins σ H s)
 (h:ta σ H fun x H1=>tb σ H1 fun y H2=>R x y H2) {Q:Value->Shared->Prop} {f:Value->Value->Sem Value}
 (hf:∀ v u s2 x y H2,Inv X pins σ H2 s2->RelV x v->RelV y u->R x y H2->wpAny (model X.prog X.w) X.A (f v u) Q X.xe s2) :
 wpAny (model X.prog X.w) X.A (eval a X.env) (fun v s₁=>wpAny (model X.prog X.w) X.A (eval b X.env) (fun u s₂=>wpAny (model X.prog X.w) X.A (f v u) Q X.xe s₂) X.xe s₁) X.xe s:=by
 refine thn (ha pins s σ H _ I h) fun v s1 ⟨x,H1,I1,r1,q1⟩=>?_
 refine thn (hb pins s1 σ H1 _ I1 q1) fun u s2 ⟨y,H2,I2,r2,q2⟩=>?_
 exact hf v u s2 x y H2 I2 r1 r2 q2
theorem zap {op:Operator} {r:R2} (ho:OpR X (binaryOp op) r) (ha:PE X a ta) (hb:PE X b tb):PE X (.BinOp a op b pos) (tOp r ta tb):=by
 intro pins s σ H Q I h
 exact wpAny_BinOp (binT ha hb I h fun v u s2 x y H2 I2 rx ry q=>ho pins s2 σ H2 x y v u Q I2 rx ry q)
theorem zqO {op:UnaryOp} {r:V->Hp->VK->Prop} (ho:UnR X (unaryOp op) r) (ha:PE X a ta):PE X (.UnaryOp op a pos) (tUn r ta):=by
 intro pins s σ H Q I h
 exact UnaryOp_ (thn (ha pins s σ H _ I h) fun v s1 ⟨x,H1,I1,r1,q1⟩=>ho pins s1 σ H1 x v Q I1 r1 q1)
theorem opI {f:Value->Value->Sem Value} {C:Int->Int->Prop} {g:Int->Int->Int}
 (rule:∀ (i j:Int) (t u:Tok) (s:Shared) (Q:Value->Shared->Prop) (E:Value->Shared->Prop),C i j->Q (.int (g i j) s.toks) { s with toks:=s.toks+1 }->wpAny (model X.prog X.w) X.A (f (.int i t) (.int j u)) Q E s) :
 OpR X f (rI C fun i j=>.int (g i j)):=by
 intro pins s σ H x y v u Q I rx ry h
 obtain ⟨i,j,rfl,rfl,hc,q⟩:=h
 obtain ⟨t,rfl⟩:=rx
 obtain ⟨t',rfl⟩:=ry
 exact rule i j t t' s _ _ hc ⟨.int (g i j),H,I.tok _,⟨_,rfl⟩,q⟩
theorem opI0 {f:Value->Value->Sem Value} {g:Int->Int->Int}
 (rule:∀ (i j:Int) (t u:Tok) (s:Shared) (Q:Value->Shared->Prop) (E:Value->Shared->Prop),Q (.int (g i j) s.toks) { s with toks:=s.toks+1 }->wpAny (model X.prog X.w) X.A (f (.int i t) (.int j u)) Q E s) :
 OpR X f (rI0 fun i j=>.int (g i j)):=by
 intro pins s σ H x y v u Q I rx ry h
 obtain ⟨i,j,rfl,rfl,q⟩:=h
 obtain ⟨t,rfl⟩:=rx
 obtain ⟨t',rfl⟩:=ry
 exact rule i j t t' s _ _ ⟨.int (g i j),H,I.tok _,⟨_,rfl⟩,q⟩
theorem opB0 {f:Value->Value->Sem Value} {g:Int->Int->Bool}
 (rule:∀ (i j:Int) (t u:Tok) (s:Shared) (Q:Value->Shared->Prop) (E:Value->Shared->Prop),Q (.bool (g i j)) s->wpAny (model X.prog X.w) X.A (f (.int i t) (.int j u)) Q E s) :
 OpR X f (rI0 fun i j=>.bl (g i j)):=by
 intro pins s σ H x y v u Q I rx ry h
 obtain ⟨i,j,rfl,rfl,q⟩:=h
 obtain ⟨t,rfl⟩:=rx
 obtain ⟨t',rfl⟩:=ry
 exact rule i j t t' s _ _ ⟨.bl (g i j),H,I,rfl,q⟩
def CDiv (i j:Int):Prop:=0 < j/\j < 1073741824
def CMul (i j:Int):Prop:=(-(2 ^ 64) < i/\i < 2 ^ 64)\/(-(2 ^ 64) < j/\j < 2 ^ 64)
theorem CMul.ok {i j:Int} (h:CMul i j):IntMulOk i j:=by
 rcases h with ⟨h1,h2⟩ | ⟨h1,h2⟩
 ·exact .of_left (intBits_le_64 h1 h2)
 ·exact .of_right (intBits_le_64 h1 h2)
theorem zaP:OpR X (binaryOp .Add) (rI0 fun i j=>.int (i+j)):=opI0 fun _ _ _ _ _ _ _ q=>add_int q
theorem zlL:OpR X (binaryOp .Sub) (rI0 fun i j=>.int (i - j)):=opI0 fun _ _ _ _ _ _ _ q=>sub_int q
theorem zeU:OpR X (binaryOp .Mult) (rI CMul fun i j=>.int (i * j)):=opI fun _ _ _ _ _ _ _ hc q=>mul_int q hc.ok
theorem zcm:OpR X (binaryOp .FloorDiv) (rI CDiv fun i j=>.int (i / j)):=opI fun i j _ _ _ _ _ hc q=>by
 have h1:(0:Int) < j:=hc.1
 have h2:j < 1073741824:=hc.2
 exact floordiv_int (by omega) (by rw [Int.fdiv_eq_ediv_of_nonneg i (by omega)];exact q) (.inl (PyProof.noPylong_small (by omega)))
theorem zbA:OpR X (binaryOp .Mod) (rI (fun _ j=>0 < j) fun i j=>.int (i % j)):=opI fun i j _ _ _ _ _ hc q=>by
 have h1:(0:Int) < j:=hc
 exact mod_int' (by omega) (by rw [Int.fmod_eq_emod_of_nonneg i (by omega)];exact q)
theorem zkJ:OpR X (binaryOp .BitAnd) (rI0 fun i j=>.int (Builtin.bitAnd i j)):=opI0 fun _ _ _ _ _ _ _ q=>and_int q
theorem unI {f:Value->Sem Value} {g:Int->Int}
 (rule:∀ (i:Int) (t:Tok) (s:Shared) (Q:Value->Shared->Prop) (E:Value->Shared->Prop),Q (.int (g i) s.toks) { s with toks:=s.toks+1 }->wpAny (model X.prog X.w) X.A (f (.int i t)) Q E s) :
 UnR X f (rU fun i=>.int (g i)):=by
 intro pins s σ H x v Q I rx h
 obtain ⟨i,rfl,q⟩:=h
 obtain ⟨t,rfl⟩:=rx
 exact rule i t s _ _ ⟨.int (g i),H,I.tok _,⟨_,rfl⟩,q⟩
theorem znm:UnR X (unaryOp .USub) (rU fun i=>.int (-i)):=unI fun _ _ _ _ _ q=>neg_int q
end
def scal:V->V->Bool
 | .non,.non=>true | .non,.int _=>true | .int _,.non=>true | .non,.bl _=>true | .bl _,.non=>true | .non,.str _=>true | .str _,.non=>true
 | .int _,.int _=>true | .bl _,.bl _=>true | .str _,.str _=>true | .byt _,.byt _=>true
 | .int _,.str _=>true | .str _,.int _=>true | .bl _,.str _=>true | .str _,.bl _=>true
 | _,_=>false
def rEq:R2:=fun x y H Q=>scal x y=true/\Q (.bl (decide (x=y))) H
def rNe:R2:=fun x y H Q=>scal x y=true/\Q (.bl (!decide (x=y))) H
theorem zlj {i j:Int}:decide (V.int i=V.int j)=(i == j):=by
 rw [Bool.eq_iff_iff]
 simp
theorem znt {i j:Bool}:decide (V.bl i=V.bl j)=(i == j):=by
 rw [Bool.eq_iff_iff]
 simp
theorem zln {i j:Str}:decide (V.str i=V.str j)=(i == j):=by
 rw [Bool.eq_iff_iff]
 simp
theorem zkB {i j:Array UInt8}:decide (V.byt i=V.byt j)=(i.toList == j.toList):=by
 rw [Bool.eq_iff_iff]
 cases i
 cases j
 simp
section
variable {X:Cx} {a b c:Expr} {ta tb tc:TE} {pos:Pos}
theorem zaF {pins:List (Addr × Obj)} {σ:St} {H:Hp} {s:Shared} {Q:VK} {k k':Bool} (I:Inv X pins σ H s) (q:Q (.bl k) H) (e:k=k'):EP X pins σ Q (.bool k') s:=by
 subst e
 exact ⟨.bl k,H,I,rfl,q⟩
theorem zgw:OpR X (compareOp .Eq) rEq:=by
 intro pins s σ H x y v u Q I rx ry h
 obtain ⟨hs,q⟩:=h
 cases x with
 | non =>
   cases rx
   cases y with
   | non=>cases ry;exact PySem.EqNone.eq_none_none (zaF I q (by simp))
   | bl j=>cases ry;exact PySem.EqNone.eq_none_bool (zaF I q (by simp))
   | int j=>obtain ⟨t',rfl⟩:=ry;exact PySem.EqNone.eq_none_int (zaF I q (by simp))
   | str j=>obtain ⟨t',rfl⟩:=ry;exact PySem.EqNone.eq_none_str (zaF I q (by simp))
   | _=>exact absurd (show false=true from hs) Bool.false_ne_true
 | bl i =>
   cases rx
   cases y with
   | non=>cases ry;exact PySem.EqNone.eq_bool_none (zaF I q (by simp))
   | bl j=>cases ry;exact eq_bool (zaF I q znt)
   | str j=>obtain ⟨t',rfl⟩:=ry;exact PySem.EqMixed.eq_bool_str (zaF I q (by simp))
   | _=>exact absurd (show false=true from hs) Bool.false_ne_true
 | int i =>
   obtain ⟨t,rfl⟩:=rx
   cases y with
   | non=>cases ry;exact PySem.EqNone.eq_int_none (zaF I q (by simp))
   | int j=>obtain ⟨t',rfl⟩:=ry;exact eq_int (zaF I q zlj)
   | str j=>obtain ⟨t',rfl⟩:=ry;exact PySem.EqMixed.eq_int_str (zaF I q (by simp))
   | _=>exact absurd (show false=true from hs) Bool.false_ne_true
 | str i =>
   obtain ⟨t,rfl⟩:=rx
   cases y with
   | non=>cases ry;exact PySem.EqNone.eq_str_none (zaF I q (by simp))
   | bl j=>cases ry;exact PySem.EqMixed.eq_str_bool (zaF I q (by simp))
   | int j=>obtain ⟨t',rfl⟩:=ry;exact PySem.EqMixed.eq_str_int (zaF I q (by simp))
   | str j=>obtain ⟨t',rfl⟩:=ry;exact eq_str (zaF I q zln)
   | _=>exact absurd (show false=true from hs) Bool.false_ne_true
 | byt i =>
   obtain ⟨t,rfl⟩:=rx
   cases y with
   | byt j=>obtain ⟨t',rfl⟩:=ry;exact PySem.W.eq_bytes (zaF I q zkB)
   | _=>exact absurd (show false=true from hs) Bool.false_ne_true
 | _=>cases y <;> exact absurd (show false=true from hs) Bool.false_ne_true
theorem ziE:OpR X (compareOp .NotEq) rNe:=by
 intro pins s σ H x y v u Q I rx ry h
 obtain ⟨hs,q⟩:=h
 cases x with
 | non =>
   cases rx
   cases y with
   | non=>cases ry;exact PySem.EqNone.ne_none_none (zaF I q (by simp))
   | bl j=>cases ry;exact PySem.EqNone.ne_none_bool (zaF I q (by simp))
   | int j=>obtain ⟨t',rfl⟩:=ry;exact PySem.EqNone.ne_none_int (zaF I q (by simp))
   | str j=>obtain ⟨t',rfl⟩:=ry;exact PySem.EqNone.ne_none_str (zaF I q (by simp))
   | _=>exact absurd (show false=true from hs) Bool.false_ne_true
 | bl i =>
   cases rx
   cases y with
   | non=>cases ry;exact PySem.EqNone.ne_bool_none (zaF I q (by simp))
   | bl j=>cases ry;exact ne_bool (zaF I q (congrArg not znt))
   | str j=>obtain ⟨t',rfl⟩:=ry;exact PySem.EqMixed.ne_bool_str (zaF I q (by simp))
   | _=>exact absurd (show false=true from hs) Bool.false_ne_true
 | int i =>
   obtain ⟨t,rfl⟩:=rx
   cases y with
   | non=>cases ry;exact PySem.EqNone.ne_int_none (zaF I q (by simp))
   | int j=>obtain ⟨t',rfl⟩:=ry;exact ne_int (zaF I q (congrArg not zlj))
   | str j=>obtain ⟨t',rfl⟩:=ry;exact PySem.EqMixed.ne_int_str (zaF I q (by simp))
   | _=>exact absurd (show false=true from hs) Bool.false_ne_true
 | str i =>
   obtain ⟨t,rfl⟩:=rx
   cases y with
   | non=>cases ry;exact PySem.EqNone.ne_str_none (zaF I q (by simp))
   | bl j=>cases ry;exact PySem.EqMixed.ne_str_bool (zaF I q (by simp))
   | int j=>obtain ⟨t',rfl⟩:=ry;exact PySem.EqMixed.ne_str_int (zaF I q (by simp))
   | str j=>obtain ⟨t',rfl⟩:=ry;exact ne_str (zaF I q (congrArg not zln))
   | _=>exact absurd (show false=true from hs) Bool.false_ne_true
 | byt i =>
   obtain ⟨t,rfl⟩:=rx
   cases y with
   | byt j=>obtain ⟨t',rfl⟩:=ry;exact PySem.W.ne_bytes (zaF I q (congrArg not zkB))
   | _=>exact absurd (show false=true from hs) Bool.false_ne_true
 | _=>cases y <;> exact absurd (show false=true from hs) Bool.false_ne_true
theorem zmh:OpR X (compareOp .Lt) (rI0 fun i j=>.bl (decide (i < j))):=opB0 fun _ _ _ _ _ _ _ q=>lt_int q
theorem zor:OpR X (compareOp .LtE) (rI0 fun i j=>.bl (decide (i<=j))):=opB0 fun _ _ _ _ _ _ _ q=>le_int q
theorem zhK:OpR X (compareOp .Gt) (rI0 fun i j=>.bl (decide (j < i))):=opB0 fun _ _ _ _ _ _ _ q=>gt_int q
theorem ztt:OpR X (compareOp .GtE) (rI0 fun i j=>.bl (decide (j<=i))):=opB0 fun _ _ _ _ _ _ _ q=>ge_int q
theorem OpR.or {f:Value->Value->Sem Value} {r r':R2} (h:OpR X f r) (h':OpR X f r'):OpR X f (fun x y H Q=>r x y H Q\/r' x y H Q):=by
 intro pins s σ H x y v u Q I rx ry q
 rcases q with q | q
 ·exact h pins s σ H x y v u Q I rx ry q
 ·exact h' pins s σ H x y v u Q I rx ry q
theorem zas (b:Expr) {op:CmpOp} (h:op ≠ .In:=by decide) (h2:op ≠ .NotIn:=by decide):behindInMarks op b=false:=by
 have e1:(op == CmpOp.In)=false:=by cases op <;> first | rfl | exact absurd rfl h
 have e2:(op == CmpOp.NotIn)=false:=by cases op <;> first | rfl | exact absurd rfl h2
 cases b <;> simp [behindInMarks,e1,e2]
theorem zaL {op:CmpOp} {r:R2} (ho:OpR X (compareOp op) r) (ha:PE X a ta) (hb:PE X b tb) (hm:behindInMarks op b=false):PE X (.Compare a [op] [b] pos) (tOp r ta tb):=by
 intro pins s σ H Q I h
 exact wpAny_Compare1 (binT ha hb I h fun v u s2 x y H2 I2 rx ry q=>ho pins s2 σ H2 x y v u Q I2 rx ry q) hm
def zpY (t:TE):TT:=fun σ H Q=>t σ H fun x H'=>∃ k,x=.bl k/\Q k H'
theorem zaA {op:CmpOp} {r:R2} (ho:OpR X (compareOp op) r) (ha:PE X a ta) (hb:PE X b tb) (hm:behindInMarks op b=false):PT X (.Compare a [op] [b] pos) (zpY (tOp r ta tb)):=by
 intro pins s σ H Q I h
 refine wpAny_isTrue_Compare1 (thn (ha pins s σ H _ I h) fun v s1 ⟨x,H1,I1,r1,q1⟩=>thn (hb pins s1 σ H1 _ I1 q1) fun u s2 ⟨y,H2,I2,r2,q2⟩ =>
  thn (ho pins s2 σ H2 x y v u _ I2 r1 r2 q2) fun c s3 ⟨z,H3,I3,r3,k,e,q3⟩=>?_) hm
 subst e
 cases r3
 exact wpAny_truthy_bool ⟨H3,I3,q3⟩
def zsH (r r':R2) (ta tb tc:TE):TE:=fun σ H Q=>ta σ H fun x H1=>tb σ H1 fun y H2=>r x y H2 fun z H3=>∃ k,z=.bl k /\
 (if k=true then tc σ H3 fun w' H4=>r' y w' H4 Q else Q (.bl false) H3)
theorem zmd {op op':CmpOp} {r r':R2} (ho:OpR X (compareOp op) r) (ho':OpR X (compareOp op') r') (ha:PE X a ta) (hb:PE X b tb) (hc:PE X c tc)
 (hm:lastMarks [op,op'] [b,c]=false:=by with_unfolding_all rfl):PT X (.Compare a [op,op'] [b,c] pos) (zpY (zsH r r' ta tb tc)):=by
 intro pins s σ H Q I h
 refine isTrue_chain (thn (ha pins s σ H _ I h) fun v s1 ⟨x,H1,I1,r1,q1⟩=>test_link (thn (hb pins s1 σ H1 _ I1 q1) fun u s2 ⟨y,H2,I2,r2,q2⟩ =>
  thn (ho pins s2 σ H2 x y v u _ I2 r1 r2 q2) fun d s3 ⟨z,H3,I3,r3,k,e,q3⟩=>?_)) hm
 subst e
 cases r3
 refine wpAny_truthy_bool ?_
 cases k with
 | false =>
   obtain ⟨k',e',q'⟩:=q3
   cases e'
   exact ite_ff ⟨H3,I3,q'⟩
 | true =>
   refine ite_tt (test_last (thn (hc pins s3 σ H3 _ I3 q3) fun w' s4 ⟨z',H4,I4,r4,q4⟩=>thn (ho' pins s4 σ H4 y z' u w' _ I4 r2 r4 q4) fun d' s5 ⟨z2,H5,I5,r5,k2,e2,q5⟩=>?_))
   subst e2
   cases r5
   exact wpAny_truthy_bool ⟨H5,I5,q5⟩
theorem zfE:(sizeLine:Nat) < 2 ^ 63:=by rw [sizeLine_eq];decide
theorem zfO:OpR X (binaryOp .Add) (fun x y H Q=>∃ i j,x=.str i/\y=.str j/\i.length+j.length<=sizeLine/\Q (.str (i++j)) H):=by
 intro pins s σ H x y v u Q I rx ry h
 obtain ⟨i,j,rfl,rfl,hz,q⟩:=h
 obtain ⟨t,rfl⟩:=rx
 obtain ⟨t',rfl⟩:=ry
 exact add_str (fun t' tk=>⟨.str (i++j),H,I.tok _,⟨_,rfl⟩,q⟩) hz
theorem zfA {x:V} {us:List Value} (r:Vals [x] us):∃ u,us=[u]/\RelV x u:=by
 cases r with
 | cons r1 r2=>cases r2;exact ⟨_,rfl,r1⟩
theorem zuN {x y:V} {us:List Value} (r:Vals [x,y] us):∃ u w',us=[u,w']/\RelV x u/\RelV y w':=by
 cases r with
 | cons r1 r2 =>
   cases r2 with
   | cons r3 r4=>cases r4;exact ⟨_,_,rfl,r1,r3⟩
theorem zhh:zcW X (.type "int") (fun xs H Q=>(∃ i,xs=[.int i]/\Q (.int i) H)\/∃ k,xs=[.bl k]/\Q (.int (if k then 1 else 0)) H):=by
 intro pins s σ H xs us Q I r h
 rcases h with ⟨i,rfl,q⟩ | ⟨k,rfl,q⟩
 ·obtain ⟨u,rfl,t,rfl⟩:=zfA r
  exact call_int_int ⟨.int i,H,I,⟨_,rfl⟩,q⟩
 ·obtain ⟨u,rfl,r1⟩:=zfA r
  cases r1
  exact call_int_bool ⟨.int (if k then 1 else 0),H,I.tok _,⟨_,rfl⟩,q⟩
end
end L2
namespace L2
open PySem PySem.Spec PyProof.Rows
structure ObjM (h:Heap) (x dx C:Addr) (mA:Str->Option Value):Prop where
 obj:h.get? x=some (PySem.W.instObj C dx)
 ns:h.Ns1 dx mA
 ne:dx ≠ x
theorem zlT {h:Heap} {dx:Addr} {mA:Str->Option Value} (n:h.Ns1 dx mA):∃ od,h.get? dx=some od/\∀ name,PySem.W.lookIn name od=some (mA name):=by
 obtain ⟨o,es,ep,ho,hd,hk,_,hm⟩:=n
 refine ⟨o,ho,fun name=>?_⟩
 have e:=hm name
 unfold nsFind findBy at e
 rw [<- Array.find?_toList] at e
 unfold PySem.W.lookIn
 rw [hd]
 dsimp only
 split
 ·rename_i y q
  rw [q] at e
  exact congrArg some e
 ·rename_i q
  rw [q] at e
  have a:es.toList.any (·.refKey)=false:=by
   rw [List.any_eq_false]
   intro y hy
   obtain ⟨z,t,hkey⟩:=hk y (Array.mem_toList_iff.mp hy)
   simp [DictEntry.refKey,hkey]
  have a':¬ es.toList.any (·.refKey)=true:=by rw [a];exact Bool.false_ne_true
  rw [if_neg a']
  exact congrArg some e
theorem ObjM.look {h:Heap} {x dx C:Addr} {mA:Str->Option Value} (I:ObjM h x dx C mA):∃ od,PySem.W.InstAt h x (PySem.W.instObj C dx) C (some od)/\∀ name,PySem.W.lookIn name od=some (mA name) :=
 let ⟨od,ho,hl⟩:=zlT I.ns
 ⟨od,⟨I.obj,rfl,rfl,ho⟩,hl⟩
section
variable {prog:Program} {w:World} {A:Around} {E:Value->Shared->Prop} {s:Shared} {K:PySem.W.Frag} {x dx C f:Addr} {mA:Str->Option Value} {name:Str} {v:Value}
theorem zos {expr:Bool} {Q:Value->Shared->Prop} (X:K.In s.heap) (I:ObjM s.heap x dx C mA) (hg:PySem.W.plainGet K C name=true) (hh:PySem.W.hasDictIn K C=true)
 (ha:PySem.W.findIn K (.ref C) name=some none) (hv:mA name=some v) (hv':PySem.W.handedIn v=true) (h:Q v { s with toks:=s.toks+1 }) :
 wpAny (model prog w) A (getAttr (.ref x) name expr) Q E s:=by
 obtain ⟨od,J,hl⟩:=I.look
 exact PySem.W.get_value X J (PySem.W.plainGet_of hg).1 (PySem.W.findObj_own hh ha rfl (by rw [hl,hv])) hv' h
theorem zmF {pl:Sem Bool} {Q:Value × List Value->Shared->Prop} (X:K.In s.heap) (I:ObjM s.heap x dx C mA) (hg:PySem.W.plainGet K C name=true)
 (hf:PySem.W.findIn K (.ref C) name=some (some (.ref f))) (ht:PySem.W.isFn K (.ref f)=true) (hv:mA name=none) (h:Q (.ref f,[.ref x]) s) :
 wpAny (model prog w) A (getMethod (.ref x) name pl) Q E s:=by
 obtain ⟨od,J,hl⟩:=I.look
 exact PySem.W.method_fn X J (PySem.W.plainGet_of hg).1 (PySem.W.plainGet_of hg).2 hf (beq_iff_eq.mp ht) (by show (PySem.W.lookIn name od).map (·.isSome)=some false;rw [hl,hv];rfl) h
theorem zoc {ns:List Str} {Q:Unit->Shared->Prop} (X:K.In s.heap) (I:ObjM s.heap x dx C mA)
 (hs:PySem.W.findIn K (.ref C) "__setattr__"=some (some (.builtin "object.__setattr__"))) (hp:PySem.W.plainOver K C=true) (ht:PySem.W.takerIn K C name=some none) (hh:PySem.W.hasDictIn K C=true)
 (hw:PySem.Within mA ns) (hsz:ns.length<=sizeLine)
 (h:∀ h',ObjM h' x dx C (fun y=>if y=name then some v else mA y)->Heap.SameBut dx s.heap h'->Q () { s with heap:=h',toks:=s.toks+2 }) :
 wpAny (model prog w) A (setAttr (.ref x) name v) Q E s:=by
 obtain ⟨od,J,hl⟩:=I.look
 refine PySem.W.set_plain X J hs (PySem.W.osa_open (s:={ s with toks:=s.toks+1 }) (r:=none) X J hp ht fun b=>?_)
 obtain ⟨cd,hc,hd'⟩:=PySem.W.any_some hh
 have hx:s.heap.get? x=some ⟨.ref C,some dx,.plain,#[]⟩:=I.obj
 refine wpAny_bind (wpAny_pure (wpAny_bind (wpAny_bind (wpAny_loadPart hx (wpAny_bind (PySem.W.Looks.here (s:={ s with toks:=s.toks+1 }) (PySem.W.looks_clsIn X hc) ?_))))))
 rw [hd']
 refine wpAny_pure (a:=some dx) (wpAny_bind (wpAny_pure (wpAny_bind ?_)))
 refine wpAny_nsSet1 (s:={ s with toks:=s.toks+1 }) I.ns fun h' hn2 hs2=>?_
 obtain ⟨oD,esD,epD,hoD,hdD,hcD⟩:=hn2.count (PySem.Within.cons name v hw)
 refine wpAny_bind (wpAny_lookBehind hoD (by rw [hdD];exact pastItsLine_dict (Nat.le_trans hcD (by rw [List.length_cons];omega))) ?_)
 exact wpAny_pure (h _ ⟨(hs2.2 _ (Ne.symm I.ne)).trans I.obj,hn2,I.ne⟩ hs2)
theorem zmc {R:Result->Shared->Prop} {vs:List Value} {kw:List (Str × Value)} (X:K.In s.heap) (hm:PySem.W.makesIn K C=true)
 (hi:PySem.W.findIn K (.ref C) "__init__"=some (some (.ref f))) (hf:PySem.W.typeIn K (.ref f)=some (.type "function"))
 (h:codeAny (model prog w) (A.under (.builtin "type.__call__" ⟨.ref C :: vs,kw⟩)) (.call (.ref f) ⟨.ref (s.heap.objs.size+1) :: vs,kw⟩) (PySem.W.InitBack (s.heap.objs.size+1) R)
   { s with heap:=(s.heap.push PySem.W.emptyDict).push (PySem.W.instObj C s.heap.objs.size) }) :
 codeAny (model prog w) A (.call (.ref C) ⟨vs,kw⟩) R s:=by
 obtain ⟨hh,g,d,t,os⟩:=s
 exact PySem.W.make_core (PySem.W.makes_of X hm) (PySem.W.looks_findIn X hi) (fun self=>PySem.W.bind_fn X self hf) (.inl rfl) h
end
def putF (f:Str) (v:V):List (Str × V)->List (Str × V)
 | []=>[(f,v)]
 | (g,x) :: r=>if g=f then (g,v) :: r else (g,x) :: putF f v r
theorem zdA (f g:Str) (v:V):∀ fs:List (Str × V),(putF f v fs).lookup g=if g=f then some v else fs.lookup g
 | []=>by
   show List.lookup g [(f,v)]=_
   by_cases h:g=f
   ·have hb:(g == f)=true:=beq_iff_eq.mpr h
    simp only [List.lookup,hb,if_pos h]
   ·have hb:(g == f)=false:=beq_eq_false_iff_ne.mpr h
    simp only [List.lookup,hb,if_neg h]
 | (k,x) :: r=>by
   have ih:=zdA f g v r
   rw [show putF f v ((k,x) :: r)=(if k=f then (k,v) :: r else (k,x) :: putF f v r) from rfl]
   by_cases hk:k=f
   ·rw [if_pos hk]
    by_cases h:g=k
    ·have hb:(g == k)=true:=beq_iff_eq.mpr h
     simp only [List.lookup,hb,if_pos (h.trans hk)]
    ·have hb:(g == k)=false:=beq_eq_false_iff_ne.mpr h
     simp only [List.lookup,hb,if_neg (fun e:g=f=>h (e.trans hk.symm))]
   ·rw [if_neg hk]
    by_cases h:g=k
    ·have hb:(g == k)=true:=beq_iff_eq.mpr h
     simp only [List.lookup,hb,if_neg (fun e:g=f=>hk (h.symm.trans e))]
    ·have hb:(g == k)=false:=beq_eq_false_iff_ne.mpr h
     simp only [List.lookup,hb]
     exact ih
theorem zfc (f:Str) (v:V):∀ fs:List (Str × V),f ∈ (putF f v fs).map (·.1)/\∀ g,g ∈ fs.map (·.1)->g ∈ (putF f v fs).map (·.1)
 | []=>⟨by simp [putF],fun g h=>by simp at h⟩
 | (k,x) :: r=>by
   obtain ⟨i1,i2⟩:=zfc f v r
   rw [show putF f v ((k,x) :: r)=(if k=f then (k,v) :: r else (k,x) :: putF f v r) from rfl]
   by_cases hk:k=f
   ·rw [if_pos hk]
    subst hk
    exact ⟨by simp,fun g h=>by simpa using h⟩
   ·rw [if_neg hk]
    refine ⟨?_,fun g h=>?_⟩
    ·rw [List.map_cons]
     exact List.mem_cons_of_mem _ i1
    ·rw [List.map_cons] at h ⊢
     rcases List.mem_cons.mp h with e | e
     ·exact List.mem_cons.mpr (.inl e)
     ·exact List.mem_cons_of_mem _ (i2 g e)
theorem zeK (f:Str) (v:V):∀ fs:List (Str × V),(putF f v fs).length<=fs.length+1
 | []=>by simp [putF]
 | (k,x) :: r=>by
   have ih:=zeK f v r
   rw [show putF f v ((k,x) :: r)=(if k=f then (k,v) :: r else (k,x) :: putF f v r) from rfl]
   by_cases hk:k=f
   ·rw [if_pos hk,List.length_cons,List.length_cons];omega
   ·rw [if_neg hk,List.length_cons,List.length_cons];omega
theorem RelO.some_of {v:V} {o:Option Value} (r:RelO (some v) o):∃ u,o=some u/\RelV v u:=by
 cases o with
 | none=>exact (show False from r).elim
 | some u=>exact ⟨u,rfl,r⟩
theorem RelO.none_of {o:Option Value} (r:RelO none o):o=none:=by
 cases o with
 | none=>rfl
 | some u=>exact (show False from r).elim
theorem zlk {v:V} {u:Value} (r:RelV v u):PySem.W.handedIn u=true:=by
 cases v with
 | non=>cases (show u=Value.none from r);rfl
 | bl b=>cases (show u=Value.bool b from r);rfl
 | int i=>obtain ⟨t,e⟩:=(show ∃ t,u=Value.int i t from r);cases e;rfl
 | str x=>obtain ⟨t,e⟩:=(show ∃ t,u=Value.str x t from r);cases e;rfl
 | byt b=>obtain ⟨t,e⟩:=(show ∃ t,u=Value.bytes b t from r);cases e;rfl
 | flt b=>obtain ⟨t,e⟩:=(show ∃ t,u=Value.float b t from r);cases e;rfl
 | ref a=>cases (show u=Value.ref a from r);rfl
 | ty n=>cases (show u=Value.type n from r);rfl
section
variable {P:Program} {w:World} {H H':Hp} {h h':Heap} {a C dx:Addr} {fs fs':List (Str × V)}
theorem zhV (hok:HOk P w H h) (e:H a=some (.ins C dx fs)):∃ mA,ObjM h a dx C mA/\(∀ f,RelO (fs.lookup f) (mA f))/\PySem.Within mA (fs.map (·.1))/\fs.length<=1000/\H dx=some (.own a):=by
 obtain ⟨d,z,ne,ob,mA,n,r,q⟩:=(show zed P w H h a (.ins C dx fs) from hok a _ e)
 exact ⟨mA,⟨ob,n,ne⟩,r,q,z,d⟩
end
structure Cls (K:PySem.W.Frag) (C:Addr):Prop where
 pg:PySem.W.plainGet K C Str.empty=true
 hd:PySem.W.hasDictIn K C=true
 po:PySem.W.plainOver K C=true
 sa:PySem.W.findIn K (.ref C) "__setattr__"=some (some (.builtin "object.__setattr__"))
theorem Cls.get {K:PySem.W.Frag} {C:Addr} (c:Cls K C) (f:Str):PySem.W.plainGet K C f=true:=c.pg
def zbP (K:PySem.W.Frag) (C:Addr) (f:Str):Prop:=PySem.W.findIn K (.ref C) f=some none
theorem zbP.taker {K:PySem.W.Frag} {C:Addr} {f:Str} (n:zbP K C f):PySem.W.takerIn K C f=some none:=by
 unfold PySem.W.takerIn
 rw [show PySem.W.findIn K (.ref C) f=some none from n]
 rfl
structure Meth (K:PySem.W.Frag) (C:Addr) (m:Str) (f:Addr):Prop where
 at_:PySem.W.findIn K (.ref C) m=some (some (.ref f))
 fn:PySem.W.isFn K (.ref f)=true
 kp:PySem.W.keepIn K (.ref f)=true
section
variable {X:Cx} {pins:List (Addr × Obj)} {σ:St} {H:Hp} {s:Shared} {a C dx:Addr} {fs:List (Str × V)} {f:Str} {v:V} {A:Around} {E:Value->Shared->Prop}
theorem zjY {b:Bool} {Q:Value->Shared->Prop} (I:Inv X pins σ H s) (e:H a=some (.ins C dx fs)) (c:Cls X.K C) (n:zbP X.K C f) (l:fs.lookup f=some v)
 (h:∀ u s',Inv X pins σ H s'->RelV v u->Q u s'):wpAny (model X.prog X.w) A (getAttr (.ref a) f b) Q E s:=by
 obtain ⟨mA,O,r,_,_,_⟩:=zhV I.hok e
 obtain ⟨u,hu,ru⟩:=RelO.some_of (v:=v) (o:=mA f) (by rw [<- l];exact r f)
 exact zos I.kIn O (c.get f) c.hd n hu (zlk ru) (h u _ (I.tok _) ru)
theorem zfU {m:Str} {g:Addr} {pl:Sem Bool} {Q:Value × List Value->Shared->Prop} (I:Inv X pins σ H s) (e:H a=some (.ins C dx fs)) (c:Cls X.K C) (k:Meth X.K C m g) (l:fs.lookup m=none)
 (h:Q (.ref g,[.ref a]) s):wpAny (model X.prog X.w) A (getMethod (.ref a) m pl) Q E s:=by
 obtain ⟨mA,O,r,_,_,_⟩:=zhV I.hok e
 have hn:mA m=none:=RelO.none_of (by rw [<- l];exact r m)
 exact zmF I.kIn O (c.get m) k.at_ k.fn hn h
theorem zjU {y:V} {u:Value} {Q:Unit->Shared->Prop} (I:Inv X pins σ H s) (e:H a=some (.ins C dx fs)) (c:Cls X.K C) (n:zbP X.K C f) (hl:fs.length < 1000) (ry:RelV y u)
 (h:∀ s',Inv X pins σ (upd H a (.ins C dx (putF f y fs))) s'->Q () s'):wpAny (model X.prog X.w) A (setAttr (.ref a) f u) Q E s:=by
 obtain ⟨mA,O,r,wi,_,ho⟩:=zhV I.hok e
 have hz:(fs.map (·.1)).length<=sizeLine:=by rw [List.length_map,sizeLine_eq];omega
 refine zoc I.kIn O c.sa c.po n.taker c.hd wi hz fun h' O' sb=>h _ ?_
 have hd:∃ o,h'.get? dx=some o:=let ⟨o,_,_,e',_⟩:=O'.ns;⟨o,e'⟩
 refine I.write (x:=a) (e:=dx) (by rw [e];exact True.intro) (.inr ho) (fun b q hb z=>(sb.2 b hb).trans z) hd ?_
 refine ⟨by rw [zai O.ne];exact ho,?_,O.ne,O'.obj,_,O'.ns,fun g=>?_,fun g hg=>?_⟩
 ·have:=zeK f y fs;omega
 ·show RelO ((putF f y fs).lookup g) (if g=f then some u else mA g)
  rw [zdA]
  by_cases q:g=f
  ·rw [if_pos q,if_pos q];exact ry
  ·rw [if_neg q,if_neg q];exact r g
 ·by_cases q:g=f
  ·rw [q];exact (zfc f y fs).1
  ·refine (zfc f y fs).2 g (wi g fun z=>hg ?_)
   show (if g=f then some u else mA g)=none
   rw [if_neg q];exact z
theorem Inv.made (I:Inv X pins σ H s):Inv X pins σ (upd (upd H s.heap.objs.size (.own (s.heap.objs.size+1))) (s.heap.objs.size+1) (.ins C s.heap.objs.size []))
 { s with heap:=(s.heap.push PySem.W.emptyDict).push (PySem.W.instObj C s.heap.objs.size) }:=by
 have e1:(s.heap.push PySem.W.emptyDict).get? s.heap.objs.size=some PySem.W.emptyDict:=Heap.get?_push_size s.heap rfl
 have e2:((s.heap.push PySem.W.emptyDict).push (PySem.W.instObj C s.heap.objs.size)).get? (s.heap.objs.size+1)=some (PySem.W.instObj C s.heap.objs.size):=by
  have:=Heap.get?_push_size (s.heap.push PySem.W.emptyDict) (o:=PySem.W.instObj C s.heap.objs.size) rfl
  rwa [Heap.size_push] at this
 have e3:(s.heap.push PySem.W.emptyDict).Ns s.heap.objs.size (fun _=>none):=⟨PySem.W.emptyDict,#[],_,e1,rfl,(fun e he=>absurd he (by simp)),fun _=>rfl⟩
 have I1:=I.laid (a:=s.heap.objs.size) (o:=.own (s.heap.objs.size+1)) (h':=s.heap.push PySem.W.emptyDict) (t':=s.toks) (fun b u q=>Heap.get?_push_of_some _ q) (Nat.le_refl _) ⟨_,e1⟩
 refine I1.laid (a:=s.heap.objs.size+1) (o:=.ins C s.heap.objs.size []) (t':=s.toks) (fun b u q=>Heap.get?_push_of_some _ q) (Nat.le_of_eq (Heap.size_push _ _)) ?_
 have ne:s.heap.objs.size ≠ s.heap.objs.size+1:=Nat.ne_of_lt (Nat.lt_succ_self _)
 refine ⟨by rw [zai ne,upd_same],Nat.zero_le _,ne,e2,fun _=>none,(Heap.Ns1.of_empty e3).at fun o q=>Heap.get?_push_of_some _ q,fun _=>True.intro,fun y hy=>absurd rfl hy⟩
theorem zoo {prog:Program} {w:World} {env:Env} {e:Expr} {f:Str} {pos:Pos} {s:Shared} {Q:Value->Shared->Prop} (hb:attributeBase e f env (eval e env)=eval e env)
 (h:wpAny (model prog w) A (eval e env) (fun o s₁=>wpAny (model prog w) A (getAttr o f true) Q E s₁) E s):wpAny (model prog w) A (eval (.Attribute e f pos) env) Q E s :=
 Attribute_any_ h (by rw [arm_eval_Attribute,hb])
end
section
variable {X:Cx} {o e value:Expr} {f:Str} {pos pos' tpos:Pos} {ta tv:TE}
end
section
variable {X:Cx} {pins:List (Addr × Obj)} {σ:St} {H:Hp} {s:Shared} {A:Around} {E:Value->Shared->Prop} {Q:Value->Shared->Prop} {c:Value} {b:Bool}
end
end L2
namespace L2
open PySem PySem.Spec PyProof.Rows
structure Room (k:Nat) (A:Around):Prop where
 hd:A.handled=none
 dp:A.depth+3 * k+5 < recursionLimit
 un:A.units+16 * k+200 < cLine
theorem Room.mono {j k:Nat} {A:Around} (r:Room k A) (h:j<=k):Room j A:=⟨r.hd,by have:=r.dp;omega,by have:=r.un;omega⟩
theorem Room.deeper {k:Nat} {A:Around} (r:Room (k+1) A) (env:Env):Room k (A.deeper env) :=
 ⟨r.hd,by have:=r.dp;show A.depth+1+3 * k+5 < _;omega,by have:=r.un;show A.units+3+16 * k+200 < _;omega⟩
theorem Room.in1 {k:Nat} {A:Around} (r:Room (k+1) A):Room k A.in1 :=
 ⟨r.hd,by have:=r.dp;show A.depth+3 * k+5 < _;omega,by have:=r.un;show A.units+1+16 * k+200 < _;omega⟩
theorem zkm {A:Around} {C:Addr} {us:List Value} {kw:List (Str × Value)}:(A.under (.builtin "type.__call__" ⟨.ref C :: us,kw⟩)).depth=A.depth+1:=by
 first | rfl | simp [Around.under,Code.weight,Code.isCreation,Code.isGuard,Code.isCaller,Code.frames,Code.isFrame,guardIds]
theorem zkg {A:Around} {C:Addr} {us:List Value} {kw:List (Str × Value)}:(A.under (.builtin "type.__call__" ⟨.ref C :: us,kw⟩)).units=A.units+1:=by
 first | rfl | simp [Around.under,Code.cUnits,Code.frames,Code.isFrame]
theorem Room.make {k:Nat} {A:Around} (r:Room (k+1) A) (C:Addr) (us:List Value) (kw:List (Str × Value)):Room k (A.under (.builtin "type.__call__" ⟨.ref C :: us,kw⟩)) :=
 ⟨r.hd,by have:=r.dp;rw [zkm];omega,by have:=r.un;rw [zkg];omega⟩
theorem Room.depth {k:Nat} {A:Around} (r:Room k A):A.depth < recursionLimit:=by have:=r.dp;omega
theorem Room.units {k:Nat} {A:Around} (r:Room k A):A.units+64 < cLine:=by have:=r.un;omega
def tNil:TA:=fun _ H Q=>Q [] H
def znV (ta:TE) (tr:TA):TA:=fun σ H Q=>ta σ H fun x H1=>tr σ H1 fun xs H2=>Q (x :: xs) H2
section
variable {X:Cx} {e:Expr} {es:List Expr} {te:TE} {t:TA} {pos:Pos}
theorem zad:PA X [] tNil:=fun _ _ _ _ H Q I h=>Calls.spliced_nil ⟨[],H,I,.nil,h⟩
theorem zaa (ha:PE X e te) (hr:PA X es t) (hs:starEach (e :: es) X.env=(false,eval e X.env) :: starEach es X.env:=by rfl):PA X (e :: es) (znV te t):=by
 intro pos pins s σ H Q I h
 rw [hs]
 show wpAny _ _ (spliced ((false,eval e X.env) :: backTo pos (starEach es X.env))) _ _ s
 refine Calls.spliced_cons (thn (ha pins s σ H _ I h) fun u s1 ⟨x,H1,I1,r1,q1⟩=>?_)
 exact thn (hr pos pins s1 σ H1 _ I1 q1) fun us s2 ⟨xs,H2,I2,r2,q2⟩=>⟨x :: xs,H2,I2,.cons r1 r2,q2⟩
def tTup (t:TA):TE:=fun σ H Q=>t σ H fun xs H1=>xs.length<=sizeLine/\∀ p,H1 p=none->Q (.ref p) (upd H1 p (.tup xs))
def tLst (t:TA):TE:=fun σ H Q=>t σ H fun xs H1=>xs.length<=sizeLine/\∀ p,H1 p=none->Q (.ref p) (upd H1 p (.lst xs))
theorem zht {x1} (h:PA X es t):PE X (.Tuple es x1 pos) (tTup t):=by
 intro pins s σ H Q I hq
 refine wpAny_Tuple_spliced (thn (h pos pins s σ H _ I hq) fun us s1 ⟨xs,H1,I1,r,z,q⟩=>⟨by rw [<- r.length];exact z,?_⟩)
 have hf:H1 s1.heap.objs.size=none:=I1.hok.fresh (Nat.le_refl _)
 refine ⟨.ref s1.heap.objs.size,upd H1 s1.heap.objs.size (.tup xs),I1.laid (t':=s1.toks) (fun b u e=>Heap.get?_push_of_some _ e) (Nat.le_refl _) ?_,rfl,q _ hf⟩
 exact ⟨z,us,r,⟨_,Heap.get?_push_size _ rfl,rfl,_,rfl⟩⟩
theorem zaD (h:PA X es t):PE X (.List es pos) (tLst t):=by
 intro pins s σ H Q I hq
 refine wpAny_List_spliced (thn (h pos pins s σ H _ I hq) fun us s1 ⟨xs,H1,I1,r,z,q⟩=>⟨by rw [<- r.length];exact z,?_⟩)
 have hf:H1 s1.heap.objs.size=none:=I1.hok.fresh (Nat.le_refl _)
 refine ⟨.ref s1.heap.objs.size,upd H1 s1.heap.objs.size (.lst xs),I1.laid (t':=s1.toks) (fun b u e=>Heap.get?_push_of_some _ e) (Nat.le_refl _) ?_,rfl,q _ hf⟩
 exact ⟨z,us,0,r,Heap.get?_push_size _ rfl⟩
end
abbrev Sp:=List V->Hp->VK->XK->Prop
abbrev CXT:=List Env->Hp->Shared->XK->Value->Shared->Prop
structure Env0 (P:Program) (w:World) (K:PySem.W.Frag) (mg:Str->Option Value) (base:Heap) (A:Around) (outer:List Env) (s:Shared) (H:Hp):Prop where
 frames:A.frames=some outer
 mod:Mod K mg base
 bs:∀ b o,base.get? b=some o->s.heap.get? b=some o/\H b=none
 bsz:base.objs.size<=s.heap.objs.size
 funs:s.heap.FunFrames base outer
 frf:∀ b ∈ frs outer,H b=none
 hok:HOk P w H s.heap
 bare:AllBare s.gens
def CE (outer:List Env) (P:Program) (w:World) (H:Hp) (s:Shared) (Q:VK) (u:Value) (s':Shared):Prop :=
 ∃ v H',s'.os=s.os/\AllBare s'.gens/\Un (frs outer) [] H H' s.heap s'.heap/\HOk P w H' s'.heap/\RelV v u/\Q v H'
def CR (CX:CXT) (outer:List Env) (P:Program) (w:World) (H:Hp) (s:Shared) (Q:VK) (E:XK) (r:Result) (s':Shared):Prop :=
 match r with
 | .ok (.ret u)=>CE outer P w H s Q u s'
 | .ok _=>False
 | .error e=>CX outer H s E e s'
structure FnOk (P:Program) (w:World) (K:PySem.W.Frag) (mg:Str->Option Value) (base:Heap) (CX:CXT) (k:Nat) (f:Addr) (fd:FuncData) (ps:List Str) (sp:Sp):Prop where
 len:∀ vs H Q E,sp vs H Q E->vs.length=ps.length
 run:∀ (A:Around) (outer:List Env) (s:Shared) (H:Hp) (args:Args) (us:List Value) (vs:List V) (Q:VK) (E:XK),Room k A->Env0 P w K mg base A outer s H->BindsTo s fd args (ps.zip us)->Vals vs us->sp vs H Q E ->
  codeAny (model P w) A (.call (.ref f) args) (CR CX outer P w H s Q E) s
theorem FnOk.mono {P:Program} {w:World} {K:PySem.W.Frag} {mg:Str->Option Value} {base:Heap} {CX:CXT} {j k:Nat} {f:Addr} {fd:FuncData} {ps:List Str} {sp:Sp} (F:FnOk P w K mg base CX j f fd ps sp) (h:j<=k) :
 FnOk P w K mg base CX k f fd ps sp:=⟨F.len,fun A outer s H args us vs Q E hr=>F.run A outer s H args us vs Q E (hr.mono h)⟩
theorem Env0.make {P:Program} {w:World} {K:PySem.W.Frag} {mg:Str->Option Value} {base:Heap} {A:Around} {outer:List Env} {s:Shared} {H:Hp} (e:Env0 P w K mg base A outer s H) (C:Addr) (us:List Value) (kw:List (Str × Value)) :
 Env0 P w K mg base (A.under (.builtin "type.__call__" ⟨.ref C :: us,kw⟩)) outer s H:=⟨by first | exact e.frames | (simpa [Around.under,Code.envs,Code.isFrame,pushEnvs] using e.frames),e.mod,e.bs,e.bsz,e.funs,e.frf,e.hok,e.bare⟩
theorem Env0.in1 {P:Program} {w:World} {K:PySem.W.Frag} {mg:Str->Option Value} {base:Heap} {A:Around} {outer:List Env} {s:Shared} {H:Hp} (e:Env0 P w K mg base A outer s H) :
 Env0 P w K mg base A.in1 outer s H:=⟨e.frames,e.mod,e.bs,e.bsz,e.funs,e.frf,e.hok,e.bare⟩
section
variable {X:Cx} {pins:List (Addr × Obj)} {σ:St} {H:Hp} {s s':Shared}
theorem Inv.env0 (I:Inv X pins σ H s):Env0 X.prog X.w X.K X.mg X.base X.A X.stack s H :=
 ⟨I.ok.frames,I.ok.mod,I.bs,Nat.le_trans I.ok.bsz I.sz,I.stack,I.stkFree,I.hok,I.bare⟩
theorem Inv.after {Q:VK} {u:Value} (I:Inv X pins σ H s) (h:CE X.stack X.prog X.w H s Q u s'):EP X pins σ Q u s':=by
 obtain ⟨v,H',os,bare,un,hok,r,q⟩:=h
 obtain ⟨hh,g,d,t,os'⟩:=s'
 obtain rfl:os'=s.os:=os
 exact ⟨v,H',I.call (h':=hh) (g':=g) (d':=d) (t':=t) (ch:=[]) un hok bare (fun b z=>absurd z (by simp)),r,q⟩
end
def zsI (sp:Sp) (dvs:List V) (E:XK) (t:TA):TE:=fun σ H Q=>t σ H fun vs H1=>sp (vs++dvs) H1 Q E
def zjF (K:PySem.W.Frag) (fd:FuncData) (ps:List Str) (ds:List Value):Prop :=
 ∀ (s:Shared) (us:List Value),K.In s.heap->(us++ds).length=ps.length->BindsTo s fd ⟨us,[]⟩ (ps.zip (us++ds))
theorem zjF.all {K:PySem.W.Frag} {fd:FuncData} {ps:List Str} (h:∀ us:List Value,us.length=ps.length->bindArgs fd ⟨us,[]⟩=pure (ps.zip us)):zjF K fd ps []:=fun s us _ hl=>by
 rw [List.append_nil] at hl ⊢
 exact .of_eq (h us hl)
def ziU (CX:CXT) (X:Cx) (E:XK):Prop:=∀ (pins:List (Addr × Obj)) (σ:St) (H:Hp) (s:Shared) (e:Value) (s':Shared),Inv X pins σ H s->CX X.stack H s E e s'->X.xe e s'
section
variable {X:Cx} {CX:CXT} {k:Nat} {f C:Addr} {fd:FuncData} {ps:List Str} {sp:Sp} {dvs:List V} {ds:List Value} {E:XK} {x m:Str} {p pos apos:Pos} {e o:Expr} {es:List Expr} {ta:TE} {t:TA}
theorem zkR {pins:List (Addr × Obj)} {σ:St} {H:Hp} {s:Shared} {Q:VK} {us:List Value} {vs:List V} (F:FnOk X.prog X.w X.K X.mg X.base CX k f fd ps sp) (hr:Room k X.A) (hb:zjF X.K fd ps ds) (hd:Vals dvs ds) (hx:ziU CX X E)
 (I:Inv X pins σ H s) (r:Vals vs us) (h:sp (vs++dvs) H Q E):wpAny (model X.prog X.w) X.A (call (.ref f) us) (EP X pins σ Q) X.xe s:=by
 have r2:Vals (vs++dvs) (us++ds):=r.append hd
 have hl:(us++ds).length=ps.length:=by rw [<- r2.length];exact F.len _ _ _ _ h
 refine wpAny_call (codeAny_mono (F.run X.A X.stack s H ⟨us,[]⟩ (us++ds) (vs++dvs) Q E hr I.env0 (hb s us I.kIn hl) r2 h) fun r s' hq=>?_)
 cases r with
 | error e=>exact hx pins σ H s e s' I hq
 | ok fl =>
   cases fl with
   | ret u=>exact I.after hq
   | next=>exact False.elim hq
   | brk=>exact False.elim hq
   | cont=>exact False.elim hq
theorem zob (F:FnOk X.prog X.w X.K X.mg X.base CX k f fd ps sp) (hr:Room k X.A) (hg:Gl X x) (hm:X.mg x=some (.ref f)) (hk:PySem.W.keepIn X.K (.ref f)=true) (hb:zjF X.K fd ps ds) (hd:Vals dvs ds) (hx:ziU CX X E)
 (ha:PA X (e :: es) t) (hdb:(x == ("__debug__":Str))=false:=by decide) (he:starEach (e :: es) X.env=(false,eval e X.env) :: starEach es X.env:=by rfl) (hpl:(backTo pos (starEach es X.env)).any (·.1)=false:=by rfl) :
 PE X (.Call (.Name x p) (e :: es) [] pos) (zsI sp dvs E t):=by
 intro pins s σ H Q I h
 refine wpAny_Call_Name_kw (ziv I hg hm ?_ hdb)
 refine PySem.W.callWith_K (h₀:=X.base) I.ok.mod.kin hk (thn (ha pos pins s σ H _ I h) fun us s1 ⟨vs,H1,I1,r,q⟩=>⟨I1.kIn,?_⟩) he hpl
 exact zkR F hr hb hd hx I1 r q
structure Mk (K:PySem.W.Frag) (C f:Addr):Prop where
 makes:PySem.W.makesIn K C=true
 init:PySem.W.findIn K (.ref C) "__init__"=some (some (.ref f))
 fn:PySem.W.isFn K (.ref f)=true
 kp:PySem.W.keepIn K (.ref C)=true
end
def PK (X:Cx) (kws:List Keyword) (t:TA):Prop :=
 ∀ (pos:Pos) (pins:List (Addr × Obj)) (s:Shared) (σ:St) (H:Hp) (Q:List V->Hp->Prop),Inv X pins σ H s->t σ H Q->wpAny (model X.prog X.w) X.A (evalAll ((backToKw pos (keywordEach kws X.env)).map (·.2))) (AP X pins σ Q) X.xe s
section
variable {X:Cx} {CX:CXT} {k:Nat} {f C:Addr} {fd:FuncData} {ps ks:List Str} {sp:Sp} {E:XK} {x m:Str} {p pos apos kpos:Pos} {e o:Expr} {es:List Expr} {kws:List Keyword} {te ta:TE} {t tk:TA} {nm:Option Str}
theorem zqK:PK X [] tNil:=fun _ _ _ _ H Q I h=>wpAny_evalAll_nil ⟨[],H,I,.nil,h⟩
theorem znJ (ha:PE X e te) (hr:PK X kws t):PK X (⟨nm,e,kpos⟩ :: kws) (znV te t):=by
 intro pos pins s σ H Q I h
 show wpAny _ _ (evalAll ((do let v <- eval e X.env;standAt pos;pure v) :: (backToKw pos (keywordEach kws X.env)).map (·.2))) _ _ s
 refine wpAny_evalAll_cons (wpAny_bind (thn (ha pins s σ H _ I h) fun u s1 ⟨x,H1,I1,r1,q1⟩=>wpAny_bind (wpAny_standAt (wpAny_pure ?_))))
 exact thn (hr pos pins s1 σ H1 _ I1 q1) fun us s2 ⟨xs,H2,I2,r2,q2⟩=>⟨x :: xs,H2,I2,.cons r1 r2,q2⟩
variable {g:List Value->List Value->List Value} {gV:List V->List V->List V}
end
structure FnScope (N P:List Str) (sc:Scope):Prop where
 kind:sc.kind=.function
 co:sc.isCoroutine=false
 gen:sc.isGenerator=false
 nd:N.Nodup
 pre:N.take P.length=P
 par:∀ x ∈ P,sc.names.lookup x=some .local\/sc.names.lookup x=some .cell
 nofree:∀ y ∈ sc.names,y.2 ≠ .free
theorem zhf {kindOf:Str->Option NameKind} {x:Str}:∀ {binds:List (Str × Value)} {m:Str->Option Value},(∀ v,(x,v) ∉ binds)->bindL kindOf binds m x=m x
 | [],_,_=>rfl
 | (n,v) :: r,m,h=>by
   unfold bindL
   rw [zhf fun w hw=>h w (List.mem_cons_of_mem _ hw)]
   split
   ·have:x ≠ n:=by rintro rfl;exact h v List.mem_cons_self
    simp [this]
   ·rfl
theorem zhs {kindOf:Str->Option NameKind} {x:Str}:∀ {binds:List (Str × Value)} {m:Str->Option Value},(∀ v,(x,v) ∉ binds)->bindC kindOf binds m x=m x
 | [],_,_=>rfl
 | (n,v) :: r,m,h=>by
   unfold bindC
   rw [zhs fun w hw=>h w (List.mem_cons_of_mem _ hw)]
   split
   ·rfl
   ·have:x ≠ n:=by rintro rfl;exact h v List.mem_cons_self
    simp [this]
theorem zgK {kindOf:Str->Option NameKind} {x:Str} {v:Value}:∀ {P:List Str} {vs:List Value} {i:Nat} {m:Str->Option Value},P.Nodup->P[i]?=some x->vs[i]?=some v->kindOf x=some .local ->
 bindL kindOf (P.zip vs) m x=some v
 | [],_,_,_,_,h,_,_=>by simp at h
 | _ :: _,[],_,_,_,_,h,_=>by simp at h
 | p :: P,w :: vs,0,m,nd,h1,h2,hk=>by
   simp at h1 h2;subst h1;subst h2
   show bindL kindOf ((p,w) :: P.zip vs) m p=_
   unfold bindL
   rw [zhf fun v hv=>(List.nodup_cons.mp nd).1 (List.of_mem_zip hv).1,if_pos hk]
   simp
 | p :: P,w :: vs,i+1,m,nd,h1,h2,hk=>by
   show bindL kindOf ((p,w) :: P.zip vs) m x=_
   unfold bindL
   exact zgK (i:=i) (List.nodup_cons.mp nd).2 (by simpa using h1) (by simpa using h2) hk
theorem zgW {kindOf:Str->Option NameKind} {x:Str} {v:Value}:∀ {P:List Str} {vs:List Value} {i:Nat} {m:Str->Option Value},P.Nodup->P[i]?=some x->vs[i]?=some v->kindOf x ≠ some .local ->
 bindC kindOf (P.zip vs) m x=some v
 | [],_,_,_,_,h,_,_=>by simp at h
 | _ :: _,[],_,_,_,_,h,_=>by simp at h
 | p :: P,w :: vs,0,m,nd,h1,h2,hk=>by
   simp at h1 h2;subst h1;subst h2
   show bindC kindOf ((p,w) :: P.zip vs) m p=_
   unfold bindC
   rw [zhs fun v hv=>(List.nodup_cons.mp nd).1 (List.of_mem_zip hv).1,if_neg hk]
   simp
 | p :: P,w :: vs,i+1,m,nd,h1,h2,hk=>by
   show bindC kindOf ((p,w) :: P.zip vs) m x=_
   unfold bindC
   exact zgW (i:=i) (List.nodup_cons.mp nd).2 (by simpa using h1) (by simpa using h2) hk
def start (N:List Str) (vs:List V):St:=vs.map some++List.replicate (N.length - vs.length) none
def cxOf (CX:CXT) (P:Program) (w:World) (K:PySem.W.Frag) (mg:Str->Option Value) (base:Heap) (N:List Str) (qual:Str) (scope:Scope) (f:Addr) (cd:Value) (A:Around) (outer:List Env) (s:Shared) (H:Hp) (E:XK):Cx where
 prog:=P
 w:=w
 K:=K
 mg:=mg
 base:=base
 A:=A.deeper (envOfC qual scope s.heap.objs.size f cd)
 N:=N
 s₀:=s
 H₀:=H
 env:=envOfC qual scope s.heap.objs.size f cd
 outer:=outer
 stack:=envOfC qual scope s.heap.objs.size f cd :: outer
 ex:=[]
 calm:=true
 fn:=fun _=>true
 pn:=[]
 xe:=fun e s'=>wpAny (model P w) (A.deeper (envOfC qual scope s.heap.objs.size f cd)) (leaving (envOfC qual scope s.heap.objs.size f cd) e) (fun _ s''=>CX outer H s E e s'') (fun e' s''=>CX outer H s E e' s'') s'
theorem zeE {sc:Scope} {n:Nat} {x:Str} (h:sc.names.lookup x=some .cell):∃ c,(cellsFrom n sc.names []).lookup x=some c:=by
 have q:=PySem.W.cellsFrom_some sc.names n [] (.inl h)
 exact Option.isSome_iff_exists.mp q
theorem zlK {CX:CXT} {P:Program} {w:World} {K:PySem.W.Frag} {mg:Str->Option Value} {base:Heap} {N ps:List Str} {qual:Str} {scope:Scope} {f:Addr} {cd:Value} {A:Around} {outer:List Env} {s s1:Shared} {H:Hp} {E:XK} {us:List Value} {vs:List V}
 (S:FnScope N ps scope) (hd:A.handled=none) (e0:Env0 P w K mg base A outer s H) (hl:vs.length=ps.length) (r:Vals vs us)
 (x:InCallC s s.heap.objs.size (bindL (envOfC qual scope s.heap.objs.size f cd).kindOf (ps.zip us) fun _=>none) (cellsFrom (s.heap.objs.size+1) scope.names []) (bindC (envOfC qual scope s.heap.objs.size f cd).kindOf (ps.zip us) fun _=>none) s1) :
 Inv (cxOf CX P w K mg base N qual scope f cd A outer s H E) [] (start N vs) H s1:=by
 have hpl:ps.length<=N.length:=by have:=congrArg List.length S.pre;rw [List.length_take] at this;omega
 obtain ⟨h1,tk,rfl,hk⟩:=x.done
 have noA:∀ b:Addr,b ∉ (cxOf CX P w K mg base N qual scope f cd A outer s H E).ex:=fun b z=>absurd (show b ∈ ([]:List Addr) from z) (by simp)
 refine ⟨⟨e0.mod,S.kind,rfl,rfl,Nat.le_refl _,fun y z c h1 h2=>?_,fun y hy=>?_,fun y c _ h=>?_,fun _=>hd,Around.frames_deeper e0.frames,.inr ⟨rfl,rfl⟩,fun b z=>absurd z (noA b),e0.bs,e0.bsz,fun b _ _=>noA b,fun b z=>absurd z (noA b),e0.funs,e0.frf⟩,
  rfl,e0.bare,Un.kept hk,⟨_,x.toInCall.ns,fun i y v h1 h2 h3=>?_⟩,fun y c h=>⟨_,x.cell y c h⟩,e0.hok.fresh (Nat.le_refl _),fun y c h=>?_,fun p hp=>absurd (show p ∈ ([]:List (Addr × Obj)) from hp) (by simp),e0.hok.kept hk,?_⟩
 ·exact name_of_addr x.apart (PySem.mem_of_lookup h1) (PySem.mem_of_lookup h2)
 ·have hy:scope.names.lookup y=some .cell\/scope.names.lookup y=some .free:=hy
  rcases hy with hy | hy
  ·exact zeE hy
  ·exact absurd rfl (S.nofree _ (PySem.mem_of_lookup hy))
 ·exact Nat.le_of_lt (x.above y c (PySem.mem_of_lookup h))
 ·have hi:i < vs.length:=by
   unfold start at h2
   by_cases hi:i < vs.length
   ·exact hi
   ·rw [List.getElem?_append_right (by simpa using hi)] at h2
    rw [List.getElem?_replicate] at h2
    split at h2 <;> cases h2
  have ha:vs[i]?=some v:=by
   unfold start at h2
   rw [List.getElem?_append_left (by simpa using hi),List.getElem?_map] at h2
   cases e:vs[i]? with
   | none=>rw [e] at h2;cases h2
   | some a=>rw [e] at h2;cases h2;rfl
  obtain ⟨u,hu,rv⟩:=r.get ha
  have hp:ps[i]?=some y:=by
   rw [<- S.pre,List.getElem?_take_of_lt (by omega)];exact h1
  have ndP:ps.Nodup:=by rw [<- S.pre];exact S.nd.sublist (List.take_sublist _ _)
  refine ⟨u,rv,?_⟩
  rcases S.par y (List.mem_of_getElem? hp) with k | k
  ·exact .inl ⟨k,zgK ndP hp hu k⟩
  ·obtain ⟨c,e⟩:=zeE (n:=s.heap.objs.size+1) k
   refine .inr ⟨.inl k,c,e,?_⟩
   have q:=x.cell y c e
   rw [zgW ndP hp hu (by show scope.names.lookup y ≠ _;rw [k];decide)] at q
   exact q
 ·exact e0.hok.fresh (Nat.le_of_lt (x.above y c (PySem.mem_of_lookup h)))
 ·unfold start
  show _=N.length
  rw [List.length_append,List.length_map,List.length_replicate]
  omega
theorem zrB {CX:CXT} {P:Program} {w:World} {K:PySem.W.Frag} {mg:Str->Option Value} {base:Heap} {k:Nat} {f:Addr} {name qual:Str} {params:Arguments} {body:List Stmt} {scope:Scope} {dV kV doc pm cdv ct oc:Value} {an od:Option Addr}
 {osl:Array (Option Value)} {N ps:List Str} {sp:Sp} (lk:K.lookup f=some ⟨oc,od,.func (PySem.W.fnOf name qual params body scope dV kV doc pm an cdv ct),osl⟩) (hcd:PySem.W.codeIn K cdv qual=true) (S:FnScope N ps scope)
 (len:∀ vs H Q E,sp vs H Q E->vs.length=ps.length)
 (hbody:∀ (A:Around) (outer:List Env) (s:Shared) (H:Hp) (vs:List V) (Q:VK) (E:XK),Room k (A.deeper (envOfC qual scope s.heap.objs.size f cdv))->sp vs H Q E ->
   ∃ t,PSs (cxOf CX P w K mg base N qual scope f cdv A outer s H E) body t/\t { nx:=fun _ H'=>Q .non H',rt:=Q } (start N vs) H) :
 FnOk P w K mg base CX (k+1) f (PySem.W.fnOf name qual params body scope dV kV doc pm an cdv ct) ps sp:=by
 refine ⟨len,fun A outer s H args us vs Q E hr e0 hb r hsp=>?_⟩
 have hl:=len _ _ _ _ hsp
 have KX:K.In s.heap:=e0.mod.kin.keeps fun b o e=>(e0.bs b o e).1
 have lim:s.heap.NoLimit:=e0.mod.nolimit.keeps fun b o e=>(e0.bs b o e).1
 have hkind:∀ y ∈ ps.zip us,scope.names.lookup y.1=some .local\/(scope.names.lookup y.1=some .cell/\((cellsFrom (s.heap.objs.size+1) scope.names []).lookup y.1).isSome=true):=fun ⟨n,v⟩ hy=>by
  rcases S.par n (List.of_mem_zip hy).1 with q | q
  ·exact .inl q
  ·exact .inr ⟨q,PySem.W.cellsFrom_some _ _ _ (.inl q)⟩
 refine codeAny_call_function hr.depth (KX _ _ lk) rfl S.co S.gen rfl (PySem.W.codeRec_of KX hcd) (hb _ _ _ _ ?_)
 refine wpAny_newFunctionEnv_cells S.kind hkind fun env he s1 x=>?_
 subst he
 refine ⟨lim.keeps x.toInCall.keep,codeAny_func ?_⟩
 obtain ⟨t,ht,hq⟩:=hbody A outer s H vs Q E (hr.deeper _) hsp
 have I:Inv (cxOf CX P w K mg base N qual scope f cdv A outer s H E) [] (start N vs) H s1:=zlK S hr.hd e0 hl r x
 refine wpAny_mono (ht [] s1 (start N vs) H _ I hq) (fun fl s' hs=>?_) fun e s' hs=>hs
 have fin:∀ {σ':St} {H':Hp} {v:V} {u:Value},Inv (cxOf CX P w K mg base N qual scope f cdv A outer s H E) [] σ' H' s'->RelV v u->Q v H'->CE outer P w H s Q u s' :=
  fun {σ' H' v u} J rv q=>⟨v,H',J.os,J.bare,J.base,J.hok,rv,q⟩
 cases fl with
 | ret u =>
   obtain ⟨v,σ',H',J,rv,q⟩:=hs
   exact fin J rv q
 | next =>
   obtain ⟨σ',H',J,q⟩:=hs
   exact fin (v:=V.non) (u:=Value.none) J rfl q
 | brk =>
   obtain ⟨_,_,_,q⟩:=hs
   exact False.elim q
 | cont =>
   obtain ⟨_,_,_,q⟩:=hs
   exact False.elim q
end L2
namespace L2
open PySem PySem.Spec PyProof.Rows
section
variable {X:Cx} {x:Str} {p pos:Pos} {e:Expr} {es:List Expr} {t:TA} {id T:String} {r:List V->Hp->VK->Prop}
def tCB (r:List V->Hp->VK->Prop) (t:TA):TE:=fun σ H Q=>t σ H fun vs H1=>r vs H1 Q
theorem zaY (hc:zcW X (.builtin id) r) (hg:Gl X x) (hm:X.mg x=none) (hv:bootBuiltins x=some (.builtin id)) (ha:PA X (e :: es) t) (hn:x ≠ "__name__":=by decide) (hdb:(x == ("__debug__":Str))=false:=by decide)
 (he:starEach (e :: es) X.env=(false,eval e X.env) :: starEach es X.env:=by rfl) (hpl:(backTo pos (starEach es X.env)).any (·.1)=false:=by rfl):PE X (.Call (.Name x p) (e :: es) [] pos) (tCB r t):=by
 intro pins s σ H Q I h
 refine wpAny_Call_Name_kw (zjc I hg hm hv ?_ hn hdb)
 exact PyProof.Rows.callWith_builtin1 (thn (ha pos pins s σ H _ I h) fun us s1 ⟨vs,H1,I1,r1,q1⟩=>hc pins s1 σ H1 vs us Q I1 r1 q1) he hpl
theorem zbO (hc:zcW X (.type T) r) (hg:Gl X x) (hm:X.mg x=none) (hv:bootBuiltins x=some (.type T)) (ha:PA X (e :: es) t) (hn:x ≠ "__name__":=by decide) (hdb:(x == ("__debug__":Str))=false:=by decide)
 (he:starEach (e :: es) X.env=(false,eval e X.env) :: starEach es X.env:=by rfl) (hpl:(backTo pos (starEach es X.env)).any (·.1)=false:=by rfl):PE X (.Call (.Name x p) (e :: es) [] pos) (tCB r t):=by
 intro pins s σ H Q I h
 refine wpAny_Call_Name_kw (zjc I hg hm hv ?_ hn hdb)
 exact PyProof.Rows.callWith_type1 (thn (ha pos pins s σ H _ I h) fun us s1 ⟨vs,H1,I1,r1,q1⟩=>hc pins s1 σ H1 vs us Q I1 r1 q1) he hpl
end
end L2
namespace HT
open PySem PyProof.Rows
def zbc:List Int->List Int->Bool
 | [],[]=>false
 | [],_ :: _=>true
 | _ :: _,[]=>false
 | x :: xs,y :: ys=>if x=y then zbc xs ys else decide (x < y)
theorem zdk (x y:Int) (xs ys:List Int):zbc (x :: xs) (y :: ys)=if x=y then zbc xs ys else decide (x < y):=rfl
theorem zmp (A:Around) (s:Shared) (a:Int) (t:Tok) (c:Int) (u:Tok) (prog:Program) (w:World) (E:Value->Shared->Prop) (Q:Value->Shared->Prop) (h:Q (.bool (decide (a < c))) s) :
 wpAny (model prog w) A (richCompare .Lt (.int a t) (.int c u)) Q E s :=
 (PyProof.Rows.lt_int h:wpAny (model prog w) A (compareOp .Lt (.int a t) (.int c u)) Q E s)
section
open PySem.SeqAt
open PySem.AutoSeq1 (wpAny_loadPart')
open PySem.MeetsSeq PySem.MeetsSeq2 PySem.MeetsSeq3
end
section
variable {prog:Program} {w:World} {A:Around} {E:Value->Shared->Prop} {s:Shared}
def sIx (n d:Nat):Option Int->Nat
 | none=>d
 | some v=>if v < 0 then (v+(n:Int)).toNat else min v.toNat n
end
end HT
namespace L2
open PySem PySem.Spec PyProof.Rows
abbrev TO:=St->Hp->(Option Int->Hp->Prop)->Prop
def PO (X:Cx) (e:Option Expr) (t:TO):Prop :=
 ∀ (pins:List (Addr × Obj)) (s:Shared) (σ:St) (H:Hp) (Q:Option Int->Hp->Prop),Inv X pins σ H s->t σ H Q ->
  wpAny (model X.prog X.w) X.A (evalPart e X.env) (fun u s'=>∃ o H',Inv X pins σ H' s'/\IsPart u o/\Q o H') X.xe s
def zuM (t:TE):TO:=fun σ H Q=>t σ H fun x H1=>∃ i,x=.int i/\Q (some i) H1
theorem zjy {ns:List Int}:∀ {us:List Value},Vals (ns.map V.int) us->IntsAre us ns:=by
 induction ns with
 | nil=>intro us r;rw [List.map_nil] at r;cases r;exact .nil
 | cons n ns ih =>
   intro us r
   rw [List.map_cons] at r
   cases r with
   | cons r1 r2 =>
     obtain ⟨t,e⟩:=r1
     subst e
     exact .cons n t (ih r2)
section
variable {X:Cx} {e:Expr} {te:TE} {lo hi:Option Expr} {tl th:TO} {pos p2:Pos}
theorem zlM (h:PE X e te):PO X (some e) (zuM te):=by
 intro pins s σ H Q I hw
 rw [evalPart_some]
 refine thn (h pins s σ H _ I hw) fun u s1 ⟨x,H1,I1,r1,q1⟩=>?_
 obtain ⟨i,rfl,q⟩:=q1
 obtain ⟨t,rfl⟩:=r1
 exact ⟨some i,H1,I1,.int i t,q⟩
def SlR (X:Cx) (r:V->Option Int->Option Int->Hp->VK->Prop):Prop :=
 ∀ (pins:List (Addr × Obj)) (s:Shared) (σ:St) (H:Hp) (x:V) (v vl vu:Value) (lo hi:Option Int) (sl:Addr) (Q:VK),Inv X pins σ H s->RelV x v->s.heap.IsSliceOf sl vl vu .none->IsPart vl lo->IsPart vu hi->r x lo hi H Q ->
  ∃ T id,typeLookup (.type T) "__getitem__"=pure (some (.builtin id))/\s.TypeIs v T/\wpAny (model X.prog X.w) X.A (getItem v (.ref sl)) (EP X pins σ Q) X.xe s
theorem SlR.or {r r':V->Option Int->Option Int->Hp->VK->Prop} (h:SlR X r) (h':SlR X r'):SlR X (fun x lo hi H Q=>r x lo hi H Q\/r' x lo hi H Q):=by
 intro pins s σ H x v vl vu lo hi sl Q I rx hs pl pu q
 rcases q with q | q
 ·exact h pins s σ H x v vl vu lo hi sl Q I rx hs pl pu q
 ·exact h' pins s σ H x v vl vu lo hi sl Q I rx hs pl pu q
def tSl (r:V->Option Int->Option Int->Hp->VK->Prop) (te:TE) (tl th:TO):TE:=fun σ H Q=>te σ H fun x H1=>tl σ H1 fun l H2=>th σ H2 fun u H3=>r x l u H3 Q
theorem zmq {r:V->Option Int->Option Int->Hp->VK->Prop} (hr:SlR X r) (he:PE X e te) (hl:PO X lo tl) (hu:PO X hi th):PE X (.Subscript e (.Slice lo hi none p2) pos) (tSl r te tl th):=by
 intro pins s σ H Q I h
 refine Subscript_ (thn (he pins s σ H _ I h) fun v s1 ⟨x,H1,I1,r1,q1⟩=>?_)
 refine wpAny_Slice (thn (hl pins s1 σ H1 _ I1 q1) fun vl s2 ⟨l,H2,I2,pl,q2⟩=>thn (hu pins s2 σ H2 _ I2 q2) fun vu s3 ⟨u,H3,I3,pu,q3⟩=>?_)
 rw [evalPart_none]
 refine wpAny_pure ?_
 have I4:Inv X pins σ H3 { s3 with heap:=s3.heap.push { cls:=.type "slice",data:=.fields #[vl,vu,.none] } }:=I3.kept (t':=s3.toks) fun b ob q=>Heap.get?_push_of_some _ q
 obtain ⟨T,id,hT,ht,hg⟩:=hr pins { s3 with heap:=s3.heap.push { cls:=.type "slice",data:=.fields #[vl,vu,.none] } } σ H3 x v vl vu l u s3.heap.objs.size Q I4 r1 (Heap.IsSliceOf.new ..) pl pu q3
 show wpAny (model X.prog X.w) X.A (subscriptTail e (.Slice lo hi none p2) v (.ref s3.heap.objs.size)) (EP X pins σ Q) X.xe { s3 with heap:=s3.heap.push { cls:=.type "slice",data:=.fields #[vl,vu,.none] } }
 exact tail_any (ops:=[.ref s3.heap.objs.size,v]) ht hT hg (by with_unfolding_all rfl)
def cutV (xs:List V) (lo hi:Option Int):List V:=(xs.drop (HT.sIx xs.length 0 lo)).take (HT.sIx xs.length xs.length hi - HT.sIx xs.length 0 lo)
theorem ziw (xs:List V) (lo hi:Option Int):(cutV xs lo hi).length<=xs.length:=by
 unfold cutV
 rw [List.length_take,List.length_drop]
 omega
end
end L2
namespace L2
open PySem PySem.Spec PyProof.Rows
def ixN (n:Nat) (i:Int):Option Nat:=if 0<=i then (if i < n then some i.toNat else none) else if -(n:Int)<=i then some (i+n).toNat else none
def atI {α:Type} (xs:List α) (i:Int):Option α:=(ixN xs.length i).bind fun j=>xs[j]?
theorem zkM {n:Nat} {i:Int} {j:Nat} (h:ixN n i=some j):seqIndex? i n=some j/\j < n/\-(n:Int)<=i/\i < n:=by
 unfold ixN at h
 by_cases h0:0<=i
 ·rw [if_pos h0] at h
  by_cases h1:i < n
  ·rw [if_pos h1] at h
   have e:i.toNat=j:=Option.some.inj h
   exact ⟨by rw [seqIndex_of h0 h1,e],by omega,by omega,h1⟩
  ·rw [if_neg h1] at h;cases h
 ·rw [if_neg h0] at h
  by_cases h1:-(n:Int)<=i
  ·rw [if_pos h1] at h
   have e:(i+n).toNat=j:=Option.some.inj h
   exact ⟨by rw [seqIndex_neg (by omega) h1,e],by omega,h1,by omega⟩
  ·rw [if_neg h1] at h;cases h
theorem zhY {α:Type} {xs:List α} {i:Int} {v:α} (h:atI xs i=some v):∃ j,seqIndex? i xs.length=some j/\xs[j]?=some v/\j < xs.length/\-(xs.length:Int)<=i/\i < xs.length:=by
 unfold atI at h
 cases e:ixN xs.length i with
 | none=>rw [e] at h;cases h
 | some j =>
   rw [e] at h
   obtain ⟨h1,h2,h3,h4⟩:=zkM e
   exact ⟨j,h1,h,h2,h3,h4⟩
theorem zbw {α:Type} {xs:List α} {j:Nat} {v:α} (h:xs[j]?=some v):atI xs (j:Int)=some v:=by
 have hj:j < xs.length:=(List.getElem?_eq_some_iff.mp h).1
 have e:ixN xs.length (j:Int)=some j:=by
  unfold ixN
  rw [if_pos (by omega),if_pos (by omega)];simp
 unfold atI;rw [e];exact h
def znO (b:Expr):Prop:=∀ o i,subscripted b false o i=operate [o,i] (getItem o i)
def IxR (X:Cx) (r:R2):Prop :=
 ∀ (value slice:Expr) (pins:List (Addr × Obj)) (s:Shared) (σ:St) (H:Hp) (x y:V) (v u:Value) (Q:VK),Inv X pins σ H s->RelV x v->RelV y u->r x y H Q ->
  subscripted slice false v u=operate [v,u] (getItem v u)->wpAny (model X.prog X.w) X.A (subscriptTail value slice v u) (EP X pins σ Q) X.xe s
def MtR (X:Cx) (id:String) (r:V->List V->Hp->VK->Prop):Prop :=
 ∀ (pins:List (Addr × Obj)) (s:Shared) (σ:St) (H:Hp) (x:V) (xs:List V) (v:Value) (us:List Value) (Q:VK),Inv X pins σ H s->RelV x v->Vals xs us->r x xs H Q ->
  wpAny (model X.prog X.w) X.A (call (.builtin id) (v :: us)) (EP X pins σ Q) X.xe s
section
variable {X:Cx} {a b:Expr} {ta tb:TE} {pos:Pos}
theorem IxR.or {r r':R2} (h:IxR X r) (h':IxR X r'):IxR X (fun x y H Q=>r x y H Q\/r' x y H Q):=by
 intro value slice pins s σ H x y v u Q I rx ry q hs
 rcases q with q | q
 ·exact h value slice pins s σ H x y v u Q I rx ry q hs
 ·exact h' value slice pins s σ H x y v u Q I rx ry q hs
theorem MtR.or {id:String} {r r':V->List V->Hp->VK->Prop} (h:MtR X id r) (h':MtR X id r'):MtR X id (fun x xs H Q=>r x xs H Q\/r' x xs H Q):=by
 intro pins s σ H x xs v us Q I rx rs q
 rcases q with q | q
 ·exact h pins s σ H x xs v us Q I rx rs q
 ·exact h' pins s σ H x xs v us Q I rx rs q
theorem zbv {r:R2} (hr:IxR X r) (ha:PE X a ta) (hb:PE X b tb) (hs:znO b):PE X (.Subscript a b pos) (tOp r ta tb):=by
 intro pins s σ H Q I h
 exact Subscript_ (binT ha hb I h fun v u s2 x y H2 I2 rx ry q=>hr a b pins s2 σ H2 x y v u Q I2 rx ry q (hs _ _))
def rIxL (K:PySem.W.Frag):R2:=fun x y H Q=>∃ p xs i v,x=.ref p/\y=.int i/\SqL K H p xs/\atI xs i=some v/\Q v H
def rIxT (K:PySem.W.Frag):R2:=fun x y H Q=>∃ p xs i v,x=.ref p/\y=.int i/\SqT K H p xs/\atI xs i=some v/\Q v H
def rIxS:R2:=fun x y H Q=>∃ z i c,x=.str z/\y=.int i/\z.length<=sizeLine/\atI z.cps.toList i=some c/\Q (.str ⟨#[c]⟩) H
theorem zoz:IxR X (rIxL X.K):=by
 intro value slice pins s σ H x y v u Q I rx ry h hs
 obtain ⟨p,xs,i,z,rfl,rfl,hq,he,q⟩:=h
 cases rx
 obtain ⟨t,rfl⟩:=ry
 obtain ⟨its,r,pl,hz⟩:=I.list hq
 obtain ⟨j,h1,h2,h3,h4,h5⟩:=zhY he
 obtain ⟨w,ew,rw'⟩:=r.get h2
 have hl:=r.length
 have hn:=zfE
 have fin:EP X pins σ Q w s:=⟨z,H,I,rw',q⟩
 by_cases h0:0<=i
 ·have hj:i.toNat=j:=by
   rw [seqIndex_of h0 h5] at h1
   exact Option.some.inj h1
  exact item_listR pl.isList h0 (by omega) (by rw [hj];simpa using ew) fin hs
 ·have hj:(i+(its.toArray.size:Int)).toNat=j:=by
   rw [seqIndex_neg (by omega) h4] at h1
   rw [List.size_toArray,<- hl]
   exact Option.some.inj h1
  exact subscriptTail_builtinR (x:=w) pl.isList.typeIs slot_list_getitem.lookup
   (wpAny_getItem_list_neg (Q:=fun r s'=>r=w/\EP X pins σ Q r s') pl.isList (by omega) (by rw [List.size_toArray] <;> omega) (by omega) (by rw [hj];simpa using ew) ⟨rfl,fin⟩) hs
theorem znl:IxR X (rIxT X.K):=by
 intro value slice pins s σ H x y v u Q I rx ry h hs
 obtain ⟨p,xs,i,z,rfl,rfl,hq,he,q⟩:=h
 cases rx
 obtain ⟨t,rfl⟩:=ry
 obtain ⟨its,r,pl,hz⟩:=I.tuple hq
 obtain ⟨j,h1,h2,h3,h4,h5⟩:=zhY he
 obtain ⟨w,ew,rw'⟩:=r.get h2
 have hl:=r.length
 have hn:=zfE
 have fin:EP X pins σ Q w s:=⟨z,H,I,rw',q⟩
 exact subscriptTail_builtinR (x:=w) pl.typeIs slot_tuple_getitem.lookup
  (getItem_tuple (j:=j) (Q:=fun r s'=>r=w/\EP X pins σ Q r s') pl (by omega) (by omega) (by rw [List.size_toArray,<- hl];exact h1) (by simpa using ew) ⟨rfl,fin⟩) hs
theorem zeZ:IxR X rIxS:=by
 intro value slice pins s σ H x y v u Q I rx ry h hs
 obtain ⟨z,i,c,rfl,rfl,hz,he,q⟩:=h
 obtain ⟨t,rfl⟩:=rx
 obtain ⟨t',rfl⟩:=ry
 obtain ⟨j,h1,h2,h3,h4,h5⟩:=zhY he
 have hl:z.cps.toList.length=z.length:=by simp [Str.length]
 rw [hl] at h1 h4 h5
 have hn:=zfE
 exact tail_any (typeIs_str s z t) slot_str_getitem.lookup (getItem_str (c:=c) (by
  have e1:decide (i < -(2 ^ 63:Int))=false:=decide_eq_false (by omega)
  have e2:decide (i ≥ 2 ^ 63)=false:=decide_eq_false (by omega)
  rw [e1,e2,Bool.or_false]) (by rw [h1];simpa using h2) ⟨.str ⟨#[c]⟩,H,I.tok _,⟨_,rfl⟩,q⟩) hs
theorem zkb (its:List Value) (n j:Nat) (u:Value):Obj.mapSeq (·.setIfInBounds j u) { cls:=.type "list",data:=.seq its.toArray n }={ cls:=.type "list",data:=.seq (its.set j u).toArray n }:=by
 simp [Obj.mapSeq]
theorem Inv.lst {pins:List (Addr × Obj)} {σ:St} {H:Hp} {s:Shared} {p:Addr} {xs:List V} (I:Inv X pins σ H s) (h:H p=some (.lst xs)) :
 ∃ (its:List Value) (n:Nat),Vals xs its/\s.heap.get? p=some { cls:=.type "list",data:=.seq its.toArray n }/\xs.length<=sizeLine:=by
 obtain ⟨z,its,n,r,e⟩:=I.hok p _ h
 exact ⟨its,n,r,e,z⟩
theorem Inv.lstUpd {pins:List (Addr × Obj)} {σ:St} {H:Hp} {s:Shared} {p:Addr} {xs ys:List V} {its its':List Value} {n n':Nat} {f:Obj->Obj} (I:Inv X pins σ H s) (h:H p=some (.lst xs))
 (ho:s.heap.get? p=some { cls:=.type "list",data:=.seq its.toArray n }) (hf:f { cls:=.type "list",data:=.seq its.toArray n }={ cls:=.type "list",data:=.seq its'.toArray n' }) (r:Vals ys its') (hz:ys.length<=sizeLine) (t:Nat) :
 Inv X pins σ (upd H p (.lst ys)) { s with heap:=s.heap.update p f,toks:=t }:=by
 have e:(s.heap.update p f).get? p=some { cls:=.type "list",data:=.seq its'.toArray n' }:=by
  rw [Heap.get?_update_self f ho (by rw [hf] <;> rfl),hf]
 refine I.write (x:=p) (e:=p) (by rw [h];trivial) (.inl rfl) (fun b u hb q=>(Heap.get?_update_other _ _ (Ne.symm hb)).trans q) ⟨_,e⟩ ?_
 exact ⟨hz,its',n',r,e⟩
def zuC:V->V->V->Hp->(Hp->Prop)->Prop:=fun o i v H Q=>∃ p xs k j,o=.ref p/\i=.int k/\H p=some (.lst xs)/\ixN xs.length k=some j/\Q (upd H p (.lst (xs.set j v)))
theorem zmY:PSet X zuC:=by
 intro pins s σ H o i v ov iv u Q I ro ri rv h
 obtain ⟨p,xs,k,j,rfl,rfl,hp,hj,q⟩:=h
 cases ro
 obtain ⟨t,rfl⟩:=ri
 obtain ⟨its,n,r,ho,hz⟩:=I.lst hp
 obtain ⟨h1,h2,h3,h4⟩:=zkM hj
 have hl:=r.length
 have hn:=zfE
 have I':Inv X pins σ (upd H p (.lst (xs.set j v))) { s with heap:=s.heap.update p (Obj.mapSeq (·.setIfInBounds j u)) } :=
  I.lstUpd hp ho (zkb its n j u) (r.set rv j) (by rw [List.length_set];exact hz) s.toks
 by_cases h0:0<=k
 ·have hk:k.toNat=j:=by
   rw [seqIndex_of h0 h4] at h1
   exact Option.some.inj h1
  exact PySem.W.ki_setAt ho h0 (by omega) (by rw [List.size_toArray,<- hl];exact h4) (by rw [hk];exact ⟨_,I',q⟩)
 ·have hk:(k+(its.toArray.size:Int)).toNat=j:=by
   rw [seqIndex_neg (by omega) h3] at h1
   rw [List.size_toArray,<- hl]
   exact Option.some.inj h1
  exact PySem.W.ki_setBack ho (by omega) (by rw [List.size_toArray,<- hl];exact h3) (by omega) (by rw [hk];exact ⟨_,I',q⟩)
theorem zhC (lo hi:Option Int) (n:Nat):(sliceBounds lo hi none n).1=((HT.sIx n 0 lo:Nat):Int)/\(sliceBounds lo hi none n).2.1=((HT.sIx n n hi:Nat):Int)/\(sliceBounds lo hi none n).2.2=1:=by
 refine ⟨?_,?_,rfl⟩
 ·cases lo with
  | none=>simp [sliceBounds,HT.sIx]
  | some i =>
    simp only [sliceBounds,HT.sIx,Option.getD_none,show (1:Int) > 0 by decide,if_true]
    by_cases h:i < 0
    ·simp only [h,if_true] <;> omega
    ·simp only [h,if_false] <;> omega
 ·cases hi with
  | none=>simp [sliceBounds,HT.sIx]
  | some i =>
    simp only [sliceBounds,HT.sIx,Option.getD_none,show (1:Int) > 0 by decide,if_true]
    by_cases h:i < 0
    ·simp only [h,if_true] <;> omega
    ·simp only [h,if_false] <;> omega
theorem zga (its:List Value) (lo hi:Option Int):slicePick its.toArray lo hi none=((its.drop (HT.sIx its.length 0 lo)).take (HT.sIx its.length its.length hi - HT.sIx its.length 0 lo)).toArray:=by
 obtain ⟨h1,h2,h3⟩:=zhC lo hi its.toArray.size
 unfold slicePick
 rw [h1,h2,h3]
 simp only [sliceRange_one,pick_run,List.size_toArray] <;> rfl
def rSlL (K:PySem.W.Frag):V->Option Int->Option Int->Hp->VK->Prop:=fun x lo hi H Q=>∃ a xs,x=.ref a/\SqL K H a xs/\∀ p,H p=none->Q (.ref p) (upd H p (.lst (cutV xs lo hi)))
theorem znW:SlR X (rSlL X.K):=by
 intro pins s σ H x v vl vu lo hi sl Q I rx hs pl pu h
 obtain ⟨a,xs,rfl,hx,q⟩:=h
 cases rx
 obtain ⟨its,r,ht,hz⟩:=I.list hx
 have hlen:=r.length
 refine ⟨"list",_,slot_list_getitem.lookup,ht.isList.typeIs,?_⟩
 refine wpAny_getItem_list_slice ht.isList hs pl pu .none (by simp) ?_ (by rw [List.size_toArray] <;> omega)
 rw [zga,<- hlen]
 refine ⟨.ref s.heap.objs.size,_,I.laid (t':=s.toks) (o:=.lst (cutV xs lo hi)) (fun b ob q=>Heap.get?_push_of_some _ q) (Nat.le_refl _) ?_,rfl,q _ (I.hok.fresh (Nat.le_refl _))⟩
 exact ⟨Nat.le_trans (ziw xs lo hi) hz,_,0,(r.drop (HT.sIx xs.length 0 lo)).take (HT.sIx xs.length xs.length hi - HT.sIx xs.length 0 lo),Heap.get?_push_size _ rfl⟩
def zfZ:V->Bool
 | .non=>true
 | .bl _=>true
 | .int _=>true
 | .str _=>true
 | _=>false
def eqV:V->V->Bool
 | .non,.non=>true
 | .bl a,.bl b=>a == b
 | .bl a,.int b=>(if a then 1 else 0) == b
 | .int a,.bl b=>a == (if b then 1 else 0)
 | .int a,.int b=>a == b
 | .str a,.str b=>a == b
 | _,_=>false
theorem zsV {A:Around} {s:Shared} {y x:V} {u v:Value} (ry:RelV y u) (rx:RelV x v) (fy:zfZ y=true) (fx:zfZ x=true):SeqAt.EqAt A s u v (eqV y x):=by
 cases y with
 | non =>
   cases ry
   cases x with
   | non=>cases rx;exact SeqAt.EqAt.same _
   | bl b=>cases rx;exact SeqAt.EqAt.none_bool b
   | int b=>obtain ⟨t,rfl⟩:=rx;exact SeqAt.EqAt.none_int b t
   | str b=>obtain ⟨t,rfl⟩:=rx;exact SeqAt.EqAt.none_str b t
   | _=>exact absurd (show false=true from fx) Bool.false_ne_true
 | bl a =>
   cases ry
   cases x with
   | non=>cases rx;exact SeqAt.EqAt.bool_none a
   | bl b=>cases rx;exact SeqAt.EqAt.bool_bool a b
   | int b=>obtain ⟨t,rfl⟩:=rx;exact SeqAt.EqAt.bool_int a b t
   | str b=>obtain ⟨t,rfl⟩:=rx;exact SeqAt.EqAt.bool_str a b t
   | _=>exact absurd (show false=true from fx) Bool.false_ne_true
 | int a =>
   obtain ⟨t',rfl⟩:=ry
   cases x with
   | non=>cases rx;exact SeqAt.EqAt.int_none a t'
   | bl b=>cases rx;exact SeqAt.EqAt.int_bool a t' b
   | int b=>obtain ⟨t,rfl⟩:=rx;exact SeqAt.EqAt.int_int a t' b t
   | str b=>obtain ⟨t,rfl⟩:=rx;exact SeqAt.EqAt.int_str a t' b t
   | _=>exact absurd (show false=true from fx) Bool.false_ne_true
 | str a =>
   obtain ⟨t',rfl⟩:=ry
   cases x with
   | non=>cases rx;exact SeqAt.EqAt.str_none a t'
   | bl b=>cases rx;exact SeqAt.EqAt.str_bool a t' b
   | int b=>obtain ⟨t,rfl⟩:=rx;exact SeqAt.EqAt.str_int a t' b t
   | str b=>obtain ⟨t,rfl⟩:=rx;exact SeqAt.EqAt.str_str a t' b t
   | _=>exact absurd (show false=true from fx) Bool.false_ne_true
 | _=>exact absurd (show false=true from fy) Bool.false_ne_true
def eqU (x:V) (u:Value):Bool:=match u with
 | .none=>eqV .non x
 | .bool b=>eqV (.bl b) x
 | .int i _=>eqV (.int i) x
 | .str z _=>eqV (.str z) x
 | _=>false
theorem znr {x y:V} {u:Value} (r:RelV y u) (f:zfZ y=true):eqU x u=eqV y x:=by
 cases y with
 | non=>cases r;rfl
 | bl b=>cases r;rfl
 | int i=>obtain ⟨t,rfl⟩:=r;rfl
 | str z=>obtain ⟨t,rfl⟩:=r;rfl
 | _=>exact absurd (show false=true from f) Bool.false_ne_true
theorem zig {x:V}:∀ {xs:List V} {us:List Value},Vals xs us->xs.all zfZ=true->us.any (eqU x)=xs.any fun y=>eqV y x
 | _,_,.nil,_=>rfl
 | y :: xs,u :: us,.cons r t,f=>by
   rw [List.all_cons,Bool.and_eq_true] at f
   rw [List.any_cons,List.any_cons,znr r f.1,zig t f.2]
theorem zgn {A:Around} {s:Shared} {x:V} {v:Value} (rx:RelV x v) (fx:zfZ x=true):∀ {xs:List V} {us:List Value},Vals xs us->xs.all zfZ=true->∀ u ∈ us,SeqAt.EqAt A s u v (eqU x u)
 | _,_,.nil,_=>fun u hu=>by cases hu
 | y :: xs,u :: us,.cons r t,f=>fun u' hu=>by
   rw [List.all_cons,Bool.and_eq_true] at f
   rcases List.mem_cons.mp hu with rfl | hu
   ·rw [znr r f.1];exact zsV r rx f.1 fx
   ·exact zgn rx fx t f.2 u' hu
def inV (x:V) (xs:List V):Bool:=xs.any fun y=>eqV y x
def rIn (K:PySem.W.Frag) (neg:Bool):R2:=fun x y H Q=>∃ p xs,y=.ref p/\(SqL K H p xs\/SqT K H p xs)/\zfZ x=true/\xs.all zfZ=true/\Q (.bl (if neg then !inV x xs else inV x xs)) H
theorem zla:OpR X (compareOp .In) (rIn X.K false):=by
 intro pins s σ H x y v u Q I rx ry h
 obtain ⟨p,xs,rfl,hq,fx,fs,q⟩:=h
 cases ry
 rcases hq with hq | hq
 ·obtain ⟨its,r,pl,hz⟩:=I.list hq
  refine SeqAt.in_listAt (eqU x) pl.isList (fun w hw=>zgn rx fx r fs w (by simpa using hw)) ⟨.bl _,H,I,rfl,?_⟩
  rw [show its.toArray.any (eqU x)=its.any (eqU x) by simp,zig r fs]
  exact q
 ·obtain ⟨its,r,pl,hz⟩:=I.tuple hq
  refine SeqAt.in_tupleAt (eqU x) pl (fun w hw=>zgn rx fx r fs w (by simpa using hw)) ⟨.bl _,H,I,rfl,?_⟩
  rw [show its.toArray.any (eqU x)=its.any (eqU x) by simp,zig r fs]
  exact q
theorem zhJ:zcW X (.builtin "len") (fun xs H Q=>∃ p ys,xs=[.ref p]/\(SqL X.K H p ys\/SqT X.K H p ys)/\Q (.int ys.length) H):=by
 intro pins s σ H xs us Q I r h
 obtain ⟨p,ys,rfl,hq,q⟩:=h
 obtain ⟨u,rfl,rx⟩:=zfA r
 cases rx
 have hn:=zfE
 rcases hq with hq | hq
 ·obtain ⟨its,r',pl,hz⟩:=I.list hq
  have hlen:=r'.length
  exact Calls.call_len_list pl.isList (by simp only [List.size_toArray] <;> omega) ⟨.int ys.length,H,I.tok _,⟨s.toks+1,by rw [List.size_toArray,hlen]⟩,q⟩
 ·obtain ⟨its,r',pl,hz⟩:=I.tuple hq
  have hlen:=r'.length
  exact len_tuple pl (by simp only [List.size_toArray] <;> omega) ⟨.int ys.length,H,I.tok _,⟨s.toks+1,by rw [List.size_toArray,hlen]⟩,q⟩
theorem zbL:zcW X (.builtin "len") (fun xs H Q=>∃ z,xs=[.str z]/\z.length<=sizeLine/\Q (.int z.length) H):=by
 intro pins s σ H xs us Q I r h
 obtain ⟨z,rfl,hz,q⟩:=h
 obtain ⟨u,rfl,t,rfl⟩:=zfA r
 have hn:=zfE
 exact len_str (by omega) ⟨.int z.length,H,I.tok _,⟨_,rfl⟩,q⟩
theorem zcW.or {f:Value} {r r':List V->Hp->VK->Prop} (h:zcW X f r) (h':zcW X f r'):zcW X f (fun xs H Q=>r xs H Q\/r' xs H Q):=by
 intro pins s σ H xs us Q I rs q
 rcases q with q | q
 ·exact h pins s σ H xs us Q I rs q
 ·exact h' pins s σ H xs us Q I rs q
theorem zgV:zcW X (.type "list") (fun xs H Q=>∃ p ys,xs=[.ref p]/\(SqL X.K H p ys\/SqT X.K H p ys)/\∀ l,H l=none->Q (.ref l) (upd H l (.lst ys))):=by
 intro pins s σ H xs us Q I r h
 obtain ⟨p,ys,rfl,hq,q⟩:=h
 obtain ⟨u,rfl,rx⟩:=zfA r
 cases rx
 have fin:∀ (its:List Value),Vals ys its->ys.length<=sizeLine->∀ (h':Heap) (c':Nat),(∀ b o',s.heap.get? b=some o'->h'.get? b=some o') ->
  h'.get? s.heap.objs.size=some { cls:=.type "list",dict:=none,data:=.seq its.toArray c',slots:=#[] }->EP X pins σ Q (.ref s.heap.objs.size) { s with heap:=h' }:=fun its r' hz h' c' kp e =>
  ⟨.ref s.heap.objs.size,_,I.laid (t':=s.toks) kp (Nat.le_refl _) (show zed X.prog X.w _ h' _ (.lst ys) from ⟨hz,its,c',r',e⟩),rfl,q _ (I.hok.fresh (Nat.le_refl _))⟩
 rcases hq with hq | hq
 ·obtain ⟨its,r',pl,hz⟩:=I.list hq
  have hlen:=r'.length
  obtain ⟨o,ho,hc,n,hd⟩:=pl.isList
  exact call_list_seq p (.inl rfl) ho hc hd (fun h' c' kp e=>fin its r' hz h' c' kp e) (by simp only [List.size_toArray] <;> omega)
 ·obtain ⟨its,r',pl,hz⟩:=I.tuple hq
  have hlen:=r'.length
  obtain ⟨o,ho,hc,n,hd⟩:=pl
  exact call_list_seq p (.inr rfl) ho hc hd (fun h' c' kp e=>fin its r' hz h' c' kp e) (by simp only [List.size_toArray] <;> omega)
def tyV (K:PySem.W.Frag) (T:String) (x:V) (H:Hp):Prop:=match x with
 | .str _=>T="str"
 | .int _=>T="int"
 | .ref p=>(T="list"/\∃ xs,SqL K H p xs)\/(T="tuple"/\∃ o,K.lookup p=some o/\o.cls=.type "tuple"/\o.dict=none) \/
    (T="dict"/\((∃ kvs,H p=some (.dK kvs))\/∃ kvs,H p=some (.dT kvs)))\/(T="set"/\∃ S n,H p=some (.set S n))
 | _=>False
theorem zrd {pins:List (Addr × Obj)} {σ:St} {H:Hp} {s:Shared} {T:String} {x:V} {v:Value} (I:Inv X pins σ H s) (r:RelV x v) (ty:tyV X.K T x H) :
 s.TypeIs v T/\∀ a,v=.ref a->∃ ob,s.heap.get? a=some ob/\ob.dict=none:=by
 cases x with
 | str z =>
   obtain ⟨t,rfl⟩:=r
   cases (show T="str" from ty)
   exact ⟨typeIs_str s z t,fun _ e=>nomatch e⟩
 | int i =>
   obtain ⟨t,rfl⟩:=r
   cases (show T="int" from ty)
   exact ⟨typeIs_int s i t,fun _ e=>nomatch e⟩
 | ref p =>
   cases r
   rcases ty with ⟨rfl,xs,hq⟩ | ⟨rfl,o,hk,hc,hd⟩ | ⟨rfl,hk⟩ | ⟨rfl,S,n,hk⟩
   ·obtain ⟨its,_,pl,_⟩:=I.list hq
    refine ⟨pl.isList.typeIs,fun a e=>?_⟩
    cases e
    obtain ⟨o,n,e,c,hd,_⟩:=pl
    exact ⟨o,e,hd⟩
   ·refine ⟨⟨o,I.kIn p o hk,hc⟩,fun a e=>?_⟩
    cases e
    exact ⟨o,I.kIn _ o hk,hd⟩
   ·have z:∃ o,s.heap.get? p=some o/\o.ExactDict:=by
     rcases hk with ⟨kvs,hk⟩ | ⟨kvs,hk⟩
     ·obtain ⟨_,_,_,_,o,_,_,e,ex,_⟩:=I.hok p _ hk
      exact ⟨o,e,ex⟩
     ·obtain ⟨_,_,_,_,o,_,_,e,ex,_⟩:=I.hok p _ hk
      exact ⟨o,e,ex⟩
    obtain ⟨o,e,ex⟩:=z
    refine ⟨⟨o,e,ex.1⟩,fun a e2=>?_⟩
    cases e2
    exact ⟨o,e,ex.2.1⟩
   ·obtain ⟨o,_,_,_,e,ex,_⟩:=I.hok p _ hk
    refine ⟨⟨o,e,ex.1⟩,fun a e2=>?_⟩
    cases e2
    exact ⟨o,e,ex.2.1⟩
 | _=>exact False.elim ty
def tBM (K:PySem.W.Frag) (T:String) (r:V->List V->Hp->VK->Prop) (to:TE) (t:TA):TE:=fun σ H Q=>to σ H fun x H1=>tyV K T x H1/\t σ H1 fun xs H2=>r x xs H2 Q
variable {o e:Expr} {es:List Expr} {to:TE} {t:TA} {name:Str} {apos cpos:Pos} {T id:String} {r:V->List V->Hp->VK->Prop}
theorem ztO (pa:PlainAttrs T) (slot:Slot T name id) (hty:typeOf (.builtin id)=pure (.type "method_descriptor")) (hm:MtR X id r) (ho:PE X o to) (ha:PA X (e :: es) t)
 (hbase:attributeBase o name X.env (eval o X.env)=eval o X.env:=by rfl)
 (hfew:((backTo cpos (starEach (e :: es) X.env)).all (fun x=>!x.1) && (backToKw cpos (keywordEach [] X.env)).all (fun x=>x.1.isSome)
   && decide ((e :: es).length+([]:List Keyword).length+(if ([]:List Keyword).isEmpty then 0 else 1) < 30))=true:=by rfl)
 (hline:(apos.endLine == cpos.line)=true:=by rfl) (hs:starEach (e :: es) X.env=(false,eval e X.env) :: starEach es X.env:=by rfl) (hplain:(backTo cpos (starEach es X.env)).any (·.1)=false:=by rfl) :
 PE X (.Call (.Attribute o name apos) (e :: es) [] cpos) (tBM X.K T r to t):=by
 intro pins s σ H Q I h
 refine wpAny_Call_method_late hbase hfew hline rfl (thn (ho pins s σ H _ I h) fun v s1 ⟨x,H1,I1,r1,ty,q1⟩=>?_)
 obtain ⟨h1,h2⟩:=zrd I1 r1 ty
 refine ⟨T,id,pa,slot,hty,h1,h2,?_⟩
 have hA:=ha cpos pins s1 σ H1 _ I1 q1
 rw [hs] at hA ⊢
 refine Calls.callWith_builtin (by show (false || (backTo cpos (starEach es X.env)).any (·.1))=false;rw [hplain] <;> rfl) (Calls.evalArgs_plain ?_)
 exact thn hA fun us s2 ⟨vs,H2,I2,r2,q2⟩=>hm pins s2 σ H2 x vs v us Q I2 r1 r2 q2
end
end L2
namespace L2
open PySem PySem.Spec PyProof.Rows
def MtM (X:Cx) (id:String) (r:V->List V->Hp->VK->Prop):Prop :=
 ∀ (pins:List (Addr × Obj)) (s:Shared) (σ:St) (H:Hp) (x:V) (xs:List V) (v:Value) (us:List Value) (Q:VK),Inv X pins σ H s->RelV x v->Vals xs us->r x xs H Q ->
  wpAny (model X.prog X.w) X.A (call (.builtin id) (v :: us)) (EP X pins σ Q) X.xe s
theorem Vals.one:∀ {x:V} {us:List Value},Vals [x] us->∃ u,us=[u]/\RelV x u
 | _,_,.cons r .nil=>⟨_,rfl,r⟩
theorem Vals.two:∀ {x y:V} {us:List Value},Vals [x,y] us->∃ u v,us=[u,v]/\RelV x u/\RelV y v
 | _,_,_,.cons r (.cons q .nil)=>⟨_,_,rfl,r,q⟩
theorem Vals.zero:∀ {us:List Value},Vals [] us->us=[]
 | _,.nil=>rfl
theorem Vals.eraseIdx:∀ {xs:List V} {us:List Value} (i:Nat),Vals xs us->Vals (xs.eraseIdx i) (us.eraseIdx i)
 | _,_,_,.nil=>.nil
 | _,_,0,.cons _ t=>t
 | _,_,i+1,.cons r t=>.cons r (Vals.eraseIdx i t)
theorem Vals.rep {xs:List V} {us:List Value} (h:Vals xs us):∀ k:Nat,Vals (List.replicate k xs).flatten (List.replicate k us).flatten
 | 0=>.nil
 | k+1=>by
   rw [List.replicate_succ,List.replicate_succ,List.flatten_cons,List.flatten_cons]
   exact Vals.append h (Vals.rep h k)
theorem zgR {α:Type}:∀ (l:List α) (i:Nat),(l.eraseIdx i).length<=l.length
 | [],_=>Nat.le_refl _
 | _ :: _,0=>Nat.le_succ _
 | _ :: r,i+1=>Nat.succ_le_succ (zgR r i)
theorem zgU (its:List Value):∀ (k:Nat) (acc:List Value),
 List.foldl (fun x1 x2=>x1++x2) acc.toArray (List.replicate k its.toArray)=(acc++(List.replicate k its).flatten).toArray
 | 0,acc=>by simp
 | k+1,acc=>by
   have e:acc.toArray++its.toArray=(acc++its).toArray:=by simp
   have e2:(acc++its)++(List.replicate k its).flatten=acc++(List.replicate (k+1) its).flatten:=by
    rw [List.replicate_succ,List.flatten_cons,List.append_assoc]
   rw [<- e2,<- zgU its k (acc++its),<- e,List.replicate_succ,List.foldl_cons]
section
variable {X:Cx} {pins:List (Addr × Obj)} {σ:St} {H:Hp} {s:Shared} {l b:Addr} {xs ys zs:List V}
theorem Inv.lset {its its':List Value} {n:Nat} {f:Array Value->Array Value} {t':Nat} (I:Inv X pins σ H s) (hH:H l=some (.lst xs))
 (e:s.heap.get? l=some { cls:=.type "list",data:=.seq its.toArray n }) (hf:f its.toArray=its'.toArray) (hv:Vals ys its') (hz:ys.length<=sizeLine) :
 Inv X pins σ (upd H l (.lst ys)) { s with heap:=s.heap.update l (Obj.mapSeq f),toks:=t' }:=by
 have q:=PySem.IsL.update e f
 rw [hf] at q
 refine I.write (x:=l) (e:=l) (by rw [hH];exact trivial) (.inl rfl) (fun b' u hb hu=>(Heap.get?_update_other s.heap (Obj.mapSeq f) (Ne.symm hb)).trans hu) ⟨_,q⟩ ?_
 exact ⟨hz,its',_,hv,q⟩
theorem Inv.lnew {its:List Value} {t':Nat} (I:Inv X pins σ H s) (hv:Vals ys its) (hz:ys.length<=sizeLine) :
 Inv X pins σ (upd H s.heap.objs.size (.lst ys)) { s with heap:=s.heap.push { cls:=.type "list",data:=.seq its.toArray },toks:=t' } :=
 I.laid (fun _ _ q=>Heap.get?_push_of_some _ q) (Nat.le_refl _) ⟨hz,its,0,hv,Heap.get?_push_size _ rfl⟩
theorem Inv.fresh (I:Inv X pins σ H s):H s.heap.objs.size=none:=I.hok.fresh (Nat.le_refl _)
theorem Inv.lstM (I:Inv X pins σ H s) (hH:H l=some (.lst xs)):xs.length<=sizeLine/\∃ (its:List Value) (n:Nat),Vals xs its/\xs.length=its.length/\s.heap.get? l=some { cls:=.type "list",data:=.seq its.toArray n }:=by
 obtain ⟨z,its,n,r,e⟩:=I.hok l _ hH
 exact ⟨z,its,n,r,r.length,e⟩
theorem zje {n:Nat} (h:n<=sizeLine):Builtin.List.listTooLong n=false:=by
 unfold Builtin.List.listTooLong
 exact decide_eq_false (by omega)
end
section
variable {X:Cx}
def rAppend:V->List V->Hp->VK->Prop:=fun x vs H Q=>∃ l xs y,x=.ref l/\vs=[y]/\H l=some (.lst xs)/\xs.length < sizeLine/\Q .non (upd H l (.lst (xs++[y])))
theorem zbf:MtM X "list.append" rAppend:=by
 intro pins s σ H x vs v us Q I rx rv h
 obtain ⟨l,xs,y,rfl,rfl,hH,hz,q⟩:=h
 cases rx
 obtain ⟨u,rfl,ru⟩:=rv.one
 obtain ⟨z,its,n,r,hl,e⟩:=I.lstM hH
 refine call_meets F.slot_list_append ⟨_,e,rfl⟩ F.entry_list_append (F.args_list_append_2 _ _) (PySem.list_append l its.toArray n u (by rw [List.size_toArray];omega)) ⟨e,?_⟩
 refine ⟨.non,_,I.lset (its':=its++[u]) hH e (by simp) (r.append (.cons ru .nil)) ?_,rfl,q⟩
 rw [List.length_append,List.length_singleton]
 omega
def rExtend:V->List V->Hp->VK->Prop:=fun x vs H Q=>∃ l b xs zs,x=.ref l/\vs=[.ref b]/\H l=some (.lst xs)/\H b=some (.lst zs)/\xs.length+zs.length<=sizeLine/\Q .non (upd H l (.lst (xs++zs)))
theorem zkT:MtM X "list.extend" rExtend:=by
 intro pins s σ H x vs v us Q I rx rv h
 obtain ⟨l,b,xs,zs,rfl,rfl,hH,hB,hz,q⟩:=h
 cases rx
 obtain ⟨u,rfl,ru⟩:=rv.one
 cases ru
 obtain ⟨z,its,n,r,hl,e⟩:=I.lstM hH
 obtain ⟨z2,its2,n2,r2,hl2,e2⟩:=I.lstM hB
 have hsz:its.toArray.size+its2.toArray.size<=sizeLine:=by rw [List.size_toArray,List.size_toArray];omega
 have hlong:¬ (!its.toArray.isEmpty && Builtin.List.listTooLong (its.toArray.size+its2.toArray.size))=true:=by
  rw [zje hsz,Bool.and_false]
  exact Bool.false_ne_true
 refine call_meets F.slot_list_extend ⟨_,e,rfl⟩ F.entry_list_extend (F.args_list_extend_2 _ _)
  (AutoSeq1.list_extend_list_list_0 l its.toArray n b its2.toArray n2 hlong (by rw [List.size_toArray];omega) (by omega)) ⟨e,e2,?_⟩
 refine ⟨.non,_,I.lset (its':=its++its2) hH e (by simp) (r.append r2) ?_,rfl,q⟩
 rw [List.length_append]
 omega
def rPopAt:V->List V->Hp->VK->Prop:=fun x vs H Q=>∃ l xs i k y,x=.ref l/\vs=[.int i]/\H l=some (.lst xs)/\-(2 ^ 63)<=i/\i < 2 ^ 63/\seqIndex? i xs.length=some k/\xs[k]?=some y/\Q y (upd H l (.lst (xs.eraseIdx k)))
theorem zjk:MtM X "list.pop" rPopAt:=by
 intro pins s σ H x vs v us Q I rx rv h
 obtain ⟨l,xs,i,k,y,rfl,rfl,hH,h1,h2,hk,hy,q⟩:=h
 cases rx
 obtain ⟨u,rfl,ru⟩:=rv.one
 obtain ⟨t,rfl⟩:=ru
 obtain ⟨z,its,n,r,hl,e⟩:=I.lstM hH
 obtain ⟨w,hw,rw'⟩:=r.get hy
 refine call_meets F.slot_list_pop ⟨_,e,rfl⟩ F.entry_list_pop (F.args_list_pop_2 _ _)
  (MeetsSeq.list_pop_at l its.toArray n i t k w (fitsIndex_both h1 h2) (by rw [List.size_toArray,<- hl];exact hk) (by rw [<- Array.getElem?_toList];exact hw) (by rw [List.size_toArray];omega)) ⟨e,?_⟩
 refine ⟨y,_,I.lset (its':=its.eraseIdx k) hH e ?_ (r.eraseIdx k) ?_,rw',q⟩
 ·show its.toArray.eraseIdxIfInBounds k=(its.eraseIdx k).toArray
  rw [List.eraseIdxIfInBounds_toArray]
 ·have:=zgR xs k
  omega
def rCat:R2:=fun x y H Q=>∃ l b xs zs,x=.ref l/\y=.ref b/\H l=some (.lst xs)/\H b=some (.lst zs)/\xs.length+zs.length<=sizeLine/\∀ p,H p=none->Q (.ref p) (upd H p (.lst (xs++zs)))
theorem ziX:OpR X (binaryOp .Add) rCat:=by
 intro pins s σ H x y v u Q I rx ry h
 obtain ⟨l,b,xs,zs,rfl,rfl,hH,hB,hz,q⟩:=h
 cases rx
 cases ry
 obtain ⟨z,its,n,r,hl,e⟩:=I.lstM hH
 obtain ⟨z2,its2,n2,r2,hl2,e2⟩:=I.lstM hB
 refine PySem.P.add_list e e2 ?_ (by rw [List.size_toArray,List.size_toArray];omega)
 have ea:its.toArray++its2.toArray=(its++its2).toArray:=by simp
 rw [ea]
 exact ⟨.ref _,_,I.lnew (t':=s.toks) (r.append r2) (by rw [List.length_append];omega),rfl,q _ I.fresh⟩
def rRep:R2:=fun x y H Q=>∃ l k xs,x=.ref l/\y=.int k/\H l=some (.lst xs)/\-(2 ^ 63)<=k/\k < 2 ^ 63/\xs.length * k.toNat<=sizeLine /\
 ∀ p,H p=none->Q (.ref p) (upd H p (.lst (List.replicate k.toNat xs).flatten))
theorem znY {α:Type} (xs:List α) (k:Nat):(List.replicate k xs).flatten.length=k * xs.length:=by
 induction k with
 | zero=>simp
 | succ k ih=>rw [List.replicate_succ,List.flatten_cons,List.length_append,ih,Nat.succ_mul,Nat.add_comm]
theorem zrD:OpR X (binaryOp .Mult) rRep:=by
 intro pins s σ H x y v u Q I rx ry h
 obtain ⟨l,k,xs,rfl,rfl,hH,h1,h2,hz,q⟩:=h
 cases rx
 obtain ⟨t,rfl⟩:=ry
 obtain ⟨z,its,n,r,hl,e⟩:=I.lstM hH
 have hlen:its.toArray.size * k.toNat<=sizeLine:=by rw [List.size_toArray,<- hl];exact hz
 have hcap:¬ its.toArray.size * k.toNat > (2 ^ 63 - 1) / 8:=by
  have:(sizeLine:Nat)<=(2 ^ 63 - 1) / 8:=by decide
  omega
 have hfit:¬ (!Builtin.List.listFitsIndex k)=true:=by
  rw [fitsIndex_both h1 h2]
  exact Bool.false_ne_true
 have hlong:¬ Builtin.List.listTooLong (its.toArray.size * k.toNat)=true:=by
  rw [zje hlen]
  exact Bool.false_ne_true
 have hnew:List.foldl (fun x1 x2=>x1++x2) #[] (List.replicate (if its.toArray.isEmpty=true then 0 else k.toNat) its.toArray)=(List.replicate k.toNat its).flatten.toArray:=by
  have f0:∀ m:Nat,List.foldl (fun x1 x2=>x1++x2) #[] (List.replicate m its.toArray)=(List.replicate m its).flatten.toArray:=fun m=>by
   have:=zgU its m []
   rw [List.nil_append] at this
   exact this
  rw [f0]
  cases its with
  | nil=>simp
  | cons a r'=>rw [if_neg (by simp)]
 refine wpAny_binaryOp_repeat_ref (T:="list") (U:="int") (by decide) ⟨_,e,rfl⟩ (fun s'=>typeIs_int s' k t) noFill_list_mul F.fills_int_mul F.slot_int_rmul repeat_list F.slot_int_index.lookup
  (call_meets F.slot_int_rmul (typeIs_int s k t) F.entry_int_rmul (F.args_int_rmul_2 _ _) (int___rmul___int_list k t l its.toArray n)
    ⟨e,rfl,⟨_,e,rfl⟩,call_meets F.slot_list_mul ⟨_,e,rfl⟩ F.entry_list_mul (F.args_list_mul_2 _ _) (AutoListH.list___mul___list_int_3 l its.toArray n k t hfit hcap hlong) ⟨e,?_⟩⟩)
 rw [hnew]
 exact ⟨.ref _,_,I.lnew (t':=s.toks) (r.rep k.toNat) (by rw [znY,Nat.mul_comm];exact hz),rfl,q _ I.fresh⟩
end
section
variable {prog:Program} {w:World} {A:Around} {E:Value->Shared->Prop} {s:Shared}
set_option maxRecDepth 100000 in
end
section
variable {X:Cx}
end
end L2
namespace Att
open PySem PySem.W PySem.Calls PyProof.Rows
theorem zfj {P:Params} {h:Heap}:∀ (ns:List Int) (vs:List Value),WellAll P h vs (ns.map WData.int)->IntsAre vs ns:=by
 intro ns
 induction ns with
 | nil =>
   intro vs w
   rw [List.map_nil] at w
   cases w
   exact .nil
 | cons n ns ih =>
   intro vs w
   rw [List.map_cons] at w
   cases w with
   | cons a b =>
     cases a
     exact .cons _ _ (ih _ b)
theorem zlG {l:OpenLaw} {n:Nat} (hn:l.most=some n) {P:Params} {h:Heap} {args:List WData} {vals:List Value}
 (hpre:l.row.toRowW.claim.pre args=true) (hwl:WellAll P h vals args) :
 ∃ a vs ns,vals=[Value.ref a]/\args=[WData.list (ns.map WData.int)]/\h.get? a=some { cls:=.type "list",data:=.seq vs.toArray }/\IntsAre vs ns/\ns.length<=n:=by
 have hsh:WShape.hasAll [] args [.list .int]=true:=(pre_splitW hpre).1
 have hc:l.pre.holds [] { args:=args }=true:=(pre_splitW hpre).2
 obtain ⟨d,r,rfl,h1,h2⟩:=hasAllW_cons hsh
 obtain rfl:=hasAllW_nil h2
 obtain ⟨xs,rfl,h3⟩:=hasW_list h1
 obtain ⟨ns,rfl⟩:=items_int h3
 have hlen:ns.length<=n:=by
  unfold OpenLaw.pre at hc
  have h4:(WTm.not (.lt (.lit (.int (n:Int))) (.len (.arg 0)))).holds [] { args:=[.list (ns.map .int)] }=true:=by
   have h4:=(holds_andW hc).1
   rw [hn] at h4
   exact h4
  have h5:=condW_of h4 (w_not (w_lt w_lit (w_len_list (w_arg rfl))))
  rw [List.length_map] at h5
  refine Nat.le_of_not_lt fun q=>?_
  have q':(n:Int) < ((ns.length:Nat):Int):=by omega
  first
   | (rw [decide_eq_true q'] at h5;exact absurd h5 (by decide))
   | (simp at h5;omega)
 cases hwl with
 | cons w1 w2 =>
   cases w2
   cases w1 with
   | list ho hall=>exact ⟨_,_,ns,rfl,rfl,ho,zfj ns _ hall,hlen⟩
theorem zkN (l:OpenLaw) (args:List WData):l.row.toRowW.claim.post args (.bool true) args=true :=
 postW_of (r:=l.row.toRowW) (X:=(true == true))
  (show WShape.has [] (.bool true) .bool=true by first | rfl | decide | simp [WShape.has,WShape.arms,WShape.armsAll])
  (show (WTm.eq .res (.lit (.bool true))).value [] { args:=args,res:=some (.bool true),after:=args }=some (.bool (true == true)) from w_eq_bool (w_res rfl) w_lit) rfl
theorem zhN {l:OpenLaw} {n:Nat} {q:Program} {loose:List Str} {XP:(Str->Option Value)->Heap->Prop} {YP:World->Heap->Prop} {d:DefRec}
 (hn:l.most=some n) (hdf:d.params.defaults=[])
 (call:∀ (w:World) (s₀ s₁:Shared) (mg mb:Str->Option Value) (fa:Addr) (o:Obj) (pm cd doc:Value) (a:Addr) (vs:List Value) (ns:List Int),
   Ground q loose [] XP w s₀ mg mb s₁.heap->YP w s₁.heap ->
   s₁.heap.get? fa=some o->o.data=.func (docDef d.name d.params d.body d.scope pm cd doc)->s₁.heap.CodeRec cd d.name->mg d.name=some (.ref fa) ->
   s₁.heap.get? a=some { cls:=.type "list",data:=.seq vs.toArray }->IntsAre vs ns->ns.length<=n->s₁.gens=#[] ->
   codeAny (model l.prog w) callerA (.call (.ref fa) ⟨[.ref a],[]⟩) (fun r s'=>r=.ok (.ret (.bool true))/\OldK s₁.heap s'.heap/\s'.os=s₁.os/\AllBare s'.gens) s₁) :
 WalkO q loose XP YP l.row.toRowW d [] (fun f vs=>PySem.call f vs):=by
 intro w s₀ s₁ mg mb G Y fa o pm cd doc dV kV ho hd hcd hD hmg hg args vals as hpre hlay hrd hwl hlo
 obtain rfl:dV=.none:=Dflts.none hD hdf
 obtain rfl:kV=.none:=Dflts.noKw hD
 obtain ⟨a,vs,ns,rfl,rfl,hobj,hints,hlen⟩:=zlG hn hpre hwl
 refine enter_call (codeAny_mono (call w s₀ s₁ mg mb fa o pm cd doc a vs ns G Y ho (fd_plain hd) hcd hmg hobj hints hlen hg) fun r s' hq=>?_)
 obtain ⟨rfl,h2,h3,h4⟩:=hq
 exact ⟨.inl ⟨.bool true,.bool true,[],rfl,fun _=>rfl,.bool true,zkN l _,fun _=>⟨List.Pairwise.nil,fun _ hm=>(nomatch hm)⟩⟩,h2,h3,h4⟩
section
variable {prog:Program} {w:World} {A:Around} {E:Value->Shared->Prop} {s:Shared} {K:Frag}
end
end Att
namespace L2
open PySem PySem.Spec PyProof.Rows
theorem zhA:∀ {vs:List Value} {ns:List Int},IntsAre vs ns->Vals (ns.map V.int) vs
 | _,_,.nil=>.nil
 | _,_,.cons n t h=>.cons ⟨t,rfl⟩ (zhA h)
def Only (H:Hp):Prop:=∀ b,H b=none\/∃ o xs,H b=some (.frz o (.lst xs))
theorem zmD {P:Program} {w:World} {K:PySem.W.Frag} {mg mb:Str->Option Value} {CX:CXT} {k:Nat} {fa a:Addr} {fd:FuncData} {x:Str} {sp:Sp} {s₁:Shared} {vs:List Value} {ns:List Int}
 (KX:K.In s₁.heap) (hns:s₁.heap.Ns mainGlobals mg) (hb:s₁.heap.Ns builtinsNs mb) (hbb:∀ x:Str,x ≠ "__name__"->mb x=bootBuiltins x) (hlim:s₁.heap.NoLimit) (hg:s₁.gens=#[])
 (ha:s₁.heap.get? a=some { cls:=.type "list",data:=.seq vs.toArray }) (hi:IntsAre vs ns) (hl:ns.length<=sizeLine) (hr:Room k callerA)
 (F:∀ base:Heap,K.In base->base.Ns mainGlobals mg->FnOk P w K mg base CX k fa fd [x] sp) (hbind:∀ (s:Shared) (u:Value),BindsTo s fd ⟨[u],[]⟩ [(x,u)])
 (hsp:∀ H:Hp,Only H->SqL K H a (ns.map V.int)->sp [.ref a] H (fun v _=>v=.bl true) fun _ _ _=>False)
 (hCX:∀ H e s',CX [] H s₁ (fun _ _ _=>False) e s'->False) :
 codeAny (model P w) callerA (.call (.ref fa) ⟨[.ref a],[]⟩) (fun r s'=>r=.ok (.ret (.bool true))/\OldK s₁.heap s'.heap/\s'.os=s₁.os/\AllBare s'.gens) s₁:=by
 have rv:=zhA hi
 have lenV:=hi.length
 have core:∀ H:Hp,Only H->SqL K H a (ns.map V.int)->HOk P w H s₁.heap->(∀ b,H b ≠ none->b=a)->(H a ≠ none->K.lookup a=none) ->
  codeAny (model P w) callerA (.call (.ref fa) ⟨[.ref a],[]⟩) (fun r s'=>r=.ok (.ret (.bool true))/\OldK s₁.heap s'.heap/\s'.os=s₁.os/\AllBare s'.gens) s₁:=by
  intro H hO hS hok hA hK
  have base_of:∀ {b:Addr} {o:Obj},s₁.heap.get? b=some o->H b=none->(hidT s₁.heap H).get? b=some o:=fun e n=>zmW e n
  have noA:∀ {b:Addr} {o:Obj} {es:Array DictEntry} {ep:Nat},s₁.heap.get? b=some o->o.data=.dict es ep->H b=none:=fun {b o es ep} e d=>by
   cases q:H b with
   | none=>rfl
   | some u =>
     have e':b=a:=hA b (by rw [q];simp)
     subst e'
     rw [ha] at e;cases e
     have d':Data.seq vs.toArray _=Data.dict es ep:=d
     cases d'
  have nsK:∀ {b:Addr} {m:Str->Option Value},s₁.heap.Ns b m->(hidT s₁.heap H).Ns b m:=fun {b m} ⟨o,es,ep,e,d,r⟩=>⟨o,es,ep,base_of e (noA e d),d,r⟩
  have hKb:K.In (hidT s₁.heap H):=fun b o e=>base_of (KX b o e) (by
   cases q:H b with
   | none=>rfl
   | some u =>
     have e':b=a:=hA b (by rw [q];simp)
     subst e'
     rw [hK (by rw [q];simp)] at e;cases e)
  have hM:Mod K mg (hidT s₁.heap H):=⟨hKb,nsK hns,⟨mb,nsK hb,hbb⟩,let ⟨mc,h1,h2⟩:=hlim;⟨mc,nsK h1,h2⟩⟩
  have e0:Env0 P w K mg (hidT s₁.heap H) callerA [] s₁ H:=⟨rfl,hM,fun b o e=>zoa e,Nat.le_of_eq (zlr _ _),trivial,fun b hb=>absurd (show b ∈ ([]:List Addr) from hb) (by simp),hok,.of_eq hg⟩
  refine codeAny_mono ((F _ hKb (nsK hns)).run callerA [] s₁ H ⟨[.ref a],[]⟩ [.ref a] [.ref a] _ _ hr e0 (hbind s₁ (.ref a)) (.cons rfl .nil) (hsp H hO hS)) fun r s' h=>?_
  cases r with
  | error e=>exact (hCX H e s' h).elim
  | ok fl =>
    cases fl with
    | next=>exact False.elim h
    | brk=>exact False.elim h
    | cont=>exact False.elim h
    | ret u =>
      obtain ⟨v,H',os,bare,un,hok',r',q⟩:=h
      have q':v=.bl true:=q
      subst q'
      obtain rfl:u=Value.bool true:=r'
      refine ⟨rfl,OldK.of_keep fun b o e=>?_,os,bare⟩
      cases q:H b with
      | none=>exact un.keep b o e q (by intro z;exact absurd (show b ∈ ([]:List Addr) from z) (by simp)) (by simp)
      | some u =>
        rcases hO b with z | ⟨ob,xs,z⟩
        ·rw [q] at z;cases z
        ·have z2:=un.frzs b ob _ z
         obtain ⟨e1,_⟩:=hok b _ z
         obtain ⟨e2,_⟩:=hok' b _ z2
         rw [e] at e1;cases e1
         exact e2
 cases hk:K.lookup a with
 | some o =>
   have e:=KX a o hk
   rw [ha] at e
   cases e
   refine core (fun _=>none) (fun _=>.inl rfl) (.inr ⟨_,vs.toArray,_,hk,rfl,rfl,rfl,by rw [List.size_toArray,lenV];exact hl,by simpa using rv⟩) (fun b u z=>by have z':(none:Option HO)=some u:=z;cases z') (fun b z=>absurd rfl z) fun z=>absurd rfl z
 | none =>
   refine core (fun b=>if b=a then some (.frz { cls:=.type "list",data:=.seq vs.toArray } (.lst (ns.map V.int))) else none) (fun b=>?_) (.inl (.inr ⟨{ cls:=.type "list",data:=.seq vs.toArray },if_pos rfl⟩)) (fun b u z=>?_) (fun b z=>?_) fun _=>hk
   ·by_cases hb:b=a
    ·exact .inr ⟨_,_,if_pos hb⟩
    ·exact .inl (if_neg hb)
   ·by_cases hb:b=a
    ·have z':=(if_pos hb).symm.trans z
     cases z'
     subst hb
     exact ⟨ha,by rw [List.length_map];exact hl,vs,_,rv,ha⟩
    ·have z':=(if_neg hb).symm.trans z
     cases z'
   ·by_cases hb:b=a
    ·exact hb
    ·exact absurd (if_neg hb) z
end L2
namespace L2
open PySem PySem.Spec PyProof.Rows
abbrev KOf {K:PySem.W.Frag} {h:Heap} (_:K.In h):PySem.W.Frag:=K
theorem znx {l:PySem.W.OpenLaw} {n k:Nat} {q:Program} {loose:List Str} {XP:(Str->Option Value)->Heap->Prop} {YP:World->Heap->Prop} {d:DefRec} {K:Params->PySem.W.Frag} {CX:World->CXT} {sp:World->Sp} {x:Str}
 (hn:l.most=some n) (hn2:n<=sizeLine) (hdf:d.params.defaults=[]) (hr:Room k callerA)
 (hY:∀ (w:World) (h:Heap),YP w h->(K w.params).In h)
 (F:∀ (w:World) (mg:Str->Option Value) (fa:Addr) (h:Heap),(K w.params).In h->h.Ns mainGlobals mg->mg d.name=some (.ref fa) ->
   ∃ fd:FuncData,(∀ (s:Shared) (u:Value),BindsTo s fd ⟨[u],[]⟩ [(x,u)]) /\
    ∀ base:Heap,(K w.params).In base->base.Ns mainGlobals mg->FnOk l.prog w (K w.params) mg base (CX w) k fa fd [x] (sp w))
 (hsp:∀ (w:World) (H:Hp) (a:Addr) (ns:List Int),ns.length<=n->Only H->SqL (K w.params) H a (ns.map V.int)->sp w [.ref a] H (fun v _=>v=.bl true) fun _ _ _=>False)
 (hCX:∀ (w:World) (H:Hp) (s:Shared) (e:Value) (s':Shared),CX w [] H s (fun _ _ _=>False) e s'->False) :
 PySem.W.WalkO q loose XP YP l.row.toRowW d [] (fun f vs=>PySem.call f vs):=by
 refine Att.zhN hn hdf fun w s₀ s₁ mg mb fa o pm cd doc a vs ns G Y ho hd hcd hmg hobj hints hlen hg=>?_
 have KX:=hY w _ Y
 obtain ⟨fd,hb,hF⟩:=F w mg fa _ KX G.T.g hmg
 exact zmD KX G.T.g G.T.b G.T.builtins G.T.nolimit hg hobj hints (Nat.le_trans hlen hn2) hr hF hb (fun H hO hS=>hsp w H a ns hlen hO hS) fun H e s'=>hCX w H s₁ e s'
theorem walk_ofK {l:PySem.W.OpenLaw} {n k:Nat} {q:Program} {loose:List Str} {XP:(Str->Option Value)->Heap->Prop} {YP:World->Heap->Prop} {d:DefRec} {K:Params->PySem.W.Frag} {CX:CXT} {sp:PySem.W.Frag->Sp} {x:Str}
 (hn:l.most=some n) (hn2:n<=sizeLine) (hdf:d.params.defaults=[]) (hr:Room k callerA)
 (hY:∀ (w:World) (h:Heap),YP w h->(K w.params).In h)
 (F:∀ (w:World) (mg:Str->Option Value) (fa:Addr) (h:Heap),(K w.params).In h->h.Ns mainGlobals mg->mg d.name=some (.ref fa) ->
   ∃ fd:FuncData,(∀ (s:Shared) (u:Value),BindsTo s fd ⟨[u],[]⟩ [(x,u)]) /\
    ∀ base:Heap,(K w.params).In base->base.Ns mainGlobals mg->FnOk l.prog w (K w.params) mg base CX k fa fd [x] (sp (K w.params)))
 (hsp:∀ (K:PySem.W.Frag) (H:Hp) (a:Addr) (ns:List Int),ns.length<=n->Only H->SqL K H a (ns.map V.int)->sp K [.ref a] H (fun v _=>v=.bl true) fun _ _ _=>False)
 (hCX:∀ (H:Hp) (s:Shared) (e:Value) (s':Shared),CX [] H s (fun _ _ _=>False) e s'->False) :
 PySem.W.WalkO q loose XP YP l.row.toRowW d [] (fun f vs=>PySem.call f vs) :=
 znx (K:=K) (CX:=fun _=>CX) (sp:=fun w=>sp (K w.params)) hn hn2 hdf hr hY F (fun w H a ns h1 h2 h3=>hsp (K w.params) H a ns h1 h2 h3) fun _ H s e s'=>hCX H s e s'
end L2
namespace L2
open PySem PySem.Spec PyProof.Rows
def zah (s:Stmt) (j:Nat):Stmt:=match s with
 | .ClassDef _ _ _ body _ _ _ _ _ _ _=>body.getD j (.Pass ⟨0,0,0,0⟩)
 | _=>.Pass ⟨0,0,0,0⟩
def zaj (s:Stmt):Arguments:=match s with
 | .FunctionDef _ a _ _ _ _ _ _ _ _=>a
 | _=>{ posonlyargs:=[],args:=[],vararg:=none,kwonlyargs:=[],kw_defaults:=[],kwarg:=none,defaults:=[] }
def zak (s:Stmt):List Stmt:=match s with
 | .FunctionDef _ _ b _ _ _ _ _ _ _=>b
 | _=>[]
def zab (s:Stmt):Scope:=match s with
 | .FunctionDef _ _ _ _ _ _ sc _ _ _=>sc
 | _=>{ kind:=.function,names:=[],isGenerator:=false,isCoroutine:=false }
abbrev CX0:CXT:=fun _ _ _ _ _ _=>False
abbrev E0:XK:=fun _ _ _=>False
theorem zmG {X:Cx}:ziU CX0 X E0:=fun _ _ _ _ _ _ _ h=>h.elim
structure Fun (K:PySem.W.Frag) (x qual:Str) (st:Stmt) (f:Addr) (fd:FuncData):Prop where
 ex:∃ (oc:Value) (od:Option Addr) (kV doc pm:Value) (an:Option Addr) (cdv ct:Value) (osl:Array (Option Value)),
  fd=PySem.W.fnOf x qual (zaj st) (zak st) (zab st) .none kV doc pm an cdv ct/\K.lookup f=some ⟨oc,od,.func fd,osl⟩/\PySem.W.codeIn K cdv qual=true
 kp:PySem.W.keepIn K (.ref f)=true
section
variable {P:Program} {w:World} {K:PySem.W.Frag} {mg:Str->Option Value} {base:Heap}
theorem Fun.ok {x qual:Str} {st:Stmt} {f:Addr} {fd:FuncData} {N ps:List Str} {k:Nat} {sp:Sp} (F:Fun K x qual st f fd) (S:FnScope N ps (zab st)) (len:∀ vs H Q E,sp vs H Q E->vs.length=ps.length)
 (hbody:∀ (cdv:Value) (A:Around) (outer:List Env) (s:Shared) (H:Hp) (vs:List V) (Q:VK) (E:XK),Room k (A.deeper (envOfC qual (zab st) s.heap.objs.size f cdv))->sp vs H Q E ->
   ∃ t,PSs (cxOf CX0 P w K mg base N qual (zab st) f cdv A outer s H E).nox (zak st) t/\t { nx:=fun _ H'=>Q .non H',rt:=Q } (start N vs) H):FnOk P w K mg base CX0 (k+1) f fd ps sp:=by
 obtain ⟨oc,od,kV,doc,pm,an,cdv,ct,osl,rfl,lk,hcd⟩:=F.ex
 refine zrB lk hcd S len fun A outer s H vs Q E hr hsp=>?_
 obtain ⟨t,h,q⟩:=hbody cdv A outer s H vs Q E hr hsp
 exact ⟨t,h.nox,q⟩
theorem Fun.binds {x qual:Str} {st:Stmt} {f:Addr} {fd:FuncData} {ps:List Str} (F:Fun K x qual st f fd)
 (h:∀ (kV doc pm:Value) (an:Option Addr) (cdv ct:Value) (us:List Value),us.length=ps.length->bindArgs (PySem.W.fnOf x qual (zaj st) (zak st) (zab st) .none kV doc pm an cdv ct) ⟨us,[]⟩=pure (ps.zip us)):zjF K fd ps []:=by
 obtain ⟨oc,od,kV,doc,pm,an,cdv,ct,osl,rfl,lk,hcd⟩:=F.ex
 exact .all (h kV doc pm an cdv ct)
theorem zaz {x qual:Str} {st:Stmt} {f:Addr} {oc:Value} {od an:Option Addr} {osl:Array (Option Value)} {kV doc pm cdv ct:Value} (l:K.lookup f=some ⟨oc,od,.func (PySem.W.fnOf x qual (zaj st) (zak st) (zab st) .none kV doc pm an cdv ct),osl⟩)
 (c:PySem.W.codeIn K cdv qual=true) (k:PySem.W.keepIn K (.ref f)=true):Fun K x qual st f (PySem.W.fnOf x qual (zaj st) (zak st) (zab st) .none kV doc pm an cdv ct):=⟨⟨oc,od,kV,doc,pm,an,cdv,ct,osl,rfl,l,c⟩,k⟩
end
section
variable {X:Cx}
theorem pv (i:Nat) {x:Str} {pos:Pos} (hN:X.N[i]?=some x:=by rfl) (hv:Vis X.env.scope x:=by first | exact Or.inl rfl | exact Or.inr (Or.inl rfl) | exact Or.inr (Or.inr rfl)) (hd:(x == ("__debug__":Str))=false:=by decide)
 (hcd:(x == ("__classdict__":Str))=false:=by decide):PE X (.Name x pos) (tVar i):=zpv hN hv hd hcd
end
theorem iteF {A B:Prop} (h:B):if false=true then A else B:=by
 rw [if_neg Bool.false_ne_true]
 exact h
theorem iteT {A B:Prop} (h:A):if true=true then A else B:=by
 rw [if_pos rfl]
 exact h
theorem ite2 {c A B:Prop} [Decidable c] (h1:c->A) (h2:¬ c->B):if c then A else B:=by
 by_cases h:c
 ·rw [if_pos h]
  exact h1 h
 ·rw [if_neg h]
  exact h2 h
def Same (H H':Hp):Prop:=∀ b o,H b=some o->H' b=some o
theorem Same.refl (H:Hp):Same H H:=fun _ _ h=>h
theorem Same.trans {H H1 H2:Hp} (a:Same H H1) (b:Same H1 H2):Same H H2:=fun c o h=>b c o (a c o h)
theorem Same.free {H H':Hp} (e:Same H H') {l:Addr} (h:H' l=Option.none):H l=Option.none:=by
 cases q:H l with
 | none=>rfl
 | some o =>
   rw [e l o q] at h
   cases h
theorem Same.seq {K:PySem.W.Frag} {H H':Hp} {a:Addr} {xs:List V} (e:Same H H') (h:SqL K H a xs):SqL K H' a xs:=by
 rcases h with (h | ⟨o,h⟩) | h
 ·exact .inl (.inl (e _ _ h))
 ·exact .inl (.inr ⟨o,e _ _ h⟩)
 ·exact .inr h
end L2
set_option maxHeartbeats 4000000
namespace L2
open PySem PySem.Spec PyProof.Rows
structure D (K:PySem.W.Frag) (mg:Str->Option Value) (x:Str) (st:Stmt) (ps:List Str) (f:Addr) (fd:FuncData):Prop where
 fn:Fun K x x st f fd
 ba:∀ us:List Value,us.length=ps.length->bindArgs fd ⟨us,[]⟩=pure (ps.zip us)
 mg:mg x=some (.ref f)
section
variable {X:Cx} {k j:Nat} {f:Addr} {fd:FuncData} {ps:List Str} {sp:Sp} {x:Str} {st:Stmt} {p pos:Pos} {e:Expr} {es:List Expr} {t:TA}
theorem zbe (d:D X.K X.mg x st ps f fd) (F:FnOk X.prog X.w X.K X.mg X.base CX0 j f fd ps sp) (hr:Room k X.A) (hg:Gl X x) (ha:PA X (e :: es) t) (hjk:j<=k:=by decide) (hdb:(x == ("__debug__":Str))=false:=by decide)
 (he:starEach (e :: es) X.env=(false,eval e X.env) :: starEach es X.env:=by rfl) (hpl:(backTo pos (starEach es X.env)).any (·.1)=false:=by rfl) :
 PE X (.Call (.Name x p) (e :: es) [] pos) (zsI sp [] E0 t) :=
 zob (F.mono hjk) hr hg d.mg d.fn.kp (.all d.ba) .nil zmG ha hdb he hpl
end
theorem zcZ:bootBuiltins "len"=some (.builtin "len"):=PySem.boot_len
theorem zgM:bootBuiltins "sorted"=some (.builtin "sorted"):=by decide +kernel
theorem znd:bootBuiltins "int"=some (.type "int"):=by decide +kernel
theorem zel:bootBuiltins "list"=some (.type "list"):=by decide +kernel
section
variable {X:Cx}
end
end L2
namespace L2
open PySem PySem.Spec PyProof.Rows
theorem decV {i j:Int}:decide (V.int i=V.int j)=decide (i=j):=by
 rw [decide_eq_decide]
 exact ⟨fun h=>V.int.inj h,fun h=>by rw [h]⟩
theorem zae {H:Hp} {p:Addr} (h:H p=none) (o:HO):Same H (upd H p o):=fun b u q=>by rw [zai (zar q h)];exact q
theorem zax {H H1:Hp} {p:Addr} {o:HO} (s:Same H H1) (h:H p=none):Same H (upd H1 p o):=fun b u q=>by rw [zai (zar q h)];exact s b u q
theorem zcf {H H1:Hp} {p:Addr} {o:HO} (s:Same H H1) (h:H1 p=none):Same H (upd H1 p o):=zax s (s.free h)
theorem znz {B:Int} {zs:List Int} (h:∀ z ∈ zs,0<=z/\z < B) {i:Int} (h0:0<=i) (h1:i < (zs.length:Int)):∃ z,atI (zs.map V.int) i=some (.int z)/\0<=z/\z < B:=by
 have hk:i.toNat < zs.length:=by omega
 have ek:i=((i.toNat:Nat):Int):=by omega
 refine ⟨zs[i.toNat],?_,h _ (List.getElem_mem hk)⟩
 have q:atI (zs.map V.int) ((i.toNat:Nat):Int)=some (.int zs[i.toNat]):=zbw (by rw [List.getElem?_map,List.getElem?_eq_getElem hk] <;> rfl)
 rw [<- ek] at q
 exact q
theorem zcI {zs:List Int} {i:Nat} {y:V} (h:(zs.map V.int)[i]?=some y):∃ z,y=.int z/\zs[i]?=some z:=by
 rw [List.getElem?_map] at h
 cases e:zs[i]? with
 | none=>rw [e] at h;cases h
 | some z=>rw [e] at h;exact ⟨z,(Option.some.inj h).symm,rfl⟩
theorem zbK {n:Nat} (h:n<=100000):n<=sizeLine:=Nat.le_trans h (by decide)
theorem zco {n:Nat} (h:n<=100000):n < sizeLine:=Nat.lt_of_le_of_lt h (by decide)
end L2
namespace L2
open PySem PySem.Spec PyProof.Rows
def tCut (t:TS):TS:=fun D σ H=>∃ M:St->Hp->Prop,t { D with nx:=M } σ H/\∀ σ' H',M σ' H'->D.nx σ' H'
theorem zpD {X:Cx} {st:Stmt} {t:TS} (h:PS X st t):PS X st (tCut t):=by
 intro pins s σ H D I hw
 obtain ⟨M,h1,h2⟩:=hw
 refine thn (h pins s σ H _ I h1) fun f s1 q=>?_
 cases f with
 | next=>obtain ⟨σ',H',I',m⟩:=q;exact ⟨σ',H',I',h2 σ' H' m⟩
 | ret v=>exact q
 | brk=>exact q
 | cont=>exact q
end L2
namespace L2
open PySem PySem.Spec PyProof.Rows
section
variable {X:Cx} {pins:List (Addr × Obj)} {σ:St} {H:Hp} {s:Shared} {h':Heap}
theorem Inv.turnLay {t':Nat} {ch:List Addr} {l:Addr} {o:HO} (I:Inv X pins σ H s) (k:∀ b u,b ∉ ch->s.heap.get? b=some u->h'.get? b=some u) (hf:∀ b ∈ ch,FpOk X pins H b)
 (hp:s.heap.objs.size<=l) (new:zed X.prog X.w (upd H l o) h' l o):Inv X pins σ (upd H l o) { s with heap:=h',toks:=t' }:=by
 have hn:=I.hok.fresh hp
 have nch:∀ b u,H b=some u->b ∉ ch:=fun b u e z=>by rw [(hf b z).1] at e;cases e
 refine I.step (g':=s.gens) (d':=s.drawn) (ch:=ch) (fun b hb=>?_) (fun b u _ _ hc e _=>k b u hc e) (fun b u _ _ hc e _=>⟨u.slots,k b u hc e⟩)
  (fun b u _ e n=>?_) (fun b u hc e=>⟨u,k b u hc e⟩) (fun b xs e=>?_) (fun b u xs e=>?_) (fun b ps e=>⟨#[],?_⟩) (fun m hm=>?_) (fun b u e=>?_) I.bare
 ·obtain ⟨f0,f1,f2,f3,f4,f5⟩:=hf b hb
  exact ⟨f3,f1,f4,f5⟩
 ·rw [zai (Nat.ne_of_lt (Nat.lt_of_lt_of_le (Heap.lt_size e) hp))]
  exact n
 ·rw [zai (zar e hn)]
  exact e
 ·rw [zai (zar e hn)]
  exact e
 ·rw [zai (zar e hn),e]
  simp
 ·obtain ⟨ob,es,ep,ho,r⟩:=hm
  exact ⟨ob,es,ep,k _ ob (fun z=>(hf _ z).2.1 rfl) ho,r⟩
 ·by_cases hb:b=l
  ·subst hb
   rw [upd_same] at e
   cases e
   exact new
  ·rw [zai hb] at e
   refine (I.hok b u e).stay (fun c v hc q=>k c v ?_ q) (fun c q=>by rw [zai (zar q hn)];exact q) fun c xs q=>by rw [zai (zar q hn)];exact q
   rcases hc with z | z
   ·rw [z];exact nch b u e
   ·exact nch c _ z
end
def Ite (K:PySem.W.Frag) (a:Addr):It :=
 ⟨fun i H=>∃ xs x,SqL K H a xs/\xs[i]?=some x,fun i H v H'=>∃ t x,v=.ref t/\H t=none/\(∀ xs,SqL K H a xs->xs[i]?=some x)/\H'=upd H t (.tup [.int i,x]),fun i H=>∃ xs,SqL K H a xs/\xs.length<=i⟩
theorem zkS {P:Program} {w:World} {K:PySem.W.Frag} {es:List Expr} {k1:Nat} {tp:Pos} (a e it:Addr) (hne:e ≠ it) :
 Turn P w K (.Tuple es k1 tp) (Ite K a) [e,it] e (fun i h=>(∃ old,IsEnum h e it (i:Nat) old)/\h.IsListIter it a i) where
 mem:=by simp
 obj:=fun i h st b hb=>by
  obtain ⟨⟨old,e1⟩,o,e2,c,d⟩:=st
  have z:b=e\/b=it:=by simpa using hb
  rcases z with rfl | rfl
  ·refine ⟨_,e1,fun v z=>?_⟩
   have z':Data.fields _=Data.cell v:=z
   cases z'
  ·exact ⟨o,e2,fun v z=>by rw [d] at z;cases z⟩
 keep:=fun i h h' st k=>⟨let ⟨old,e1⟩:=st.1;⟨old,k e (by simp) _ e1⟩,st.2.at fun o e=>k it (by simp) o e⟩
 item:=by
  intro X hP hw hK hc i pins s σ H E I hf st hg
  subst hP hw hK
  obtain ⟨xs,x,hq,hx⟩:=hg
  obtain ⟨its,rv,p,hz⟩:=I.list hq
  obtain ⟨u,hu,ru⟩:=rv.get hx
  obtain ⟨⟨old,he⟩,hit⟩:=st
  have heL:e < s.heap.objs.size:=Heap.lt_size he
  refine wpAny_pyNext_enum_item he hit p.isList (x:=u) (by simpa using hu) hne fun h1 heo hit1 ht1 hz1 hk1=>⟨_,rfl,?_⟩
  refine wpAny_letOwnedTupleGo_enum heo fun h2 he2 hs2=>?_
  replace hs2:Heap.SameBut e h1 h2:=hs2
  have ht2:h2.get? s.heap.objs.size=some { cls:=.type "tuple",data:=.seq #[.int i s.toks,u] }:=(hs2.2 _ (Nat.ne_of_gt heL)).trans ht1
  have kk:∀ b o,b ∉ [e,it]->s.heap.get? b=some o->h2.get? b=some o:=fun b o hb q=>by
   have h1:b ≠ e:=fun z=>hb (by simp [z])
   have h2:b ≠ it:=fun z=>hb (by simp [z])
   exact (hs2.2 b h1).trans (hk1 b o h1 h2 q)
  have hn:H s.heap.objs.size=none:=I.hok.fresh (Nat.le_refl _)
  have I2:Inv X pins σ (upd H s.heap.objs.size (.tup [.int i,x])) { s with heap:=h2,toks:=s.toks+1 } :=
   I.turnLay kk hf (Nat.le_refl _) ⟨Nat.le_of_ble_eq_true rfl,[.int i s.toks,u],.cons ⟨_,rfl⟩ (.cons ru .nil),⟨_,ht2,rfl,0,rfl⟩⟩
  refine ⟨.ref s.heap.objs.size,_,I2,rfl,⟨_,x,rfl,hn,fun ys hy=>by rw [I.list_inj hy hq];exact hx,rfl⟩,⟨⟨u,?_⟩,hit1.extBut hs2.extBut (Ne.symm hne)⟩,fun b hb=>?_⟩
  ·have e1:((i+1:Nat):Int)=(i:Int)+1:=by omega
   rw [e1]
   exact he2
  ·rw [zai]
   ·exact (hf b hb).1
   ·have z:b=e\/b=it:=by simpa using hb
    obtain ⟨oi,hoi,_⟩:=hit
    rcases z with rfl | rfl
    ·exact Nat.ne_of_lt heL
    ·exact Nat.ne_of_lt (Heap.lt_size hoi)
 done:=by
  intro X hP hw hK hc i pins s σ H E I hf st hg
  subst hP hw hK
  obtain ⟨xs,hq,hx⟩:=hg
  obtain ⟨its,rv,p,hz⟩:=I.list hq
  obtain ⟨f0,f1,f2,f3,f4,f5⟩:=hf it (by simp)
  obtain ⟨⟨old,he⟩,hit⟩:=st
  have hl:=rv.length
  exact wpAny_pyNext_enum_end (I.ok.hd hc) he hit p.isList (by simp;omega) fun h' eb=>⟨rfl,I.turned (t':=s.toks) (fun b o hb e=>eb b o hb e) f0 f1 f3 f4 f5⟩
 self:=fun _ _ _ _ _ st h=>let ⟨⟨_,e1⟩,_⟩:=st;wpAny_pyIter_enum e1 h
theorem zhx:bootBuiltins "enumerate"=some (.type "enumerate"):=by decide +kernel
section
variable {X:Cx} {es:List Expr} {k1:Nat} {tp:Pos}
def zqn (K:PySem.W.Frag) (ta:TA):TI:=fun σ H R=>ta σ H fun vs H1=>∃ a,vs=[.ref a]/\(∃ xs,SqL K H1 a xs)/\R (Ite K a) H1
theorem znR {a:Expr} {ta:TA} {p pos:Pos} (hg:Gl X "enumerate") (hm:X.mg "enumerate"=none) (ha:PA X [a] ta) (hs:starEach [a] X.env=(false,eval a X.env) :: starEach [] X.env:=by rfl) :
 PI X (.Tuple es k1 tp) (.Call (.Name "enumerate" p) [a] [] pos) (zqn X.K ta):=by
 intro pins s σ H R I h
 refine wpAny_Call_Name_kw (zjc I hg hm zhx ?_)
 refine PyProof.Rows.callWith_type1 (thn (ha pos pins s σ H _ I h) fun us s1 ⟨vs,H1,I1,r1,q1⟩=>?_) hs (by rfl)
 obtain ⟨l,rfl,⟨xs,hq⟩,q⟩:=q1
 obtain ⟨u,rfl,ru⟩:=zfA r1
 cases ru
 obtain ⟨its,rv,pl,hz⟩:=I1.list hq
 refine call_enumerate_list pl.isList fun h' he hit hsz hk=>?_
 refine wpAny_pyIter_enum he ?_
 refine ⟨s1.heap.objs.size+1,[s1.heap.objs.size+1,s1.heap.objs.size],_,_,H1,rfl,I1.kept (t':=s1.toks) hk,zkS l _ s1.heap.objs.size (Nat.succ_ne_self _),⟨⟨.none,he⟩,hit⟩,fun b hb=>?_,q⟩
 have z:b=s1.heap.objs.size+1\/b=s1.heap.objs.size:=by simpa using hb
 have hge:s1.heap.objs.size<=b:=by rcases z with rfl | rfl <;> omega
 exact I1.fpOk hge (I1.hok.fresh hge)
end
theorem zcH {K:PySem.W.Frag} {a:Addr} {xs:List V} {g:TG} {tb:TS} {D:Ends} {σ:St} {H:Hp} (Pv:Nat->St->Hp->Prop) (h0:Pv 0 σ H) (hl:∀ i σ H,i<=xs.length->Pv i σ H->SqL K H a xs)
 (hs:∀ i x t σ H,xs[i]?=some x->Pv i σ H->H t=none->g (.ref t) σ (upd H t (.tup [.int i,x])) fun σ2 H2=>tb { D with nx:=Pv (i+1),ct:=Pv (i+1),bk:=D.nx } σ2 H2) (hd:∀ σ H,Pv xs.length σ H->D.nx σ H) :
 ∃ W:Nat->Nat->St->Hp->Prop,(∃ m,W 0 m σ H)/\∀ i m σ H,W i m σ H ->
  ((Ite K a).stop i H/\D.nx σ H)\/((Ite K a).go i H/\∃ N:St->Hp->Prop,(∀ σ' H',N σ' H'->∃ m',m' < m/\W (i+1) m' σ' H')/\∀ x H',(Ite K a).yld i H x H'->g x σ H' fun σ2 H2=>tb { D with nx:=N,ct:=N,bk:=D.nx } σ2 H2):=by
 refine ⟨fun i m σ H=>m=xs.length - i/\i<=xs.length/\Pv i σ H,⟨xs.length,by simp,Nat.zero_le _,h0⟩,?_⟩
 rintro i m σ H ⟨rfl,hi,p⟩
 have q:=hl i σ H hi p
 by_cases hlt:i < xs.length
 ·refine .inr ⟨⟨xs,xs[i],q,by simp [hlt]⟩,Pv (i+1),fun σ' H' p'=>⟨xs.length - (i+1),by omega,rfl,hlt,p'⟩,fun v H' y=>?_⟩
  obtain ⟨t,x,rfl,hn,hx,rfl⟩:=y
  exact hs i x t σ _ (hx xs q) p hn
 ·have e:i=xs.length:=by omega
  subst e
  exact .inl ⟨⟨xs,q,Nat.le_refl _⟩,hd σ H p⟩
end L2
namespace L2
open PySem PySem.Spec PyProof.Rows
mutual
inductive Den (K:PySem.W.Frag) (H:Hp):V->PyData->Prop
 | non:Den K H .non .none
 | bl (b:Bool):Den K H (.bl b) (.bool b)
 | int (i:Int):Den K H (.int i) (.int i)
 | str (x:Str):PyData.canLay0 (.str x)=true->Den K H (.str x) (.str x)
 | lst {a xs ds}:SqL K H a xs->DenL K H xs ds->Den K H (.ref a) (.list ds)
 | tup {a xs ds}:SqT K H a xs->DenL K H xs ds->Den K H (.ref a) (.tuple ds)
inductive DenL (K:PySem.W.Frag) (H:Hp):List V->List PyData->Prop
 | nil:DenL K H [] []
 | cons {x xs d ds}:Den K H x d->DenL K H xs ds->DenL K H (x :: xs) (d :: ds)
end
section
variable {X:Cx} {pins:List (Addr × Obj)} {σ:St} {H:Hp} {s:Shared}
mutual
theorem zcU (I:Inv X pins σ H s):∀ (d:PyData) (v:V) (u:Value),Den X.K H v d->RelV v u->∃ as,Reads s.heap u d as
 | .none,v,u,h,r=>by cases h;cases r;exact ⟨_,.none⟩
 | .bool b,v,u,h,r=>by cases h;cases r;exact ⟨_,.bool b⟩
 | .int i,v,u,h,r=>by cases h;obtain ⟨t,rfl⟩:=r;exact ⟨_,.int i t⟩
 | .str x,v,u,h,r=>by cases h;obtain ⟨t,rfl⟩:=r;exact ⟨_,.str x t⟩
 | .list ds,v,u,h,r=>by
   cases h with
   | lst hq hl =>
     cases r
     obtain ⟨its,rv,⟨o,n,e,c,_,d⟩,_⟩:=I.list hq
     obtain ⟨as,q⟩:=zeq I ds _ _ hl rv
     exact ⟨_,.list e c d (by simpa using q)⟩
 | .tuple ds,v,u,h,r=>by
   cases h with
   | tup hq hl =>
     cases r
     obtain ⟨its,rv,⟨o,e,c,n,d⟩,_⟩:=I.tuple hq
     obtain ⟨as,q⟩:=zeq I ds _ _ hl rv
     exact ⟨_,.tuple e c d (by simpa using q)⟩
 | .dict _,v,u,h,r=>by cases h
theorem zeq (I:Inv X pins σ H s):∀ (ds:List PyData) (xs:List V) (us:List Value),DenL X.K H xs ds->Vals xs us->∃ as,ReadsAll s.heap us ds as
 | [],xs,us,h,r=>by cases h;cases r;exact ⟨_,.nil⟩
 | d :: ds,xs,us,h,r=>by
   cases h with
   | cons h1 h2 =>
     cases r with
     | cons r1 r2 =>
       obtain ⟨a1,q1⟩:=zcU I d _ _ h1 r1
       obtain ⟨a2,q2⟩:=zeq I ds _ _ h2 r2
       exact ⟨_,.cons q1 q2⟩
end
mutual
theorem zem {K:PySem.W.Frag}:∀ (d:PyData) (v:V),Den K H v d->d.canLay0=true
 | .none,v,h=>rfl
 | .bool b,v,h=>rfl
 | .int i,v,h=>rfl
 | .str x,v,h=>by cases h with | str _ q=>exact q
 | .list ds,v,h=>by cases h with | lst _ q=>exact zfX ds _ q
 | .tuple ds,v,h=>by cases h with | tup _ q=>exact zfX ds _ q
 | .dict _,v,h=>by cases h
theorem zfX {K:PySem.W.Frag}:∀ (ds:List PyData) (xs:List V),DenL K H xs ds->PyData.canLayAll0 ds=true
 | [],xs,h=>rfl
 | d :: ds,xs,h=>by
   cases h with
   | cons h1 h2 =>
     show (PyData.canLay0 d && PyData.canLayAll0 ds)=true
     rw [zem d _ h1,zfX ds _ h2]
     rfl
end
def rEqD (K:PySem.W.Frag) (neg:Bool):R2:=fun x y H Q=>∃ d e,Den K H x d/\Den K H y e/\min d.depth e.depth<=64/\Q (.bl (if neg then !PyData.eqv d e else PyData.eqv d e)) H
theorem zrR (hu:X.A.units+64 < cLine):OpR X (compareOp .Eq) (rEqD X.K false):=by
 intro pins s σ H x y v u Q I rx ry h
 obtain ⟨d,e,hd,he,hz,q⟩:=h
 obtain ⟨as,ra⟩:=zcU I d _ _ hd rx
 obtain ⟨bs,rb⟩:=zcU I e _ _ he ry
 exact PySem.SeqAt.eqOverData X.prog X.w X.A X.xe s v u d e as bs _ ra rb (zem d _ hd) (zem e _ he) (by omega) ⟨.bl _,H,I,rfl,q⟩
theorem zoO (hu:X.A.units+64 < cLine):OpR X (compareOp .NotEq) (rEqD X.K true):=by
 intro pins s σ H x y v u Q I rx ry h
 obtain ⟨d,e,hd,he,hz,q⟩:=h
 obtain ⟨as,ra⟩:=zcU I d _ _ hd rx
 obtain ⟨bs,rb⟩:=zcU I e _ _ he ry
 exact PySem.SeqAt.neOverData X.prog X.w X.A X.xe s v u d e as bs _ ra rb (zem d _ hd) (zem e _ he) (by omega) ⟨.bl _,H,I,rfl,q⟩
end
mutual
def nb:PyData->Bool
 | .none | .int _ | .str _=>true
 | .bool _ | .dict _=>false
 | .list xs | .tuple xs=>nbL xs
def nbL:List PyData->Bool
 | []=>true
 | x :: xs=>nb x && nbL xs
end
mutual
theorem zlu:∀ (d e:PyData),nb d=true->nb e=true->(PyData.eqv d e=true ↔ d=e)
 | .none,e,_,h=>by cases e <;> first | (simp [PyData.eqv];done) | cases h
 | .int i,e,_,h=>by cases e <;> first | (simp [PyData.eqv];done) | cases h
 | .str i,e,_,h=>by cases e <;> first | (simp [PyData.eqv];done) | cases h
 | .bool _,_,h,_=>by cases h
 | .dict _,_,h,_=>by cases h
 | .list xs,e,h1,h=>by
   cases e with
   | list ys =>
     have q:=zgj xs ys h1 h
     show PyData.eqvAll xs ys=true ↔ _
     rw [q]
     exact ⟨fun z=>by rw [z],fun z=>PyData.list.inj z⟩
   | none=>simp [PyData.eqv]
   | int _=>simp [PyData.eqv]
   | str _=>simp [PyData.eqv]
   | tuple _=>simp [PyData.eqv]
   | bool _=>cases h
   | dict _=>cases h
 | .tuple xs,e,h1,h=>by
   cases e with
   | tuple ys =>
     have q:=zgj xs ys h1 h
     show PyData.eqvAll xs ys=true ↔ _
     rw [q]
     exact ⟨fun z=>by rw [z],fun z=>PyData.tuple.inj z⟩
   | none=>simp [PyData.eqv]
   | int _=>simp [PyData.eqv]
   | str _=>simp [PyData.eqv]
   | list _=>simp [PyData.eqv]
   | bool _=>cases h
   | dict _=>cases h
theorem zgj:∀ (xs ys:List PyData),nbL xs=true->nbL ys=true->(PyData.eqvAll xs ys=true ↔ xs=ys)
 | [],[],_,_=>by simp [PyData.eqvAll]
 | [],_ :: _,_,_=>by simp [PyData.eqvAll]
 | _ :: _,[],_,_=>by simp [PyData.eqvAll]
 | x :: xs,y :: ys,h1,h2=>by
   have a:nb x=true/\nbL xs=true:=by
    have:(nb x && nbL xs)=true:=h1
    simpa using this
   have b:nb y=true/\nbL ys=true:=by
    have:(nb y && nbL ys)=true:=h2
    simpa using this
   have q1:=zlu x y a.1 b.1
   have q2:=zgj xs ys a.2 b.2
   show (PyData.eqv x y && PyData.eqvAll xs ys)=true ↔ _
   rw [Bool.and_eq_true,q1,q2]
   simp
end
end L2
namespace L2
open PySem PySem.Spec PyProof.Rows
section
variable {prog:Program} {w:World} {A:Around} {R:Result->Shared->Prop} {s:Shared}
theorem zhg {elt target iter:Expr} {ifs:List Expr} {scope:Scope} {pos:Pos} {it acc:Value} {env:Env} (I:Nat->Shared->Prop)
 (turn:∀ n s,I n s->wpAny (model prog w) A (pyNext it) (fun r s1=>match r with
   | none=>R (.ok .next) s1
   | some v=>wpAny (model prog w) A (letOwnedTupleGo target it v) (fun _ s1'=>wpAny (model prog w) A (assign target env v) (fun _ s2 =>
      wpAny (model prog w) A (forIn ifs true fun c r=>if r=true then do let ok <- isTrue c env (eval c env);pure (ForInStep.yield ok) else pure (ForInStep.yield r)) (fun ok s3 =>
       if ok=true then wpAny (model prog w) A (eval elt env) (fun x s4 =>
        wpAny (model prog w) A (call (.builtin "list.append") [acc,x]) (fun _ s5=>∃ m,m < n/\I m s5) (fun _ _=>False) s4) (fun _ _=>False) s3
       else ∃ m,m < n/\I m s3) (fun _ _=>False) s2) (fun _ _=>False) s1') (fun _ _=>False) s1) (fun _ _=>False) s)
 (n:Nat) (h:I n s) :
 codeAny (model prog w) A (.compLoop (.ListComp elt [⟨target,iter,ifs,0⟩] scope pos) 0 it acc env) R s:=by
 refine codeAny_loop rfl I (fun n s hI=>?_) n h
 show wpAny _ A ((compTurn (.ListComp elt [⟨target,iter,ifs,0⟩] scope pos) 0 it acc env).onRaise (fun x=>do noteFrame x env;theTreesLotGoes x)) _ _ s
 refine wpAny_noted ?_
 rw [compTurn_list]
 refine wpAny_bind (wpAny_standAt (wpAny_bind (wpAny_mono (turn n s hI) (fun r s1 h1=>?_) fun _ _ h'=>False.elim h')))
 cases r with
 | none=>exact wpAny_pure h1
 | some v =>
   refine wpAny_bind (wpAny_mono h1 (fun _ s1' h1'=>?_) fun _ _ h'=>False.elim h')
   refine wpAny_bind (wpAny_mono h1' (fun _ s2 h2=>wpAny_bind (wpAny_mono h2 (fun ok s3 h3=>?_) fun _ _ h'=>False.elim h')) fun _ _ h'=>False.elim h')
   cases ok with
   | false=>exact wpAny_pure ⟨rfl,h3⟩
   | true =>
     exact wpAny_bind (wpAny_bind (wpAny_mono h3 (fun x s4 h4=>wpAny_bind (wpAny_mono h4 (fun _ s5 h5=>wpAny_pure (wpAny_pure ⟨rfl,h5⟩)) fun _ _ h'=>False.elim h')) fun _ _ h'=>False.elim h'))
end
def zaq (env:Env):List (Str × NameKind)->List (Str × Addr)->List (Str × Addr)
 | [],acc=>acc
 | (n,k) :: r,acc=>if (k == .free)=true then zaq env r ((n,(env.cells.lookup n).getD 0) :: acc) else zaq env r acc
theorem zcD {env:Env} (P:Str->Addr->Prop):∀ (names:List (Str × NameKind)) (acc:List (Str × Addr)),(∀ x ∈ names,x.2=.free->∃ c,env.cells.lookup x.1=some c)->(∀ n c,(n,c) ∈ acc->P n c) ->
 (∀ n c,env.cells.lookup n=some c->P n c)->∀ n c,(n,c) ∈ zaq env names acc->P n c
 | [],acc,_,ha,_,n,c,h=>ha n c h
 | (m,k) :: r,acc,hf,ha,hp,n,c,h=>by
   unfold zaq at h
   split at h
   ·rename_i hk
    refine zcD P r _ (fun x hx=>hf x (List.mem_cons_of_mem _ hx)) (fun n' c' h'=>?_) hp n c h
    rcases List.mem_cons.mp h' with e | h'
    ·obtain ⟨c0,e0⟩:=hf (m,k) List.mem_cons_self (eq_of_beq hk)
     injection e with e1 e2
     subst e1 e2
     rw [e0]
     exact hp _ _ e0
    ·exact ha n' c' h'
   ·exact zcD P r acc (fun x hx=>hf x (List.mem_cons_of_mem _ hx)) ha hp n c h
theorem zcA {env:Env}:∀ (names:List (Str × NameKind)) (acc:List (Str × Addr)) (x:Str × Addr),x ∈ acc->x ∈ zaq env names acc
 | [],_,_,h=>h
 | (m,k) :: r,acc,x,h=>by
   unfold zaq
   split
   ·exact zcA r _ x (List.mem_cons_of_mem _ h)
   ·exact zcA r _ x h
theorem zcy {env:Env}:∀ (names:List (Str × NameKind)) (acc:List (Str × Addr)) (x:Str),(x,NameKind.free) ∈ names->∃ c,(x,c) ∈ zaq env names acc
 | [],_,_,h=>nomatch h
 | (m,k) :: r,acc,x,h=>by
   unfold zaq
   rcases List.mem_cons.mp h with e | h
   ·injection e with e1 e2
    subst e1 e2
    rw [if_pos (by decide)]
    exact ⟨_,zcA r _ _ List.mem_cons_self⟩
   ·split
    ·exact zcy r _ x h
    ·exact zcy r _ x h
theorem zgz {scope:Scope} {env:Env} (hf:∀ x ∈ scope.names,x.2=.free->∃ c,env.cells.lookup x.1=some c):closureFor scope env=pure (zaq env scope.names []):=by
 have go:∀ (names:List (Str × NameKind)) (acc:List (Str × Addr)),(∀ x ∈ names,x.2=.free->∃ c,env.cells.lookup x.1=some c) ->
  (forIn names acc fun (x:Str × NameKind) (r:List (Str × Addr))=>(match x with
    | (name,kind)=>if (kind == NameKind.free)=true then do
        let a <- cellOf env name
        pure (ForInStep.yield ((name,a) :: r))
     else pure (ForInStep.yield r):Sem (ForInStep (List (Str × Addr)))))=pure (zaq env names acc):=by
  intro names
  induction names with
  | nil=>intro acc _;rw [List.forIn_nil];rfl
  | cons x r ih =>
    intro acc hf
    obtain ⟨n,k⟩:=x
    rw [List.forIn_cons]
    unfold zaq
    by_cases hk:(k == NameKind.free)=true
    ·obtain ⟨c,e⟩:=hf (n,k) List.mem_cons_self (eq_of_beq hk)
     simp only [hk,if_true]
     have e2:cellOf env n=pure c:=by unfold cellOf;rw [e]
     rw [e2,e]
     simp only [pure_bind,Option.getD_some]
     exact ih _ fun x hx=>hf x (List.mem_cons_of_mem _ hx)
    ·simp only [hk,if_false]
     exact ih _ fun x hx=>hf x (List.mem_cons_of_mem _ hx)
 simp only [closureFor]
 have:=go scope.names [] hf
 first
  | exact this
  | (simp only [bind_pure];exact this)
  | (rw [this];rfl)
theorem zaW:∀ (names:List (Str × NameKind)) (n:Nat) (acc:List (Str × Addr)),cellsFrom n names acc=cellsFrom n names []++acc
 | [],_,_=>rfl
 | (m,k) :: r,n,acc=>by
   unfold cellsFrom
   split
   ·rw [zaW r (n+1) ((m,n) :: acc),zaW r (n+1) [(m,n)],List.append_assoc]
    rfl
   ·exact zaW r n acc
theorem zcJ:∀ (names:List (Str × NameKind)) (n:Nat) (acc:List (Str × Addr)) (x:Str × Addr),x ∈ cellsFrom n names acc->(x.1,NameKind.cell) ∈ names\/x ∈ acc
 | [],_,_,_,h=>.inr h
 | (m,k) :: r,n,acc,x,h=>by
   unfold cellsFrom at h
   split at h
   ·rename_i hk
    rcases zcJ r _ _ x h with q | q
    ·exact .inl (List.mem_cons_of_mem _ q)
    ·rcases List.mem_cons.mp q with e | q
     ·rw [e,eq_of_beq hk]
      exact .inl List.mem_cons_self
     ·exact .inr q
   ·rcases zcJ r _ _ x h with q | q
    ·exact .inl (List.mem_cons_of_mem _ q)
    ·exact .inr q
theorem zdc {α:Type} (x:Str):∀ (l r:List (Str × α)),(l++r).lookup x=(l.lookup x).or (r.lookup x)
 | [],r=>by simp
 | (k,v) :: l,r=>by
   rw [List.cons_append,List.lookup_cons,List.lookup_cons]
   cases hb:x == k with
   | true=>rfl
   | false=>exact zdc x l r
theorem zci {α:Type} {x:Str}:∀ {l:List (Str × α)} {c:α},(x,c) ∈ l->∃ c',l.lookup x=some c'
 | (k,v) :: l,c,h=>by
   rw [List.lookup_cons]
   cases hb:x == k with
   | true=>exact ⟨v,rfl⟩
   | false =>
     rcases List.mem_cons.mp h with e | h
     ·injection e with e1 e2
      subst e1
      rw [beq_self_eq_true] at hb
      cases hb
     ·exact zci h
theorem zbI {scope:Scope} {env:Env} {x:Str} {k:NameKind} (h:(relabel scope env).names.lookup x=some k):∃ k0,scope.names.lookup x=some k0/\(k=k0\/(k=.cell/\k0=.free)):=by
 have go:∀ names:List (Str × NameKind),(names.map fun (n,k)=>if (k == NameKind.free && env.scope.kind == .function && env.kindOf n == some .cell) then (n,NameKind.cell) else (n,k)).lookup x=some k ->
  ∃ k0,names.lookup x=some k0/\(k=k0\/(k=.cell/\k0=.free)):=by
  intro names
  induction names with
  | nil=>intro h;cases h
  | cons y r ih =>
    obtain ⟨n,k1⟩:=y
    intro h
    replace h:List.lookup x ((if (k1 == NameKind.free && env.scope.kind == .function && env.kindOf n == some .cell)=true then (n,NameKind.cell) else (n,k1)) :: (r.map fun (n,k)=>if (k == NameKind.free && env.scope.kind == .function && env.kindOf n == some .cell) then (n,NameKind.cell) else (n,k)))=some k:=h
    by_cases hc:(k1 == NameKind.free && env.scope.kind == .function && env.kindOf n == some .cell)=true
    ·rw [if_pos hc] at h
     rw [List.lookup_cons] at h ⊢
     cases hb:x == n with
     | true =>
       rw [hb] at h
       have e:NameKind.cell=k:=Option.some.inj h
       simp only [Bool.and_eq_true] at hc
       exact ⟨k1,rfl,.inr ⟨e.symm,eq_of_beq hc.1.1⟩⟩
     | false=>rw [hb] at h;exact ih h
    ·rw [if_neg hc] at h
     rw [List.lookup_cons] at h ⊢
     cases hb:x == n with
     | true =>
       rw [hb] at h
       have e:k1=k:=Option.some.inj h
       exact ⟨k1,rfl,.inl e.symm⟩
     | false=>rw [hb] at h;exact ih h
 exact go _ h
def znj (scope:Scope) (env:Env) (C:Addr) (cells:List (Str × Addr)):Env :=
 { scope:=relabel scope env,locals:=C,globals:=env.globals,cells:=cells,qual:=env.qual,func:=none,code:=env.code,frame:=env.frame,builtins:=env.builtins }
def zdv (X:Cx) (N':List Str) (scope:Scope) (C:Addr) (cells:List (Str × Addr)) (s₀:Shared) (H₀:Hp) (ex:List Addr):Cx :=
 { X with N:=N',s₀:=s₀,H₀:=H₀,env:=znj scope X.env C cells,outer:=X.stack,stack:=X.stack,ex:=ex,fn:=fun x=>scope.names.lookup x == some .cell,pn:=[],xe:=fun _ _=>False }
def zjV (ms:List Nat) (k:Nat) (σ:St):St:=ms.foldl (fun σ i=>σ.set i none) σ++List.replicate k none
theorem zfd (ms:List Nat):∀ σ:St,(ms.foldl (fun σ i=>σ.set i none) σ).length=σ.length:=by
 induction ms with
 | nil=>intro σ;rfl
 | cons m ms ih=>intro σ;rw [List.foldl_cons,ih,List.length_set]
theorem zlU (ms:List Nat):∀ (σ:St) (i:Nat) (v:V),(ms.foldl (fun σ i=>σ.set i none) σ)[i]?=some (some v)->σ[i]?=some (some v)/\i ∉ ms:=by
 induction ms with
 | nil=>intro σ i v h;exact ⟨h,by simp⟩
 | cons m ms ih =>
   intro σ i v h
   rw [List.foldl_cons] at h
   obtain ⟨h1,h2⟩:=ih _ i v h
   by_cases e:m=i
   ·subst e
    rw [List.getElem?_set] at h1
    split at h1
    ·split at h1 <;> cases h1
    ·exact absurd rfl ‹_›
   ·rw [List.getElem?_set_ne e] at h1
    exact ⟨h1,by simp only [List.mem_cons,not_or];exact ⟨fun z=>e z.symm,h2⟩⟩
structure BlkOk (X:Cx) (N':List Str) (scope:Scope) (ms:List Nat) (k:Nat):Prop where
 kind:scope.kind=.function
 uniq:∀ x ∈ scope.names,scope.names.lookup x.1=some x.2
 free:∀ x ∈ scope.names,x.2=.free->X.env.kindOf x.1=some .cell\/X.env.kindOf x.1=some .free
 len:N'.length=X.N.length+k
 pre:∀ i:Nat,i < X.N.length->N'[i]?=X.N[i]?
 vis:∀ i:Nat,i < X.N.length->i ∉ ms->∀ x k',N'[i]?=some x->scope.names.lookup x=some k'->k'=.local\/k'=.cell\/k'=.free->k'=.free
section
variable {X:Cx} {pins:List (Addr × Obj)} {σ:St} {H:Hp} {s:Shared}
theorem zls {M:Model} {A:Around} {E:Value->Shared->Prop} {scope:Scope} {globals:Addr} {cl:List (Str × Addr)} {qual:Str} {env:Env} {Q:Env->Shared->Prop}
 (hQ:Q { scope:=scope,locals:=s.heap.objs.size,globals:=globals,cells:=cellsFrom (s.heap.objs.size+1) scope.names cl,qual:=qual,func:=none,code:=env.code,frame:=env.frame,builtins:=env.builtins }
   { s with heap:=pushCells (s.heap.push { cls:=.type "dict",data:=.dict #[] }) scope.names }) :
 wpAny M A (newFunctionEnv scope globals cl [] qual none .none (some env)) Q E s:=by
 simp only [newFunctionEnv,Option.isSome_some,if_true]
 refine wpAny_bind (wpAny_alloc ?_)
 refine wpAny_bind (wpAny_layCells _ (fun name kind cells=>by cases hkc:kind == NameKind.cell <;> simp [hkc]) _ _ _ _ ?_)
 rw [show ({ s with heap:=s.heap.push { cls:=.type "dict",data:=.dict #[] } }:Shared).heap.objs.size=s.heap.objs.size+1 from Heap.size_push ..]
 rw [List.forIn_nil]
 exact wpAny_bind (wpAny_pure (wpAny_pure hQ))
theorem zoj {N':List Str} {scope:Scope} {ms:List Nat} {k:Nat} {ex:List Addr} (I:Inv X pins σ H s) (B:BlkOk X N' scope ms k) (hex:∀ b ∈ ex,FpOk X pins H b/\b < s.heap.objs.size) :
 Inv (zdv X N' scope s.heap.objs.size (cellsFrom (s.heap.objs.size+1) scope.names (zaq X.env scope.names [])) s H ex) [] (zjV ms k σ) H
  { s with heap:=pushCells (s.heap.push { cls:=.type "dict",data:=.dict #[] }) scope.names }:=by
 have hfree:∀ x ∈ scope.names,x.2=.free->∃ c,X.env.cells.lookup x.1=some c:=fun x hx hk=>I.ok.has x.1 (B.free x hx hk)
 have keep:∀ b o,s.heap.get? b=some o->(pushCells (s.heap.push { cls:=.type "dict",data:=.dict #[] }) scope.names).get? b=some o:=fun b o e=>pushCells_keeps _ _ b o (Heap.get?_push_of_some _ e)
 have own:=cellsFrom_ok scope.names (s.heap.push { cls:=.type "dict",data:=.dict #[] }) (s.heap.objs.size+1) [] ⟨fun _ _ hm=>(nomatch hm),List.Pairwise.nil⟩ (by rw [Heap.size_push];exact Nat.le_refl _)
 rw [Heap.size_push] at own
 have clm:∀ n c,(n,c) ∈ zaq X.env scope.names []->X.env.cells.lookup n=some c:=zcD (fun n c=>X.env.cells.lookup n=some c) scope.names [] hfree (fun _ _ h=>nomatch h) fun _ _ h=>h
 have clt:∀ n (c:Addr),X.env.cells.lookup n=some c->@LT.lt Nat instLTNat c s.heap.objs.size:=fun n c e=>by obtain ⟨v,q⟩:=I.cell n c e;exact q.lt
 have look:∀ x c,(cellsFrom (s.heap.objs.size+1) scope.names (zaq X.env scope.names [])).lookup x=some c ->
  ((x,c) ∈ cellsFrom (s.heap.objs.size+1) scope.names []/\s.heap.objs.size+1<=c)\/(X.env.cells.lookup x=some c/\@LT.lt Nat instLTNat c s.heap.objs.size):=fun x c e=>by
  rw [zaW,zdc] at e
  cases q:(cellsFrom (s.heap.objs.size+1) scope.names []).lookup x with
  | some c' =>
    rw [q] at e
    have e':c'=c:=Option.some.inj e
    subst e'
    exact .inl ⟨mem_of_lookup q,(own.empty x c' (mem_of_lookup q)).2⟩
  | none =>
    rw [q] at e
    have e2:=clm x c (mem_of_lookup e)
    exact .inr ⟨e2,clt x c e2⟩
 have hasL:∀ x,scope.names.lookup x=some .cell\/scope.names.lookup x=some .free->∃ c,(cellsFrom (s.heap.objs.size+1) scope.names (zaq X.env scope.names [])).lookup x=some c:=fun x hx=>by
  rw [zaW,zdc]
  cases q:(cellsFrom (s.heap.objs.size+1) scope.names []).lookup x with
  | some c'=>exact ⟨c',rfl⟩
  | none =>
    rcases hx with hx | hx
    ·obtain ⟨c,e⟩:=zeE (n:=s.heap.objs.size+1) hx
     rw [q] at e;cases e
    ·obtain ⟨c,hc⟩:=zcy (env:=X.env) scope.names [] x (PySem.mem_of_lookup hx)
     exact zci hc
 have Ir:=I.lt
 refine ⟨⟨I.ok.mod,B.kind,I.ok.glob,I.ok.blt,Nat.le_refl _,fun x y c hx hy=>?_,fun x hx=>?_,fun x c hf hx=>?_,I.ok.hd,I.ok.frames,.inl rfl,fun b hb=>?_,I.bs,Nat.le_trans I.ok.bsz I.sz,fun b o e hb=>?_,fun b hb hfs=>?_,I.stack,I.stkFree⟩,
  rfl,I.bare,Un.kept keep,⟨fun _=>none,?_,fun i x v h1 h2 h3=>?_⟩,fun x c hx=>?_,?_,fun x c hx=>?_,fun p hp=>absurd (show p ∈ ([]:List (Addr × Obj)) from hp) (by simp),I.hok.kept keep,?_⟩
 ·rcases look x c hx with ⟨m1,l1⟩ | ⟨m1,l1⟩
  ·rcases look y c hy with ⟨m2,l2⟩ | ⟨m2,l2⟩
   ·exact name_of_addr own.apart m1 m2
   ·omega
  ·rcases look y c hy with ⟨m2,l2⟩ | ⟨m2,l2⟩
   ·omega
   ·exact I.ok.inj x y c m1 m2
 ·have hx:(relabel scope X.env).names.lookup x=some .cell\/(relabel scope X.env).names.lookup x=some .free:=hx
  rcases hx with hx | hx
  ·obtain ⟨k0,e,z | ⟨_,z⟩⟩:=zbI hx
   ·exact hasL x (.inl (by rw [e,<- z]))
   ·exact hasL x (.inr (by rw [e,z]))
  ·obtain ⟨k0,e,z | ⟨z,_⟩⟩:=zbI hx
   ·exact hasL x (.inr (by rw [e,<- z]))
   ·cases z
 ·show s.heap.objs.size<=c
  have hf:(scope.names.lookup x == some .cell)=true:=hf
  have hf':scope.names.lookup x=some .cell:=eq_of_beq hf
  have hx:(cellsFrom (s.heap.objs.size+1) scope.names (zaq X.env scope.names [])).lookup x=some c:=hx
  rw [zaW,zdc] at hx
  obtain ⟨c',e⟩:=zeE (n:=s.heap.objs.size+1) hf'
  rw [e] at hx
  have z:c'=c:=Option.some.inj hx
  subst z
  exact Nat.le_of_succ_le (own.empty x c' (mem_of_lookup e)).2
 ·obtain ⟨_,hlt⟩:=hex b hb
  refine ⟨Nat.ne_of_lt hlt,fun x c hx z=>?_⟩
  subst z
  have hlt':@LT.lt Nat instLTNat c s.heap.objs.size:=hlt
  rcases look x c hx with ⟨_,l1⟩ | ⟨m1,_⟩
  ·omega
  ·obtain ⟨⟨_,_,_,_,f4,_⟩,_⟩:=hex c hb
   exact f4 x c m1 rfl
 ·obtain ⟨⟨_,_,_,f3,_,_⟩,_⟩:=hex b hb
  rcases f3 with z | z
  ·exact I.ok.noex b o e z
  ·have h1:@LT.lt Nat instLTNat b X.base.objs.size:=Heap.lt_size e
   have h2:=I.ok.bsz
   have h3:@LE.le Nat instLENat X.s₀.heap.objs.size b:=z
   omega
 ·obtain ⟨⟨_,f1,f2,_,_,_⟩,_⟩:=hex b hb
  rcases List.mem_cons.mp (I.stkSub b hfs) with z | z
  ·exact f1 z
  ·exact f2 z
 ·exact (Heap.Ns.new s.heap (.type "dict")).keeps (pushCells_keeps _ _)
 ·have hi:i < X.N.length:=by
   by_cases hi:i < X.N.length
   ·exact hi
   ·exfalso
    unfold zjV at h2
    have hl:(ms.foldl (fun σ i=>σ.set i none) σ).length=X.N.length:=by rw [zfd,I.len]
    rw [List.getElem?_append_right (by omega),List.getElem?_replicate] at h2
    split at h2 <;> cases h2
  have h2':(ms.foldl (fun σ i=>σ.set i none) σ)[i]?=some (some v):=by
   unfold zjV at h2
   have hl:(ms.foldl (fun σ i=>σ.set i none) σ).length=X.N.length:=by rw [zfd,I.len]
   rw [List.getElem?_append_left (by omega)] at h2
   exact h2
  obtain ⟨h4,h5⟩:=zlU ms σ i v h2'
  have h1':N'[i]?=some x:=h1
  have hXN:X.N[i]?=some x:=by rw [<- B.pre i hi];exact h1'
  have h3:(relabel scope X.env).names.lookup x=some .local\/(relabel scope X.env).names.lookup x=some .cell\/(relabel scope X.env).names.lookup x=some .free:=h3
  have fr:scope.names.lookup x=some .free:=by
   have go:∀ k',(relabel scope X.env).names.lookup x=some k'->k'=.local\/k'=.cell\/k'=.free->scope.names.lookup x=some .free:=fun k' e hk=>by
    obtain ⟨k0,e0,z | ⟨_,z⟩⟩:=zbI e
    ·have:=B.vis i hi h5 x k0 h1' e0 (z ▸ hk)
     rw [e0,this]
    ·rw [e0,z]
   rcases h3 with h3 | h3 | h3
   ·exact go _ h3 (.inl rfl)
   ·exact go _ h3 (.inr (.inl rfl))
   ·exact go _ h3 (.inr (.inr rfl))
  have hk:=B.free (x,.free) (PySem.mem_of_lookup fr) rfl
  obtain ⟨m,hn,hl⟩:=I.loc
  obtain ⟨u,r,l⟩:=hl i x v hXN h4 (.inr hk)
  refine ⟨u,r,.inr ⟨?_,?_⟩⟩
  ·rcases h3 with h3 | h3
   ·exfalso
    obtain ⟨k0,e0,z | ⟨z,_⟩⟩:=zbI h3
    ·rw [fr] at e0;cases e0;cases z
    ·cases z
   ·exact h3
  ·rcases l with ⟨hloc,_⟩ | ⟨_,c,hc,hcell⟩
   ·rcases hk with hk | hk
    ·rw [hk] at hloc;cases hloc
    ·rw [hk] at hloc;cases hloc
   ·refine ⟨c,?_,hcell.keeps keep⟩
    obtain ⟨c2,e2⟩:=hasL x (.inr fr)
    have e2':(cellsFrom (s.heap.objs.size+1) scope.names (zaq X.env scope.names [])).lookup x=some c2:=e2
    rcases look x c2 e2' with ⟨m1,_⟩ | ⟨m1,_⟩
    ·exfalso
     rcases zcJ scope.names _ _ _ m1 with q | q
     ·have:=B.uniq _ q
      rw [fr] at this
      cases this
     ·cases q
    ·rw [hc] at m1
     have z:c=c2:=Option.some.inj m1
     rw [z]
     exact e2
 ·rcases look x c hx with ⟨m1,_⟩ | ⟨m1,_⟩
  ·exact ⟨none,(own.empty x c m1).1⟩
  ·obtain ⟨v,q⟩:=I.cell x c m1
   exact ⟨v,q.keeps keep⟩
 ·exact I.hok.fresh (Nat.le_refl _)
 ·rcases look x c hx with ⟨_,l1⟩ | ⟨m1,_⟩
  ·exact I.hok.fresh (by omega)
  ·exact I.freeC x c m1
 ·show (zjV ms k σ).length=N'.length
  unfold zjV
  rw [List.length_append,zfd,List.length_replicate,I.len,B.len]
end
end L2
namespace L2
open PySem PySem.Spec PyProof.Rows
def zux:TT:=fun _ H Q=>Q true H
def zqL (J:It) (g:TG) (tc:TT) (te:TE) (D:Addr) (Q:VK) (σ0:St) (H0:Hp):Prop:=∃ W:Nat->Nat->St->Hp->Prop,(∃ m,W 0 m σ0 (upd H0 D (.lst []))) /\
 ∀ i m σ' H2,W i m σ' H2->(J.stop i H2/\Q (.ref D) H2)\/(J.go i H2/\∀ x H3,J.yld i H2 x H3->g x σ' H3 fun σ2 H4=>tc σ2 H4 fun b H5 =>
  if b=true then te σ2 H5 fun v H6=>∃ ys,H6 D=some (.lst ys)/\ys.length < sizeLine/\∃ m',m' < m/\W (i+1) m' σ2 (upd H6 D (.lst (ys++[v])))
  else ∃ m',m' < m/\W (i+1) m' σ2 H5)
def zoi (wi:TI) (g:TG) (tc:TT) (te:TE) (ms:List Nat) (k:Nat):TE:=fun σ H Q=>wi σ H fun J H1=>∀ D,H1 D=none->zqL J g tc te D Q (zjV ms k σ) H1
def PTs (X:Cx) (ifs:List Expr) (t:TT):Prop :=
 ∀ (pins:List (Addr × Obj)) (s:Shared) (σ:St) (H:Hp) (Q:Bool->Hp->Prop),Inv X pins σ H s->t σ H Q ->
  wpAny (model X.prog X.w) X.A (forIn ifs true fun c r=>if r=true then do let ok <- isTrue c X.env (eval c X.env);pure (ForInStep.yield ok) else pure (ForInStep.yield r)) (TP X pins σ Q) X.xe s
section
variable {X:Cx}
theorem zdE:PTs X [] zux:=fun pins s σ H Q I h=>wpAny_tests_nil ⟨H,I,h⟩
theorem zhL {c:Expr} {t:TT} (h:PT X c t):PTs X [c] t:=fun pins s σ H Q I hw=>wpAny_tests_one (h pins s σ H Q I hw)
theorem zhG {elt target iter:Expr} {ifs:List Expr} {scope:Scope} {pos:Pos} {p:Pos} {wi:TI} {g:TG} {tc:TT} {te:TE} {N':List Str} {ms:List Nat} {k:Nat} {use:Option (Value->Sem Unit)}
 {Q:Value->Shared->Prop} {pins:List (Addr × Obj)} {s:Shared} {σ:St} {H:Hp} {Qv:VK} (hcalm:X.calm=true) (hi:PI X target iter wi)
 (B:BlkOk X N' scope ms k) (hg:∀ C cells s₀ H₀ ex,PG (zdv X N' scope C cells s₀ H₀ ex) target g) (hc:∀ C cells s₀ H₀ ex,PTs (zdv X N' scope C cells s₀ H₀ ex) ifs tc)
 (he:∀ C cells s₀ H₀ ex,PE (zdv X N' scope C cells s₀ H₀ ex) elt te) (hs:∀ x,foldedSetIterable iter X.env x=pure x) (I:Inv X pins σ H s) (hw:zoi wi g tc te ms k σ H Qv)
 (hpost:∀ (D:Addr) (H':Hp) (s':Shared) (C:Addr) (m:Str->Option Value),Inv X pins σ H' s'->s'.heap.Ns C m->H' C=none->C ≠ X.env.locals->X.s₀.heap.objs.size<=C ->
   (∀ x c,X.env.cells.lookup x=some c->c ≠ C)->(∀ p ∈ X.pn++pins,p.1 ≠ C)->Qv (.ref D) H'->compPost (model X.prog X.w) X.A X.xe use Q (.ref D) C (.ok .next) s') :
 wpAny (model X.prog X.w) X.A (comprehension (.ListComp elt [⟨target,iter,ifs,0⟩] scope pos) scope X.env p (newList []) false (eval iter X.env) use) Q X.xe s:=by
 have hfree:∀ x ∈ scope.names,x.2=.free->∃ c,X.env.cells.lookup x.1=some c:=fun x hx hk=>I.ok.has x.1 (B.free x hx hk)
 refine wpAny_comprehension_free (use:=use) rfl hs (zgz hfree) B.kind (fun x hx hl=>by rw [B.uniq x hx,hl]) ?_
 refine thn (hi pins s σ H _ I hw) fun v s1 h1=>thn h1 fun itv s2 h2=>?_
 obtain ⟨it,fp,tn,J,H2,rfl,I2,T,st2,f2,h2⟩:=h2
 refine wpAny_newObj_type ?_
 have I3:Inv X pins σ (upd H2 s2.heap.objs.size (.lst [])) { s2 with heap:=s2.heap.push { cls:=.type "list",data:=.seq ([]:List Value).toArray } }:=I2.lnew (t':=s2.toks) .nil (Nat.zero_le _)
 obtain ⟨W,⟨m0,w0⟩,turn⟩:=h2 s2.heap.objs.size I2.fresh
 have hfp3:∀ b ∈ fp,FpOk X pins (upd H2 s2.heap.objs.size (.lst [])) b/\b < (s2.heap.push { cls:=.type "list",data:=.seq ([]:List Value).toArray }).objs.size:=fun b hb=>by
  obtain ⟨o,e,_⟩:=T.obj _ _ st2 b hb
  have hlt:=Heap.lt_size e
  obtain ⟨f0,fr⟩:=f2 b hb
  refine ⟨⟨by rw [zai (Nat.ne_of_lt hlt)];exact f0,fr⟩,?_⟩
  rw [Heap.size_push]
  exact Nat.lt_succ_of_lt hlt
 generalize hs3:({ s2 with heap:=s2.heap.push { cls:=.type "list",data:=.seq ([]:List Value).toArray } }:Shared)=s3 at I3
 have hh3:s2.heap.push { cls:=.type "list",data:=.seq ([]:List Value).toArray }=s3.heap:=by rw [<- hs3]
 rw [hh3] at hfp3
 refine zls ?_
 have I4:=zoj I3 B hfp3
 have st4:tn 0 (pushCells (s3.heap.push { cls:=.type "dict",data:=.dict #[] }) scope.names):=T.keep _ _ _ st2 fun b hb o e=>pushCells_keeps _ _ b o (Heap.get?_push_of_some _ (by rw [<- hh3];exact Heap.get?_push_of_some _ e))
 have fr4:∀ b ∈ fp,upd H2 s2.heap.objs.size (.lst []) b=none:=fun b hb=>(hfp3 b hb).1.1
 generalize hs4:({ s3 with heap:=pushCells (s3.heap.push { cls:=.type "dict",data:=.dict #[] }) scope.names }:Shared)=s4 at I4
 have hh4:pushCells (s3.heap.push { cls:=.type "dict",data:=.dict #[] }) scope.names=s4.heap:=by rw [<- hs4]
 rw [hh4] at st4
 have stat:∀ {H':Hp} {pn':List (Addr × Obj)},pn'=[]->(∀ b ∈ fp,H' b=none)->∀ b ∈ fp,FpOk (zdv X N' scope s3.heap.objs.size (cellsFrom (s3.heap.objs.size+1) scope.names (zaq X.env scope.names [])) s3 (upd H2 s2.heap.objs.size (.lst [])) fp) pn' H' b:=fun hp hn b hb=>by
  obtain ⟨x1,x2⟩:=I4.ok.exf b hb
  exact ⟨hn b hb,x1,I4.ok.exfs b hb,.inl hb,x2,fun p hp'=>by rw [hp] at hp';exact absurd (show p ∈ ([]:List (Addr × Obj)) from hp') (by simp)⟩
 have loop:∀ it':Value,it'=.ref it->codeAny (model X.prog X.w) X.A (.compLoop (.ListComp elt [⟨target,iter,ifs,0⟩] scope pos) 0 it' (.ref s2.heap.objs.size) (znj scope X.env s3.heap.objs.size (cellsFrom (s3.heap.objs.size+1) scope.names (zaq X.env scope.names []))))
  (compPost (model X.prog X.w) X.A X.xe use Q (.ref s2.heap.objs.size) s3.heap.objs.size) s4:=by
  rintro it' rfl
  refine zhg (fun n s'=>∃ i σ' H',Inv (zdv X N' scope s3.heap.objs.size (cellsFrom (s3.heap.objs.size+1) scope.names (zaq X.env scope.names [])) s3 (upd H2 s2.heap.objs.size (.lst [])) fp) [] σ' H' s'/\tn i s'.heap/\(∀ b ∈ fp,H' b=none)/\W i n σ' H') ?_ m0 ⟨0,_,_,I4,st4,fr4,w0⟩
  rintro n s5 ⟨i,σ5,H5,I5,st5,fr5,w5⟩
  rcases turn i n σ5 H5 w5 with ⟨stop,q⟩ | ⟨go,step⟩
  ·refine thn (T.done (zdv X N' scope s3.heap.objs.size (cellsFrom (s3.heap.objs.size+1) scope.names (zaq X.env scope.names [])) s3 (upd H2 s2.heap.objs.size (.lst [])) fp) rfl rfl rfl hcalm i [] s5 σ5 H5 (fun _ _=>False) I5 (stat rfl fr5) st5 stop) fun r s6 ⟨hr,I6⟩=>?_
   subst hr
   have I7:Inv X pins σ H5 s6:=I3.call' I6.os I6.base I6.hok I6.bare fun b hb=>by
    obtain ⟨⟨_,f1,_,f3,f4,f5⟩,_⟩:=hfp3 b hb
    exact ⟨f3,f1,f4,f5⟩
   obtain ⟨m,hn,_⟩:=I6.loc
   have l3:=I3.lt
   refine hpost _ H5 s6 _ m I7 hn I6.free (Nat.ne_of_gt l3) I3.sz (fun x c e z=>?_) (fun p hp z=>?_) q
   ·obtain ⟨v,hv⟩:=I3.cell x c e
    have:=hv.lt
    rw [z] at this
    exact Nat.lt_irrefl _ this
   ·have:=Heap.lt_size (I3.pin p hp).1
    rw [z] at this
    exact Nat.lt_irrefl _ this
  ·refine thn (T.item (zdv X N' scope s3.heap.objs.size (cellsFrom (s3.heap.objs.size+1) scope.names (zaq X.env scope.names [])) s3 (upd H2 s2.heap.objs.size (.lst [])) fp) rfl rfl rfl hcalm i [] s5 σ5 H5 (fun _ _=>False) I5 (stat rfl fr5) st5 go) fun r s6 ⟨u,hr,h6⟩=>?_
   subst hr
   refine thn h6 fun _ s7 ⟨x,H7,I7,r7,y7,st7,fr7⟩=>?_
   have I7':=I7.pinned (stat rfl fr7) (T.obj _ _ st7)
   refine thn (hg _ _ _ _ _ _ s7 σ5 H7 x u _ I7' r7 (step x H7 y7)) fun _ s8 ⟨σ8,H8,I8,q8⟩=>?_
   refine thn (hc _ _ _ _ _ _ s8 σ8 H8 _ I8 q8) fun b s9 ⟨H9,I9,q9⟩=>?_
   have again:∀ {σ':St} {H':Hp} {s':Shared},Inv (zdv X N' scope s3.heap.objs.size (cellsFrom (s3.heap.objs.size+1) scope.names (zaq X.env scope.names [])) s3 (upd H2 s2.heap.objs.size (.lst [])) fp) ([]++zgZ fp s7.heap) σ' H' s' ->
    (∃ m',m' < n/\W (i+1) m' σ' H')->∃ m,m < n/\∃ i σ'' H'',Inv (zdv X N' scope s3.heap.objs.size (cellsFrom (s3.heap.objs.size+1) scope.names (zaq X.env scope.names [])) s3 (upd H2 s2.heap.objs.size (.lst [])) fp) [] σ'' H'' s'/\tn i s'.heap/\(∀ b ∈ fp,H'' b=none)/\W i m σ'' H'':=fun {σ' H' s'} I' ⟨m',hm,w'⟩=>by
    refine ⟨m',hm,i+1,σ',H',I'.unpinned,T.keep _ _ _ st7 fun b hb o e=>(I'.pin (b,o) (List.mem_append_right _ (List.mem_append_right _ (zdn hb e)))).1,fun b hb=>?_,w'⟩
    obtain ⟨o,e,d⟩:=T.obj _ _ st7 b hb
    exact (I'.pin (b,o) (List.mem_append_right _ (List.mem_append_right _ (zdn hb e)))).2.1
   cases b with
   | false =>
     rw [if_neg Bool.false_ne_true] at q9 ⊢
     exact again I9 q9
   | true =>
     rw [if_pos rfl] at q9 ⊢
     refine thn (he _ _ _ _ _ _ s9 σ8 H9 _ I9 q9) fun y s10 ⟨vy,H10,I10,r10,ys,hys,hz,q10⟩=>?_
     refine thn (zbf _ s10 σ8 H10 (.ref s2.heap.objs.size) [vy] (.ref s2.heap.objs.size) [y] (fun _ H'=>H'=upd H10 s2.heap.objs.size (.lst (ys++[vy]))) I10 rfl (.cons r10 .nil) ⟨_,ys,vy,rfl,rfl,hys,hz,rfl⟩) fun _ s11 ⟨_,H11,I11,_,e11⟩=>?_
     subst e11
     exact again I11 q10
 have fin:=codeAny_compStart_list (loop _ rfl) (T.self _ 0 s4 _ _ st4 (loop _ rfl))
 exact fin
theorem zbW {elt target iter:Expr} {ifs:List Expr} {scope:Scope} {pos:Pos} {wi:TI} {g:TG} {tc:TT} {te:TE} {N':List Str} {ms:List Nat} {k:Nat} (hcalm:X.calm=true) (hi:PI X target iter wi)
 (B:BlkOk X N' scope ms k) (hg:∀ C cells s₀ H₀ ex,PG (zdv X N' scope C cells s₀ H₀ ex) target g) (hc:∀ C cells s₀ H₀ ex,PTs (zdv X N' scope C cells s₀ H₀ ex) ifs tc)
 (he:∀ C cells s₀ H₀ ex,PE (zdv X N' scope C cells s₀ H₀ ex) elt te) (hs:∀ x,foldedSetIterable iter X.env x=pure x:=by intro _;rfl) :
 PE X (.ListComp elt [⟨target,iter,ifs,0⟩] scope pos) (zoi wi g tc te ms k):=by
 intro pins s σ H Q I h
 rw [eval_ListComp]
 refine zhG (use:=none) (Qv:=Q) hcalm hi B hg hc he hs I h fun D H' s' C m I' hn f0 f1 f3 f4 f5 q=>?_
 exact ⟨m,hn,fun h' sb=>⟨.ref D,H',I'.turned (t':=s'.toks) (fun b o hb e=>(sb.2 b hb).trans e) f0 f1 (.inr f3) f4 f5,rfl,q⟩⟩
theorem znD {i:Nat} {x:Str} {px:Pos} {spos:Pos} {elt target iter:Expr} {ifs:List Expr} {scope:Scope} {pos:Pos} {wi:TI} {g:TG} {tc:TT} {te:TE} {N':List Str} {ms:List Nat} {k:Nat} (hN:X.N.Nodup) (hx:X.N[i]?=some x) (hl:Loc X.env.scope x)
 (hcalm:X.calm=true) (hi:PI X target iter wi) (B:BlkOk X N' scope ms k) (hg:∀ C cells s₀ H₀ ex,PG (zdv X N' scope C cells s₀ H₀ ex) target g) (hc:∀ C cells s₀ H₀ ex,PTs (zdv X N' scope C cells s₀ H₀ ex) ifs tc)
 (he:∀ C cells s₀ H₀ ex,PE (zdv X N' scope C cells s₀ H₀ ex) elt te) (hsw:swapsWith (.ListComp elt [⟨target,iter,ifs,0⟩] scope pos) (some (.Name x px)) spos.line X.env=pure true:=by rfl) (hs:∀ x,foldedSetIterable iter X.env x=pure x:=by intro _;rfl)
 (hf:X.fn x=true\/X.env.scope.names.lookup x=some .local:=by first | exact .inl rfl | exact .inr rfl | assumption) :
 PS X (.Assign [.Name x px] (.ListComp elt [⟨target,iter,ifs,0⟩] scope pos) spos) (tAsg (zoi wi g tc te ms k) (zmi i)):=by
 intro pins s σ H D I h
 rw [exec_Assign_Name_used _ _ _ _ hsw]
 refine wpAny_bind (wpAny_standAt (wpAny_bind ?_))
 show wpAny _ X.A (do let _ <- comprehension (.ListComp elt [⟨target,iter,ifs,0⟩] scope pos) scope X.env _ (newList []) false (eval iter X.env) (some (assign (.Name x px) X.env))) _ _ s
 refine wpAny_bind (wpAny_mono (zhG (use:=some (assign (.Name x px) X.env)) (Q:=fun _ s'=>∃ σ' H',Inv X pins σ' H' s'/\D.nx σ' H') hcalm hi B hg hc he hs I h fun Da H' s' C m I' hn f0 f1 f3 f4 f5 q=>?_)
  (fun _ s' hq=>wpAny_pure (wpAny_pure hq)) fun _ _ e=>e)
 show wpAny _ X.A (assign (.Name x px) X.env (.ref Da)) _ _ s'
 refine wpAny_assign_Name (zhc I' hN hx hl (v:=.ref Da) rfl (fun s'' I'' ⟨b,sb,hb⟩=>?_) hf)
 have hCb:C ≠ b:=by
  rcases hb with z | z
  ·rw [z];exact f1
  ·exact fun e=>f4 x b z e.symm
 refine ⟨m,hn.sameBut sb hCb,fun h' sb'=>⟨_,H',I''.turned (t':=s''.toks) (fun b o hb e=>(sb'.2 b hb).trans e) f0 f1 (.inr f3) f4 f5,q⟩⟩
end
end L2
namespace L2
open PySem PySem.Spec PyProof.Rows
def blkB (N:List Str) (lk:Str->Option NameKind) (N':List Str) (scope:Scope) (ms:List Nat) (k:Nat):Bool :=
 scope.kind == .function && (scope.names.all fun x=>scope.names.lookup x.1 == some x.2) && (scope.names.all fun x=>!(x.2 == .free) || lk x.1 == some .cell || lk x.1 == some .free) &&
 N'.length == N.length+k && (N'.take N.length == N) &&
 (List.range N.length).all fun i=>ms.contains i || (match N'[i]? with | none=>true | some x=>match scope.names.lookup x with | some .local=>false | some .cell=>false | _=>true)
theorem BlkOk.of {X:Cx} {N':List Str} {scope:Scope} {ms:List Nat} {k:Nat} (h:blkB X.N X.env.kindOf N' scope ms k=true):BlkOk X N' scope ms k:=by
 unfold blkB at h
 simp only [Bool.and_eq_true] at h
 obtain ⟨⟨⟨⟨⟨h1,h2⟩,h3⟩,h4⟩,h5⟩,h6⟩:=h
 have e5:N'.take X.N.length=X.N:=eq_of_beq h5
 refine ⟨eq_of_beq h1,fun x hx=>eq_of_beq (List.all_eq_true.mp h2 x hx),fun x hx hk=>?_,eq_of_beq h4,fun i hi=>?_,fun i hi hm x k' e1 e2 hk=>?_⟩
 ·have q:=List.all_eq_true.mp h3 x hx
  simp only [Bool.or_eq_true] at q
  rcases q with (q | q) | q
  ·rw [hk] at q;cases q
  ·exact .inl (eq_of_beq q)
  ·exact .inr (eq_of_beq q)
 ·have q:(N'.take X.N.length)[i]?=N'[i]?:=List.getElem?_take_of_lt hi
  rw [e5] at q
  exact q.symm
 ·have q:=List.all_eq_true.mp h6 i (List.mem_range.mpr hi)
  rw [Bool.or_eq_true] at q
  rcases q with q | q
  ·exact absurd (by simpa using q) hm
  ·rw [e1] at q
   rcases hk with rfl | rfl | rfl
   ·simp only [e2] at q;cases q
   ·simp only [e2] at q;cases q
   ·rfl
section
variable {K:PySem.W.Frag} {a:Addr} {xs:List V} {g:TG} {tc:TT} {te:TE} {D:Addr} {σ:St} {H:Hp} {Q:VK}
def zoX (D:Addr) (n i:Nat) (Pv:Nat->List V->St->Hp->Prop) (σ2:St):VK:=fun v H6=>∃ ys,H6 D=some (.lst ys)/\ys.length < sizeLine/\∃ m',m' < n - i/\(m'=n - (i+1)/\i+1<=n/\∃ ys',Pv (i+1) ys' σ2 (upd H6 D (.lst (ys++[v]))))
def zrp (n i:Nat) (Pv:Nat->List V->St->Hp->Prop) (σ2:St) (H5:Hp):Prop:=∃ m',m' < n - i/\(m'=n - (i+1)/\i+1<=n/\∃ ys',Pv (i+1) ys' σ2 H5)
theorem zfn {n i:Nat} {Pv:Nat->List V->St->Hp->Prop} {σ2:St} {v:V} {H6:Hp} {ys:List V} (hi:i < n) (h:H6 D=some (.lst ys)) (hz:ys.length<=100000) (p:Pv (i+1) (ys++[v]) σ2 (upd H6 D (.lst (ys++[v])))):zoX D n i Pv σ2 v H6 :=
 ⟨ys,h,zco hz,n - (i+1),by omega,rfl,hi,_,p⟩
theorem zop {n i:Nat} {Pv:Nat->List V->St->Hp->Prop} {σ2:St} {H5:Hp} {ys:List V} (hi:i < n) (p:Pv (i+1) ys σ2 H5):zrp n i Pv σ2 H5:=⟨n - (i+1),by omega,rfl,hi,_,p⟩
theorem zbh (Pv:Nat->List V->St->Hp->Prop) (h0:Pv 0 [] σ (upd H D (.lst []))) (hl:∀ i ys σ H,i<=xs.length->Pv i ys σ H->SqL K H a xs)
 (hs:∀ i x ys σ H,xs[i]?=some x->i < xs.length->Pv i ys σ H->g x σ H fun σ2 H4=>tc σ2 H4 fun b H5=>if b=true then te σ2 H5 (zoX D xs.length i Pv σ2) else zrp xs.length i Pv σ2 H5)
 (hd:∀ ys σ H,Pv xs.length ys σ H->Q (.ref D) H) :
 zqL (Itl K a) g tc te D Q σ H:=by
 refine ⟨fun i m σ H=>m=xs.length - i/\i<=xs.length/\∃ ys,Pv i ys σ H,⟨xs.length,by simp,Nat.zero_le _,[],h0⟩,?_⟩
 rintro i m σ H ⟨rfl,hi,ys,p⟩
 have q:=hl i ys σ H hi p
 by_cases hlt:i < xs.length
 ·refine .inr ⟨⟨xs,xs[i],q,by simp [hlt]⟩,fun x H' y=>?_⟩
  obtain ⟨e,y⟩:=y
  subst e
  exact hs i x ys σ _ (y xs q) hlt p
 ·have e:i=xs.length:=by omega
  subst e
  exact .inl ⟨⟨xs,q,Nat.le_refl _⟩,hd ys σ H p⟩
end
end L2
namespace Sr
open PySem PyProof.Rows
def zcd (prog:Program) (w:World) (A:Around) (s:Shared) (κ:KeyKind) (kd:SortKind):Prop :=
 ∀ (E:Value->Shared->Prop) (x y:Value) (a b:κ.α) (Q:Bool->Shared->Prop),κ.keyOf x=some a->κ.keyOf y=some b->Q (κ.blt a b) s->wpAny (model prog w) A (keyLt' kd x y) Q E s
structure zbG (kd:SortKind) (o:Array Keyed) (st:SortSt):Prop where
 pm:(arrOf st).Perm o
 kn:kindOf st=kd
 fl:failedOf st=none
 pn:pendingOf st=#[]
section
variable {prog:Program} {w:World} {A:Around} {E:Value->Shared->Prop} {s:Shared} {o:Array Keyed} {κ:KeyKind} {kd:SortKind} {st:SortSt}
theorem zbG.sz (h:zbG kd o st):(arrOf st).size=o.size:=h.pm.size_eq
theorem zbG.put (h:zbG kd o st) {xs:Array Keyed} (p:xs.Perm (arrOf st)):zbG kd o (setArr st xs):=⟨p.trans h.pm,h.kn,h.fl,h.pn⟩
theorem zeS (T:zcd prog w A s κ kd) (h0:KeysOf κ o) (S:zbG kd o st) {i j:Nat} {Q:Option Bool->SortSt->Prop} (hi:i < o.size) (hj:j < o.size)
 (q:Q (some (κ.blt (KK κ (arrOf st) i) (KK κ (arrOf st) j))) st):wpS (model prog w) A E s (ltAt' i j) Q st:=by
 have key:∀ {k:Nat},k < o.size->∃ v p a,(arrOf st)[k]?=some (v,p)/\κ.keyOf v=some a/\KK κ (arrOf st) k=a:=fun {k} hk=>by
  have hk':k < (arrOf st).size:=S.sz ▸ hk
  have hin:(arrOf st)[k] ∈ o.toList:=(Array.perm_iff_toList_perm.mp S.pm).mem_iff.mp (by simp)
  obtain ⟨a,ea⟩:=h0 _ hin
  have e:=getElem?_pos (arrOf st) k hk'
  exact ⟨_,_,a,e,ea,by simp only [KK,e,ea,Option.getD_some]⟩
 obtain ⟨x,p,a,e1,k1,r1⟩:=key hi
 obtain ⟨y,p',b,e2,k2,r2⟩:=key hj
 rw [r1,r2] at q
 rw [ltAt'_eq]
 refine wpS_bind (wpS_get ?_)
 show wpS _ _ _ _ (elem' (arrOf st) i >>= fun u=>elem' (arrOf st) j >>= fun v=>lt' u v) Q st
 rw [elem'_eq,elem'_eq,e1,e2]
 refine wpS_bind (wpS_pure (wpS_bind (wpS_pure ?_)))
 rw [lt'_eq]
 refine wpS_bind (wpS_get ?_)
 rw [S.kn]
 exact wpS_bind (wpS_lift (wpAny_attempt (T _ x y a b _ k1 k2 ⟨rfl,wpS_pure q⟩)))
theorem znb {xs:Array Keyed} {x:Nat} (h:SortedToK κ xs x) (hx:x=0\/κ.kle (KK κ xs (x - 1)) (KK κ xs x)):SortedToK κ xs (x+1):=fun i j hij hj=>by
 rcases Nat.lt_or_ge j x with hjx | hjx
 ·exact h i j hij hjx
 obtain rfl:j=x:=by omega
 rcases Nat.lt_or_ge i j with hi | hi
 ·rcases hx with z | z
  ·omega
  ·exact KeyOrd.kle_trans (h i (j - 1) (by omega) (by omega)) z
 ·obtain rfl:i=j:=by omega
  exact KeyOrd.kle_refl _
theorem zeJ {xs:Array Keyed} {x:Nat} (h:NonIncK κ xs x) (hx:x=0\/κ.kle (KK κ xs x) (KK κ xs (x - 1))):NonIncK κ xs (x+1):=fun i j hij hj=>by
 rcases Nat.lt_or_ge j x with hjx | hjx
 ·exact h i j hij hjx
 obtain rfl:j=x:=by omega
 rcases Nat.lt_or_ge i j with hi | hi
 ·rcases hx with z | z
  ·omega
  ·exact KeyOrd.kle_trans z (h i (j - 1) (by omega) (by omega))
 ·obtain rfl:i=j:=by omega
  exact KeyOrd.kle_refl _
theorem up_1 {xs:Array Keyed}:SortedToK κ xs 1:=znb (fun _ _ _ hj=>absurd hj (Nat.not_lt_zero _)) (.inl rfl)
theorem rise (T:zcd prog w A s κ kd) (h0:KeysOf κ o) (S:zbG kd o st) {b n:Nat} {Q:AscSt->SortSt->Prop} (hn:n<=o.size) (hb:1<=b) (hbn:b<=n) (hs:SortedToK κ (arrOf st) b)
 (q:∀ m,b<=m->m<=n->SortedToK κ (arrOf st) m->(m=n\/κ.klt (KK κ (arrOf st) m) (KK κ (arrOf st) (m - 1)))->Q (none,m) st):wpS (model prog w) A E s (ascLoop b n) Q st:=by
 unfold ascLoop
 refine wpS_forRange (I:=fun m c u=>u=st/\c=(none,m)/\SortedToK κ (arrOf st) m) (fun m c u hbm hmn hI=>?_) (fun c u hI=>?_) ⟨rfl,rfl,hs⟩
 ·obtain ⟨rfl,rfl,up⟩:=hI
  refine wpS_bind (zeS T h0 S (i:=m) (j:=m - 1) (by omega) (by omega) ?_)
  cases lt:κ.blt (KK κ (arrOf u) m) (KK κ (arrOf u) (m - 1)) with
  | true=>exact wpS_pure (q m hbm (by omega) up (.inr lt))
  | false=>exact wpS_pure ⟨rfl,rfl,znb up (.inr lt)⟩
 ·obtain ⟨rfl,rfl,up⟩:=hI
  have e:max b n=n:=by omega
  rw [e] at up ⊢
  exact q n hbn (Nat.le_refl _) up (.inl rfl)
theorem zqY (T:zcd prog w A s κ kd) (h0:KeysOf κ o) (S:zbG kd o st) {b n:Nat} {Q:Option Nat->SortSt->Prop} (hn:n<=o.size) (hb:1<=b) (hbn:b<=n) (hs:NonIncK κ (arrOf st) b)
 (q:∀ m u,zbG kd o u->1<=m->m<=n->SortedToK κ (arrOf u) m->Q (some m) u):wpS (model prog w) A E s (tail3 b n) Q st:=by
 have z:b<=(arrOf st).size:=by rw [S.sz];omega
 have S':zbG kd o (setArr st (mirror (arrOf st) 0 b ((b - 0) / 2))):=S.put (mirror_perm ..)
 unfold tail3
 refine wpS_bind (wpS_reverse (wpS_bind (rise T h0 S' hn hb hbn (fun i j hij hj=>?_) fun m h1 h2 up _=>wpS_pure (q m _ S' (by omega) h2 up))))
 show κ.kle (KK κ (mirror (arrOf st) 0 b ((b - 0) / 2)) i) (KK κ (mirror (arrOf st) 0 b _) j)
 rw [KK_mirror z i,KK_mirror z j,if_pos ⟨Nat.zero_le _,by omega⟩,if_pos ⟨Nat.zero_le _,by omega⟩]
 exact hs _ _ (by omega) (by omega)
theorem fall (T:zcd prog w A s κ kd) (h0:KeysOf κ o) (S:zbG kd o st) {b n:Nat} {Q:DescSt->SortSt->Prop} (hn:n<=o.size) (hb:1<=b) (hbn:b<=n) (hs:NonIncK κ (arrOf st) b)
 (q:∀ m e u,zbG kd o u->b<=m->m<=n->NonIncK κ (arrOf u) m->e+1<=m->(∀ i,m - (e+1)<=i->i < m->KK κ (arrOf u) i=KK κ (arrOf u) (m - 1))->Q (none,m,e) u) :
 wpS (model prog w) A E s (descLoop b n) Q st:=by
 unfold descLoop
 refine wpS_forRange (I:=fun m c u=>∃ e,c=(none,m,e)/\zbG kd o u/\NonIncK κ (arrOf u) m/\e+1<=m/\∀ i,m - (e+1)<=i->i < m->KK κ (arrOf u) i=KK κ (arrOf u) (m - 1))
  (fun m c u hbm hmn hI=>?_) (fun c u hI=>?_) ⟨0,rfl,S,hs,hb,fun i h1 h2=>congrArg _ (by omega)⟩
 ·obtain ⟨e,rfl,S',dn,he,al⟩:=hI
  have z:m<=(arrOf u).size:=by rw [S'.sz];omega
  refine wpS_bind (zeS T h0 S' (i:=m) (j:=m - 1) (by omega) (by omega) ?_)
  cases lt:κ.blt (KK κ (arrOf u) m) (KK κ (arrOf u) (m - 1)) with
  | true =>
    have dn':=zeJ dn (.inr (KeyOrd.kle_of_klt lt))
    show wpS _ _ _ _ (if e > 0 then _ else _) _ u
    by_cases h:e > 0
    ·rw [if_pos h]
     refine wpS_bind (wpS_reverse (wpS_pure ⟨0,rfl,S'.put (mirror_perm ..),fun i j hij hj=>?_,Nat.succ_le_succ (Nat.zero_le _),fun i h1 h2=>congrArg _ (by omega)⟩))
     show κ.kle (KK κ (mirror _ _ _ _) j) (KK κ (mirror _ _ _ _) i)
     rw [KK_mirror_equal z al i,KK_mirror_equal z al j]
     exact dn' i j hij hj
    ·rw [if_neg h]
     exact wpS_pure ⟨0,rfl,S',dn',Nat.succ_le_succ (Nat.zero_le _),fun i h1 h2=>congrArg _ (by omega)⟩
  | false =>
    refine wpS_bind (zeS T h0 S' (i:=m - 1) (j:=m) (by omega) (by omega) ?_)
    cases gt:κ.blt (KK κ (arrOf u) (m - 1)) (KK κ (arrOf u) m) with
    | true=>exact wpS_pure (q m e u S' hbm (by omega) dn he al)
    | false =>
      have same:KK κ (arrOf u) m=KK κ (arrOf u) (m - 1):=KeyOrd.kle_antisymm gt lt
      refine wpS_pure ⟨e+1,rfl,S',zeJ dn (.inr (same ▸ KeyOrd.kle_refl _)),by omega,fun i h1 h2=>?_⟩
      show KK κ (arrOf u) i=KK κ (arrOf u) m
      rcases Nat.lt_or_ge i m with h | h
      ·rw [same]
       exact al i (by omega) h
      ·rw [show i=m by omega]
 ·obtain ⟨e,rfl,S',dn,he,al⟩:=hI
  have ez:max b n=n:=by omega
  rw [ez] at dn he al ⊢
  exact q n e u S' hbn (Nat.le_refl _) dn he al
theorem znq (T:zcd prog w A s κ kd) (h0:KeysOf κ o) (S:zbG kd o st) {b n:Nat} {Q:Option Nat->SortSt->Prop} (hn:n<=o.size) (hbn:b+1<=n) (hs:NonIncK κ (arrOf st) (b+1))
 (q:∀ m u,zbG kd o u->1<=m->m<=n->SortedToK κ (arrOf u) m->Q (some m) u):wpS (model prog w) A E s (descPart b n) Q st:=by
 unfold descPart
 refine wpS_bind (wpS_lift (wpAny_rule ⟨rfl,wpS_bind (fall T h0 S hn (Nat.succ_le_succ (Nat.zero_le _)) hbn hs fun m e u S' h1 h2 dn he al=>?_)⟩))
 have z:m<=(arrOf u).size:=by rw [S'.sz];omega
 show wpS _ _ _ _ (if e > 0 then _ else _) _ u
 by_cases h:e > 0
 ·rw [if_pos h]
  refine wpS_bind (wpS_reverse (zqY (b:=m) T h0 (S'.put (mirror_perm ..)) hn (by omega) h2 (fun i j hij hj=>?_) q))
  show κ.kle (KK κ (mirror _ _ _ _) j) (KK κ (mirror _ _ _ _) i)
  rw [KK_mirror_equal z al i,KK_mirror_equal z al j]
  exact dn i j hij hj
 ·rw [if_neg h]
  exact zqY (b:=m) T h0 S' hn (by omega) h2 dn q
theorem zkZ (T:zcd prog w A s κ kd) (h0:KeysOf κ o) (S:zbG kd o st) {n:Nat} {Q:Option Nat->SortSt->Prop} (hn:n<=o.size) (h1:1<=n)
 (q:∀ m u,zbG kd o u->1<=m->m<=n->SortedToK κ (arrOf u) m->Q (some m) u):wpS (model prog w) A E s (countRun' 0 n) Q st:=by
 rw [countRun0_eq]
 refine wpS_bind (rise T h0 S hn (Nat.le_refl 1) h1 up_1 fun m hm1 hm2 up hor=>?_)
 show wpS _ _ _ _ (if (m == n)=true then _ else _) _ st
 by_cases e:m=n
 ·rw [if_pos (beq_iff_eq.mpr e)]
  exact wpS_pure (q m st S hm1 hm2 up)
 rw [if_neg fun z=>e (beq_iff_eq.mp z)]
 have dip:=hor.resolve_left e
 by_cases h:m > 1
 ·rw [if_pos h]
  refine wpS_bind (zeS T h0 S (i:=0) (j:=m - 1) (by omega) (by omega) ?_)
  cases rose:κ.blt (KK κ (arrOf st) 0) (KK κ (arrOf st) (m - 1)) with
  | true=>exact wpS_pure (q m st S hm1 hm2 up)
  | false =>
    have z:m<=(arrOf st).size:=by rw [S.sz];omega
    have al:∀ k,0<=k->k < m->KK κ (arrOf st) k=KK κ (arrOf st) (m - 1):=fun k _ hk =>
     KeyOrd.kle_antisymm (up k (m - 1) (by omega) (by omega)) (KeyOrd.kle_trans rose (up 0 k (Nat.zero_le _) hk))
    have dn:NonIncK κ (arrOf st) (m+1):=zeJ (fun i j hij hj=>by rw [al i (Nat.zero_le _) (by omega),al j (Nat.zero_le _) hj];exact KeyOrd.kle_refl _) (.inr (KeyOrd.kle_of_klt dip))
    refine wpS_bind (wpS_reverse (znq T h0 (S.put (mirror_perm ..)) hn (by omega) (fun i j hij hj=>?_) q))
    show κ.kle (KK κ (mirror _ _ _ _) j) (KK κ (mirror _ _ _ _) i)
    rw [KK_mirror_equal z al i,KK_mirror_equal z al j]
    exact dn i j hij hj
 ·rw [if_neg h]
  obtain rfl:m=1:=by omega
  exact znq T h0 S hn (by omega) (zeJ (fun i j hij hj=>by rw [show i=j by omega];exact KeyOrd.kle_refl _) (.inr (KeyOrd.kle_of_klt dip))) q
theorem zqP (T:zcd prog w A s κ kd) (h0:KeysOf κ o) (S:zbG kd o st) {n ok:Nat} {Q:Bool->SortSt->Prop} (hn:n<=o.size) (hok:ok<=n) (h1:1<=ok) (hs:SortedToK κ (arrOf st) ok)
 (q:∀ u,zbG kd o u->SortedToK κ (arrOf u) n->Q true u):wpS (model prog w) A E s (binarySort' 0 n ok) Q st:=by
 rw [binarySort'_eq]
 simp only [Nat.zero_add]
 have em:max ok 1=ok:=by omega
 rw [em]
 refine wpS_bind (wpS_mono (wpS_forRange (I:=fun k c u=>c=(none,())/\zbG kd o u/\SortedToK κ (arrOf u) k) (Q:=fun c u=>c=(none,())/\zbG kd o u/\SortedToK κ (arrOf u) n)
  (fun k c u hk1 hk2 hI=>?_) (fun c u hI=>?_) ⟨rfl,S,hs⟩) fun c u hI=>?_)
 ·obtain ⟨rfl,S',up⟩:=hI
  have hk:k < o.size:=by omega
  refine wpS_bind (wpS_mono (wpS_forRange (I:=fun t c v=>v=u/\∃ l r,c=(none,l,r)/\l<=r/\r<=k/\r - l<=k - t/\(∀ i,i < l->κ.kle (KK κ (arrOf u) i) (KK κ (arrOf u) k))/\∀ i,r<=i->i < k->κ.klt (KK κ (arrOf u) k) (KK κ (arrOf u) i))
   (Q:=fun c v=>v=u/\∃ l,c=(none,l,l)/\l<=k/\(∀ i,i < l->κ.kle (KK κ (arrOf u) i) (KK κ (arrOf u) k))/\∀ i,l<=i->i < k->κ.klt (KK κ (arrOf u) k) (KK κ (arrOf u) i))
   (fun t c v _ ht hJ=>?_) (fun c v hJ=>?_) ⟨rfl,0,k,rfl,Nat.zero_le _,Nat.le_refl _,Nat.le_refl _,(fun i hi=>absurd hi (Nat.not_lt_zero _)),fun i h1 h2=>absurd h2 (by omega)⟩) fun c v hJ=>?_)
  ·obtain ⟨rfl,l,r,rfl,hlr,hrk,hm,lo,hi⟩:=hJ
   show wpS _ _ _ _ (if l ≥ r then _ else _) _ v
   by_cases h:l ≥ r
   ·rw [if_pos h]
    obtain rfl:l=r:=by omega
    exact wpS_pure ⟨rfl,l,rfl,hrk,lo,hi⟩
   ·rw [if_neg h]
    have m1:l<=(l+r) / 2:=by omega
    have m2:(l+r) / 2 < r:=by omega
    generalize (l+r) / 2=mid at m1 m2 ⊢
    have m3:mid < k:=Nat.lt_of_lt_of_le m2 hrk
    refine wpS_bind (zeS T h0 S' (i:=k) (j:=mid) hk (Nat.lt_trans m3 hk) ?_)
    cases lt:κ.blt (KK κ (arrOf v) k) (KK κ (arrOf v) mid) with
    | true=>exact wpS_pure ⟨rfl,l,mid,rfl,m1,Nat.le_of_lt m3,by omega,lo,fun i a1 a2=>KeyOrd.klt_of_klt_of_kle lt (up _ _ a1 a2)⟩
    | false=>exact wpS_pure ⟨rfl,mid+1,r,rfl,m2,hrk,by omega,fun i a1=>KeyOrd.kle_trans (up i mid (Nat.le_of_lt_succ a1) m3) lt,hi⟩
  ·obtain ⟨rfl,l,r,rfl,hlr,hrk,hm,lo,hi⟩:=hJ
   have e0:max 0 k=k:=by omega
   rw [e0] at hm
   obtain rfl:l=r:=by omega
   exact ⟨rfl,l,rfl,hrk,lo,hi⟩
  ·obtain ⟨rfl,l,rfl,hlk,lo,hi⟩:=hJ
   have hks:k < (arrOf v).size:=S'.sz ▸ hk
   show wpS _ _ _ _ (moveDown' k l >>= fun _=>pure (ForInStep.yield (none,()))) _ v
   rw [moveDown'_eq]
   refine wpS_bind (wpS_modify (wpS_pure ⟨rfl,S'.put (bubble_perm ..),fun i j hij hj=>?_⟩))
   have el:k - (k - l)=l:=by omega
   show κ.kle (KK κ (bubble (arrOf v) k (k - l)) i) (KK κ (bubble (arrOf v) k _) j)
   rw [KK_bubble hks (Nat.sub_le _ _) i,KK_bubble hks (Nat.sub_le _ _) j,el]
   by_cases a1:i=l <;> by_cases a2:j=l <;> by_cases a3:l < i/\i<=k <;> by_cases a4:l < j/\j<=k <;>
    simp only [a1,a2,a3,a4,if_true,if_false] <;> first
    | (exfalso;omega)
    | exact KeyOrd.kle_refl _
    | exact lo _ (by omega)
    | exact KeyOrd.kle_of_klt (hi _ (by omega) (by omega))
    | exact up _ _ (by omega) (by omega)
 ·obtain ⟨rfl,S',up⟩:=hI
  have e:max ok n=n:=by omega
  rw [e] at up
  exact ⟨rfl,S',up⟩
 ·obtain ⟨rfl,S',up⟩:=hI
  exact wpS_pure (q u S' up)
theorem zkP (T:zcd prog w A s κ kd) (h0:KeysOf κ o) (S:zbG kd o st) {Q:Unit->SortSt->Prop} (h2:2<=o.size) (h64:o.size < 64)
 (q:∀ u,(arrOf u).Perm o->failedOf u=none->SortedToK κ (arrOf u) o.size->Q () u):wpS (model prog w) A E s sortRuns' Q st:=by
 have hm:minRun' o.size o.size 0=o.size:=by
  cases e:o.size with
  | zero=>omega
  | succ f=>rw [minRun'_succ,if_pos (by omega),Nat.add_zero]
 rw [sortRuns'_eq]
 refine wpS_bind (wpS_get ?_)
 simp only [S.sz,hm]
 have fin:∀ u,zbG kd o u->SortedToK κ (arrOf u) o.size->(arrOf (setPending u ((pendingOf u).push (0,o.size,0)))).Perm o/\failedOf (setPending u ((pendingOf u).push (0,o.size,0)))=none /\
  pendingOf (setPending u ((pendingOf u).push (0,o.size,0)))=#[(0,o.size,0)]/\SortedToK κ (arrOf (setPending u ((pendingOf u).push (0,o.size,0)))) o.size:=fun u S' up =>
  ⟨S'.pm,S'.fl,by show (pendingOf u).push (0,o.size,0)=_;rw [S'.pn];rfl,up⟩
 refine wpS_bind (wpS_mono (wpS_forRange
  (I:=fun t c u=>(t=0/\c=(none,0)/\zbG kd o u)\/(1<=t/\c=(none,o.size)/\(arrOf u).Perm o/\failedOf u=none/\pendingOf u=#[(0,o.size,0)]/\SortedToK κ (arrOf u) o.size))
  (Q:=fun c u=>c=(none,o.size)/\(arrOf u).Perm o/\failedOf u=none/\pendingOf u=#[(0,o.size,0)]/\SortedToK κ (arrOf u) o.size) (fun t c u _ ht hI=>?_) (fun c u hI=>?_) (.inl ⟨rfl,rfl,S⟩)) fun c u hI=>?_)
 ·rcases hI with ⟨rfl,rfl,S'⟩ | ⟨h1,rfl,hD⟩
  ·show wpS _ _ _ _ (if 0 ≥ o.size then _ else _) _ u
   rw [if_neg (by omega)]
   simp only [Nat.sub_zero,Nat.min_self,Nat.zero_add]
   refine wpS_bind (zkZ T h0 S' (Nat.le_refl _) (by omega) fun m v S2 a1 a2 up=>?_)
   by_cases lt:m < o.size
   ·simp only [lt,if_true]
    refine wpS_bind (wpS_lift (wpAny_rule ⟨rfl,wpS_bind (zqP T h0 S2 (Nat.le_refl _) a2 a1 up fun v' S3 up'=>?_)⟩))
    simp only [Bool.not_true,Bool.false_eq_true,if_false]
    refine wpS_bind (wpS_get ?_)
    have hb:(pendingOf v').back?=none:=S3.pn ▸ rfl
    rw [hb]
    exact wpS_bind (wpS_modify (wpS_pure (.inr ⟨Nat.le_refl _,rfl,fin v' S3 up'⟩)))
   ·simp only [lt,if_false]
    obtain rfl:m=o.size:=by omega
    refine wpS_bind (wpS_get ?_)
    have hb:(pendingOf v).back?=none:=S2.pn ▸ rfl
    rw [hb]
    exact wpS_bind (wpS_modify (wpS_pure (.inr ⟨Nat.le_refl _,rfl,fin v S2 up⟩)))
  ·show wpS _ _ _ _ (if o.size ≥ o.size then _ else _) _ u
   rw [if_pos (Nat.le_refl _)]
   exact wpS_pure ⟨rfl,hD⟩
 ·rcases hI with ⟨z,_,_⟩ | ⟨_,e,hD⟩
  ·omega
  ·exact ⟨e,hD⟩
 ·obtain ⟨rfl,p1,p2,p3,p4⟩:=hI
  refine wpS_bind (wpS_mono (wpS_forRange (I:=fun _ c v=>v=u/\c=(none,())) (Q:=fun c v=>v=u/\c=(none,())) (fun t c v _ _ hJ=>?_) (fun _ _ hJ=>hJ) ⟨rfl,rfl⟩) fun c v hJ=>?_)
  ·obtain ⟨rfl,rfl⟩:=hJ
   refine wpS_bind (wpS_get ?_)
   rw [if_pos (by rw [p3];exact Nat.le_refl 1)]
   exact wpS_pure ⟨rfl,rfl⟩
  ·obtain ⟨rfl,rfl⟩:=hJ
   exact wpS_pure (q _ p1 p2 p4)
end
end Sr
namespace Sr
open PySem PyProof.Rows
def zid:List Value->Option (List Int)
 | []=>some []
 | .int n _ :: r=>(zid r).map (n :: ·)
 | _ :: _=>none
theorem ziO:∀ {vs:List Value} {ns:List Int},IntsAre vs ns->zid vs=some ns
 | _,_,.nil=>rfl
 | _,_,.cons n t h=>by
   show (zid _).map (n :: ·)=_
   rw [ziO h]
   rfl
theorem zjp:∀ {vs:List Value} {ns:List Int},zid vs=some ns->IntsAre vs ns
 | [],ns,h=>by cases h;exact .nil
 | v :: r,ns,h=>by
   cases v with
   | int n t =>
     have h':(zid r).map (n :: ·)=some ns:=h
     cases e:zid r with
     | none=>rw [e] at h';cases h'
     | some ms =>
       rw [e] at h'
       cases h'
       exact .cons n t (zjp e)
   | _=>cases h
def tupK (h:Heap):Value->Option (List Int)
 | .ref a=>match h.get? a with
   | some o=>match o.data with
     | .seq its _=>zid its.toList
     | _=>none
   | none=>none
 | _=>none
theorem znE {h:Heap} {a:Addr} {its:Array Value} {ns:List Int} (t:IsTup h a its) (i:IntsAre its.toList ns):tupK h (.ref a)=some ns:=by
 obtain ⟨o,e,_,n,d⟩:=t
 unfold tupK
 simp only [e,d]
 exact ziO i
theorem zlI {h:Heap} {v:Value} {ns:List Int} (k:tupK h v=some ns):∃ a o its n,v=.ref a/\h.get? a=some o/\o.data=.seq its n/\IntsAre its.toList ns:=by
 cases v with
 | ref a =>
   unfold tupK at k
   cases e:h.get? a with
   | none=>simp only [e] at k;cases k
   | some o =>
     simp only [e] at k
     cases d:o.data with
     | seq its n=>simp only [d] at k;exact ⟨a,o,its,n,rfl,e,d,zjp k⟩
     | _=>simp only [d] at k;cases k
 | _=>cases k
theorem zfN:∀ a:List Int,HT.zbc a a=false
 | []=>rfl
 | x :: xs=>by rw [HT.zdk,if_pos rfl];exact zfN xs
theorem zeM:∀ a b c:List Int,HT.zbc a b=true->HT.zbc b c=true->HT.zbc a c=true
 | [],[],_,h,_=>by cases h
 | [],_ :: _,[],_,h=>by cases h
 | [],_ :: _,_ :: _,_,_=>rfl
 | _ :: _,[],_,h,_=>by cases h
 | _ :: _,_ :: _,[],_,h=>by cases h
 | x :: xs,y :: ys,z :: zs,h1,h2=>by
   rw [HT.zdk] at h1 h2 ⊢
   by_cases e1:x=y
   ·subst e1
    rw [if_pos rfl] at h1
    by_cases e2:x=z
    ·subst e2
     rw [if_pos rfl] at h2 ⊢
     exact zeM xs ys zs h1 h2
    ·rw [if_neg e2] at h2 ⊢
     exact h2
   ·rw [if_neg e1] at h1
    have l1:=of_decide_eq_true h1
    by_cases e2:y=z
    ·subst e2
     rw [if_neg e1]
     exact h1
    ·rw [if_neg e2] at h2
     have l2:=of_decide_eq_true h2
     rw [if_neg (by omega)]
     exact decide_eq_true (by omega)
theorem zeQ:∀ a b:List Int,HT.zbc a b=false->HT.zbc b a=false->a=b
 | [],[],_,_=>rfl
 | [],_ :: _,h,_=>by cases h
 | _ :: _,[],_,h=>by cases h
 | x :: xs,y :: ys,h1,h2=>by
   rw [HT.zdk] at h1 h2
   by_cases e:x=y
   ·subst e
    rw [if_pos rfl] at h1 h2
    rw [zeQ xs ys h1 h2]
   ·rw [if_neg e] at h1
    rw [if_neg (Ne.symm e)] at h2
    have l1:=of_decide_eq_false h1
    have l2:=of_decide_eq_false h2
    omega
theorem znK (a b c:List Int) (h:HT.zbc a c=true):HT.zbc a b=true\/HT.zbc b c=true:=by
 cases e1:HT.zbc a b with
 | true=>exact .inl rfl
 | false =>
   cases e2:HT.zbc b c with
   | true=>exact .inr rfl
   | false =>
     exfalso
     cases e3:HT.zbc b a with
     | true =>
       have:=zeM b a c e3 h
       rw [e2] at this
       cases this
     | false =>
       rw [zeQ a b e1 e3,e2] at h
       cases h
def kT (h:Heap):KeyKind where
 α:=List Int
 blt:=HT.zbc
 irrefl:=zfN
 trans:=zeM
 negTrans:=znK
 total:=zeQ
 keyOf:=tupK h
 dflt:=[]
section
variable {prog:Program} {w:World} {A:Around} {E:Value->Shared->Prop} {s:Shared}
theorem zhk (f:Bool) (x y:Value):keyLt' (tuples' f) x y=(do
 let xs <- Builtin.List.listItems x
 let ys <- Builtin.List.listItems y
 for ((p,q),i) in (xs.toList.zip ys.toList).zipIdx do
  if !(<- eqBool p q) then return <- oneLt' (f && i == 0) p q
 return decide (xs.size < ys.size)):=rfl
theorem ziS {f:Bool} {a b:Int} {t u:Tok} {Q:Bool->Shared->Prop} (q:Q (decide (a < b)) s):wpAny (model prog w) A (oneLt' f (.int a t) (.int b u)) Q E s:=by
 cases f with
 | true=>exact oneLt_int q
 | false =>
   rw [oneLt'_eq]
   simp only [Bool.false_eq_true,if_false]
   exact wpAny_bind (HT.zmp A s a t b u prog w E _ (wpAny_truthy_bool q))
theorem zlo (f:Bool):zcd prog w A s (kT s.heap) (tuples' f):=by
 intro E x y a b Q kx ky q
 obtain ⟨ax,ox,ix,nx,rfl,ex,dx,rx⟩:=zlI (show tupK s.heap x=some a from kx)
 obtain ⟨ay,oy,iy,ny,rfl,ey,dy,ry⟩:=zlI (show tupK s.heap y=some b from ky)
 rw [zhk]
 refine wpAny_bind (listItems_at ex dx (wpAny_bind (listItems_at ey dy ?_)))
 have zx:ix.size=a.length:=by rw [<- rx.length];simp
 have zy:iy.size=b.length:=by rw [<- ry.length];simp
 refine wpAny_bind (wpAny_mono (wpAny_forIn_list _ (fun rest (c:Option Bool × PUnit) u=>c.1=none/\u=s/\∃ (vs ws:List Value) (ns ms:List Int) (k:Nat),rest=(vs.zip ws).zipIdx k/\IntsAre vs ns/\IntsAre ws ms/\ns.length+iy.size=ms.length+ix.size/\HT.zbc ns ms=HT.zbc a b)
  (fun (c:Option Bool × PUnit) u=>u=s/\(c.1=some (HT.zbc a b)\/(c.1=none/\HT.zbc a b=decide (ix.size < iy.size)))) ?_ ?_ _ _ ⟨rfl,rfl,ix.toList,iy.toList,a,b,0,rfl,rx,ry,by omega,rfl⟩) ?_ fun _ _ z=>z)
 ·rintro ⟨⟨p,p'⟩,i⟩ rest c u ⟨hc,rfl,vs,ws,ns,ms,k,hr,hv,hw,hl,he⟩
  cases hv with
  | nil=>rw [List.zip_nil_left] at hr;cases hr
  | cons m t hv' =>
    cases hw with
    | nil=>rw [List.zip_nil_right] at hr;cases hr
    | cons m' t' hw' =>
      rw [List.zip_cons_cons,List.zipIdx_cons] at hr
      injection hr with h1 h2
      injection h1 with h3 h4
      injection h3 with h5 h6
      subst h5 h6
      rw [HT.zdk] at he
      simp only [List.length_cons] at hl
      refine wpAny_bind (SeqAt.EqAt.int_int m t m' t' prog w E _ ?_)
      by_cases e:m=m'
      ·subst e
       rw [if_pos rfl] at he
       rw [beq_self_eq_true]
       exact wpAny_pure ⟨rfl,rfl,_,_,_,_,_,h2,hv',hw',by omega,he⟩
      ·rw [if_neg e] at he
       have eb:(m == m')=false:=beq_eq_false_iff_ne.mpr e
       rw [eb]
       refine wpAny_bind (ziS (wpAny_pure ⟨rfl,.inl ?_⟩))
       rw [he]
 ·rintro c u ⟨hc,rfl,vs,ws,ns,ms,k,hr,hv,hw,hl,he⟩
  refine ⟨rfl,.inr ⟨hc,?_⟩⟩
  rw [<- he]
  cases hv with
  | nil =>
    cases hw with
    | nil =>
      simp only [List.length_nil] at hl
      exact (decide_eq_false (by omega)).symm
    | cons m' t' hw' =>
      simp only [List.length_nil,List.length_cons] at hl
      exact (decide_eq_true (by omega)).symm
  | cons m t hv' =>
    cases hw with
    | nil =>
      simp only [List.length_nil,List.length_cons] at hl
      exact (decide_eq_false (by omega)).symm
    | cons m' t' hw'=>rw [List.zip_cons_cons,List.zipIdx_cons] at hr;cases hr
 ·rintro ⟨c1,c2⟩ u ⟨rfl,h | ⟨h,h'⟩⟩
  ·have h:c1=some (HT.zbc a b):=h
   subst h
   exact wpAny_pure q
  ·have h:c1=none:=h
   subst h
   have q':Q (HT.zbc a b) u:=q
   rw [h'] at q'
   exact wpAny_pure q'
theorem zeY {β:Type} {f:Value->Sem β} (g:Value->β):∀ (l:List Value) (Q:List β->Shared->Prop),(∀ v ∈ l,∀ Q':β->Shared->Prop,Q' (g v) s->wpAny (model prog w) A (f v) Q' E s)->Q (l.map g) s->wpAny (model prog w) A (l.mapM f) Q E s
 | [],Q,_,q=>by rw [List.mapM_nil];exact wpAny_pure q
 | v :: l,Q,h,q=>by
   rw [List.mapM_cons]
   refine wpAny_bind (h v List.mem_cons_self _ (wpAny_bind (zeY g l _ (fun u hu=>h u (List.mem_cons_of_mem _ hu)) (wpAny_pure q))))
def Head (h:Heap) (v:Value):Prop:=∃ (a:Addr) (its:List Value) (n:Int) (t:Tok) (r:List Value),v=.ref a/\IsTup h a its.toArray/\its=.int n t :: r
def zaX (h:Heap):Value->Option Value
 | .ref a=>match h.get? a with
   | some o=>match o.data with
     | .seq its _=>its[0]?
     | _=>none
   | none=>none
 | _=>none
theorem zlH {v:Value} (H:Head s.heap v) {Q:Option Value->Shared->Prop} (q:Q (zaX s.heap v) s):wpAny (model prog w) A (firstOfTuple' v) Q E s:=by
 obtain ⟨a,its,n,t,r,rfl,ht,rfl⟩:=H
 obtain ⟨o,e,c,k,d⟩:=id ht
 have eq:firstOfTuple' (.ref a)=(do
  if (<- typeOf (.ref a)) != .type "tuple" then return none
  return (<- Builtin.List.listItems (.ref a))[0]?):=rfl
 rw [eq]
 refine wpAny_bind (wpAny_typeOf ht.typeIs ?_)
 rw [if_neg (by decide)]
 refine wpAny_bind (listItems_at e d (wpAny_pure ?_))
 have hq:zaX s.heap (.ref a)=((Value.int n t :: r).toArray)[0]?:=by unfold zaX;simp only [e,d]
 rw [hq] at q
 exact q
theorem zlX {v:Value} (H:Head s.heap v):∃ n t,zaX s.heap v=some (.int n t):=by
 obtain ⟨a,its,n,t,r,rfl,⟨o,e,c,k,d⟩,rfl⟩:=H
 exact ⟨n,t,by unfold zaX;simp only [e,d];rfl⟩
theorem zmw {vs:List Value} (H:∀ v ∈ vs,Head s.heap v) (hne:vs ≠ []) {Q:SortKind->Shared->Prop} (q:Q (tuples' true) s):wpAny (model prog w) A (keyKind' vs.toArray) Q E s:=by
 rw [keyKind'_eq,List.mapM_toArray]
 have hsm:∀ v ∈ vs,∃ n t,zaX s.heap v=some (.int n t):=fun v hv=>zlX (H v hv)
 refine wpAny_bind (m:=List.toArray <$> _) (wpAny_bind (zeY (zaX s.heap) vs _ (fun v hv Q' q'=>zlH (H v hv) q') (wpAny_pure ?_)))
 have hall:((vs.map (zaX s.heap)).toArray.all fun x=>x.isSome)=true:=by
  simp only [List.all_toArray,List.all_map,List.all_eq_true]
  intro v hv
  obtain ⟨n,t,e⟩:=hsm v hv
  show (zaX s.heap v).isSome=true
  rw [e]
  rfl
 rw [if_pos hall]
 refine wpAny_bind (wpAny_rule ?_)
 rw [oneTypeOnly'_eq]
 have hfm:((vs.map (zaX s.heap)).toArray.filterMap id)=(vs.filterMap (zaX s.heap)).toArray:=by
  simp [List.filterMap_map]
 rw [hfm,List.mapM_toArray]
 have htys:∀ v ∈ vs.filterMap (zaX s.heap),∃ n t,v=.int n t:=fun v hv=>by
  obtain ⟨u,hu,e⟩:=List.mem_filterMap.mp hv
  obtain ⟨n,t,e'⟩:=hsm u hu
  rw [e'] at e
  exact ⟨n,t,(Option.some.inj e).symm⟩
 refine wpAny_bind (wpAny_bind (m:=List.toArray <$> _) (wpAny_bind (zeY (fun _=>Value.type "int") (vs.filterMap (zaX s.heap)) _ (fun v hv Q' q'=>?_) (wpAny_pure ?_))))
 ·obtain ⟨n,t,rfl⟩:=htys v hv
  exact wpAny_typeOf (typeIs_int s n t) q'
 ·obtain ⟨v0,r,rfl⟩:=List.exists_cons_of_ne_nil hne
  obtain ⟨n,t,e⟩:=hsm v0 List.mem_cons_self
  have hfc:(v0 :: r).filterMap (zaX s.heap)=.int n t :: r.filterMap (zaX s.heap):=by rw [List.filterMap_cons,e]
  rw [hfc]
  have e0:(List.map (fun _=>Value.type "int") (Value.int n t :: r.filterMap (zaX s.heap))).toArray[0]?=some (.type "int"):=by simp
  have ea:((List.map (fun _=>Value.type "int") (Value.int n t :: r.filterMap (zaX s.heap))).toArray.all fun x=>x == Value.type "int")=true:=by
   simp only [List.all_toArray,List.all_map,List.all_eq_true]
   intro _ _
   rfl
  rw [e0]
  show wpAny _ _ (pure (if (Array.all _ fun x=>x == Value.type "int")=true then some (Value.type "int") else none)) _ _ _
  rw [if_pos ea]
  exact wpAny_pure (wpAny_pure q)
end
end Sr
namespace Sr
open PySem PyProof.Rows
theorem zda {α β:Type} {f:α->β}:∀ {l:List β} {ts:List α},l.Perm (ts.map f)->∃ ts':List α,ts'.Perm ts/\l=ts'.map f
 | [],ts,h=>by
   have e:=h.symm.eq_nil
   exact ⟨[],by rw [List.map_eq_nil_iff.mp e],rfl⟩
 | b :: l,ts,h=>by
   have hb:b ∈ ts.map f:=h.mem_iff.mp List.mem_cons_self
   obtain ⟨t,ht,rfl⟩:=List.mem_map.mp hb
   obtain ⟨p,r,rfl⟩:=List.append_of_mem ht
   have h2:(f t :: l).Perm (f t :: (p++r).map f):=by
    refine h.trans ?_
    rw [List.map_append,List.map_cons,List.map_append]
    exact List.perm_middle
   obtain ⟨ts',p1,rfl⟩:=zda (List.Perm.cons_inv h2)
   exact ⟨t :: ts',(p1.cons t).trans List.perm_middle.symm,rfl⟩
section
variable {prog:Program} {w:World} {A:Around} {E:Value->Shared->Prop} {s:Shared}
theorem zfw {a:Addr} {vs:List Value} {n:Nat} {R:Fin->Shared->Prop} (ho:s.heap.get? a=some (seqObj "list" vs.toArray n)) (hh:∀ v ∈ vs,Head s.heap v) (hk:∀ v ∈ vs,∃ ns,tupK s.heap v=some ns) (h64:vs.length < 64)
 (q:∀ xs:Array Keyed,xs.Perm (pairsOf vs)->SortedToK (kT s.heap) xs vs.length->R (.done (.ret .none)) { s with heap:=sortedHeap s.heap a vs (xs.map (·.2)) }) :
 wpAny (model prog w) A (Builtin.«list.sort» ⟨[.ref a],[]⟩) R E s:=by
 have hlt:a < s.heap.objs.size:=Heap.lt_size ho
 rw [list_sort_plain]
 refine wpAny_bind (listItems_at ho rfl (wpAny_bind (listUpdate_at ho rfl ?_)))
 obtain ⟨e1,ho1⟩:∃ e1,(s.heap.update a (Obj.mapSeq fun _=>#[])).get? a=some (seqObj "list" #[] e1):=⟨_,get?_update_seq ho (fun _=>#[])⟩
 refine wpAny_bind (seqEpoch_at ho1 rfl (wpAny_bind (wpAny_newTuple (wpAny_bind (wpAny_newList (wpAny_holding ?_))))))
 generalize hg:((s.heap.update a (Obj.mapSeq fun _=>#[])).push (seqObj "tuple" vs.toArray 0)).push (seqObj "list" #[] 0)=g
 have other:∀ b ob,b ≠ a->s.heap.get? b=some ob->g.get? b=some ob:=fun b ob hb e=>by
  rw [<- hg]
  exact Heap.get?_push_of_some _ (Heap.get?_push_of_some _ ((Heap.get?_update_other _ _ (Ne.symm hb)).trans e))
 have ho6:g.get? a=some (seqObj "list" #[] e1):=by
  rw [<- hg]
  exact Heap.get?_push_of_some _ (Heap.get?_push_of_some _ ho1)
 show wpAny (model prog w) A _ R E { s with heap:=g }
 dsimp only
 have q':∀ xs:Array Keyed,xs.Perm (pairsOf vs)->SortedToK (kT s.heap) xs vs.length->R (.done (.ret .none)) { s with heap:=g.update a (Obj.mapSeq fun _=>xs.map (·.2)) }:=fun xs h1 h2=>by
  have:=q xs h1 h2
  unfold sortedHeap at this
  rw [hg] at this
  exact this
 have hsz:vs.toArray.size=vs.length:=by simp
 have long:∀ {xs:Array Keyed},xs.Perm (pairsOf vs)->(xs.map (·.2)).size<=sizeLine+1:=fun {xs} h=>by
  rw [Array.size_map,h.size_eq,pairsOf_size,sizeLine_eq]
  omega
 by_cases h2:vs.toArray.size < 2
 ·simp only [h2,if_true]
  refine wpAny_bind (wpAny_pure ?_)
  rw [StateT.run_pure]
  refine wpAny_bind (wpAny_pure ?_)
  refine wpAny_bind (seqEpoch_at ho6 rfl (wpAny_bind (listUpdate_at ho6 rfl ?_ (hsz2:=long (Array.Perm.refl _)))))
  simp only [bne_self_eq_false,Bool.false_eq_true,if_false]
  refine wpAny_pure (q' _ (Array.Perm.refl _) fun i j hij hj=>?_)
  have e:i=j:=by omega
  rw [e]
  exact KeyOrd.kle_refl _
 ·simp only [h2,if_false]
  have two:2<=vs.length:=by omega
  have nev:vs ≠ []:=fun z=>by rw [z] at two;exact absurd two (by decide)
  have notList:∀ v ∈ vs,∀ b,v=.ref b->b ≠ a:=fun v hv b e z=>by
   obtain ⟨b',its,m,t,r,e',⟨ob,eb,cb,_⟩,_⟩:=hh v hv
   subst e
   injection e' with e'
   subst e' z
   rw [ho] at eb
   have eo:seqObj "list" vs.toArray n=ob:=Option.some.inj eb
   rw [<- eo] at cb
   have cb':Value.type "list"=Value.type "tuple":=cb
   injection cb' with cb''
   exact absurd cb'' (by decide)
  have sameK:∀ v ∈ vs,tupK g v=tupK s.heap v:=fun v hv=>by
   obtain ⟨b,its,m,t,r,rfl,⟨ob,eb,cb,k,db⟩,_⟩:=hh v hv
   unfold tupK
   simp only [eb,other b ob (notList _ hv b rfl) eb]
  have hh6:∀ v ∈ vs,Head g v:=fun v hv=>by
   obtain ⟨b,its,m,t,r,rfl,⟨ob,eb,rest⟩,hi⟩:=hh v hv
   exact ⟨b,its,m,t,r,rfl,⟨ob,other b ob (notList _ hv b rfl) eb,rest⟩,hi⟩
  have hk6:KeysOf (kT g) (pairsOf vs):=fun p hp=>by
   rw [pairsOf_toList] at hp
   obtain ⟨_,hm⟩:=mem_zip_self hp
   obtain ⟨ns,e⟩:=hk _ hm
   exact ⟨ns,(sameK _ hm).trans e⟩
  refine wpAny_bind (zmw (s:={ s with heap:=g }) hh6 nev ?_)
  refine wpAny_bind (wpAny_mono (zkP (κ:=kT g) (kd:=tuples' true) (o:=pairsOf vs) (st:=SortSt.mk' (tuples' true) (vs.toArray.zip vs.toArray) #[] 7 none)
   (Q:=fun _ u=>(arrOf u).Perm (pairsOf vs)/\failedOf u=none/\SortedToK (kT g) (arrOf u) (pairsOf vs).size) (zlo (s:={ s with heap:=g }) true) hk6 ⟨Array.Perm.refl _,rfl,rfl,rfl⟩ (by rw [pairsOf_size];exact two)
   (by rw [pairsOf_size];exact h64) fun u h1 h2 h3=>⟨h1,h2,h3⟩) ?_ fun _ _ z=>z)
  rintro ⟨⟨⟩,u⟩ s' ⟨rfl,hp,hf,hs⟩
  refine wpAny_bind (seqEpoch_at ho6 rfl (wpAny_bind (listUpdate_at ho6 rfl ?_ (hsz2:=long hp))))
  rw [hf]
  simp only [bne_self_eq_false,Bool.false_eq_true,if_false]
  refine wpAny_pure (q' _ hp fun i j hij hj=>?_)
  have kk:∀ i,i < vs.length->KK (kT s.heap) (arrOf u) i=KK (kT g) (arrOf u) i:=fun i hi=>by
   have hi':i < (arrOf u).size:=by rw [hp.size_eq,pairsOf_size];exact hi
   have e:=getElem?_pos (arrOf u) i hi'
   have hin:(arrOf u)[i] ∈ (pairsOf vs).toList:=(Array.perm_iff_toList_perm.mp hp).mem_iff.mp (by simp)
   rw [pairsOf_toList] at hin
   obtain ⟨_,hm⟩:=mem_zip_self hin
   simp only [KK,e]
   show (tupK s.heap _).getD []=(tupK g _).getD []
   rw [sameK _ hm]
  rw [kk i (by omega),kk j hj]
  exact hs i j hij (by rw [pairsOf_size];exact hj)
theorem ziz {l:Addr} {vs:List Value} {Q:Value->Shared->Prop} (hl:s.heap.IsList l vs.toArray) (hh:∀ v ∈ vs,Head s.heap v) (hk:∀ v ∈ vs,∃ ns,tupK s.heap v=some ns) (h64:vs.length < 64)
 (q:∀ (xs:Array Keyed) (h':Heap) (n:Nat),xs.Perm (pairsOf vs)->SortedToK (kT s.heap) xs vs.length->h'.get? (s.heap.objs.size+1)=some (seqObj "list" (xs.map (·.2)) n)->(∀ b o,s.heap.get? b=some o->h'.get? b=some o) ->
   Q (.ref (s.heap.objs.size+1)) { s with heap:=h' }) :
 wpAny (model prog w) A (call (.builtin "sorted") [.ref l]) Q E s:=by
 refine Calls.call_function_entry kind_sorted plain_sorted entry_sorted (args_sorted1 _) ?_
 unfold Builtin.«sorted»
 refine wpAny_bind (m:=checkCount "sorted" 1 1 _) (wpAny_pure (wpAny_bind (collect_list hl (wpAny_bind (wpAny_newList ?_)))))
 generalize hg:(s.heap.push (seqObj "list" #[] 0)).update s.heap.objs.size (Obj.mapSeq (·++ vs.toArray))=g
 have zg:g.objs.size=s.heap.objs.size+1:=by rw [<- hg,Heap.size_update,size_push']
 have og:∀ b o,s.heap.get? b=some o->g.get? b=some o:=fun b o e=>by
  rw [<- hg]
  exact (Heap.get?_update_other _ _ (Nat.ne_of_gt (Heap.lt_size e))).trans (Heap.get?_push_of_some _ e)
 show wpAny _ _ _ _ _ { s with heap:=g.push (seqObj "list" vs.toArray 0) }
 rw [zg]
 have hoL:(g.push (seqObj "list" vs.toArray 0)).get? (s.heap.objs.size+1)=some (seqObj "list" vs.toArray 0):=by rw [<- zg];exact Heap.get?_push_size _ rfl
 have ol:∀ b o,s.heap.get? b=some o->(g.push (seqObj "list" vs.toArray 0)).get? b=some o:=fun b o e=>Heap.get?_push_of_some _ (og b o e)
 have sameK:∀ v ∈ vs,tupK (g.push (seqObj "list" vs.toArray 0)) v=tupK s.heap v:=fun v hv=>by
  obtain ⟨b,its,m,t,r,rfl,⟨ob,eb,cb,k,db⟩,_⟩:=hh v hv
  unfold tupK
  simp only [eb,ol b ob eb]
 refine wpAny_bind (wpAny_holding (wpAny_call_entry slot_list_sort ⟨_,hoL,rfl⟩ entry_list_sort (zfw (s:={ s with heap:=g.push (seqObj "list" vs.toArray 0) }) hoL (fun v hv=>?_) (fun v hv=>?_) h64 fun xs h1 h2=>⟨_,rfl,?_⟩) (args_list_sort _)))
 ·obtain ⟨b,its,m,t,r,e,⟨ob,eb,rest⟩,hi⟩:=hh v hv
  exact ⟨b,its,m,t,r,e,⟨ob,ol b ob eb,rest⟩,hi⟩
 ·obtain ⟨ns,e⟩:=hk v hv
  exact ⟨ns,(sameK v hv).trans e⟩
 ·have kk:SortedToK (kT s.heap) xs vs.length:=fun i j hij hj=>by
   have one:∀ i,i < vs.length->KK (kT s.heap) xs i=KK (kT (g.push (seqObj "list" vs.toArray 0))) xs i:=fun i hi=>by
    have hi':i < xs.size:=by rw [h1.size_eq,pairsOf_size];exact hi
    have e:=getElem?_pos xs i hi'
    have hin:xs[i] ∈ (pairsOf vs).toList:=(Array.perm_iff_toList_perm.mp h1).mem_iff.mp (by simp)
    rw [pairsOf_toList] at hin
    obtain ⟨_,hm⟩:=mem_zip_self hin
    simp only [KK,e]
    show (tupK s.heap _).getD []=(tupK _ _).getD []
    rw [sameK _ hm]
   rw [one i (by omega),one j hj]
   exact h2 i j hij hj
  generalize hf:sortedHeap (g.push (seqObj "list" vs.toArray 0)) (s.heap.objs.size+1) vs (xs.map (·.2))=h'
  obtain ⟨m,em⟩:∃ m,h'.get? (s.heap.objs.size+1)=some (seqObj "list" (xs.map (·.2)) m):=by
   rw [<- hf]
   unfold sortedHeap
   obtain ⟨e1,ho1⟩:∃ e1,((g.push (seqObj "list" vs.toArray 0)).update (s.heap.objs.size+1) (Obj.mapSeq fun _=>#[])).get? (s.heap.objs.size+1)=some (seqObj "list" #[] e1):=⟨_,get?_update_seq hoL (fun _=>#[])⟩
   exact ⟨_,get?_update_seq (Heap.get?_push_of_some _ (Heap.get?_push_of_some _ ho1)) (fun _=>xs.map (·.2))⟩
  have keep:∀ b o,s.heap.get? b=some o->h'.get? b=some o:=fun b o e=>by
   have hb:b ≠ s.heap.objs.size+1:=Nat.ne_of_lt (Nat.lt_succ_of_lt (Heap.lt_size e))
   rw [<- hf]
   unfold sortedHeap
   exact (Heap.get?_update_other _ _ (Ne.symm hb)).trans (Heap.get?_push_of_some _ (Heap.get?_push_of_some _ ((Heap.get?_update_other _ _ (Ne.symm hb)).trans (ol b o e))))
  exact wpAny_pure ⟨_,rfl,q xs h' m h1 kk em keep⟩
end
end Sr
namespace L2
open PySem PySem.Spec PyProof.Rows
abbrev TI2:=Addr × List Int
def zcC (ts:List TI2):List V:=ts.map fun t=>.ref t.1
section
variable {X:Cx}
theorem zge {α β:Type} (f:α->β):∀ l:List α,(l.map f).zip (l.map f)=l.map fun t=>(f t,f t)
 | []=>rfl
 | t :: l=>by rw [List.map_cons,List.zip_cons_cons,zge f l,List.map_cons]
theorem zgQ:∀ {ts:List TI2} {us:List Value},Vals (zcC ts) us->us=ts.map fun t=>Value.ref t.1
 | [],us,r=>by cases r;rfl
 | t :: ts,us,r=>by
   cases r with
   | cons r1 r2 =>
     have e:_=Value.ref t.1:=r1
     rw [e,zgQ r2]
     rfl
theorem zev:∀ ts:List TI2,Vals (zcC ts) (ts.map fun t=>Value.ref t.1)
 | []=>.nil
 | t :: ts=>.cons rfl (zev ts)
theorem zim:zcW X (.builtin "sorted") (fun xs H Q=>∃ p ts,xs=[.ref p]/\SqL X.K H p (zcC ts)/\(∀ t ∈ ts,SqT X.K H t.1 (t.2.map V.int)/\t.2 ≠ [])/\ts.length < 64 /\
 ∀ (l:Addr) (ts':List TI2),H l=none->ts'.Perm ts->ts'.Pairwise (fun a b=>HT.zbc b.2 a.2=false)->Q (.ref l) (upd H l (.lst (zcC ts')))):=by
 intro pins s σ H xs us Q I r h
 obtain ⟨p,ts,rfl,hq,ht,h64,q⟩:=h
 obtain ⟨u,rfl,ru⟩:=zfA r
 cases ru
 obtain ⟨its,rv,pl,hz⟩:=I.list hq
 have ei:=zgQ rv
 subst ei
 have tup:∀ t ∈ ts,∃ vs,IsTup s.heap t.1 vs.toArray/\IntsAre vs t.2:=fun t hm=>by
  obtain ⟨vs,r2,p2,_⟩:=I.tuple (ht t hm).1
  exact ⟨vs,p2,zjy r2⟩
 have key:∀ t ∈ ts,Sr.tupK s.heap (.ref t.1)=some t.2:=fun t hm=>by
  obtain ⟨vs,p2,i2⟩:=tup t hm
  exact Sr.znE p2 (by simpa using i2)
 have e0:H (s.heap.objs.size+1)=none:=I.hok.fresh (Nat.le_succ _)
 refine Sr.ziz (vs:=ts.map fun t=>Value.ref t.1) pl.isList (fun v hv=>?_) (fun v hv=>?_) (by rw [List.length_map];exact h64) fun xs h' n hp hs hl hk=>?_
 ·obtain ⟨t,hm,rfl⟩:=List.mem_map.mp hv
  obtain ⟨ta,tn⟩:=t
  obtain ⟨vs,p2,i2⟩:=tup (ta,tn) hm
  have hne:=(ht (ta,tn) hm).2
  have i2:IntsAre vs tn:=i2
  cases i2 with
  | nil=>exact absurd rfl hne
  | cons m tk r2=>exact ⟨ta,_,m,tk,_,rfl,p2,rfl⟩
 ·obtain ⟨t,hm,rfl⟩:=List.mem_map.mp hv
  exact ⟨t.2,key t hm⟩
 ·have pl2:xs.toList.Perm ((ts.map fun t=>Value.ref t.1).zip (ts.map fun t=>Value.ref t.1)):=by rw [<- pairsOf_toList];exact Array.perm_iff_toList_perm.mp hp
  have ez:((ts.map fun t=>Value.ref t.1).zip (ts.map fun t=>Value.ref t.1))=ts.map fun t=>(Value.ref t.1,Value.ref t.1):=by
   exact zge _ ts
  rw [ez] at pl2
  obtain ⟨ts',p1,e1⟩:=Sr.zda pl2
  have eo:(xs.map (·.2))=(ts'.map fun t=>Value.ref t.1).toArray:=by
   apply Array.toList_inj.mp
   rw [Array.toList_map,e1,List.map_map]
   rfl
  have hlen:xs.size=ts'.length:=by
   have:=congrArg List.length e1
   rw [List.length_map] at this
   simpa using this
  have srt:ts'.Pairwise (fun a b=>HT.zbc b.2 a.2=false):=by
   rw [List.pairwise_iff_getElem]
   intro i j hi hj hij
   have h3:=hs i j (Nat.le_of_lt hij) (by rw [List.length_map,<- p1.length_eq];exact hj)
   have kk:∀ k (hk:k < ts'.length),KK (Sr.kT s.heap) xs k=ts'[k].2:=fun k hk'=>by
    have hk2:k < xs.size:=by rw [hlen];exact hk'
    have e:=getElem?_pos xs k hk2
    have e2:xs[k]=(Value.ref ts'[k].1,Value.ref ts'[k].1):=by
     have e3:xs.toList[k]?=some (Value.ref ts'[k].1,Value.ref ts'[k].1):=by rw [e1,List.getElem?_map,List.getElem?_eq_getElem hk'] <;> rfl
     have e4:xs.toList[k]?=some xs[k]:=by rw [Array.getElem?_toList];exact e
     rw [e4] at e3
     exact Option.some.inj e3
    simp only [KK,e,e2]
    show (Sr.tupK s.heap (Value.ref ts'[k].1)).getD []=_
    rw [key _ (p1.mem_iff.mp (List.getElem_mem hk'))]
    rfl
   rw [kk i hi,kk j hj] at h3
   exact h3
  refine ⟨.ref (s.heap.objs.size+1),_,I.laid (t':=s.toks) (o:=.lst (zcC ts')) hk (Nat.le_succ _) ⟨?_,_,n,zev ts',?_⟩,rfl,q _ ts' e0 p1 srt⟩
  ·unfold zcC
   rw [List.length_map,p1.length_eq]
   exact zbK (by omega)
  ·rw [hl,eo]
end
end L2
namespace L2
open PySem PySem.Spec PyProof.Rows
section
variable {X:Cx}
end
end L2
namespace L2
open PySem PySem.Spec PyProof.Rows
section
variable {X:Cx} {e st:Expr} {te tst:TE} {pos p2:Pos}
end
end L2
namespace L2
open PySem PySem.Spec PyProof.Rows
section
variable {X:Cx} (K:PySem.W.Frag) (hK:X.K=K)
include hK
theorem zaM:IxR X (rIxL K):=by subst hK;exact zoz
theorem zdG:IxR X (rIxT K):=by subst hK;exact znl
theorem zms:SlR X (rSlL K):=by subst hK;exact znW
theorem znQ:OpR X (compareOp .In) (rIn K false):=by subst hK;exact zla
theorem keqD (hu:X.A.units+64 < cLine):OpR X (compareOp .Eq) (rEqD K false):=by subst hK;exact zrR hu
theorem kneD (hu:X.A.units+64 < cLine):OpR X (compareOp .NotEq) (rEqD K true):=by subst hK;exact zoO hu
def rLen (K:PySem.W.Frag):List V->Hp->VK->Prop:=fun xs H Q=>∃ p ys,xs=[.ref p]/\(SqL K H p ys\/SqT K H p ys)/\Q (.int ys.length) H
theorem zdj:zcW X (.builtin "len") (rLen K):=by subst hK;exact zhJ
def znM (K:PySem.W.Frag):List V->Hp->VK->Prop:=fun xs H Q=>∃ p ys,xs=[.ref p]/\(SqL K H p ys\/SqT K H p ys)/\∀ l,H l=none->Q (.ref l) (upd H l (.lst ys))
theorem zdd:zcW X (.type "list") (znM K):=by subst hK;exact zgV
def znC (K:PySem.W.Frag):List V->Hp->VK->Prop:=fun xs H Q=>∃ p ts,xs=[.ref p]/\SqL K H p (zcC ts)/\(∀ t ∈ ts,SqT K H t.1 (t.2.map V.int)/\t.2 ≠ [])/\ts.length < 64 /\
 ∀ (l:Addr) (ts':List TI2),H l=none->ts'.Perm ts->ts'.Pairwise (fun a b=>HT.zbc b.2 a.2=false)->Q (.ref l) (upd H l (.lst (zcC ts')))
theorem zod:zcW X (.builtin "sorted") (znC K):=by subst hK;exact zim
theorem zbi {tg l:Expr} {tl:TE} (hl:PE X l tl):PI X tg l (zpE K tl):=by subst hK;exact znS hl
theorem zcE {es:List Expr} {k1:Nat} {tp:Pos} {e:Expr} {ta:TA} {p pos:Pos} (hg:Gl X "enumerate") (hm:X.mg "enumerate"=none) (ha:PA X [e] ta) (hs:starEach [e] X.env=(false,eval e X.env) :: starEach [] X.env:=by rfl) :
 PI X (.Tuple es k1 tp) (.Call (.Name "enumerate" p) [e] [] pos) (zqn K ta):=by subst hK;exact znR hg hm ha hs
theorem zbB {es:List Expr} {k:Nat} {t:TGs} {n:Nat} {pos:Pos} (hc:X.calm=true) (h:PGs X es t) (hn:(assignEach es X.env).length=n:=by rfl) (hst:(assignEach es X.env).findIdx? (·.1)=none:=by rfl) :
 PG X (.Tuple es k pos) (gTup K n t):=by subst hK;exact zqH hc h hn hst
theorem zbD {o e:Expr} {es:List Expr} {to:TE} {t:TA} {name:Str} {apos cpos:Pos} {T id:String} {r:V->List V->Hp->VK->Prop} (pa:PlainAttrs T) (slot:Slot T name id) (hty:typeOf (.builtin id)=pure (.type "method_descriptor")) (hm:MtR X id r) (ho:PE X o to) (ha:PA X (e :: es) t)
 (hbase:attributeBase o name X.env (eval o X.env)=eval o X.env:=by rfl)
 (hfew:((backTo cpos (starEach (e :: es) X.env)).all (fun x=>!x.1) && (backToKw cpos (keywordEach [] X.env)).all (fun x=>x.1.isSome)
   && decide ((e :: es).length+([]:List Keyword).length+(if ([]:List Keyword).isEmpty then 0 else 1) < 30))=true:=by rfl)
 (hline:(apos.endLine == cpos.line)=true:=by rfl) (hs:starEach (e :: es) X.env=(false,eval e X.env) :: starEach es X.env:=by rfl) (hplain:(backTo cpos (starEach es X.env)).any (·.1)=false:=by rfl) :
 PE X (.Call (.Attribute o name apos) (e :: es) [] cpos) (tBM K T r to t):=by subst hK;exact ztO pa slot hty hm ho ha hbase hfew hline hs hplain
end
section
variable {X:Cx}
end
end L2
namespace Mt
open PySem
def has (t o:Int):Bool:=decide (∀ k:Nat,k < 7->o / 2 ^ k % 2<=t / 2 ^ k % 2)
theorem zgy (n k:Nat):((n:Int) / 2 ^ k % 2)=((n / 2 ^ k % 2:Nat):Int):=by
 have e:((2:Int) ^ k)=((2 ^ k:Nat):Int):=by rw [Int.natCast_pow];rfl
 rw [e]
 omega
theorem zmz (t o:Nat) (ho:o < 128):(t &&& o)=o ↔ ∀ k:Nat,k < 7->o / 2 ^ k % 2<=t / 2 ^ k % 2:=by
 constructor
 ·intro h k _
  have e:(t &&& o).testBit k=o.testBit k:=by rw [h]
  rw [Nat.testBit_and,Nat.testBit_eq_decide_div_mod_eq,Nat.testBit_eq_decide_div_mod_eq] at e
  have h1:o / 2 ^ k % 2 < 2:=Nat.mod_lt _ (by decide)
  have h2:t / 2 ^ k % 2 < 2:=Nat.mod_lt _ (by decide)
  by_cases c:o / 2 ^ k % 2=1
  ·by_cases d:t / 2 ^ k % 2=1
   ·omega
   ·rw [decide_eq_true c,decide_eq_false d] at e
    cases e
  ·omega
 ·intro h
  apply Nat.eq_of_testBit_eq
  intro k
  rw [Nat.testBit_and,Nat.testBit_eq_decide_div_mod_eq,Nat.testBit_eq_decide_div_mod_eq]
  by_cases c:o / 2 ^ k % 2=1
  ·by_cases hk:k < 7
   ·have:=h k hk
    have h2:t / 2 ^ k % 2 < 2:=Nat.mod_lt _ (by decide)
    rw [decide_eq_true c,decide_eq_true (by omega)]
    rfl
   ·have e:o / 2 ^ k=0:=by
     apply Nat.div_eq_of_lt
     exact Nat.lt_of_lt_of_le ho (Nat.le_trans (show 128<=2 ^ 7 by decide) (Nat.pow_le_pow_right (by decide) (by omega)))
    rw [e] at c
    cases c
  ·rw [decide_eq_false c,Bool.and_false]
theorem zlw {t o:Int} (ht:0<=t) (h0:0<=o) (h1:o < 128):decide (Builtin.bitAnd t o=o)=has t o:=by
 obtain ⟨a,rfl⟩:=Int.eq_ofNat_of_zero_le ht
 obtain ⟨b,rfl⟩:=Int.eq_ofNat_of_zero_le h0
 rw [PyProof.Rows.bitAnd_pp ht h0]
 unfold has
 rw [Int.toNat_natCast,Int.toNat_natCast]
 have q:=zmz a b (by omega)
 have e:(∀ k:Nat,k < 7->(b:Int) / 2 ^ k % 2<=(a:Int) / 2 ^ k % 2) ↔ ∀ k:Nat,k < 7->b / 2 ^ k % 2<=a / 2 ^ k % 2:=by
  constructor
  ·intro h k hk
   have:=h k hk
   rw [zgy,zgy] at this
   omega
  ·intro h k hk
   rw [zgy,zgy]
   have:=h k hk
   omega
 rw [decide_eq_decide,e,<- q]
 omega
theorem zgh (t:Int):has t t=true:=decide_eq_true fun _ _=>Int.le_refl _
end Mt
namespace Mt
open PySem L2
def zbq (cs:List Int) (t:Int):Option Nat:=cs.findIdx? fun c=>has c t
def optV:Option Nat->V
 | none=>.non
 | some i=>.int i
theorem zfL {cs:List Int} {t:Int} {i:Nat} {c:Int} (h:cs[i]?=some c) (hc:has c t=true) (hj:∀ (j:Nat) c',j < i->cs[j]?=some c'->has c' t=false):zbq cs t=some i:=by
 obtain ⟨hi,e⟩:=List.getElem?_eq_some_iff.mp h
 unfold zbq
 rw [List.findIdx?_eq_some_iff_getElem]
 refine ⟨hi,by rw [e];exact hc,fun j hji=>?_⟩
 rw [hj j cs[j] hji (List.getElem?_eq_getElem (by omega))]
 exact Bool.false_ne_true
theorem zkn {cs:List Int} {t:Int} (hj:∀ (j:Nat) c',j < cs.length->cs[j]?=some c'->has c' t=false):zbq cs t=none:=by
 unfold zbq
 rw [List.findIdx?_eq_none_iff]
 intro c hc
 obtain ⟨j,hjl,e⟩:=List.getElem_of_mem hc
 exact hj j c hjl (by rw [List.getElem?_eq_getElem hjl,e])
end Mt
namespace Mt
open PySem L2
def zsF (H:Hp) (x:V) (p:Nat × Option Nat):Prop:=∃ t,x=.ref t/\H t=some (.tup [.int p.1,optV p.2])
theorem zsF.same {H H':Hp} {x:V} {p:Nat × Option Nat} (h:zsF H x p) (s:Same H H'):zsF H' x p:=let ⟨t,e,h⟩:=h;⟨t,e,s _ _ h⟩
end Mt
namespace Mt
open PySem L2
def pc (c:Int):Int:=(([1,2,4,8,16,32,64]:List Int).map fun b=>c / b % 2).sum
def rk (c:Int):List Int:=[pc c,c]
end Mt
namespace Mt
open PySem L2
def ztn (rs:List Int):Prop:=rs.Pairwise fun a b=>HT.zbc (rk b) (rk a)=false
theorem lex2 {a b c d:Int}:HT.zbc [a,b] [c,d]=true ↔ a < c\/(a=c/\b < d):=by
 show (if a=c then (if b=d then HT.zbc [] [] else decide (b < d)) else decide (a < c))=true ↔ _
 by_cases h:a=c
 ·rw [if_pos h]
  by_cases h2:b=d
  ·rw [if_pos h2]
   exact ⟨fun z=>(nomatch z),fun z=>by omega⟩
  ·rw [if_neg h2,decide_eq_true_iff]
   omega
 ·rw [if_neg h,decide_eq_true_iff]
  omega
theorem zmP {a b:Int} (h:HT.zbc (rk b) (rk a)=false):pc a < pc b\/(pc a=pc b/\a<=b):=by
 have q:¬ (pc b < pc a\/(pc b=pc a/\b < a)):=fun z=>by
  have:=lex2.mpr z
  rw [show HT.zbc [pc b,b] [pc a,a]=false from h] at this
  cases this
 omega
theorem zse (c:Int):pc c=c / 1 % 2+(c / 2 % 2+(c / 4 % 2+(c / 8 % 2+(c / 16 % 2+(c / 32 % 2+(c / 64 % 2+0)))))):=rfl
theorem ziW {t o:Int} (h:has t o=true):o / 1 % 2<=t / 1 % 2/\o / 2 % 2<=t / 2 % 2/\o / 4 % 2<=t / 4 % 2/\o / 8 % 2<=t / 8 % 2/\o / 16 % 2<=t / 16 % 2/\o / 32 % 2<=t / 32 % 2/\o / 64 % 2<=t / 64 % 2:=by
 have h:∀ k:Nat,k < 7->o / 2 ^ k % 2<=t / 2 ^ k % 2:=of_decide_eq_true h
 exact ⟨h 0 (by decide),h 1 (by decide),h 2 (by decide),h 3 (by decide),h 4 (by decide),h 5 (by decide),h 6 (by decide)⟩
theorem zmH:∀ c:Fin 128,(c.val:Int)=(c.val:Int) / 1 % 2+2 * ((c.val:Int) / 2 % 2)+4 * ((c.val:Int) / 4 % 2)+8 * ((c.val:Int) / 8 % 2)+16 * ((c.val:Int) / 16 % 2)+32 * ((c.val:Int) / 32 % 2)+64 * ((c.val:Int) / 64 % 2):=by decide +kernel
theorem zep {c:Int} (h:0<=c/\c < 128):c=c / 1 % 2+2 * (c / 2 % 2)+4 * (c / 4 % 2)+8 * (c / 8 % 2)+16 * (c / 16 % 2)+32 * (c / 32 % 2)+64 * (c / 64 % 2):=by
 have q:=zmH ⟨c.toNat,by omega⟩
 have e:((c.toNat:Nat):Int)=c:=by omega
 simpa only [e] using q
theorem zmT {t o:Int} (ht:0<=t/\t < 128) (ho:0<=o/\o < 128) (h:has t o=true) (hp:pc t<=pc o):t=o:=by
 obtain ⟨a0,a1,a2,a3,a4,a5,a6⟩:=ziW h
 rw [zse,zse] at hp
 have b:=zep ht
 have d:=zep ho
 clear h ht ho
 rw [b,d]
 clear b d
 generalize t / 1 % 2=t0 at *
 generalize t / 2 % 2=t1 at *
 generalize t / 4 % 2=t2 at *
 generalize t / 8 % 2=t3 at *
 generalize t / 16 % 2=t4 at *
 generalize t / 32 % 2=t5 at *
 generalize t / 64 % 2=t6 at *
 generalize o / 1 % 2=o0 at *
 generalize o / 2 % 2=o1 at *
 generalize o / 4 % 2=o2 at *
 generalize o / 8 % 2=o3 at *
 generalize o / 16 % 2=o4 at *
 generalize o / 32 % 2=o5 at *
 generalize o / 64 % 2=o6 at *
 obtain rfl:t0=o0:=by omega
 obtain rfl:t1=o1:=by omega
 obtain rfl:t2=o2:=by omega
 obtain rfl:t3=o3:=by omega
 obtain rfl:t4=o4:=by omega
 obtain rfl:t5=o5:=by omega
 obtain rfl:t6=o6:=by omega
 rfl
theorem ziD {rs:List Int} (hn:rs.Nodup) (hb:∀ c ∈ rs,0<=c/\c < 128) (hr:ztn rs) {i:Nat} {c:Int} (hi:rs[i]?=some c):zbq rs c=some i:=by
 refine zfL hi (zgh c) fun j c' hj hc'=>?_
 cases e:has c' c with
 | false=>rfl
 | true =>
   exfalso
   obtain ⟨hi',ei⟩:=List.getElem?_eq_some_iff.mp hi
   obtain ⟨hj',ej⟩:=List.getElem?_eq_some_iff.mp hc'
   have h1:=zmP (List.pairwise_iff_getElem.mp hr j i hj' hi' hj)
   rw [ei,ej] at h1
   have h2:=zmT (hb c' (List.mem_of_getElem? hc')) (hb c (List.mem_of_getElem? hi)) e (by omega)
   have h3:=List.pairwise_iff_getElem.mp hn j i hj' hi' hj
   rw [ei,ej] at h3
   exact h3 h2
end Mt
namespace L2
open PySem PySem.Spec PyProof.Rows
section
variable {X:Cx} {pins:List (Addr × Obj)} {σ:St} {H:Hp} {s:Shared} {h':Heap}
end
section
variable {X:Cx} {k:Nat} {f:Addr} {fd:FuncData} {ps:List Str} {sp:Sp}
theorem zhl:∀ {xs:List V} {us:List Value} {j:Nat} {u:Value},Vals xs us->us[j]?=some u->∃ v,xs[j]?=some v/\RelV v u
 | _,_,_,_,.nil,e=>by simp at e
 | _,_,0,_,.cons r _,e=>by simp at e;subst e;exact ⟨_,rfl,r⟩
 | _,_,j+1,u,.cons _ t,e=>by
   obtain ⟨v,h1,h2⟩:=zhl (j:=j) (u:=u) t (by simpa using e)
   exact ⟨v,by simpa using h1,h2⟩
end
end L2
namespace L2
open PySem PySem.Spec PyProof.Rows
section
variable {X:Cx} (K:PySem.W.Frag) (hK:X.K=K)
include hK
end
end L2
namespace L2
open PySem PySem.Spec PyProof.Rows
end L2
namespace L2
open PySem PySem.Spec PyProof.Rows
section
variable {X:Cx}
end
section
variable {X:Cx} (K:PySem.W.Frag) (hK:X.K=K)
include hK
end
end L2
namespace L2
open PySem PySem.Spec PyProof.Rows
end L2
namespace Mt
open PySem L2
def Fit (cs:List Int):Prop:=∀ (j k:Nat) c d,j < k->cs[j]?=some c->cs[k]?=some d->has c d=false
theorem zjJ {cs:List Int} {t:Int} {i:Nat} (h:zbq cs t=some i):(∃ c,cs[i]?=some c/\has c t=true)/\∀ (j:Nat) c,j < i->cs[j]?=some c->has c t=false:=by
 unfold zbq at h
 obtain ⟨hi,h1,h2⟩:=List.findIdx?_eq_some_iff_getElem.mp h
 refine ⟨⟨cs[i],List.getElem?_eq_getElem hi,h1⟩,fun j c hj hc=>?_⟩
 obtain ⟨hj',e⟩:=List.getElem?_eq_some_iff.mp hc
 have:=h2 j hj
 rw [e] at this
 cases q:has c t with
 | false=>rfl
 | true=>exact absurd q this
theorem zjE {cs:List Int} {t:Int} {i:Nat} {c:Int} (h:cs[i]?=some c) (hc:has c t=true):∃ j,zbq cs t=some j/\j<=i:=by
 cases q:zbq cs t with
 | none =>
   unfold zbq at q
   rw [List.findIdx?_eq_none_iff] at q
   have:=q c (List.mem_of_getElem? h)
   rw [hc] at this
   cases this
 | some j =>
   refine ⟨j,rfl,?_⟩
   by_cases z:j<=i
   ·exact z
   ·have:=(zjJ q).2 i c (by omega) h
    rw [hc] at this
    cases this
end Mt
namespace L2
open PySem PySem.Spec PyProof.Rows
def sg (c:Nat):Str:=⟨#[c]⟩
section
variable {X:Cx} {tg:Expr}
end
section
variable {X:Cx}
theorem zfQ:∀ {ys:List Str} {us:List Value},Vals (ys.map V.str) us->StrsAre us ys
 | [],_,r=>by cases r;exact .nil
 | y :: ys,_,r=>by
   cases r with
   | cons r1 r2 =>
     obtain ⟨t,rfl⟩:=r1
     exact .cons y t (zfQ r2)
def ztd (K:PySem.W.Frag):V->List V->Hp->VK->Prop:=fun x xs H Q=>∃ (z:Str) (p:Addr) (ys:List Str),x=.str z/\xs=[.ref p]/\SqL K H p (ys.map V.str)/\(ys.map (·.length)).sum+ys.length * z.length<=16777216/\Q (.str (Txt.join z ys)) H
theorem znG:MtR X "str.join" (ztd X.K):=by
 intro pins s σ H x xs v us Q I rx rs h
 obtain ⟨z,p,ys,rfl,rfl,hq,hb,q⟩:=h
 obtain ⟨t,rfl⟩:=rx
 obtain ⟨u,rfl,ru⟩:=zfA rs
 cases ru
 obtain ⟨its,rv,pl,hz⟩:=I.list hq
 exact join_list pl.isList (by simpa using zfQ rv) hb fun t' k=>⟨.str _,H,I.tok _,⟨_,rfl⟩,q⟩
def rAll (K:PySem.W.Frag):List V->Hp->VK->Prop:=fun xs H Q=>∃ (p:Addr) (bs:List Bool),xs=[.ref p]/\SqL K H p (bs.map V.bl)/\Q (.bl (bs.all id)) H
theorem zmR (hc:X.calm=true):zcW X (.builtin "all") (rAll X.K):=by
 intro pins s σ H xs us Q I r h
 obtain ⟨p,bs,rfl,hq,q⟩:=h
 obtain ⟨u,rfl,ru⟩:=zfA r
 cases ru
 obtain ⟨its,rv,pl,hz⟩:=I.list hq
 have hl:its.length=bs.length:=by rw [<- rv.length,List.length_map]
 obtain ⟨ol,hol,hoc⟩:=id pl.isList
 have hlt:p < s.heap.objs.size:=Heap.lt_size hol
 refine call_all_walk (wpAny_pyIter_list pl.isList ?_)
 refine ⟨s.heap.objs.size,_,_,_,_,_,fun i=>bs.getD i false,rfl,Walks.list (A:=X.A.in1) (I.ok.hd hc) s.heap.objs.size p (Nat.ne_of_lt hlt) its.toArray,⟨⟨_,Heap.get?_push_size _ rfl,rfl,rfl⟩,ol,Heap.get?_push_of_some _ hol,hoc⟩,fun i v s' Q' E' hv hQ=>?_,fun h' tk hk=>?_⟩
 ·have hv':its[i]?=some v:=by simpa using hv
  obtain ⟨y,hy,ry⟩:=zhl rv hv'
  rw [List.getElem?_map] at hy
  cases e:bs[i]? with
  | none=>rw [e] at hy;cases hy
  | some b =>
    rw [e] at hy
    have hy':V.bl b=y:=Option.some.inj hy
    subst hy'
    cases ry
    have hQ:Q' (bs.getD i false) s':=hQ
    rw [List.getD_eq_getElem?_getD,e] at hQ
    exact wpAny_truthy_bool hQ
 ·have e:(List.range its.toArray.size).all (fun i=>bs.getD i false)=bs.all id:=by
   rw [List.size_toArray,hl,Bool.eq_iff_iff,List.all_eq_true,List.all_eq_true]
   constructor
   ·intro h b hb
    obtain ⟨i,hi,e⟩:=List.getElem_of_mem hb
    have:=h i (List.mem_range.mpr hi)
    rw [List.getD_eq_getElem?_getD,List.getElem?_eq_getElem hi,e] at this
    exact this
   ·intro h i hi
    have hi:=List.mem_range.mp hi
    rw [List.getD_eq_getElem?_getD,List.getElem?_eq_getElem hi]
    exact h _ (List.getElem_mem hi)
  rw [e]
  exact ⟨.bl _,H,I.kept (fun b o e=>hk b o (by simp;exact Nat.ne_of_lt (Heap.lt_size e)) (Heap.get?_push_of_some _ e)),rfl,q⟩
end
section
variable {X:Cx} (K:PySem.W.Frag) (hK:X.K=K)
include hK
theorem kall (hc:X.calm=true):zcW X (.builtin "all") (rAll K):=by subst hK;exact zmR hc
theorem zeF:MtR X "str.join" (ztd K):=by subst hK;exact znG
end
end L2
namespace Cs
open PySem L2
structure Row where
 s:Str
 w:Int
 t:Int
 n:Int
abbrev rowV (r:Row):List V:=[.str r.s,.int r.w,.int r.t,.int r.n]
def zce (H:Hp) (v:V) (r:Row):Prop:=∃ a,v=.ref a/\H a=some (.tup (rowV r))
theorem zce.same {H H':Hp} {v:V} {r:Row} (h:zce H v r) (s:Same H H'):zce H' v r:=let ⟨a,e,h⟩:=h;⟨a,e,s _ _ h⟩
theorem zaC {H H':Hp} {xs:List V} {rs:List Row} (h:Paired (zce H) xs rs) (s:Same H H'):Paired (zce H') xs rs:=Paired.mapP h fun _ _ z=>z.same s
theorem zdP {H:Hp} {l:Addr} {o ys:HO} {xs:List V} {rs:List Row} (h:Paired (zce H) xs rs) (hl:H l=some ys) (hn:∀ z,ys ≠ .tup z):Paired (zce (upd H l o)) xs rs :=
 Paired.mapP h fun x p ⟨t,e,ht⟩=>⟨t,e,by rw [zai (zcq ht hl fun z=>hn _ z.symm)];exact ht⟩
theorem zbH {H:Hp} {xs:List V} {rs:List Row} (h:Paired (zce H) xs rs):xs.length=rs.length:=Paired.length h
theorem zba {α β:Type} {F:α->β->Prop}:∀ {xs:List α} {ys:List β} {i:Nat} {x:α},Paired F xs ys->xs[i]?=some x->∃ y,ys[i]?=some y/\F x y
 | _,_,_,_,.nil,e=>by simp at e
 | _,_,0,_,.cons r _,e=>by simp at e;subst e;exact ⟨_,rfl,r⟩
 | _,_,i+1,x,.cons _ t,e=>by
   obtain ⟨p,h1,h2⟩:=zba (i:=i) (x:=x) t (by simpa using e)
   exact ⟨p,by simpa using h1,h2⟩
theorem zeh {α β:Type} {F:α->β->Prop}:∀ {xs:List α} {ys:List β} {i:Nat} {y:β},Paired F xs ys->ys[i]?=some y->∃ x,xs[i]?=some x/\F x y
 | _,_,_,_,.nil,e=>by simp at e
 | _,_,0,_,.cons r _,e=>by simp at e;subst e;exact ⟨_,rfl,r⟩
 | _,_,i+1,x,.cons _ t,e=>by
   obtain ⟨p,h1,h2⟩:=zeh (i:=i) (y:=x) t (by simpa using e)
   exact ⟨p,by simpa using h1,h2⟩
def zeV (K:PySem.W.Frag) (H:Hp) (l:Addr) (rs:List Row):Prop:=∃ xs,SqL K H l xs/\Paired (zce H) xs rs
theorem zeV.same {K:PySem.W.Frag} {H H':Hp} {l:Addr} {rs:List Row} (h:zeV K H l rs) (s:Same H H'):zeV K H' l rs:=let ⟨xs,h1,h2⟩:=h;⟨xs,s.seq h1,zaC h2 s⟩
def place (rs:List Row) (x:Str):Option Nat:=rs.findIdx? fun r=>decide (r.s=x)
theorem zfD {rs:List Row} {x:Str} {i:Nat} {r:Row} (h:rs[i]?=some r) (hx:r.s=x) (hj:∀ (j:Nat) r',j < i->rs[j]?=some r'->r'.s ≠ x):place rs x=some i:=by
 obtain ⟨hi,e⟩:=List.getElem?_eq_some_iff.mp h
 unfold place
 rw [List.findIdx?_eq_some_iff_getElem]
 refine ⟨hi,by rw [e];exact decide_eq_true hx,fun j hji=>?_⟩
 have:=hj j rs[j] hji (List.getElem?_eq_getElem (by omega))
 rw [decide_eq_false this]
 exact Bool.false_ne_true
theorem zfS {rs:List Row} {x:Str} (hj:∀ (j:Nat) r,j < rs.length->rs[j]?=some r->r.s ≠ x):place rs x=none:=by
 unfold place
 rw [List.findIdx?_eq_none_iff]
 intro r hr
 obtain ⟨j,hjl,e⟩:=List.getElem_of_mem hr
 exact decide_eq_false (hj j r hjl (by rw [List.getElem?_eq_getElem hjl,e]))
theorem zei {rs:List Row} {x:Str} {i:Nat} (h:place rs x=some i):i < rs.length:=by
 unfold place at h
 obtain ⟨hi,_⟩:=List.findIdx?_eq_some_iff_getElem.mp h
 exact hi
theorem strV {x y:Str}:decide (V.str x=V.str y)=decide (x=y):=by
 rw [decide_eq_decide]
 exact ⟨fun h=>V.str.inj h,fun h=>by rw [h]⟩
def signs:List Nat:="abcdefghijklmnopqrstuvwxyz.,-'".toList.map Char.toNat
theorem zkI:∀ c ∈ signs,PyData.canLay0 (.str (sg c))=true:=by decide +kernel
theorem zok (zs:List Int) (lo hi:Option Int):∃ ms:List Int,cutV (zs.map V.int) lo hi=ms.map V.int/\ms.length<=zs.length:=by
 unfold cutV
 rw [<- List.map_drop,<- List.map_take]
 exact ⟨_,rfl,by rw [List.length_take,List.length_drop];omega⟩
end Cs
namespace L2
open PySem PySem.Spec PyProof.Rows
section
variable {X:Cx}
def eqI (z:Int):Value->Bool
 | .int i _=>i == z
 | _=>false
end
end L2
namespace Mt
open PySem L2
theorem zta {t o:Int} (ht:0<=t/\t < 128) (ho:0<=o/\o < 128) (h:has t o=true):o<=t:=by
 obtain ⟨a0,a1,a2,a3,a4,a5,a6⟩:=ziW h
 have b:=zep ht
 have d:=zep ho
 clear h ht ho
 rw [b,d]
 clear b d
 generalize t / 1 % 2=t0 at *
 generalize t / 2 % 2=t1 at *
 generalize t / 4 % 2=t2 at *
 generalize t / 8 % 2=t3 at *
 generalize t / 16 % 2=t4 at *
 generalize t / 32 % 2=t5 at *
 generalize t / 64 % 2=t6 at *
 omega
end Mt
namespace Mt
open PySem L2
end Mt
namespace Mt
open PySem L2
end Mt
namespace Mt
open PySem L2
theorem znI {x s0 s1 s2 s3 s4 s5 s6:Int} (h:x=s0+(2 * s1+(4 * s2+(8 * s3+(16 * s4+(32 * s5+(64 * s6+0)))))))
 (h0:0<=s0/\s0<=1) (h1:0<=s1/\s1<=1) (h2:0<=s2/\s2<=1) (h3:0<=s3/\s3<=1) (h4:0<=s4/\s4<=1) (h5:0<=s5/\s5<=1) (h6:0<=s6/\s6<=1) :
 x / 1 % 2=s0/\x / 2 % 2=s1/\x / 4 % 2=s2/\x / 8 % 2=s3/\x / 16 % 2=s4/\x / 32 % 2=s5/\x / 64 % 2=s6/\0<=x/\x < 128:=by
 have st:∀ (n r y s t:Int),0 < n->x=r+n * y->0<=r->r < n->y=s+2 * t->0<=s->s<=1->x / n % 2=s:=by
  intro n r y s t hn hx h1 h2 hy h3 h4
  have e:x / n=y:=by
   rw [hx,Int.add_mul_ediv_left _ _ (by omega),Int.ediv_eq_zero_of_lt h1 h2,Int.zero_add]
  rw [e,hy]
  omega
 refine ⟨st 1 0 x s0 (s1+2 * s2+4 * s3+8 * s4+16 * s5+32 * s6) (by omega) (by omega) (by omega) (by omega) (by omega) (by omega) (by omega),
  st 2 s0 (s1+2 * (s2+2 * s3+4 * s4+8 * s5+16 * s6)) s1 _ (by omega) (by omega) (by omega) (by omega) rfl (by omega) (by omega),
  st 4 (s0+2 * s1) (s2+2 * (s3+2 * s4+4 * s5+8 * s6)) s2 _ (by omega) (by omega) (by omega) (by omega) rfl (by omega) (by omega),
  st 8 (s0+2 * s1+4 * s2) (s3+2 * (s4+2 * s5+4 * s6)) s3 _ (by omega) (by omega) (by omega) (by omega) rfl (by omega) (by omega),
  st 16 (s0+2 * s1+4 * s2+8 * s3) (s4+2 * (s5+2 * s6)) s4 _ (by omega) (by omega) (by omega) (by omega) rfl (by omega) (by omega),
  st 32 (s0+2 * s1+4 * s2+8 * s3+16 * s4) (s5+2 * s6) s5 _ (by omega) (by omega) (by omega) (by omega) rfl (by omega) (by omega),
  st 64 (s0+2 * s1+4 * s2+8 * s3+16 * s4+32 * s5) (s6+2 * 0) s6 _ (by omega) (by omega) (by omega) (by omega) rfl (by omega) (by omega),by omega,by omega⟩
def zmI:List Int:=[1,2,4,8,16,32,64]
def zaH (a c:Int):Int:=(zmI.filter fun b=>decide (a / b % 2=1) && decide (c / b % 2=0)).sum
theorem two (x:Int):0<=x % 2/\x % 2<=1:=by omega
def sb (p:Bool):Int:=if p then 1 else 0
structure Bits (x:Int) (f:Int->Int):Prop where
 at_:∀ b ∈ zmI,x / b % 2=f b
 lo:0<=x
 hi:x < 128
theorem has_iff {t o:Int}:has t o=true ↔ ∀ b ∈ zmI,o / b % 2<=t / b % 2:=by
 unfold has
 rw [decide_eq_true_iff]
 constructor
 ·intro h b hb
  simp only [zmI,List.mem_cons,List.not_mem_nil,or_false] at hb
  rcases hb with rfl | rfl | rfl | rfl | rfl | rfl | rfl
  ·exact h 0 (by decide)
  ·exact h 1 (by decide)
  ·exact h 2 (by decide)
  ·exact h 3 (by decide)
  ·exact h 4 (by decide)
  ·exact h 5 (by decide)
  ·exact h 6 (by decide)
 ·intro h k hk
  match k,hk with
  | 0,_=>exact h 1 (by decide)
  | 1,_=>exact h 2 (by decide)
  | 2,_=>exact h 4 (by decide)
  | 3,_=>exact h 8 (by decide)
  | 4,_=>exact h 16 (by decide)
  | 5,_=>exact h 32 (by decide)
  | 6,_=>exact h 64 (by decide)
theorem lin7 {a x a0 a1 a2 a3 a4 a5 a6 x0 x1 x2 x3 x4 x5 x6:Int} (ha:a=a0+2 * a1+4 * a2+8 * a3+16 * a4+32 * a5+64 * a6) (hx:x=x0+2 * x1+4 * x2+8 * x3+16 * x4+32 * x5+64 * x6) :
 a - x=(a0 - x0)+(2 * (a1 - x1)+(4 * (a2 - x2)+(8 * (a3 - x3)+(16 * (a4 - x4)+(32 * (a5 - x5)+(64 * (a6 - x6)+0)))))):=by omega
theorem dif2 {p q:Int} (hp:0<=p/\p<=1) (hq:0<=q/\q<=1) (h:q<=p):0<=p - q/\p - q<=1:=by omega
theorem znZ {a x:Int} (ha:0<=a/\a < 128) (hx:0<=x/\x < 128) (h:has a x=true):Bits (a - x) (fun b=>a / b % 2 - x / b % 2):=by
 have q:=has_iff.mp h
 have q0:=q 1 (by decide)
 have q1:=q 2 (by decide)
 have q2:=q 4 (by decide)
 have q3:=q 8 (by decide)
 have q4:=q 16 (by decide)
 have q5:=q 32 (by decide)
 have q6:=q 64 (by decide)
 have ba:=zep ha
 have bx:=zep hx
 have e:=lin7 ba bx
 have bd:∀ b:Int,x / b % 2<=a / b % 2->0<=a / b % 2 - x / b % 2/\a / b % 2 - x / b % 2<=1:=fun b hb=>dif2 (two _) (two _) hb
 obtain ⟨r0,r1,r2,r3,r4,r5,r6,l,hh⟩:=znI e (bd 1 q0) (bd 2 q1) (bd 4 q2) (bd 8 q3) (bd 16 q4) (bd 32 q5) (bd 64 q6)
 refine ⟨fun b hb=>?_,l,hh⟩
 simp only [zmI,List.mem_cons,List.not_mem_nil,or_false] at hb
 rcases hb with rfl | rfl | rfl | rfl | rfl | rfl | rfl
 ·exact r0
 ·exact r1
 ·exact r2
 ·exact r3
 ·exact r4
 ·exact r5
 ·exact r6
theorem zlq {a x:Int} (ha:0<=a/\a < 128) (hx:0<=x/\x < 128) (h:has a x=true):has a (a - x)=true/\0<=a - x/\a - x < 128:=by
 have B:=znZ ha hx h
 refine ⟨has_iff.mpr fun b hb=>?_,B.lo,B.hi⟩
 rw [B.at_ b hb]
 have:=two (x / b)
 show a / b % 2 - x / b % 2<=_
 omega
end Mt
namespace L2
open PySem PySem.Spec PyProof.Rows
section
variable {κ:Type} [DecidableEq κ]
def valV (kvs:List (κ × V)) (k:κ):Option V:=(kvs.find? fun kv=>decide (kv.1=k)).map (·.2)
def putK (kvs:List (κ × V)) (k:κ) (v:V):List (κ × V) :=
 if (kvs.any fun kv=>decide (kv.1=k))=true then kvs.map (fun kv=>if kv.1=k then (kv.1,v) else kv) else kvs++[(k,v)]
def zql (kvs:List (κ × V)) (k:κ):List (κ × V):=kvs.filter fun kv=>decide (kv.1 ≠ k)
theorem RelO.getD {o:Option V} {u:Option Value} {d:V} {d':Value} (r:RelO o u) (rd:RelV d d'):RelV (o.getD d) (u.getD d'):=by
 cases o with
 | none=>cases u with
   | none=>exact rd
   | some _=>exact (show False from r).elim
 | some _=>cases u with
   | none=>exact (show False from r).elim
   | some _=>exact r
theorem KV.any {kvs:List (κ × V)} {vs:List (κ × Value)} (r:KV kvs vs) (k:κ):(kvs.any fun kv=>decide (kv.1=k))=vs.any fun kv=>decide (kv.1=k):=by
 unfold KV at r
 induction r with
 | nil=>rfl
 | cons h t ih=>rw [List.any_cons,List.any_cons,ih,h.1]
theorem KV.drop {kvs:List (κ × V)} {vs:List (κ × Value)} (r:KV kvs vs) (k:κ):KV (zql kvs k) (without vs k):=by
 unfold KV at r ⊢
 unfold zql without
 induction r with
 | nil=>exact .nil
 | @cons p q ps qs h t ih =>
   obtain ⟨h1,h2⟩:=h
   rw [List.filter_cons,List.filter_cons]
   by_cases e:p.1=k
   ·have a:¬ decide (p.1 ≠ k)=true:=by simp [e]
    have b:¬ decide (q.1 ≠ k)=true:=by simp [h1.symm.trans e]
    rw [if_neg a,if_neg b];exact ih
   ·have e':¬ q.1=k:=fun z=>e (h1.trans z)
    have a:decide (p.1 ≠ k)=true:=by simp [e]
    have b:decide (q.1 ≠ k)=true:=by simp [e']
    rw [if_pos a,if_pos b];exact .cons ⟨h1,h2⟩ ih
theorem KV.keys {kvs:List (κ × V)} {vs:List (κ × Value)} (r:KV kvs vs):kvs.map (·.1)=vs.map (·.1):=by
 unfold KV at r
 induction r with
 | nil=>rfl
 | cons h t ih=>rw [List.map_cons,List.map_cons,ih,h.1]
theorem KV.length {kvs:List (κ × V)} {vs:List (κ × Value)} (r:KV kvs vs):kvs.length=vs.length:=Paired.length r
end
abbrev KT (H:Hp):List (List Key × V)->List (List Key × Addr × Value)->Prop:=Paired fun p q=>p.1=q.1/\H q.2.1=some (.tup (p.1.map kV))/\RelV p.2 q.2.2
theorem KT.keeps {H H':Hp} {kvs:List (List Key × V)} {xs:List (List Key × Addr × Value)} (r:KT H kvs xs) (ht:∀ b ys,H b=some (.tup ys)->H' b=some (.tup ys)):KT H' kvs xs :=
 Paired.mapP r fun _ _ z=>⟨z.1,ht _ _ z.2.1,z.2.2⟩
section
variable {P:Program} {w:World} {H:Hp} {h:Heap} {a:Addr}
end
def DGet (H:Hp) (a:Addr) (y:V) (r:Option V):Prop :=
 (∃ kvs k,Rd H a (.dK kvs)/\y=kV k/\r=valV kvs k)\/∃ kvs k b,Rd H a (.dT kvs)/\y=.ref b/\H b=some (.tup (k.map kV))/\r=valV kvs k
def DPut (H:Hp) (a:Addr) (y v:V) (H':Hp):Prop :=
 (∃ kvs k,H a=some (.dK kvs)/\y=kV k/\kvs.length < sizeLine/\H'=upd H a (.dK (putK kvs k v))) \/
 ∃ kvs k b,H a=some (.dT kvs)/\y=.ref b/\H b=some (.tup (k.map kV))/\kvs.length < sizeLine/\H'=upd H a (.dT (putK kvs k v))
theorem DGet.k {H:Hp} {a:Addr} {kvs:List (Key × V)} {k:Key} (e:H a=some (.dK kvs)):DGet H a (kV k) (valV kvs k):=.inl ⟨kvs,k,.inl e,rfl,rfl⟩
theorem DGet.t {H:Hp} {a b:Addr} {kvs:List (List Key × V)} {k:List Key} (e:H a=some (.dT kvs)) (eb:H b=some (.tup (k.map kV))):DGet H a (.ref b) (valV kvs k):=.inr ⟨kvs,k,b,.inl e,rfl,eb,rfl⟩
theorem DPut.k {H:Hp} {a:Addr} {kvs:List (Key × V)} {k:Key} {v:V} (e:H a=some (.dK kvs)) (hl:kvs.length < sizeLine):DPut H a (kV k) v (upd H a (.dK (putK kvs k v))):=.inl ⟨kvs,k,e,rfl,hl,rfl⟩
theorem DPut.t {H:Hp} {a b:Addr} {kvs:List (List Key × V)} {k:List Key} {v:V} (e:H a=some (.dT kvs)) (eb:H b=some (.tup (k.map kV))) (hl:kvs.length < sizeLine) :
 DPut H a (.ref b) v (upd H a (.dT (putK kvs k v))):=.inr ⟨kvs,k,b,e,rfl,eb,hl,rfl⟩
section
variable {X:Cx} {pins:List (Addr × Obj)} {σ:St} {H:Hp} {s:Shared} {a:Addr} {y v:V} {u r:Value} {o:Option V} {A:Around} {E:Value->Shared->Prop}
end
section
variable {X:Cx} {pins:List (Addr × Obj)} {σ:St} {H:Hp} {s:Shared} {a:Addr} {kvs:List (Key × V)} {k:Key} {u:Value} {A:Around} {E:Value->Shared->Prop}
end
section
variable {X:Cx} {o i e value:Expr} {pos pos' tpos:Pos} {td ty tv:TE}
end
section
variable {X:Cx} {pos:Pos}
end
structure M1 (X:Cx) (o:Expr) (m:Str) (apos:Pos) (e:Expr) (cpos:Pos):Prop where
 base:attributeBase o m X.env (eval o X.env)=eval o X.env
 few:((backTo cpos (starEach [e] X.env)).all (fun x=>!x.1) && (backToKw cpos (keywordEach [] X.env)).all (fun x=>x.1.isSome)
  && decide (([e]:List Expr).length+([]:List Keyword).length+(if ([]:List Keyword).isEmpty then 0 else 1) < 30))=true
 line:(apos.endLine == cpos.line)=true
 trees:backTo cpos (starEach [e] X.env)=[(false,eval e X.env)]
structure M2 (X:Cx) (o:Expr) (m:Str) (apos:Pos) (e f:Expr) (cpos:Pos):Prop where
 base:attributeBase o m X.env (eval o X.env)=eval o X.env
 few:((backTo cpos (starEach [e,f] X.env)).all (fun x=>!x.1) && (backToKw cpos (keywordEach [] X.env)).all (fun x=>x.1.isSome)
  && decide (([e,f]:List Expr).length+([]:List Keyword).length+(if ([]:List Keyword).isEmpty then 0 else 1) < 30))=true
 line:(apos.endLine == cpos.line)=true
 trees:backTo cpos (starEach [e,f] X.env)=[(false,eval e X.env),(false,eval f X.env)]
section
variable {X:Cx} {pins:List (Addr × Obj)} {σ:St} {H:Hp} {s:Shared} {a:Addr} {y d:V} {u r:Value} {o:Option V} {A:Around} {E:Value->Shared->Prop}
end
section
variable {X:Cx} {o e f:Expr} {apos cpos:Pos} {td ty tx:TE}
end
section
variable {X:Cx} {pins:List (Addr × Obj)} {σ:St} {H:Hp} {s:Shared} {a:Addr} {kvs:List (Key × V)} {A:Around} {E:Value->Shared->Prop}
end
section
variable {X:Cx} {pins:List (Addr × Obj)} {σ:St} {H:Hp} {s:Shared} {a:Addr} {y:V} {u:Value} {A:Around} {E:Value->Shared->Prop}
end
end L2
namespace L2
open PySem PySem.Spec PyProof.Rows
section
variable {X:Cx}
end
section
variable {κ:Type} [DecidableEq κ]
end
end L2
namespace Cs
open PySem L2
theorem zdM {rs:List Row} {x:Str} {k:Nat} (h:place rs x=some k):∃ r,rs[k]?=some r/\r.s=x:=by
 unfold place at h
 obtain ⟨hi,h1,_⟩:=List.findIdx?_eq_some_iff_getElem.mp h
 exact ⟨rs[k],List.getElem?_eq_getElem hi,of_decide_eq_true h1⟩
end Cs
namespace L2
open PySem
end L2
namespace L2
open PySem PySem.Spec PyProof.Rows
def zny (g:Nat->Int) (n:Nat) (m:Int):Prop:=(∃ i,i < n/\g i=m)/\∀ i,i < n->m<=g i
theorem zny.one {g:Nat->Int}:zny g 1 (g 0):=⟨⟨0,by omega,rfl⟩,fun i hi=>by
 have e:i=0:=by omega
 subst e
 exact Int.le_refl _⟩
theorem zny.no {g:Nat->Int} {n:Nat} {m:Int} (h:zny g n m) (hl:¬ g n < m):zny g (n+1) m:=⟨by obtain ⟨i,hi,e⟩:=h.1;exact ⟨i,by omega,e⟩,fun i hi=>by
 by_cases e:i=n
 ·subst e;omega
 ·exact h.2 i (by omega)⟩
section
variable {P:Program} {w:World} {A:Around} {R:Result->Shared->Prop} {it:Addr} {fp wr:List Addr} {n:Nat} {Pr:Nat->Value->Prop} {St:Nat->Heap->Prop}
end
section
variable {P:Program} {w:World} {A:Around} {E:Value->Shared->Prop} {s:Shared}
end
section
variable {X:Cx}
end
section
variable {X:Cx} (K:PySem.W.Frag) (hK:X.K=K)
include hK
end
end L2
namespace L2
open PySem PySem.Spec PyProof.Rows
section
variable {X:Cx} {a b:Expr} {rest:List Expr} {pos:Pos} {ta tb:TE}
end
section
variable {X:Cx} {a b:Expr} {rest:List Expr} {pos:Pos} {ta tb:TE} (K:PySem.W.Frag) (hK:X.K=K)
include hK
end
end L2
namespace Ln
open PySem L2
def abc:List Nat:=[97,98,99,100,101,102]
theorem zog:∀ c ∈ abc,PyData.canLay0 (.str (sg c))=true:=by decide +kernel
theorem zsL:(abc.map sg).Nodup:=by decide +kernel
structure AbcCase (rs:List Cs.Row):Prop where
 sg:(rs.map fun r=>r.s)=abc.map sg
 wd:∀ r ∈ rs,1<=r.w/\r.w<=100
theorem AbcCase.len {rs:List Cs.Row} (h:AbcCase rs):rs.length=6:=by
 have:=congrArg List.length h.sg
 rwa [List.length_map,List.length_map] at this
theorem AbcCase.nd {rs:List Cs.Row} (h:AbcCase rs):(rs.map fun r=>r.s).Nodup:=by rw [h.sg];exact zsL
theorem AbcCase.place {rs:List Cs.Row} (h:AbcCase rs) {c:Nat} (hc:c ∈ abc):(Cs.place rs (L2.sg c)).isSome=true:=by
 have h1:L2.sg c ∈ rs.map fun r=>r.s:=by rw [h.sg];exact List.mem_map_of_mem hc
 obtain ⟨r,hr,e⟩:=List.mem_map.mp h1
 unfold Cs.place
 rw [List.findIdx?_isSome,List.any_eq_true]
 exact ⟨r,hr,decide_eq_true e⟩
theorem AbcCase.lay {rs:List Cs.Row} (h:AbcCase rs):∀ r ∈ rs,PyData.canLay0 (.str r.s)=true:=fun r hr=>by
 have h1:r.s ∈ rs.map fun r=>r.s:=List.mem_map_of_mem (f:=fun r=>r.s) hr
 rw [h.sg] at h1
 obtain ⟨c,hc,e⟩:=List.mem_map.mp h1
 rw [<- e]
 exact zog c hc
theorem zek {K:PySem.W.Frag} {H:Hp}:∀ {ws:List Str},(∀ x ∈ ws,PyData.canLay0 (.str x)=true)->DenL K H (ws.map V.str) (ws.map PyData.str)
 | [],_=>.nil
 | x :: ws,h=>.cons (.str _ (h x List.mem_cons_self)) (zek fun y hy=>h y (List.mem_cons_of_mem _ hy))
end Ln
namespace L2
open PySem PySem.Spec PyProof.Rows
section
variable {X:Cx} {tg:Expr}
end
end L2
namespace L2
open PySem PySem.Spec PyProof.Rows
section
variable {X:Cx} {pins:List (Addr × Obj)} {σ:St} {H:Hp} {s:Shared} {h':Heap}
end
section
variable {X:Cx} {es:List Expr} {k1:Nat} {tp:Pos}
end
end L2
namespace L2
open PySem PySem.Spec PyProof.Rows
section
variable {X:Cx} (K:PySem.W.Frag) (hK:X.K=K)
include hK
end
end L2
namespace Lns
open PySem L2
def zdJ (no:Addr) (H:Hp) (v:V) (ws:List Str):Prop:=∃ p,v=.ref p/\p ≠ no/\H p=some (.lst (ws.map V.str))
theorem zdJ.same {no:Addr} {H H':Hp} {v:V} {ws:List Str} (h:zdJ no H v ws) (s:Same H H'):zdJ no H' v ws:=let ⟨p,e,n,h⟩:=h;⟨p,e,n,s _ _ h⟩
theorem zeo {no:Addr} {H H':Hp} {xs:List V} {ls:List (List Str)} (h:Paired (zdJ no H) xs ls) (s:Same H H'):Paired (zdJ no H') xs ls:=Paired.mapP h fun _ _ z=>z.same s
theorem zhq {no:Addr} {H:Hp} {o:HO} {xs:List V} {ls:List (List Str)} (h:Paired (zdJ no H) xs ls):Paired (zdJ no (upd H no o)) xs ls :=
 Paired.mapP h fun _ _ ⟨p,e,n,z⟩=>⟨p,e,n,by rw [zai n];exact z⟩
theorem zdQ {no:Addr} {H:Hp} {xs:List V} {ls:List (List Str)} (h:Paired (zdJ no H) xs ls):xs.length=ls.length:=Paired.length h
theorem zgf (x:Str):x++("":Str)=x:=by
 show (⟨x.cps++(#[]:Array Nat)⟩:Str)=x
 rw [Array.append_empty]
def zbx (ws:List Str):Str:=Txt.join " " ws
def keyT:List (List Str)->Str
 | []=>""
 | l :: r=>zbx l++"/"++keyT r
theorem zkU (l:List Str):keyT [l]=zbx l++"/":=zgf _
theorem zmA:∀ ls:List (List Str),Txt.join "" (ls.map fun l=>zbx l++"/")=keyT ls:=by
 intro ls
 unfold Txt.join
 rw [StrLaws.glued_eq_join]
 induction ls with
 | nil=>rfl
 | cons l r ih =>
   cases r with
   | nil=>exact (zkU l).symm
   | cons l2 r =>
     show (zbx l++"/")++""++Str.join "" ((l2 :: r).map fun l=>zbx l++"/")=zbx l++"/"++keyT (l2 :: r)
     rw [ih,zgf]
def Fit (ls:List (List Str)):Prop:=ls.length<=100/\∀ l ∈ ls,l.length<=100/\∀ x ∈ l,x.length<=100
theorem ziL {α:Type} (f:α->Nat) (B:Nat):∀ l:List α,(∀ x ∈ l,f x<=B)->(l.map f).sum<=l.length * B
 | [],_=>by simp
 | x :: l,h=>by
   have h1:=h x List.mem_cons_self
   have h2:=ziL f B l fun y hy=>h y (List.mem_cons_of_mem _ hy)
   rw [List.map_cons,List.sum_cons,List.length_cons,Nat.succ_mul]
   omega
theorem zeT {α:Type} (f:α->Nat) (B N:Nat) (l:List α) (h:∀ x ∈ l,f x<=B) (hn:l.length<=N):(l.map f).sum<=N * B :=
 Nat.le_trans (ziL f B l h) (Nat.mul_le_mul_right _ hn)
theorem zjD {l:List Str} (h1:l.length<=100) (h2:∀ x ∈ l,x.length<=100):(l.map (·.length)).sum+l.length * (Str.ofString " ").length<=16777216:=by
 have a:=zeT (fun x:Str=>x.length) 100 100 l h2 h1
 have e:(Str.ofString " ").length=1:=by decide
 rw [e]
 have a:(l.map (·.length)).sum<=100 * 100:=a
 omega
theorem zhj {l:List Str} (h1:l.length<=100) (h2:∀ x ∈ l,x.length<=100):(zbx l).length<=10100:=by
 have a:=zeT (fun x:Str=>x.length) 100 100 l h2 h1
 have a:(l.map (·.length)).sum<=100 * 100:=a
 have b:=StrLaws.join_length_le " " l
 have e:(Str.ofString " ").length=1:=by decide
 unfold zbx Txt.join
 rw [StrLaws.glued_eq_join]
 have b:(Str.join " " l).length<=(l.map (·.length)).sum+l.length * (Str.ofString " ").length:=b
 rw [e] at b
 omega
theorem zjG {ls:List (List Str)} (h:Fit ls):((ls.map fun l=>zbx l++"/").map (·.length)).sum+(ls.map fun l=>zbx l++"/").length * (Str.ofString "").length<=16777216:=by
 rw [List.map_map,List.length_map]
 have a:=zeT ((fun x:Str=>x.length) ∘ fun l=>zbx l++"/") 10101 100 ls (fun l hl=>by
  obtain ⟨h1,h2⟩:=h.2 l hl
  have:=zhj h1 h2
  show (zbx l++"/").length<=10101
  rw [Str.length_append]
  have e:(Str.ofString "/").length=1:=by decide
  have e:("/":Str).length=1:=e
  omega) h.1
 have e:(Str.ofString "").length=0:=by decide
 rw [e]
 have a:(ls.map ((fun x:Str=>x.length) ∘ fun l=>zbx l++"/")).sum<=100 * 10101:=a
 have a:(ls.map ((·.length) ∘ fun l=>zbx l++"/")).sum<=100 * 10101:=a
 omega
end Lns
namespace L2
open PySem PySem.Spec PyProof.Rows PySem.Builtin PySem.Builtin.Str
section
variable {X:Cx}
end
end L2
namespace Lns
open PySem L2
theorem zkx {x y:Str} (h:x.cps.toList=y.cps.toList):x=y:=Str.ext' (Array.toList_inj.mp h)
theorem zdl (x y:Str):(x++y).cps.toList=x.cps.toList++y.cps.toList:=by rw [Str.cps_append,Array.toList_append]
theorem zfC (ws:List Str):zbx ws=Str.join ⟨#[32]⟩ ws:=by
 unfold zbx Txt.join
 rw [StrLaws.glued_eq_join]
 rfl
theorem znc {α:Type} (ini:List α) (last:α):atI (ini++[last]) (-1)=some last:=by
 have h:ixN (ini.length+1) (-1)=some ini.length:=by
  unfold ixN
  rw [if_neg (by omega),if_pos (by omega)]
  congr 1
  omega
 unfold atI
 rw [List.length_append]
 show ((ixN (ini.length+1) (-1)).bind _)=_
 rw [h]
 show (ini++[last])[ini.length]?=_
 rw [List.getElem?_append_right (Nat.le_refl _),Nat.sub_self]
 rfl
def ztA (H0:Hp) (no:Addr) (H:Hp) (v:V) (ws:List Str):Prop:=∃ p,v=.ref p/\p ≠ no/\H0 p=none/\H p=some (.lst (ws.map V.str))
theorem ztA.n {H0:Hp} {no:Addr} {H:Hp} {xs:List V} {ls:List (List Str)} (h:Paired (ztA H0 no H) xs ls):Paired (zdJ no H) xs ls:=Paired.mapP h fun _ _ ⟨p,e,n,_,z⟩=>⟨p,e,n,z⟩
theorem zes {α β:Type} {F:α->β->Prop}:∀ {a c:List α} {b d:List β},Paired F a b->Paired F c d->Paired F (a++c) (b++d)
 | _,_,_,_,.nil,h=>h
 | _,_,_,_,.cons r t,h=>.cons r (zes t h)
def zsO (H0:Hp) (no:Addr) (B:Nat) (H:Hp) (v:V):Prop:=∃ p ws,v=.ref p/\p ≠ no/\H0 p=none/\H p=some (.lst ws)/\ws.length<=B
theorem zsO.same {H0:Hp} {no:Addr} {B:Nat} {H H':Hp} {v:V} (h:zsO H0 no B H v) (s:Same H H'):zsO H0 no B H' v:=let ⟨p,ws,e,n,f,z,b⟩:=h;⟨p,ws,e,n,f,s _ _ z,b⟩
def isS (c:Nat):Bool:=!decide (c=32) && !decide (c=47)
def zaU (rs:List Cs.Row):Bool->List Nat->Bool
 | _,[]=>true
 | p,c :: r=>if isS c=true then (Cs.place rs (sg c)).isSome && zaU rs true r else p && zaU rs false r
def zjj (rs:List Cs.Row) (ks:List Nat) (i:Nat):Bool :=
 match ks[i]? with
 | none=>false
 | some c=>if isS c=true then (Cs.place rs (sg c)).isSome else decide (0 < i) && (match ks[i - 1]? with | none=>false | some d=>isS d)
theorem zju {rs:List Cs.Row}:∀ {ks:List Nat} {p:Bool},zaU rs p ks=true->∀ (i:Nat) c,ks[i]?=some c ->
 if isS c=true then (Cs.place rs (sg c)).isSome=true else (i=0/\p=true)\/∃ j d,i=j+1/\ks[j]?=some d/\isS d=true
 | [],_,_,i,c,h=>by simp at h
 | k :: r,p,ok,0,c,h=>by
   have h:k=c:=by simpa using h
   subst h
   unfold zaU at ok
   by_cases hs:isS k=true
   ·rw [if_pos hs] at ok ⊢
    exact (Bool.and_eq_true_iff.mp ok).1
   ·rw [if_neg hs] at ok ⊢
    exact .inl ⟨rfl,(Bool.and_eq_true_iff.mp ok).1⟩
 | k :: r,p,ok,i+1,c,h=>by
   have h:r[i]?=some c:=by simpa using h
   unfold zaU at ok
   by_cases hs:isS k=true
   ·rw [if_pos hs] at ok
    have ih:=zju (Bool.and_eq_true_iff.mp ok).2 i c h
    by_cases hc:isS c=true
    ·rw [if_pos hc] at ih ⊢
     exact ih
    ·rw [if_neg hc] at ih ⊢
     rcases ih with ⟨rfl,_⟩ | ⟨j,d,rfl,hj,hd⟩
     ·exact .inr ⟨0,k,rfl,rfl,hs⟩
     ·exact .inr ⟨j+1,d,rfl,by simpa using hj,hd⟩
   ·rw [if_neg hs] at ok
    have ih:=zju (Bool.and_eq_true_iff.mp ok).2 i c h
    by_cases hc:isS c=true
    ·rw [if_pos hc] at ih ⊢
     exact ih
    ·rw [if_neg hc] at ih ⊢
     rcases ih with ⟨_,e⟩ | ⟨j,d,rfl,hj,hd⟩
     ·cases e
     ·exact .inr ⟨j+1,d,rfl,by simpa using hj,hd⟩
theorem zom {rs:List Cs.Row} {ks:List Nat} (ok:zaU rs false ks=true) {i:Nat} (hi:i < ks.length):zjj rs ks i=true:=by
 have h:=zju ok i ks[i] (List.getElem?_eq_getElem hi)
 unfold zjj
 rw [List.getElem?_eq_getElem hi]
 show (if isS ks[i]=true then _ else _)=true
 by_cases hs:isS ks[i]=true
 ·rw [if_pos hs] at h ⊢
  exact h
 ·rw [if_neg hs] at h ⊢
  rcases h with ⟨_,e⟩ | ⟨j,d,rfl,hj,hd⟩
  ·cases e
  ·rw [show j+1 - 1=j from rfl,hj]
   show (decide (0 < j+1) && isS d)=true
   rw [hd]
   simp
theorem zit {rs:List Cs.Row}:∀ {w:List Nat} {p:Bool} (r:List Nat),(∀ c ∈ w,isS c=true/\(Cs.place rs (sg c)).isSome=true)->zaU rs p (w++r)=zaU rs (p || !w.isEmpty) r
 | [],p,r,_=>by simp
 | c :: w,p,r,h=>by
   obtain ⟨h1,h2⟩:=h c List.mem_cons_self
   have ih:=zit (w:=w) (p:=true) r fun d hd=>h d (List.mem_cons_of_mem _ hd)
   show zaU rs p (c :: (w++r))=_
   conv=>lhs;unfold zaU
   rw [if_pos h1,h2,ih]
   simp
def zdm (rs:List Cs.Row) (x:Str):Prop:=1<=x.length/\∀ c ∈ x.cps.toList,isS c=true/\(Cs.place rs (sg c)).isSome=true
theorem zdm.ne {rs:List Cs.Row} {x:Str} (h:zdm rs x):(!x.cps.toList.isEmpty)=true:=by
 have h1:=h.1
 unfold Str.length at h1
 cases e:x.cps.toList with
 | nil =>
   have:x.cps.toList.length=0:=by rw [e];rfl
   rw [Array.length_toList] at this
   omega
 | cons a b=>rfl
theorem zlR {rs:List Cs.Row} (r:List Nat):∀ {l:List Str} {p:Bool},l ≠ []->(∀ x ∈ l,zdm rs x)->zaU rs p ((zbx l).cps.toList++r)=zaU rs true r
 | [],_,h,_=>absurd rfl h
 | [x],p,_,h=>by
   have hx:=h x List.mem_cons_self
   rw [zfC]
   show zaU rs p (x.cps.toList++r)=_
   rw [zit r hx.2,hx.ne]
   simp
 | x :: y :: l,p,_,h=>by
   have hx:=h x List.mem_cons_self
   have ih:=zlR r (l:=y :: l) (p:=false) (by simp) fun z hz=>h z (List.mem_cons_of_mem _ hz)
   rw [zfC] at ih ⊢
   have e:(Str.join ⟨#[32]⟩ (x :: y :: l)).cps.toList++r=x.cps.toList++(32 :: ((Str.join ⟨#[32]⟩ (y :: l)).cps.toList++r)):=by
    show (x++⟨#[32]⟩++Str.join ⟨#[32]⟩ (y :: l)).cps.toList++r=_
    rw [zdl,zdl,List.append_assoc,List.append_assoc]
    rfl
   rw [e,zit _ hx.2,hx.ne]
   conv=>lhs;unfold zaU
   rw [if_neg (by decide),ih]
   simp
theorem zik {rs:List Cs.Row}:∀ {ls:List (List Str)} {p:Bool},(∀ l ∈ ls,l ≠ []/\∀ x ∈ l,zdm rs x)->zaU rs p (keyT ls).cps.toList=true
 | [],_,_=>rfl
 | l :: r,p,h=>by
   obtain ⟨h1,h2⟩:=h l List.mem_cons_self
   have ih:=zik (ls:=r) (p:=false) fun z hz=>h z (List.mem_cons_of_mem _ hz)
   have e:(keyT (l :: r)).cps.toList=(zbx l).cps.toList++(47 :: (keyT r).cps.toList):=by
    show (zbx l++"/"++keyT r).cps.toList=_
    rw [zdl,zdl,List.append_assoc]
    rfl
   rw [e,zlR _ h1 h2]
   unfold zaU
   rw [if_neg (by decide),ih]
   rfl
theorem zjq:∀ (ls:List (List Str)),ls ≠ []->∃ a,(keyT ls).cps.toList=a++[47]
 | [],h=>absurd rfl h
 | [l],_=>⟨(zbx l).cps.toList,by
    rw [zkU,zdl]
    rfl⟩
 | l :: l2 :: r,_=>by
   obtain ⟨a,e⟩:=zjq (l2 :: r) (by simp)
   refine ⟨(zbx l++"/").cps.toList++a,?_⟩
   show (zbx l++"/"++keyT (l2 :: r)).cps.toList=_
   rw [zdl,e,List.append_assoc]
end Lns
namespace L2
open PySem PySem.Spec PyProof.Rows
section
variable {M:Model} {A:Around} {E:Value->Shared->Prop} {s:Shared}
def zbG (S:List Addr) (ch:List Addr) (h h':Heap):Prop:=∀ b o,h.get? b=some o->b ∉ ch->(b ∉ S->h'.get? b=some o)/\∃ sl,h'.get? b=some { o with slots:=sl }
theorem zbG.trans {S ch:List Addr} {h h1 h2:Heap} (x:zbG S ch h h1) (y:zbG S ch h1 h2):zbG S ch h h2:=fun b o e n=>by
 obtain ⟨x1,sl,x2⟩:=x b o e n
 refine ⟨fun hb=>?_,?_⟩
 ·exact (y b o (x1 hb) n).1 hb
 ·obtain ⟨_,sl2,y2⟩:=y b _ x2 n
  exact ⟨sl2,y2⟩
end
def Fr0 (X:Cx) (H:Hp) (b:Addr):Prop:=X.s₀.heap.objs.size<=b/\H b=none/\∀ p ∈ X.pn,p.1 ≠ b
section
variable {X:Cx} {pins:List (Addr × Obj)} {σ:St} {H:Hp} {s:Shared}
end
section
variable {X:Cx} {pins:List (Addr × Obj)} {σ:St} {H:Hp} {s:Shared}
theorem Inv.pnlt (I:Inv X pins σ H s) {b:Addr} (h:s.heap.objs.size<=b):∀ p ∈ X.pn,p.1 ≠ b:=fun p hp q=>by
 have:=Heap.lt_size (I.pin p (List.mem_append_left _ hp)).1
 exact absurd (Nat.lt_of_lt_of_le this h) (by rw [q];exact Nat.lt_irrefl _)
theorem Inv.fr0 (I:Inv X pins σ H s) {b:Addr} (h:s.heap.objs.size<=b):Fr0 X H b:=⟨Nat.le_trans I.sz h,I.hok.fresh h,I.pnlt h⟩
end
section
variable {X:Cx} {k:Nat} {f L:Addr} {fd:FuncData} {ps:List Str} {sp:Sp} {E:St->XK} {x:Str} {p pos:Pos} {e:Expr} {es:List Expr} {t:TA}
end
section
variable {P:Program} {w:World} {K:PySem.W.Frag} {mg:Str->Option Value} {base:Heap}
end
end L2
namespace L2
open PySem PySem.Spec PyProof.Rows PySem.W PySem.Calls
section
variable {prog:Program} {w:World} {A:Around} {R:Result->Shared->Prop} {h:Heap} {g:Array GenState} {d:Drawn} {t:Nat} {os:OsState}
variable {nm q:Str} {C N:Addr} {bs bm:List Value} {hdct:Bool} {sn:List Str} {sub:List Value} {ab:Bool} {col:Option Bool} {dd:Option Addr} {k0 k1 k2 k3 k5:Option Value}
abbrev zpb (C:Addr) (t:Addr) (dx:Option Addr):Obj:={ cls:=.ref C,dict:=dx,data:=.fields #[.ref t,.none,.none,.none,.bool false,.none] }
end
abbrev XO (e C:Addr) (dx:Option Addr):HO:=.ext fun h=>∃ t,h.get? e=some (zpb C t dx)
section
variable {X:Cx} {CX:CXT} {k:Nat} {f C:Addr} {fd:FuncData} {ps:List Str} {sp:Sp} {x m:Str} {p pos apos:Pos} {e o:Expr} {es:List Expr} {ta:TE} {t:TA} {pins:List (Addr × Obj)} {σ:St} {H:Hp} {s:Shared}
end
end L2
namespace L2
open PySem PySem.Spec PyProof.Rows PySem.W PySem.Calls Builtin Builtin.ObjectAttr
section
variable {prog:Program} {w:World} {A:Around} {K:PySem.W.Frag} {C x:Addr} {s:Shared} {R:Result->Shared->Prop}
end
section
variable {X:Cx} {pins:List (Addr × Obj)} {σ:St} {H:Hp} {s:Shared}
end
end L2
namespace L2
open PySem PySem.Spec PyProof.Rows PySem.W PySem.Calls
section
variable {X:Cx} {pins:List (Addr × Obj)} {σ:St} {H:Hp} {s:Shared}
end
end L2
namespace L2
open PySem PySem.Spec PyProof.Rows PySem.W PySem.Calls
section
variable {M:Model} {A:Around} {E:Value->Shared->Prop} {env:Env}
variable {nm q:Str} {C N:Addr} {bs bm:List Value} {hdct:Bool} {sn:List Str} {sub:List Value} {ab:Bool} {col:Option Bool} {dd:Option Addr} {k0 k1 k2 k3 k5:Option Value} {newId:String}
end
section
variable {prog:Program} {w:World} {A:Around} {E:Value->Shared->Prop} {h:Heap} {g:Array GenState} {d:Drawn} {t:Nat} {os:OsState}
variable {nm q:Str} {C N:Addr} {bs bm:List Value} {hdct:Bool} {sn:List Str} {sub:List Value} {ab:Bool} {col:Option Bool} {dd:Option Addr} {k0 k1 k2 k3 k5:Option Value}
end
section
variable {X:Cx} {pins:List (Addr × Obj)} {σ:St} {H:Hp} {s:Shared}
end
end L2
namespace L2
open PySem PySem.Spec PyProof.Rows PySem.W PySem.Calls
section
variable {M:Model} {A:Around} {E:Value->Shared->Prop} {s:Shared}
end
section
variable {X:Cx} {pins:List (Addr × Obj)} {σ:St} {H:Hp} {s:Shared}
end
end L2
namespace L2
open PySem PySem.Spec PyProof.Rows PySem.W PySem.Calls
section
variable {M:Model} {A:Around} {E:Value->Shared->Prop} {h:Heap} {g:Array GenState} {d:Drawn} {t:Nat} {os:OsState}
end
section
variable {X:Cx} {σ:St} {H:Hp} {s:Shared}
end
end L2
namespace L2
open PySem PySem.Spec PyProof.Rows PySem.W PySem.Calls Builtin Builtin.ObjectAttr
section
variable {prog:Program} {w:World} {A:Around} {E:Value->Shared->Prop} {s:Shared} {K:PySem.W.Frag} {x C:Addr} {ox:Obj} {od:Option Obj} {name:Str}
end
end L2
namespace L2
open PySem PySem.Spec PyProof.Rows PySem.W PySem.Calls
section
variable {X:Cx} {pins:List (Addr × Obj)} {σ:St} {H:Hp} {s:Shared}
variable {K:PySem.W.Frag} (hK:X.K=K)
include hK
end
end L2
namespace L2
open PySem PySem.Spec PyProof.Rows
structure RoomH (k:Nat) (A:Around):Prop where
 dp:A.depth+3 * k+5 < recursionLimit
 un:A.units+16 * k+200 < cLine
theorem Room.h {k:Nat} {A:Around} (r:Room k A) (e:Option Value):RoomH k (A.mark e):=⟨r.dp,r.un⟩
theorem RoomH.units {k:Nat} {A:Around} (r:RoomH k A):A.units+64 < cLine:=by have:=r.un;omega
section
variable {P:Program} {w:World} {K:PySem.W.Frag} {mg:Str->Option Value} {base:Heap}
end
section
variable {X:Cx} {k:Nat} {f:Addr} {fd:FuncData} {ps:List Str} {sp:Sp} {x:Str} {p pos:Pos} {e:Expr} {es:List Expr} {t:TA}
end
end L2
namespace L2
open PySem PySem.Spec PyProof.Rows PySem.W PySem.Calls
structure NsF (K:PySem.W.Frag) (N:Addr) (init:Option Addr):Prop where
 lk:∃ oc od es n sl,K.lookup N=some ⟨oc,od,.dict es n,sl⟩/\(es.all fun e=>match e.key with | .str _ _=>true | _=>false)=true
 ni:nsIn K N "__init__"=some (init.map Value.ref)
theorem NsF.ok {K:PySem.W.Frag} {N:Addr} {init:Option Addr} (h:NsF K N init):nsOkIn K N=true:=by
 obtain ⟨oc,od,es,n,sl,e,q⟩:=h.lk
 unfold nsOkIn
 rw [e]
 exact q
def zly (C:Addr) (fld:Str):Sp:=fun vs H Q _=>∃ (e:Addr) (i:Int),vs=[.ref e,.int i]/\H e=some (XO e C none)/\i.natAbs<=1000000000/\∀ dx,H dx=none->Q .non (upd (upd H dx (.xd [(fld,.int i)])) e (XO e C (some dx)))
section
variable {X:Cx} {k j:Nat} {f C:Addr} {fd:FuncData} {ps:List Str} {sp:Sp} {x qual fld:Str} {st:Stmt} {p np cpos pos:Pos} {e:Expr} {es:List Expr} {t:TA} {E:St->XK} {L:Addr}
end
end L2
namespace L2
open PySem PySem.Spec PyProof.Rows
section
variable {X:Cx}
end
end L2
namespace Cs
open PySem L2
def SgOk (n:Nat) (x:Str):Prop:=x.length<=n/\∀ c ∈ x.cps.toList,c < 128
end Cs
namespace Cs
open PySem L2
theorem SgOk.lay {n:Nat} {x:Str} (h:SgOk n x):PyData.canLay0 (.str x)=true:=by
 show (x.cps.all fun c=>decide (c < 0x110000))=true
 rw [<- Array.all_toList,List.all_eq_true]
 intro c hc
 have:=h.2 c hc
 exact decide_eq_true (by omega)
def zjf (x:Str):Bool:=match x.cps.toList with
 | [c]=>decide (c ∈ signs)
 | _=>false
def znk (r:Row):Bool:=zjf r.s && decide (1<=r.w/\r.w<=99) && decide (0<=r.t/\r.t<=127) && decide (0<=r.n/\r.n<=40)
def zlE (ah:List Row) (r:Row):Bool:=znk r && (place ah r.s).isNone && !decide (r.t ∈ ah.map fun x=>x.t)
def zdg (rs:List Row) (k:Nat):Prop:=∀ i r,i < k->rs[i]?=some r->zlE (rs.take i) r=true
inductive Looks (rs:List Row):Option Nat->Prop
 | none0:rs=[]->Looks rs (some 0)
 | bad {k:Nat} {r:Row}:zdg rs k->rs[k]?=some r->zlE (rs.take k) r=false->Looks rs (some k)
 | good:rs ≠ []->zdg rs rs.length->Looks rs none
theorem Looks.uniq {rs:List Row} {a b:Option Nat} (ha:Looks rs a) (hb:Looks rs b):a=b:=by
 have lt:∀ {k:Nat} {r:Row},rs[k]?=some r->k < rs.length:=fun h=>(List.getElem?_eq_some_iff.mp h).1
 cases ha with
 | none0 e =>
   cases hb with
   | none0 _=>rfl
   | bad _ h _=>rw [e] at h;simp at h
   | good n _=>exact absurd e n
 | bad a1 h1 s1 =>
   cases hb with
   | none0 e=>rw [e] at h1;simp at h1
   | bad a2 h2 s2 =>
     rename_i k r k' r'
     rcases Nat.lt_trichotomy k k' with z | z | z
     ·have:=a2 k r z h1
      rw [s1] at this
      cases this
     ·rw [z]
     ·have:=a1 k' r' z h2
      rw [s2] at this
      cases this
   | good _ a2 =>
     have:=a2 _ _ (lt h1) h1
     rw [s1] at this
     cases this
 | good n a1 =>
   cases hb with
   | none0 e=>exact absurd e n
   | bad a2 h2 s2 =>
     have:=a1 _ _ (lt h2) h2
     rw [s2] at this
     cases this
   | good _ _=>rfl
theorem zgk {α:Type} [DecidableEq α]:∀ {xs ys:List α},xs.Nodup->(∀ x ∈ xs,x ∈ ys)->xs.length<=ys.length
 | [],_,_,_=>Nat.zero_le _
 | x :: xs,ys,h,hs=>by
   obtain ⟨h1,h2⟩:=List.nodup_cons.mp h
   have hx:=hs x List.mem_cons_self
   have ih:=zgk (xs:=xs) (ys:=ys.erase x) h2 fun y hy=>by
    have hne:y ≠ x:=fun e=>h1 (by rw [<- e];exact hy)
    exact (List.mem_erase_of_ne hne).mpr (hs y (List.mem_cons_of_mem _ hy))
   rw [List.length_erase_of_mem hx] at ih
   have:=List.length_pos_of_mem hx
   rw [List.length_cons]
   omega
theorem zjz {x:Str} (h:zjf x=true):x ∈ signs.map sg:=by
 unfold zjf at h
 split at h
 ·rename_i c e
  refine List.mem_map.mpr ⟨c,of_decide_eq_true h,?_⟩
  exact (Lns.zkx e).symm
 ·cases h
theorem zjw {ah:List Row} {r:Row} (h:zlE ah r=true):zjf r.s=true/\place ah r.s=none:=by
 unfold zlE znk at h
 simp only [Bool.and_eq_true] at h
 exact ⟨h.1.1.1.1.1,Option.isNone_iff_eq_none.mp h.1.2⟩
theorem zfy {rs:List Row} {x:Str} (h:place rs x=none):x ∉ rs.map fun r=>r.s:=by
 unfold place at h
 rw [List.findIdx?_eq_none_iff] at h
 intro hm
 obtain ⟨r,hr,e⟩:=List.mem_map.mp hm
 have:=h r hr
 rw [decide_eq_true e] at this
 cases this
theorem zdg.signs {rs:List Row} {k:Nat} (h:zdg rs k) (hk:k<=rs.length):((rs.take k).map fun r=>r.s).Nodup/\∀ x ∈ (rs.take k).map fun r=>r.s,x ∈ signs.map sg:=by
 induction k with
 | zero=>exact ⟨by simp,fun x hx=>by simp at hx⟩
 | succ k ih =>
   obtain ⟨i1,i2⟩:=ih (fun i r hi hr=>h i r (by omega) hr) (by omega)
   have hr:rs[k]?=some rs[k]:=List.getElem?_eq_getElem (by omega)
   obtain ⟨s1,s2⟩:=zjw (h k _ (Nat.lt_succ_self k) hr)
   have e:rs.take (k+1)=rs.take k++[rs[k]]:=by rw [List.take_add_one,hr];rfl
   rw [e,List.map_append]
   constructor
   ·rw [List.nodup_append]
    refine ⟨i1,by simp,fun a ha b hb=>?_⟩
    have hb:b=rs[k].s:=List.mem_singleton.mp hb
    intro z
    rw [z,hb] at ha
    exact zfy s2 ha
   ·intro x hx
    rcases List.mem_append.mp hx with z | z
    ·exact i2 x z
    ·rw [List.mem_singleton.mp z]
     exact zjz s1
theorem zdg.few {rs:List Row} {k:Nat} (h:zdg rs k) (hk:k<=rs.length):k<=30:=by
 obtain ⟨h1,h2⟩:=h.signs hk
 have:=zgk h1 h2
 rw [List.length_map,List.length_take,Nat.min_eq_left hk,List.length_map] at this
 exact this
theorem zdg.succ {rs:List Row} {k:Nat} {r:Row} (h:zdg rs k) (hr:rs[k]?=some r) (hs:zlE (rs.take k) r=true):zdg rs (k+1):=fun i r' hi hr'=>by
 by_cases e:i=k
 ·subst e
  rw [hr] at hr'
  cases hr'
  exact hs
 ·exact h i r' (by omega) hr'
end Cs
namespace L2
open PySem PySem.Spec PyProof.Rows
section
variable {X:Cx}
def rCount:V->List V->Hp->VK->Prop:=fun x vs H Q=>∃ (l:Addr) (ns:List Int) (z:Int),x=.ref l/\vs=[.int z]/\H l=some (.lst (ns.map V.int))/\Q (.int (ns.count z:Nat)) H
theorem zfP (z:Int):∀ (ns:List Int) (its:List Value),Vals (ns.map V.int) its->its.countP (eqI z)=ns.count z
 | [],_,h=>by
   cases h
   rfl
 | n :: ns,_,h=>by
   cases h with
   | cons r t =>
     obtain ⟨tk,rfl⟩:=r
     rw [List.countP_cons,List.count_cons,zfP z ns _ t]
     rfl
theorem ziY:MtR X "list.count" rCount:=by
 intro pins s σ H x vs v us Q I rx rv h
 obtain ⟨l,ns,z,rfl,rfl,hH,q⟩:=h
 cases rx
 obtain ⟨u,rfl,ru⟩:=rv.one
 obtain ⟨t,rfl⟩:=ru
 obtain ⟨zz,its,n,r,hl,e⟩:=I.lstM hH
 rw [List.length_map] at hl
 have at_:∀ (m:Nat) (hm:m < its.length),∃ t',its[m]=.int (ns[m]'(by omega)) t':=fun m hm=>by
  obtain ⟨u,hu,ru⟩:=r.get (i:=m) (x:=.int (ns[m]'(by omega))) (by rw [List.getElem?_map,List.getElem?_eq_getElem (by omega)];rfl)
  rw [List.getElem?_eq_getElem hm] at hu
  obtain ⟨t',rfl⟩:=ru
  exact ⟨t',Option.some.inj hu⟩
 refine call_meets F.slot_list_count ⟨_,e,rfl⟩ F.entry_list_count (F.args_list_count_2 _ _)
  (MeetsSeq.list_count l its.toArray n (.int z t) (eqI z) (fun y hy=>?_)) ⟨e,?_⟩
 ·obtain ⟨m,hm,ey⟩:=List.getElem_of_mem (show y ∈ its by simpa using hy)
  obtain ⟨t',e'⟩:=at_ m hm
  rw [<- ey,e']
  exact MeetsSeq.EqGives.int _ _ _ _
 ·rw [show its.toArray.toList=its from rfl,zfP z ns its r]
  exact ⟨.int (ns.count z:Nat),H,I.tok _,⟨_,rfl⟩,q⟩
end
end L2
namespace Lan
open PySem L2
abbrev Mx:=Str × Int
def zbd (H:Hp) (v:V) (m:Mx):Prop:=∃ a,v=.ref a/\H a=some (.tup [.str m.1,.int m.2])
theorem zaG {H H':Hp} {xs:List V} {ms:List Mx} (h:Paired (zbd H) xs ms) (s:Same H H'):Paired (zbd H') xs ms:=Paired.mapP h fun _ _ ⟨a,e,z⟩=>⟨a,e,s _ _ z⟩
theorem zcz {H:Hp} {p:Addr} {ys:List V} {o:HO} {xs:List V} {ms:List Mx} (h:Paired (zbd H) xs ms) (hp:H p=some (.lst ys)):Paired (zbd (upd H p o)) xs ms :=
 Paired.mapP h fun _ _ ⟨a,e,z⟩=>⟨a,e,by rw [zai (zcq z hp (fun q=>by cases q))];exact z⟩
theorem zjd {H:Hp} {v:V} {m:Mx} (h:zbd H v m):∀ n:Nat,Paired (zbd H) (List.replicate n v) (List.replicate n m)
 | 0=>.nil
 | n+1=>.cons h (zjd h n)
theorem zns {α β:Type} {F:α->β->Prop} {a:α} {b:β} (h:F a b):∀ {xs:List α} {ys:List β} (i:Nat),Paired F xs ys->Paired F (xs.set i a) (ys.set i b)
 | _,_,_,.nil=>.nil
 | _,_,0,.cons _ t=>.cons h t
 | _,_,i+1,.cons r t=>.cons r (zns h i t)
def zcv (H0:Hp) (no:Addr) (H:Hp) (v:V) (ms:List Mx):Prop:=∃ p xs,v=.ref p/\p ≠ no/\H0 p=none/\H p=some (.lst xs)/\Paired (zbd H) xs ms
theorem zdf {H0 H H':Hp} {no:Addr} {zs:List V} {ls:List (List Mx)} (h:Paired (zcv H0 no H) zs ls) (s:Same H H'):Paired (zcv H0 no H') zs ls :=
 Paired.mapP h fun _ _ ⟨p,xs,e,n,f,z,m⟩=>⟨p,xs,e,n,f,s _ _ z,zaG m s⟩
theorem zmU {H0 H:Hp} {no:Addr} {ys:List V} {o:HO} {zs:List V} {ls:List (List Mx)} (h:Paired (zcv H0 no H) zs ls) (hn:H no=some (.lst ys)):Paired (zcv H0 no (upd H no o)) zs ls :=
 Paired.mapP h fun _ _ ⟨p,xs,e,n,f,z,m⟩=>⟨p,xs,e,n,f,by rw [zai n];exact z,zcz m hn⟩
theorem zhn {H0 H:Hp} {no:Addr} {zs:List V} {ls:List (List Mx)} {p:Addr} (h:Paired (zcv H0 no H) zs ls) (hp:H p=none):V.ref p ∉ zs:=by
 intro hm
 obtain ⟨i,hi,e⟩:=List.getElem_of_mem hm
 obtain ⟨_,_,p2,xs,e2,_,_,z,_⟩:=Cs.zba h (List.getElem?_eq_getElem hi)
 rw [e] at e2
 cases e2
 rw [hp] at z
 cases z
theorem lanes_set {H0 H:Hp} {no p:Addr} {ys ys':List V} {ms':List Mx}:∀ {zs:List V} {ls:List (List Mx)} (k:Nat),Paired (zcv H0 no H) zs ls->zs.Nodup->zs[k]?=some (.ref p)->H p=some (.lst ys)->Paired (zbd (upd H p (.lst ys'))) ys' ms'->p ≠ no->H0 p=none ->
 Paired (zcv H0 no (upd H p (.lst ys'))) zs (ls.set k ms')
 | _,_,_,.nil,_,h,_,_,_,_=>by simp at h
 | _,_,0,.cons r t,hn,h,hp,hm,hno,hf=>by
   have h:_=V.ref p:=Option.some.inj h
   subst h
   obtain ⟨hn1,_⟩:=List.nodup_cons.mp hn
   refine .cons ⟨p,ys',rfl,hno,hf,upd_same,hm⟩ (lanes_else t hn1 hp)
 | _,_,k+1,.cons r t,hn,h,hp,hm,hno,hf=>by
   obtain ⟨hn1,hn2⟩:=List.nodup_cons.mp hn
   obtain ⟨q,xs,e,n,f,z,m⟩:=r
   subst e
   have hne:q ≠ p:=fun e=>by
    rw [e] at hn1
    exact hn1 (List.mem_of_getElem? h)
   exact .cons ⟨q,xs,rfl,n,f,by rw [zai hne];exact z,zcz m hp⟩ (lanes_set k t hn2 h hp hm hno hf)
where
 lanes_else:∀ {zs:List V} {ls:List (List Mx)},Paired (zcv H0 no H) zs ls->V.ref p ∉ zs->H p=some (.lst ys)->Paired (zcv H0 no (upd H p (.lst ys'))) zs ls
  | _,_,.nil,_,_=>.nil
  | _,_,.cons ⟨q,xs,e,n,f,z,m⟩ t,hn,hp=>by
    subst e
    have hne:q ≠ p:=fun e=>hn (by rw [e];exact List.mem_cons_self)
    exact .cons ⟨q,xs,rfl,n,f,by rw [zai hne];exact z,zcz m hp⟩ (lanes_else t (fun h=>hn (List.mem_cons_of_mem _ h)) hp)
end Lan
namespace Unl
open PySem L2 PySem.Builtin.Str
def zcT (m:Nat) (x:Str):Prop:=x.cps.toList.length<=m/\∀ c ∈ x.cps.toList,c < 0x110000
theorem zcT.len {m:Nat} {x:Str} (h:zcT m x):x.length<=m:=by
 have hl:x.cps.toList.length=x.length:=Array.length_toList
 rw [<- hl]
 exact h.1
theorem zcT.lay {m:Nat} {x:Str} (h:zcT m x):PyData.canLay0 (.str x)=true:=by
 show (x.cps.all fun c=>decide (c < 0x110000))=true
 rw [<- Array.all_toList,List.all_eq_true]
 exact fun c hc=>decide_eq_true (h.2 c hc)
theorem zcT.take {m:Nat} {x y:Str} {n:Nat} (h:zcT m x) (e:y.cps.toList=x.cps.toList.take n):zcT m y :=
 ⟨by rw [e];exact Nat.le_trans (List.length_take_le' ..) h.1,fun c hc=>h.2 c (by rw [e] at hc;exact List.mem_of_mem_take hc)⟩
theorem zcT.drop {m:Nat} {x y:Str} {n:Nat} (h:zcT m x) (e:y.cps.toList=x.cps.toList.drop n):zcT m y :=
 ⟨by rw [e,List.length_drop];exact Nat.le_trans (Nat.sub_le ..) h.1,fun c hc=>h.2 c (by rw [e] at hc;exact List.mem_of_mem_drop hc)⟩
theorem zcT.mid {m:Nat} {x y t d:Str} {n e:Nat} (h:zcT m x) (hy:zcT 1 y) (e1:t.cps.toList=x.cps.toList.take n) (e2:d.cps.toList=x.cps.toList.drop e) (he:n<=e):zcT (m+1) (t++y++d):=by
 have q:(t++y++d).cps.toList=t.cps.toList++y.cps.toList++d.cps.toList:=by
  show (t.cps++y.cps++d.cps).toList=_
  rw [Array.toList_append,Array.toList_append]
 refine ⟨?_,fun c hc=>?_⟩
 ·rw [q,List.length_append,List.length_append,e1,e2,List.length_take,List.length_drop]
  have:=h.1
  have:=hy.1
  omega
 ·rw [q,e1,e2] at hc
  rcases List.mem_append.mp hc with z | z
  ·rcases List.mem_append.mp z with z | z
   ·exact h.2 c (List.mem_of_mem_take z)
   ·exact hy.2 c z
  ·exact h.2 c (List.mem_of_mem_drop z)
theorem zcT.cut {m:Nat} {x t d:Str} {n e:Nat} (h:zcT m x) (e1:t.cps.toList=x.cps.toList.take n) (e2:d.cps.toList=x.cps.toList.drop e) (he:n<=e):zcT (m+1) (t++d):=by
 have q:(t++d).cps.toList=t.cps.toList++d.cps.toList:=Array.toList_append
 refine ⟨?_,fun c hc=>?_⟩
 ·rw [q,List.length_append,e1,e2,List.length_take,List.length_drop]
  have:=h.1
  omega
 ·rw [q,e1,e2] at hc
  rcases List.mem_append.mp hc with z | z
  ·exact h.2 c (List.mem_of_mem_take z)
  ·exact h.2 c (List.mem_of_mem_drop z)
def cp:List Nat->List Nat->Nat
 | a :: x,b :: y=>if a=b then cp x y+1 else 0
 | _,_=>0
def un:Nat->List Str->List Str->Option (Nat × Nat)
 | k,t :: ts,s :: ss=>if t=s then un (k+1) ts ss else some (k,cp t.cps.toList s.cps.toList)
 | _,[],[]=>none
 | k,_,_=>some (k,0)
def UnAt (H:Hp) (v:V):Option (Nat × Nat)->Prop
 | none=>v=.non
 | some (i,p)=>∃ t,v=.ref t/\H t=some (.tup [.int i,.int p])
theorem UnAt.same {H H':Hp} {v:V} {o:Option (Nat × Nat)} (h:UnAt H v o) (hs:Same H H'):UnAt H' v o:=by
 cases o with
 | none=>exact h
 | some ip =>
   obtain ⟨t,e,ht⟩:=h
   exact ⟨t,e,hs _ _ ht⟩
end Unl
namespace L2
open PySem PySem.Spec PyProof.Rows
structure FS (ns:List Str) (fs:List (Str × V)) (vals:List (Option V)):Prop where
 lk:∀ m,fs.lookup m=(ns.idxOf? m).bind fun i=>(vals[i]?).join
 ln:vals.length=ns.length
 nd:(fs.map (·.1)).Nodup
 sb:∀ x ∈ fs.map (·.1),x ∈ ns
 fw:ns.length < 1000
theorem ziP (f:Str) (v:V):∀ fs:List (Str × V),(f ∈ fs.map (·.1)->(putF f v fs).map (·.1)=fs.map (·.1))/\(f ∉ fs.map (·.1)->(putF f v fs).map (·.1)=fs.map (·.1)++[f])
 | []=>⟨fun h=>by simp at h,fun _=>rfl⟩
 | (k,x) :: r=>by
   obtain ⟨i1,i2⟩:=ziP f v r
   rw [show putF f v ((k,x) :: r)=(if k=f then (k,v) :: r else (k,x) :: putF f v r) from rfl]
   by_cases hk:k=f
   ·rw [if_pos hk]
    exact ⟨fun _=>rfl,fun h=>absurd (by rw [<- hk];simp) h⟩
   ·rw [if_neg hk]
    refine ⟨fun h=>?_,fun h=>?_⟩
    ·rw [List.map_cons] at h
     rcases List.mem_cons.mp h with h | h
     ·exact absurd h.symm hk
     ·rw [List.map_cons,i1 h,List.map_cons]
    ·rw [List.map_cons,i2 fun z=>h (by rw [List.map_cons];exact List.mem_cons_of_mem _ z),List.map_cons]
     rfl
theorem FS.nil {ns:List Str} (h:ns.length < 1000):FS ns [] (List.replicate ns.length none):=by
 refine ⟨fun m=>?_,List.length_replicate,List.nodup_nil,(fun x hx=>nomatch hx),h⟩
 cases e:ns.idxOf? m with
 | none=>rfl
 | some i =>
   show none=((List.replicate ns.length (none:Option V))[i]?).join
   rw [List.getElem?_replicate]
   split <;> rfl
theorem FS.len {ns:List Str} {fs:List (Str × V)} {vals:List (Option V)} (h:FS ns fs vals):fs.length < 1000:=by
 have h1:=Cs.zgk h.nd h.sb
 have h2:=h.fw
 rw [List.length_map] at h1
 omega
theorem FS.get {ns:List Str} {fs:List (Str × V)} {vals:List (Option V)} {m:Str} {i:Nat} {v:V} (h:FS ns fs vals) (hi:ns.idxOf? m=some i) (hv:vals[i]?=some (some v)):fs.lookup m=some v:=by
 rw [h.lk m,hi]
 show (vals[i]?).join=_
 rw [hv]
 rfl
theorem FS.no {ns:List Str} {fs:List (Str × V)} {vals:List (Option V)} {m:Str} (h:FS ns fs vals) (hi:ns.idxOf? m=none):fs.lookup m=none:=by
 rw [h.lk m,hi]
 rfl
theorem znu {ns:List Str} {f:Str} {i:Nat} (h:ns.idxOf? f=some i):ns[i]?=some f:=by
 unfold List.idxOf? at h
 obtain ⟨hi,e,_⟩:=List.findIdx?_eq_some_iff_getElem.mp h
 rw [List.getElem?_eq_getElem hi,beq_iff_eq.mp e]
theorem FS.put {ns:List Str} {fs:List (Str × V)} {vals:List (Option V)} {f:Str} {i:Nat} (y:V) (h:FS ns fs vals) (hi:ns.idxOf? f=some i):FS ns (putF f y fs) (vals.set i (some y)):=by
 have hat:=znu hi
 have hil:i < vals.length:=by
  have:=(List.getElem?_eq_some_iff.mp hat).1
  rw [h.ln]
  exact this
 obtain ⟨k1,k2⟩:=ziP f y fs
 refine ⟨fun m=>?_,by rw [List.length_set];exact h.ln,?_,?_,h.fw⟩
 ·rw [zdA]
  by_cases e:m=f
  ·rw [if_pos e,e,hi]
   show _=((vals.set i (some y))[i]?).join
   rw [List.getElem?_set,if_pos rfl,if_pos hil]
   rfl
  ·rw [if_neg e,h.lk m]
   cases ej:ns.idxOf? m with
   | none=>rfl
   | some j =>
     have hj:=znu ej
     have hne:i ≠ j:=fun z=>by
      rw [z,hj] at hat
      exact e (Option.some.inj hat)
     show (vals[j]?).join=((vals.set i (some y))[j]?).join
     rw [List.getElem?_set,if_neg hne]
 ·by_cases e:f ∈ fs.map (·.1)
  ·rw [k1 e]
   exact h.nd
  ·rw [k2 e,List.nodup_append]
   refine ⟨h.nd,by simp,fun a ha b hb=>?_⟩
   rw [List.mem_singleton.mp hb]
   exact fun z=>e (z ▸ ha)
 ·intro x hx
  by_cases e:f ∈ fs.map (·.1)
  ·rw [k1 e] at hx
   exact h.sb x hx
  ·rw [k2 e] at hx
   rcases List.mem_append.mp hx with hx | hx
   ·exact h.sb x hx
   ·rw [List.mem_singleton.mp hx]
    exact List.mem_of_getElem? hat
def zcF (C:Addr) (ns:List Str) (H:Hp) (a:Addr) (vals:List (Option V)):Prop:=∃ dx fs,H a=some (.ins C dx fs)/\FS ns fs vals
theorem zcF.same {C:Addr} {ns:List Str} {H H':Hp} {a:Addr} {vals:List (Option V)} (h:zcF C ns H a vals) (s:Same H H'):zcF C ns H' a vals:=let ⟨dx,fs,e,f⟩:=h;⟨dx,fs,s _ _ e,f⟩
def zup (C:Addr) (ns:List Str) (ta:TE) (i:Nat):TE:=fun σ H Q=>ta σ H fun x H1=>∃ a vals v,x=.ref a/\zcF C ns H1 a vals/\vals[i]?=some (some v)/\Q v H1
def zuQ (C:Addr) (ns:List Str) (ta tv:TE) (i:Nat):TS:=fun D σ H=>tv σ H fun y H1=>ta σ H1 fun x H2=>∃ a vals,x=.ref a/\zcF C ns H2 a vals /\
 ∀ H3,zcF C ns H3 a (vals.set i (some y))->(∀ b,b ≠ a->H3 b=H2 b)->D.nx σ H3
def zng (C:Addr) (ns:List Str) (sp:Sp) (E:XK) (ta:TE) (t:TA):TE:=fun σ H Q=>ta σ H fun x H1=>∃ a vals,x=.ref a/\zcF C ns H1 a vals/\t σ H1 fun vs H2=>sp (x :: vs) H2 Q E
structure DM (K:PySem.W.Frag) (x qual:Str) (st:Stmt) (ps:List Str) (C f:Addr) (fd:FuncData):Prop where
 fn:Fun K x qual st f fd
 ba:∀ us:List Value,us.length=ps.length->bindArgs fd ⟨us,[]⟩=pure (ps.zip us)
 me:Meth K C x f
section
variable {X:Cx} {K:PySem.W.Frag} (hK:X.K=K) {ns:List Str} {C:Addr} {o e value:Expr} {es:List Expr} {f:Str} {i:Nat} {pos pos' apos:Pos} {ta tv:TE} {t:TA} {k j:Nat} {g:Addr} {fd:FuncData} {ps:List Str} {sp:Sp} {m qual:Str} {st:Stmt}
include hK
theorem pfld (c:Cls K C) (n:zbP K C f) (hi:ns.idxOf? f=some i) (he:PE X o ta) (hb:attributeBase o f X.env (eval o X.env)=eval o X.env:=by rfl):PE X (.Attribute o f pos) (zup C ns ta i):=by
 subst hK
 intro pins s σ H Q I h
 refine zoo hb (thn (he pins s σ H _ I h) fun u s1 ⟨x,H1,I1,rx,a,vals,v,ex,⟨dx,fs,ea,F⟩,hv,q⟩=>?_)
 subst ex
 obtain rfl:u=Value.ref a:=rx
 exact zjY I1 ea c n (F.get hi hv) fun u' s2 I2 ru=>⟨v,H1,I2,ru,q⟩
theorem zcl (c:Cls K C) (n:zbP K C f) (hi:ns.idxOf? f=some i) (ha:PE X o ta) (hv:PE X value tv) (hs:swapsWith value (some (.Attribute o f pos')) pos.line X.env=pure false:=by rfl):PS X (.Assign [.Attribute o f pos'] value pos) (zuQ C ns ta tv i):=by
 subst hK
 intro pins s σ H D I h
 refine plainObj_wpAny_Assign_Attribute (thn (hv pins s σ H _ I h) fun u s1 ⟨y,H1,I1,ry,q⟩=>thn (ha pins s1 σ H1 _ I1 q) fun ov s2 ⟨x,H2,I2,rx,a,vals,ex,⟨dx,fs,ea,F⟩,q2⟩=>?_) hs
 subst ex
 obtain rfl:ov=Value.ref a:=rx
 exact zjU I2 ea c n F.len ry fun s3 I3=>⟨σ,_,I3,q2 _ ⟨dx,_,upd_same,F.put y hi⟩ fun b hb=>zai hb⟩
theorem zpd (c:Cls K C) (d:DM K m qual st ps C g fd) (F:FnOk X.prog X.w X.K X.mg X.base CX0 j g fd ps sp) (hr:Room k X.A) (hi:ns.idxOf? m=none) (he:PE X o ta) (ha:PA X (e :: es) t) (hjk:j<=k:=by decide)
 (hst:starEach (e :: es) X.env=(false,eval e X.env) :: starEach es X.env:=by rfl) (hpl:(backTo pos (starEach es X.env)).any (·.1)=false:=by rfl) {pl:Sem Bool}
 (ht:eval (.Call (.Attribute o m apos) (e :: es) [] pos) X.env=(do
   let ov <- eval o X.env
   standAt apos.atName
   let (f,first) <- holding [ov] (getMethod ov m pl)
   callWith pos f first (backTo pos (starEach (e :: es) X.env)) (backToKw pos (keywordEach [] X.env))):=by rfl) :
 PE X (.Call (.Attribute o m apos) (e :: es) [] pos) (zng C ns sp E0 ta t):=by
 subst hK
 intro pins s σ H Q I h
 refine PySem.W.methodCall_KW (pl:=pl) (thn (he pins s σ H _ I h) fun u s1 ⟨x,H1,I1,rx,a,vals,ex,⟨dx,fs,ea,FF⟩,q⟩=>?_) ht
 subst ex
 obtain rfl:u=Value.ref a:=rx
 refine zfU I1 ea c d.me (FF.no hi) ?_
 refine PySem.W.callWith_K (first:=[.ref a]) (h₀:=X.base) I.ok.mod.kin d.me.kp (thn (ha pos pins s1 σ H1 _ I1 q) fun us s2 ⟨vs,H2,I2,r,q2⟩=>⟨I2.kIn,?_⟩) hst hpl
 exact zkR (us:=.ref a :: us) (vs:=.ref a :: vs) (F.mono hjk) hr (.all d.ba) .nil zmG I2 (.cons rfl r) (by rw [List.append_nil];exact q2)
theorem zaK (c:Cls K C) (d:DM K m qual st ps C g fd) (F:FnOk X.prog X.w X.K X.mg X.base CX0 j g fd ps sp) (hr:Room k X.A) (hi:ns.idxOf? m=none) (he:PE X o ta) (hjk:j<=k:=by decide) {pl:Sem Bool}
 (ht:eval (.Call (.Attribute o m apos) [] [] pos) X.env=(do
   let ov <- eval o X.env
   standAt apos.atName
   let (f,first) <- holding [ov] (getMethod ov m pl)
   callWith pos f first (backTo pos (starEach [] X.env)) (backToKw pos (keywordEach [] X.env))):=by rfl) :
 PE X (.Call (.Attribute o m apos) [] [] pos) (zng C ns sp E0 ta tNil):=by
 subst hK
 intro pins s σ H Q I h
 refine PySem.W.methodCall_KW (pl:=pl) (thn (he pins s σ H _ I h) fun u s1 ⟨x,H1,I1,rx,a,vals,ex,⟨dx,fs,ea,FF⟩,q⟩=>?_) ht
 subst ex
 obtain rfl:u=Value.ref a:=rx
 refine zfU I1 ea c d.me (FF.no hi) ?_
 exact PySem.W.callWith_K0 (first:=[.ref a]) I1.kIn d.me.kp (zkR (us:=[.ref a]) (vs:=[.ref a]) (F.mono hjk) hr (.all d.ba) .nil zmG I1 (.cons rfl .nil) q)
end
structure FunD (K:PySem.W.Frag) (x qual:Str) (st:Stmt) (f:Addr) (fd:FuncData):Prop where
 ex:∃ (oc:Value) (od:Option Addr) (dV kV doc pm:Value) (an:Option Addr) (cdv ct:Value) (osl:Array (Option Value)),
  fd=PySem.W.fnOf x qual (zaj st) (zak st) (zab st) dV kV doc pm an cdv ct/\K.lookup f=some ⟨oc,od,.func fd,osl⟩/\PySem.W.codeIn K cdv qual=true
 kp:PySem.W.keepIn K (.ref f)=true
section
variable {P:Program} {w:World} {K:PySem.W.Frag} {mg:Str->Option Value} {base:Heap}
theorem FunD.ok {x qual:Str} {st:Stmt} {f:Addr} {fd:FuncData} {N ps:List Str} {k:Nat} {sp:Sp} (F:FunD K x qual st f fd) (S:FnScope N ps (zab st)) (len:∀ vs H Q E,sp vs H Q E->vs.length=ps.length)
 (hbody:∀ (cdv:Value) (A:Around) (outer:List Env) (s:Shared) (H:Hp) (vs:List V) (Q:VK) (E:XK),Room k (A.deeper (envOfC qual (zab st) s.heap.objs.size f cdv))->sp vs H Q E ->
   ∃ t,PSs (cxOf CX0 P w K mg base N qual (zab st) f cdv A outer s H E).nox (zak st) t/\t { nx:=fun _ H'=>Q .non H',rt:=Q } (start N vs) H):FnOk P w K mg base CX0 (k+1) f fd ps sp:=by
 obtain ⟨oc,od,dV,kV,doc,pm,an,cdv,ct,osl,rfl,lk,hcd⟩:=F.ex
 refine zrB lk hcd S len fun A outer s H vs Q E hr hsp=>?_
 obtain ⟨t,h,q⟩:=hbody cdv A outer s H vs Q E hr hsp
 exact ⟨t,h.nox,q⟩
theorem us1 {P:List Value->Prop} (h:∀ a,P [a]):∀ us:List Value,us.length=1->P us
 | [a],_=>h a
theorem us2 {P:List Value->Prop} (h:∀ a b,P [a,b]):∀ us:List Value,us.length=2->P us
 | [a,b],_=>h a b
theorem us3 {P:List Value->Prop} (h:∀ a b c,P [a,b,c]):∀ us:List Value,us.length=3->P us
 | [a,b,c],_=>h a b c
theorem us4 {P:List Value->Prop} (h:∀ a b c d,P [a,b,c,d]):∀ us:List Value,us.length=4->P us
 | [a,b,c,d],_=>h a b c d
theorem us5 {P:List Value->Prop} (h:∀ a b c d e,P [a,b,c,d,e]):∀ us:List Value,us.length=5->P us
 | [a,b,c,d,e],_=>h a b c d e
theorem zlO {us ds:List Value} {n:Nat} (h:(us++ds).length=n):us.length=n - ds.length:=by
 rw [List.length_append] at h
 omega
structure DI (K:PySem.W.Frag) (mg:Str->Option Value) (x qual:Str) (st:Stmt) (ps:List Str) (C f:Addr) (fd:FuncData):Prop where
 mg:mg x=some (.ref C)
 cl:Cls K C
 mkr:Mk K C f
 fn:FunD K "__init__" qual st f fd
 b0:zjF K fd ps []
 b1:zjF K fd ps [.none]
end
section
variable {X:Cx} {k j:Nat} {C f:Addr} {fd:FuncData} {ps:List Str} {sp:Sp} {x qual:Str} {st:Stmt} {p pos:Pos} {e:Expr} {es:List Expr} {t:TA}
end
def rIxP (K:PySem.W.Frag):R2:=fun x y H Q=>rIxT K x y H Q\/rIxS x y H Q
theorem zmv {X:Cx} (K:PySem.W.Frag) (hK:X.K=K):IxR X (rIxP K):=by
 subst hK
 intro value slice pins s σ H x y v u Q I rx ry h hs
 rcases h with h | h
 ·exact znl value slice pins s σ H x y v u Q I rx ry h hs
 ·exact zeZ value slice pins s σ H x y v u Q I rx ry h hs
end L2
namespace Mc
open PySem L2
abbrev Mx:=Lan.Mx
abbrev Part:=Option Mx
structure Cf where
 rs:List Cs.Row
 keys:Str
 cast:Int
structure Ms where
 lanes:List (List Mx)
 line:List Part
 heat:List Part
 togo:Int
 bar:List Mx
 texts:List Str
 at_:Nat
 done:Int
 waits:Int
def key (c:Cf) (m:Ms):Option Nat:=c.keys.cps.toList[m.at_]?
def keyS (c:Cf) (m:Ms):Str:=match key c m with
 | some k=>sg k
 | none=>""
def zbE (ls:List (List Mx)) (k:Nat):Bool:=match ls[k]? with
 | some l=>l.isEmpty
 | none=>true
def zaH (c:Cf) (m:Ms):Bool:=match Cs.place c.rs (keyS c m) with
 | some k=>zbE m.lanes k
 | none=>false
def zeA (c:Cf) (m:Ms):Bool:=zaH c m && m.heat.isEmpty && m.bar.isEmpty
def zaT (c:Cf) (m:Ms):Bool:=(key c m).isNone && m.line.isEmpty && m.heat.isEmpty && m.bar.isEmpty
def zcc (ls:List (List Mx)) (k:Nat) (x:Mx):List (List Mx):=match ls[k]? with
 | some l=>ls.set k (l++[x])
 | none=>ls
def fall (c:Cf) (m:Ms):Ms:=match m.bar with
 | []=>m
 | x :: r=>match Mt.zbq (c.rs.map fun r=>r.t) x.2 with
   | some k=>{ m with bar:=r,lanes:=zcc m.lanes k x }
   | none=>m
def zbb:Part->Str
 | none=>" "
 | some x=>x.1
def zaE (l:List Part):Str:=Txt.join "" (l.map zbb)
def mats (l:List Part):List Mx:=l.filterMap id
def cool (m:Ms):Ms:=if m.heat.isEmpty=true then m else
 if m.togo - 1<=0 then { m with togo:=m.togo - 1,texts:=m.texts++[zaE m.heat],bar:=m.bar++mats m.heat,heat:=[] } else { m with togo:=m.togo - 1 }
def send (c:Cf) (m:Ms):Ms:=if m.heat.isEmpty=true then { m with heat:=m.line,togo:=c.cast,line:=[],at_:=m.at_+1 } else m
def take (m:Ms) (p:Part):Ms:={ m with line:=m.line++[p],at_:=m.at_+1 }
def pick (m:Ms) (k:Nat):Ms:=match m.lanes[k]? with
 | some (x :: r)=>take { m with lanes:=m.lanes.set k r } (some x)
 | _=>m
def strike (c:Cf) (m:Ms):Ms:=match key c m with
 | none=>m
 | some k=>if k=47 then send c m else if k=32 then take m none else if zaH c m=true then { m with waits:=m.waits+1 } else match Cs.place c.rs (sg k) with
   | some j=>pick m j
   | none=>m
def tick (c:Cf) (m:Ms):Ms:=let m1:=strike c (cool (fall c m));{ m1 with done:=m1.done+1 }
def still (c:Cf) (m:Ms):Bool:=zaT c m || zeA c m
def OkM (c:Cf) (x:Mx):Prop:=PyData.canLay0 (.str x.1)=true/\x.1.length<=1/\0<=x.2/\x.2 < 128/\∃ k,Mt.zbq (c.rs.map fun r=>r.t) x.2=some k/\k < c.rs.length
def cnt (m:Ms):Nat:=(m.lanes.map List.length).sum+m.line.length+m.heat.length+m.bar.length
structure OkC (c:Cf):Prop where
 few:c.rs.length<=30
 short:c.keys.length<=90000
 known:∀ k ∈ c.keys.cps.toList,k=47\/k=32\/((Cs.place c.rs (sg k)).isSome=true/\k ≠ 47/\k ≠ 32)
 ends:c.keys.cps.toList=[]\/∃ a,c.keys.cps.toList=a++[47]
 noWedge:Cs.place c.rs (sg 47)=none/\Cs.place c.rs (sg 32)=none/\Cs.place c.rs ""=none
 cast1:1<=c.cast
 th:∀ r ∈ c.rs,0<=r.t/\r.t < 128
 lay:PyData.canLay0 (.str c.keys)=true
structure Ok (c:Cf) (m:Ms):Prop where
 cf:OkC c
 ln:m.lanes.length=c.rs.length
 lm:∀ l ∈ m.lanes,∀ x ∈ l,OkM c x
 im:∀ x,some x ∈ m.line->OkM c x
 hm:∀ x,some x ∈ m.heat->OkM c x
 bm:∀ x ∈ m.bar,OkM c x
 le:m.at_<=c.keys.cps.toList.length
 en:m.at_=c.keys.cps.toList.length->m.line=[]
 sz:cnt m<=2000+m.at_
 tx:m.texts.length+(if m.heat.isEmpty=true then 0 else 1)<=m.at_
 tl:∀ t ∈ m.texts,PyData.canLay0 (.str t)=true
 tg:m.heat ≠ []->1<=m.togo
theorem zgx {c:Cf} {m:Ms} (h:Ok c m):m.at_<=90000:=by
 have h1:=h.le
 have h2:=h.cf.short
 have h3:c.keys.cps.toList.length=c.keys.length:=Array.length_toList
 omega
theorem zfY (ls:List (List Mx)) (k:Nat) (l l':List Mx) (h:ls[k]?=some l):((ls.set k l').map List.length).sum+l.length=(ls.map List.length).sum+l'.length:=by
 induction ls generalizing k with
 | nil=>simp at h
 | cons a r ih =>
   cases k with
   | zero =>
     have e:a=l:=Option.some.inj h
     subst e
     show (l'.length+(r.map List.length).sum)+a.length=(a.length+(r.map List.length).sum)+l'.length
     omega
   | succ j =>
     have:=ih j h
     show (a.length+((r.set j l').map List.length).sum)+l.length=(a.length+(r.map List.length).sum)+l'.length
     omega
theorem zoh {ls:List (List Mx)} {k:Nat} {l:List Mx} (h:ls[k]?=some l):l.length<=(ls.map List.length).sum:=by
 have:=zfY ls k l [] h
 have e:([]:List Mx).length=0:=rfl
 omega
theorem zeD (l:List Part):(mats l).length<=l.length:=List.length_filterMap_le _ _
theorem zmj {l:List Part} {x:Mx} (h:x ∈ mats l):some x ∈ l:=by
 obtain ⟨y,hy,e⟩:=List.mem_filterMap.mp h
 have e:y=some x:=e
 rw [<- e]
 exact hy
theorem Ok.fall {c:Cf} {m:Ms} (h:Ok c m):Ok c (fall c m):=by
 unfold Mc.fall
 cases hb:m.bar with
 | nil=>exact h
 | cons x r =>
   have hx:=h.bm x (by rw [hb];exact List.mem_cons_self)
   obtain ⟨_,_,_,_,k,hk,hkl⟩:=hx
   show Ok c (match Mt.zbq (c.rs.map fun r=>r.t) x.2 with
    | some k=>{ m with bar:=r,lanes:=zcc m.lanes k x }
    | none=>m)
   rw [hk]
   have hkl':k < m.lanes.length:=by rw [h.ln];exact hkl
   have hg:m.lanes[k]?=some m.lanes[k]:=List.getElem?_eq_getElem hkl'
   have ea:zcc m.lanes k x=m.lanes.set k (m.lanes[k]++[x]):=by unfold zcc;rw [hg]
   refine ⟨h.cf,?_,?_,h.im,h.hm,?_,h.le,h.en,?_,h.tx,h.tl,h.tg⟩
   ·show (zcc m.lanes k x).length=_
    rw [ea,List.length_set]
    exact h.ln
   ·intro l hl y hy
    have hl:l ∈ zcc m.lanes k x:=hl
    rw [ea] at hl
    rcases List.mem_or_eq_of_mem_set hl with hl | hl
    ·exact h.lm l hl y hy
    ·rw [hl] at hy
     rcases List.mem_append.mp hy with hy | hy
     ·exact h.lm _ (List.getElem_mem hkl') y hy
     ·rw [List.mem_singleton.mp hy]
      exact h.bm x (by rw [hb];exact List.mem_cons_self)
   ·intro y hy
    exact h.bm y (by rw [hb];exact List.mem_cons_of_mem _ hy)
   ·have hs:=h.sz
    have h1:=zfY m.lanes k _ (m.lanes[k]++[x]) hg
    rw [List.length_append] at h1
    unfold cnt at hs ⊢
    rw [hb] at hs
    show ((zcc m.lanes k x).map List.length).sum+m.line.length+m.heat.length+r.length<=2000+m.at_
    rw [ea]
    have e1:[x].length=1:=rfl
    have e2:(x :: r).length=r.length+1:=rfl
    omega
theorem zee (x:Str) (xs:List Str):Txt.join "" (x :: xs)=x++Txt.join "" xs:=by
 unfold Txt.join
 rw [StrLaws.glued_eq_join,StrLaws.glued_eq_join]
 cases xs with
 | nil=>exact (Lns.zgf x).symm
 | cons y r =>
   show x++""++Str.join "" (y :: r)=_
   rw [Lns.zgf]
theorem zjZ {x y:Str} (hx:PyData.canLay0 (.str x)=true) (hy:PyData.canLay0 (.str y)=true):PyData.canLay0 (.str (x++y))=true:=by
 have hx:(x.cps.all fun c=>decide (c < 0x110000))=true:=hx
 have hy:(y.cps.all fun c=>decide (c < 0x110000))=true:=hy
 show ((x++y).cps.all fun c=>decide (c < 0x110000))=true
 have e:(x++y).cps.toList=x.cps.toList++y.cps.toList:=Array.toList_append
 rw [<- Array.all_toList] at hx hy ⊢
 rw [e,List.all_append,hx,hy]
 rfl
theorem zmt {c:Cf} {l:List Part} (h:∀ x,some x ∈ l->OkM c x):PyData.canLay0 (.str (zaE l))=true:=by
 unfold zaE
 induction l with
 | nil=>decide +kernel
 | cons p r ih =>
   have ih:=ih fun x hx=>h x (List.mem_cons_of_mem _ hx)
   have e:Txt.join "" ((p :: r).map zbb)=zbb p++Txt.join "" (r.map zbb):=zee _ _
   rw [e]
   have hp:PyData.canLay0 (.str (zbb p))=true:=by
    cases p with
    | none=>decide +kernel
    | some x=>exact (h x List.mem_cons_self).1
   exact zjZ hp ih
theorem Ok.cool {c:Cf} {m:Ms} (h:Ok c m):Ok c (cool m):=by
 unfold Mc.cool
 split
 ·exact h
 ·rename_i he
  have hne:m.heat ≠ []:=fun z=>he (by rw [z];rfl)
  have ht:=h.tg hne
  split
  ·refine ⟨h.cf,h.ln,h.lm,h.im,(fun x hx=>by cases hx),?_,h.le,h.en,?_,?_,?_,fun z=>absurd rfl z⟩
   ·intro x hx
    rcases List.mem_append.mp hx with hx | hx
    ·exact h.bm x hx
    ·exact h.hm x (zmj hx)
   ·have hs:=h.sz
    have hl:=zeD m.heat
    unfold cnt at hs ⊢
    show (m.lanes.map List.length).sum+m.line.length+0+(m.bar++mats m.heat).length<=2000+m.at_
    rw [List.length_append]
    omega
   ·have h1:=h.tx
    rw [if_neg he] at h1
    show (m.texts++[zaE m.heat]).length+0<=m.at_
    rw [List.length_append]
    show m.texts.length+1+0<=_
    omega
   ·intro t ht
    rcases List.mem_append.mp ht with ht | ht
    ·exact h.tl t ht
    ·rw [List.mem_singleton.mp ht]
     exact zmt h.hm
  ·rename_i hg
   exact ⟨h.cf,h.ln,h.lm,h.im,h.hm,h.bm,h.le,h.en,h.sz,h.tx,h.tl,fun _=>by show 1<=m.togo - 1;omega⟩
theorem zkt {c:Cf} {m:Ms} {k:Nat} (h:key c m=some k):m.at_ < c.keys.cps.toList.length:=(List.getElem?_eq_some_iff.mp h).1
theorem zmJ {c:Cf} {m:Ms} {k:Nat} (h:OkC c) (hk:key c m=some k) (e:m.at_+1=c.keys.cps.toList.length):k=47:=by
 unfold key at hk
 rcases h.ends with z | ⟨a,z⟩
 ·rw [z] at e
  cases e
 ·rw [z] at e hk
  rw [List.length_append] at e
  have e:m.at_+1=a.length+1:=e
  rw [List.getElem?_append_right (by omega),show m.at_ - a.length=0 by omega] at hk
  exact (Option.some.inj hk).symm
theorem Ok.send {c:Cf} {m:Ms} (h:Ok c m) (hl:m.at_ < c.keys.cps.toList.length):Ok c (send c m):=by
 unfold Mc.send
 split
 ·rename_i he
  have hn:m.heat=[]:=List.isEmpty_iff.mp he
  refine ⟨h.cf,h.ln,h.lm,(fun x hx=>by cases hx),h.im,h.bm,hl,fun _=>rfl,?_,?_,h.tl,fun _=>h.cf.cast1⟩
  ·have hs:=h.sz
   unfold cnt at hs ⊢
   rw [hn] at hs
   have e:([]:List Part).length=0:=rfl
   show (m.lanes.map List.length).sum+0+m.line.length+m.bar.length<=2000+(m.at_+1)
   omega
  ·have h1:=h.tx
   rw [if_pos he] at h1
   show m.texts.length+(if m.line.isEmpty=true then 0 else 1)<=m.at_+1
   split <;> omega
 ·exact h
theorem Ok.take {c:Cf} {m:Ms} {k:Nat} {p:Part} (h:Ok c m) (hk:key c m=some k) (h47:k ≠ 47) (hp:∀ x,p=some x->OkM c x) (hs:cnt m+1<=2000+(m.at_+1)):Ok c (take m p):=by
 have hl:=zkt hk
 refine ⟨h.cf,h.ln,h.lm,?_,h.hm,h.bm,hl,?_,?_,?_,h.tl,h.tg⟩
 ·intro x hx
  rcases List.mem_append.mp hx with hx | hx
  ·exact h.im x hx
  ·exact hp x (List.mem_singleton.mp hx).symm
 ·intro e
  exact absurd (zmJ h.cf hk e) h47
 ·unfold cnt at hs ⊢
  show (m.lanes.map List.length).sum+(m.line++[p]).length+m.heat.length+m.bar.length<=2000+(m.at_+1)
  rw [List.length_append]
  show (m.lanes.map List.length).sum+(m.line.length+1)+m.heat.length+m.bar.length<=2000+(m.at_+1)
  omega
 ·have:=h.tx
  show m.texts.length+(if m.heat.isEmpty=true then 0 else 1)<=m.at_+1
  omega
theorem Ok.pick {c:Cf} {m:Ms} {k j:Nat} (h:Ok c m) (hk:key c m=some k) (h47:k ≠ 47):Ok c (pick m j):=by
 unfold Mc.pick
 split
 ·rename_i x r hx
  have h1:=zfY m.lanes j _ r hx
  have e2:(x :: r).length=r.length+1:=rfl
  have hb:Ok c { m with lanes:=m.lanes.set j r }:=by
   refine ⟨h.cf,by show (m.lanes.set j r).length=_;rw [List.length_set];exact h.ln,?_,h.im,h.hm,h.bm,h.le,h.en,?_,h.tx,h.tl,h.tg⟩
   ·intro l hl y hy
    rcases List.mem_or_eq_of_mem_set hl with hl | hl
    ·exact h.lm l hl y hy
    ·rw [hl] at hy
     exact h.lm _ (List.mem_of_getElem? hx) y (List.mem_cons_of_mem _ hy)
   ·have hs:=h.sz
    unfold cnt at hs ⊢
    show ((m.lanes.set j r).map List.length).sum+m.line.length+m.heat.length+m.bar.length<=2000+m.at_
    omega
  refine hb.take hk h47 (fun y e=>?_) ?_
  ·cases e
   exact h.lm _ (List.mem_of_getElem? hx) x List.mem_cons_self
  ·have hs:=h.sz
   unfold cnt at hs ⊢
   show ((m.lanes.set j r).map List.length).sum+m.line.length+m.heat.length+m.bar.length+1<=2000+(m.at_+1)
   omega
 ·exact h
theorem Ok.strike {c:Cf} {m:Ms} (h:Ok c m):Ok c (strike c m):=by
 unfold Mc.strike
 split
 ·exact h
 ·rename_i k hk
  split
  ·exact h.send (zkt hk)
  ·rename_i h47
   split
   ·exact h.take hk h47 (fun x e=>by cases e) (by have:=h.sz;omega)
   ·split
    ·exact ⟨h.cf,h.ln,h.lm,h.im,h.hm,h.bm,h.le,h.en,h.sz,h.tx,h.tl,h.tg⟩
    ·split
     ·exact h.pick hk h47
     ·exact h
theorem Ok.tick {c:Cf} {m:Ms} (h:Ok c m):Ok c (tick c m):=by
 have g:=h.fall.cool.strike
 exact ⟨g.cf,g.ln,g.lm,g.im,g.hm,g.bm,g.le,g.en,g.sz,g.tx,g.tl,g.tg⟩
def wt (c:Cf) (k:Nat):Nat:=if k=47 then 1+c.cast.toNat else if k=32 then 1 else 2
def left (c:Cf) (m:Ms):Nat:=((c.keys.cps.toList.drop m.at_).map (wt c)).sum
def work (c:Cf) (m:Ms):Nat:=left c m+(mats m.line).length+(mats m.heat).length+(if m.heat.isEmpty=true then 0 else m.togo.toNat)+m.bar.length
theorem zkE {c:Cf} {m:Ms} {k:Nat} (h:key c m=some k):left c m=wt c k+((c.keys.cps.toList.drop (m.at_+1)).map (wt c)).sum:=by
 unfold left
 have hl:=zkt h
 rw [List.drop_eq_getElem_cons hl]
 have e:c.keys.cps.toList[m.at_]=k:=by
  unfold key at h
  rw [List.getElem?_eq_getElem hl] at h
  exact Option.some.inj h
 rw [e]
 rfl
theorem zlY {c:Cf} {m:Ms} (h:Ok c m):work c (fall c m)+(if m.bar.isEmpty=true then 0 else 1)=work c m:=by
 unfold Mc.fall
 cases hb:m.bar with
 | nil=>rfl
 | cons x r =>
   obtain ⟨_,_,_,_,k,hk,_⟩:=h.bm x (by rw [hb];exact List.mem_cons_self)
   show work c (match Mt.zbq (c.rs.map fun r=>r.t) x.2 with
    | some k=>{ m with bar:=r,lanes:=zcc m.lanes k x }
    | none=>m)+1=work c m
   rw [hk]
   unfold work
   rw [hb]
   show left c m+(mats m.line).length+(mats m.heat).length+(if m.heat.isEmpty=true then 0 else m.togo.toNat)+r.length+1=left c m+(mats m.line).length+(mats m.heat).length+(if m.heat.isEmpty=true then 0 else m.togo.toNat)+(r.length+1)
   omega
theorem zkK {c:Cf} {m:Ms} (h:Ok c m):work c (cool m)+(if m.heat.isEmpty=true then 0 else 1)=work c m:=by
 unfold Mc.cool
 split
 ·rfl
 ·rename_i he
  have hne:m.heat ≠ []:=fun z=>he (by rw [z];rfl)
  have ht:=h.tg hne
  split
  ·unfold work
   rw [if_neg he]
   show left c m+(mats m.line).length+0+0+(m.bar++mats m.heat).length+1=left c m+(mats m.line).length+(mats m.heat).length+m.togo.toNat+m.bar.length
   rw [List.length_append]
   omega
  ·unfold work
   have e1:(if m.heat.isEmpty=true then 0 else m.togo.toNat)=m.togo.toNat:=if_neg he
   have e2:(if m.heat.isEmpty=true then 0 else (m.togo - 1).toNat)=(m.togo - 1).toNat:=if_neg he
   show left c m+(mats m.line).length+(mats m.heat).length+(if m.heat.isEmpty=true then 0 else (m.togo - 1).toNat)+m.bar.length+1=left c m+(mats m.line).length+(mats m.heat).length+(if m.heat.isEmpty=true then 0 else m.togo.toNat)+m.bar.length
   rw [e1,e2]
   omega
theorem zmy {c:Cf} {m:Ms} {k:Nat} (h:Ok c m) (hk:key c m=some k) (h47:k ≠ 47) (h32:k ≠ 32) (hl:zaH c m=false):∃ j,Cs.place c.rs (sg k)=some j/\∃ x r,m.lanes[j]?=some (x :: r):=by
 have hm:k ∈ c.keys.cps.toList:=List.mem_of_getElem? hk
 rcases h.cf.known k hm with z | z | ⟨z,_,_⟩
 ·exact absurd z h47
 ·exact absurd z h32
 obtain ⟨j,hj⟩:=Option.isSome_iff_exists.mp z
 refine ⟨j,hj,?_⟩
 have hjl:j < m.lanes.length:=by rw [h.ln];exact Cs.zei hj
 have hg:m.lanes[j]?=some m.lanes[j]:=List.getElem?_eq_getElem hjl
 unfold zaH keyS at hl
 rw [hk] at hl
 have hl:(match Cs.place c.rs (sg k) with | some k=>zbE m.lanes k | none=>false)=false:=hl
 rw [hj] at hl
 have hl:zbE m.lanes j=false:=hl
 unfold zbE at hl
 rw [hg] at hl
 have hl:(m.lanes[j]).isEmpty=false:=hl
 rw [hg]
 cases he:m.lanes[j] with
 | nil=>rw [he] at hl;cases hl
 | cons x r=>exact ⟨x,r,rfl⟩
def ziQ (c:Cf) (m:Ms):Bool:=match key c m with
 | none=>false
 | some k=>if k=47 then m.heat.isEmpty else if k=32 then true else !zaH c m
theorem zho (l:List Part) (p:Part):(mats (l++[p])).length=(mats l).length+(match p with | none=>0 | some _=>1):=by
 unfold mats
 rw [List.filterMap_append,List.length_append]
 cases p <;> rfl
theorem ziB {c:Cf} {m:Ms} (h:Ok c m):work c (strike c m)+(if ziQ c m=true then 1 else 0)<=work c m:=by
 unfold Mc.strike ziQ
 cases hk:key c m with
 | none=>exact Nat.le_refl _
 | some k =>
   have hl:=zkE hk
   have hc:=h.cf.cast1
   show work c (if k=47 then Mc.send c m else if k=32 then Mc.take m none else if zaH c m=true then { m with waits:=m.waits+1 } else match Cs.place c.rs (sg k) with
    | some j=>Mc.pick m j
    | none=>m)+(if (if k=47 then m.heat.isEmpty else if k=32 then true else !zaH c m)=true then 1 else 0)<=work c m
   by_cases h47:k=47
   ·rw [if_pos h47,if_pos h47]
    unfold Mc.send
    cases he:m.heat.isEmpty with
    | false=>exact Nat.le_refl _
    | true =>
      have hn:m.heat=[]:=List.isEmpty_iff.mp he
      rw [if_pos rfl,if_pos rfl]
      have e:wt c k=1+c.cast.toNat:=by unfold wt;rw [if_pos h47]
      have e3:(if m.line.isEmpty=true then 0 else c.cast.toNat)<=c.cast.toNat:=by split <;> omega
      have e4:work c m=wt c k+((c.keys.cps.toList.drop (m.at_+1)).map (wt c)).sum+(mats m.line).length+0+0+m.bar.length:=by
       unfold work
       rw [hl,if_pos he,hn]
       rfl
      rw [e4]
      show ((c.keys.cps.toList.drop (m.at_+1)).map (wt c)).sum+0+(mats m.line).length+(if m.line.isEmpty=true then 0 else c.cast.toNat)+m.bar.length+1<=_
      omega
   ·rw [if_neg h47,if_neg h47]
    by_cases h32:k=32
    ·rw [if_pos h32,if_pos h32,if_pos rfl]
     unfold work
     rw [hl]
     have e:wt c k=1:=by unfold wt;rw [if_neg h47,if_pos h32]
     have e2:(mats (m.line++[none])).length=(mats m.line).length+0:=zho m.line none
     show ((c.keys.cps.toList.drop (m.at_+1)).map (wt c)).sum+(mats (m.line++[none])).length+(mats m.heat).length+(if m.heat.isEmpty=true then 0 else m.togo.toNat)+m.bar.length+1<=_
     omega
    ·rw [if_neg h32,if_neg h32]
     have e:wt c k=2:=by unfold wt;rw [if_neg h47,if_neg h32]
     cases hla:zaH c m with
     | true=>exact Nat.le_refl _
     | false =>
       rw [if_neg (by decide),if_pos (by decide)]
       obtain ⟨j,hj,x,r,hx⟩:=zmy h hk h47 h32 hla
       rw [hj]
       show work c (Mc.pick m j)+1<=_
       have ep:Mc.pick m j=Mc.take { m with lanes:=m.lanes.set j r } (some x):=by unfold Mc.pick;rw [hx]
       rw [ep]
       unfold work
       rw [hl]
       have e2:(mats (m.line++[some x])).length=(mats m.line).length+1:=zho m.line (some x)
       show ((c.keys.cps.toList.drop (m.at_+1)).map (wt c)).sum+(mats (m.line++[some x])).length+(mats m.heat).length+(if m.heat.isEmpty=true then 0 else m.togo.toNat)+m.bar.length+1<=_
       omega
theorem zck (c:Cf) (m:Ms):(Mc.fall c m).at_=m.at_/\(Mc.fall c m).line=m.line/\(Mc.fall c m).heat=m.heat/\(Mc.fall c m).togo=m.togo/\(Mc.fall c m).texts=m.texts/\(Mc.fall c m).done=m.done/\(Mc.fall c m).waits=m.waits:=by
 unfold Mc.fall
 split
 ·exact ⟨rfl,rfl,rfl,rfl,rfl,rfl,rfl⟩
 ·split <;> exact ⟨rfl,rfl,rfl,rfl,rfl,rfl,rfl⟩
theorem zdR (m:Ms):(Mc.cool m).at_=m.at_/\(Mc.cool m).line=m.line/\(Mc.cool m).lanes=m.lanes/\(Mc.cool m).done=m.done/\(Mc.cool m).waits=m.waits:=by
 unfold Mc.cool
 split
 ·exact ⟨rfl,rfl,rfl,rfl,rfl⟩
 ·split <;> exact ⟨rfl,rfl,rfl,rfl,rfl⟩
theorem zeb {c:Cf} {m:Ms} (h:Ok c m) (hs:still c m=false):work c (tick c m) < work c m:=by
 have h1:=zlY h
 have h2:=zkK h.fall
 have h3:=ziB h.fall.cool
 have ew:work c (tick c m)=work c (Mc.strike c (Mc.cool (Mc.fall c m))):=rfl
 rw [ew]
 obtain ⟨f1,f2,f3,f4,f5,f6,f7⟩:=zck c m
 obtain ⟨c1,c2,c3,c4,c5⟩:=zdR (Mc.fall c m)
 by_cases hb:m.bar.isEmpty=true
 ·by_cases hh:m.heat.isEmpty=true
  ·have ef:Mc.fall c m=m:=by
    unfold Mc.fall
    rw [List.isEmpty_iff.mp hb]
   have ec:Mc.cool m=m:=by
    unfold Mc.cool
    rw [if_pos hh]
   rw [ef,ec] at h3 ⊢
   have ht:ziQ c m=true:=by
    unfold still zaT zeA at hs
    rw [hb,hh,Bool.and_true,Bool.and_true,Bool.and_true,Bool.and_true,Bool.or_eq_false_iff] at hs
    unfold ziQ
    cases hk:key c m with
    | none =>
      have hl:m.at_=c.keys.cps.toList.length:=by
       have h1:=h.le
       have h2:=List.getElem?_eq_none_iff.mp hk
       omega
      rw [hk,h.en hl] at hs
      exact absurd hs.1 (by decide)
    | some k =>
      show (if k=47 then m.heat.isEmpty else if k=32 then true else !zaH c m)=true
      rw [hh,hs.2]
      split
      ·rfl
      ·split <;> rfl
   rw [if_pos ht] at h3
   omega
  ·rw [f3,if_neg hh] at h2
   omega
 ·rw [if_neg hb] at h1
  omega
def runF (c:Cf):Nat->Ms->Ms
 | 0,m=>m
 | n+1,m=>if still c m=true then m else runF c n (tick c m)
def fin (c:Cf) (m:Ms):Ms:=runF c (work c m) m
theorem zbZ {c:Cf} {m:Ms} (h:still c m=true):∀ n,runF c n m=m
 | 0=>rfl
 | n+1=>by
   show (if still c m=true then m else runF c n (tick c m))=m
   rw [if_pos h]
theorem zgE {c:Cf} {m:Ms} (h:still c m=false) (n:Nat):runF c (n+1) m=runF c n (tick c m):=by
 show (if still c m=true then m else runF c n (tick c m))=_
 rw [h]
 rfl
theorem zjl {c:Cf} {m:Ms} (O:Ok c m) (h:work c m=0):still c m=true:=by
 cases e:still c m with
 | true=>rfl
 | false =>
   have:=zeb O e
   omega
theorem ziJ {c:Cf}:∀ (n k:Nat) {m:Ms},Ok c m->work c m<=n->work c m<=k->runF c n m=runF c k m
 | 0,k,m,O,h,_=>by rw [zbZ (zjl O (by omega)),zbZ (zjl O (by omega))]
 | n+1,k,m,O,h1,h2=>by
   cases hs:still c m with
   | true=>rw [zbZ hs,zbZ hs]
   | false =>
     have hw:=zeb O hs
     obtain ⟨j,rfl⟩:∃ j,k=j+1:=⟨k - 1,by omega⟩
     rw [zgE hs,zgE hs]
     exact ziJ n j O.tick (by omega) (by omega)
theorem zgG {c:Cf} {m:Ms} (h:still c m=true):fin c m=m:=zbZ h _
theorem zne {c:Cf} {m:Ms} (O:Ok c m) (h:still c m=false):fin c (tick c m)=fin c m:=by
 have hw:=zeb O h
 unfold fin
 obtain ⟨j,hj⟩:∃ j,work c m=j+1:=⟨work c m - 1,by omega⟩
 rw [hj,zgE h]
 exact ziJ _ _ O.tick (Nat.le_refl _) (by omega)
end Mc
namespace Mc
open PySem L2
def zcr (H:Hp) (v:V):Part->Prop
 | none=>v=.str " "
 | some x=>Lan.zbd H v x
def LnAt (H:Hp) (a:Addr) (ms:List Mx):Prop:=∃ xs,H a=some (.lst xs)/\Paired (Lan.zbd H) xs ms
def zgu (H:Hp) (a:Addr) (ps:List Part):Prop:=∃ xs,H a=some (.lst xs)/\Paired (zcr H) xs ps
structure Adr where
 L:Addr
 c:Addr
 l:Addr
 h:Addr
 b:Addr
 t:Addr
 ls:List Addr
def Adr.all (A:Adr):List Addr:=A.L :: A.c :: A.l :: A.h :: A.b :: A.t :: A.ls
def Keep (S:Addr->Prop) (H H':Hp):Prop:=∀ b o,H b=some o->(S b\/∃ xs,o=.tup xs)->H' b=some o
theorem Keep.of_same {S:Addr->Prop} {H H':Hp} (s:Same H H'):Keep S H H':=fun b o h _=>s b o h
theorem Keep.lst {H:Hp} {a:Addr} {ys:List V} {o:HO} (h:H a=some (.lst ys)):Keep (fun b=>b ≠ a) H (upd H a o):=fun b u hb hs=>by
 rcases hs with hs | ⟨xs,e⟩
 ·rw [zai hs]
  exact hb
 ·subst e
  rw [zai (zcq hb h fun z=>by cases z)]
  exact hb
theorem Keep.fld {H H':Hp} {p C dx:Addr} {fs:List (Str × V)} (h:H p=some (.ins C dx fs)) (k:∀ b,b ≠ p->H' b=H b):Keep (fun b=>b ≠ p) H H':=fun b u hb hs=>by
 rcases hs with hs | ⟨xs,e⟩
 ·rw [k b hs]
  exact hb
 ·subst e
  rw [k b (zcq hb h fun z=>by cases z)]
  exact hb
theorem Keep.trans {S:Addr->Prop} {H H1 H2:Hp} (a:Keep S H H1) (b:Keep S H1 H2):Keep S H H2:=fun x o h hs=>b x o (a x o h hs) hs
theorem zdY {S:Addr->Prop} {H H':Hp} {v:V} {x:Mx} (k:Keep S H H') (h:Lan.zbd H v x):Lan.zbd H' v x:=let ⟨a,e,z⟩:=h;⟨a,e,k _ _ z (.inr ⟨_,rfl⟩)⟩
theorem zdU {S:Addr->Prop} {H H':Hp} {v:V} {x:Part} (k:Keep S H H') (h:zcr H v x):zcr H' v x:=by
 cases x with
 | none=>exact h
 | some x=>exact zdY k h
theorem zbN {S:Addr->Prop} {H H':Hp} {xs:List V} {ms:List Mx} (k:Keep S H H') (h:Paired (Lan.zbd H) xs ms):Paired (Lan.zbd H') xs ms:=Paired.mapP h fun _ _ z=>zdY k z
theorem zbY {S:Addr->Prop} {H H':Hp} {xs:List V} {ms:List Part} (k:Keep S H H') (h:Paired (zcr H) xs ms):Paired (zcr H') xs ms:=Paired.mapP h fun _ _ z=>zdU k z
theorem zbM {S:Addr->Prop} {H H':Hp} {xs:List V} {rs:List Cs.Row} (k:Keep S H H') (h:Paired (Cs.zce H) xs rs):Paired (Cs.zce H') xs rs:=Paired.mapP h fun _ _ ⟨a,e,z⟩=>⟨a,e,k _ _ z (.inr ⟨_,rfl⟩)⟩
theorem LnAt.keep {S:Addr->Prop} {H H':Hp} {a:Addr} {ms:List Mx} (k:Keep S H H') (hs:S a) (h:LnAt H a ms):LnAt H' a ms:=let ⟨xs,e,z⟩:=h;⟨xs,k _ _ e (.inl hs),zbN k z⟩
theorem zgu.keep {S:Addr->Prop} {H H':Hp} {a:Addr} {ms:List Part} (k:Keep S H H') (hs:S a) (h:zgu H a ms):zgu H' a ms:=let ⟨xs,e,z⟩:=h;⟨xs,k _ _ e (.inl hs),zbY k z⟩
theorem zby {S:Addr->Prop} {H H':Hp} (k:Keep S H H'):∀ {ls:List Addr} {ms:List (List Mx)},(∀ a ∈ ls,S a)->Paired (LnAt H) ls ms->Paired (LnAt H') ls ms
 | _,_,_,.nil=>.nil
 | _,_,hs,.cons r t=>.cons (r.keep k (hs _ List.mem_cons_self)) (zby k (fun a ha=>hs a (List.mem_cons_of_mem _ ha)) t)
theorem zhW {H H':Hp} {p:Addr} {ms':List Mx} (k:Keep (fun b=>b ≠ p) H H') (hp:LnAt H' p ms'):∀ {ls:List Addr} {ms:List (List Mx)} (i:Nat),Paired (LnAt H) ls ms->ls.Nodup->ls[i]?=some p->Paired (LnAt H') ls (ms.set i ms')
 | _,_,_,.nil,_,h=>by simp at h
 | _,_,0,.cons r t,hn,h=>by
   have h:_=p:=Option.some.inj h
   subst h
   obtain ⟨hn1,_⟩:=List.nodup_cons.mp hn
   exact .cons hp (zby k (fun a ha e=>hn1 (e ▸ ha)) t)
 | _,_,i+1,.cons r t,hn,h=>by
   obtain ⟨hn1,hn2⟩:=List.nodup_cons.mp hn
   exact .cons (r.keep k fun e=>hn1 (e ▸ List.mem_of_getElem? h)) (zhW k hp i t hn2 h)
structure Lists (c:Cf) (H:Hp) (A:Adr) (m:Ms):Prop where
 rows:∃ xs,H A.c=some (.lst xs)/\Paired (Cs.zce H) xs c.rs
 lan:H A.L=some (.lst (A.ls.map V.ref))
 lns:Paired (LnAt H) A.ls m.lanes
 lin:zgu H A.l m.line
 het:zgu H A.h m.heat
 bar:LnAt H A.b m.bar
 txt:H A.t=some (.lst (m.texts.map V.str))
theorem Lists.keep {S:Addr->Prop} {c:Cf} {H H':Hp} {A:Adr} {m:Ms} (h:Lists c H A m) (k:Keep S H H') (hs:∀ a ∈ A.all,S a):Lists c H' A m:=by
 unfold Adr.all at hs
 obtain ⟨xs,e1,e2⟩:=h.rows
 exact ⟨⟨xs,k _ _ e1 (.inl (hs _ (by simp))),zbM k e2⟩,k _ _ h.lan (.inl (hs _ (by simp))),zby k (fun a ha=>hs a (by simp [ha])) h.lns,h.lin.keep k (hs _ (by simp)),h.het.keep k (hs _ (by simp)),h.bar.keep k (hs _ (by simp)),k _ _ h.txt (.inl (hs _ (by simp)))⟩
theorem Lists.is {c:Cf} {H:Hp} {A:Adr} {m:Ms} (h:Lists c H A m):∀ a ∈ A.all,∃ xs,H a=some (.lst xs):=by
 intro a ha
 obtain ⟨xs,e1,_⟩:=h.rows
 obtain ⟨x2,e2,_⟩:=h.lin
 obtain ⟨x3,e3,_⟩:=h.het
 obtain ⟨x4,e4,_⟩:=h.bar
 unfold Adr.all at ha
 simp only [List.mem_cons] at ha
 rcases ha with rfl | rfl | rfl | rfl | rfl | rfl | ha
 ·exact ⟨_,h.lan⟩
 ·exact ⟨_,e1⟩
 ·exact ⟨_,e2⟩
 ·exact ⟨_,e3⟩
 ·exact ⟨_,e4⟩
 ·exact ⟨_,h.txt⟩
 ·obtain ⟨i,hi,e⟩:=List.getElem_of_mem ha
  obtain ⟨_,_,xs,ex,_⟩:=Cs.zba h.lns (List.getElem?_eq_getElem hi)
  rw [e] at ex
  exact ⟨xs,ex⟩
def vals (c:Cf) (A:Adr) (m:Ms):List (Option V):=[some (.ref A.L),some (.ref A.c),some (.str c.keys),some (.int (m.at_:Int)),some (.int c.cast),some (.ref A.l),some (.ref A.h),some (.int m.togo),some (.ref A.b),some (.ref A.t),some (.int m.done),some (.int m.waits)]
structure Mac (C:Addr) (ns:List Str) (c:Cf) (H:Hp) (p:Addr) (A:Adr) (m:Ms):Prop where
 ins:zcF C ns H p (vals c A m)
 nd:A.all.Nodup
 li:Lists c H A m
structure Step (p:Addr) (A:Adr) (H:Hp) (A':Adr) (H':Hp):Prop where
 fr:∀ b o,H b=some o->((b ≠ p/\b ∉ A.all)\/∃ xs,o=.tup xs)->H' b=some o
 nw:∀ b ∈ A'.all,b ∈ A.all\/H b=none
 al:∀ b o,H b=some o->∃ o',H' b=some o'
theorem Step.of_same {p:Addr} {A:Adr} {H H':Hp} (s:Same H H'):Step p A H A H':=⟨fun b o h _=>s b o h,fun b h=>.inl h,fun b o h=>⟨o,s b o h⟩⟩
theorem Step.trans {p:Addr} {A A1 A2:Adr} {H H1 H2:Hp} (a:Step p A H A1 H1) (b:Step p A1 H1 A2 H2):Step p A H A2 H2:=by
 refine ⟨fun x o h hs=>?_,fun x hx=>?_,fun x o h=>?_⟩
 ·refine b.fr x o (a.fr x o h hs) (hs.imp (fun ⟨h1,h2⟩=>⟨h1,fun z=>?_⟩) id)
  rcases a.nw x z with z | z
  ·exact h2 z
  ·rw [h] at z
   cases z
 ·rcases b.nw x hx with z | z
  ·exact a.nw x z
  ·refine .inr ?_
   cases e:H x with
   | none=>rfl
   | some o =>
     obtain ⟨o',e'⟩:=a.al x o e
     rw [z] at e'
     cases e'
 ·obtain ⟨o1,h1⟩:=a.al x o h
  exact b.al x o1 h1
theorem Mac.pne {C:Addr} {ns:List Str} {c:Cf} {H:Hp} {p:Addr} {A:Adr} {m:Ms} (h:Mac C ns c H p A m):∀ a ∈ A.all,a ≠ p:=fun a ha=>by
 obtain ⟨xs,e⟩:=h.li.is a ha
 obtain ⟨dx,fs,e2,_⟩:=h.ins
 exact zcq e e2 fun z=>by cases z
theorem Mac.same {C:Addr} {ns:List Str} {c:Cf} {H H':Hp} {p:Addr} {A:Adr} {m:Ms} (h:Mac C ns c H p A m) (s:Same H H'):Mac C ns c H' p A m:=⟨h.ins.same s,h.nd,h.li.keep (Keep.of_same (S:=fun _=>True) s) fun _ _=>trivial⟩
theorem Mac.apart {C C':Addr} {ns:List Str} {c:Cf} {H H':Hp} {p q:Addr} {A B B':Adr} {m:Ms} (h:Mac C ns c H p A m) (s:Step q B H B' H') (hq:p ≠ q) (hB:p ∉ B.all) (hA:∀ a ∈ A.all,a ≠ q/\a ∉ B.all):Mac C ns c H' p A m:=by
 obtain ⟨dx,fs,e,F⟩:=h.ins
 exact ⟨⟨dx,fs,s.fr _ _ e (.inl ⟨hq,hB⟩),F⟩,h.nd,h.li.keep (S:=fun b=>b ≠ q/\b ∉ B.all) (fun b o hb hs=>s.fr b o hb hs) hA⟩
theorem Mac.fields {C:Addr} {ns:List Str} {c:Cf} {H H':Hp} {p:Addr} {A':Adr} {m':Ms} {vs:List (Option V)} (h0:zcF C ns H p vs) (h:zcF C ns H' p (vals c A' m')) (k:∀ b,b ≠ p->H' b=H b) (l:Lists c H A' m') (n:A'.all.Nodup):Mac C ns c H' p A' m':=by
 obtain ⟨dx,fs,e,_⟩:=h0
 refine ⟨h,n,l.keep (Keep.fld e k) fun a ha=>?_⟩
 obtain ⟨xs,ex⟩:=l.is a ha
 exact zcq ex e fun z=>by cases z
theorem Step.fields {H H':Hp} {p C dx:Addr} {A:Adr} {fs fs':List (Str × V)} (h:H p=some (.ins C dx fs)) (h':H' p=some (.ins C dx fs')) (k:∀ b,b ≠ p->H' b=H b):Step p A H A H':=by
 refine ⟨fun b o hb hs=>?_,fun b hb=>.inl hb,fun b o hb=>?_⟩
 ·rcases hs with ⟨hs,_⟩ | ⟨xs,e⟩
  ·rw [k b hs]
   exact hb
  ·subst e
   rw [k b (zcq hb h fun z=>by cases z)]
   exact hb
 ·by_cases e:b=p
  ·rw [e]
   exact ⟨_,h'⟩
  ·exact ⟨o,by rw [k b e];exact hb⟩
theorem Step.lst {H:Hp} {p a:Addr} {A:Adr} {ys:List V} {o:HO} (ha:a ∈ A.all) (h:H a=some (.lst ys)):Step p A H A (upd H a o):=by
 refine ⟨fun b u hb hs=>?_,fun b hb=>.inl hb,fun b u hb=>?_⟩
 ·exact Keep.lst h b u hb (hs.imp (fun z e=>z.2 (e ▸ ha)) id)
 ·by_cases e:b=a
  ·rw [e]
   exact ⟨_,upd_same⟩
  ·exact ⟨u,by rw [zai e];exact hb⟩
theorem zgB {C:Addr} {ns:List Str} {H:Hp} {p a:Addr} {ys:List V} {o:HO} {vs:List (Option V)} (h:zcF C ns H p vs) (ha:H a=some (.lst ys)):zcF C ns (upd H a o) p vs:=by
 obtain ⟨dx,fs,e,F⟩:=h
 exact ⟨dx,fs,by rw [zai (zcq e ha fun z=>by cases z)];exact e,F⟩
structure Dis (A:Adr):Prop where
 Lc:A.L ≠ A.c
 Ll:A.L ≠ A.l
 Lh:A.L ≠ A.h
 Lb:A.L ≠ A.b
 Lt:A.L ≠ A.t
 cl:A.c ≠ A.l
 ch:A.c ≠ A.h
 cb:A.c ≠ A.b
 ct:A.c ≠ A.t
 lh:A.l ≠ A.h
 lb:A.l ≠ A.b
 lt:A.l ≠ A.t
 hb:A.h ≠ A.b
 ht:A.h ≠ A.t
 bt:A.b ≠ A.t
 ls:∀ q ∈ A.ls,q ≠ A.L/\q ≠ A.c/\q ≠ A.l/\q ≠ A.h/\q ≠ A.b/\q ≠ A.t
 nd:A.ls.Nodup
theorem zhv {A:Adr} (h:A.all.Nodup):Dis A:=by
 unfold Adr.all at h
 simp only [List.nodup_cons,List.mem_cons,not_or] at h
 obtain ⟨⟨a1,a2,a3,a4,a5,a6⟩,⟨b1,b2,b3,b4,b5⟩,⟨c1,c2,c3,c4⟩,⟨d1,d2,d3⟩,⟨e1,e2⟩,f1,n⟩:=h
 refine ⟨a1,a2,a3,a4,a5,b1,b2,b3,b4,c1,c2,c3,d1,d2,e1,fun q hq=>⟨?_,?_,?_,?_,?_,?_⟩,n⟩
 all_goals
  intro e
  rw [e] at hq
  contradiction
theorem Mac.setLane {C:Addr} {ns:List Str} {c:Cf} {H:Hp} {p q:Addr} {A:Adr} {m:Ms} {k:Nat} {ys xs:List V} {l:List Mx} (h:Mac C ns c H p A m) (hq:A.ls[k]?=some q) (hy:H q=some (.lst ys)) (hx:Paired (Lan.zbd H) xs l) :
 Mac C ns c (upd H q (.lst xs)) p A { m with lanes:=m.lanes.set k l }:=by
 have d:=zhv h.nd
 have kp:Keep (fun b=>b ≠ q) H (upd H q (.lst xs)):=Keep.lst hy
 obtain ⟨n1,n2,n3,n4,n5,n6⟩:=d.ls q (List.mem_of_getElem? hq)
 obtain ⟨zs,e1,e2⟩:=h.li.rows
 exact ⟨zgB h.ins hy,h.nd,⟨⟨zs,kp _ _ e1 (.inl n2.symm),zbM kp e2⟩,kp _ _ h.li.lan (.inl n1.symm),zhW kp ⟨xs,upd_same,zbN kp hx⟩ k h.li.lns d.nd hq,h.li.lin.keep kp n3.symm,h.li.het.keep kp n4.symm,h.li.bar.keep kp n5.symm,kp _ _ h.li.txt (.inl n6.symm)⟩⟩
theorem Mac.setBar {C:Addr} {ns:List Str} {c:Cf} {H:Hp} {p:Addr} {A:Adr} {m:Ms} {ys xs:List V} {l:List Mx} (h:Mac C ns c H p A m) (hy:H A.b=some (.lst ys)) (hx:Paired (Lan.zbd H) xs l) :
 Mac C ns c (upd H A.b (.lst xs)) p A { m with bar:=l }:=by
 have d:=zhv h.nd
 have kp:Keep (fun b=>b ≠ A.b) H (upd H A.b (.lst xs)):=Keep.lst hy
 obtain ⟨zs,e1,e2⟩:=h.li.rows
 exact ⟨zgB h.ins hy,h.nd,⟨⟨zs,kp _ _ e1 (.inl d.cb),zbM kp e2⟩,kp _ _ h.li.lan (.inl d.Lb),zby kp (fun a ha=>(d.ls a ha).2.2.2.2.1) h.li.lns,h.li.lin.keep kp d.lb,h.li.het.keep kp d.hb,⟨xs,upd_same,zbN kp hx⟩,kp _ _ h.li.txt (.inl d.bt.symm)⟩⟩
theorem Mac.setTxt {C:Addr} {ns:List Str} {c:Cf} {H:Hp} {p:Addr} {A:Adr} {m:Ms} {ys:List V} {l:List Str} (h:Mac C ns c H p A m) (hy:H A.t=some (.lst ys)) :
 Mac C ns c (upd H A.t (.lst (l.map V.str))) p A { m with texts:=l }:=by
 have d:=zhv h.nd
 have kp:Keep (fun b=>b ≠ A.t) H (upd H A.t (.lst (l.map V.str))):=Keep.lst hy
 obtain ⟨zs,e1,e2⟩:=h.li.rows
 exact ⟨zgB h.ins hy,h.nd,⟨⟨zs,kp _ _ e1 (.inl d.ct),zbM kp e2⟩,kp _ _ h.li.lan (.inl d.Lt),zby kp (fun a ha=>(d.ls a ha).2.2.2.2.2) h.li.lns,h.li.lin.keep kp d.lt,h.li.het.keep kp d.ht,h.li.bar.keep kp d.bt,upd_same⟩⟩
theorem Mac.setLine {C:Addr} {ns:List Str} {c:Cf} {H:Hp} {p:Addr} {A:Adr} {m:Ms} {ys xs:List V} {l:List Part} (h:Mac C ns c H p A m) (hy:H A.l=some (.lst ys)) (hx:Paired (zcr H) xs l) :
 Mac C ns c (upd H A.l (.lst xs)) p A { m with line:=l }:=by
 have d:=zhv h.nd
 have kp:Keep (fun b=>b ≠ A.l) H (upd H A.l (.lst xs)):=Keep.lst hy
 obtain ⟨zs,e1,e2⟩:=h.li.rows
 exact ⟨zgB h.ins hy,h.nd,⟨⟨zs,kp _ _ e1 (.inl d.cl),zbM kp e2⟩,kp _ _ h.li.lan (.inl d.Ll),zby kp (fun a ha=>(d.ls a ha).2.2.1) h.li.lns,⟨xs,upd_same,zbY kp hx⟩,h.li.het.keep kp d.lh.symm,h.li.bar.keep kp d.lb.symm,kp _ _ h.li.txt (.inl d.lt.symm)⟩⟩
def mxD (m:Mx):PyData:=.tuple [.str m.1,.int m.2]
def zbu:Part->PyData
 | none=>.str " "
 | some x=>mxD x
theorem zlg {K:PySem.W.Frag} {H:Hp} {v:V} {x:Mx} (h:Lan.zbd H v x) (hl:PyData.canLay0 (.str x.1)=true):Den K H v (mxD x):=by
 obtain ⟨t,rfl,e⟩:=h
 exact .tup (SqT.of e) (.cons (.str _ hl) (.cons (.int _) .nil))
theorem zgs {K:PySem.W.Frag} {H:Hp} {v:V} {p:Part} (h:zcr H v p) (hl:∀ x,p=some x->PyData.canLay0 (.str x.1)=true):Den K H v (zbu p):=by
 cases p with
 | none =>
   have h:v=.str " ":=h
   rw [h]
   exact .str _ (by decide +kernel)
 | some x=>exact zlg h (hl x rfl)
theorem zhr {K:PySem.W.Frag} {H:Hp}:∀ {xs:List V} {ms:List Mx},Paired (Lan.zbd H) xs ms->(∀ m ∈ ms,PyData.canLay0 (.str m.1)=true)->DenL K H xs (ms.map mxD)
 | _,_,.nil,_=>.nil
 | _,_,.cons h r,c=>.cons (zlg h (c _ List.mem_cons_self)) (zhr r fun x hx=>c x (List.mem_cons_of_mem _ hx))
theorem zfF {K:PySem.W.Frag} {H:Hp}:∀ {xs:List V} {ms:List Part},Paired (zcr H) xs ms->(∀ x,some x ∈ ms->PyData.canLay0 (.str x.1)=true)->DenL K H xs (ms.map zbu)
 | _,_,.nil,_=>.nil
 | _,_,.cons h r,c=>.cons (zgs h fun x e=>c x (by rw [e];exact List.mem_cons_self)) (zfF r fun x hx=>c x (List.mem_cons_of_mem _ hx))
theorem LnAt.den {K:PySem.W.Frag} {H:Hp} {a:Addr} {ms:List Mx} (h:LnAt H a ms) (hl:∀ m ∈ ms,PyData.canLay0 (.str m.1)=true):Den K H (.ref a) (.list (ms.map mxD)):=let ⟨_,e,z⟩:=h;.lst (SqL.of e) (zhr z hl)
theorem zgu.den {K:PySem.W.Frag} {H:Hp} {a:Addr} {ms:List Part} (h:zgu H a ms) (hl:∀ x,some x ∈ ms->PyData.canLay0 (.str x.1)=true):Den K H (.ref a) (.list (ms.map zbu)):=let ⟨_,e,z⟩:=h;.lst (SqL.of e) (zfF z hl)
theorem zcn {K:PySem.W.Frag} {H:Hp} {a:Addr} (h:H a=some (.lst [])):Den K H (.ref a) (.list []):=.lst (SqL.of h) .nil
theorem zbS {α:Type} (f:α->PyData) (l:List α):PyData.eqv (.list (l.map f)) (.list [])=l.isEmpty:=by
 cases l with
 | nil=>rfl
 | cons a r=>rfl
theorem zcp (d:PyData):min d.depth (PyData.list []).depth<=64:=by
 have:(PyData.list []).depth=1:=rfl
 omega
end Mc
namespace Mc
open PySem L2
theorem zfM {c:Cf} {m:Ms} (h:Cs.place c.rs (keyS c m)=none):zaH c m=false:=by
 unfold zaH
 rw [h]
theorem zjP {c:Cf} {m:Ms} {k:Nat} (h:Cs.place c.rs (keyS c m)=some k):zaH c m=zbE m.lanes k:=by
 unfold zaH
 rw [h]
theorem zjx {ls:List (List Mx)} {k:Nat} {l:List Mx} (h:ls[k]?=some l):zbE ls k=l.isEmpty:=by
 unfold zbE
 rw [h]
theorem Mac.lane {C:Addr} {ns:List Str} {c:Cf} {H:Hp} {p:Addr} {A:Adr} {m:Ms} {k:Nat} (h:Mac C ns c H p A m) (O:Ok c m) (hk:k < c.rs.length):∃ q l,A.ls[k]?=some q/\m.lanes[k]?=some l/\LnAt H q l/\atI (A.ls.map V.ref) (k:Int)=some (.ref q):=by
 have hl:k < m.lanes.length:=by rw [O.ln];exact hk
 obtain ⟨q,hq,hln⟩:=Cs.zeh h.li.lns (List.getElem?_eq_getElem hl)
 exact ⟨q,_,hq,List.getElem?_eq_getElem hl,hln,zbw (by rw [List.getElem?_map,hq];rfl)⟩
theorem Ok.llay {c:Cf} {m:Ms} {k:Nat} {l:List Mx} (O:Ok c m) (h:m.lanes[k]?=some l):∀ x ∈ l,PyData.canLay0 (.str x.1)=true:=fun x hx=>(O.lm l (List.mem_of_getElem? h) x hx).1
theorem Ok.hlay {c:Cf} {m:Ms} (O:Ok c m):∀ x,some x ∈ m.heat->PyData.canLay0 (.str x.1)=true:=fun x hx=>(O.hm x hx).1
theorem Ok.ilay {c:Cf} {m:Ms} (O:Ok c m):∀ x,some x ∈ m.line->PyData.canLay0 (.str x.1)=true:=fun x hx=>(O.im x hx).1
theorem Ok.blay {c:Cf} {m:Ms} (O:Ok c m):∀ x ∈ m.bar,PyData.canLay0 (.str x.1)=true:=fun x hx=>(O.bm x hx).1
theorem Step.flds {H H':Hp} {p C:Addr} {ns:List Str} {A:Adr} {vs vs':List (Option V)} (h:zcF C ns H p vs) (h':zcF C ns H' p vs') (k:∀ b,b ≠ p->H' b=H b):Step p A H A H':=by
 obtain ⟨dx,fs,e,_⟩:=h
 obtain ⟨dx',fs',e',_⟩:=h'
 refine ⟨fun b o hb hs=>?_,fun b hb=>.inl hb,fun b o hb=>?_⟩
 ·rcases hs with ⟨hs,_⟩ | ⟨xs,z⟩
  ·rw [k b hs]
   exact hb
  ·subst z
   rw [k b (zcq hb e fun z=>by cases z)]
   exact hb
 ·by_cases z:b=p
  ·rw [z]
   exact ⟨_,e'⟩
  ·exact ⟨o,by rw [k b z];exact hb⟩
theorem Mac.setF {C:Addr} {ns:List Str} {c:Cf} {H H':Hp} {p:Addr} {A:Adr} {m m':Ms} (h:Mac C ns c H p A m) (i:zcF C ns H' p (vals c A m')) (k:∀ b,b ≠ p->H' b=H b)
 (e1:m'.lanes=m.lanes) (e2:m'.line=m.line) (e3:m'.heat=m.heat) (e4:m'.bar=m.bar) (e5:m'.texts=m.texts):Mac C ns c H' p A m':=by
 refine Mac.fields h.ins i k ⟨h.li.rows,h.li.lan,?_,?_,?_,?_,?_⟩ h.nd
 ·rw [e1];exact h.li.lns
 ·rw [e2];exact h.li.lin
 ·rw [e3];exact h.li.het
 ·rw [e4];exact h.li.bar
 ·rw [e5];exact h.li.txt
theorem zeN {H:Hp} {xs:List V} {ps:List Part} {i:Nat} {x:V} (h:Paired (zcr H) xs ps) (hx:xs[i]?=some x):∃ p,ps[i]?=some p/\zcr H x p:=Cs.zba h hx
theorem zgJ {ps:List Part} {i:Nat} {p:Part} (h:ps[i]?=some p):mats (ps.take (i+1))=mats (ps.take i)++p.toList:=by
 unfold mats
 rw [List.take_add_one,h,List.filterMap_append]
 cases p <;> rfl
theorem nd_h {A:Adr} {e:Addr} (n:A.all.Nodup) (h:e ∉ A.all):({ A with h:=e }:Adr).all.Nodup:=by
 unfold Adr.all at n h ⊢
 simp only [List.nodup_cons,List.mem_cons,not_or] at n h ⊢
 obtain ⟨⟨a1,a2,a3,a4,a5,a6⟩,⟨b1,b2,b3,b4,b5⟩,⟨c1,c2,c3,c4⟩,⟨d1,d2,d3⟩,⟨e1,e2⟩,f1,n⟩:=n
 obtain ⟨h1,h2,h3,h4,h5,h6,h7⟩:=h
 exact ⟨⟨a1,a2,Ne.symm h1,a4,a5,a6⟩,⟨b1,Ne.symm h2,b3,b4,b5⟩,⟨Ne.symm h3,c2,c3,c4⟩,⟨h5,h6,h7⟩,⟨e1,e2⟩,f1,n⟩
theorem nd_s {A:Adr} {e:Addr} (n:A.all.Nodup) (h:e ∉ A.all):({ A with h:=A.l,l:=e }:Adr).all.Nodup:=by
 unfold Adr.all at n h ⊢
 simp only [List.nodup_cons,List.mem_cons,not_or] at n h ⊢
 obtain ⟨⟨a1,a2,a3,a4,a5,a6⟩,⟨b1,b2,b3,b4,b5⟩,⟨c1,c2,c3,c4⟩,⟨d1,d2,d3⟩,⟨e1,e2⟩,f1,n⟩:=n
 obtain ⟨h1,h2,h3,h4,h5,h6,h7⟩:=h
 exact ⟨⟨a1,Ne.symm h1,a2,a4,a5,a6⟩,⟨Ne.symm h2,b1,b3,b4,b5⟩,⟨h3,h5,h6,h7⟩,⟨c2,c3,c4⟩,⟨e1,e2⟩,f1,n⟩
theorem Mac.new {C:Addr} {ns:List Str} {c:Cf} {H:Hp} {p:Addr} {A:Adr} {m:Ms} {e:Addr} (h:Mac C ns c H p A m) (he:H e=none):e ∉ A.all:=fun z=>by
 obtain ⟨xs,ex⟩:=h.li.is e z
 rw [he] at ex
 cases ex
theorem zkc {c:Cf} {l:List Part} (h:∀ x,some x ∈ l->OkM c x) (hl:l.length<=100000):((l.map zbb).map (·.length)).sum+(l.map zbb).length * (Str.ofString "").length<=16777216:=by
 have h1:=Lns.zeT (fun x:Str=>x.length) 1 100000 (l.map zbb) (fun x hx=>by
  obtain ⟨p,hp,rfl⟩:=List.mem_map.mp hx
  cases p with
  | none=>exact Nat.le_refl 1
  | some x=>exact (h x hp).2.1) (by rw [List.length_map];exact hl)
 have e:(Str.ofString "").length=0:=by decide
 rw [e,Nat.mul_zero]
 have h1:((l.map zbb).map (·.length)).sum<=100000 * 1:=h1
 omega
theorem zji:PyData.eqv (.str " ") (.str " ")=true:=by decide +kernel
theorem Step.free {p:Addr} {A A':Adr} {H H':Hp} {b:Addr} (s:Step p A H A' H') (h:H' b=none):H b=none:=by
 cases e:H b with
 | none=>rfl
 | some o =>
   obtain ⟨o',e'⟩:=s.al b o e
   rw [h] at e'
   cases e'
theorem Step.to {p:Addr} {A A1 A':Adr} {H H':Hp} (s:Step p A H A1 H') (h:∀ b ∈ A'.all,b ∈ A1.all\/H b=none):Step p A H A' H':=⟨s.fr,fun b hb=>(h b hb).elim (s.nw b) .inr,s.al⟩
theorem zuJ {A:Adr} {e:Addr} {H:Hp} (he:H e=none):∀ b ∈ ({ A with h:=e }:Adr).all,b ∈ A.all\/H b=none:=by
 intro b hb
 unfold Adr.all at hb ⊢
 simp only [List.mem_cons] at hb ⊢
 rcases hb with rfl | rfl | rfl | rfl | rfl | rfl | hb
 ·exact .inl (.inl rfl)
 ·exact .inl (.inr (.inl rfl))
 ·exact .inl (.inr (.inr (.inl rfl)))
 ·exact .inr he
 ·exact .inl (.inr (.inr (.inr (.inr (.inl rfl)))))
 ·exact .inl (.inr (.inr (.inr (.inr (.inr (.inl rfl))))))
 ·exact .inl (.inr (.inr (.inr (.inr (.inr (.inr hb))))))
theorem ztz {A:Adr} {e:Addr} {H:Hp} (he:H e=none):∀ b ∈ ({ A with h:=A.l,l:=e }:Adr).all,b ∈ A.all\/H b=none:=by
 intro b hb
 unfold Adr.all at hb ⊢
 simp only [List.mem_cons] at hb ⊢
 rcases hb with rfl | rfl | rfl | rfl | rfl | rfl | hb
 ·exact .inl (.inl rfl)
 ·exact .inl (.inr (.inl rfl))
 ·exact .inr he
 ·exact .inl (.inr (.inr (.inl rfl)))
 ·exact .inl (.inr (.inr (.inr (.inr (.inl rfl)))))
 ·exact .inl (.inr (.inr (.inr (.inr (.inr (.inl rfl))))))
 ·exact .inl (.inr (.inr (.inr (.inr (.inr (.inr hb))))))
theorem sgD {c d:Nat}:decide (V.str (sg c)=V.str (sg d))=decide (c=d):=by
 rw [Cs.strV,decide_eq_decide]
 refine ⟨fun h=>?_,fun h=>by rw [h]⟩
 have h:(#[c]:Array Nat)=#[d]:=congrArg Str.cps h
 simpa using h
theorem zkV {c:Cf} {m:Ms} {k:Nat} (h:key c m=some k):keyS c m=sg k:=by
 unfold keyS
 rw [h]
theorem zlJ {c:Cf} {m:Ms} (h:key c m=none):keyS c m="":=by
 unfold keyS
 rw [h]
def zaZ (rs:List Cs.Row):List (List Mx):=rs.map fun r=>List.replicate r.n.toNat (r.s,r.t)
def start (rs:List Cs.Row):Ms:=⟨zaZ rs,[],[],0,[],[],0,0,0⟩
theorem zjX {H0 H:Hp} {no:Addr} {zs:List V} {ms:List (List Mx)} (h:Paired (Lan.zcv H0 no H) zs ms) (hn:zs.Nodup):∃ ls:List Addr,zs=ls.map V.ref/\Paired (LnAt H) ls ms/\(no :: ls).Nodup/\∀ z ∈ ls,H0 z=none:=by
 induction h with
 | nil=>exact ⟨[],rfl,.nil,by simp,fun z hz=>nomatch hz⟩
 | cons x t ih =>
   obtain ⟨p,xs,e,n,f,z,m⟩:=x
   obtain ⟨hn1,hn2⟩:=List.nodup_cons.mp hn
   obtain ⟨ls,e2,h2,h3,h4⟩:=ih hn2
   obtain ⟨h31,h32⟩:=List.nodup_cons.mp h3
   refine ⟨p :: ls,by rw [e,e2];rfl,.cons ⟨xs,z,m⟩ h2,?_,fun y hy=>?_⟩
   ·rw [List.nodup_cons,List.nodup_cons]
    refine ⟨fun hz=>?_,fun hz=>?_,h32⟩
    ·rcases List.mem_cons.mp hz with hz | hz
     ·exact n hz.symm
     ·exact h31 hz
    ·rw [e,e2] at hn1
     exact hn1 (List.mem_map_of_mem hz)
   ·rcases List.mem_cons.mp hy with hy | hy
    ·rw [hy];exact f
    ·exact h4 y hy
def Off (p:Addr) (H H':Hp):Prop:=∀ b o,b ≠ p->H b=some o->H' b=some o
theorem Off.of_same {p:Addr} {H H':Hp} (s:Same H H'):Off p H H':=fun b o _ h=>s b o h
theorem Off.of_fld {p:Addr} {H H':Hp} (k:∀ b,b ≠ p->H' b=H b):Off p H H':=fun b o hb h=>(k b hb).trans h
theorem Off.trans {p:Addr} {H H1 H2:Hp} (a:Off p H H1) (b:Off p H1 H2):Off p H H2:=fun x o hx h=>b x o hx (a x o hx h)
theorem Off.free {p C:Addr} {ns:List Str} {vs:List (Option V)} {H H':Hp} {b:Addr} (o:Off p H H') (i:zcF C ns H' p vs) (h:H' b=none):H b=none:=by
 cases e:H b with
 | none=>rfl
 | some x =>
   have hb:b ≠ p:=fun z=>by
    obtain ⟨dx,fs,e',_⟩:=i
    rw [z,e'] at h
    cases h
   rw [o b x hb e] at h
   cases h
theorem Off.keep {p C:Addr} {ns:List Str} {vs:List (Option V)} {H H':Hp} (i:zcF C ns H p vs) (o:Off p H H'):Keep (fun b=>b ≠ p) H H':=fun b u hb hs=>by
 obtain ⟨dx,fs,e,_⟩:=i
 rcases hs with hs | ⟨xs,z⟩
 ·exact o b u hs hb
 ·subst z
  exact o b _ (zcq hb e fun z=>by cases z) hb
theorem zlV {p C q:Addr} {ns:List Str} {vs:List (Option V)} {H:Hp} {xs:List V} (i:zcF C ns H p vs) (h:H q=some (.lst xs)):q ≠ p:=by
 obtain ⟨dx,fs,e,_⟩:=i
 exact zcq h e fun z=>by cases z
theorem zej {p C q:Addr} {ns:List Str} {vs:List (Option V)} {H:Hp} (i:zcF C ns H p vs) (h:H q=none):q ≠ p:=fun e=>by
 obtain ⟨dx,fs,e',_⟩:=i
 rw [e,e'] at h
 cases h
def Wd (rs:List Cs.Row) (m:Nat) (x:Str):Prop:=1<=x.length/\x.length<=m/\∀ c ∈ x.cps.toList,c ∈ Cs.signs/\(Cs.place rs (sg c)).isSome=true
theorem zbk:∀ c ∈ Cs.signs,Lns.isS c=true/\c < 0x110000/\c ≠ 47/\c ≠ 32:=by decide +kernel
theorem Wd.settable {rs:List Cs.Row} {m:Nat} {x:Str} (h:Wd rs m x):Lns.zdm rs x:=⟨h.1,fun c hc=>⟨(zbk c (h.2.2 c hc).1).1,(h.2.2 c hc).2⟩⟩
theorem Wd.lay {rs:List Cs.Row} {m:Nat} {x:Str} (h:Wd rs m x):PyData.canLay0 (.str x)=true:=by
 show (x.cps.all fun c=>decide (c < 0x110000))=true
 rw [<- Array.all_toList,List.all_eq_true]
 exact fun c hc=>decide_eq_true (zbk c (h.2.2 c hc).1).2.1
structure Lines (rs:List Cs.Row) (ls:List (List Str)):Prop where
 few:ls.length<=64
 one:∀ l ∈ ls,l ≠ []/\l.length<=63/\∀ x ∈ l,Wd rs 5 x
theorem Lines.fit {rs:List Cs.Row} {ls:List (List Str)} (h:Lines rs ls):Lns.Fit ls:=by
 have hf:=h.few
 refine ⟨by omega,fun l hl=>?_⟩
 obtain ⟨_,h2,h3⟩:=h.one l hl
 exact ⟨by omega,fun x hx=>by have:=(h3 x hx).2.1;omega⟩
theorem Lines.ok {rs:List Cs.Row} {ls:List (List Str)} (h:Lines rs ls):∀ l ∈ ls,l ≠ []/\∀ x ∈ l,Lns.zdm rs x:=fun l hl=>⟨(h.one l hl).1,fun x hx=>((h.one l hl).2.2 x hx).settable⟩
def zfa (ms:List Mx):PyData:=.list (ms.map mxD)
theorem zbJ {α:Type} (f:α->PyData) (n:Nat) (h:∀ a,(f a).depth<=n):∀ l:List α,PyData.depthAll (l.map f)<=n
 | []=>Nat.zero_le _
 | a :: l=>Nat.max_le.mpr ⟨h a,zbJ f n h l⟩
theorem zgv (x:Mx):(mxD x).depth<=1:=Nat.le_refl _
theorem zfH (x:Part):(zbu x).depth<=1:=by
 cases x with
 | none=>exact Nat.zero_le _
 | some x=>exact zgv x
theorem zfT (x:List Mx):(zfa x).depth<=2:=by
 have h1:(zfa x).depth=PyData.depthAll (x.map mxD)+1:=rfl
 have h2:=zbJ mxD 1 zgv x
 omega
theorem zjm {K:PySem.W.Frag} {H:Hp}:∀ {ls:List Addr} {ms:List (List Mx)},Paired (LnAt H) ls ms->(∀ l ∈ ms,∀ m ∈ l,PyData.canLay0 (.str m.1)=true)->DenL K H (ls.map V.ref) (ms.map zfa)
 | _,_,.nil,_=>.nil
 | _,_,.cons h r,c=>.cons (h.den (c _ List.mem_cons_self)) (zjm r fun x hx=>c x (List.mem_cons_of_mem _ hx))
theorem Ok.llays {c:Cf} {m:Ms} (O:Ok c m):∀ l ∈ m.lanes,∀ x ∈ l,PyData.canLay0 (.str x.1)=true:=fun l hl x hx=>(O.lm l hl x hx).1
theorem zmX {K:PySem.W.Frag} {H:Hp} {v:V} {d:PyData} (h:Den K H v d):PyData.eqv d d=true:=PySem.SeqAt.eqv_refl d (zem d v h)
structure Sep (p:Addr) (A:Adr) (q:Addr) (B:Adr):Prop where
 pq:p ≠ q
 pB:p ∉ B.all
 qA:q ∉ A.all
 AB:∀ a ∈ A.all,a ∉ B.all
theorem Sep.symm {p q:Addr} {A B:Adr} (h:Sep p A q B):Sep q B p A:=⟨h.pq.symm,h.qA,h.pB,fun a ha hb=>h.AB a hb ha⟩
theorem Mac.has {C:Addr} {ns:List Str} {c:Cf} {H:Hp} {p:Addr} {A:Adr} {m:Ms} (h:Mac C ns c H p A m):(∃ o,H p=some o)/\∀ a ∈ A.all,∃ o,H a=some o:=by
 refine ⟨?_,fun a ha=>?_⟩
 ·obtain ⟨dx,fs,e,_⟩:=h.ins
  exact ⟨_,e⟩
 ·obtain ⟨xs,e⟩:=h.li.is a ha
  exact ⟨_,e⟩
theorem Sep.step {C:Addr} {ns:List Str} {c:Cf} {H H':Hp} {p q:Addr} {A A' B:Adr} {m:Ms} (h:Sep p A q B) (s:Step p A H A' H') (M:Mac C ns c H q B m):Sep p A' q B:=by
 obtain ⟨⟨oq,hq⟩,hB⟩:=M.has
 refine ⟨h.pq,h.pB,fun z=>?_,fun a ha hb=>?_⟩
 ·rcases s.nw q z with z | z
  ·exact h.qA z
  ·rw [hq] at z
   cases z
 ·rcases s.nw a ha with z | z
  ·exact h.AB a z hb
  ·obtain ⟨o,e⟩:=hB a hb
   rw [e] at z
   cases z
theorem Mac.other {C:Addr} {ns:List Str} {c:Cf} {H H':Hp} {p q:Addr} {A A' B:Adr} {m:Ms} (M:Mac C ns c H q B m) (h:Sep p A q B) (s:Step p A H A' H'):Mac C ns c H' q B m :=
 M.apart (C':=C) s h.pq.symm h.qA fun a ha=>⟨fun e=>h.pB (e ▸ ha),fun z=>h.AB a z ha⟩
theorem zkr (c:Cf) (m:Ms):(send c m).done=m.done:=by
 unfold send
 split <;> rfl
theorem zkF (m:Ms) (k:Nat):(pick m k).done=m.done:=by
 unfold pick
 split <;> rfl
theorem zhZ (c:Cf) (m:Ms):(strike c m).done=m.done:=by
 unfold strike
 split
 ·rfl
 ·split
  ·exact zkr c m
  ·split
   ·rfl
   ·split
    ·rfl
    ·split
     ·exact zkF _ _
     ·rfl
theorem zkq (c:Cf) (m:Ms):(tick c m).done=m.done+1:=by
 show (strike c (cool (fall c m))).done+1=_
 rw [zhZ,(zdR (fall c m)).2.2.2.1,(zck c m).2.2.2.2.2.1]
structure Rows (rs:List Cs.Row):Prop where
 few:rs.length<=30
 sg:∀ r ∈ rs,∃ c ∈ Cs.signs,r.s=L2.sg c
 th:∀ r ∈ rs,0<=r.t/\r.t < 128
 mn:∀ r ∈ rs,0<=r.n/\r.n<=40
theorem Rows.none {rs:List Cs.Row} (R:Rows rs) {x:Str} (h:∀ c ∈ Cs.signs,L2.sg c ≠ x):Cs.place rs x=Option.none:=Cs.zfS fun j r _ hr=>by
 obtain ⟨c,hc,e⟩:=R.sg r (List.mem_of_getElem? hr)
 rw [e]
 exact h c hc
theorem zjO {c d:Nat} (h:L2.sg c=L2.sg d):c=d:=by
 have h:(#[c]:Array Nat)=#[d]:=congrArg Str.cps h
 simpa using h
theorem Rows.sign {rs:List Cs.Row} (R:Rows rs) {k:Nat} (h:(Cs.place rs (L2.sg k)).isSome=true):k ∈ Cs.signs:=by
 obtain ⟨j,hj⟩:=Option.isSome_iff_exists.mp h
 obtain ⟨r,hr,e⟩:=Cs.zdM hj
 obtain ⟨c,hc,e2⟩:=R.sg r (List.mem_of_getElem? hr)
 rw [e] at e2
 rw [zjO e2]
 exact hc
theorem Rows.okC {rs:List Cs.Row} (R:Rows rs) {ls:List (List Str)} {z:Int} (hk:(Lns.keyT ls).length<=90000) (hs:∀ l ∈ ls,l ≠ []/\∀ x ∈ l,Lns.zdm rs x) (hz:1<=z):OkC ⟨rs,Lns.keyT ls,z⟩:=by
 have ok:Lns.zaU rs false (Lns.keyT ls).cps.toList=true:=Lns.zik hs
 have kn:∀ k ∈ (Lns.keyT ls).cps.toList,k=47\/k=32\/((Cs.place rs (L2.sg k)).isSome=true/\k ≠ 47/\k ≠ 32):=fun k hk=>by
  obtain ⟨i,hi,e⟩:=List.getElem_of_mem hk
  have h:=Lns.zju ok i k (by rw [List.getElem?_eq_getElem hi,e])
  by_cases h1:k=47
  ·exact .inl h1
  by_cases h2:k=32
  ·exact .inr (.inl h2)
  have hs:Lns.isS k=true:=by
   unfold Lns.isS
   rw [decide_eq_false h1,decide_eq_false h2]
   rfl
  rw [if_pos hs] at h
  exact .inr (.inr ⟨h,h1,h2⟩)
 refine ⟨R.few,hk,kn,?_,⟨R.none fun c hc e=>?_,R.none fun c hc e=>?_,R.none fun c hc e=>?_⟩,hz,R.th,?_⟩
 ·by_cases e:ls=[]
  ·rw [e]
   exact .inl rfl
  ·exact .inr (Lns.zjq ls e)
 ·exact (zbk c hc).2.2.1 (zjO e)
 ·exact (zbk c hc).2.2.2 (zjO e)
 ·cases e
 ·show ((Lns.keyT ls).cps.all fun c=>decide (c < 0x110000))=true
  rw [<- Array.all_toList,List.all_eq_true]
  intro k hk
  refine decide_eq_true ?_
  rcases kn k hk with h | h | ⟨h,_,_⟩
  ·omega
  ·omega
  ·exact (zbk k (R.sign h)).2.1
theorem zlp {cs:List Int} {t:Int} (h:t ∈ cs):∃ k,Mt.zbq cs t=some k/\k < cs.length:=by
 cases e:Mt.zbq cs t with
 | none =>
   unfold Mt.zbq at e
   rw [List.findIdx?_eq_none_iff] at e
   have:=e t h
   rw [Mt.zgh] at this
   cases this
 | some k =>
   refine ⟨k,rfl,?_⟩
   unfold Mt.zbq at e
   obtain ⟨hi,_⟩:=List.findIdx?_eq_some_iff_getElem.mp e
   exact hi
theorem Rows.okM {rs:List Cs.Row} (R:Rows rs) {c:Cf} (hc:c.rs=rs) {r:Cs.Row} (h:r ∈ rs):OkM c (r.s,r.t):=by
 obtain ⟨d,hd,e⟩:=R.sg r h
 obtain ⟨h1,h2⟩:=R.th r h
 obtain ⟨k,hk,hkl⟩:=zlp (cs:=c.rs.map fun r=>r.t) (t:=r.t) (by rw [hc];exact List.mem_map_of_mem h)
 refine ⟨?_,?_,h1,h2,k,hk,by rw [List.length_map] at hkl;exact hkl⟩
 ·show PyData.canLay0 (.str r.s)=true
  rw [e]
  exact Cs.zkI d hd
 ·show r.s.length<=1
  rw [e]
  exact Nat.le_refl _
theorem zkj {rs:List Cs.Row} (h:∀ r ∈ rs,0<=r.n/\r.n<=40):((zaZ rs).map List.length).sum<=rs.length * 40:=by
 unfold zaZ
 rw [List.map_map]
 refine Lns.ziL (List.length ∘ fun r:Cs.Row=>List.replicate r.n.toNat (r.s,r.t)) 40 rs fun r hr=>?_
 show (List.replicate r.n.toNat (r.s,r.t)).length<=40
 rw [List.length_replicate]
 have:=h r hr
 omega
theorem Rows.ok {rs:List Cs.Row} (R:Rows rs) {c:Cf} (hc:c.rs=rs) (O:OkC c):Ok c (start rs):=by
 have hf:=R.few
 refine ⟨O,?_,fun l hl x hx=>?_,(fun x hx=>nomatch hx),(fun x hx=>nomatch hx),(fun x hx=>nomatch hx),Nat.zero_le _,fun _=>rfl,?_,Nat.le_refl _,(fun x hx=>nomatch hx),fun z=>absurd rfl z⟩
 ·show (zaZ rs).length=c.rs.length
  unfold zaZ
  rw [List.length_map,hc]
 ·obtain ⟨r,hr,rfl⟩:=List.mem_map.mp hl
  rw [List.eq_of_mem_replicate hx]
  exact R.okM hc hr
 ·have h:=zkj R.mn
  show ((zaZ rs).map List.length).sum+0+0+0<=2000+0
  omega
theorem zmL {rs:List Cs.Row} {l:List Str} {n:Nat} (h1:l.length<=n) (h2:∀ x ∈ l,Wd rs 5 x):(Lns.zbx l).length<=n * 6:=by
 have a:=Lns.zeT (fun x:Str=>x.length) 5 n l (fun x hx=>(h2 x hx).2.1) h1
 have a:(l.map (·.length)).sum<=n * 5:=a
 have b:=StrLaws.join_length_le " " l
 have e:(Str.ofString " ").length=1:=by decide
 unfold Lns.zbx Txt.join
 rw [StrLaws.glued_eq_join]
 have b:(Str.join " " l).length<=(l.map (·.length)).sum+l.length * (Str.ofString " ").length:=b
 rw [e] at b
 omega
theorem zhE {rs:List Cs.Row} {n:Nat}:∀ {ls:List (List Str)},(∀ l ∈ ls,l.length<=n/\∀ x ∈ l,Wd rs 5 x)->(Lns.keyT ls).length<=ls.length * (n * 6+1)
 | [],_=>Nat.le_trans (Nat.le_of_eq (show (Str.ofString "").length=0 by decide)) (Nat.zero_le _)
 | l :: r,h=>by
   obtain ⟨h1,h2⟩:=h l List.mem_cons_self
   have a:=zmL h1 h2
   have b:=zhE fun l hl=>h l (List.mem_cons_of_mem _ hl)
   show (Lns.zbx l++"/"++Lns.keyT r).length<=_
   rw [Str.length_append,Str.length_append,List.length_cons,Nat.succ_mul]
   have e:("/":Str).length=1:=by decide
   omega
theorem Lines.short {rs:List Cs.Row} {ls:List (List Str)} (h:Lines rs ls):(Lns.keyT ls).length<=90000:=by
 have a:=zhE (n:=63) fun l hl=>(h.one l hl).2
 have b:=h.few
 have c:ls.length * (63 * 6+1)<=64 * (63 * 6+1):=Nat.mul_le_mul_right _ b
 omega
theorem Step.list {C:Addr} {ns:List Str} {c:Cf} {H H':Hp} {p X:Addr} {A A':Adr} {m:Ms} {ys:List V} (s:Step p A H A' H') (M:Mac C ns c H p A m) (h:H X=some (.lst ys)) (n:X ∉ A.all):H' X=some (.lst ys)/\X ∉ A'.all:=by
 refine ⟨s.fr X _ h (.inl ⟨zlV M.ins h,n⟩),fun z=>?_⟩
 rcases s.nw X z with z | z
 ·exact n z
 ·rw [h] at z
  cases z
theorem zlv {C dx p:Addr} {H H':Hp} (hp:H p=none) (hd:H dx=none) (o:Off p (upd (upd H dx (.own p)) p (.ins C dx [])) H'):Same H H':=fun b u hb=>by
 have n1:=zar hb hp
 exact o b u n1 (by rw [zai n1,zai (zar hb hd)];exact hb)
theorem zmE {C dx p b:Addr} {H:Hp} (hp:H p=none) (hd:H dx=none) (h:upd (upd H dx (.own p)) p (.ins C dx []) b=none):H b=none:=by
 cases e:H b with
 | none=>rfl
 | some u =>
   rw [zai (zar e hp),zai (zar e hd),e] at h
   cases h
theorem Step.kept {C:Addr} {ns:List Str} {c:Cf} {H H1 H2:Hp} {p:Addr} {A A':Adr} {m:Ms} (s:Step p A H1 A' H2) (M:Mac C ns c H p A m):Keep (fun b=>H b=none) H1 H2:=by
 obtain ⟨⟨oa,hoa⟩,hoA⟩:=M.has
 refine fun b o hb hs=>s.fr b o hb (hs.imp (fun z=>?_) id)
 have z:H b=none:=z
 refine ⟨fun e=>?_,fun e=>?_⟩
 ·rw [e,hoa] at z
  cases z
 ·obtain ⟨o',ho'⟩:=hoA b e
  rw [ho'] at z
  cases z
theorem ix0 (v:V) (vs:List V):seqIndex? 0 (v :: vs).length=some 0:=by
 have h:decide ((0:Int) < ((v :: vs).length:Int))=true:=decide_eq_true (by rw [List.length_cons];omega)
 show (if (decide ((0:Int)<=0) && decide ((0:Int) < ((v :: vs).length:Int)))=true then some (Int.toNat 0) else none)=some 0
 rw [h]
 rfl
end Mc
namespace Mc
open PySem L2
structure Rt (c:Cf):Prop where
 fl:∀ (j:Nat) r,c.rs[j]?=some r->Mt.zbq (c.rs.map fun r=>r.t) r.t=some j
 pl:∀ (j:Nat) r,c.rs[j]?=some r->Cs.place c.rs r.s=some j
 sg:∀ r ∈ c.rs,∃ k ∈ Cs.signs,r.s=L2.sg k
 gd:Lns.zaU c.rs false c.keys.cps.toList=true
def out (m:Ms) (x:Mx):Nat:=(mats m.line).count x+(mats m.heat).count x+m.bar.count x
def flat (ts:List (List Nat)):List Nat:=ts.flatMap fun t=>t++[47]
def cps (t:Str):List Nat:=t.cps.toList
def hot (m:Ms):List Nat:=if m.heat.isEmpty=true then [] else cps (zaE m.heat)++[47]
def Own (c:Cf) (x:Mx):Prop:=∃ (j:Nat) (r:Cs.Row),c.rs[j]?=some r/\x=(r.s,r.t)
structure Gd (c:Cf) (m:Ms):Prop where
 ow:∀ (j:Nat) l,m.lanes[j]?=some l->∃ r,c.rs[j]?=some r/\∀ x ∈ l,x=(r.s,r.t)
 il:∀ x ∈ mats m.line,Own c x
 ih:∀ x ∈ mats m.heat,Own c x
 ib:∀ x ∈ m.bar,Own c x
 ct:∀ (j:Nat) r l,c.rs[j]?=some r->m.lanes[j]?=some l->l.length+out m (r.s,r.t)=r.n.toNat
 tx:flat (m.texts.map cps)++hot m++cps (zaE m.line)=c.keys.cps.toList.take m.at_
 lm:∀ t ∈ m.texts,∀ r ∈ c.rs,∀ k,r.s=L2.sg k->(cps t).count k<=r.n.toNat
 pn:∀ t ∈ m.texts,47 ∉ cps t
theorem zde (l:List Part):cps (zaE l)=l.flatMap fun p=>cps (zbb p):=by
 unfold zaE
 induction l with
 | nil=>rfl
 | cons p r ih =>
   have e:Txt.join "" ((p :: r).map zbb)=zbb p++Txt.join "" (r.map zbb):=zee _ _
   rw [e]
   show (zbb p++Txt.join "" (r.map zbb)).cps.toList=_
   have e2:(zbb p++Txt.join "" (r.map zbb)).cps.toList=(zbb p).cps.toList++(Txt.join "" (r.map zbb)).cps.toList:=Array.toList_append
   rw [e2,List.flatMap_cons]
   show _++cps (Txt.join "" (r.map zbb))=_
   rw [ih]
   rfl
theorem zjg (l:List Part) (p:Part):cps (zaE (l++[p]))=cps (zaE l)++cps (zbb p):=by
 rw [zde,zde,List.flatMap_append]
 simp
theorem zkA (k:Nat):cps (L2.sg k)=[k]:=rfl
theorem zoy {c:Cf} (R:Rt c) {r r':Cs.Row} {j j':Nat} (h:c.rs[j]?=some r) (h':c.rs[j']?=some r') (e:r'.s=r.s):r'=r:=by
 have h1:=R.pl j r h
 have h2:=R.pl j' r' h'
 rw [e,h1] at h2
 cases h2
 rw [h] at h'
 exact (Option.some.inj h').symm
theorem zcs (p:Part) (l:List Part):mats (p :: l)=p.toList++mats l:=by
 unfold mats
 cases p <;> rfl
theorem zdV {c:Cf} (R:Rt c) {r:Cs.Row} {j k:Nat} (h:c.rs[j]?=some r) (hk:r.s=L2.sg k):∀ {l:List Part},(∀ x ∈ mats l,Own c x)->(cps (zaE l)).count k=(mats l).count (r.s,r.t)
 | [],_=>rfl
 | p :: l,hl=>by
   have ih:=zdV R h hk (l:=l) fun x hx=>hl x (by rw [zcs];exact List.mem_append_right _ hx)
   rw [zde] at ih ⊢
   rw [List.flatMap_cons,List.count_append,ih,zcs,List.count_append]
   congr 1
   obtain ⟨d,hd,ed⟩:=R.sg r (List.mem_of_getElem? h)
   have ekd:k=d:=zjO (hk.symm.trans ed)
   have hkp:=zbk d hd
   cases p with
   | none =>
     show List.count k [32]=0
     rw [List.count_eq_zero]
     intro z
     rw [List.mem_singleton] at z
     exact hkp.2.2.2 (ekd ▸ z)
   | some x =>
     obtain ⟨j',r',h',e⟩:=hl x (by rw [zcs];exact List.mem_append_left _ (by simp))
     subst e
     obtain ⟨d',_,e'⟩:=R.sg r' (List.mem_of_getElem? h')
     show List.count k (cps r'.s)=List.count (r.s,r.t) [(r'.s,r'.t)]
     rw [e',zkA]
     by_cases ek:k=d'
     ·have es:r'.s=r.s:=by rw [e',hk,ek]
      have er:=zoy R h h' es
      rw [<- e',er,ek]
      simp
     ·have hne:¬ (L2.sg d',r'.t)=(r.s,r.t):=fun z=>by
       have z1:=congrArg Prod.fst z
       rw [hk] at z1
       exact ek (zjO z1).symm
      rw [List.count_eq_zero.mpr (fun z=>ek (List.mem_singleton.mp z)),List.count_eq_zero.mpr (fun z=>hne (List.mem_singleton.mp z).symm)]
theorem zgi {c:Cf} (R:Rt c) {l:List Part} (h:∀ x ∈ mats l,Own c x):47 ∉ cps (zaE l):=by
 rw [zde]
 intro z
 obtain ⟨p,hp,hz⟩:=List.mem_flatMap.mp z
 cases p with
 | none =>
   have hz:47 ∈ ([32]:List Nat):=hz
   exact absurd hz (by decide)
 | some x =>
   obtain ⟨j,r,hr,e⟩:=h x (List.mem_filterMap.mpr ⟨some x,hp,rfl⟩)
   subst e
   obtain ⟨d,hd,ed⟩:=R.sg r (List.mem_of_getElem? hr)
   have hz:47 ∈ cps r.s:=hz
   rw [ed,zkA,List.mem_singleton] at hz
   exact (zbk d hd).2.2.1 hz.symm
theorem zlB {m:Ms} {x y:Mx} {r:List Mx} (h:m.bar=y :: r):out m x=out { m with bar:=r } x+(if y=x then 1 else 0):=by
 unfold out
 rw [h,List.count_cons]
 show _+(List.count x r+if (y == x)=true then 1 else 0)=(mats m.line).count x+(mats m.heat).count x+r.count x+_
 by_cases e:y=x
 ·rw [if_pos e,if_pos (by rw [e];exact beq_self_eq_true x)]
  omega
 ·rw [if_neg e,if_neg (fun z=>e (beq_iff_eq.mp z))]
  omega
theorem zgr {ls:List (List Mx)} {i j:Nat} {v l:List Mx} (h:(ls.set j v)[i]?=some l):(i=j/\l=v)\/(i ≠ j/\ls[i]?=some l):=by
 rw [List.getElem?_set] at h
 by_cases e:j=i
 ·rw [if_pos e] at h
  split at h
  ·exact .inl ⟨e.symm,(Option.some.inj h).symm⟩
  ·cases h
 ·rw [if_neg e] at h
  exact .inr ⟨fun z=>e z.symm,h⟩
theorem Gd.fall {c:Cf} {m:Ms} (R:Rt c) (O:Ok c m) (g:Gd c m):Gd c (fall c m):=by
 unfold Mc.fall
 cases hb:m.bar with
 | nil=>exact g
 | cons x r =>
   obtain ⟨j,q,hq,ex⟩:=g.ib x (by rw [hb];exact List.mem_cons_self)
   have hfl:=R.fl j q hq
   have e2:x.2=q.t:=by rw [ex]
   show Gd c (match Mt.zbq (c.rs.map fun r=>r.t) x.2 with
    | some k=>{ m with bar:=r,lanes:=zcc m.lanes k x }
    | none=>m)
   rw [e2,hfl]
   show Gd c { m with bar:=r,lanes:=zcc m.lanes j x }
   have hjl:j < m.lanes.length:=by rw [O.ln];exact (List.getElem?_eq_some_iff.mp hq).1
   have hg:m.lanes[j]?=some m.lanes[j]:=List.getElem?_eq_getElem hjl
   have ea:zcc m.lanes j x=m.lanes.set j (m.lanes[j]++[x]):=by unfold zcc;rw [hg]
   rw [ea]
   refine ⟨?_,g.il,g.ih,fun y hy=>g.ib y (by rw [hb];exact List.mem_cons_of_mem _ hy),?_,g.tx,g.lm,g.pn⟩
   ·intro i l hl
    rcases zgr hl with ⟨rfl,rfl⟩ | ⟨hne,hl⟩
    ·obtain ⟨q',hq',ho⟩:=g.ow i _ hg
     rw [hq] at hq'
     cases hq'
     refine ⟨q,hq,fun y hy=>?_⟩
     rcases List.mem_append.mp hy with hy | hy
     ·exact ho y hy
     ·rw [List.mem_singleton.mp hy]
      exact ex
    ·exact g.ow i l hl
   ·intro i q' l hq' hl
    rcases zgr hl with ⟨rfl,rfl⟩ | ⟨hne,hl⟩
    ·rw [hq] at hq'
     cases hq'
     have h1:=g.ct i q _ hq hg
     rw [zlB (x:=(q.s,q.t)) hb,if_pos ex] at h1
     rw [List.length_append]
     show m.lanes[i].length+1+out { m with bar:=r } (q.s,q.t)=_
     omega
    ·have h1:=g.ct i q' l hq' hl
     rw [zlB (x:=(q'.s,q'.t)) hb,if_neg (fun z=>?_)] at h1
     ·exact h1
     ·rw [ex] at z
      have z1:=congrArg Prod.fst z
      have h2:=R.pl j q hq
      rw [show q.s=q'.s from z1,R.pl i q' hq'] at h2
      exact hne (Option.some.inj h2)
theorem Gd.cool {c:Cf} {m:Ms} (R:Rt c) (O:Ok c m) (g:Gd c m):Gd c (cool m):=by
 unfold Mc.cool
 split
 ·exact g
 ·rename_i he
  split
  ·refine ⟨g.ow,g.il,(fun x hx=>nomatch hx),?_,?_,?_,?_,?_⟩
   ·intro x hx
    rcases List.mem_append.mp hx with hx | hx
    ·exact g.ib x hx
    ·exact g.ih x hx
   ·intro j r l hr hl
    have h1:=g.ct j r l hr hl
    unfold out at h1 ⊢
    show l.length+((mats m.line).count (r.s,r.t)+0+(m.bar++mats m.heat).count (r.s,r.t))=_
    rw [List.count_append]
    omega
   ·have h1:=g.tx
    unfold hot at h1 ⊢
    rw [if_neg he] at h1
    rw [<- h1]
    show flat ((m.texts++[zaE m.heat]).map cps)++[]++cps (zaE m.line)=_
    unfold flat
    rw [List.map_append,List.flatMap_append]
    simp
   ·intro t ht r hr k hk
    rcases List.mem_append.mp ht with ht | ht
    ·exact g.lm t ht r hr k hk
    ·rw [List.mem_singleton.mp ht]
     obtain ⟨j,hj,e⟩:=List.getElem_of_mem hr
     have hr':c.rs[j]?=some r:=by rw [List.getElem?_eq_getElem hj,e]
     rw [zdV R hr' hk g.ih]
     have hjl:j < m.lanes.length:=by rw [O.ln];exact hj
     have h1:=g.ct j r _ hr' (List.getElem?_eq_getElem hjl)
     unfold out at h1
     omega
   ·intro t ht
    rcases List.mem_append.mp ht with ht | ht
    ·exact g.pn t ht
    ·rw [List.mem_singleton.mp ht]
     exact zgi R g.ih
  ·refine ⟨g.ow,g.il,g.ih,g.ib,g.ct,?_,g.lm,g.pn⟩
   have h1:=g.tx
   unfold hot at h1 ⊢
   exact h1
theorem zdS {c:Cf} {m:Ms} {k:Nat} (h:key c m=some k):c.keys.cps.toList.take (m.at_+1)=c.keys.cps.toList.take m.at_++[k]:=by
 rw [List.take_add_one,show c.keys.cps.toList[m.at_]?=some k from h]
 rfl
theorem Gd.line_ne {c:Cf} {m:Ms} (R:Rt c) (g:Gd c m) (h:key c m=some 47):m.line ≠ []:=by
 intro e
 have hon:=Lns.zju R.gd m.at_ 47 h
 rw [if_neg (by decide)] at hon
 rcases hon with ⟨_,z⟩ | ⟨i,d,hi,hd,hs⟩
 ·cases z
 ·have h1:=g.tx
  rw [e,hi] at h1
  have hil:i < c.keys.cps.toList.length:=(List.getElem?_eq_some_iff.mp hd).1
  rw [List.take_add_one,hd] at h1
  have h1:flat (m.texts.map cps)++hot m++[]=c.keys.cps.toList.take i++[d]:=h1
  rw [List.append_nil] at h1
  have hd47:d ≠ 47:=fun z=>by rw [z] at hs;exact absurd hs (by decide)
  by_cases hh:m.heat.isEmpty=true
  ·have hot0:hot m=[]:=by unfold hot;rw [if_pos hh]
   rw [hot0,List.append_nil] at h1
   rcases List.eq_nil_or_concat m.texts with z | ⟨a,t,z⟩
   ·rw [z] at h1
    have h2:=congrArg List.length h1
    rw [List.length_append] at h2
    have h2:0=_+1:=h2
    omega
   ·rw [z] at h1
    unfold flat at h1
    rw [List.concat_eq_append,List.map_append,List.flatMap_append] at h1
    have h1:(a.map cps).flatMap (fun t=>t++[47])++(cps t++[47]++[])=c.keys.cps.toList.take i++[d]:=by simpa using h1
    rw [List.append_nil,<- List.append_assoc] at h1
    have h3:=(List.append_inj' h1 rfl).2
    cases h3
    exact hd47 rfl
  ·have hot1:hot m=cps (zaE m.heat)++[47]:=by unfold hot;rw [if_neg hh]
   rw [hot1,<- List.append_assoc] at h1
   have h3:=(List.append_inj' h1 rfl).2
   cases h3
   exact hd47 rfl
theorem Gd.send {c:Cf} {m:Ms} (R:Rt c) (g:Gd c m) (hk:key c m=some 47):Gd c (send c m):=by
 unfold Mc.send
 split
 ·rename_i he
  have hn:m.heat=[]:=List.isEmpty_iff.mp he
  refine ⟨g.ow,(fun x hx=>nomatch hx),g.il,g.ib,?_,?_,g.lm,g.pn⟩
  ·intro j r l hr hl
   have h1:=g.ct j r l hr hl
   unfold out at h1 ⊢
   rw [hn] at h1
   have e:(mats []).count (r.s,r.t)=0:=rfl
   show l.length+(0+(mats m.line).count (r.s,r.t)+m.bar.count (r.s,r.t))=_
   omega
  ·have hne:=g.line_ne R hk
   have hl:m.line.isEmpty=false:=by
    cases e:m.line with
    | nil=>exact absurd e hne
    | cons _ _=>rfl
   have h1:=g.tx
   unfold hot at h1
   rw [if_pos he] at h1
   show flat (m.texts.map cps)++(if m.line.isEmpty=true then [] else cps (zaE m.line)++[47])++[]=c.keys.cps.toList.take (m.at_+1)
   rw [hl,if_neg (by decide),zdS hk,<- h1]
   simp
 ·exact g
theorem zcg (l:List Part) (p:Part):mats (l++[p])=mats l++p.toList:=by
 unfold mats
 rw [List.filterMap_append]
 cases p <;> rfl
theorem Gd.gap {c:Cf} {m:Ms} (g:Gd c m) (hk:key c m=some 32):Gd c (take m none):=by
 refine ⟨g.ow,?_,g.ih,g.ib,?_,?_,g.lm,g.pn⟩
 ·intro x hx
  have hx:x ∈ mats (m.line++[none]):=hx
  rw [zcg] at hx
  exact g.il x (by simpa using hx)
 ·intro j r l hr hl
  have h1:=g.ct j r l hr hl
  unfold out at h1 ⊢
  show l.length+((mats (m.line++[none])).count (r.s,r.t)+_+_)=_
  rw [zcg,Option.toList_none,List.append_nil]
  exact h1
 ·show flat (m.texts.map cps)++hot m++cps (zaE (m.line++[none]))=c.keys.cps.toList.take (m.at_+1)
  rw [zjg,zdS hk,<- g.tx,List.append_assoc]
  simp only [List.append_assoc]
  rfl
theorem Gd.pick {c:Cf} {m:Ms} {k j:Nat} (R:Rt c) (O:Ok c m) (g:Gd c m) (hk:key c m=some k) (hj:Cs.place c.rs (L2.sg k)=some j):Gd c (pick m j):=by
 unfold Mc.pick
 split
 ·rename_i x r hx
  obtain ⟨q,hq,hqs⟩:=Cs.zdM hj
  obtain ⟨q',hq',ho⟩:=g.ow j _ hx
  rw [hq] at hq'
  cases hq'
  have ex:=ho x List.mem_cons_self
  have hjl:j < m.lanes.length:=(List.getElem?_eq_some_iff.mp hx).1
  refine ⟨?_,?_,g.ih,g.ib,?_,?_,g.lm,g.pn⟩
  ·intro i l hl
   rcases zgr hl with ⟨rfl,rfl⟩ | ⟨hne,hl⟩
   ·exact ⟨q,hq,fun y hy=>ho y (List.mem_cons_of_mem _ hy)⟩
   ·exact g.ow i l hl
  ·intro y hy
   have hy:y ∈ mats (m.line++[some x]):=hy
   rw [zcg] at hy
   rcases List.mem_append.mp hy with hy | hy
   ·exact g.il y hy
   ·have:y=x:=by simpa using hy
    rw [this]
    exact ⟨j,q,hq,ex⟩
  ·intro i q' l hq' hl
   have hl:(m.lanes.set j r)[i]?=some l:=hl
   have eo:out (take { m with lanes:=m.lanes.set j r } (some x)) (q'.s,q'.t)=out m (q'.s,q'.t)+(if x=(q'.s,q'.t) then 1 else 0):=by
    unfold out
    show (mats (m.line++[some x])).count (q'.s,q'.t)+(mats m.heat).count (q'.s,q'.t)+m.bar.count (q'.s,q'.t)=_
    rw [zcg,List.count_append]
    have e1:(some x:Part).toList.count (q'.s,q'.t)=if x=(q'.s,q'.t) then 1 else 0:=by
     show List.count (q'.s,q'.t) [x]=_
     by_cases e:x=(q'.s,q'.t)
     ·rw [if_pos e,e]
      simp
     ·rw [if_neg e]
      exact List.count_eq_zero.mpr fun z=>e (List.mem_singleton.mp z).symm
    rw [e1]
    omega
   rw [eo]
   rcases zgr hl with ⟨rfl,rfl⟩ | ⟨hne,hl⟩
   ·rw [hq] at hq'
    cases hq'
    have h1:=g.ct i q _ hq hx
    have e3:(x :: l).length=l.length+1:=rfl
    rw [if_pos ex]
    omega
   ·have h1:=g.ct i q' l hq' hl
    rw [if_neg fun z=>?_]
    ·exact h1
    ·rw [ex] at z
     have z1:=congrArg Prod.fst z
     have h2:=R.pl j q hq
     rw [show q.s=q'.s from z1,R.pl i q' hq'] at h2
     exact hne (Option.some.inj h2)
  ·show flat (m.texts.map cps)++hot m++cps (zaE (m.line++[some x]))=c.keys.cps.toList.take (m.at_+1)
   rw [zjg,zdS hk,<- g.tx]
   have e:cps (zbb (some x))=[k]:=by
    show cps x.1=[k]
    rw [ex]
    show cps q.s=[k]
    rw [hqs]
    rfl
   rw [e]
   simp only [List.append_assoc]
 ·exact g
theorem Gd.strike {c:Cf} {m:Ms} (R:Rt c) (O:Ok c m) (g:Gd c m):Gd c (strike c m):=by
 unfold Mc.strike
 split
 ·exact g
 ·rename_i k hk
  split
  ·rename_i h47
   rw [h47] at hk
   exact g.send R hk
  ·split
   ·rename_i h32
    rw [h32] at hk
    exact g.gap hk
   ·split
    ·exact ⟨g.ow,g.il,g.ih,g.ib,g.ct,g.tx,g.lm,g.pn⟩
    ·split
     ·rename_i j hj
      exact g.pick R O hk hj
     ·exact g
theorem Gd.tick {c:Cf} {m:Ms} (R:Rt c) (O:Ok c m) (g:Gd c m):Gd c (tick c m):=by
 have h:=((g.fall R O).cool R O.fall).strike R O.fall.cool
 exact ⟨h.ow,h.il,h.ih,h.ib,h.ct,h.tx,h.lm,h.pn⟩
theorem Gd.run {c:Cf} (R:Rt c):∀ (n:Nat) {m:Ms},Ok c m->Gd c m->Gd c (runF c n m)
 | 0,_,_,g=>g
 | n+1,m,O,g=>by
   cases hs:still c m with
   | true =>
     rw [zbZ hs]
     exact g
   | false =>
     rw [zgE hs]
     exact Gd.run R n O.tick (g.tick R O)
theorem Gd.fin {c:Cf} {m:Ms} (R:Rt c) (O:Ok c m) (g:Gd c m):Gd c (fin c m):=Gd.run R _ O g
theorem Gd.start {c:Cf} (h:∀ r ∈ c.rs,0<=r.n):Gd c (start c.rs):=by
 have lane:∀ (j:Nat) l,(zaZ c.rs)[j]?=some l->∃ r,c.rs[j]?=some r/\l=List.replicate r.n.toNat (r.s,r.t):=fun j l hl=>by
  unfold zaZ at hl
  rw [List.getElem?_map] at hl
  obtain ⟨r,hr,rfl⟩:=Option.map_eq_some_iff.mp hl
  exact ⟨r,hr,rfl⟩
 refine ⟨fun j l hl=>?_,(fun x hx=>nomatch hx),(fun x hx=>nomatch hx),(fun x hx=>nomatch hx),fun j r l hr hl=>?_,rfl,(fun t ht=>nomatch ht),(fun t ht=>nomatch ht)⟩
 ·obtain ⟨r,hr,rfl⟩:=lane j l hl
  exact ⟨r,hr,fun x hx=>List.eq_of_mem_replicate hx⟩
 ·obtain ⟨r',hr',rfl⟩:=lane j l hl
  rw [hr] at hr'
  cases hr'
  rw [List.length_replicate]
  rfl
end Mc
namespace Mc
open PySem L2
theorem zlA:∀ {a b X Y:List Nat},47 ∉ a->47 ∉ b->a++47 :: X=b++47 :: Y->a=b/\X=Y
 | [],[],_,_,_,_,h=>⟨rfl,(List.cons.inj h).2⟩
 | [],y :: b,_,_,_,hb,h=>absurd ((List.cons.inj h).1 ▸ List.mem_cons_self) hb
 | x :: a,[],_,_,ha,_,h=>absurd ((List.cons.inj h).1 ▸ List.mem_cons_self) ha
 | x :: a,y :: b,X,Y,ha,hb,h=>by
   obtain ⟨h1,h2⟩:=List.cons.inj h
   obtain ⟨e1,e2⟩:=zlA (fun z=>ha (List.mem_cons_of_mem _ z)) (fun z=>hb (List.mem_cons_of_mem _ z)) h2
   exact ⟨by rw [h1,e1],e2⟩
theorem zcS (a:List Nat) (r:List (List Nat)):flat (a :: r)=a++47 :: flat r:=by
 unfold flat
 rw [List.flatMap_cons]
 simp
end Mc
namespace L2
open PySem PySem.Spec PyProof.Rows PySem.Builtin PySem.Builtin.Str
section
variable {X:Cx} {a:Expr} {ta:TE}
end
section
variable {X:Cx}
end
end L2
namespace Mc
open PySem L2
theorem zug {c:Cf} (th:∀ r ∈ c.rs,0<=r.t/\r.t < 128) (nd:(c.rs.map fun r=>r.t).Nodup) (rt:(c.rs.map fun r=>r.t).Pairwise (fun a b=>HT.zbc (Mt.rk b) (Mt.rk a)=false)) (pl:∀ (j:Nat) r,c.rs[j]?=some r->Cs.place c.rs r.s=some j)
 (sg:∀ r ∈ c.rs,∃ k ∈ Cs.signs,r.s=L2.sg k) (gd:Lns.zaU c.rs false c.keys.cps.toList=true):Rt c :=
 ⟨fun j r hr=>Mt.ziD nd (fun x hx=>by obtain ⟨r',hr',rfl⟩:=List.mem_map.mp hx;exact th r' hr') rt (by rw [List.getElem?_map,hr];rfl),pl,sg,gd⟩
def isSg (k:Nat):Bool:=!decide (k=32) && !decide (k=47)
theorem zfR:∀ {bs:List (List Nat)},(∀ b ∈ bs,47 ∉ b)->(flat bs).count 47=bs.length
 | [],_=>rfl
 | b :: bs,h=>by
   rw [zcS,List.count_append,List.count_cons_self,zfR fun x hx=>h x (List.mem_cons_of_mem _ hx),List.count_eq_zero.mpr (h b List.mem_cons_self),List.length_cons]
   omega
end Mc
namespace L2
open PySem PySem.Spec PyProof.Rows
section
variable {X:Cx}
end
end L2
namespace L2
open PySem PySem.Spec PyProof.Rows
section
variable {X:Cx} {es:List Expr} {k1:Nat} {tp:Pos}
end
end L2
namespace Mc
open PySem L2
def Bad (rs:List Cs.Row) (T:List Nat) (j:Nat):Prop:=∃ k,T[j]?=some k/\∃ r ∈ rs,r.s=L2.sg k/\r.n < ((T.take (j+1)).count k:Int)
def zsg (rs:List Cs.Row) (ls:List (List Str)) (i j:Nat):Prop:=(∀ (a:Nat) l,a < i->ls[a]?=some l->∀ b,¬ Bad rs (cps (Lns.zbx l)) b)/\∀ l,ls[i]?=some l->∀ b,b < j->¬ Bad rs (cps (Lns.zbx l)) b
structure StopAt (rs:List Cs.Row) (ls:List (List Str)) (i j:Nat):Prop where
 ahead:zsg rs ls i j
 bad:∃ l,ls[i]?=some l/\Bad rs (cps (Lns.zbx l)) j
theorem StopAt.uniq {rs:List Cs.Row} {ls:List (List Str)} {i j i' j':Nat} (h:StopAt rs ls i j) (h':StopAt rs ls i' j'):i=i'/\j=j':=by
 obtain ⟨l,hl,hb⟩:=h.bad
 obtain ⟨l',hl',hb'⟩:=h'.bad
 rcases Nat.lt_trichotomy i i' with z | z | z
 ·exact absurd hb (h'.ahead.1 i l z hl j)
 ·subst z
  rw [hl] at hl'
  cases hl'
  rcases Nat.lt_trichotomy j j' with y | y | y
  ·exact absurd hb (h'.ahead.2 l hl j y)
  ·exact ⟨rfl,y⟩
  ·exact absurd hb' (h.ahead.2 l hl j' y)
 ·exact absurd hb' (h.ahead.1 i' l' z hl' j')
end Mc
namespace Mc
open PySem L2
theorem Mac.aside {C:Addr} {ns:List Str} {c:Cf} {H:Hp} {p X:Addr} {A:Adr} {m:Ms} {ys:List V} {o:HO} (h:Mac C ns c H p A m) (hx:H X=some (.lst ys)) (n:X ∉ A.all):Mac C ns c (upd H X o) p A m:=by
 obtain ⟨dx,fs,ea,F⟩:=h.ins
 have hpx:p ≠ X:=fun e=>by rw [e,hx] at ea;cases ea
 exact ⟨⟨dx,fs,by rw [zai hpx];exact ea,F⟩,h.nd,h.li.keep (Keep.lst hx) fun a ha e=>n (by rw [<- e];exact ha)⟩
theorem Step.same {p:Addr} {A A':Adr} {H H1 H2:Hp} (s:Step p A H1 A' H2) (h:Same H H1) (hp:H p=none) (hA:∀ b ∈ A.all,H b=none):Same H H2/\∀ b ∈ A'.all,H b=none:=by
 refine ⟨fun b o hb=>s.fr b o (h b o hb) (.inl ⟨fun e=>?_,fun e=>?_⟩),fun b hb=>?_⟩
 ·rw [e,hp] at hb;cases hb
 ·rw [hA b e] at hb;cases hb
 ·rcases s.nw b hb with z | z
  ·exact hA b z
  ·exact h.free z
def cntS (x s:Str):Nat:=(cps x).count (s.cps.toList.headD 0)
def zkd:List Cs.Row->List (List Mx)->List Int
 | r :: rs,l :: ls=>(r.n - ((l.length:Nat):Int)) :: zkd rs ls
 | _,_=>[]
theorem zhB {rs:List Cs.Row} {ls:List (List Mx)} {i:Nat} {r:Cs.Row} {l:List Mx} (h1:rs[i]?=some r) (h2:ls[i]?=some l):(zkd rs ls)[i]?=some (r.n - ((l.length:Nat):Int)):=by
 induction rs generalizing ls i with
 | nil=>simp at h1
 | cons r0 rs ih =>
   cases ls with
   | nil=>simp at h2
   | cons l0 ls =>
     cases i with
     | zero=>cases h1;cases h2;rfl
     | succ i=>exact ih (ls:=ls) (i:=i) h1 h2
def up1 (d o:Int) (x:Int × Int):Int × Int:=if x.1 < o then (o,d) else x
def upN (d:Int):List Int->List (Int × Int)->List (Int × Int)
 | o :: os,x :: xs=>up1 d o x :: upN d os xs
 | _,xs=>xs
theorem ziA (d:Int) (os:List Int) (ps:List (Int × Int)):(upN d os ps).length=ps.length:=by
 induction os generalizing ps with
 | nil=>cases ps <;> rfl
 | cons o os ih =>
   cases ps with
   | nil=>rfl
   | cons x xs=>exact congrArg (·+ 1) (ih xs)
theorem zkX (d:Int) (ps:List (Int × Int)):upN d [] ps=ps:=by cases ps <;> rfl
theorem zrC (d:Int) (os:List Int) (ps:List (Int × Int)) {k:Nat} (h:os.length<=k):(upN d os ps)[k]?=ps[k]?:=by
 induction os generalizing ps k with
 | nil=>rw [zkX]
 | cons o os ih =>
   cases ps with
   | nil=>rfl
   | cons x xs =>
     cases k with
     | zero=>simp at h
     | succ k=>exact ih xs (k:=k) (Nat.le_of_succ_le_succ h)
inductive Pk (c:Cf):Ms->List (Int × Int)->List (Int × Int)->Prop
 | stop {m:Ms} {ps:List (Int × Int)}:still c m=true->Pk c m ps ps
 | go {m:Ms} {ps qs:List (Int × Int)}:still c m=false->Pk c (tick c m) (upN (tick c m).done (zkd c.rs (tick c m).lanes) ps) qs->Pk c m ps qs
theorem Pk.uniq {c:Cf} {m:Ms} {ps qs qs':List (Int × Int)} (h:Pk c m ps qs) (h':Pk c m ps qs'):qs=qs':=by
 induction h with
 | stop hs =>
   cases h' with
   | stop _=>rfl
   | go hs' _=>rw [hs] at hs';cases hs'
 | go hs _ ih =>
   cases h' with
   | stop hs'=>rw [hs] at hs';cases hs'
   | go _ h2=>exact ih h2
theorem Pk.len {c:Cf} {m:Ms} {ps qs:List (Int × Int)} (h:Pk c m ps qs):qs.length=ps.length:=by
 induction h with
 | stop _=>rfl
 | go _ _ ih=>rw [ih,ziA]
theorem zni (d o:Int) (x:Int × Int):x.1<=(up1 d o x).1/\o<=(up1 d o x).1:=by
 unfold up1
 split
 ·rename_i h
  exact ⟨Int.le_of_lt h,Int.le_refl _⟩
 ·rename_i h
  exact ⟨Int.le_refl _,Int.not_lt.mp h⟩
theorem zlW (d:Int) {os:List Int} {ps:List (Int × Int)} {k:Nat} {x:Int × Int} {o:Int} (hx:ps[k]?=some x) (ho:os[k]?=some o):(upN d os ps)[k]?=some (up1 d o x):=by
 induction os generalizing ps k with
 | nil=>simp at ho
 | cons o' os ih =>
   cases ps with
   | nil=>simp at hx
   | cons y ys =>
     cases k with
     | zero=>cases hx;cases ho;rfl
     | succ k=>exact ih (ps:=ys) (k:=k) hx ho
theorem zqI (d:Int) {os:List Int} {ps:List (Int × Int)} {k:Nat} {x:Int × Int} (hx:ps[k]?=some x):∃ y,(upN d os ps)[k]?=some y/\x.1<=y.1:=by
 cases ho:os[k]? with
 | none=>exact ⟨x,by rw [zrC _ _ _ (List.getElem?_eq_none_iff.mp ho)];exact hx,Int.le_refl _⟩
 | some o=>exact ⟨_,zlW d hx ho,(zni d o x).1⟩
theorem Pk.ge {c:Cf} {m:Ms} {ps qs:List (Int × Int)} (h:Pk c m ps qs):∀ {k:Nat} {x:Int × Int},ps[k]?=some x->∃ y,qs[k]?=some y/\x.1<=y.1:=by
 induction h with
 | stop _=>exact fun hx=>⟨_,hx,Int.le_refl _⟩
 | go _ _ ih =>
   intro k x hx
   obtain ⟨y,hy,h1⟩:=zqI _ hx
   obtain ⟨z,hz,h2⟩:=ih hy
   exact ⟨z,hz,Int.le_trans h1 h2⟩
theorem Pk.out {c:Cf} {m:Ms} {ps qs:List (Int × Int)} (h:Pk c m ps qs) (hs:still c m=false) {k:Nat} {x:Int × Int} {o:Int} (hx:ps[k]?=some x) (ho:(zkd c.rs (tick c m).lanes)[k]?=some o):∃ y,qs[k]?=some y/\o<=y.1:=by
 cases h with
 | stop h=>rw [hs] at h;cases h
 | go _ h =>
   obtain ⟨y,hy,h2⟩:=h.ge (zlW _ hx ho)
   exact ⟨y,hy,Int.le_trans (zni _ o x).2 h2⟩
theorem Pk.next {c:Cf} {m:Ms} {ps qs:List (Int × Int)} (h:Pk c m ps qs) (hs:still c m=false):Pk c (tick c m) (upN (tick c m).done (zkd c.rs (tick c m).lanes) ps) qs:=by
 cases h with
 | stop h=>rw [hs] at h;cases h
 | go _ h=>exact h
structure NdAt (C:Addr) (ns:List Str) (c:Cf) (H0 H:Hp) (p n q f:Addr) (A:Adr) (m:Ms) (fs:List V) (ps:List (Int × Int)):Prop where
 mac:Mac C ns c H p A m
 sm:Same H0 H
 new:∀ b ∈ A.all,H0 b=none
 pn:H0 p=none
 nn:H0 n=none
 qn:H0 q=none
 fn:H0 f=none
 nq:n ≠ q
 nf:n ≠ f
 qf:q ≠ f
 na:n ∉ A.all
 qa:q ∉ A.all
 fa:f ∉ A.all
 hn:H n=some (.lst ((ps.map fun x=>x.1).map V.int))
 hq:H q=some (.lst ((ps.map fun x=>x.2).map V.int))
 hf:H f=some (.lst fs)
 rows:Paired (Cs.zce H) fs c.rs
theorem NdAt.same {C:Addr} {ns:List Str} {c:Cf} {H0 H H':Hp} {p n q f:Addr} {A:Adr} {m:Ms} {fs:List V} {ps:List (Int × Int)} (h:NdAt C ns c H0 H p n q f A m fs ps) (s:Same H H'):NdAt C ns c H0 H' p n q f A m fs ps :=
 ⟨h.mac.same s,h.sm.trans s,h.new,h.pn,h.nn,h.qn,h.fn,h.nq,h.nf,h.qf,h.na,h.qa,h.fa,s _ _ h.hn,s _ _ h.hq,s _ _ h.hf,Cs.zaC h.rows s⟩
theorem NdAt.step {C:Addr} {ns:List Str} {c:Cf} {H0 H H':Hp} {p n q f:Addr} {A A':Adr} {m m':Ms} {fs:List V} {ps:List (Int × Int)} (h:NdAt C ns c H0 H p n q f A m fs ps) (s:Step p A H A' H') (M:Mac C ns c H' p A' m'):NdAt C ns c H0 H' p n q f A' m' fs ps:=by
 obtain ⟨s1,s2⟩:=s.same h.sm h.pn h.new
 obtain ⟨n1,n2⟩:=s.list h.mac h.hn h.na
 obtain ⟨q1,q2⟩:=s.list h.mac h.hq h.qa
 obtain ⟨f1,f2⟩:=s.list h.mac h.hf h.fa
 exact ⟨M,s1,s2,h.pn,h.nn,h.qn,h.fn,h.nq,h.nf,h.qf,n2,q2,f2,n1,q1,f1,zbM (S:=fun b=>b ≠ p/\b ∉ A.all) (fun b o hb hs=>s.fr b o hb hs) h.rows⟩
theorem NdAt.setN {C:Addr} {ns:List Str} {c:Cf} {H0 H:Hp} {p n q f:Addr} {A:Adr} {m:Ms} {fs:List V} {ps:List (Int × Int)} {vs:List V} (h:NdAt C ns c H0 H p n q f A m fs ps) :
 Mac C ns c (upd H n (.lst vs)) p A m/\Same H0 (upd H n (.lst vs))/\upd H n (.lst vs) q=some (.lst ((ps.map fun x=>x.2).map V.int))/\upd H n (.lst vs) f=some (.lst fs)/\Paired (Cs.zce (upd H n (.lst vs))) fs c.rs :=
 ⟨h.mac.aside h.hn h.na,zax h.sm h.nn,by rw [zai h.nq.symm];exact h.hq,by rw [zai h.nf.symm];exact h.hf,Cs.zdP h.rows h.hn fun z e=>by cases e⟩
theorem NdAt.set {C:Addr} {ns:List Str} {c:Cf} {H0 H H1:Hp} {p n q f:Addr} {A:Adr} {m:Ms} {fs:List V} {ps qs:List (Int × Int)} (h:NdAt C ns c H0 H p n q f A m fs ps) (s:Same (upd H n (.lst ((qs.map fun x=>x.1).map V.int))) H1) :
 NdAt C ns c H0 (upd H1 q (.lst ((qs.map fun x=>x.2).map V.int))) p n q f A m fs qs:=by
 obtain ⟨a1,a2,a3,a4,a5⟩:=h.setN (vs:=(qs.map fun x=>x.1).map V.int)
 have hq1:=s _ _ a3
 have b1:=a1.same s
 exact ⟨b1.aside hq1 h.qa,zax (a2.trans s) h.qn,h.new,h.pn,h.nn,h.qn,h.fn,h.nq,h.nf,h.qf,h.na,h.qa,h.fa,by rw [zai h.nq];exact s _ _ upd_same,upd_same,by rw [zai h.qf.symm];exact s _ _ a4,Cs.zdP (Cs.zaC a5 s) hq1 fun z e=>by cases e⟩
end Mc
namespace Mc
open PySem L2
def core (m:Ms):Ms:={ m with lanes:=[] }
structure Alike (c c':Cf):Prop where
 keys:c'.keys=c.keys
 cast:c'.cast=c.cast
 sgs:(c'.rs.map fun r=>r.s)=c.rs.map fun r=>r.s
 ths:(c'.rs.map fun r=>r.t)=c.rs.map fun r=>r.t
theorem Alike.get {c c':Cf} (A:Alike c c') {j:Nat} {r r':Cs.Row} (h:c.rs[j]?=some r) (h':c'.rs[j]?=some r'):r'.s=r.s/\r'.t=r.t:=by
 have e1:=congrArg (fun l=>l[j]?) A.sgs
 have e2:=congrArg (fun l=>l[j]?) A.ths
 simp only [List.getElem?_map,h,h',Option.map_some] at e1 e2
 exact ⟨Option.some.inj e1,Option.some.inj e2⟩
theorem zhe (rs:List Cs.Row) (x:Str):Cs.place rs x=(rs.map fun r=>r.s).findIdx? fun s=>decide (s=x):=by
 unfold Cs.place
 rw [List.findIdx?_map]
 rfl
theorem Alike.place {c c':Cf} (A:Alike c c') (x:Str):Cs.place c'.rs x=Cs.place c.rs x:=by rw [zhe,zhe,A.sgs]
theorem Alike.key {c c':Cf} (A:Alike c c') {m m':Ms} (h:core m=core m'):key c' m'=key c m:=by
 have e:(core m).at_=(core m').at_:=congrArg Ms.at_ h
 have e:m.at_=m'.at_:=e
 unfold Mc.key
 rw [A.keys,e]
theorem zha {c c':Cf} (A:Alike c c') {m m':Ms} (h:core m=core m'):core (fall c m)=core (fall c' m'):=by
 obtain ⟨l,a,b,d,e,f,g,i,j⟩:=m
 obtain ⟨l',a',b',d',e',f',g',i',j'⟩:=m'
 cases h
 unfold fall
 cases e with
 | nil=>rfl
 | cons x r =>
   show core (match Mt.zbq (c.rs.map fun r=>r.t) x.2 with | some k=>_ | none=>_)=core (match Mt.zbq (c'.rs.map fun r=>r.t) x.2 with | some k=>_ | none=>_)
   rw [A.ths]
   cases Mt.zbq (c.rs.map fun r=>r.t) x.2 with
   | none=>rfl
   | some k=>rfl
theorem zhy {m m':Ms} (h:core m=core m'):core (cool m)=core (cool m'):=by
 obtain ⟨l,a,b,d,e,f,g,i,j⟩:=m
 obtain ⟨l',a',b',d',e',f',g',i',j'⟩:=m'
 cases h
 unfold cool
 by_cases h1:b.isEmpty=true
 ·rw [if_pos h1,if_pos h1]
  rfl
 ·rw [if_neg h1,if_neg h1]
  by_cases h2:d - 1<=0
  ·rw [if_pos h2,if_pos h2]
   rfl
  ·rw [if_neg h2,if_neg h2]
   rfl
theorem zhO {c:Cf} {m:Ms} {k j:Nat} (g:Gd c m) (hk:key c m=some k) (hp:Cs.place c.rs (sg k)=some j) (hl:zaH c m=false):∃ r t,c.rs[j]?=some r/\m.lanes[j]?=some ((r.s,r.t) :: t):=by
 have e:keyS c m=sg k:=by unfold keyS;rw [hk]
 unfold zaH at hl
 rw [e,hp] at hl
 have hl:zbE m.lanes j=false:=hl
 unfold zbE at hl
 cases hj:m.lanes[j]? with
 | none=>rw [hj] at hl;cases hl
 | some l =>
   rw [hj] at hl
   cases l with
   | nil=>cases hl
   | cons x t =>
     obtain ⟨r,hr,hx⟩:=g.ow j _ hj
     exact ⟨r,t,hr,by rw [hx x List.mem_cons_self]⟩
theorem zij {c c':Cf} (A:Alike c c') {m m':Ms} (g:Gd c m) (g':Gd c' m') (h:core m=core m') (hl:∀ k j,key c m=some k->Cs.place c.rs (sg k)=some j->zaH c m=false/\zaH c' m'=false) (hkn:∀ k,key c m=some k->k=47\/k=32\/(Cs.place c.rs (sg k)).isSome=true):core (strike c m)=core (strike c' m'):=by
 have ek:=A.key h
 unfold strike
 rw [ek]
 cases hk:key c m with
 | none=>exact h
 | some k =>
   show core (if k=47 then _ else _)=core (if k=47 then _ else _)
   by_cases h1:k=47
   ·rw [if_pos h1,if_pos h1]
    unfold send
    have e1:(core m).heat=(core m').heat:=congrArg Ms.heat h
    have e1:m.heat=m'.heat:=e1
    rw [<- e1,A.cast]
    by_cases h2:m.heat.isEmpty=true
    ·rw [if_pos h2,if_pos h2]
     obtain ⟨l,a,b,d,e,f,g,i,j⟩:=m
     obtain ⟨l',a',b',d',e',f',g',i',j'⟩:=m'
     cases h
     rfl
    ·rw [if_neg h2,if_neg h2]
     exact h
   ·rw [if_neg h1,if_neg h1]
    by_cases h2:k=32
    ·rw [if_pos h2,if_pos h2]
     obtain ⟨l,a,b,d,e,f,g,i,j⟩:=m
     obtain ⟨l',a',b',d',e',f',g',i',j'⟩:=m'
     cases h
     rfl
    ·rw [if_neg h2,if_neg h2]
     cases hp:Cs.place c.rs (sg k) with
     | none =>
       rcases hkn k hk with z | z | z
       ·exact absurd z h1
       ·exact absurd z h2
       ·rw [hp] at z;cases z
     | some j =>
       obtain ⟨l1,l2⟩:=hl k j hk hp
       obtain ⟨r,t,hr,hj⟩:=zhO g hk hp l1
       obtain ⟨r',t',hr',hj'⟩:=zhO g' (ek.trans hk) ((A.place _).trans hp) l2
       obtain ⟨e1,e2⟩:=A.get hr hr'
       rw [l1,l2,A.place,hp,if_neg (fun z=>nomatch z),if_neg (fun z=>nomatch z)]
       show core (pick m j)=core (pick m' j)
       unfold pick
       rw [hj,hj',e1,e2]
       obtain ⟨l,a,b,d,e,f,g,i,j⟩:=m
       obtain ⟨l',a',b',d',e',f',g',i',j'⟩:=m'
       cases h
       rfl
theorem zkG {c c':Cf} (A:Alike c c') (R:Rt c) (R':Rt c') {m m':Ms} (O:Ok c m) (O':Ok c' m') (g:Gd c m) (g':Gd c' m') (h:core m=core m') (hl:∀ k j,key c (cool (fall c m))=some k->Cs.place c.rs (sg k)=some j->zaH c (cool (fall c m))=false/\zaH c' (cool (fall c' m'))=false):core (tick c m)=core (tick c' m'):=by
 have h1:=zhy (zha A h)
 have hs:=zij A ((g.fall R O).cool R O.fall) ((g'.fall R' O').cool R' O'.fall) h1 hl fun k hk=>by
  rcases O.cf.known k (List.mem_of_getElem? hk) with z | z | z
  ·exact .inl z
  ·exact .inr (.inl z)
  ·exact .inr (.inr z.1)
 unfold tick
 generalize strike c (cool (fall c m))=n at hs
 generalize strike c' (cool (fall c' m'))=n' at hs
 obtain ⟨l,a,b,d,e,f,g,i,j⟩:=n
 obtain ⟨l',a',b',d',e',f',g',i',j'⟩:=n'
 cases hs
 rfl
def Bd (c:Cf) (m:Ms):Prop:=∀ (j:Nat) r k,c.rs[j]?=some r->r.s=sg k->m.bar.count (r.s,r.t)<=(flat (m.texts.map cps)).count k
theorem Bd.fall {c:Cf} {m:Ms} (b:Bd c m):Bd c (fall c m):=by
 intro j r k hr hk
 have h:=b j r k hr hk
 unfold Mc.fall
 cases hb:m.bar with
 | nil =>
   show m.bar.count _<=_
   exact h
 | cons x t =>
   rw [hb] at h
   show (match Mt.zbq (c.rs.map fun r:Cs.Row=>r.t) x.2 with | some k=>({ m with bar:=t,lanes:=zcc m.lanes k x }:Ms) | none=>m).bar.count _<=(flat ((match Mt.zbq (c.rs.map fun r:Cs.Row=>r.t) x.2 with | some k=>({ m with bar:=t,lanes:=zcc m.lanes k x }:Ms) | none=>m).texts.map cps)).count k
   cases Mt.zbq (c.rs.map fun r:Cs.Row=>r.t) x.2 with
   | none =>
     show m.bar.count _<=_
     rw [hb]
     exact h
   | some q=>exact Nat.le_trans (List.Sublist.count_le _ (List.sublist_cons_self x t)) h
theorem zhF (ts:List (List Nat)) (t:List Nat):flat (ts++[t])=flat ts++(t++[47]):=by
 unfold flat
 rw [List.flatMap_append]
 simp
theorem Bd.cool {c:Cf} {m:Ms} (R:Rt c) (g:Gd c m) (b:Bd c m):Bd c (cool m):=by
 intro j r k hr hk
 have h:=b j r k hr hk
 unfold Mc.cool
 by_cases h1:m.heat.isEmpty=true
 ·rw [if_pos h1]
  exact h
 ·rw [if_neg h1]
  by_cases h2:m.togo - 1<=0
  ·rw [if_pos h2]
   show (m.bar++mats m.heat).count _<=(flat ((m.texts++[zaE m.heat]).map cps)).count k
   rw [List.map_append,List.map_cons,List.map_nil,zhF,List.count_append,List.count_append,List.count_append,zdV R hr hk g.ih]
   omega
  ·rw [if_neg h2]
   exact h
theorem zcY (c:Cf) (m:Ms):(strike c m).bar=m.bar/\(strike c m).texts=m.texts:=by
 unfold strike
 cases key c m with
 | none=>exact ⟨rfl,rfl⟩
 | some k =>
   show (if k=47 then _ else _:Ms).bar=_/\(if k=47 then _ else _:Ms).texts=_
   by_cases h1:k=47
   ·rw [if_pos h1]
    unfold send
    split <;> exact ⟨rfl,rfl⟩
   ·rw [if_neg h1]
    by_cases h2:k=32
    ·rw [if_pos h2]
     exact ⟨rfl,rfl⟩
    ·rw [if_neg h2]
     split
     ·exact ⟨rfl,rfl⟩
     ·split
      ·unfold pick
       split <;> exact ⟨rfl,rfl⟩
      ·exact ⟨rfl,rfl⟩
theorem Bd.tick {c:Cf} {m:Ms} (R:Rt c) (O:Ok c m) (g:Gd c m) (b:Bd c m):Bd c (tick c m):=by
 have h:=Bd.cool R (g.fall R O) b.fall
 obtain ⟨e1,e2⟩:=zcY c (Mc.cool (Mc.fall c m))
 intro j r k hr hk
 have:=h j r k hr hk
 show (strike c (Mc.cool (Mc.fall c m))).bar.count _<=(flat ((strike c (Mc.cool (Mc.fall c m))).texts.map cps)).count k
 rw [e1,e2]
 exact this
theorem zec {c:Cf} {m:Ms} (R:Rt c) (O:Ok c m) (g:Gd c m) (b:Bd c m) (hn:∀ r ∈ c.rs,r.n=(cntS c.keys r.s:Int)) {k j:Nat} (hk:key c m=some k) (hp:Cs.place c.rs (sg k)=some j):zaH c m=false:=by
 have e:keyS c m=sg k:=by unfold keyS;rw [hk]
 have hj:j < c.rs.length:=by
  unfold Cs.place at hp
  exact (List.findIdx?_eq_some_iff_getElem.mp hp).1
 obtain ⟨r,hr⟩:∃ r,c.rs[j]?=some r:=⟨_,List.getElem?_eq_getElem hj⟩
 have hrs:r.s=sg k:=by
  unfold Cs.place at hp
  obtain ⟨h1,h2,_⟩:=List.findIdx?_eq_some_iff_getElem.mp hp
  rw [List.getElem?_eq_getElem hj] at hr
  cases hr
  exact of_decide_eq_true h2
 obtain ⟨l,hl⟩:∃ l,m.lanes[j]?=some l:=⟨_,List.getElem?_eq_getElem (by rw [O.ln];exact hj)⟩
 unfold zaH
 rw [e,hp]
 show zbE m.lanes j=false
 unfold zbE
 rw [hl]
 cases l with
 | cons x t=>rfl
 | nil =>
   have hct:=g.ct j r [] hr hl
   have hnn:=hn r (List.mem_of_getElem? hr)
   have hcn:cntS c.keys r.s=c.keys.cps.toList.count k:=by rw [hrs];rfl
   have h1:=zdV R hr hrs g.il
   have h2:=zdV R hr hrs g.ih
   have h3:=b j r k hr hrs
   have htx:=congrArg (List.count k) g.tx
   rw [List.count_append,List.count_append] at htx
   have hhot:(cps (zaE m.heat)).count k<=(hot m).count k:=by
    unfold hot
    by_cases hh:m.heat.isEmpty=true
    ·rw [if_pos hh,List.isEmpty_iff.mp hh]
     exact Nat.le_refl _
    ·rw [if_neg hh,List.count_append]
     exact Nat.le_add_right _ _
   have hnext:=congrArg (List.count k) (zdS hk)
   rw [List.count_append,List.count_singleton_self] at hnext
   have hle:(c.keys.cps.toList.take (m.at_+1)).count k<=c.keys.cps.toList.count k:=List.Sublist.count_le _ (List.take_sublist _ _)
   unfold out at hct
   rw [List.length_nil] at hct
   omega
theorem zmr {m m':Ms} (h:core m=core m') (x:Mx):out m x=out m' x:=by
 obtain ⟨l,a,b,d,e,f,g,i,j⟩:=m
 obtain ⟨l',a',b',d',e',f',g',i',j'⟩:=m'
 cases h
 rfl
theorem zdK {c:Cf} {m:Ms} {k j:Nat} (O:Ok c m) (hk:key c m=some k) (hp:Cs.place c.rs (sg k)=some j) (hl:zaH c m=false):strike c m=pick m j:=by
 unfold strike
 rw [hk]
 show (if k=47 then _ else _)=_
 rw [if_neg (fun e=>by rw [e,O.cf.noWedge.1] at hp;cases hp),if_neg (fun e=>by rw [e,O.cf.noWedge.2.1] at hp;cases hp),if_neg (by rw [hl];exact fun z=>nomatch z),hp]
theorem zdM {c:Cf} {k j:Nat} (hp:Cs.place c.rs (sg k)=some j):∃ r,c.rs[j]?=some r/\r.s=sg k:=by
 unfold Cs.place at hp
 obtain ⟨h1,h2,_⟩:=List.findIdx?_eq_some_iff_getElem.mp hp
 exact ⟨_,List.getElem?_eq_getElem h1,of_decide_eq_true h2⟩
theorem zfI {c c':Cf} (A:Alike c c') (R':Rt c') {m1 m':Ms} (O1:Ok c m1) (g1:Gd c m1) (O':Ok c' m') (g':Gd c' m') (b':Bd c' m') (hn':∀ r ∈ c'.rs,r.n=(cntS c'.keys r.s:Int)) (h:core m1=core (cool (fall c' m')))
 {ps qs:List (Int × Int)} (hpk:Pk c' m' ps qs) (hs:still c' m'=false) (hps:ps.length=c'.rs.length) (hw:∀ (j:Nat) r y,c.rs[j]?=some r->qs[j]?=some y->y.1<=r.n) {k j:Nat} (hk:key c m1=some k) (hp:Cs.place c.rs (sg k)=some j):zaH c m1=false:=by
 have O1':=O'.fall.cool
 have g1':=(g'.fall R' O').cool R' O'.fall
 have b1':=Bd.cool R' (g'.fall R' O') b'.fall
 have hk':=(A.key h).trans hk
 have hp':=(A.place (sg k)).trans hp
 have hl':=zec R' O1' g1' b1' hn' hk' hp'
 obtain ⟨r',t',hr',hj'⟩:=zhO g1' hk' hp' hl'
 have hst:=zdK O1' hk' hp' hl'
 have hln:(tick c' m').lanes=(cool (fall c' m')).lanes.set j t':=by
  show (strike c' (cool (fall c' m'))).lanes=_
  rw [hst]
  unfold pick
  rw [hj']
  rfl
 have hjl:j < (cool (fall c' m')).lanes.length:=(List.getElem?_eq_some_iff.mp hj').1
 have hget:(tick c' m').lanes[j]?=some t':=by rw [hln,List.getElem?_set_self hjl]
 obtain ⟨px,hpx⟩:∃ px,ps[j]?=some px:=⟨_,List.getElem?_eq_getElem (by rw [hps,<- O1'.ln];exact hjl)⟩
 obtain ⟨y,hy,hle⟩:=hpk.out hs hpx (zhB hr' hget)
 obtain ⟨r,hr,hrs⟩:=zdM hp
 have hyr:=hw j r y hr hy
 obtain ⟨e1,e2⟩:=A.get hr hr'
 have hct':=g1'.ct j r' _ hr' hj'
 rw [List.length_cons] at hct'
 have hnn:=hn' r' (List.mem_of_getElem? hr')
 have hj:j < c.rs.length:=(List.getElem?_eq_some_iff.mp hr).1
 obtain ⟨l,hl⟩:∃ l,m1.lanes[j]?=some l:=⟨_,List.getElem?_eq_getElem (by rw [O1.ln];exact hj)⟩
 have hct:=g1.ct j r l hr hl
 have ho:=zmr h (r.s,r.t)
 rw [e1,e2] at hct'
 have e:keyS c m1=sg k:=by unfold keyS;rw [hk]
 unfold zaH
 rw [e,hp]
 show zbE m1.lanes j=false
 unfold zbE
 rw [hl]
 cases l with
 | cons x t=>rfl
 | nil =>
   rw [List.length_nil] at hct
   omega
theorem zia {c c':Cf} (A:Alike c c') (R:Rt c) (R':Rt c') {m m':Ms} (O:Ok c m) (O':Ok c' m') (g:Gd c m) (g':Gd c' m') (b':Bd c' m') (hn':∀ r ∈ c'.rs,r.n=(cntS c'.keys r.s:Int)) (h:core m=core m')
 {ps qs:List (Int × Int)} (hpk:Pk c' m' ps qs) (hs:still c' m'=false) (hps:ps.length=c'.rs.length) (hw:∀ (j:Nat) r y,c.rs[j]?=some r->qs[j]?=some y->y.1<=r.n):core (tick c m)=core (tick c' m'):=by
 have h1:=zhy (zha A h)
 have O1:=O.fall.cool
 have g1:=(g.fall R O).cool R O.fall
 refine zkG A R R' O O' g g' h fun k j hk hp=>⟨zfI A R' O1 g1 O' g' b' hn' h1 hpk hs hps hw hk hp,?_⟩
 exact zec R' O'.fall.cool ((g'.fall R' O').cool R' O'.fall) (Bd.cool R' (g'.fall R' O') b'.fall) hn' ((A.key h1).trans hk) ((A.place (sg k)).trans hp)
theorem zer {c c':Cf} (A:Alike c c') {m m':Ms} (h:core m=core m'):zaT c m=zaT c' m':=by
 have ek:=A.key h
 unfold zaT
 rw [ek]
 obtain ⟨l,a,b,d,e,f,g,i,j⟩:=m
 obtain ⟨l',a',b',d',e',f',g',i',j'⟩:=m'
 cases h
 rfl
theorem zfk {c:Cf} {m:Ms} (O:Ok c m) (h:zaH c m=true):∃ k j,key c m=some k/\Cs.place c.rs (sg k)=some j:=by
 unfold zaH at h
 cases hk:key c m with
 | none =>
   have e:keyS c m="":=by unfold keyS;rw [hk]
   rw [e,O.cf.noWedge.2.2] at h
   cases h
 | some k =>
   have e:keyS c m=sg k:=by unfold keyS;rw [hk]
   rw [e] at h
   cases hp:Cs.place c.rs (sg k) with
   | none=>rw [hp] at h;cases h
   | some j=>exact ⟨k,j,rfl,hp⟩
theorem zfG {c:Cf} {m:Ms} (R:Rt c) (O:Ok c m) (g:Gd c m) (b:Bd c m) (hn:∀ r ∈ c.rs,r.n=(cntS c.keys r.s:Int)):still c m=zaT c m:=by
 unfold still zeA
 cases hl:zaH c m with
 | false=>simp
 | true =>
   obtain ⟨k,j,hk,hp⟩:=zfk O hl
   rw [zec R O g b hn hk hp] at hl
   cases hl
theorem zhH {c c':Cf} (A:Alike c c') (R':Rt c') {m m':Ms} (O:Ok c m) (O':Ok c' m') (g:Gd c m) (g':Gd c' m') (b':Bd c' m') (hn':∀ r ∈ c'.rs,r.n=(cntS c'.keys r.s:Int)) (h:core m=core m')
 {ps qs:List (Int × Int)} (hpk:Pk c' m' ps qs) (hps:ps.length=c'.rs.length) (hw:∀ (j:Nat) r y,c.rs[j]?=some r->qs[j]?=some y->y.1<=r.n):still c m=still c' m':=by
 have hr:=zer A h
 have hf:=zfG R' O' g' b' hn'
 cases hs:still c' m' with
 | true =>
   rw [hs] at hf
   unfold still
   rw [hr,<- hf]
   rfl
 | false =>
   rw [hs] at hf
   unfold still
   rw [hr,<- hf]
   show zeA c m=false
   unfold zeA
   cases hl:zaH c m with
   | false=>rfl
   | true =>
     cases hh:m.heat.isEmpty with
     | false=>rfl
     | true =>
       cases hb:m.bar.isEmpty with
       | false=>rfl
       | true =>
         obtain ⟨k,j,hk,hp⟩:=zfk O hl
         have hb':(core m).bar=(core m').bar:=congrArg Ms.bar h
         have hb':m.bar=m'.bar:=hb'
         have hh':(core m).heat=(core m').heat:=congrArg Ms.heat h
         have hh':m.heat=m'.heat:=hh'
         have e1:fall c' m'=m':=by
          unfold fall
          rw [<- hb',List.isEmpty_iff.mp hb]
         have e2:cool m'=m':=by
          unfold cool
          rw [<- hh',if_pos hh]
         have:=zfI A R' O g O' g' b' hn' (by rw [e1,e2];exact h) hpk hs hps hw hk hp
         rw [hl] at this
         cases this
theorem zjS {c:Cf} {m:Ms} (R:Rt c) (O:Ok c m) (g:Gd c m) (b:Bd c m) (hn:∀ r ∈ c.rs,r.n=(cntS c.keys r.s:Int)):(tick c m).waits=m.waits:=by
 have O1:=O.fall.cool
 have g1:=(g.fall R O).cool R O.fall
 have b1:=Bd.cool R (g.fall R O) b.fall
 have e1:(cool (fall c m)).waits=m.waits:=by
  have h1:∀ n:Ms,(cool n).waits=n.waits:=fun n=>by
   unfold cool
   split
   ·rfl
   ·split <;> rfl
  have h2:(fall c m).waits=m.waits:=by
   unfold fall
   split
   ·rfl
   ·split <;> rfl
  rw [h1,h2]
 show (strike c (cool (fall c m))).waits=m.waits
 rw [<- e1]
 generalize cool (fall c m)=n at O1 g1 b1
 cases hk:key c n with
 | none =>
   unfold strike
   rw [hk]
 | some k =>
   cases hp:Cs.place c.rs (sg k) with
   | some j =>
     have hl:=zec R O1 g1 b1 hn hk hp
     rw [zdK O1 hk hp hl]
     unfold pick
     split <;> rfl
   | none =>
     have hl:zaH c n=false:=by
      have e:keyS c n=sg k:=by unfold keyS;rw [hk]
      unfold zaH
      rw [e,hp]
     unfold strike
     rw [hk]
     show (if k=47 then _ else _:Ms).waits=_
     split
     ·unfold send
      split <;> rfl
     ·split
      ·rfl
      ·rw [hl,if_neg (fun z=>nomatch z),hp]
theorem Pk.le {c:Cf} {m:Ms} {ps qs:List (Int × Int)} (R:Rt c) (h:Pk c m ps qs):Ok c m->Gd c m->(∀ (j:Nat) r x,c.rs[j]?=some r->ps[j]?=some x->x.1<=r.n)->∀ (j:Nat) r y,c.rs[j]?=some r->qs[j]?=some y->y.1<=r.n:=by
 induction h with
 | stop _=>exact fun _ _ h=>h
 | @go m ps qs hs _ ih =>
   intro O g h
   refine ih O.tick (g.tick R O) fun j r x hr hx=>?_
   have hj:j < c.rs.length:=(List.getElem?_eq_some_iff.mp hr).1
   obtain ⟨l,hl⟩:∃ l,(tick c m).lanes[j]?=some l:=⟨_,List.getElem?_eq_getElem (by rw [O.tick.ln];exact hj)⟩
   have hjp:j < ps.length:=by
    have:=(List.getElem?_eq_some_iff.mp hx).1
    rwa [ziA] at this
   have hp:ps[j]?=some (ps[j]'hjp):=List.getElem?_eq_getElem hjp
   rw [zlW _ hp (zhB hr hl)] at hx
   cases hx
   unfold up1
   split
   ·show r.n - _<=r.n
    omega
   ·exact h j r _ hr hp
end Mc
namespace Mc
open PySem L2
theorem zlx {K:PySem.W.Frag} {H H':Hp} {a:Addr} {xs:List V} (e:Same H H') (h:SqT K H a xs):SqT K H' a xs:=by
 rcases h with (h | ⟨o,h⟩) | h
 ·exact .inl (.inl (e _ _ h))
 ·exact .inl (.inr ⟨o,e _ _ h⟩)
 ·exact .inr h
mutual
theorem zmk {K:PySem.W.Frag} {H H':Hp} (s:Same H H'):∀ (d:PyData) (v:V),Den K H v d->Den K H' v d
 | .none,v,h=>by cases h with | non=>exact .non
 | .bool b,v,h=>by cases h with | bl=>exact .bl _
 | .int i,v,h=>by cases h with | int=>exact .int _
 | .str x,v,h=>by cases h with | str _ q=>exact .str _ q
 | .list ds,v,h=>by cases h with | lst h1 q=>exact .lst (s.seq h1) (zfi s ds _ q)
 | .tuple ds,v,h=>by cases h with | tup h1 q=>exact .tup (zlx s h1) (zfi s ds _ q)
 | .dict _,v,h=>by cases h
theorem zfi {K:PySem.W.Frag} {H H':Hp} (s:Same H H'):∀ (ds:List PyData) (xs:List V),DenL K H xs ds->DenL K H' xs ds
 | [],xs,h=>by cases h with | nil=>exact .nil
 | d :: ds,xs,h=>by
   cases h with
   | cons h1 h2=>exact .cons (zmk s d _ h1) (zfi s ds _ h2)
end
structure Duo (C:Addr) (ns:List Str) (c0 c1:Cf) (H:Hp) (p0 p1:Addr) (A0 A1:Adr) (m0 m1:Ms) (y0 y1:List V) (Xs:List (Addr × List V)):Prop where
 a0:Mac C ns c0 H p0 A0 m0
 a1:Mac C ns c1 H p1 A1 m1
 sp:Sep p0 A0 p1 A1
 x0:∀ X ∈ Xs,X.1 ∉ A0.all
 x1:∀ X ∈ Xs,X.1 ∉ A1.all
 hx:∀ X ∈ Xs,H X.1=some (.lst X.2)
 r0:Paired (Cs.zce H) y0 c0.rs
 r1:Paired (Cs.zce H) y1 c1.rs
theorem Duo.same {C:Addr} {ns:List Str} {c0 c1:Cf} {H H':Hp} {p0 p1:Addr} {A0 A1:Adr} {m0 m1:Ms} {y0 y1:List V} {Xs:List (Addr × List V)} (h:Duo C ns c0 c1 H p0 p1 A0 A1 m0 m1 y0 y1 Xs) (s:Same H H'):Duo C ns c0 c1 H' p0 p1 A0 A1 m0 m1 y0 y1 Xs :=
 ⟨h.a0.same s,h.a1.same s,h.sp,h.x0,h.x1,fun X hX=>s _ _ (h.hx X hX),Cs.zaC h.r0 s,Cs.zaC h.r1 s⟩
theorem Duo.symm {C:Addr} {ns:List Str} {c0 c1:Cf} {H:Hp} {p0 p1:Addr} {A0 A1:Adr} {m0 m1:Ms} {y0 y1:List V} {Xs:List (Addr × List V)} (h:Duo C ns c0 c1 H p0 p1 A0 A1 m0 m1 y0 y1 Xs):Duo C ns c1 c0 H p1 p0 A1 A0 m1 m0 y1 y0 Xs :=
 ⟨h.a1,h.a0,h.sp.symm,h.x1,h.x0,h.hx,h.r1,h.r0⟩
theorem Duo.set {C:Addr} {ns:List Str} {c0 c1:Cf} {H:Hp} {p0 p1 X:Addr} {A0 A1:Adr} {m0 m1:Ms} {y0 y1 vs vs':List V} {Xs:List (Addr × List V)} (h:Duo C ns c0 c1 H p0 p1 A0 A1 m0 m1 y0 y1 ((X,vs) :: Xs)) (n:∀ Y ∈ Xs,Y.1 ≠ X):Duo C ns c0 c1 (upd H X (.lst vs')) p0 p1 A0 A1 m0 m1 y0 y1 ((X,vs') :: Xs):=by
 have hX:H X=some (.lst vs):=h.hx (X,vs) List.mem_cons_self
 have n0:X ∉ A0.all:=h.x0 (X,vs) List.mem_cons_self
 have n1:X ∉ A1.all:=h.x1 (X,vs) List.mem_cons_self
 refine ⟨h.a0.aside hX n0,h.a1.aside hX n1,h.sp,fun Y hY=>?_,fun Y hY=>?_,fun Y hY=>?_,Cs.zdP h.r0 hX (fun z e=>by cases e),Cs.zdP h.r1 hX (fun z e=>by cases e)⟩
 ·rcases List.mem_cons.mp hY with rfl | hY
  ·exact n0
  ·exact h.x0 Y (List.mem_cons_of_mem _ hY)
 ·rcases List.mem_cons.mp hY with rfl | hY
  ·exact n1
  ·exact h.x1 Y (List.mem_cons_of_mem _ hY)
 ·rcases List.mem_cons.mp hY with rfl | hY
  ·exact upd_same
  ·rw [zai (n Y hY)]
   exact h.hx Y (List.mem_cons_of_mem _ hY)
theorem Duo.more {C:Addr} {ns:List Str} {c0 c1:Cf} {H:Hp} {p0 p1 X:Addr} {A0 A1:Adr} {m0 m1:Ms} {y0 y1 vs:List V} {Xs:List (Addr × List V)} (h:Duo C ns c0 c1 H p0 p1 A0 A1 m0 m1 y0 y1 Xs) (hX:H X=none):Duo C ns c0 c1 (upd H X (.lst vs)) p0 p1 A0 A1 m0 m1 y0 y1 ((X,vs) :: Xs):=by
 have s:=zae hX (.lst vs)
 refine ⟨h.a0.same s,h.a1.same s,h.sp,fun Y hY=>?_,fun Y hY=>?_,fun Y hY=>?_,Cs.zaC h.r0 s,Cs.zaC h.r1 s⟩
 ·rcases List.mem_cons.mp hY with rfl | hY
  ·exact h.a0.new hX
  ·exact h.x0 Y hY
 ·rcases List.mem_cons.mp hY with rfl | hY
  ·exact h.a1.new hX
  ·exact h.x1 Y hY
 ·rcases List.mem_cons.mp hY with rfl | hY
  ·exact upd_same
  ·exact s _ _ (h.hx Y hY)
structure Fx (c c':Cf) (qs:List (Int × Int)):Prop where
 al:Alike c c'
 R:Rt c
 R':Rt c'
 hn:∀ r ∈ c.rs,0<=r.n
 hn':∀ r ∈ c'.rs,r.n=(cntS c'.keys r.s:Int)
 hw:∀ (j:Nat) r y,c.rs[j]?=some r->qs[j]?=some y->y.1<=r.n
def GdP (x:Int × Int):Prop:=(x.1=0/\x.2=0)\/(0 < x.1/\0 < x.2)
structure Go (c c':Cf) (m m':Ms) (ps qs:List (Int × Int)):Prop where
 o:Ok c m
 o':Ok c' m'
 g:Gd c m
 g':Gd c' m'
 b':Bd c' m'
 h:core m=core m'
 pk:Pk c' m' ps qs
 ln:ps.length=c'.rs.length
 w:m'.waits=0
 d:0<=m'.done
 gp:∀ x ∈ ps,GdP x
theorem Go.still {c c':Cf} {m m':Ms} {ps qs:List (Int × Int)} (F:Fx c c' qs) (G:Go c c' m m' ps qs):Mc.still c m=Mc.still c' m':=zhH F.al F.R' G.o G.o' G.g G.g' G.b' F.hn' G.h G.pk G.ln F.hw
theorem ztb {d:Int} (hd:0 < d) (os:List Int) {ps:List (Int × Int)} (h:∀ x ∈ ps,GdP x):∀ x ∈ upN d os ps,GdP x:=by
 induction os generalizing ps with
 | nil=>rw [zkX];exact h
 | cons o os ih =>
   cases ps with
   | nil=>exact h
   | cons y ys =>
     intro x hx
     rcases List.mem_cons.mp hx with rfl | hx
     ·have hy:=h y List.mem_cons_self
      unfold up1
      split
      ·rename_i hlt
       refine .inr ⟨?_,hd⟩
       show 0 < o
       rcases hy with ⟨h1,_⟩ | ⟨h1,_⟩ <;> omega
      ·exact hy
     ·exact ih (fun z hz=>h z (List.mem_cons_of_mem _ hz)) x hx
theorem Go.next {c c':Cf} {m m':Ms} {ps qs:List (Int × Int)} (F:Fx c c' qs) (G:Go c c' m m' ps qs) (hs:Mc.still c' m'=false):Go c c' (tick c m) (tick c' m') (upN (tick c' m').done (zkd c'.rs (tick c' m').lanes) ps) qs:=by
 have hd:(tick c' m').done=m'.done+1:=zkq c' m'
 have h0:=G.d
 exact ⟨G.o.tick,G.o'.tick,G.g.tick F.R G.o,G.g'.tick F.R' G.o',G.b'.tick F.R' G.o' G.g',zia F.al F.R F.R' G.o G.o' G.g G.g' G.b' F.hn' G.h G.pk hs G.ln F.hw,G.pk.next hs,by rw [ziA];exact G.ln,by rw [zjS F.R' G.o' G.g' G.b' F.hn'];exact G.w,by rw [hd];omega,ztb (by rw [hd];omega) _ G.gp⟩
theorem Go.rest {c c':Cf} {m m':Ms} {ps qs:List (Int × Int)} (F:Fx c c' qs) (G:Go c c' m m' ps qs) (hs:Mc.still c' m'=true):zaT c m=true/\ps=qs:=by
 refine ⟨?_,?_⟩
 ·rw [zer F.al G.h,<- zfG F.R' G.o' G.g' G.b' F.hn']
  exact hs
 ·cases G.pk with
  | stop _=>rfl
  | go h _=>rw [hs] at h;cases h
def co (x q:Int × Int):Int:=if x.1=q.1 then x.2 else 0
end Mc
namespace Mc
open PySem L2
theorem Go.fin {c c':Cf} {qs:List (Int × Int)} (F:Fx c c' qs) {m':Ms} {ps:List (Int × Int)} (h:Pk c' m' ps qs):∀ {m:Ms},Go c c' m m' ps qs->core (Mc.fin c m)=core (Mc.fin c' m')/\(Mc.fin c' m').waits=0/\zaT c (Mc.fin c m)=true:=by
 induction h with
 | stop hs =>
   intro m G
   rw [zgG hs,zgG ((G.still F).trans hs)]
   exact ⟨G.h,G.w,(G.rest F hs).1⟩
 | go hs _ ih =>
   intro m G
   rw [<- zne G.o' hs,<- zne G.o ((G.still F).trans hs)]
   exact ih F (G.next F hs)
def sgs (m:Ms):Nat:=(flat (m.texts.map cps)).countP isSg
structure Dm (c:Cf) (s f:Ms):Prop where
 at_:s.at_<=f.at_
 cs:s.texts.length < f.texts.length\/(s.texts.length=f.texts.length/\(s.heat ≠ []->f.heat ≠ []->f.togo<=s.togo))
 fl:sgs s+f.bar.length<=sgs f+s.bar.length
 tg:f.heat ≠ []->f.togo<=c.cast
theorem sent {c:Cf} {m:Ms} (R:Rt c) (g:Gd c m):(c.keys.cps.toList.take m.at_).count 47=m.texts.length+(if m.heat.isEmpty=true then 0 else 1):=by
 rw [<- g.tx,List.count_append,List.count_append,zfR (fun b hb=>by obtain ⟨t,ht,rfl⟩:=List.mem_map.mp hb;exact g.pn t ht),List.length_map,List.count_eq_zero.mpr (zgi R g.il)]
 unfold hot
 split
 ·rfl
 ·rw [List.count_append,List.count_eq_zero.mpr (zgi R g.ih)]
  rfl
theorem zgI {ks:List Nat} {a b:Nat} (h:a<=b):(ks.take a).count 47<=(ks.take b).count 47:=by
 have e:ks.take a=(ks.take b).take a:=by rw [List.take_take,Nat.min_eq_left h]
 rw [e]
 exact List.Sublist.count_le _ (List.take_sublist _ _)
theorem zmS {as bs:List (List Nat)} {u v:List Nat} (ha:∀ a ∈ as,47 ∉ a) (hb:∀ b ∈ bs,47 ∉ b) (hl:as.length<=bs.length) (h:flat as++u=flat bs++v):(flat as).countP isSg<=(flat bs).countP isSg:=by
 induction as generalizing bs with
 | nil=>exact Nat.zero_le _
 | cons a as ih =>
   cases bs with
   | nil=>cases hl
   | cons b bs =>
     rw [zcS,zcS,List.append_assoc,List.append_assoc] at h
     obtain ⟨e1,e2⟩:=zlA (ha a List.mem_cons_self) (hb b List.mem_cons_self) h
     have:=ih (fun x hx=>ha x (List.mem_cons_of_mem _ hx)) (fun x hx=>hb x (List.mem_cons_of_mem _ hx)) (Nat.le_of_succ_le_succ hl) e2
     rw [zcS,zcS,List.countP_append,List.countP_append,List.countP_cons,List.countP_cons,e1]
     omega
theorem ziZ {c c':Cf} (A:Alike c c') {s f:Ms} (g:Gd c s) (g':Gd c' f) (h:s.at_<=f.at_) (hl:s.texts.length<=f.texts.length):sgs s<=sgs f:=by
 have t1:=g.tx
 have t2:=g'.tx
 rw [A.keys] at t2
 have e:c.keys.cps.toList.take f.at_=c.keys.cps.toList.take s.at_++(c.keys.cps.toList.take f.at_).drop s.at_:=by
  have:=(List.take_append_drop s.at_ (c.keys.cps.toList.take f.at_)).symm
  rwa [List.take_take,Nat.min_eq_left h] at this
 rw [e,<- t1,List.append_assoc,List.append_assoc,List.append_assoc] at t2
 exact zmS (fun a ha=>by obtain ⟨x,hx,rfl⟩:=List.mem_map.mp ha;exact g.pn x hx) (fun a ha=>by obtain ⟨x,hx,rfl⟩:=List.mem_map.mp ha;exact g'.pn x hx) (by rw [List.length_map,List.length_map];exact hl) t2.symm
theorem zkQ {c c':Cf} (A:Alike c c') {s f:Ms} (g:Gd c s) (g':Gd c' f) (h:f.at_<=s.at_) (hl:f.texts.length<=s.texts.length):sgs f<=sgs s:=by
 have A':Alike c' c:=⟨A.keys.symm,A.cast.symm,A.sgs.symm,A.ths.symm⟩
 exact ziZ A' g' g h hl
theorem zoB:∀ k ∈ Cs.signs,isSg k=true:=by decide +kernel
theorem znw {c:Cf} (R:Rt c) {l:List Part} (h:∀ x ∈ mats l,Own c x):(cps (zaE l)).countP isSg=(mats l).length:=by
 rw [zde]
 induction l with
 | nil=>rfl
 | cons p l ih =>
   rw [List.flatMap_cons,List.countP_append,zcs,List.length_append,ih (fun x hx=>h x (by rw [zcs];exact List.mem_append_right _ hx))]
   congr 1
   cases p with
   | none=>rfl
   | some x =>
     obtain ⟨j,r,hr,e⟩:=h x (by rw [zcs];exact List.mem_cons_self)
     subst e
     obtain ⟨d,hd,ed⟩:=R.sg r (List.mem_of_getElem? hr)
     show (cps r.s).countP isSg=1
     rw [ed,zkA]
     show List.countP isSg [d]=1
     rw [List.countP_cons,if_pos (zoB d hd)]
     rfl
theorem zgo {c:Cf} {m:Ms} (O:Ok c m):(fall c m).bar=m.bar.tail:=by
 unfold fall
 cases hb:m.bar with
 | nil=>exact hb
 | cons x r =>
   obtain ⟨_,_,_,_,k,hk,_⟩:=O.bm x (by rw [hb];exact List.mem_cons_self)
   show (match Mt.zbq (c.rs.map fun r:Cs.Row=>r.t) x.2 with | some k=>({ m with bar:=r,lanes:=zcc m.lanes k x }:Ms) | none=>m).bar=r
   rw [hk]
theorem Dm.le {c:Cf} {s f:Ms} (d:Dm c s f):s.texts.length<=f.texts.length:=by
 rcases d.cs with h | h <;> omega
theorem Dm.fall {c c':Cf} (A:Alike c c') {s f:Ms} (O:Ok c s) (O':Ok c' f) (g:Gd c s) (g':Gd c' f) (d:Dm c s f):Dm c (fall c s) (fall c' f):=by
 obtain ⟨a1,a2,a3,a4,a5,_,_⟩:=zck c s
 obtain ⟨b1,b2,b3,b4,b5,_,_⟩:=zck c' f
 have e1:sgs (Mc.fall c s)=sgs s:=by unfold sgs;rw [a5]
 have e2:sgs (Mc.fall c' f)=sgs f:=by unfold sgs;rw [b5]
 have hm:=ziZ A g g' d.at_ d.le
 have hf:=d.fl
 refine ⟨by rw [a1,b1];exact d.at_,by rw [a5,b5,a3,b3,a4,b4];exact d.cs,?_,by rw [b3,b4];exact d.tg⟩
 rw [e1,e2,zgo O,zgo O',List.length_tail,List.length_tail]
 omega
theorem zct (m:Ms):(m.heat=[]/\cool m=m)\/(m.heat ≠ []/\m.togo<=1/\(cool m).texts.length=m.texts.length+1/\(cool m).heat=[])\/(m.heat ≠ []/\1 < m.togo/\(cool m).texts=m.texts/\(cool m).heat=m.heat/\(cool m).togo=m.togo - 1):=by
 by_cases h:m.heat.isEmpty=true
 ·exact .inl ⟨List.isEmpty_iff.mp h,if_pos h⟩
 ·have hn:m.heat ≠ []:=fun z=>h (by rw [z];rfl)
  by_cases h2:m.togo - 1<=0
  ·refine .inr (.inl ⟨hn,by omega,?_,?_⟩)
   ·unfold cool
    rw [if_neg h,if_pos h2]
    exact List.length_append
   ·unfold cool
    rw [if_neg h,if_pos h2]
  ·refine .inr (.inr ⟨hn,by omega,?_,?_,?_⟩)
   all_goals
    unfold cool
    rw [if_neg h,if_neg h2]
theorem Dm.cool {c c':Cf} (A:Alike c c') (R:Rt c) (R':Rt c') {s f:Ms} (O:Ok c s) (O':Ok c' f) (g:Gd c s) (g':Gd c' f) (d:Dm c s f):Dm c (cool s) (cool f):=by
 obtain ⟨a1,a2,a3,a4,a5⟩:=zdR s
 obtain ⟨b1,b2,b3,b4,b5⟩:=zdR f
 have n1:=sent R g
 have n2:=sent R' g'
 rw [A.keys] at n2
 have hle:=zgI (ks:=c.keys.cps.toList) d.at_
 rw [n1,n2] at hle
 have bal:∀ {c:Cf} {m:Ms},Rt c->Gd c m->((sgs (Mc.cool m):Nat):Int) - ((Mc.cool m).bar.length:Int)=((sgs m:Nat):Int) - (m.bar.length:Int):=fun {c m} R g=>by
  unfold Mc.cool
  split
  ·rfl
  ·split
   ·unfold sgs
    show (((flat ((m.texts++[zaE m.heat]).map cps)).countP isSg:Nat):Int) - ((m.bar++mats m.heat).length:Int)=_
    rw [List.map_append,List.map_cons,List.map_nil,zhF,List.countP_append,List.countP_append,znw R g.ih,List.length_append]
    have e:List.countP isSg [47]=0:=rfl
    rw [e]
    omega
   ·rfl
 have hb1:=bal R g
 have hb2:=bal R' g'
 have hf:=d.fl
 have ht:=d.tg
 have tgs:=O.tg
 have tgf:=O'.tg
 have hle1:s.heat ≠ []->f.heat=[]->s.texts.length+1<=f.texts.length:=fun z1 z2=>by
  rw [if_neg (fun z=>z1 (List.isEmpty_iff.mp z)),if_pos (List.isEmpty_iff.mpr z2)] at hle
  omega
 have hcs:=d.cs
 refine ⟨by rw [a1,b1];exact d.at_,?_,by omega,?_⟩
 ·clear hb1 hb2 hf bal n1 n2 hle a1 a2 a3 a4 a5 b1 b2 b3 b4 b5
  rcases zct s with ⟨s1,s2⟩ | ⟨s1,s2,s3,s4⟩ | ⟨s1,s2,s3,s4,s5⟩
  ·rw [s2]
   rcases zct f with ⟨f1,f2⟩ | ⟨f1,f2,f3,f4⟩ | ⟨f1,f2,f3,f4,f5⟩
   ·rw [f2]
    exact hcs
   ·refine .inl ?_
    rcases hcs with h | h <;> omega
   ·rw [f3]
    rcases hcs with h | h
    ·exact .inl h
    ·exact .inr ⟨h.1,fun z=>absurd s1 z⟩
  ·rcases zct f with ⟨f1,f2⟩ | ⟨f1,f2,f3,f4⟩ | ⟨f1,f2,f3,f4,f5⟩
   ·have:=hle1 s1 f1
    rw [f2,s3]
    by_cases z:s.texts.length+1=f.texts.length
    ·exact .inr ⟨z,fun z=>absurd s4 z⟩
    ·exact .inl (by omega)
   ·rw [s3,f3]
    rcases hcs with h | h
    ·exact .inl (by omega)
    ·exact .inr ⟨by omega,fun z=>absurd s4 z⟩
   ·rw [s3,f3]
    rcases hcs with h | h
    ·by_cases z:s.texts.length+1=f.texts.length
     ·exact .inr ⟨z,fun z=>absurd s4 z⟩
     ·exact .inl (by omega)
    ·have:=h.2 s1 f1
     omega
  ·rw [s3]
   rcases zct f with ⟨f1,f2⟩ | ⟨f1,f2,f3,f4⟩ | ⟨f1,f2,f3,f4,f5⟩
   ·have:=hle1 s1 f1
    rw [f2]
    exact .inl (by omega)
   ·rw [f3]
    refine .inl ?_
    rcases hcs with h | h <;> omega
   ·rw [f3]
    rcases hcs with h | h
    ·exact .inl h
    ·have:=h.2 s1 f1
     exact .inr ⟨h.1,fun _ _=>by rw [s5,f5];omega⟩
 ·intro hh
  rcases zct f with ⟨f1,f2⟩ | ⟨f1,f2,f3,f4⟩ | ⟨f1,f2,f3,f4,f5⟩
  ·rw [f2] at hh
   exact absurd f1 hh
  ·exact absurd f4 hh
  ·have:=ht f1
   rw [f5]
   omega
theorem zeu (c:Cf) (m:Ms):(strike c m).texts=m.texts/\(strike c m).bar=m.bar:=⟨(zcY c m).2,(zcY c m).1⟩
theorem zaV {c:Cf} {m:Ms} (R:Rt c) (g:Gd c m):((strike c m).at_=m.at_/\(strike c m).heat=m.heat/\(strike c m).togo=m.togo)\/((strike c m).at_=m.at_+1/\(strike c m).heat=m.heat/\(strike c m).togo=m.togo/\key c m ≠ some 47)\/((strike c m).at_=m.at_+1/\m.heat=[]/\(strike c m).heat ≠ []/\(strike c m).togo=c.cast/\key c m=some 47):=by
 unfold strike
 cases hk:key c m with
 | none=>exact .inl ⟨rfl,rfl,rfl⟩
 | some k =>
   show ((if k=47 then _ else _:Ms).at_=_/\(if k=47 then _ else _:Ms).heat=_/\(if k=47 then _ else _:Ms).togo=_)\/((if k=47 then _ else _:Ms).at_=_/\(if k=47 then _ else _:Ms).heat=_/\(if k=47 then _ else _:Ms).togo=_/\_)\/((if k=47 then _ else _:Ms).at_=_/\_/\(if k=47 then _ else _:Ms).heat ≠ _/\(if k=47 then _ else _:Ms).togo=_/\_)
   by_cases h1:k=47
   ·rw [if_pos h1]
    unfold send
    by_cases h2:m.heat.isEmpty=true
    ·rw [if_pos h2]
     exact .inr (.inr ⟨rfl,List.isEmpty_iff.mp h2,g.line_ne R (by rw [hk,h1]),rfl,by rw [h1]⟩)
    ·rw [if_neg h2]
     exact .inl ⟨rfl,rfl,rfl⟩
   ·rw [if_neg h1]
    have h1':some k ≠ some 47:=fun z=>h1 (Option.some.inj z)
    by_cases h2:k=32
    ·rw [if_pos h2]
     exact .inr (.inl ⟨rfl,rfl,rfl,h1'⟩)
    ·rw [if_neg h2]
     split
     ·exact .inl ⟨rfl,rfl,rfl⟩
     ·split
      ·unfold pick
       split
       ·exact .inr (.inl ⟨rfl,rfl,rfl,h1'⟩)
       ·exact .inl ⟨rfl,rfl,rfl⟩
      ·exact .inl ⟨rfl,rfl,rfl⟩
theorem zkw {c:Cf} {m:Ms} (O:Ok c m) {k:Nat} (hk:key c m=some k) (hl:∀ j,Cs.place c.rs (sg k)=some j->zaH c m=false) (hs:k=47->m.heat=[]):(strike c m).at_=m.at_+1:=by
 unfold strike
 rw [hk]
 show (if k=47 then _ else _:Ms).at_=_
 by_cases h1:k=47
 ·rw [if_pos h1]
  unfold send
  rw [if_pos (by rw [hs h1];rfl)]
 ·rw [if_neg h1]
  by_cases h2:k=32
  ·rw [if_pos h2]
   rfl
  ·rw [if_neg h2]
   have hp:∃ j,Cs.place c.rs (sg k)=some j:=by
    rcases O.cf.known k (List.mem_of_getElem? hk) with z | z | z
    ·exact absurd z h1
    ·exact absurd z h2
    ·exact Option.isSome_iff_exists.mp z.1
   obtain ⟨j,hj⟩:=hp
   have hlk:=hl j hj
   obtain ⟨j',hj',x,r,hx⟩:=zmy O hk h1 h2 hlk
   rw [hlk,if_neg (fun z=>nomatch z),hj']
   show (pick m j').at_=_
   unfold pick
   rw [hx]
   rfl
theorem Dm.strike {c c':Cf} (A:Alike c c') (R:Rt c) (R':Rt c') {s f:Ms} (O':Ok c' f) (g:Gd c s) (g':Gd c' f) (hl:∀ k j,key c' f=some k->Cs.place c'.rs (sg k)=some j->zaH c' f=false) (d:Dm c s f):Dm c (strike c s) (strike c' f):=by
 have n1:=sent R g
 have n2:=sent R' g'
 rw [A.keys] at n2
 have hle:=zgI (ks:=c.keys.cps.toList) d.at_
 rw [n1,n2] at hle
 have hat:=d.at_
 have hcs:=d.cs
 have htg:=d.tg
 obtain ⟨a1,a2⟩:=zeu c s
 obtain ⟨b1,b2⟩:=zeu c' f
 have hc:=A.cast
 refine ⟨?_,?_,?_,?_⟩
 ·rcases zaV R g with ⟨z,_⟩ | ⟨z,_,_,z4⟩ | ⟨z,z2,z3,_,z5⟩
  ·rcases zaV R' g' with ⟨y,_⟩ | ⟨y,_⟩ | ⟨y,_⟩ <;> omega
  all_goals
   by_cases e:s.at_=f.at_
   ·have ek:key c' f=key c s:=by
     unfold key
     rw [A.keys,e]
    cases hk:key c s with
    | none =>
      have:(Mc.strike c s).at_=s.at_:=by
       unfold Mc.strike
       rw [hk]
      omega
    | some k =>
      rw [z,zkw O' (ek.trans hk) (fun j hj=>hl k j (ek.trans hk) hj) (fun h47=>?_)]
      ·omega
      ·first
        | exact absurd (by rw [hk,h47]) z4
        | (cases hh:f.heat with
           | nil=>rfl
           | cons y v =>
             exfalso
             rw [e] at n1
             rw [n1,z2,hh] at n2
             have n2:s.texts.length+0=f.texts.length+1:=n2
             rcases hcs with h | h <;> omega)
   ·rcases zaV R' g' with ⟨y,_⟩ | ⟨y,_⟩ | ⟨y,_⟩ <;> omega
 ·rw [a1,b1]
  rcases hcs with h | h
  ·exact .inl h
  ·refine .inr ⟨h.1,fun hs hf=>?_⟩
   have hh:=h.2
   rcases zaV R g with ⟨_,z2,z3⟩ | ⟨_,z2,z3,_⟩ | ⟨_,z2,_,z3,_⟩
   ·rcases zaV R' g' with ⟨_,y2,y3⟩ | ⟨_,y2,y3,_⟩ | ⟨_,y2,_,y3,_⟩
    ·rw [z2] at hs;rw [y2] at hf;rw [z3,y3];exact hh hs hf
    ·rw [z2] at hs;rw [y2] at hf;rw [z3,y3];exact hh hs hf
    ·exfalso
     rw [z2] at hs
     rw [y2] at hle
     cases hx:s.heat with
     | nil=>exact hs hx
     | cons x u =>
       rw [hx] at hle
       have hle:s.texts.length+1<=f.texts.length+0:=hle
       omega
   ·rcases zaV R' g' with ⟨_,y2,y3⟩ | ⟨_,y2,y3,_⟩ | ⟨_,y2,_,y3,_⟩
    ·rw [z2] at hs;rw [y2] at hf;rw [z3,y3];exact hh hs hf
    ·rw [z2] at hs;rw [y2] at hf;rw [z3,y3];exact hh hs hf
    ·exfalso
     rw [z2] at hs
     rw [y2] at hle
     cases hx:s.heat with
     | nil=>exact hs hx
     | cons x u =>
       rw [hx] at hle
       have hle:s.texts.length+1<=f.texts.length+0:=hle
       omega
   ·rw [z3]
    rcases zaV R' g' with ⟨_,y2,y3⟩ | ⟨_,y2,y3,_⟩ | ⟨_,y2,_,y3,_⟩
    ·rw [y2] at hf;rw [y3];exact htg hf
    ·rw [y2] at hf;rw [y3];exact htg hf
    ·rw [y3,hc];exact Int.le_refl _
 ·have e1:sgs (Mc.strike c s)=sgs s:=by unfold sgs;rw [a1]
  have e2:sgs (Mc.strike c' f)=sgs f:=by unfold sgs;rw [b1]
  rw [e1,e2,a2,b2]
  exact d.fl
 ·intro hf
  rcases zaV R' g' with ⟨_,y2,y3⟩ | ⟨_,y2,y3,_⟩ | ⟨_,y2,_,y3,_⟩
  ·rw [y2] at hf;rw [y3];exact htg hf
  ·rw [y2] at hf;rw [y3];exact htg hf
  ·rw [y3,hc];exact Int.le_refl _
theorem Dm.tick {c c':Cf} (A:Alike c c') (R:Rt c) (R':Rt c') (hn':∀ r ∈ c'.rs,r.n=(cntS c'.keys r.s:Int)) {s f:Ms} (O:Ok c s) (O':Ok c' f) (g:Gd c s) (g':Gd c' f) (b':Bd c' f) (d:Dm c s f):Dm c (tick c s) (tick c' f):=by
 have O1:=O'.fall.cool
 have g1:=(g'.fall R' O').cool R' O'.fall
 have h:=((d.fall A O O' g g').cool A R R' O.fall O'.fall (g.fall R O) (g'.fall R' O')).strike A R R' O1 ((g.fall R O).cool R O.fall) g1 fun k j hk hp=>zec R' O1 g1 (Bd.cool R' (g'.fall R' O') b'.fall) hn' hk hp
 exact ⟨h.at_,h.cs,h.fl,h.tg⟩
theorem Dm.rest {c c':Cf} (A:Alike c c') (R:Rt c) (R':Rt c') {s f:Ms} (O:Ok c s) (O':Ok c' f) (g:Gd c s) (g':Gd c' f) (d:Dm c s f) (hr:zaT c s=true):zaT c' f=true:=by
 unfold zaT at hr
 simp only [Bool.and_eq_true] at hr
 obtain ⟨⟨⟨h1,h2⟩,h3⟩,h4⟩:=hr
 have hat:s.at_=c.keys.cps.toList.length:=by
  have a:=O.le
  have b:=List.getElem?_eq_none_iff.mp (Option.isNone_iff_eq_none.mp h1)
  omega
 have hat':f.at_=c.keys.cps.toList.length:=by
  have a:=O'.le
  rw [A.keys] at a
  have:=d.at_
  omega
 have n1:=sent R g
 have n2:=sent R' g'
 rw [A.keys,hat',<- hat,n1,if_pos h3] at n2
 have hle:=d.le
 have hhe:f.heat.isEmpty=true:=by
  cases e:f.heat.isEmpty with
  | true=>rfl
  | false =>
    rw [e,if_neg (fun z=>nomatch z)] at n2
    omega
 rw [hhe,if_pos rfl] at n2
 have hm:=zkQ A g g' (by omega) (by omega)
 have hf:=d.fl
 rw [List.isEmpty_iff.mp h4,List.length_nil] at hf
 have hb:f.bar=[]:=List.length_eq_zero_iff.mp (by omega)
 have hk:key c' f=none:=by
  unfold key
  rw [A.keys]
  exact List.getElem?_eq_none (by omega)
 unfold zaT
 rw [hk,O'.en (by rw [A.keys];exact hat'),hhe,hb]
 rfl
theorem Dm.start {c:Cf} {rs rs':List Cs.Row}:Dm c (start rs) (start rs'):=⟨Nat.le_refl _,.inr ⟨rfl,fun z=>absurd rfl z⟩,Nat.le_refl _,fun z=>absurd rfl z⟩
end Mc
namespace Sr
open PySem PyProof.Rows
def zgD:Bool->Keyed->Array Keyed->Nat->Nat->Nat->StateT SortSt Sem (Option Nat):=sortPriv% PySem.Builtin.gallop
def zlm (left:Bool) (key:Keyed) (arr:Array Keyed) (base i:Nat):StateT SortSt Sem (Option Bool) :=
 elem' arr (base+i) >>= fun x=>ite (left=true) (lt' x key) (lt' key x >>= fun r=>pure (r.map not))
section
variable {prog:Program} {w:World} {A:Around} {E:Value->Shared->Prop} {s:Shared} {o:Array Keyed} {κ:KeyKind} {kd:SortKind} {st:SortSt}
theorem zeC (T:zcd prog w A s κ kd) (kn:kindOf st=kd) {x y:Keyed} {a b:κ.α} {Q:Option Bool->SortSt->Prop} (kx:κ.keyOf x.1=some a) (ky:κ.keyOf y.1=some b) (q:Q (some (κ.blt a b)) st):wpS (model prog w) A E s (lt' x y) Q st:=by
 rw [lt'_eq]
 refine wpS_bind (wpS_get ?_)
 rw [kn]
 exact wpS_bind (wpS_lift (wpAny_attempt (T _ x.1 y.1 a b _ kx ky ⟨rfl,wpS_pure q⟩)))
def zan (κ:KeyKind) (left:Bool) (c a:κ.α):Bool:=if left=true then κ.blt a c else !κ.blt c a
theorem zku (T:zcd prog w A s κ kd) (kn:kindOf st=kd) {left:Bool} {key x:Keyed} {arr:Array Keyed} {base i:Nat} {a c:κ.α} {Q:Option Bool->SortSt->Prop} (hx:arr[base+i]?=some x) (kx:κ.keyOf x.1=some a) (kc:κ.keyOf key.1=some c) (q:Q (some (zan κ left c a)) st):wpS (model prog w) A E s (zlm left key arr base i) Q st:=by
 unfold zlm
 rw [elem'_eq,hx]
 refine wpS_bind (wpS_pure ?_)
 cases left with
 | true =>
   rw [if_pos rfl]
   exact zeC T kn kx kc q
 | false =>
   rw [if_neg (fun z=>nomatch z)]
   exact wpS_bind (zeC T kn kc kx (wpS_pure q))
abbrev GSt:=Option (Option Nat) × Nat × Nat
theorem zii {n:Nat} {G:Nat->Bool} (hG:∀ i j,i<=j->j < n->G j=true->G i=true) {i j:Nat} (hij:i<=j) (hj:j < n) (h:G i=false):G j=false:=by
 cases e:G j with
 | false=>rfl
 | true=>rw [hG i j hij hj e] at h;cases h
theorem zno {n lo hi:Nat} {G:Nat->Bool} {Q:GSt->SortSt->Prop} {f:Nat->GSt->StateT SortSt Sem (ForInStep GSt)} (hG:∀ i j,i<=j->j < n->G j=true->G i=true)
 (hf:∀ (t l r:Nat) (R:ForInStep GSt->SortSt->Prop),l<=r->r<=n->(l=r->R (.done (none,l,r)) st)->(∀ m,l<=m->m < r->(G m=true->R (.yield (none,m+1,r)) st)/\(G m=false->R (.yield (none,l,m)) st))->wpS (model prog w) A E s (f t (none,l,r)) R st)
 (h1:lo<=hi) (h2:hi<=n) (h3:∀ i,i < lo->G i=true) (h4:∀ i,hi<=i->i < n->G i=false)
 (q:∀ k,k<=n->(∀ i,i < k->G i=true)->(∀ i,k<=i->i < n->G i=false)->Q (none,k,k) st):wpS (model prog w) A E s (forIn [0:n] ((none,lo,hi):GSt) f) Q st:=by
 refine wpS_forRange (I:=fun t c u=>u=st/\∃ l r,c=(none,l,r)/\l<=r/\r<=n/\r - l<=n - t/\(∀ i,i < l->G i=true)/\∀ i,r<=i->i < n->G i=false) (fun t c u _ ht hI=>?_) (fun c u hI=>?_) ⟨rfl,lo,hi,rfl,h1,h2,by omega,h3,h4⟩
 ·obtain ⟨rfl,l,r,rfl,a1,a2,a3,a4,a5⟩:=hI
  refine hf t l r _ a1 a2 (fun e=>?_) fun m m1 m2=>⟨fun hm=>⟨rfl,m+1,r,rfl,m2,a2,by omega,fun i hi=>hG i m (by omega) (by omega) hm,a5⟩,fun hm=>⟨rfl,l,m,rfl,m1,by omega,by omega,a4,fun i hi hn=>zii hG hi hn hm⟩⟩
  subst e
  exact q l a2 a4 a5
 ·obtain ⟨rfl,l,r,rfl,a1,a2,a3,a4,a5⟩:=hI
  have e:max 0 n=n:=by omega
  rw [e] at a3
  obtain rfl:l=r:=by omega
  exact q l a2 a4 a5
theorem znh {n mx:Nat} {ok:Nat->Prop} {no:Nat->Prop} {Q:GSt->SortSt->Prop} {f:Nat->GSt->StateT SortSt Sem (ForInStep GSt)} (hmx:mx<=n+1) (h0:ok 0)
 (hf:∀ (t l r:Nat) (R:ForInStep GSt->SortSt->Prop),(mx<=r->R (.done (none,l,r)) st)->(r < mx->no r->R (.done (none,l,r)) st)->(r < mx->ok r->R (.yield (none,r,2 * r+1)) st)->wpS (model prog w) A E s (f t (none,l,r)) R st)
 (q:∀ l r,l < r->ok l->(mx<=r\/(r < mx/\no r))->Q (none,l,r) st):wpS (model prog w) A E s (forIn [0:n] ((none,0,1):GSt) f) Q st:=by
 refine wpS_forRange (I:=fun t c u=>u=st/\∃ l r,c=(none,l,r)/\l < r/\ok l/\t+1<=r) (fun t c u _ ht hI=>?_) (fun c u hI=>?_) ⟨rfl,0,1,rfl,by omega,h0,Nat.le_refl _⟩
 ·obtain ⟨rfl,l,r,rfl,a1,a2,a3⟩:=hI
  exact hf t l r _ (fun h=>q l r a1 a2 (.inl h)) (fun h hn=>q l r a1 a2 (.inr ⟨h,hn⟩)) fun h hk=>⟨rfl,r,2 * r+1,rfl,by omega,hk,by omega⟩
 ·obtain ⟨rfl,l,r,rfl,a1,a2,a3⟩:=hI
  have e:max 0 n=n:=by omega
  rw [e] at a3
  exact q l r a1 a2 (.inl (by omega))
theorem zkC {left:Bool} {key:Keyed} {arr:Array Keyed} {base n hint:Nat} {G:Nat->Bool} {Q:Option Nat->SortSt->Prop} (hB:∀ i,i < n->∀ Q:Option Bool->SortSt->Prop,Q (some (G i)) st->wpS (model prog w) A E s (zlm left key arr base i) Q st) (hG:∀ i j,i<=j->j < n->G j=true->G i=true) (hh:hint < n)
 (q:∀ k,k<=n->(∀ i,i < k->G i=true)->(∀ i,k<=i->i < n->G i=false)->Q (some k) st):wpS (model prog w) A E s (zgD left key arr base n hint) Q st:=by
 unfold zgD
 refine wpS_bind (hB hint hh _ ?_)
 have bs:∀ (l r:Nat) (R:ForInStep GSt->SortSt->Prop),l<=r->r<=n->(∀ m,l<=m->m < r->(G m=true->R (.yield (none,m+1,r)) st)/\(G m=false->R (.yield (none,l,m)) st))->¬ l ≥ r->l<=l+(r - l) / 2/\l+(r - l) / 2 < r:=fun l r R _ _ _ h=>⟨by omega,by omega⟩
 cases hg:G hint with
 | true =>
   refine wpS_bind (znh (mx:=n - hint) (ok:=fun l=>hint+l < n/\G (hint+l)=true) (no:=fun r=>G (hint+r)=false) (by omega) ⟨hh,hg⟩ (fun t l r R r1 r2 r3=>?_) fun l r a1 a2 a3=>?_)
   ·show wpS _ _ _ _ (if r ≥ n - hint then _ else _) _ st
    by_cases h:r ≥ n - hint
    ·rw [if_pos h]
     exact wpS_pure (r1 h)
    ·rw [if_neg h]
     refine wpS_bind (hB (hint+r) (by omega) _ ?_)
     cases hm:G (hint+r) with
     | true=>exact wpS_pure (r3 (by omega) ⟨by omega,hm⟩)
     | false=>exact wpS_pure (r2 (by omega) hm)
   ·refine wpS_bind (zno (lo:=hint+l+1) (hi:=hint+min r (n - hint)) hG (fun t l r R b1 b2 r1 r2=>?_) (by omega) (by omega) (fun i hi=>hG i (hint+l) (by omega) a2.1 a2.2) (fun i hi hn=>?_) fun k b1 b2 b3=>wpS_pure (q k b1 b2 b3))
    ·show wpS _ _ _ _ (if l ≥ r then _ else _) _ st
     by_cases h:l ≥ r
     ·rw [if_pos h]
      exact wpS_pure (r1 (by omega))
     ·rw [if_neg h]
      obtain ⟨m1,m2⟩:=bs l r R b1 b2 r2 h
      refine wpS_bind (hB (l+(r - l) / 2) (by omega) _ ?_)
      cases hm:G (l+(r - l) / 2) with
      | true=>exact wpS_pure ((r2 _ m1 m2).1 hm)
      | false=>exact wpS_pure ((r2 _ m1 m2).2 hm)
    ·rcases a3 with a4 | ⟨a4,a5⟩
     ·omega
     ·exact zii hG (by omega) hn a5
 | false =>
   refine wpS_bind (znh (mx:=hint+1) (ok:=fun l=>l<=hint/\G (hint - l)=false) (no:=fun r=>G (hint - r)=true) (by omega) ⟨Nat.zero_le _,hg⟩ (fun t l r R r1 r2 r3=>?_) fun l r a1 a2 a3=>?_)
   ·show wpS _ _ _ _ (if r ≥ hint+1 then _ else _) _ st
    by_cases h:r ≥ hint+1
    ·rw [if_pos h]
     exact wpS_pure (r1 h)
    ·rw [if_neg h]
     refine wpS_bind (hB (hint - r) (by omega) _ ?_)
     cases hm:G (hint - r) with
     | true=>exact wpS_pure (r2 (by omega) hm)
     | false=>exact wpS_pure (r3 (by omega) ⟨by omega,hm⟩)
   ·refine wpS_bind (zno (lo:=hint+1 - min r (hint+1)) (hi:=hint - l) hG (fun t l r R b1 b2 r1 r2=>?_) (by omega) (by omega) (fun i hi=>?_) (fun i hi hn=>zii hG hi hn a2.2) fun k b1 b2 b3=>wpS_pure (q k b1 b2 b3))
    ·show wpS _ _ _ _ (if l ≥ r then _ else _) _ st
     by_cases h:l ≥ r
     ·rw [if_pos h]
      exact wpS_pure (r1 (by omega))
     ·rw [if_neg h]
      obtain ⟨m1,m2⟩:=bs l r R b1 b2 r2 h
      refine wpS_bind (hB (l+(r - l) / 2) (by omega) _ ?_)
      cases hm:G (l+(r - l) / 2) with
      | true=>exact wpS_pure ((r2 _ m1 m2).1 hm)
      | false=>exact wpS_pure ((r2 _ m1 m2).2 hm)
    ·rcases a3 with a4 | ⟨a4,a5⟩
     ·omega
     ·exact hG i (hint - r) (by omega) (by omega) a5
end
structure MI {α:Type} (R:α->α->Prop) (xs ys out ra rb:List α):Prop where
 pm:(out++(ra++rb)).Perm (xs++ys)
 up:out.Pairwise R
 le:∀ x ∈ out,∀ y ∈ ra++rb,R x y
 ua:ra.Pairwise R
 ub:rb.Pairwise R
theorem zmV {α:Type} (o l r m:List α):(o++l++(m++r)).Perm (o++(m++(l++r))):=by
 rw [List.append_assoc]
 refine List.Perm.append_left o ?_
 rw [<- List.append_assoc,<- List.append_assoc]
 exact List.Perm.append_right r List.perm_append_comm
theorem MI.takeAs {α:Type} {R:α->α->Prop} {xs ys out l ra rb:List α} (h:MI R xs ys out (l++ra) rb) (hl:∀ x ∈ l,∀ y ∈ rb,R x y):MI R xs ys (out++l) ra rb:=by
 obtain ⟨u1,u2,u3⟩:=List.pairwise_append.mp h.ua
 refine ⟨?_,List.pairwise_append.mpr ⟨h.up,u1,fun x hx y hy=>h.le x hx y (List.mem_append_left _ (List.mem_append_left _ hy))⟩,fun x hx y hy=>?_,u2,h.ub⟩
 ·have:=h.pm
  rwa [List.append_assoc,<- List.append_assoc out] at this
 ·rcases List.mem_append.mp hx with hx | hx
  ·rcases List.mem_append.mp hy with hy | hy
   ·exact h.le x hx y (List.mem_append_left _ (List.mem_append_right _ hy))
   ·exact h.le x hx y (List.mem_append_right _ hy)
  ·rcases List.mem_append.mp hy with hy | hy
   ·exact u3 x hx y hy
   ·exact hl x hx y hy
theorem MI.takeBs {α:Type} {R:α->α->Prop} {xs ys out l ra rb:List α} (h:MI R xs ys out ra (l++rb)) (hl:∀ x ∈ l,∀ y ∈ ra,R x y):MI R xs ys (out++l) ra rb:=by
 obtain ⟨u1,u2,u3⟩:=List.pairwise_append.mp h.ub
 refine ⟨(zmV out l rb ra).trans h.pm,List.pairwise_append.mpr ⟨h.up,u1,fun x hx y hy=>h.le x hx y (List.mem_append_right _ (List.mem_append_left _ hy))⟩,fun x hx y hy=>?_,h.ua,u2⟩
 rcases List.mem_append.mp hx with hx | hx
 ·rcases List.mem_append.mp hy with hy | hy
  ·exact h.le x hx y (List.mem_append_left _ hy)
  ·exact h.le x hx y (List.mem_append_right _ (List.mem_append_right _ hy))
 ·rcases List.mem_append.mp hy with hy | hy
  ·exact hl x hx y hy
  ·exact u3 x hx y hy
theorem MI.endA {α:Type} {R:α->α->Prop} {xs ys out ra rb:List α} (h:MI R xs ys out ra rb) (hl:∀ x ∈ ra,∀ y ∈ rb,R x y):(out++ra++rb).Perm (xs++ys)/\(out++ra++rb).Pairwise R:=by
 rw [<- List.append_nil ra] at h
 have h2:=h.takeAs hl
 rw [<- List.append_nil rb] at h2
 have h3:=h2.takeBs fun x _ y hy=>nomatch hy
 have pm:=h3.pm
 rw [List.append_nil,List.append_nil] at pm
 exact ⟨pm,h3.up⟩
theorem MI.endB {α:Type} {R:α->α->Prop} {xs ys out ra rb:List α} (h:MI R xs ys out ra rb) (hl:∀ x ∈ rb,∀ y ∈ ra,R x y):(out++rb++ra).Perm (xs++ys)/\(out++rb++ra).Pairwise R:=by
 rw [<- List.append_nil rb] at h
 have h2:=h.takeBs hl
 rw [<- List.append_nil ra] at h2
 have h3:=h2.takeAs fun x _ y hy=>nomatch hy
 have pm:=h3.pm
 rw [List.append_nil,List.append_nil] at pm
 exact ⟨pm,h3.up⟩
def KR (κ:KeyKind) (x y:Keyed):Prop:=∀ k l,κ.keyOf x.1=some k->κ.keyOf y.1=some l->κ.kle k l
theorem KR.trans {κ:KeyKind} {x y z:Keyed} (hy:∃ k,κ.keyOf y.1=some k) (h1:KR κ x y) (h2:KR κ y z):KR κ x z:=fun k l hk hl=>by
 obtain ⟨m,hm⟩:=hy
 exact KeyOrd.kle_trans (h1 k m hk hm) (h2 m l hm hl)
theorem MI.someB {κ:KeyKind} {xs ys out l ra rb:List Keyed} {x:Keyed} (h:MI (KR κ) xs ys out (x :: ra) (l++rb)) (hx:∃ k,κ.keyOf x.1=some k) (hl:∀ y ∈ l,KR κ y x):MI (KR κ) xs ys (out++l) (x :: ra) rb:=by
 refine h.takeBs fun y hy z hz=>?_
 rcases List.mem_cons.mp hz with rfl | hz
 ·exact hl y hy
 ·exact KR.trans hx (hl y hy) ((List.pairwise_cons.mp h.ua).1 z hz)
theorem MI.someA {κ:KeyKind} {xs ys out l ra rb:List Keyed} {y:Keyed} (h:MI (KR κ) xs ys out (l++ra) (y :: rb)) (hy:∃ k,κ.keyOf y.1=some k) (hl:∀ x ∈ l,KR κ x y):MI (KR κ) xs ys (out++l) ra (y :: rb):=by
 refine h.takeAs fun x hx z hz=>?_
 rcases List.mem_cons.mp hz with rfl | hz
 ·exact hl x hx
 ·exact KR.trans hy (hl x hx) ((List.pairwise_cons.mp h.ub).1 z hz)
theorem zaS {α:Type} {l:List α} {i:Nat} {x:α} (h:l[i]?=some x):l.drop i=x :: l.drop (i+1):=by
 obtain ⟨hi,e⟩:=List.getElem?_eq_some_iff.mp h
 rw [List.drop_eq_getElem_cons hi,e]
structure MJ (κ:KeyKind) (a b out:Array Keyed) (i j:Nat):Prop where
 mi:MI (KR κ) a.toList b.toList out.toList (a.toList.drop i) (b.toList.drop j)
 ks:∀ x ∈ a.toList++b.toList,∃ k,κ.keyOf x.1=some k
theorem MJ.pushB {κ:KeyKind} {a b out:Array Keyed} {i j:Nat} {x y:Keyed} (h:MJ κ a b out i j) (hx:a[i]?=some x) (hy:b[j]?=some y) (hl:KR κ y x):MJ κ a b (out.push y) i (j+1):=by
 have hx':a.toList[i]?=some x:=by rw [Array.getElem?_toList];exact hx
 have hy':b.toList[j]?=some y:=by rw [Array.getElem?_toList];exact hy
 have m:=h.mi
 rw [zaS hx',zaS hy'] at m
 refine ⟨?_,h.ks⟩
 rw [Array.toList_push,zaS hx']
 exact MI.someB (l:=[y]) m (h.ks x (List.mem_append_left _ (List.mem_of_getElem? hx'))) fun z hz=>by rw [List.mem_singleton.mp hz];exact hl
theorem MJ.pushA {κ:KeyKind} {a b out:Array Keyed} {i j:Nat} {x y:Keyed} (h:MJ κ a b out i j) (hx:a[i]?=some x) (hy:b[j]?=some y) (hl:KR κ x y):MJ κ a b (out.push x) (i+1) j:=by
 have hx':a.toList[i]?=some x:=by rw [Array.getElem?_toList];exact hx
 have hy':b.toList[j]?=some y:=by rw [Array.getElem?_toList];exact hy
 have m:=h.mi
 rw [zaS hx',zaS hy'] at m
 refine ⟨?_,h.ks⟩
 rw [Array.toList_push,zaS hy']
 exact MI.someA (l:=[x]) m (h.ks y (List.mem_append_right _ (List.mem_of_getElem? hy'))) fun z hz=>by rw [List.mem_singleton.mp hz];exact hl
theorem zcj (xs:Array Keyed) (i j:Nat):(xs.extract i j).toList=(xs.toList.drop i).take (j - i):=by
 rw [Array.toList_extract,List.extract_eq_drop_take]
theorem zeH (xs:Array Keyed) (i:Nat):(xs.extract i xs.size).toList=xs.toList.drop i:=by
 rw [zcj,List.take_of_length_le (by rw [List.length_drop,Array.length_toList];exact Nat.le_refl _)]
theorem zir {xs:Array Keyed} {i k:Nat} {x:Keyed} (h:x ∈ (xs.toList.drop i).take k):∃ n,n < k/\xs[i+n]?=some x:=by
 obtain ⟨n,hn⟩:=List.mem_iff_getElem?.mp h
 rw [List.getElem?_take] at hn
 split at hn
 ·rename_i hk
  rw [List.getElem?_drop,Array.getElem?_toList] at hn
  exact ⟨n,hk,hn⟩
 ·cases hn
theorem MJ.sliceA {κ:KeyKind} {a b out:Array Keyed} {i j k:Nat} {y:Keyed} (h:MJ κ a b out i j) (hy:b[j]?=some y) (hl:∀ n x,n < k->a[i+n]?=some x->KR κ x y):MJ κ a b (out++a.extract i (i+k)) (i+k) j:=by
 have hy':b.toList[j]?=some y:=by rw [Array.getElem?_toList];exact hy
 have m:=h.mi
 rw [zaS hy',<- List.take_append_drop k (a.toList.drop i),List.drop_drop] at m
 refine ⟨?_,h.ks⟩
 rw [Array.toList_append,zcj,Nat.add_sub_cancel_left,zaS hy']
 exact m.someA (h.ks y (List.mem_append_right _ (List.mem_of_getElem? hy'))) fun x hx=>by
  obtain ⟨n,hn,e⟩:=zir hx
  exact hl n x hn e
theorem MJ.sliceB {κ:KeyKind} {a b out:Array Keyed} {i j k:Nat} {x:Keyed} (h:MJ κ a b out i j) (hx:a[i]?=some x) (hl:∀ n y,n < k->b[j+n]?=some y->KR κ y x):MJ κ a b (out++b.extract j (j+k)) i (j+k):=by
 have hx':a.toList[i]?=some x:=by rw [Array.getElem?_toList];exact hx
 have m:=h.mi
 rw [zaS hx',<- List.take_append_drop k (b.toList.drop j),List.drop_drop] at m
 refine ⟨?_,h.ks⟩
 rw [Array.toList_append,zcj,Nat.add_sub_cancel_left,zaS hx']
 exact m.someB (h.ks x (List.mem_append_left _ (List.mem_of_getElem? hx'))) fun y hy=>by
  obtain ⟨n,hn,e⟩:=zir hy
  exact hl n y hn e
theorem MJ.ab {κ:KeyKind} {a b out:Array Keyed} {i j:Nat} (h:MJ κ a b out i j) (hl:a.size<=i\/b.size<=j):(out++a.extract i a.size++b.extract j b.size).toList.Perm (a.toList++b.toList)/\(out++a.extract i a.size++b.extract j b.size).toList.Pairwise (KR κ):=by
 rw [Array.toList_append,Array.toList_append,zeH,zeH]
 refine h.mi.endA fun x hx y hy=>?_
 rcases hl with hl | hl
 ·rw [List.drop_of_length_le (by rw [Array.length_toList];exact hl)] at hx
  cases hx
 ·rw [List.drop_of_length_le (by rw [Array.length_toList];exact hl)] at hy
  cases hy
theorem MJ.ba {κ:KeyKind} {a b out:Array Keyed} {i j:Nat} {x:Keyed} (h:MJ κ a b out i j) (hi:i+1=a.size) (hx:a[i]?=some x) (hl:∀ y ∈ b.toList,KR κ y x):(out++b.extract j b.size++a.extract i a.size).toList.Perm (a.toList++b.toList)/\(out++b.extract j b.size++a.extract i a.size).toList.Pairwise (KR κ):=by
 have hx':a.toList[i]?=some x:=by rw [Array.getElem?_toList];exact hx
 rw [Array.toList_append,Array.toList_append,zeH,zeH]
 refine h.mi.endB fun y hy z hz=>?_
 rw [zaS hx',List.drop_of_length_le (by rw [Array.length_toList];omega),List.mem_singleton] at hz
 rw [hz]
 exact hl y (List.mem_of_mem_drop hy)
def zgc:Array Keyed->Array Keyed->StateT SortSt Sem (Array Keyed):=sortPriv% PySem.Builtin.mergeLo
section
variable {prog:Program} {w:World} {A:Around} {E:Value->Shared->Prop} {s:Shared} {o:Array Keyed} {κ:KeyKind} {kd:SortKind} {st:SortSt}
structure Lk (st u:SortSt):Prop where
 kn:kindOf u=kindOf st
 ar:arrOf u=arrOf st
 pn:pendingOf u=pendingOf st
 fl:failedOf u=failedOf st
theorem zau {arr:Array Keyed} {i:Nat} {x:Keyed} {Q:Keyed->SortSt->Prop} (hx:arr[i]?=some x) (q:Q x st):wpS (model prog w) A E s (elem' arr i) Q st:=by
 rw [elem'_eq,hx]
 exact wpS_pure q
theorem KR.of {x y:Keyed} {k l:κ.α} (hx:κ.keyOf x.1=some k) (hy:κ.keyOf y.1=some l) (h:κ.kle k l):KR κ x y:=fun k' l' h1 h2=>by
 rw [hx] at h1
 rw [hy] at h2
 cases h1
 cases h2
 exact h
def GB (κ:KeyKind) (left:Bool) (c:κ.α) (arr:Array Keyed) (base n:Nat):Bool:=((arr[base+n]?).bind fun x=>κ.keyOf x.1).elim false (zan κ left c)
theorem zko {left:Bool} {c k:κ.α} {arr:Array Keyed} {base n:Nat} {x:Keyed} (hx:arr[base+n]?=some x) (kx:κ.keyOf x.1=some k):GB κ left c arr base n=zan κ left c k:=by
 unfold GB
 rw [hx]
 show (Option.elim (κ.keyOf x.1) false (zan κ left c))=_
 rw [kx]
 rfl
theorem zlC {arr:Array Keyed} (hs:arr.toList.Pairwise (KR κ)) {i j:Nat} {x y:Keyed} (hij:i < j) (hx:arr[i]?=some x) (hy:arr[j]?=some y):KR κ x y:=by
 have hx':arr.toList[i]?=some x:=by rw [Array.getElem?_toList];exact hx
 have hy':arr.toList[j]?=some y:=by rw [Array.getElem?_toList];exact hy
 obtain ⟨h1,e1⟩:=List.getElem?_eq_some_iff.mp hx'
 obtain ⟨h2,e2⟩:=List.getElem?_eq_some_iff.mp hy'
 rw [<- e1,<- e2]
 exact List.pairwise_iff_getElem.mp hs i j h1 h2 hij
theorem zen (T:zcd prog w A s κ kd) (kn:kindOf st=kd) {arr:Array Keyed}  (ks:∀ x ∈ arr.toList,∃ k,κ.keyOf x.1=some k) {left:Bool} {key:Keyed} {c:κ.α} (kc:κ.keyOf key.1=some c) {base n hint:Nat} (hs:∀ i j x y,base<=i->i < j->j < base+n->arr[i]?=some x->arr[j]?=some y->KR κ x y) (hn:base+n<=arr.size) (hh:hint < n) {Q:Option Nat->SortSt->Prop}
 (q:∀ k,k<=n->(∀ i x l,i < k->arr[base+i]?=some x->κ.keyOf x.1=some l->zan κ left c l=true)->(∀ i x l,k<=i->i < n->arr[base+i]?=some x->κ.keyOf x.1=some l->zan κ left c l=false)->Q (some k) st):wpS (model prog w) A E s (zgD left key arr base n hint) Q st:=by
 have el:∀ {i},i < n->∃ x k,arr[base+i]?=some x/\κ.keyOf x.1=some k:=fun {i} h=>by
  have hi:base+i < arr.size:=by omega
  have e:arr[base+i]?=some arr[base+i]:=getElem?_pos arr (base+i) hi
  obtain ⟨k,hk⟩:=ks arr[base+i] (by simp)
  exact ⟨_,k,e,hk⟩
 refine zkC (G:=GB κ left c arr base) (fun i hi Q qq=>?_) (fun i j hij hj h=>?_) hh fun k hk g1 g2=>q k hk (fun i x l hi hx hl=>?_) fun i x l h1 h2 hx hl=>?_
 ·obtain ⟨x,k,hx,kx⟩:=el hi
  rw [zko hx kx] at qq
  exact zku T kn hx kx kc qq
 ·obtain ⟨x,k,hx,kx⟩:=el (i:=i) (by omega)
  obtain ⟨y,l,hy,ky⟩:=el hj
  rw [zko hy ky] at h
  rw [zko hx kx]
  rcases Nat.lt_or_eq_of_le hij with z | z
  ·have hle:κ.kle k l:=hs _ _ x y (Nat.le_add_right _ _) (show base+i < base+j by omega) (by omega) hx hy k l kx ky
   unfold zan at h ⊢
   cases left with
   | true =>
     rw [if_pos rfl] at h ⊢
     exact KeyOrd.klt_of_kle_of_klt hle h
   | false =>
     rw [if_neg (fun z=>nomatch z)] at h ⊢
     have h:κ.blt c l=false:=by simpa using h
     have:κ.kle k c:=KeyOrd.kle_trans hle h
     have:κ.blt c k=false:=this
     rw [this]
     rfl
  ·subst z
   rw [hx] at hy
   cases hy
   rw [kx] at ky
   cases ky
   exact h
 ·rw [<- zko hx hl]
  exact g1 i hi
 ·rw [<- zko hx hl]
  exact g2 i h1 h2
theorem zbX (T:zcd prog w A s κ kd) (kn:kindOf st=kd) {arr:Array Keyed} (hs:arr.toList.Pairwise (KR κ)) (ks:∀ x ∈ arr.toList,∃ k,κ.keyOf x.1=some k) {left:Bool} {key:Keyed} {c:κ.α} (kc:κ.keyOf key.1=some c) {base n hint:Nat} (hn:base+n<=arr.size) (hh:hint < n) {Q:Option Nat->SortSt->Prop}
 (q:∀ k,k<=n->(∀ i x l,i < k->arr[base+i]?=some x->κ.keyOf x.1=some l->zan κ left c l=true)->(∀ i x l,k<=i->i < n->arr[base+i]?=some x->κ.keyOf x.1=some l->zan κ left c l=false)->Q (some k) st):wpS (model prog w) A E s (zgD left key arr base n hint) Q st :=
 zen T kn ks kc (fun i j x y _ hij _ hx hy=>zlC hs hij hx hy) hn hh q
structure MP (κ:KeyKind) (a b:Array Keyed) (st:SortSt) (out:Array Keyed) (i j:Nat) (u:SortSt):Prop where
 lk:Lk st u
 mj:MJ κ a b out i j
 hi:i+1 < a.size
 hj:j < b.size
def MD (κ:KeyKind) (a b:Array Keyed) (st:SortSt) (r:Array Keyed) (u:SortSt):Prop:=Lk st u/\r.toList.Perm (a.toList++b.toList)/\r.toList.Pairwise (KR κ)
theorem zka (T:zcd prog w A s κ kd) (kn:kindOf st=kd) {a b:Array Keyed} (ks:∀ x ∈ a.toList++b.toList,∃ k,κ.keyOf x.1=some k) (ha:a.toList.Pairwise (KR κ)) (hb:b.toList.Pairwise (KR κ)) (h1:0 < a.size) (h2:0 < b.size)
 (hf:∀ x y,b[0]?=some y->a[0]?=some x->KR κ y x) (hl:∀ x,a[a.size - 1]?=some x->∀ y ∈ b.toList,KR κ y x) {Q:Array Keyed->SortSt->Prop}
 (q:∀ r u,MD κ a b st r u->Q r u):wpS (model prog w) A E s (zgc a b) Q st:=by
 unfold zgc
 refine wpS_bind (wpS_lift (wpAny_rule ⟨rfl,?_⟩))
 have ea:∀ {i},i < a.size->∃ x k,a[i]?=some x/\κ.keyOf x.1=some k:=fun {i} h=>by
  have e:a[i]?=some a[i]:=getElem?_pos a i h
  obtain ⟨k,hk⟩:=ks a[i] (List.mem_append_left _ (by simp))
  exact ⟨_,k,e,hk⟩
 have eb:∀ {i},i < b.size->∃ x k,b[i]?=some x/\κ.keyOf x.1=some k:=fun {i} h=>by
  have e:b[i]?=some b[i]:=getElem?_pos b i h
  obtain ⟨k,hk⟩:=ks b[i] (List.mem_append_right _ (by simp))
  exact ⟨_,k,e,hk⟩
 obtain ⟨y0,l0,hy0,hl0⟩:=eb h2
 obtain ⟨x0,k0,hx0,hk0⟩:=ea h1
 refine wpS_bind (zau hy0 ?_)
 have J0:MJ κ a b #[] 0 0:=⟨⟨List.Perm.refl _,List.Pairwise.nil,(fun x hx=>nomatch hx),ha,hb⟩,ks⟩
 have J1:MJ κ a b #[y0] 0 1:=J0.pushB hx0 hy0 (hf x0 y0 hy0 hx0)
 have L0:Lk st st:=⟨rfl,rfl,rfl,rfl⟩
 show wpS _ _ _ _ (if (1 == b.size)=true then _ else _) _ st
 by_cases c1:(1 == b.size)=true
 ·rw [if_pos c1]
  exact wpS_pure (q _ _ ⟨L0,J1.ab (.inr (Nat.le_of_eq (beq_iff_eq.mp c1).symm))⟩)
 rw [if_neg c1]
 show wpS _ _ _ _ (if (0+1 == a.size)=true then _ else _) _ st
 by_cases c2:(0+1 == a.size)=true
 ·have e1:0+1=a.size:=beq_iff_eq.mp c2
  rw [if_pos c2]
  exact wpS_pure (q _ _ ⟨L0,J1.ba e1 hx0 (hl x0 (by rw [<- e1];exact hx0))⟩)
 rw [if_neg c2]
 have n1:1 < b.size:=by
  have:¬ 1=b.size:=fun z=>c1 (beq_iff_eq.mpr z)
  omega
 have n2:0+1 < a.size:=by
  have:¬ 0+1=a.size:=fun z=>c2 (beq_iff_eq.mpr z)
  omega
 refine wpS_bind (wpS_get ?_)
 refine wpS_bind (wpS_mono (wpS_forRange (I:=fun t c u=>∃ out i j g,c=(none,out,i,j,g)/\MP κ a b st out i j u/\t+1<=i+j) (Q:=fun c u=>∃ r rest,c=(some r,rest)/\MD κ a b st r u) (fun t c u _ ht hI=>?_) (fun c u hI=>?_) ⟨#[y0],0,1,_,rfl,⟨L0,J1,n2,n1⟩,Nat.le_refl _⟩) fun c u hI=>?_)
 ·obtain ⟨out,i,j,g,rfl,P,hm⟩:=hI
  refine wpS_bind (wpS_mono (wpS_forRange (I:=fun t' c u=>∃ out i' j' x y,c=(none,out,i',j',x,y)/\MP κ a b st out i' j' u/\i+j+t'<=i'+j') (Q:=fun c u=>(∃ out i' j' x y,c=(none,out,i',j',x,y)/\MP κ a b st out i' j' u/\i+j+1<=i'+j')\/∃ r rest,c=(some r,rest)/\MD κ a b st r u) (fun t' c u _ ht' hI=>?_) (fun c u hI=>?_) ⟨out,i,j,_,_,rfl,P,Nat.le_refl _⟩) fun c u hI=>?_)
  ·obtain ⟨out,i',j',x,y,rfl,P,hm'⟩:=hI
   obtain ⟨xa,ka,hxa,hka⟩:=ea (i:=i') (by have:=P.hi;omega)
   obtain ⟨yb,kb,hyb,hkb⟩:=eb (i:=j') P.hj
   refine wpS_bind (zau hyb (wpS_bind (zau hxa (wpS_bind (zeC T (P.lk.kn.trans kn) hkb hka ?_)))))
   cases lt:κ.blt kb ka with
   | true =>
     refine wpS_bind (zau hyb ?_)
     have J:=P.mj.pushB hxa hyb (KR.of hkb hka (KeyOrd.kle_of_klt lt))
     show wpS _ _ _ _ (if (j'+1 == b.size)=true then _ else _) _ u
     by_cases d1:(j'+1 == b.size)=true
     ·rw [if_pos d1]
      exact wpS_pure (.inr ⟨_,_,rfl,P.lk,J.ab (.inr (Nat.le_of_eq (beq_iff_eq.mp d1).symm))⟩)
     ·rw [if_neg d1]
      have d2:¬ j'+1=b.size:=fun z=>d1 (beq_iff_eq.mpr z)
      have P2:MP κ a b st (out.push yb) i' (j'+1) u:=⟨P.lk,J,P.hi,by have:=P.hj;omega⟩
      split
      ·exact wpS_pure (.inl ⟨out.push yb,i',j'+1,_,_,rfl,P2,by omega⟩)
      ·exact wpS_pure ⟨out.push yb,i',j'+1,_,_,rfl,P2,by omega⟩
   | false =>
     refine wpS_bind (zau hxa ?_)
     have J:=P.mj.pushA hxa hyb (KR.of hka hkb lt)
     show wpS _ _ _ _ (if (i'+1+1 == a.size)=true then _ else _) _ u
     by_cases d1:(i'+1+1 == a.size)=true
     ·have e1:=beq_iff_eq.mp d1
      obtain ⟨xl,kl,hxl,_⟩:=ea (i:=i'+1) (by omega)
      rw [if_pos d1]
      exact wpS_pure (.inr ⟨_,_,rfl,P.lk,J.ba e1 hxl (hl xl (by rw [<- e1];exact hxl))⟩)
     ·rw [if_neg d1]
      have d2:¬ i'+1+1=a.size:=fun z=>d1 (beq_iff_eq.mpr z)
      have P2:MP κ a b st (out.push xa) (i'+1) j' u:=⟨P.lk,J,by have:=P.hi;omega,P.hj⟩
      split
      ·exact wpS_pure (.inl ⟨out.push xa,i'+1,j',_,_,rfl,P2,by omega⟩)
      ·exact wpS_pure ⟨out.push xa,i'+1,j',_,_,rfl,P2,by omega⟩
  ·obtain ⟨out,i',j',x,y,rfl,P,hm'⟩:=hI
   exact .inl ⟨out,i',j',_,_,rfl,P,by omega⟩
  ·rcases hI with ⟨out,i',j',x,y,rfl,P,hm'⟩ | ⟨r,rest,rfl,hD⟩
   ·refine wpS_bind (wpS_lift (wpAny_rule ⟨rfl,?_⟩))
    refine wpS_bind (wpS_mono (wpS_forRange (I:=fun t' c u=>∃ out i2 j2 g x y,c=(none,out,i2,j2,g,x,y)/\MP κ a b st out i2 j2 u/\i+j+1<=i2+j2) (Q:=fun c u=>(∃ out i2 j2 g x y,c=(none,out,i2,j2,g,x,y)/\MP κ a b st out i2 j2 u/\i+j+1<=i2+j2)\/∃ r rest,c=(some r,rest)/\MD κ a b st r u) (fun t' c u _ ht' hI=>?_) (fun c u hI=>?_) ⟨out,i',j',_,_,_,rfl,P,hm'⟩) fun c u hI=>?_)
    ·obtain ⟨out,i2,j2,g,x,y,rfl,P,hm2⟩:=hI
     have p1:=P.hi
     have p2:=P.hj
     obtain ⟨yb,kb,hyb,hkb⟩:=eb (i:=j2) p2
     have K2:=P.lk.kn.trans kn
     have L2:∀ {v:SortSt},kindOf v=kindOf u->arrOf v=arrOf u->pendingOf v=pendingOf u->failedOf v=failedOf u->Lk st v:=fun h1 h2 h3 h4=>⟨h1.trans P.lk.kn,h2.trans P.lk.ar,h3.trans P.lk.pn,h4.trans P.lk.fl⟩
     show wpS _ _ _ _ (if g > 1 then _ else _) _ u
     split
     all_goals
      refine wpS_bind (wpS_modify ?_)
      refine wpS_bind (zau hyb (wpS_bind (zbX T (by exact K2) ha (fun x hx=>ks x (List.mem_append_left _ hx)) hkb (base:=i2) (n:=a.size - i2) (hint:=0) (by omega) (by omega) fun k hk h1 h2=>?_)))
      have JA:MJ κ a b (out++a.extract i2 (i2+k)) (i2+k) j2:=P.mj.sliceA hyb fun n x hn hx=>by
       obtain ⟨l,hl'⟩:=ks x (List.mem_append_left _ (List.mem_of_getElem? (by rw [Array.getElem?_toList];exact hx)))
       have z:=h1 n x l hn hx hl'
       unfold zan at z
       rw [if_neg (fun z=>nomatch z)] at z
       have z:κ.blt kb l=false:=by simpa using z
       exact KR.of hl' hkb z
      show wpS _ _ _ _ (if k > 0 then _ else _) _ _
      by_cases k0:k > 0
      ·rw [if_pos k0]
       show wpS _ _ _ _ (if (i2+k+1 == a.size)=true then _ else _) _ _
       by_cases d1:(i2+k+1 == a.size)=true
       ·have e1:=beq_iff_eq.mp d1
        obtain ⟨xl,kl,hxl,_⟩:=ea (i:=i2+k) (by omega)
        rw [if_pos d1]
        exact wpS_pure (.inr ⟨_,_,rfl,L2 rfl rfl rfl rfl,JA.ba e1 hxl (hl xl (by rw [<- e1];exact hxl))⟩)
       ·rw [if_neg d1]
        have d2:¬ i2+k+1=a.size:=fun z=>d1 (beq_iff_eq.mpr z)
        show wpS _ _ _ _ (if (i2+k == a.size)=true then _ else _) _ _
        by_cases d3:(i2+k == a.size)=true
        ·rw [if_pos d3]
         exact wpS_pure (.inr ⟨_,_,rfl,L2 rfl rfl rfl rfl,JA.ab (.inl (Nat.le_of_eq (beq_iff_eq.mp d3).symm))⟩)
        ·rw [if_neg d3]
         have d4:¬ i2+k=a.size:=fun z=>d3 (beq_iff_eq.mpr z)
         have k0':k=k:=rfl
         obtain ⟨xa,ka,hxa,hka⟩:=ea (i:=(i2+k)) (by omega)
         have hya:KR κ yb xa:=KR.of hkb hka (by
          have z:=h2 k xa ka (Nat.le_refl _) (by omega) (by first | exact hxa | (rw [k0'];exact hxa)) hka
          unfold zan at z
          rw [if_neg (fun z=>nomatch z)] at z
          have z:κ.blt kb ka=true:=by simpa using z
          exact KeyOrd.kle_of_klt z)
         refine wpS_bind (zau hyb ?_)
         have J2:=MJ.pushB JA hxa hyb hya
         show wpS _ _ _ _ (if (j2+1 == b.size)=true then _ else _) _ _
         by_cases e1:(j2+1 == b.size)=true
         ·rw [if_pos e1]
          exact wpS_pure (.inr ⟨_,_,rfl,L2 rfl rfl rfl rfl,J2.ab (.inr (Nat.le_of_eq (beq_iff_eq.mp e1).symm))⟩)
         ·rw [if_neg e1]
          have e2:¬ j2+1=b.size:=fun z=>e1 (beq_iff_eq.mpr z)
          refine wpS_bind (zau hxa (wpS_bind (zbX T (by exact K2) hb (fun x hx=>ks x (List.mem_append_right _ hx)) hka (base:=j2+1) (n:=b.size - (j2+1)) (hint:=0) (by omega) (by omega) fun k' hk' h1' h2'=>?_)))
          have JB:MJ κ a b _ (i2+k) (j2+1+k'):=J2.sliceB hxa fun n y hn hy=>by
           obtain ⟨l,hl'⟩:=ks y (List.mem_append_right _ (List.mem_of_getElem? (by rw [Array.getElem?_toList];exact hy)))
           have z:=h1' n y l hn hy hl'
           unfold zan at z
           rw [if_pos rfl] at z
           exact KR.of hl' hka (KeyOrd.kle_of_klt z)
          show wpS _ _ _ _ (if k' > 0 then _ else _) _ _
          by_cases m0:k' > 0
          ·rw [if_pos m0]
           show wpS _ _ _ _ (if (j2+1+k' == b.size)=true then _ else _) _ _
           by_cases g1':(j2+1+k' == b.size)=true
           ·rw [if_pos g1']
            exact wpS_pure (.inr ⟨_,_,rfl,L2 rfl rfl rfl rfl,JB.ab (.inr (Nat.le_of_eq (beq_iff_eq.mp g1').symm))⟩)
           ·rw [if_neg g1']
            have g3:¬ j2+1+k'=b.size:=fun z=>g1' (beq_iff_eq.mpr z)
            obtain ⟨yc,kc,hyc,hkc⟩:=eb (i:=j2+1+k') (by omega)
            have hac:KR κ xa yc:=KR.of hka hkc (by
             have z:=h2' k' yc kc (by omega) (by omega) (hyc) hkc
             unfold zan at z
             rw [if_pos rfl] at z
             exact z)
            refine wpS_bind (zau hxa ?_)
            have J3:=MJ.pushA JB hxa hyc hac
            show wpS _ _ _ _ (if ((i2+k)+1+1 == a.size)=true then _ else _) _ _
            by_cases f1:((i2+k)+1+1 == a.size)=true
            ·have e1:=beq_iff_eq.mp f1
             obtain ⟨xl,kl,hxl,_⟩:=ea (i:=(i2+k)+1) (by omega)
             rw [if_pos f1]
             exact wpS_pure (.inr ⟨_,_,rfl,L2 rfl rfl rfl rfl,J3.ba e1 hxl (hl xl (by rw [<- e1];exact hxl))⟩)
            ·rw [if_neg f1]
             have f2:¬ (i2+k)+1+1=a.size:=fun z=>f1 (beq_iff_eq.mpr z)
             split
             ·exact wpS_pure (.inl ⟨_,(i2+k)+1,j2+1+k',_,_,_,rfl,⟨L2 rfl rfl rfl rfl,J3,by omega,by omega⟩,by omega⟩)
             ·exact wpS_pure ⟨_,(i2+k)+1,j2+1+k',_,_,_,rfl,⟨L2 rfl rfl rfl rfl,J3,by omega,by omega⟩,by omega⟩
          ·rw [if_neg m0]
           have m1:k'=0:=by omega
           obtain ⟨yc,kc,hyc,hkc⟩:=eb (i:=j2+1) (by omega)
           have hac:KR κ xa yc:=KR.of hka hkc (by
            have z:=h2' 0 yc kc (by omega) (by omega) (hyc) hkc
            unfold zan at z
            rw [if_pos rfl] at z
            exact z)
           refine wpS_bind (zau hxa ?_)
           have J3:=MJ.pushA J2 hxa hyc hac
           show wpS _ _ _ _ (if ((i2+k)+1+1 == a.size)=true then _ else _) _ _
           by_cases f1:((i2+k)+1+1 == a.size)=true
           ·have e1:=beq_iff_eq.mp f1
            obtain ⟨xl,kl,hxl,_⟩:=ea (i:=(i2+k)+1) (by omega)
            rw [if_pos f1]
            exact wpS_pure (.inr ⟨_,_,rfl,L2 rfl rfl rfl rfl,J3.ba e1 hxl (hl xl (by rw [<- e1];exact hxl))⟩)
           ·rw [if_neg f1]
            have f2:¬ (i2+k)+1+1=a.size:=fun z=>f1 (beq_iff_eq.mpr z)
            split
            ·exact wpS_pure (.inl ⟨_,(i2+k)+1,j2+1,_,_,_,rfl,⟨L2 rfl rfl rfl rfl,J3,by omega,by omega⟩,by omega⟩)
            ·exact wpS_pure ⟨_,(i2+k)+1,j2+1,_,_,_,rfl,⟨L2 rfl rfl rfl rfl,J3,by omega,by omega⟩,by omega⟩
      ·rw [if_neg k0]
       have k0':k=0:=by omega
       obtain ⟨xa,ka,hxa,hka⟩:=ea (i:=i2) (by omega)
       have hya:KR κ yb xa:=KR.of hkb hka (by
        have z:=h2 k xa ka (Nat.le_refl _) (by omega) (by first | exact hxa | (rw [k0'];exact hxa)) hka
        unfold zan at z
        rw [if_neg (fun z=>nomatch z)] at z
        have z:κ.blt kb ka=true:=by simpa using z
        exact KeyOrd.kle_of_klt z)
       refine wpS_bind (zau hyb ?_)
       have J2:=MJ.pushB P.mj hxa hyb hya
       show wpS _ _ _ _ (if (j2+1 == b.size)=true then _ else _) _ _
       by_cases e1:(j2+1 == b.size)=true
       ·rw [if_pos e1]
        exact wpS_pure (.inr ⟨_,_,rfl,L2 rfl rfl rfl rfl,J2.ab (.inr (Nat.le_of_eq (beq_iff_eq.mp e1).symm))⟩)
       ·rw [if_neg e1]
        have e2:¬ j2+1=b.size:=fun z=>e1 (beq_iff_eq.mpr z)
        refine wpS_bind (zau hxa (wpS_bind (zbX T (by exact K2) hb (fun x hx=>ks x (List.mem_append_right _ hx)) hka (base:=j2+1) (n:=b.size - (j2+1)) (hint:=0) (by omega) (by omega) fun k' hk' h1' h2'=>?_)))
        have JB:MJ κ a b _ i2 (j2+1+k'):=J2.sliceB hxa fun n y hn hy=>by
         obtain ⟨l,hl'⟩:=ks y (List.mem_append_right _ (List.mem_of_getElem? (by rw [Array.getElem?_toList];exact hy)))
         have z:=h1' n y l hn hy hl'
         unfold zan at z
         rw [if_pos rfl] at z
         exact KR.of hl' hka (KeyOrd.kle_of_klt z)
        show wpS _ _ _ _ (if k' > 0 then _ else _) _ _
        by_cases m0:k' > 0
        ·rw [if_pos m0]
         show wpS _ _ _ _ (if (j2+1+k' == b.size)=true then _ else _) _ _
         by_cases g1':(j2+1+k' == b.size)=true
         ·rw [if_pos g1']
          exact wpS_pure (.inr ⟨_,_,rfl,L2 rfl rfl rfl rfl,JB.ab (.inr (Nat.le_of_eq (beq_iff_eq.mp g1').symm))⟩)
         ·rw [if_neg g1']
          have g3:¬ j2+1+k'=b.size:=fun z=>g1' (beq_iff_eq.mpr z)
          obtain ⟨yc,kc,hyc,hkc⟩:=eb (i:=j2+1+k') (by omega)
          have hac:KR κ xa yc:=KR.of hka hkc (by
           have z:=h2' k' yc kc (by omega) (by omega) (hyc) hkc
           unfold zan at z
           rw [if_pos rfl] at z
           exact z)
          refine wpS_bind (zau hxa ?_)
          have J3:=MJ.pushA JB hxa hyc hac
          show wpS _ _ _ _ (if (i2+1+1 == a.size)=true then _ else _) _ _
          by_cases f1:(i2+1+1 == a.size)=true
          ·have e1:=beq_iff_eq.mp f1
           obtain ⟨xl,kl,hxl,_⟩:=ea (i:=i2+1) (by omega)
           rw [if_pos f1]
           exact wpS_pure (.inr ⟨_,_,rfl,L2 rfl rfl rfl rfl,J3.ba e1 hxl (hl xl (by rw [<- e1];exact hxl))⟩)
          ·rw [if_neg f1]
           have f2:¬ i2+1+1=a.size:=fun z=>f1 (beq_iff_eq.mpr z)
           split
           ·exact wpS_pure (.inl ⟨_,i2+1,j2+1+k',_,_,_,rfl,⟨L2 rfl rfl rfl rfl,J3,by omega,by omega⟩,by omega⟩)
           ·exact wpS_pure ⟨_,i2+1,j2+1+k',_,_,_,rfl,⟨L2 rfl rfl rfl rfl,J3,by omega,by omega⟩,by omega⟩
        ·rw [if_neg m0]
         have m1:k'=0:=by omega
         obtain ⟨yc,kc,hyc,hkc⟩:=eb (i:=j2+1) (by omega)
         have hac:KR κ xa yc:=KR.of hka hkc (by
          have z:=h2' 0 yc kc (by omega) (by omega) (hyc) hkc
          unfold zan at z
          rw [if_pos rfl] at z
          exact z)
         refine wpS_bind (zau hxa ?_)
         have J3:=MJ.pushA J2 hxa hyc hac
         show wpS _ _ _ _ (if (i2+1+1 == a.size)=true then _ else _) _ _
         by_cases f1:(i2+1+1 == a.size)=true
         ·have e1:=beq_iff_eq.mp f1
          obtain ⟨xl,kl,hxl,_⟩:=ea (i:=i2+1) (by omega)
          rw [if_pos f1]
          exact wpS_pure (.inr ⟨_,_,rfl,L2 rfl rfl rfl rfl,J3.ba e1 hxl (hl xl (by rw [<- e1];exact hxl))⟩)
         ·rw [if_neg f1]
          have f2:¬ i2+1+1=a.size:=fun z=>f1 (beq_iff_eq.mpr z)
          split
          ·exact wpS_pure (.inl ⟨_,i2+1,j2+1,_,_,_,rfl,⟨L2 rfl rfl rfl rfl,J3,by omega,by omega⟩,by omega⟩)
          ·exact wpS_pure ⟨_,i2+1,j2+1,_,_,_,rfl,⟨L2 rfl rfl rfl rfl,J3,by omega,by omega⟩,by omega⟩
    ·obtain ⟨out,i2,j2,g,x,y,rfl,P,hm2⟩:=hI
     exact .inl ⟨out,i2,j2,_,_,_,rfl,P,hm2⟩
    ·rcases hI with ⟨out,i2,j2,g,x,y,rfl,P,hm2⟩ | ⟨r,rest,rfl,hD⟩
     ·refine wpS_bind (wpS_modify (wpS_pure ⟨out,i2,j2,_,rfl,⟨⟨P.lk.kn,P.lk.ar,P.lk.pn,P.lk.fl⟩,P.mj,P.hi,P.hj⟩,by omega⟩))
     ·exact wpS_pure ⟨_,_,rfl,hD⟩
   ·exact wpS_pure ⟨_,_,rfl,hD⟩
 ·obtain ⟨out,i,j,g,rfl,P,hm⟩:=hI
  have:=P.hi
  have:=P.hj
  omega
 ·obtain ⟨r,rest,rfl,hD⟩:=hI
  exact wpS_pure (q r u hD)
end
theorem MI.someBG {α:Type} {R:α->α->Prop} {xs ys out l ra rb:List α} {x:α} (tr:∀ y z,R y x->R x z->R y z) (h:MI R xs ys out (x :: ra) (l++rb)) (hl:∀ y ∈ l,R y x):MI R xs ys (out++l) (x :: ra) rb:=by
 refine h.takeBs fun y hy z hz=>?_
 rcases List.mem_cons.mp hz with rfl | hz
 ·exact hl y hy
 ·exact tr y z (hl y hy) ((List.pairwise_cons.mp h.ua).1 z hz)
theorem MI.someAG {α:Type} {R:α->α->Prop} {xs ys out l ra rb:List α} {y:α} (tr:∀ x z,R x y->R y z->R x z) (h:MI R xs ys out (l++ra) (y :: rb)) (hl:∀ x ∈ l,R x y):MI R xs ys (out++l) ra (y :: rb):=by
 refine h.takeAs fun x hx z hz=>?_
 rcases List.mem_cons.mp hz with rfl | hz
 ·exact hl x hx
 ·exact tr x z (hl x hx) ((List.pairwise_cons.mp h.ub).1 z hz)
theorem zbC {α:Type} {l:List α} {i:Nat} {x:α} (h:l[i]?=some x):(l.take (i+1)).reverse=x :: (l.take i).reverse:=by
 rw [List.take_add_one,h,List.reverse_append]
 rfl
theorem zkH {α:Type} (l:List α) {i n:Nat} (h:i<=n):(l.take n).reverse=((l.drop i).take (n - i)).reverse++(l.take i).reverse:=by
 rw [<- List.reverse_append]
 congr 1
 have e:=(List.take_append_drop i (l.take n)).symm
 rwa [List.take_take,Nat.min_eq_left h,List.drop_take] at e
structure MK (κ:KeyKind) (a b out:Array Keyed) (i j:Nat):Prop where
 mi:MI (fun x y=>KR κ y x) a.toList b.toList out.toList (a.toList.take i).reverse (b.toList.take j).reverse
 ks:∀ x ∈ a.toList++b.toList,∃ k,κ.keyOf x.1=some k
theorem MK.pushA {κ:KeyKind} {a b out:Array Keyed} {i j:Nat} {x y:Keyed} (h:MK κ a b out (i+1) (j+1)) (hx:a[i]?=some x) (hy:b[j]?=some y) (hl:KR κ y x):MK κ a b (out.push x) i (j+1):=by
 have hx':a.toList[i]?=some x:=by rw [Array.getElem?_toList];exact hx
 have hy':b.toList[j]?=some y:=by rw [Array.getElem?_toList];exact hy
 have m:=h.mi
 rw [zbC hx',zbC hy'] at m
 refine ⟨?_,h.ks⟩
 rw [Array.toList_push,zbC hy']
 exact MI.someAG (l:=[x]) (fun u z h1 h2=>KR.trans (h.ks y (List.mem_append_right _ (List.mem_of_getElem? hy'))) h2 h1) m fun z hz=>by rw [List.mem_singleton.mp hz];exact hl
theorem MK.pushB {κ:KeyKind} {a b out:Array Keyed} {i j:Nat} {x y:Keyed} (h:MK κ a b out (i+1) (j+1)) (hx:a[i]?=some x) (hy:b[j]?=some y) (hl:KR κ x y):MK κ a b (out.push y) (i+1) j:=by
 have hx':a.toList[i]?=some x:=by rw [Array.getElem?_toList];exact hx
 have hy':b.toList[j]?=some y:=by rw [Array.getElem?_toList];exact hy
 have m:=h.mi
 rw [zbC hx',zbC hy'] at m
 refine ⟨?_,h.ks⟩
 rw [Array.toList_push,zbC hx']
 exact MI.someBG (l:=[y]) (fun u z h1 h2=>KR.trans (h.ks x (List.mem_append_left _ (List.mem_of_getElem? hx'))) h2 h1) m fun z hz=>by rw [List.mem_singleton.mp hz];exact hl
theorem zjn {xs:Array Keyed} {i n:Nat} {x:Keyed} (h:x ∈ ((xs.toList.drop i).take (n - i)).reverse):∃ m,i<=m/\m < n/\xs[m]?=some x:=by
 obtain ⟨m,hm,e⟩:=zir (List.mem_reverse.mp h)
 exact ⟨i+m,by omega,by omega,e⟩
theorem MK.sliceA {κ:KeyKind} {a b out:Array Keyed} {i n j:Nat} {y:Keyed} (h:MK κ a b out n (j+1)) (hi:i<=n) (hy:b[j]?=some y) (hl:∀ m x,i<=m->m < n->a[m]?=some x->KR κ y x):MK κ a b (out++(a.extract i n).reverse) i (j+1):=by
 have hy':b.toList[j]?=some y:=by rw [Array.getElem?_toList];exact hy
 have m:=h.mi
 rw [zbC hy',zkH _ hi] at m
 refine ⟨?_,h.ks⟩
 rw [Array.toList_append,Array.toList_reverse,zcj,zbC hy']
 exact m.someAG (fun u z h1 h2=>KR.trans (h.ks y (List.mem_append_right _ (List.mem_of_getElem? hy'))) h2 h1) fun x hx=>by
  obtain ⟨q,h1,h2,e⟩:=zjn hx
  exact hl q x h1 h2 e
theorem MK.sliceB {κ:KeyKind} {a b out:Array Keyed} {i n j:Nat} {x:Keyed} (h:MK κ a b out (j+1) n) (hi:i<=n) (hx:a[j]?=some x) (hl:∀ m y,i<=m->m < n->b[m]?=some y->KR κ x y):MK κ a b (out++(b.extract i n).reverse) (j+1) i:=by
 have hx':a.toList[j]?=some x:=by rw [Array.getElem?_toList];exact hx
 have m:=h.mi
 rw [zbC hx',zkH _ hi] at m
 refine ⟨?_,h.ks⟩
 rw [Array.toList_append,Array.toList_reverse,zcj,zbC hx']
 exact m.someBG (fun u z h1 h2=>KR.trans (h.ks x (List.mem_append_left _ (List.mem_of_getElem? hx'))) h2 h1) fun y hy=>by
  obtain ⟨q,h1,h2,e⟩:=zjn hy
  exact hl q y h1 h2 e
theorem zeI (xs:Array Keyed) (i:Nat):(xs.extract 0 i).toList=xs.toList.take i:=by
 rw [zcj,List.drop_zero,Nat.sub_zero]
theorem MK.ab {κ:KeyKind} {a b out:Array Keyed} {i j:Nat} (h:MK κ a b out i j) (hl:i=0\/j=0):(a.extract 0 i++b.extract 0 j++out.reverse).toList.Perm (a.toList++b.toList)/\(a.extract 0 i++b.extract 0 j++out.reverse).toList.Pairwise (KR κ):=by
 obtain ⟨h1,h2⟩:=h.mi.endB fun x hx y hy=>by
  rcases hl with hl | hl
  ·rw [hl] at hy
   cases hy
  ·rw [hl] at hx
   cases hx
 have e:(a.extract 0 i++b.extract 0 j++out.reverse).toList=(out.toList++(b.toList.take j).reverse++(a.toList.take i).reverse).reverse:=by
  rw [Array.toList_append,Array.toList_append,Array.toList_reverse,zeI,zeI,List.reverse_append,List.reverse_append,List.reverse_reverse,List.reverse_reverse,List.append_assoc]
 rw [e]
 exact ⟨(List.reverse_perm _).trans h1,List.pairwise_reverse.mpr h2⟩
theorem MK.ba {κ:KeyKind} {a b out:Array Keyed} {i j:Nat} {y:Keyed} (h:MK κ a b out i j) (hj:j=1) (hy:b[0]?=some y) (hl:∀ x ∈ a.toList,KR κ y x):(b.extract 0 j++a.extract 0 i++out.reverse).toList.Perm (a.toList++b.toList)/\(b.extract 0 j++a.extract 0 i++out.reverse).toList.Pairwise (KR κ):=by
 subst hj
 have hy':b.toList[0]?=some y:=by rw [Array.getElem?_toList];exact hy
 obtain ⟨h1,h2⟩:=h.mi.endA fun x hx z hz=>by
  rw [zbC hy',List.take_zero,List.reverse_nil,List.mem_singleton] at hz
  rw [hz]
  exact hl x (List.mem_of_mem_take (List.mem_reverse.mp hx))
 have e:(b.extract 0 1++a.extract 0 i++out.reverse).toList=(out.toList++(a.toList.take i).reverse++(b.toList.take 1).reverse).reverse:=by
  rw [Array.toList_append,Array.toList_append,Array.toList_reverse,zeI,zeI,List.reverse_append,List.reverse_append,List.reverse_reverse,List.reverse_reverse,List.append_assoc]
 rw [e]
 exact ⟨(List.reverse_perm _).trans h1,List.pairwise_reverse.mpr h2⟩
def zgl:Array Keyed->Array Keyed->StateT SortSt Sem (Array Keyed):=sortPriv% PySem.Builtin.mergeHi
section
variable {prog:Program} {w:World} {A:Around} {E:Value->Shared->Prop} {s:Shared} {o:Array Keyed} {κ:KeyKind} {kd:SortKind} {st:SortSt}
structure MQ (κ:KeyKind) (a b:Array Keyed) (st:SortSt) (out:Array Keyed) (i j:Nat) (u:SortSt):Prop where
 lk:Lk st u
 mq:MK κ a b out (i+1) (j+2)
 hi:i+1<=a.size
 hj:j+2<=b.size
theorem zjL (T:zcd prog w A s κ kd) (kn:kindOf st=kd) {a b:Array Keyed} (ks:∀ x ∈ a.toList++b.toList,∃ k,κ.keyOf x.1=some k) (ha:a.toList.Pairwise (KR κ)) (hb:b.toList.Pairwise (KR κ)) (h1:0 < a.size) (h2:0 < b.size)
 (hf:∀ y,b[0]?=some y->∀ x ∈ a.toList,KR κ y x) (hl:∀ x y,a[a.size - 1]?=some x->b[b.size - 1]?=some y->KR κ y x) {Q:Array Keyed->SortSt->Prop}
 (q:∀ r u,MD κ a b st r u->Q r u):wpS (model prog w) A E s (zgl a b) Q st:=by
 unfold zgl
 refine wpS_bind (wpS_lift (wpAny_rule ⟨rfl,?_⟩))
 have ea:∀ {i},i < a.size->∃ x k,a[i]?=some x/\κ.keyOf x.1=some k:=fun {i} h=>by
  have e:a[i]?=some a[i]:=getElem?_pos a i h
  obtain ⟨k,hk⟩:=ks a[i] (List.mem_append_left _ (by simp))
  exact ⟨_,k,e,hk⟩
 have eb:∀ {i},i < b.size->∃ x k,b[i]?=some x/\κ.keyOf x.1=some k:=fun {i} h=>by
  have e:b[i]?=some b[i]:=getElem?_pos b i h
  obtain ⟨k,hk⟩:=ks b[i] (List.mem_append_right _ (by simp))
  exact ⟨_,k,e,hk⟩
 obtain ⟨yf,lf,hyf,_⟩:=eb h2
 obtain ⟨m,em⟩:∃ m,a.size=m+1:=⟨a.size - 1,by omega⟩
 obtain ⟨n,en⟩:∃ n,b.size=n+1:=⟨b.size - 1,by omega⟩
 obtain ⟨x0,k0,hx0,hk0⟩:=ea (i:=m) (by omega)
 obtain ⟨y0,l0,hy0,hl0⟩:=eb (i:=n) (by omega)
 have em1:a.size - 1=m:=by omega
 have J0:MK κ a b #[] (m+1) (n+1):=by
  refine ⟨⟨?_,List.Pairwise.nil,(fun x hx=>nomatch hx),?_,?_⟩,ks⟩
  ·rw [List.take_of_length_le (by rw [Array.length_toList];omega),List.take_of_length_le (by rw [Array.length_toList];omega)]
   show (List.reverse a.toList++List.reverse b.toList).Perm _
   exact List.Perm.append (List.reverse_perm _) (List.reverse_perm _)
  ·exact List.pairwise_reverse.mpr (List.Pairwise.sublist (List.take_sublist _ _) ha)
  ·exact List.pairwise_reverse.mpr (List.Pairwise.sublist (List.take_sublist _ _) hb)
 have J1:MK κ a b #[x0] m (n+1):=J0.pushA hx0 hy0 (hl x0 y0 (by rw [em1];exact hx0) (by rw [en];exact hy0))
 have L0:Lk st st:=⟨rfl,rfl,rfl,rfl⟩
 rw [em1,en]
 refine wpS_bind (zau hx0 ?_)
 show wpS _ _ _ _ (if (m == 0)=true then _ else _) _ st
 by_cases c1:(m == 0)=true
 ·rw [if_pos c1]
  exact wpS_pure (q _ _ ⟨L0,J1.ab (.inl (beq_iff_eq.mp c1))⟩)
 rw [if_neg c1]
 show wpS _ _ _ _ (if (n+1 == 1)=true then _ else _) _ st
 by_cases c2:(n+1 == 1)=true
 ·rw [if_pos c2]
  exact wpS_pure (q _ _ ⟨L0,J1.ba (beq_iff_eq.mp c2) hyf (hf yf hyf)⟩)
 rw [if_neg c2]
 have n1:¬ m=0:=fun z=>c1 (beq_iff_eq.mpr z)
 have n2:¬ n+1=1:=fun z=>c2 (beq_iff_eq.mpr z)
 obtain ⟨m',rfl⟩:∃ m',m=m'+1:=⟨m - 1,by omega⟩
 obtain ⟨n',rfl⟩:∃ n',n=n'+1:=⟨n - 1,by omega⟩
 refine wpS_bind (wpS_get ?_)
 refine wpS_bind (wpS_mono (wpS_forRange (I:=fun t c u=>∃ i j out g,c=(none,i+1,j+2,out,g)/\MQ κ a b st out i j u/\i+j+t<=m'+n') (Q:=fun c u=>∃ r rest,c=(some r,rest)/\MD κ a b st r u) (fun t c u _ ht hI=>?_) (fun c u hI=>?_) ⟨m',n',#[x0],_,rfl,⟨L0,J1,by omega,by omega⟩,Nat.le_refl _⟩) fun c u hI=>?_)
 ·obtain ⟨i,j,out,g,rfl,P,hm⟩:=hI
  refine wpS_bind (wpS_mono (wpS_forRange (I:=fun t' c u=>∃ i' j' out x y,c=(none,i'+1,j'+2,out,x,y)/\MQ κ a b st out i' j' u/\i'+j'+t'<=i+j) (Q:=fun c u=>(∃ i' j' out x y,c=(none,i'+1,j'+2,out,x,y)/\MQ κ a b st out i' j' u/\i'+j'+1<=i+j)\/∃ r rest,c=(some r,rest)/\MD κ a b st r u) (fun t' c u _ ht' hI=>?_) (fun c u hI=>?_) ⟨i,j,out,_,_,rfl,P,Nat.le_refl _⟩) fun c u hI=>?_)
  ·obtain ⟨i',j',out,x,y,rfl,P,hm'⟩:=hI
   have p1:=P.hi
   have p2:=P.hj
   obtain ⟨xa,ka,hxa,hka⟩:=ea (i:=i') (by omega)
   obtain ⟨yb,kb,hyb,hkb⟩:=eb (i:=j'+1) (by omega)
   refine wpS_bind (zau hyb (wpS_bind (zau hxa (wpS_bind (zeC T (P.lk.kn.trans kn) hkb hka ?_)))))
   cases lt:κ.blt kb ka with
   | true =>
     refine wpS_bind (zau hxa ?_)
     have J:=P.mq.pushA hxa hyb (KR.of hkb hka (KeyOrd.kle_of_klt lt))
     show wpS _ _ _ _ (if (i' == 0)=true then _ else _) _ u
     by_cases d1:(i' == 0)=true
     ·rw [if_pos d1]
      exact wpS_pure (.inr ⟨_,_,rfl,P.lk,J.ab (.inl (beq_iff_eq.mp d1))⟩)
     ·rw [if_neg d1]
      have d2:¬ i'=0:=fun z=>d1 (beq_iff_eq.mpr z)
      obtain ⟨i3,rfl⟩:∃ i3,i'=i3+1:=⟨i' - 1,by omega⟩
      have P2:MQ κ a b st (out.push xa) i3 j' u:=⟨P.lk,J,by omega,p2⟩
      split
      ·exact wpS_pure (.inl ⟨i3,j',out.push xa,_,_,rfl,P2,by omega⟩)
      ·exact wpS_pure ⟨i3,j',out.push xa,_,_,rfl,P2,by omega⟩
   | false =>
     refine wpS_bind (zau hyb ?_)
     have J:=P.mq.pushB hxa hyb (KR.of hka hkb lt)
     show wpS _ _ _ _ (if (j'+1 == 1)=true then _ else _) _ u
     by_cases d1:(j'+1 == 1)=true
     ·rw [if_pos d1]
      exact wpS_pure (.inr ⟨_,_,rfl,P.lk,J.ba (beq_iff_eq.mp d1) hyf (hf yf hyf)⟩)
     ·rw [if_neg d1]
      have d2:¬ j'+1=1:=fun z=>d1 (beq_iff_eq.mpr z)
      obtain ⟨j3,rfl⟩:∃ j3,j'=j3+1:=⟨j' - 1,by omega⟩
      have P2:MQ κ a b st (out.push yb) i' j3 u:=⟨P.lk,J,p1,by omega⟩
      split
      ·exact wpS_pure (.inl ⟨i',j3,out.push yb,_,_,rfl,P2,by omega⟩)
      ·exact wpS_pure ⟨i',j3,out.push yb,_,_,rfl,P2,by omega⟩
  ·obtain ⟨i',j',out,x,y,rfl,P,hm'⟩:=hI
   exact .inl ⟨i',j',out,_,_,rfl,P,by omega⟩
  ·rcases hI with ⟨i',j',out,x,y,rfl,P,hm'⟩ | ⟨r,rest,rfl,hD⟩
   ·refine wpS_bind (wpS_lift (wpAny_rule ⟨rfl,?_⟩))
    refine wpS_bind (wpS_mono (wpS_forRange (I:=fun t' c u=>∃ i2 j2 out g x y,c=(none,i2+1,j2+2,out,g,x,y)/\MQ κ a b st out i2 j2 u/\i2+j2+1<=i+j) (Q:=fun c u=>(∃ i2 j2 out g x y,c=(none,i2+1,j2+2,out,g,x,y)/\MQ κ a b st out i2 j2 u/\i2+j2+1<=i+j)\/∃ r rest,c=(some r,rest)/\MD κ a b st r u) (fun t' c u _ ht' hI=>?_) (fun c u hI=>?_) ⟨i',j',out,_,_,_,rfl,P,hm'⟩) fun c u hI=>?_)
    ·obtain ⟨i2,j2,out,g,x,y,rfl,P,hm2⟩:=hI
     have p1:=P.hi
     have p2:=P.hj
     obtain ⟨yb,kb,hyb,hkb⟩:=eb (i:=j2+1) (by omega)
     have K2:=P.lk.kn.trans kn
     have L2:∀ {v:SortSt},kindOf v=kindOf u->arrOf v=arrOf u->pendingOf v=pendingOf u->failedOf v=failedOf u->Lk st v:=fun h1 h2 h3 h4=>⟨h1.trans P.lk.kn,h2.trans P.lk.ar,h3.trans P.lk.pn,h4.trans P.lk.fl⟩
     show wpS _ _ _ _ (if g > 1 then _ else _) _ u
     split
     all_goals
      refine wpS_bind (wpS_modify ?_)
      refine wpS_bind (zau hyb (wpS_bind (zbX T (by exact K2) ha (fun x hx=>ks x (List.mem_append_left _ hx)) hkb (base:=0) (n:=i2+1) (hint:=i2) (by omega) (by omega) fun k hk h1 h2=>?_)))
      have JA:MK κ a b (out++(a.extract k (i2+1)).reverse) k (j2+2):=P.mq.sliceA hk hyb fun n x hn1 hn2 hx=>by
       obtain ⟨l,hl'⟩:=ks x (List.mem_append_left _ (List.mem_of_getElem? (by rw [Array.getElem?_toList];exact hx)))
       have z:=h2 n x l hn1 hn2 (by rw [Nat.zero_add];exact hx) hl'
       unfold zan at z
       rw [if_neg (fun z=>nomatch z)] at z
       have z:κ.blt kb l=true:=by simpa using z
       exact KR.of hkb hl' (KeyOrd.kle_of_klt z)
      show wpS _ _ _ _ (if i2+1 - k > 0 then _ else _) _ _
      by_cases k0:i2+1 - k > 0
      ·rw [if_pos k0]
       show wpS _ _ _ _ (if (k == 0)=true then _ else _) _ _
       by_cases d1:(k == 0)=true
       ·rw [if_pos d1]
        exact wpS_pure (.inr ⟨_,_,rfl,L2 rfl rfl rfl rfl,JA.ab (.inl (beq_iff_eq.mp d1))⟩)
       ·rw [if_neg d1]
        have d2:¬ k=0:=fun z=>d1 (beq_iff_eq.mpr z)
        obtain ⟨i3,rfl⟩:∃ i3,k=i3+1:=⟨k - 1,by omega⟩
        obtain ⟨xa,ka,hxa,hka⟩:=ea (i:=i3) (by omega)
        have hay:KR κ xa yb:=KR.of hka hkb (by
         have z:=h1 i3 xa ka (by omega) (by rw [Nat.zero_add];exact hxa) hka
         unfold zan at z
         rw [if_neg (fun z=>nomatch z)] at z
         have z:κ.blt kb ka=false:=by simpa using z
         exact z)
        refine wpS_bind (zau hyb ?_)
        have J2:=MK.pushB JA hxa hyb hay
        show wpS _ _ _ _ (if (j2+1 == 1)=true then _ else _) _ _
        by_cases e1:(j2+1 == 1)=true
        ·rw [if_pos e1]
         exact wpS_pure (.inr ⟨_,_,rfl,L2 rfl rfl rfl rfl,J2.ba (beq_iff_eq.mp e1) hyf (hf yf hyf)⟩)
        ·rw [if_neg e1]
         have e2:¬ j2+1=1:=fun z=>e1 (beq_iff_eq.mpr z)
         obtain ⟨j3,rfl⟩:∃ j3,j2=j3+1:=⟨j2 - 1,by omega⟩
         refine wpS_bind (zau hxa (wpS_bind (zbX T (by exact K2) hb (fun x hx=>ks x (List.mem_append_right _ hx)) hka (base:=0) (n:=j3+2) (hint:=j3+1) (by omega) (by omega) fun k' hk' h1' h2'=>?_)))
         have JB:MK κ a b _ (i3+1) k':=J2.sliceB hk' hxa fun n y hn1 hn2 hy=>by
          obtain ⟨l,hl'⟩:=ks y (List.mem_append_right _ (List.mem_of_getElem? (by rw [Array.getElem?_toList];exact hy)))
          have z:=h2' n y l hn1 hn2 (by rw [Nat.zero_add];exact hy) hl'
          unfold zan at z
          rw [if_pos rfl] at z
          exact KR.of hka hl' z
         show wpS _ _ _ _ (if j3+2 - k' > 0 then _ else _) _ _
         by_cases m0:j3+2 - k' > 0
         ·rw [if_pos m0]
          show wpS _ _ _ _ (if (k' == 1)=true then _ else _) _ _
          by_cases g1:(k' == 1)=true
          ·rw [if_pos g1]
           exact wpS_pure (.inr ⟨_,_,rfl,L2 rfl rfl rfl rfl,JB.ba (beq_iff_eq.mp g1) hyf (hf yf hyf)⟩)
          ·rw [if_neg g1]
           have g2:¬ k'=1:=fun z=>g1 (beq_iff_eq.mpr z)
           show wpS _ _ _ _ (if (k' == 0)=true then _ else _) _ _
           by_cases g3:(k' == 0)=true
           ·rw [if_pos g3]
            exact wpS_pure (.inr ⟨_,_,rfl,L2 rfl rfl rfl rfl,JB.ab (.inr (beq_iff_eq.mp g3))⟩)
           ·rw [if_neg g3]
            have g4:¬ k'=0:=fun z=>g3 (beq_iff_eq.mpr z)
            obtain ⟨j4,rfl⟩:∃ j4,k'=j4+2:=⟨k' - 2,by omega⟩
            obtain ⟨yc,kc,hyc,hkc⟩:=eb (i:=j4+1) (by omega)
            have hca:KR κ yc xa:=KR.of hkc hka (by
             have z:=h1' (j4+1) yc kc (by omega) (by rw [Nat.zero_add];exact hyc) hkc
             unfold zan at z
             rw [if_pos rfl] at z
             exact KeyOrd.kle_of_klt z)
            refine wpS_bind (zau hxa ?_)
            have J3:=MK.pushA JB hxa hyc hca
            show wpS _ _ _ _ (if (i3 == 0)=true then _ else _) _ _
            by_cases f1:(i3 == 0)=true
            ·rw [if_pos f1]
             exact wpS_pure (.inr ⟨_,_,rfl,L2 rfl rfl rfl rfl,J3.ab (.inl (beq_iff_eq.mp f1))⟩)
            ·rw [if_neg f1]
             have f2:¬ i3=0:=fun z=>f1 (beq_iff_eq.mpr z)
             obtain ⟨i5,e5⟩:∃ i5,i3=i5+1:=⟨i3 - 1,by omega⟩
             rw [e5] at J3 ⊢
             split
             ·exact wpS_pure (.inl ⟨i5,j4,_,_,_,_,rfl,⟨L2 rfl rfl rfl rfl,J3,by omega,by omega⟩,by omega⟩)
             ·exact wpS_pure ⟨i5,j4,_,_,_,_,rfl,⟨L2 rfl rfl rfl rfl,J3,by omega,by omega⟩,by omega⟩
         ·rw [if_neg m0]
          have m1:k'=j3+2:=by omega
          subst m1
          obtain ⟨yc,kc,hyc,hkc⟩:=eb (i:=j3+1) (by omega)
          have hca:KR κ yc xa:=KR.of hkc hka (by
           have z:=h1' (j3+1) yc kc (by omega) (by rw [Nat.zero_add];exact hyc) hkc
           unfold zan at z
           rw [if_pos rfl] at z
           exact KeyOrd.kle_of_klt z)
          refine wpS_bind (zau hxa ?_)
          have J3:=MK.pushA J2 hxa hyc hca
          show wpS _ _ _ _ (if (i3 == 0)=true then _ else _) _ _
          by_cases f1:(i3 == 0)=true
          ·rw [if_pos f1]
           exact wpS_pure (.inr ⟨_,_,rfl,L2 rfl rfl rfl rfl,J3.ab (.inl (beq_iff_eq.mp f1))⟩)
          ·rw [if_neg f1]
           have f2:¬ i3=0:=fun z=>f1 (beq_iff_eq.mpr z)
           obtain ⟨i5,e5⟩:∃ i5,i3=i5+1:=⟨i3 - 1,by omega⟩
           rw [e5] at J3 ⊢
           split
           ·exact wpS_pure (.inl ⟨i5,j3,_,_,_,_,rfl,⟨L2 rfl rfl rfl rfl,J3,by omega,by omega⟩,by omega⟩)
           ·exact wpS_pure ⟨i5,j3,_,_,_,_,rfl,⟨L2 rfl rfl rfl rfl,J3,by omega,by omega⟩,by omega⟩
      ·rw [if_neg k0]
       have k1:k=i2+1:=by omega
       subst k1
       obtain ⟨xa,ka,hxa,hka⟩:=ea (i:=i2) (by omega)
       have hay:KR κ xa yb:=KR.of hka hkb (by
        have z:=h1 i2 xa ka (by omega) (by rw [Nat.zero_add];exact hxa) hka
        unfold zan at z
        rw [if_neg (fun z=>nomatch z)] at z
        have z:κ.blt kb ka=false:=by simpa using z
        exact z)
       refine wpS_bind (zau hyb ?_)
       have J2:=MK.pushB P.mq hxa hyb hay
       show wpS _ _ _ _ (if (j2+1 == 1)=true then _ else _) _ _
       by_cases e1:(j2+1 == 1)=true
       ·rw [if_pos e1]
        exact wpS_pure (.inr ⟨_,_,rfl,L2 rfl rfl rfl rfl,J2.ba (beq_iff_eq.mp e1) hyf (hf yf hyf)⟩)
       ·rw [if_neg e1]
        have e2:¬ j2+1=1:=fun z=>e1 (beq_iff_eq.mpr z)
        obtain ⟨j3,rfl⟩:∃ j3,j2=j3+1:=⟨j2 - 1,by omega⟩
        refine wpS_bind (zau hxa (wpS_bind (zbX T (by exact K2) hb (fun x hx=>ks x (List.mem_append_right _ hx)) hka (base:=0) (n:=j3+2) (hint:=j3+1) (by omega) (by omega) fun k' hk' h1' h2'=>?_)))
        have JB:MK κ a b _ (i2+1) k':=J2.sliceB hk' hxa fun n y hn1 hn2 hy=>by
         obtain ⟨l,hl'⟩:=ks y (List.mem_append_right _ (List.mem_of_getElem? (by rw [Array.getElem?_toList];exact hy)))
         have z:=h2' n y l hn1 hn2 (by rw [Nat.zero_add];exact hy) hl'
         unfold zan at z
         rw [if_pos rfl] at z
         exact KR.of hka hl' z
        show wpS _ _ _ _ (if j3+2 - k' > 0 then _ else _) _ _
        by_cases m0:j3+2 - k' > 0
        ·rw [if_pos m0]
         show wpS _ _ _ _ (if (k' == 1)=true then _ else _) _ _
         by_cases g1:(k' == 1)=true
         ·rw [if_pos g1]
          exact wpS_pure (.inr ⟨_,_,rfl,L2 rfl rfl rfl rfl,JB.ba (beq_iff_eq.mp g1) hyf (hf yf hyf)⟩)
         ·rw [if_neg g1]
          have g2:¬ k'=1:=fun z=>g1 (beq_iff_eq.mpr z)
          show wpS _ _ _ _ (if (k' == 0)=true then _ else _) _ _
          by_cases g3:(k' == 0)=true
          ·rw [if_pos g3]
           exact wpS_pure (.inr ⟨_,_,rfl,L2 rfl rfl rfl rfl,JB.ab (.inr (beq_iff_eq.mp g3))⟩)
          ·rw [if_neg g3]
           have g4:¬ k'=0:=fun z=>g3 (beq_iff_eq.mpr z)
           obtain ⟨j4,rfl⟩:∃ j4,k'=j4+2:=⟨k' - 2,by omega⟩
           obtain ⟨yc,kc,hyc,hkc⟩:=eb (i:=j4+1) (by omega)
           have hca:KR κ yc xa:=KR.of hkc hka (by
            have z:=h1' (j4+1) yc kc (by omega) (by rw [Nat.zero_add];exact hyc) hkc
            unfold zan at z
            rw [if_pos rfl] at z
            exact KeyOrd.kle_of_klt z)
           refine wpS_bind (zau hxa ?_)
           have J3:=MK.pushA JB hxa hyc hca
           show wpS _ _ _ _ (if (i2 == 0)=true then _ else _) _ _
           by_cases f1:(i2 == 0)=true
           ·rw [if_pos f1]
            exact wpS_pure (.inr ⟨_,_,rfl,L2 rfl rfl rfl rfl,J3.ab (.inl (beq_iff_eq.mp f1))⟩)
           ·rw [if_neg f1]
            have f2:¬ i2=0:=fun z=>f1 (beq_iff_eq.mpr z)
            obtain ⟨i5,e5⟩:∃ i5,i2=i5+1:=⟨i2 - 1,by omega⟩
            rw [e5] at J3 ⊢
            split
            ·exact wpS_pure (.inl ⟨i5,j4,_,_,_,_,rfl,⟨L2 rfl rfl rfl rfl,J3,by omega,by omega⟩,by omega⟩)
            ·exact wpS_pure ⟨i5,j4,_,_,_,_,rfl,⟨L2 rfl rfl rfl rfl,J3,by omega,by omega⟩,by omega⟩
        ·rw [if_neg m0]
         have m1:k'=j3+2:=by omega
         subst m1
         obtain ⟨yc,kc,hyc,hkc⟩:=eb (i:=j3+1) (by omega)
         have hca:KR κ yc xa:=KR.of hkc hka (by
          have z:=h1' (j3+1) yc kc (by omega) (by rw [Nat.zero_add];exact hyc) hkc
          unfold zan at z
          rw [if_pos rfl] at z
          exact KeyOrd.kle_of_klt z)
         refine wpS_bind (zau hxa ?_)
         have J3:=MK.pushA J2 hxa hyc hca
         show wpS _ _ _ _ (if (i2 == 0)=true then _ else _) _ _
         by_cases f1:(i2 == 0)=true
         ·rw [if_pos f1]
          exact wpS_pure (.inr ⟨_,_,rfl,L2 rfl rfl rfl rfl,J3.ab (.inl (beq_iff_eq.mp f1))⟩)
         ·rw [if_neg f1]
          have f2:¬ i2=0:=fun z=>f1 (beq_iff_eq.mpr z)
          obtain ⟨i5,e5⟩:∃ i5,i2=i5+1:=⟨i2 - 1,by omega⟩
          rw [e5] at J3 ⊢
          split
          ·exact wpS_pure (.inl ⟨i5,j3,_,_,_,_,rfl,⟨L2 rfl rfl rfl rfl,J3,by omega,by omega⟩,by omega⟩)
          ·exact wpS_pure ⟨i5,j3,_,_,_,_,rfl,⟨L2 rfl rfl rfl rfl,J3,by omega,by omega⟩,by omega⟩
    ·obtain ⟨i2,j2,out,g,x,y,rfl,P,hm2⟩:=hI
     exact .inl ⟨i2,j2,out,_,_,_,rfl,P,hm2⟩
    ·rcases hI with ⟨i2,j2,out,g,x,y,rfl,P,hm2⟩ | ⟨r,rest,rfl,hD⟩
     ·refine wpS_bind (wpS_modify (wpS_pure ⟨i2,j2,out,_,rfl,⟨⟨P.lk.kn,P.lk.ar,P.lk.pn,P.lk.fl⟩,P.mq,P.hi,P.hj⟩,by omega⟩))
     ·exact wpS_pure ⟨_,_,rfl,hD⟩
   ·exact wpS_pure ⟨_,_,rfl,hD⟩
 ·obtain ⟨i,j,out,g,rfl,P,hm⟩:=hI
  have:=P.hi
  have:=P.hj
  omega
 ·obtain ⟨r,rest,rfl,hD⟩:=hI
  exact wpS_pure (q r u hD)
end
theorem zlZ (p:Nat) (ms:List Keyed):∀ (xs:Array Keyed) (k:Nat),p+k+ms.length<=xs.size->((ms.zipIdx k).foldl (fun a x=>a.setIfInBounds (p+x.2) x.1) xs).toList=xs.toList.take (p+k)++ms++xs.toList.drop (p+k+ms.length):=by
 induction ms with
 | nil =>
   intro xs k _
   show xs.toList=xs.toList.take (p+k)++[]++xs.toList.drop (p+k)
   rw [List.append_nil,List.take_append_drop]
 | cons q ms ih =>
   intro xs k h
   rw [List.length_cons] at h
   rw [List.zipIdx_cons,List.foldl_cons,ih _ (k+1) (by rw [Array.size_setIfInBounds];omega),Array.toList_setIfInBounds]
   have hl:p+k < xs.toList.length:=by rw [Array.length_toList];omega
   have e1:(xs.toList.set (p+k) q).take (p+(k+1))=xs.toList.take (p+k)++[q]:=by
    rw [show p+(k+1)=p+k+1 by omega,List.take_add_one,List.take_set_of_le (Nat.le_refl _),List.getElem?_set_self hl]
    rfl
   have e2:(xs.toList.set (p+k) q).drop (p+(k+1)+ms.length)=xs.toList.drop (p+k+(q :: ms).length):=by
    rw [List.drop_set_of_lt (by omega),List.length_cons,show p+(k+1)+ms.length=p+k+(ms.length+1) by omega]
   rw [e1,e2,List.append_assoc,List.append_assoc,List.append_assoc]
   rfl
end Sr
namespace Sr
open PySem PyProof.Rows
def Seg (κ:KeyKind) (xs:Array Keyed) (lo n:Nat):Prop:=∀ i j,lo<=i->i<=j->j < lo+n->κ.kle (KK κ xs i) (KK κ xs j)
def Dsg (κ:KeyKind) (xs:Array Keyed) (lo n:Nat):Prop:=∀ i j,lo<=i->i<=j->j < lo+n->κ.kle (KK κ xs j) (KK κ xs i)
structure Kp (κ:KeyKind) (kd:SortKind) (o:Array Keyed) (st:SortSt) (lo:Nat) (u:SortSt):Prop where
 pm:(arrOf u).Perm o
 kn:kindOf u=kd
 fl:failedOf u=none
 pn:pendingOf u=pendingOf st
 ks:∀ i,i < lo->KK κ (arrOf u) i=KK κ (arrOf st) i
section
variable {prog:Program} {w:World} {A:Around} {E:Value->Shared->Prop} {s:Shared} {o:Array Keyed} {κ:KeyKind} {kd:SortKind} {st:SortSt}
theorem Kp.sz {lo:Nat} {u:SortSt} (h:Kp κ kd o st lo u):(arrOf u).size=o.size:=h.pm.size_eq
theorem Kp.mir {lo i j:Nat} {u:SortSt} (h:Kp κ kd o st lo u) (hi:lo<=i) (hj:j<=o.size):Kp κ kd o st lo (setArr u (mirror (arrOf u) i j ((j - i) / 2))):=by
 refine ⟨(mirror_perm ..).trans h.pm,h.kn,h.fl,h.pn,fun k hk=>?_⟩
 show KK κ (mirror (arrOf u) i j ((j - i) / 2)) k=_
 rw [KK_mirror (by rw [h.sz];exact hj) k,if_neg (by omega)]
 exact h.ks k hk
theorem ztg (T:zcd prog w A s κ kd) (h0:KeysOf κ o) (pm:(arrOf st).Perm o) (kn:kindOf st=kd) {i j:Nat} {Q:Option Bool->SortSt->Prop} (hi:i < o.size) (hj:j < o.size)
 (q:Q (some (κ.blt (KK κ (arrOf st) i) (KK κ (arrOf st) j))) st):wpS (model prog w) A E s (ltAt' i j) Q st:=by
 have key:∀ {k:Nat},k < o.size->∃ v p a,(arrOf st)[k]?=some (v,p)/\κ.keyOf v=some a/\KK κ (arrOf st) k=a:=fun {k} hk=>by
  have hk':k < (arrOf st).size:=pm.size_eq ▸ hk
  have hin:(arrOf st)[k] ∈ o.toList:=(Array.perm_iff_toList_perm.mp pm).mem_iff.mp (by simp)
  obtain ⟨a,ea⟩:=h0 _ hin
  have e:=getElem?_pos (arrOf st) k hk'
  exact ⟨_,_,a,e,ea,by simp only [KK,e,ea,Option.getD_some]⟩
 obtain ⟨x,p,a,e1,k1,r1⟩:=key hi
 obtain ⟨y,p',b,e2,k2,r2⟩:=key hj
 rw [r1,r2] at q
 rw [ltAt'_eq]
 refine wpS_bind (wpS_get ?_)
 show wpS _ _ _ _ (elem' (arrOf st) i >>= fun u=>elem' (arrOf st) j >>= fun v=>lt' u v) Q st
 rw [elem'_eq,elem'_eq,e1,e2]
 refine wpS_bind (wpS_pure (wpS_bind (wpS_pure ?_)))
 rw [lt'_eq]
 refine wpS_bind (wpS_get ?_)
 rw [kn]
 exact wpS_bind (wpS_lift (wpAny_attempt (T _ x y a b _ k1 k2 ⟨rfl,wpS_pure q⟩)))
theorem zrb {xs:Array Keyed} {lo x:Nat} (h:Seg κ xs lo x) (hx:x=0\/κ.kle (KK κ xs (lo+x - 1)) (KK κ xs (lo+x))):Seg κ xs lo (x+1):=fun i j hl hij hj=>by
 rcases Nat.lt_or_ge j (lo+x) with hjx | hjx
 ·exact h i j hl hij hjx
 obtain rfl:j=lo+x:=by omega
 rcases Nat.lt_or_ge i (lo+x) with hi | hi
 ·rcases hx with z | z
  ·omega
  ·exact KeyOrd.kle_trans (h i (lo+x - 1) hl (by omega) (by omega)) z
 ·obtain rfl:i=lo+x:=by omega
  exact KeyOrd.kle_refl _
theorem zeG {xs:Array Keyed} {lo x:Nat} (h:Dsg κ xs lo x) (hx:x=0\/κ.kle (KK κ xs (lo+x)) (KK κ xs (lo+x - 1))):Dsg κ xs lo (x+1):=fun i j hl hij hj=>by
 rcases Nat.lt_or_ge j (lo+x) with hjx | hjx
 ·exact h i j hl hij hjx
 obtain rfl:j=lo+x:=by omega
 rcases Nat.lt_or_ge i (lo+x) with hi | hi
 ·rcases hx with z | z
  ·omega
  ·exact KeyOrd.kle_trans z (h i (lo+x - 1) hl (by omega) (by omega))
 ·obtain rfl:i=lo+x:=by omega
  exact KeyOrd.kle_refl _
theorem zua {xs:Array Keyed} {lo:Nat}:Seg κ xs lo 1:=fun i j h1 h2 h3=>by
 obtain rfl:i=j:=by omega
 exact KeyOrd.kle_refl _
theorem zuY {xs:Array Keyed} {lo:Nat}:Dsg κ xs lo 1:=fun i j h1 h2 h3=>by
 obtain rfl:i=j:=by omega
 exact KeyOrd.kle_refl _
theorem zst {lo b n:Nat} {f:Nat->AscSt->StateT SortSt Sem (ForInStep AscSt)} {Q:AscSt->SortSt->Prop}
 (hf:∀ t m,1<=m->m < n->∀ R:ForInStep AscSt->SortSt->Prop,(κ.klt (KK κ (arrOf st) (lo+m)) (KK κ (arrOf st) (lo+m - 1))->R (.done (none,m)) st)->(κ.kle (KK κ (arrOf st) (lo+m - 1)) (KK κ (arrOf st) (lo+m))->R (.yield (none,m+1)) st)->wpS (model prog w) A E s (f t (none,m)) R st)
 (hb:1<=b) (hbn:b<=n) (hs:Seg κ (arrOf st) lo b)
 (q:∀ m,b<=m->m<=n->Seg κ (arrOf st) lo m->(m=n\/κ.klt (KK κ (arrOf st) (lo+m)) (KK κ (arrOf st) (lo+m - 1)))->Q (none,m) st):wpS (model prog w) A E s (forIn [b:n] (none,b) f) Q st:=by
 refine wpS_forRange (I:=fun m c u=>u=st/\c=(none,m)/\Seg κ (arrOf st) lo m) (fun m c u hbm hmn hI=>?_) (fun c u hI=>?_) ⟨rfl,rfl,hs⟩
 ·obtain ⟨rfl,rfl,up⟩:=hI
  exact hf m m (by omega) hmn _ (fun lt=>q m hbm (by omega) up (.inr lt)) fun le=>⟨rfl,rfl,zrb up (.inr le)⟩
 ·obtain ⟨rfl,rfl,up⟩:=hI
  have e:max b n=n:=by omega
  rw [e] at up ⊢
  exact q n hbn (Nat.le_refl _) up (.inl rfl)
theorem ask2 (T:zcd prog w A s κ kd) (h0:KeysOf κ o) (pm:(arrOf st).Perm o) (kn:kindOf st=kd) {i j:Nat} (hi:i < o.size) (hj:j < o.size) {β:Type} {f:Option Bool->StateT SortSt Sem β} {R:β->SortSt->Prop}
 (r1:κ.klt (KK κ (arrOf st) i) (KK κ (arrOf st) j)->wpS (model prog w) A E s (f (some true)) R st) (r2:κ.kle (KK κ (arrOf st) j) (KK κ (arrOf st) i)->wpS (model prog w) A E s (f (some false)) R st):wpS (model prog w) A E s (ltAt' i j >>= f) R st:=by
 refine wpS_bind (ztg T h0 pm kn hi hj ?_)
 cases lt:κ.blt (KK κ (arrOf st) i) (KK κ (arrOf st) j) with
 | true=>exact r1 lt
 | false=>exact r2 lt
theorem zic {β:Type} {R:StateT SortSt Sem β} {P:SortSt->Prop} {Q:β->SortSt->Prop} {W:Prop} (main:(∀ u,P u->wpS (model prog w) A E s R Q u)->W) (key:∀ u,P u->wpS (model prog w) A E s R Q u):W:=main key
theorem znH (T:zcd prog w A s κ kd) (h0:KeysOf κ o) {lo n:Nat} (hn:lo+n<=o.size) (h1:1<=n) (K:Kp κ kd o st lo st) {Q:Option Nat->SortSt->Prop}
 (q:∀ m u,Kp κ kd o st lo u->1<=m->m<=n->Seg κ (arrOf u) lo m->Q (some m) u):wpS (model prog w) A E s (countRun' lo n) Q st:=by
 rw [countRun'_eq]
 refine wpS_bind (zst (κ:=κ) (lo:=lo) (fun t m a b R r1 r2=>ask2 T h0 K.pm K.kn (by omega) (by omega) (fun z=>wpS_pure (r1 z)) fun z=>wpS_pure (r2 z)) (Nat.le_refl 1) h1 zua fun m hm1 hm2 up hor=>?_)
 show wpS _ _ _ _ (if (m == n)=true then _ else _) _ st
 by_cases e:m=n
 ·rw [if_pos (beq_iff_eq.mpr e)]
  exact wpS_pure (q m st K hm1 hm2 up)
 rw [if_neg fun z=>e (beq_iff_eq.mp z)]
 have dip:=hor.resolve_left e
 have hmn:m+1<=n:=by omega
 apply zic (Q:=Q) (P:=fun u=>Kp κ kd o st lo u/\Dsg κ (arrOf u) lo (m+1))
 ·intro key
  by_cases h:m > 1
  ·show wpS _ _ _ _ (ite (m > 1) _ _) _ _
   rw [if_pos h]
   refine ask2 T h0 K.pm K.kn (i:=lo) (j:=lo+m - 1) (by omega) (by omega) (fun z=>wpS_pure (q m st K hm1 hm2 up)) fun rose=>?_
   have z:lo+m<=(arrOf st).size:=by rw [K.sz];omega
   have al:∀ k,lo<=k->k < lo+m->KK κ (arrOf st) k=KK κ (arrOf st) (lo+m - 1):=fun k h1 hk =>
    KeyOrd.kle_antisymm (up k (lo+m - 1) h1 (by omega) (by omega)) (KeyOrd.kle_trans rose (up lo k (Nat.le_refl _) h1 hk))
   refine wpS_bind (wpS_reverse (key _ ⟨K.mir (i:=lo) (j:=lo+m) (Nat.le_refl _) (by omega),fun i j h2 hij hj=>?_⟩))
   have dn:Dsg κ (arrOf st) lo (m+1):=zeG (fun i j h2 hij hj=>by rw [al i h2 (by omega),al j (by omega) hj];exact KeyOrd.kle_refl _) (.inr (KeyOrd.kle_of_klt dip))
   show κ.kle (KK κ (mirror _ _ _ _) j) (KK κ (mirror _ _ _ _) i)
   rw [KK_mirror_equal z al i,KK_mirror_equal z al j]
   exact dn i j h2 hij hj
  ·show wpS _ _ _ _ (ite (m > 1) _ _) _ _
   rw [if_neg h]
   obtain rfl:m=1:=by omega
   exact key st ⟨K,zeG zuY (.inr (KeyOrd.kle_of_klt dip))⟩
 ·rintro u ⟨Ku,dn⟩
  refine wpS_bind (wpS_lift (wpAny_rule ⟨rfl,wpS_bind (wpS_mono (wpS_forRange
   (I:=fun m c u=>∃ e,c=(none,m,e)/\Kp κ kd o st lo u/\Dsg κ (arrOf u) lo m/\e+1<=m/\∀ i,lo+m - (e+1)<=i->i < lo+m->KK κ (arrOf u) i=KK κ (arrOf u) (lo+m - 1))
   (Q:=fun c u=>∃ m e,c=(none,m,e)/\m<=n/\Kp κ kd o st lo u/\Dsg κ (arrOf u) lo m/\e+1<=m/\∀ i,lo+m - (e+1)<=i->i < lo+m->KK κ (arrOf u) i=KK κ (arrOf u) (lo+m - 1))
   (fun m c u hbm hmn hI=>?_) (fun c u hI=>?_) ⟨0,rfl,Ku,dn,Nat.le_add_left _ _,fun i h1 h2=>congrArg _ (by omega)⟩) fun c u hI=>?_)⟩))
  ·obtain ⟨e,rfl,S',dn,he,al⟩:=hI
   have z:lo+m<=(arrOf u).size:=by rw [S'.sz];omega
   refine ask2 T h0 S'.pm S'.kn (i:=lo+m) (j:=lo+m - 1) (by omega) (by omega) (fun lt=>?_) fun ge=>?_
   ·have dn':=zeG dn (.inr (KeyOrd.kle_of_klt lt))
    show wpS _ _ _ _ (if e > 0 then _ else _) _ u
    by_cases h:e > 0
    ·rw [if_pos h]
     refine wpS_bind (wpS_reverse (wpS_pure ⟨0,rfl,S'.mir (i:=lo+m - (e+1)) (j:=lo+m) (by omega) (by omega),fun i j h2 hij hj=>?_,Nat.succ_le_succ (Nat.zero_le _),fun i h1 h2=>congrArg _ (by omega)⟩))
     show κ.kle (KK κ (mirror _ _ _ _) j) (KK κ (mirror _ _ _ _) i)
     rw [KK_mirror_equal z al i,KK_mirror_equal z al j]
     exact dn' i j h2 hij hj
    ·rw [if_neg h]
     exact wpS_pure ⟨0,rfl,S',dn',Nat.succ_le_succ (Nat.zero_le _),fun i h1 h2=>congrArg _ (by omega)⟩
   ·refine ask2 T h0 S'.pm S'.kn (i:=lo+m - 1) (j:=lo+m) (by omega) (by omega) (fun gt=>?_) fun le=>?_
    ·exact wpS_pure ⟨m,e,rfl,by omega,S',dn,he,al⟩
    ·have same:KK κ (arrOf u) (lo+m)=KK κ (arrOf u) (lo+m - 1):=KeyOrd.kle_antisymm le ge
     refine wpS_pure ⟨e+1,rfl,S',zeG dn (.inr le),by omega,fun i h1 h2=>?_⟩
     show KK κ (arrOf u) i=KK κ (arrOf u) (lo+m)
     rcases Nat.lt_or_ge i (lo+m) with h | h
     ·rw [same]
      exact al i (by omega) h
     ·rw [show i=lo+m by omega]
  ·obtain ⟨e,rfl,S',dn,he,al⟩:=hI
   have ez:max (m+1) n=n:=by omega
   rw [ez] at dn he al ⊢
   exact ⟨n,e,rfl,Nat.le_refl _,S',dn,he,al⟩
  ·obtain ⟨m',e,rfl,hm',S',dn,he,al⟩:=hI
   have z:lo+m'<=(arrOf u).size:=by rw [S'.sz];omega
   apply zic (Q:=Q) (P:=fun u=>Kp κ kd o st lo u/\Dsg κ (arrOf u) lo m')
   ·intro key
    show wpS _ _ _ _ (if e > 0 then _ else _) _ u
    by_cases h:e > 0
    ·rw [if_pos h]
     refine wpS_bind (wpS_reverse (key _ ⟨S'.mir (i:=lo+m' - (e+1)) (j:=lo+m') (by omega) (by omega),fun i j h2 hij hj=>?_⟩))
     show κ.kle (KK κ (mirror _ _ _ _) j) (KK κ (mirror _ _ _ _) i)
     rw [KK_mirror_equal z al i,KK_mirror_equal z al j]
     exact dn i j h2 hij hj
    ·rw [if_neg h]
     exact key u ⟨S',dn⟩
   ·rintro v ⟨Kv,dv⟩
    have zv:lo+m'<=(arrOf v).size:=by rw [Kv.sz];omega
    have K2:=Kv.mir (i:=lo) (j:=lo+m') (Nat.le_refl _) (by omega)
    refine wpS_bind (wpS_reverse (wpS_bind (zst (κ:=κ) (lo:=lo) (b:=m') (n:=n) (fun t m a b R r1 r2=>ask2 T h0 K2.pm K2.kn (by omega) (by omega) (fun z=>wpS_pure (r1 z)) fun z=>wpS_pure (r2 z)) (by omega) hm' (fun i j h2 hij hj=>?_) fun m hm1 hm2 up hor=>wpS_pure (q m _ K2 (by omega) hm2 up))))
    show κ.kle (KK κ (mirror (arrOf v) lo (lo+m') _) i) (KK κ (mirror (arrOf v) lo (lo+m') _) j)
    rw [KK_mirror zv i,KK_mirror zv j,if_pos (by omega),if_pos (by omega)]
    exact dv _ _ (by omega) (by omega) (by omega)
theorem znX (T:zcd prog w A s κ kd) (h0:KeysOf κ o) {lo n ok:Nat} {v:SortSt} (hn:lo+n<=o.size) (hok:ok<=n) (h1:1<=ok) (K:Kp κ kd o st lo v) (hs:Seg κ (arrOf v) lo ok) {Q:Bool->SortSt->Prop}
 (q:∀ u,Kp κ kd o st lo u->Seg κ (arrOf u) lo n->Q true u):wpS (model prog w) A E s (binarySort' lo n ok) Q v:=by
 rw [binarySort'_eq]
 have em:max ok 1=ok:=by omega
 rw [em]
 refine wpS_bind (wpS_mono (wpS_forRange (I:=fun k c u=>c=(none,())/\Kp κ kd o st lo u/\Seg κ (arrOf u) lo k) (Q:=fun c u=>c=(none,())/\Kp κ kd o st lo u/\Seg κ (arrOf u) lo n)
  (fun k c u hk1 hk2 hI=>?_) (fun c u hI=>?_) ⟨rfl,K,hs⟩) fun c u hI=>?_)
 ·obtain ⟨rfl,S',up⟩:=hI
  have hk:lo+k < o.size:=by omega
  refine wpS_bind (wpS_mono (wpS_forRange (I:=fun t c v=>v=u/\∃ l r,c=(none,l,r)/\l<=r/\r<=k/\r - l<=k - t/\(∀ i,lo<=i->i < lo+l->κ.kle (KK κ (arrOf u) i) (KK κ (arrOf u) (lo+k)))/\∀ i,lo+r<=i->i < lo+k->κ.klt (KK κ (arrOf u) (lo+k)) (KK κ (arrOf u) i))
   (Q:=fun c v=>v=u/\∃ l,c=(none,l,l)/\l<=k/\(∀ i,lo<=i->i < lo+l->κ.kle (KK κ (arrOf u) i) (KK κ (arrOf u) (lo+k)))/\∀ i,lo+l<=i->i < lo+k->κ.klt (KK κ (arrOf u) (lo+k)) (KK κ (arrOf u) i))
   (fun t c v _ ht hJ=>?_) (fun c v hJ=>?_) ⟨rfl,0,k,rfl,Nat.zero_le _,Nat.le_refl _,Nat.le_refl _,(fun i h0 hi=>absurd hi (by omega)),fun i h1 h2=>absurd h2 (by omega)⟩) fun c v hJ=>?_)
  ·obtain ⟨rfl,l,r,rfl,hlr,hrk,hm,lo',hi⟩:=hJ
   show wpS _ _ _ _ (if l ≥ r then _ else _) _ v
   by_cases h:l ≥ r
   ·rw [if_pos h]
    obtain rfl:l=r:=by omega
    exact wpS_pure ⟨rfl,l,rfl,hrk,lo',hi⟩
   ·rw [if_neg h]
    have m1:l<=(l+r) / 2:=by omega
    have m2:(l+r) / 2 < r:=by omega
    generalize (l+r) / 2=mid at m1 m2 ⊢
    have m3:mid < k:=Nat.lt_of_lt_of_le m2 hrk
    refine ask2 T h0 S'.pm S'.kn (i:=lo+k) (j:=lo+mid) hk (by omega) (fun lt=>?_) fun ge=>?_
    ·exact wpS_pure ⟨rfl,l,mid,rfl,m1,Nat.le_of_lt m3,by omega,lo',fun i a1 a2=>KeyOrd.klt_of_klt_of_kle lt (up _ _ (by omega) a1 a2)⟩
    ·exact wpS_pure ⟨rfl,mid+1,r,rfl,m2,hrk,by omega,(fun i a0 a1=>KeyOrd.kle_trans (up i (lo+mid) a0 (by omega) (by omega)) ge),hi⟩
  ·obtain ⟨rfl,l,r,rfl,hlr,hrk,hm,lo',hi⟩:=hJ
   have e0:max 0 k=k:=by omega
   rw [e0] at hm
   obtain rfl:l=r:=by omega
   exact ⟨rfl,l,rfl,hrk,lo',hi⟩
  ·obtain ⟨rfl,l,rfl,hlk,lo',hi⟩:=hJ
   have hks:lo+k < (arrOf v).size:=S'.sz ▸ hk
   show wpS _ _ _ _ (moveDown' (lo+k) (lo+l) >>= fun _=>pure (ForInStep.yield (none,()))) _ v
   rw [moveDown'_eq]
   have el:lo+k - (lo+k - (lo+l))=lo+l:=by omega
   refine wpS_bind (wpS_modify (wpS_pure ⟨rfl,⟨(bubble_perm ..).trans S'.pm,S'.kn,S'.fl,S'.pn,fun i hi'=>?_⟩,fun i j hl hij hj=>?_⟩))
   ·show KK κ (bubble (arrOf v) (lo+k) (lo+k - (lo+l))) i=_
    rw [KK_bubble hks (Nat.sub_le _ _) i,el,if_neg (by omega),if_neg (by omega)]
    exact S'.ks i hi'
   show κ.kle (KK κ (bubble (arrOf v) (lo+k) (lo+k - (lo+l))) i) (KK κ (bubble (arrOf v) (lo+k) _) j)
   rw [KK_bubble hks (Nat.sub_le _ _) i,KK_bubble hks (Nat.sub_le _ _) j,el]
   by_cases a1:i=lo+l <;> by_cases a2:j=lo+l <;> by_cases a3:lo+l < i/\i<=lo+k <;> by_cases a4:lo+l < j/\j<=lo+k <;>
    simp only [a1,a2,a3,a4,if_true,if_false] <;> first
    | (exfalso;omega)
    | exact KeyOrd.kle_refl _
    | exact lo' _ (by omega) (by omega)
    | exact KeyOrd.kle_of_klt (hi _ (by omega) (by omega))
    | exact up _ _ (by omega) (by omega) (by omega)
 ·obtain ⟨rfl,S',up⟩:=hI
  have e:max ok n=n:=by omega
  rw [e] at up
  exact ⟨rfl,S',up⟩
 ·obtain ⟨rfl,S',up⟩:=hI
  exact wpS_pure (q u S' up)
theorem zil {xs:Array Keyed} {i:Nat} {x:Keyed} {k:κ.α} (hx:xs[i]?=some x) (hk:κ.keyOf x.1=some k):KK κ xs i=k:=by
 simp only [KK,hx,hk,Option.getD_some]
theorem zkz {xs:Array Keyed} {lo n:Nat} (h:Seg κ xs lo n) {i j:Nat} {x y:Keyed} (hl:lo<=i) (hij:i<=j) (hj:j < lo+n) (hx:xs[i]?=some x) (hy:xs[j]?=some y):KR κ x y:=fun k l hk hl'=>by
 have z:=h i j hl hij hj
 rw [zil hx hk,zil hy hl'] at z
 exact z
theorem zef {f g:Nat->κ.α} {sa sb e p m:Nat} (ha:∀ i j,sa<=i->i<=j->j < sb->κ.kle (f i) (f j)) (hb:∀ i j,sb<=i->i<=j->j < e->κ.kle (f i) (f j)) (h1:sa<=p) (h2:p<=sb) (h3:sb<=m) (h4:m<=e) (h5:sa < sb) (h6:sb < e)
 (F1:∀ i,sa<=i->i < p->κ.kle (f i) (f sb)) (F2:∀ i,m<=i->i < e->κ.kle (f (sb - 1)) (f i)) (go:∀ i,i < p\/m<=i->g i=f i) (gi:∀ i,p<=i->i < m->∃ t,p<=t/\t < m/\g i=f t) (gs:∀ i j,p<=i->i<=j->j < m->κ.kle (g i) (g j)) :
 ∀ i j,sa<=i->i<=j->j < e->κ.kle (g i) (g j):=fun i j hi hij hj=>by
 have PR:∀ i j,sa<=i->i < p->p<=j->j < e->κ.kle (f i) (f j):=fun i j a1 a2 a3 a4=>by
  by_cases z:j < sb
  ·exact ha i j a1 (by omega) z
  ·exact KeyOrd.kle_trans (F1 i a1 a2) (hb sb j (Nat.le_refl _) (by omega) a4)
 have MR:∀ i j,sa<=i->i < m->m<=j->j < e->κ.kle (f i) (f j):=fun i j a1 a2 a3 a4=>by
  by_cases z:i < sb
  ·exact KeyOrd.kle_trans (ha i (sb - 1) a1 (by omega) (by omega)) (F2 j a3 a4)
  ·exact hb i j (by omega) (by omega) a4
 by_cases c1:i < p
 ·rw [go i (.inl c1)]
  by_cases c2:j < p
  ·rw [go j (.inl c2)]
   exact ha i j hi hij (by omega)
  ·by_cases c3:j < m
   ·obtain ⟨t,t1,t2,e'⟩:=gi j (by omega) c3
    rw [e']
    exact PR i t hi c1 t1 (by omega)
   ·rw [go j (.inr (by omega))]
    exact PR i j hi c1 (by omega) hj
 ·by_cases c2:i < m
  ·by_cases c3:j < m
   ·exact gs i j (by omega) hij c3
   ·obtain ⟨t,t1,t2,e'⟩:=gi i (by omega) c2
    rw [e',go j (.inr (by omega))]
    exact MR t j (by omega) t2 (by omega) hj
  ·rw [go i (.inr (by omega)),go j (.inr (by omega))]
   exact hb i j (by omega) hij hj
theorem zon {Q:PUnit->SortSt->Prop} {u:SortSt} (h:Q ⟨⟩ u):wpS (model prog w) A E s (set u:StateT SortSt Sem PUnit) Q st:=by
 unfold wpS
 rw [StateT.run_set]
 exact wpAny_pure ⟨rfl,h⟩
structure MA (κ:KeyKind) (kd:SortKind) (o:Array Keyed) (st:SortSt) (i sa n pw:Nat) (u:SortSt):Prop where
 pm:(arrOf u).Perm o
 kn:kindOf u=kd
 fl:failedOf u=none
 pn:pendingOf u=((pendingOf st).setIfInBounds i (sa,n,pw)).eraseIdxIfInBounds (i+1)
 ks:∀ j,j < sa\/sa+n<=j->KK κ (arrOf u) j=KK κ (arrOf st) j
 sg:Seg κ (arrOf u) sa n
theorem ziN {xs:Array Keyed} {lo n a b:Nat} (h:Seg κ xs lo n) (ha:lo<=a) (hb:b<=lo+n):(xs.extract a b).toList.Pairwise (KR κ):=by
 rw [List.pairwise_iff_getElem]
 intro i j hi hj hij
 have at':∀ k (hk:k < (xs.extract a b).toList.length),xs[a+k]?=some (xs.extract a b).toList[k]/\a+k < b:=fun k hk=>by
  have hk':k < (xs.extract a b).size:=by rw [Array.length_toList] at hk;exact hk
  have z:(xs.extract a b)[k]?=some (xs.extract a b)[k]:=getElem?_pos _ k hk'
  rw [Array.size_extract] at hk'
  rw [Array.getElem?_extract,if_pos (by omega)] at z
  rw [z]
  exact ⟨by rw [Array.getElem_toList],by omega⟩
 obtain ⟨e1,l1⟩:=at' i hi
 obtain ⟨e2,l2⟩:=at' j hj
 exact zkz h (by omega) (show a+i<=a+j by omega) (by omega) e1 e2
theorem zki (T:zcd prog w A s κ kd) (h0:KeysOf κ o) (pm:(arrOf st).Perm o) (kn:kindOf st=kd) (fl:failedOf st=none) {i sa na nb pw pw':Nat} (p1:(pendingOf st)[i]?=some (sa,na,pw)) (p2:(pendingOf st)[i+1]?=some (sa+na,nb,pw')) (n1:0 < na) (n2:0 < nb) (hs:sa+na+nb<=o.size)
 (ga:Seg κ (arrOf st) sa na) (gb:Seg κ (arrOf st) (sa+na) nb) {Q:Bool->SortSt->Prop} (q:∀ u,MA κ kd o st i sa (na+nb) pw u->Q true u):wpS (model prog w) A E s (mergeAt' i) Q st:=by
 have zs:(arrOf st).size=o.size:=pm.size_eq
 have key:∀ {k:Nat},k < o.size->∃ x a,(arrOf st)[k]?=some x/\κ.keyOf x.1=some a/\KK κ (arrOf st) k=a:=fun {k} hk=>by
  have hk':k < (arrOf st).size:=zs ▸ hk
  have hin:(arrOf st)[k] ∈ o.toList:=(Array.perm_iff_toList_perm.mp pm).mem_iff.mp (by simp)
  obtain ⟨a,ea⟩:=h0 _ hin
  have e:=getElem?_pos (arrOf st) k hk'
  exact ⟨_,a,e,ea,zil e ea⟩
 have kall:∀ x ∈ (arrOf st).toList,∃ k,κ.keyOf x.1=some k:=fun x hx=>h0 x ((Array.perm_iff_toList_perm.mp pm).mem_iff.mp hx)
 obtain ⟨y0,c0,hy0,hc0,kc0⟩:=key (k:=sa+na) (by omega)
 obtain ⟨xl,cl,hxl,hcl,kcl⟩:=key (k:=sa+na - 1) (by omega)
 unfold mergeAt'
 refine wpS_bind (wpS_get ?_)
 show wpS _ _ _ _ (match ((pendingOf st)[i]?,(pendingOf st)[i+1]?) with | (some (sa,na,power),some (sb,nb,snd))=>_ | _=>_) _ _
 rw [p1,p2]
 refine wpS_bind (zon ?_)
 obtain ⟨st1,hst1⟩:∃ st1,st1=setPending st (((pendingOf st).setIfInBounds i (sa,na+nb,pw)).eraseIdxIfInBounds (i+1)):=⟨_,rfl⟩
 have k1:kindOf st1=kd:=by rw [hst1];exact kn
 have f1:failedOf st1=none:=by rw [hst1];exact fl
 have a1:arrOf st1=arrOf st:=by rw [hst1]
 have n1':pendingOf st1=((pendingOf st).setIfInBounds i (sa,na+nb,pw)).eraseIdxIfInBounds (i+1):=by rw [hst1]
 show wpS _ _ _ _ _ _ (setPending st (((pendingOf st).setIfInBounds i (sa,na+nb,pw)).eraseIdxIfInBounds (i+1)))
 rw [<- hst1]
 clear hst1
 refine wpS_bind (zau hy0 (wpS_bind (zen (left:=false) T k1 kall hc0 (base:=sa) (n:=na) (hint:=0) (fun i j x y b1 b2 b3 b4 b5=>zkz ga b1 (Nat.le_of_lt b2) b3 b4 b5) (by omega) n1 fun k hk g1 g2=>?_)))
 have F1:∀ j,sa<=j->j < sa+k->κ.kle (KK κ (arrOf st) j) (KK κ (arrOf st) (sa+na)):=fun j b1 b2=>by
  obtain ⟨x,c,hx,hc,ec⟩:=key (k:=j) (by omega)
  have z:=g1 (j - sa) x c (by omega) (by rw [show sa+(j - sa)=j by omega];exact hx) hc
  unfold zan at z
  rw [if_neg (fun z=>nomatch z)] at z
  have z:κ.blt c0 c=false:=by simpa using z
  rw [ec,kc0]
  exact z
 have G1:∀ j,sa+k<=j->j < sa+na->κ.klt (KK κ (arrOf st) (sa+na)) (KK κ (arrOf st) j):=fun j b1 b2=>by
  obtain ⟨x,c,hx,hc,ec⟩:=key (k:=j) (by omega)
  have z:=g2 (j - sa) x c (by omega) (by omega) (by rw [show sa+(j - sa)=j by omega];exact hx) hc
  unfold zan at z
  rw [if_neg (fun z=>nomatch z)] at z
  have z:κ.blt c0 c=true:=by simpa using z
  rw [ec,kc0]
  exact z
 have ga':∀ i j,sa<=i->i<=j->j < sa+na->κ.kle (KK κ (arrOf st) i) (KK κ (arrOf st) j):=ga
 have gb':∀ i j,sa+na<=i->i<=j->j < sa+(na+nb)->κ.kle (KK κ (arrOf st) i) (KK κ (arrOf st) j):=fun i j b1 b2 b3=>gb i j b1 b2 (by omega)
 show wpS _ _ _ _ (if (na - k == 0)=true then _ else _) _ _
 by_cases e1:na - k=0
 ·rw [if_pos (beq_iff_eq.mpr e1)]
  refine wpS_pure (q st1 ⟨by rw [a1];exact pm,k1,f1,n1',fun j _=>by rw [a1],?_⟩)
  rw [a1]
  exact zef (p:=sa+na) (m:=sa+na) ga' gb' (by omega) (Nat.le_refl _) (Nat.le_refl _) (by omega) (by omega) (by omega) (fun j b1 b2=>F1 j b1 (by omega)) (fun j b1 b2=>KeyOrd.kle_trans (F1 (sa+na - 1) (by omega) (by omega)) (gb' (sa+na) j (Nat.le_refl _) b1 b2)) (fun _ _=>rfl) (fun j b1 b2=>absurd b1 (by omega)) (fun i j b1 b2 b3=>absurd b1 (by omega))
 rw [if_neg fun z=>e1 (beq_iff_eq.mp z)]
 refine wpS_bind (zau (show (arrOf st)[sa+k+(na - k) - 1]?=some xl by rw [show sa+k+(na - k) - 1=sa+na - 1 by omega];exact hxl) (wpS_bind (zen (left:=true) T k1 kall hcl (base:=sa+na) (n:=nb) (hint:=nb - 1) (fun i j x y b1 b2 b3 b4 b5=>zkz gb b1 (Nat.le_of_lt b2) b3 b4 b5) (by omega) (by omega) fun k' hk' g1' g2'=>?_)))
 have F2:∀ j,sa+na+k'<=j->j < sa+(na+nb)->κ.kle (KK κ (arrOf st) (sa+na - 1)) (KK κ (arrOf st) j):=fun j b1 b2=>by
  obtain ⟨x,c,hx,hc,ec⟩:=key (k:=j) (by omega)
  have z:=g2' (j - (sa+na)) x c (by omega) (by omega) (by rw [show sa+na+(j - (sa+na))=j by omega];exact hx) hc
  unfold zan at z
  rw [if_pos rfl] at z
  rw [ec,kcl]
  exact z
 have G2:∀ j,sa+na<=j->j < sa+na+k'->κ.klt (KK κ (arrOf st) j) (KK κ (arrOf st) (sa+na - 1)):=fun j b1 b2=>by
  obtain ⟨x,c,hx,hc,ec⟩:=key (k:=j) (by omega)
  have z:=g1' (j - (sa+na)) x c (by omega) (by rw [show sa+na+(j - (sa+na))=j by omega];exact hx) hc
  unfold zan at z
  rw [if_pos rfl] at z
  rw [ec,kcl]
  exact z
 show wpS _ _ _ _ (if (k' == 0)=true then _ else _) _ _
 by_cases e2:k'=0
 ·rw [if_pos (beq_iff_eq.mpr e2)]
  refine wpS_pure (q st1 ⟨by rw [a1];exact pm,k1,f1,n1',fun j _=>by rw [a1],?_⟩)
  rw [a1]
  exact zef (p:=sa+na) (m:=sa+na) ga' gb' (by omega) (Nat.le_refl _) (Nat.le_refl _) (by omega) (by omega) (by omega) (fun j b1 b2=>KeyOrd.kle_trans (ga' j (sa+na - 1) b1 (by omega) (by omega)) (F2 (sa+na) (by omega) (by omega))) (fun j b1 b2=>F2 j (by omega) b2) (fun _ _=>rfl) (fun j b1 b2=>absurd b1 (by omega)) (fun i j b1 b2 b3=>absurd b1 (by omega))
 rw [if_neg fun z=>e2 (beq_iff_eq.mp z)]
 obtain ⟨X,hX⟩:∃ X,X=(arrOf st).extract (sa+k) (sa+na):=⟨_,rfl⟩
 obtain ⟨Y,hY⟩:∃ Y,Y=(arrOf st).extract (sa+na) (sa+na+k'):=⟨_,rfl⟩
 have sX:X.size=na - k:=by rw [hX,Array.size_extract];omega
 have sY:Y.size=k':=by rw [hY,Array.size_extract];omega
 have aX:∀ {t:Nat} {x:Keyed},X[t]?=some x->t < na - k/\(arrOf st)[sa+k+t]?=some x:=fun {t x} h=>by
  rw [hX,Array.getElem?_extract] at h
  split at h
  ·exact ⟨by omega,h⟩
  ·cases h
 have aY:∀ {t:Nat} {x:Keyed},Y[t]?=some x->t < k'/\(arrOf st)[sa+na+t]?=some x:=fun {t x} h=>by
  rw [hY,Array.getElem?_extract] at h
  split at h
  ·exact ⟨by omega,h⟩
  ·cases h
 have mX:∀ {x:Keyed},x ∈ X.toList->∃ t,t < na - k/\(arrOf st)[sa+k+t]?=some x:=fun {x} h=>by
  obtain ⟨t,ht⟩:=List.mem_iff_getElem?.mp h
  rw [Array.getElem?_toList] at ht
  exact ⟨t,aX ht⟩
 have mY:∀ {x:Keyed},x ∈ Y.toList->∃ t,t < k'/\(arrOf st)[sa+na+t]?=some x:=fun {x} h=>by
  obtain ⟨t,ht⟩:=List.mem_iff_getElem?.mp h
  rw [Array.getElem?_toList] at ht
  exact ⟨t,aY ht⟩
 have pX:X.toList.Pairwise (KR κ):=by rw [hX];exact ziN ga (by omega) (Nat.le_refl _)
 have pY:Y.toList.Pairwise (KR κ):=by rw [hY];exact ziN gb (by omega) (by omega)
 have kXY:∀ x ∈ X.toList++Y.toList,∃ k,κ.keyOf x.1=some k:=fun x hx=>by
  rcases List.mem_append.mp hx with h | h
  ·obtain ⟨t,_,e⟩:=mX h
   exact kall x (by rw [<- Array.getElem?_toList] at e;exact List.mem_of_getElem? e)
  ·obtain ⟨t,_,e⟩:=mY h
   exact kall x (by rw [<- Array.getElem?_toList] at e;exact List.mem_of_getElem? e)
 have YX:∀ {t t':Nat} {x y:Keyed},(arrOf st)[t]?=some x->(arrOf st)[t']?=some y->κ.kle (KK κ (arrOf st) t') (KK κ (arrOf st) t)->KR κ y x:=fun {t t' x y} h1 h2 h3 a b ha hb=>by
  rw [zil h1 hb,zil h2 ha] at h3
  exact h3
 show wpS _ _ _ _ (if na - k<=k' then zgc ((arrOf st).extract (sa+k) (sa+na)) ((arrOf st).extract (sa+na) (sa+na+k')) >>= _ else zgl ((arrOf st).extract (sa+k) (sa+na)) ((arrOf st).extract (sa+na) (sa+na+k')) >>= _) _ _
 rw [<- hX,<- hY]
 have fin:∀ r u,MD κ X Y st1 r u->MA κ kd o st i sa (na+nb) pw (setArr u ((r.toList.zipIdx).foldl (fun a x=>a.setIfInBounds (sa+k+x.2) x.1) (arrOf u))):=fun r u D=>by
  obtain ⟨L,hp,hw⟩:=D
  have au:arrOf u=arrOf st:=L.ar.trans a1
  have lr:r.toList.length=na - k+k':=by rw [hp.length_eq,List.length_append,Array.length_toList,Array.length_toList,sX,sY]
  have pb:=zlZ (sa+k) r.toList (arrOf st) 0 (by rw [lr];omega)
  rw [Nat.add_zero,lr] at pb
  rw [au]
  obtain ⟨ys,hys⟩:∃ ys,ys=(r.toList.zipIdx).foldl (fun a x=>a.setIfInBounds (sa+k+x.2) x.1) (arrOf st):=⟨_,rfl⟩
  rw [<- hys] at pb ⊢
  have lt:((arrOf st).toList.take (sa+k)).length=sa+k:=by rw [List.length_take,Array.length_toList];omega
  have out1:∀ j,j < sa+k->ys[j]?=(arrOf st)[j]?:=fun j hj=>by
   rw [<- Array.getElem?_toList,pb,List.append_assoc,List.getElem?_append_left (by rw [lt];exact hj),List.getElem?_take_of_lt hj,Array.getElem?_toList]
  have out2:∀ j,sa+na+k'<=j->ys[j]?=(arrOf st)[j]?:=fun j hj=>by
   rw [<- Array.getElem?_toList,pb,List.getElem?_append_right (by rw [List.length_append,lt,lr];omega),List.getElem?_drop,Array.getElem?_toList,List.length_append,lt,lr]
   congr 1
   omega
  have ins:∀ j,sa+k<=j->j < sa+na+k'->ys[j]?=r.toList[j - (sa+k)]?:=fun j h1 h2=>by
   rw [<- Array.getElem?_toList,pb,List.append_assoc,List.getElem?_append_right (by rw [lt];exact h1),lt,List.getElem?_append_left (by rw [lr];omega)]
  have got:∀ j,sa+k<=j->j < sa+na+k'->∃ x,ys[j]?=some x/\r.toList[j - (sa+k)]?=some x/\x ∈ r.toList:=fun j h1 h2=>by
   have hl:j - (sa+k) < r.toList.length:=by rw [lr];omega
   exact ⟨r.toList[j - (sa+k)],(ins j h1 h2).trans (List.getElem?_eq_getElem hl),List.getElem?_eq_getElem hl,List.getElem_mem hl⟩
  refine ⟨?_,L.kn.trans k1,L.fl.trans f1,L.pn.trans n1',fun j hj=>?_,?_⟩
  ·refine Array.Perm.trans ?_ pm
   show ys.Perm (arrOf st)
   rw [Array.perm_iff_toList_perm,pb]
   have cut:X.toList++Y.toList=((arrOf st).toList.drop (sa+k)).take (na - k+k'):=by
    rw [hX,hY,zcj,zcj,show sa+na - (sa+k)=na - k by omega,show sa+na+k' - (sa+na)=k' by omega,List.take_add,List.drop_drop,show sa+k+(na - k)=sa+na by omega]
   have whole:(arrOf st).toList=(arrOf st).toList.take (sa+k)++(((arrOf st).toList.drop (sa+k)).take (na - k+k')++(arrOf st).toList.drop (sa+k+(na - k+k'))):=by
    have e:=List.take_append_drop (na - k+k') ((arrOf st).toList.drop (sa+k))
    rw [List.drop_drop] at e
    rw [e,List.take_append_drop]
   rw [List.append_assoc]
   conv=>rhs;rw [whole]
   refine List.Perm.append_left _ (List.Perm.append_right _ ?_)
   rw [<- cut]
   exact hp
  ·show KK κ ys j=_
   refine KK_congr ?_
   rcases hj with h | h
   ·exact out1 j (by omega)
   ·exact out2 j (by omega)
  ·show Seg κ ys sa (na+nb)
   refine zef (f:=KK κ (arrOf st)) (g:=KK κ ys) (p:=sa+k) (m:=sa+na+k') ga' gb' (by omega) (by omega) (by omega) (by omega) (by omega) (by omega) F1 F2 (fun j hj=>KK_congr ?_) (fun j b1 b2=>?_) (fun i j b1 b2 b3=>?_)
   ·rcases hj with h | h
    ·exact out1 j h
    ·exact out2 j h
   ·obtain ⟨x,e3,_,hm⟩:=got j b1 b2
    rcases List.mem_append.mp (hp.mem_iff.mp hm) with h | h
    ·obtain ⟨t,ht,e4⟩:=mX h
     exact ⟨sa+k+t,by omega,by omega,KK_congr (e3.trans e4.symm)⟩
    ·obtain ⟨t,ht,e4⟩:=mY h
     exact ⟨sa+na+t,by omega,by omega,KK_congr (e3.trans e4.symm)⟩
   ·obtain ⟨x,e3,e4,hm⟩:=got i b1 (by omega)
    obtain ⟨y,e5,e6,hm'⟩:=got j (by omega) b3
    obtain ⟨a,ka⟩:=kXY x (hp.mem_iff.mp hm)
    obtain ⟨b,kb⟩:=kXY y (hp.mem_iff.mp hm')
    rw [zil e3 ka,zil e5 kb]
    rcases Nat.lt_or_eq_of_le b2 with z | z
    ·rw [Array.getElem?_toList] at e4 e6
     exact zlC hw (show i - (sa+k) < j - (sa+k) by omega) e4 e6 a b ka kb
    ·subst z
     rw [e3] at e5
     cases e5
     rw [ka] at kb
     cases kb
     exact KeyOrd.kle_refl _
 have ret:∀ r u,MD κ X Y st1 r u->Q ((failedOf (setArr u ((r.toList.zipIdx).foldl (fun a x=>a.setIfInBounds (sa+k+x.2) x.1) (arrOf u)))).isNone) (setArr u ((r.toList.zipIdx).foldl (fun a x=>a.setIfInBounds (sa+k+x.2) x.1) (arrOf u))):=fun r u D=>by
  have M:=fin r u D
  rw [M.fl]
  exact q _ M
 by_cases c:na - k<=k'
 ·rw [if_pos c]
  refine wpS_bind (zka T k1 kXY pX pY (by omega) (by omega) (fun x y hy hx=>?_) (fun x hx y hy=>?_) fun r u D=>wpS_bind (wpS_modify (wpS_bind (wpS_get (wpS_pure (ret r u D))))))
  ·exact YX (aX hx).2 (aY hy).2 (KeyOrd.kle_of_klt (G1 _ (by omega) (by omega)))
  ·obtain ⟨t,ht,e4⟩:=mY hy
   have h3:=(aX hx).2
   rw [sX,show sa+k+(na - k - 1)=sa+na - 1 by omega] at h3
   exact YX h3 e4 (KeyOrd.kle_of_klt (G2 _ (by omega) (by omega)))
 ·rw [if_neg c]
  refine wpS_bind (zjL T k1 kXY pX pY (by omega) (by omega) (fun y hy x hx=>?_) (fun x y hx hy=>?_) fun r u D=>wpS_bind (wpS_modify (wpS_bind (wpS_get (wpS_pure (ret r u D))))))
  ·obtain ⟨t,ht,e4⟩:=mX hx
   exact YX e4 (aY hy).2 (KeyOrd.kle_of_klt (G1 _ (by omega) (by omega)))
  ·have h3:=(aX hx).2
   rw [sX,show sa+k+(na - k - 1)=sa+na - 1 by omega] at h3
   exact YX h3 (aY hy).2 (KeyOrd.kle_of_klt (G2 _ (by omega) (by have:=(aY hy).1;omega)))
def zdN (κ:KeyKind) (xs:Array Keyed):Nat->List (Nat × Nat × Nat)->Nat->Prop
 | a,[],b=>a=b
 | a,r :: rs,b=>r.1=a/\0 < r.2.1/\Seg κ xs a r.2.1/\zdN κ xs (a+r.2.1) rs b
theorem Seg.same {xs ys:Array Keyed} {lo n:Nat} (h:Seg κ xs lo n) (e:∀ i,lo<=i->i < lo+n->KK κ ys i=KK κ xs i):Seg κ ys lo n:=fun i j h1 h2 h3=>by
 rw [e i h1 (by omega),e j (by omega) h3]
 exact h i j h1 h2 h3
theorem zdN.len {xs:Array Keyed}:∀ {l:List (Nat × Nat × Nat)} {a b:Nat},zdN κ xs a l b->a+l.length<=b
 | [],a,b,h=>by cases h;exact Nat.le_refl _
 | r :: rs,a,b,⟨_,h1,_,h2⟩=>by
   have:=zdN.len h2
   rw [List.length_cons]
   omega
theorem zdN.same {xs ys:Array Keyed}:∀ {l:List (Nat × Nat × Nat)} {a b:Nat},zdN κ xs a l b->(∀ i,a<=i->i < b->KK κ ys i=KK κ xs i)->zdN κ ys a l b
 | [],a,b,h,_=>h
 | r :: rs,a,b,⟨e,h1,h2,h3⟩,k=>by
   have:=h3.len
   exact ⟨e,h1,h2.same fun i b1 b2=>k i b1 (by omega),h3.same fun i b1 b2=>k i (by omega) b2⟩
theorem zdN.snoc {xs:Array Keyed}:∀ {l:List (Nat × Nat × Nat)} {a b:Nat} {n pw:Nat},zdN κ xs a l b->0 < n->Seg κ xs b n->zdN κ xs a (l++[(b,n,pw)]) (b+n)
 | [],a,b,n,pw,h,h1,h2=>by cases h;exact ⟨rfl,h1,h2,rfl⟩
 | r :: rs,a,b,n,pw,⟨e,g1,g2,g3⟩,h1,h2=>⟨e,g1,g2,g3.snoc h1 h2⟩
theorem zdN.power {xs:Array Keyed}:∀ {l:List (Nat × Nat × Nat)} {a b:Nat} {x n pw pw':Nat},zdN κ xs a (l++[(x,n,pw)]) b->zdN κ xs a (l++[(x,n,pw')]) b
 | [],_,_,_,_,_,_,h=>h
 | _ :: _,_,_,_,_,_,_,⟨e,g1,g2,g3⟩=>⟨e,g1,g2,g3.power⟩
theorem zdN.two {xs:Array Keyed}:∀ {l r:List (Nat × Nat × Nat)} {x y:Nat × Nat × Nat} {a b:Nat},zdN κ xs a (l++x :: y :: r) b->a<=x.1/\y.1=x.1+x.2.1/\0 < x.2.1/\0 < y.2.1/\Seg κ xs x.1 x.2.1/\Seg κ xs y.1 y.2.1/\x.1+x.2.1+y.2.1<=b /\
 ∀ ys:Array Keyed,(∀ j,j < x.1\/x.1+(x.2.1+y.2.1)<=j->KK κ ys j=KK κ xs j)->Seg κ ys x.1 (x.2.1+y.2.1)->∀ pw,zdN κ ys a (l++(x.1,x.2.1+y.2.1,pw) :: r) b
 | [],r,(x1,x2,x3),(y1,y2,y3),a,b,⟨e1,g1,g2,e2,g3,g4,g5⟩=>by
   have e1:x1=a:=e1
   subst e1
   have e2:y1=x1+x2:=e2
   subst e2
   have:=g5.len
   exact ⟨Nat.le_refl _,rfl,g1,g3,g2,g4,(by show x1+x2+y2<=b;have:x1+x2+y2+r.length<=b:=this;omega),fun ys h1 h2 pw=>⟨rfl,(by show 0 < x2+y2;exact Nat.lt_of_lt_of_le g1 (Nat.le_add_right _ _)),h2,by
    show zdN κ ys (x1+(x2+y2)) r b
    rw [<- Nat.add_assoc]
    exact g5.same fun i b1 _=>h1 i (.inr (by show x1+(x2+y2)<=i;have:x1+x2+y2<=i:=b1;omega))⟩⟩
 | z :: l,r,x,y,a,b,⟨e,g1,g2,g3⟩=>by
   obtain ⟨q1,q2,q3,q4,q5,q6,q7,q8⟩:=g3.two
   exact ⟨by omega,q2,q3,q4,q5,q6,q7,fun ys h1 h2 pw=>⟨e,g1,g2.same fun i b1 b2=>h1 i (.inl (by omega)),q8 ys h1 h2 pw⟩⟩
theorem znf {p:Array (Nat × Nat × Nat)} {i:Nat} (h:i+2<=p.size):∃ l x y r,p.toList=l++x :: y :: r/\l.length=i/\p[i]?=some x/\p[i+1]?=some y/\∀ v,((p.setIfInBounds i v).eraseIdxIfInBounds (i+1)).toList=l++v :: r:=by
 have hl:i+2<=p.toList.length:=by rw [Array.length_toList];exact h
 have e:p.toList=p.toList.take i++p.toList[i] :: p.toList[i+1] :: p.toList.drop (i+2):=by
  rw [<- List.drop_eq_getElem_cons,<- List.drop_eq_getElem_cons,List.take_append_drop]
 have lt:(p.toList.take i).length=i:=by rw [List.length_take];omega
 refine ⟨p.toList.take i,p.toList[i],p.toList[i+1],p.toList.drop (i+2),e,lt,?_,?_,fun v=>?_⟩
 ·rw [<- Array.getElem?_toList,List.getElem?_eq_getElem]
 ·rw [<- Array.getElem?_toList,List.getElem?_eq_getElem]
 ·have e2:(p.setIfInBounds i v).toList=p.toList.take i++v :: p.toList[i+1] :: p.toList.drop (i+2):=by
   rw [Array.toList_setIfInBounds]
   conv=>lhs;rw [e]
   rw [List.set_append_right _ _ (by rw [lt];exact Nat.le_refl _),lt,Nat.sub_self]
   rfl
  rw [Array.toList_eraseIdxIfInBounds,e2,List.eraseIdx_append_of_length_le (by rw [lt];omega),lt,Nat.add_sub_cancel_left]
  rfl
theorem zna {β:Type} {R:Nat->StateT SortSt Sem β} {P:Nat->SortSt->Prop} {Q:β->SortSt->Prop} {W:Prop} (main:(∀ n u,P n u->wpS (model prog w) A E s (R n) Q u)->W) (key:∀ n u,P n u->wpS (model prog w) A E s (R n) Q u):W:=main key
structure Pn (κ:KeyKind) (kd:SortKind) (o:Array Keyed) (lo:Nat) (st:SortSt):Prop where
 pm:(arrOf st).Perm o
 kn:kindOf st=kd
 fl:failedOf st=none
 cv:zdN κ (arrOf st) 0 (pendingOf st).toList lo
theorem Pn.merge (T:zcd prog w A s κ kd) (h0:KeysOf κ o) {lo i:Nat} (P:Pn κ kd o lo st) (hlo:lo<=o.size) (hi:i+2<=(pendingOf st).size) {Q:Bool->SortSt->Prop}
 (q:∀ u,Pn κ kd o lo u->(pendingOf u).size+1=(pendingOf st).size->(∀ j,lo<=j->KK κ (arrOf u) j=KK κ (arrOf st) j)->Q true u):wpS (model prog w) A E s (mergeAt' i) Q st:=by
 obtain ⟨l,⟨x1,x2,x3⟩,⟨y1,y2,y3⟩,r,e,el,e1,e2,e3⟩:=znf hi
 have c:=P.cv
 rw [e] at c
 obtain ⟨_,q2,q3,q4,q5,q6,q7,q8⟩:=c.two
 have q2:y1=x1+x2:=q2
 subst q2
 have q7:x1+x2+y2<=lo:=q7
 refine zki T h0 P.pm P.kn P.fl e1 e2 q3 q4 (by omega) q5 q6 fun u M=>q u ⟨M.pm,M.kn,M.fl,?_⟩ ?_ fun j hj=>M.ks j (.inr (by omega))
 ·rw [M.pn,e3]
  exact q8 (arrOf u) M.ks M.sg _
 ·rw [M.pn,<- Array.length_toList,e3,<- Array.length_toList,e,List.length_append,List.length_append]
  rfl
theorem zeR {α:Type} (f:α->α):∀ (l:List α) (x:α),(l++[x]).modify l.length f=l++[f x]
 | [],_=>rfl
 | y :: l,x=>by
   rw [List.cons_append,List.length_cons,List.modify_succ_cons,zeR f l x]
   rfl
theorem zoq {p:Array (Nat × Nat × Nat)} (h:0 < p.size) (f:Nat × Nat × Nat->Nat × Nat × Nat):∃ l x,p.toList=l++[x]/\(p.modify (p.size - 1) f).toList=l++[f x]:=by
 have hne:p.toList ≠ []:=fun z=>by rw [<- Array.length_toList,z] at h;exact absurd h (by decide)
 refine ⟨p.toList.dropLast,p.toList.getLast hne,(List.dropLast_concat_getLast hne).symm,?_⟩
 rw [Array.toList_modify]
 have e:=(List.dropLast_concat_getLast hne).symm
 have hl:p.toList.dropLast.length=p.size - 1:=by rw [List.length_dropLast,Array.length_toList]
 conv=>lhs;rw [e]
 rw [<- hl,zeR]
theorem zot {c:Prop} [Decidable c] {a n:Nat} (h:a+2<=n):(if c then a - 1 else a)+2<=n:=by
 split <;> omega
theorem zjK (T:zcd prog w A s κ kd) (h0:KeysOf κ o) (S:zbG kd o st) {Q:Unit->SortSt->Prop} (h2:2<=o.size)
 (q:∀ u,(arrOf u).Perm o->failedOf u=none->SortedToK κ (arrOf u) o.size->Q () u):wpS (model prog w) A E s sortRuns' Q st:=by
 rw [sortRuns'_eq]
 refine wpS_bind (wpS_get ?_)
 simp only [S.sz]
 generalize minRun' o.size o.size 0=mr
 refine wpS_bind (wpS_mono (wpS_forRange
  (I:=fun t c u=>∃ lo,c=(none,lo)/\lo<=o.size/\t<=lo/\Pn κ kd o lo u)
  (Q:=fun c u=>c=(none,o.size)/\Pn κ kd o o.size u) (fun t c u _ ht hI=>?_) (fun c u hI=>?_) ⟨0,rfl,Nat.zero_le _,Nat.le_refl _,S.pm,S.kn,S.fl,by rw [S.pn];exact rfl⟩) fun c u hI=>?_)
 ·obtain ⟨lo,rfl,hlo,htl,P⟩:=hI
  show wpS _ _ _ _ (if lo ≥ o.size then _ else _) _ u
  by_cases ge:lo ≥ o.size
  ·rw [if_pos ge]
   obtain rfl:lo=o.size:=by omega
   exact wpS_pure ⟨rfl,P⟩
  rw [if_neg ge]
  have K:Kp κ kd o u lo u:=⟨P.pm,P.kn,P.fl,rfl,fun _ _=>rfl⟩
  refine wpS_bind (znH T h0 (n:=o.size - lo) (by omega) (by omega) K fun m v Kv m1 m2 sg=>?_)
  apply zna (P:=fun n v=>1<=n/\lo+n<=o.size/\Kp κ kd o u lo v/\Seg κ (arrOf v) lo n)
  ·intro key
   by_cases lt:m < mr
   ·simp only [lt,if_true]
    have f1:m<=min (o.size - lo) mr:=by omega
    have f2:lo+min (o.size - lo) mr<=o.size:=by omega
    refine wpS_bind (wpS_lift (wpAny_rule ⟨rfl,?_⟩))
    show wpS _ _ _ _ (binarySort' lo (min (o.size - lo) mr) m >>= _) _ _
    generalize min (o.size - lo) mr=n at f1 f2 ⊢
    refine wpS_bind (znX T h0 f2 f1 m1 Kv sg fun v' K' up'=>?_)
    simp only [Bool.not_true,Bool.false_eq_true,if_false]
    exact key n v' ⟨by omega,f2,K',up'⟩
   ·simp only [lt,if_false]
    exact key m v ⟨m1,by omega,Kv,sg⟩
  ·rintro n v ⟨n1,n2,Kv,sg⟩
   refine wpS_bind (wpS_get ?_)
   have Pv:Pn κ kd o lo v:=⟨Kv.pm,Kv.kn,Kv.fl,by rw [Kv.pn];exact P.cv.same fun i _ hi=>Kv.ks i hi⟩
   apply zic (P:=fun z=>Pn κ kd o lo z/\Seg κ (arrOf z) lo n)
   ·intro key
    cases hb:(pendingOf v).back? with
    | none=>exact key v ⟨Pv,sg⟩
    | some x =>
      obtain ⟨s1,m1',m2'⟩:=x
      have pos:0 < (pendingOf v).size:=by
       rcases Nat.eq_zero_or_pos (pendingOf v).size with z | z
       ·rw [Array.back?,z] at hb
        rw [Array.getElem?_eq_none (by omega)] at hb
        cases hb
       ·exact z
      dsimp only
      generalize power' o.size (2 * s1+m1') (2 * s1+m1'+m1'+n) o.size=pw
      refine wpS_bind (wpS_mono (wpS_forRange (I:=fun t c z=>c=(none,())/\Pn κ kd o lo z/\0 < (pendingOf z).size/\∀ j,lo<=j->KK κ (arrOf z) j=KK κ (arrOf v) j) (Q:=fun c z=>c=(none,())/\Pn κ kd o lo z/\0 < (pendingOf z).size/\∀ j,lo<=j->KK κ (arrOf z) j=KK κ (arrOf v) j)
       (fun t c z _ _ hJ=>?_) (fun c z hJ=>hJ) ⟨rfl,Pv,pos,fun _ _=>rfl⟩) fun c z hJ=>?_)
      ·obtain ⟨rfl,Pz,hz,kz⟩:=hJ
       refine wpS_bind (wpS_get ?_)
       by_cases two:(pendingOf z).size > 1
       ·obtain ⟨l,⟨x1,x2,x3⟩,y,r,e,el,e1,e2,e3⟩:=znf (p:=pendingOf z) (i:=(pendingOf z).size - 2) (by omega)
        rw [if_pos two,e1]
        show wpS _ _ _ _ (if x3<=pw then _ else _) _ _
        by_cases le:x3<=pw
        ·rw [if_pos le]
         exact wpS_pure ⟨rfl,Pz,hz,kz⟩
        ·rw [if_neg le]
         refine wpS_bind (Pz.merge T h0 hlo (by omega) fun z' P' e' k'=>?_)
         simp only [Bool.not_true,Bool.false_eq_true,if_false]
         exact wpS_pure ⟨rfl,P',by omega,fun j hj=>(k' j hj).trans (kz j hj)⟩
       ·rw [if_neg two]
        exact wpS_pure ⟨rfl,Pz,hz,kz⟩
      ·obtain ⟨rfl,Pz,hz,kz⟩:=hJ
       refine wpS_bind (wpS_modify (key _ ⟨⟨Pz.pm,Pz.kn,Pz.fl,?_⟩,sg.same fun i b1 b2=>kz i b1⟩))
       obtain ⟨l,⟨x1,x2,x3⟩,e,e'⟩:=zoq hz fun x=>(x.1,x.2.1,pw)
       have c:=Pz.cv
       rw [e] at c
       show zdN κ (arrOf z) 0 ((pendingOf z).modify ((pendingOf z).size - 1) fun x=>(x.1,x.2.1,pw)).toList lo
       rw [e']
       exact c.power
   ·rintro z ⟨Pz,sgz⟩
    refine wpS_bind (wpS_modify (wpS_pure ⟨lo+n,rfl,n2,by omega,Pz.pm,Pz.kn,Pz.fl,?_⟩))
    show zdN κ (arrOf z) 0 ((pendingOf z).push (lo,n,0)).toList (lo+n)
    rw [Array.toList_push]
    exact Pz.cv.snoc n1 sgz
 ·obtain ⟨lo,rfl,hlo,htl,P⟩:=hI
  have e:max 0 o.size=o.size:=by omega
  rw [e] at htl
  obtain rfl:lo=o.size:=by omega
  exact ⟨rfl,P⟩
 ·obtain ⟨rfl,P⟩:=hI
  have hz:(pendingOf u).size<=o.size:=by
   have:=P.cv.len
   rw [Array.length_toList] at this
   omega
  refine wpS_bind (wpS_mono (wpS_forRange (I:=fun t c z=>c=(none,())/\Pn κ kd o o.size z/\((pendingOf z).size<=1\/(pendingOf z).size+t<=o.size)) (Q:=fun c z=>c=(none,())/\Pn κ kd o o.size z/\(pendingOf z).size<=1) (fun t c z _ ht hJ=>?_) (fun c z hJ=>?_) ⟨rfl,P,.inr (by omega)⟩) fun c z hJ=>?_)
  ·obtain ⟨rfl,P',hs⟩:=hJ
   refine wpS_bind (wpS_get ?_)
   by_cases one:(pendingOf z).size<=1
   ·rw [if_pos one]
    exact wpS_pure ⟨rfl,P',one⟩
   rw [if_neg one]
   have go:∀ i,i+2<=(pendingOf z).size->∀ {f:Bool->StateT SortSt Sem (ForInStep (Option Unit × Unit))} {R:ForInStep (Option Unit × Unit)->SortSt->Prop},(∀ v,Pn κ kd o o.size v->(pendingOf v).size+1=(pendingOf z).size->wpS (model prog w) A E s (f true) R v)->wpS (model prog w) A E s (mergeAt' i >>= f) R z:=fun i hi f R h=>wpS_bind (P'.merge T h0 (Nat.le_refl _) hi fun v Pv ev _=>h v Pv ev)
   refine go _ ?_ fun v Pv ev=>?_
   ·exact zot (by omega)
   ·simp only [Bool.not_true,Bool.false_eq_true,if_false]
    exact wpS_pure ⟨rfl,Pv,by omega⟩
  ·obtain ⟨rfl,P',hs⟩:=hJ
   have e:max 0 o.size=o.size:=by omega
   rw [e] at hs
   exact ⟨rfl,P',by omega⟩
  ·obtain ⟨rfl,P',one⟩:=hJ
   refine wpS_pure (q z P'.pm P'.fl fun i j hij hj=>?_)
   have c:=P'.cv
   have hl:(pendingOf z).toList.length<=1:=by rw [Array.length_toList];exact one
   revert c hl
   cases (pendingOf z).toList with
   | nil =>
     intro c _
     have:0=o.size:=c
     omega
   | cons x r =>
     cases r with
     | nil =>
       intro c _
       obtain ⟨_,_,g,e⟩:=c
       have e:0+x.2.1=o.size:=e
       exact g i j (Nat.zero_le _) hij (by omega)
     | cons y r=>intro _ hl;simp at hl
end
end Sr
namespace Sr
open PySem PyProof.Rows
section
variable {prog:Program} {w:World} {A:Around} {E:Value->Shared->Prop} {s:Shared}
end
end Sr
namespace L2
open PySem PySem.Spec PyProof.Rows
section
variable {X:Cx}
end
end L2
namespace Sr
open PySem PyProof.Rows
section
variable {prog:Program} {w:World} {A:Around} {E:Value->Shared->Prop} {s:Shared}
end
end Sr
namespace L2
open PySem PySem.Spec PyProof.Rows
section
variable {X:Cx}
end
section
variable {s:Shared}
end
section
variable {X:Cx} {k:Nat} {f:Addr} {fd:FuncData} {ps:List Str} {sp:Sp}
end
section
variable {X:Cx} (K:PySem.W.Frag) (hK:X.K=K)
include hK
end
section
variable {X:Cx} (K:PySem.W.Frag) (hK:X.K=K)
include hK
end
end L2
namespace Hd
open PySem PySem.W PyProof.Rows L2
noncomputable section
abbrev qr (n:Nat):Value:=.ref n
abbrev qi (n:Nat):Value:=.int (Int.ofNat n) 0
abbrev qs (x:String) (t:Nat):Value:=.str (Str.ofString x) t
abbrev qt (x:String):Value:=.type x
abbrev qb (x:String):Value:=.builtin x
abbrev qe (P:Params) (x:String) (t:Nat) (v:Value):DictEntry:=⟨PyData.keyHash P (Str.ofString x),.str (Str.ofString x) t,v⟩
abbrev qF (x y:String) (st:Stmt) (dV kV doc pm:Value) (an:Option Addr) (cd ct:Value):Data:=.func (fnOf (Str.ofString x) (Str.ofString y) (zaj st) (zak st) (zab st) dV kV doc pm an cd ct)
abbrev qG (g b:Addr) (x y:String) (st:Stmt) (dV kV doc pm:Value) (an:Option Addr) (cd ct:Value):Data:=.func { name:=Str.ofString x,qualname:=Str.ofString y,params:=zaj st,body:=.stmts (zak st),scope:=zab st,globals:=g,closure:=[],defaults:=dV,kwdefaults:=kV,doc,pyModule:=pm,annotations:=an,code:=cd,closureTuple:=ct,builtins:=b }
abbrev qT (l:List Value):Obj:=⟨.type "tuple",.none,.seq l.toArray 0,#[]⟩
abbrev qN (l:List Value):Obj:=⟨.none,.none,.fields l.toArray,#[]⟩
abbrev qf (x y:String) (st:Stmt) (pm cd:Value):Obj:=⟨.type "function",.none,qF x y st .none .none .none pm .none cd .none,#[]⟩
abbrev qg (x y:String) (st:Stmt):Obj:=⟨.none,.none,qG 0 0 x y st .none .none .none .none .none .none .none,#[]⟩
abbrev qC (x y:String) (t l a b d f r1:Nat) (g:Bool) (r2:Nat) (v1 v2 v3 v4:Value) (k t3:Nat):Obj:=⟨.type "code",.none,.fields #[qs x t,qs y (t+1),qs "/claim/cut.py" (t+2),qi l,qi a,qi b,qi d,qi f,qr r1,.bool g,qi 181,qr r2,v1,v2,v3,v4,qi k,qi l,qs "/claim/cut.py" t3],#[]⟩
structure HD where
 N:Nat
 n1:Nat
 n2:Nat
 n3:Nat
 n4:Nat
 d1:Drawn
 k1:Nat
 d2:Drawn
 k2:Nat
 d3:Drawn
 k3:Nat
 many:Nat
 few:Nat
 fp:Pos
 p1:Pos
 p2:Pos
 p3:Pos
 cd:Value
 fr:Nat
 ann:Option Value
def alt:List Obj->List Obj × List Obj
 | []=>([],[])
 | a :: l=>let r:=alt l;(a :: r.2,r.1)
def tree:Nat->List Obj->BT
 | 0,_=>.nil
 | n+1,l=>match l with
   | []=>.nil
   | a :: l=>let r:=alt l;.node a (tree n r.1) (tree n r.2)
abbrev envH (p:Program) (D:HD):Env:={ scope:=p.main.scope,locals:=mainNs,globals:=mainNs,cells:=[],code:=D.cd,frame:=some D.fr }
abbrev zea (p:Program) (D:HD):Code:=.body (behindTheImports p) (envH p D)
abbrev S0 (w:World) (os:OsState):Shared:=⟨boot_heap w.params,Array.mk [],boot_drawn,boot_toks,os⟩
abbrev SA (D:HD) (L:Life) (A:Params->List Obj) (w:World) (os:OsState):Shared:=⟨⟨⟨A w.params⟩,L⟩,Array.mk [],D.d1,D.k1,os⟩
abbrev SB (D:HD) (L:Life) (A:Params->List Obj) (w:World) (os:OsState):SharedT:=⟨tree 12 (A w.params),D.few,L,Array.mk [],D.d2,D.k2,os⟩
abbrev SC (D:HD) (L:Life) (O:Params->List Obj) (w:World) (os:OsState):SharedT:=⟨tree 12 (O w.params),D.many,L,Array.mk [],D.d3,D.k3,os⟩
abbrev SF (D:HD) (L:Life) (O:Params->List Obj) (w:World) (os:OsState):Shared:=⟨⟨⟨O w.params⟩,L⟩,Array.mk [],D.d3,D.k3,os⟩
abbrev tbF:=PySem.W.Fast.tw14364793385576792824
abbrev Pre (p:Program) (D:HD) (L:Life) (A:Params->List Obj):Prop:=∀ (w:World) (os:OsState),PySem.W.Fast.tw15667345088766844465 tbF p w 11 D.ann D.n1 (S0 w os) (topStub p) =
 some (SA D L A w os,⟨PySem.W.Fast.tw11892475500146522536 tbF (zea p D),zea p D,D.p1,[topFrame D.fp]⟩)
abbrev Blk (p:Program) (D:HD) (L:Life) (A:Params->List Obj):Prop:=∀ (w:World) (os:OsState),PySem.W.Fast.tw14374325043358763698 tbF p w 11 D.ann 1 (D.n2+1) (SA D L A w os) (blockOf (behindTheImports p) (envH p D) (zea p D) D.p1 [topFrame D.fp]) =
 some (.next,(SB D L A w os).abs,zea p D,D.p2)
abbrev Go (p:Program) (D:HD) (L:Life) (A O:Params->List Obj):Prop:=∀ (w:World) (os:OsState),PySem.W.Fast.tw10110043849684766642 tbF p w 11 D.ann 1 (D.n3+1) (SB D L A w os) (piecesOf (behindTheImports p) (envH p D) (zea p D) D.p2 [topFrame D.fp]) =
 some (.next,SC D L O w os,zea p D,D.p3)
abbrev Fin (p:Program) (D:HD) (L:Life) (O:Params->List Obj):Prop:=∀ (w:World) (os:OsState),PySem.W.Fast.tw14082659384304107361 tbF p w 11 D.ann (D.n4+1) (SC D L O w os).abs ⟨doneF .next,zea p D,D.p3,[topFrame D.fp]⟩=some (SF D L O w os)
theorem zmu:treeTable=tbF:=PySem.W.Fast.te14364793385576792824
theorem zkZ {p:Program} {D:HD} {L:Life} {A O:Params->List Obj} (h1:Pre p D L A) (h2:Blk p D L A) (h3:Go p D L A O) (h4:Fin p D L O) (w:World) (os:OsState) :
 topRun treeTable p w 11 D.ann (D.n1+((D.n2+1)+((D.n3+1)+(D.n4+1)))) (S0 w os) (topStub p)=some (SF D L O w os):=by
 have e1:topGo treeTable p w 11 D.ann D.n1 (S0 w os) (topStub p)=some (SA D L A w os,⟨denote treeTable (zea p D),zea p D,D.p1,[topFrame D.fp]⟩):=by
  rw [PySem.W.Fast.te15667345088766844465,PySem.W.Fast.te11892475500146522536,zmu];exact h1 w os
 have e2:segRun treeTable p w 11 D.ann 1 (D.n2+1) (SA D L A w os) (blockOf (behindTheImports p) (envH p D) (zea p D) D.p1 [topFrame D.fp])=some (.next,(SB D L A w os).abs,zea p D,D.p2):=by
  rw [PySem.W.Fast.te14374325043358763698,zmu];exact h2 w os
 have e3:segRunT treeTable p w 11 D.ann 1 (D.n3+1) (SB D L A w os) (piecesOf (behindTheImports p) (envH p D) (zea p D) D.p2 [topFrame D.fp])=some (.next,SC D L O w os,zea p D,D.p3):=by
  rw [PySem.W.Fast.te10110043849684766642,zmu];exact h3 w os
 have e4:topRun treeTable p w 11 D.ann (D.n4+1) (SC D L O w os).abs ⟨doneF .next,zea p D,D.p3,[topFrame D.fp]⟩=some (SF D L O w os):=by
  rw [PySem.W.Fast.te14082659384304107361,zmu];exact h4 w os
 refine go_top e1 (piece_block e2 ?_)
 have:=piece_app (rest:=[]) (segRun_of e3) (piece_nil (env:=envH p D) e4)
 rw [List.append_nil] at this
 exact this
abbrev HF (L:Life) (O:Params->List Obj) (w:World):Heap:=⟨⟨O w.params⟩,L⟩
abbrev imF:=PySem.W.Fast.tw5923862056798008813
theorem zuV:importedModules=imF:=PySem.W.Fast.te5923862056798008813
abbrev Lk1 (p:Program) (D:HD) (L:Life) (O:Params->List Obj):Prop:=∀ (w:World) (os:OsState),
 (staticsOk (imF p.main.body) (boot_heap w.params) (HF L O w) && namesBound p (HF L O w) && gensDone (SF D L O w os) && laidKept (boot_heap w.params) (HF L O w))=true
abbrev Lk2 (p q:Program) (D:HD) (L:Life) (O:Params->List Obj) (Xt:Shared->Bool):Prop:=∀ (w:World) (os:OsState),
 PySem.W.Fast.tw4187177175401517315 q [] (imF p.main.body) Xt true (SF D L O w os)=openGood q []
abbrev Lk3 (D:HD) (L:Life) (O:Params->List Obj) (K:Params->Frag) (as:List Addr):Prop:=∀ (w:World) (os:OsState),
 as.map (SF D L O w os).heap.get?=(K w.params).map fun x=>some x.2
theorem zlb (w:World) (D:HD) (ha:D.ann=some (.ref 6)):((boot_heap w.params).isNs mainGlobals && (Array.mk []:Array GenState).size == 0,(boot_heap w.params).objs.size,(boot_heap w.params).nsMap mainGlobals "__annotations__")=(true,11,D.ann):=by
 rw [ha];kernel_rfl
theorem zof {p q:Program} {D:HD} {L:Life} {A O:Params->List Obj} {Xt:Shared->Bool} {K:Params->Frag} {as:List Addr} {N:Nat} {e:∀ P,as=(K P).map (·.1)}
 (h0:opening p=plainProg p.main.scope.names) (h0':∀ s,fenceModules? p s=some s) (h6:Nat.ble 600 N=true) (ha:D.ann=some (.ref 6)) (hn:Nat.ble (D.n1+((D.n2+1)+((D.n3+1)+(D.n4+1)))) N=true)
 (h1:Pre p D L A) (h2:Blk p D L A) (h3:Go p D L A O) (h4:Fin p D L O) (l1:Lk1 p D L O) (l2:Lk2 p q D L O Xt) (l3:Lk3 D L O K as) :
 LeftO p q [] Xt (Hook.obs (kHook K as e)) (Hook.val (kHook K as e)) N :=
 LeftO.of_pieces (H₀:=boot_heap) (H₁:=fun P=>⟨⟨O P⟩,L⟩) (gs₀:=Array.mk []) (gs₁:=Array.mk []) (d₁:=D.d3) (k₁:=D.k3) (m₀:=11) (ann:=D.ann) (boot_open h0 h6 h0') (fun w=>zlb w D ha) (zkZ h1 h2 h3 h4) hn fun w=>funext fun os=>by
  have a1:=l1 w os
  have a2:=l2 w os
  rw [<- zuV] at a1 a2
  rw [<- PySem.W.Fast.te4187177175401517315] at a2
  exact looks_pair a1 (looks_pair a2 (l3 w os))
abbrev zro:=PySem.W.Fast.tw9446332074065402090
abbrev zqm (s:Stmt):Pos:=match s with
 | .FunctionDef _ _ _ _ _ _ _ _ _ p=>p
 | _=>⟨0,0,0,0⟩
abbrev znN (x:String) (s:Stmt):DefRec:=⟨Str.ofString x,zaj s,zak s,zab s,zqm s⟩
abbrev XtH (l:OpenLaw) (q:Program):Shared->Bool:=fun s=>xlAt q [] s && recOk (RowW.records l.row.toRowW) s
theorem holds {l:OpenLaw} {q:Program} {K:Params->Frag} {as:List Addr} {e:∀ P,as=(K P).map (·.1)} {N:Nat} {x:String} {st:Stmt} (said:zro l=true)
 (left:LeftO l.row.prog q [] (XtH l q) (Hook.obs (kHook K as e)) (Hook.val (kHook K as e)) N) (hdef:defOf q l.row.name=some (znN x st,[]))
 (hp:l.row.prog.theDef l.row.name=some (zaj st,zak st,zab st)) (hk:kwWritten? (zaj st).kwonlyargs (zaj st).kw_defaults=some []) (hwr:(!l.row.writes || l.row.records.isEmpty)=true)
 (ok:(chainsOk q && opensWell l.row.prog && (frees l.row.toRowW && l.row.within.isEmpty))=true) (hb:l.row.prog.bare) (hw:l.row.toRowW.promised)
 (call:WalkO q [] (XL q []) (Hook.says (kHook K as e)) l.row.toRowW (znN x st) [] fun f vs=>PySem.call f vs):l.Holds :=
 have said:l.wellSaid=true:=(congrFun PySem.W.Fast.te9446332074065402090 l).trans said
 holds_law said fun rs=>holds_open (d:=znN x st) (kwd:=[]) left (Hook.of _) (Hook.keeps _) (fun s z=>xl_of s (Bool.and_eq_true_iff.mp z).1) XL.keeps hdef hp hk (fun s z=>recFacts_of (Bool.and_eq_true_iff.mp z).2) hwr rs ok hb hw call
end
end Hd
namespace L2
open PySem PySem.Spec PyProof.Rows
section
variable {X:Cx}
end
end L2
namespace Mc
open PySem L2
abbrev ky (x:String):Key:=Sum.inr (Str.ofString x)
def nowK (c:Cf) (A:Adr) (m:Ms):List (Key × V):=[(ky "lanes",.ref A.L),(ky "row",.str c.keys),(ky "next",.int (m.at_:Int)),(ky "line",.ref A.l),(ky "inside",.ref A.h),(ky "left",.int m.togo),(ky "casting",.int c.cast),(ky "bar",.ref A.b),(ky "slugs",.ref A.t),(ky "waits",.int m.waits),(ky "done",.int m.done)]
structure Now (c:Cf) (H:Hp) (d:Addr) (A:Adr) (m:Ms):Prop where
 dic:H d=some (.dK (nowK c A m))
 nd:A.all.Nodup
 li:Lists c H A m
theorem Now.get {c:Cf} {H:Hp} {d:Addr} {A:Adr} {m:Ms} {k:Key} {v:V} (h:Now c H d A m) (e:valV (nowK c A m) k=some v):DGet H d (kV k) (some v):=by
 have:=DGet.k (k:=k) h.dic
 rw [e] at this
 exact this
theorem Now.same {c:Cf} {H H':Hp} {d:Addr} {A:Adr} {m:Ms} (h:Now c H d A m) (s:Same H H'):Now c H' d A m:=⟨s _ _ h.dic,h.nd,h.li.keep (Keep.of_same (S:=fun _=>True) s) fun _ _=>trivial⟩
theorem Now.apart {c:Cf} {H H':Hp} {d q:Addr} {A B B':Adr} {m:Ms} (h:Now c H d A m) (s:Step q B H B' H') (hq:d ≠ q) (hB:d ∉ B.all) (hA:∀ a ∈ A.all,a ≠ q/\a ∉ B.all):Now c H' d A m :=
 ⟨s.fr _ _ h.dic (.inl ⟨hq,hB⟩),h.nd,h.li.keep (S:=fun b=>b ≠ q/\b ∉ B.all) (fun b o hb hs=>s.fr b o hb hs) hA⟩
theorem zkv {H:Hp} {d a:Addr} {kvs:List (Key × V)} {ys:List V} {o:HO} (h:H d=some (.dK kvs)) (ha:H a=some (.lst ys)):upd H a o d=some (.dK kvs):=by
 rw [zai (zcq h ha fun z=>by cases z)]
 exact h
theorem Now.setLane {c:Cf} {H:Hp} {p q:Addr} {A:Adr} {m:Ms} {k:Nat} {ys xs:List V} {l:List Mx} (h:Now c H p A m) (hq:A.ls[k]?=some q) (hy:H q=some (.lst ys)) (hx:Paired (Lan.zbd H) xs l) :
 Now c (upd H q (.lst xs)) p A { m with lanes:=m.lanes.set k l }:=by
 have d:=zhv h.nd
 have kp:Keep (fun b=>b ≠ q) H (upd H q (.lst xs)):=Keep.lst hy
 obtain ⟨n1,n2,n3,n4,n5,n6⟩:=d.ls q (List.mem_of_getElem? hq)
 obtain ⟨zs,e1,e2⟩:=h.li.rows
 exact ⟨zkv h.dic hy,h.nd,⟨⟨zs,kp _ _ e1 (.inl n2.symm),zbM kp e2⟩,kp _ _ h.li.lan (.inl n1.symm),zhW kp ⟨xs,upd_same,zbN kp hx⟩ k h.li.lns d.nd hq,h.li.lin.keep kp n3.symm,h.li.het.keep kp n4.symm,h.li.bar.keep kp n5.symm,kp _ _ h.li.txt (.inl n6.symm)⟩⟩
theorem Now.lane {c:Cf} {H:Hp} {p:Addr} {A:Adr} {m:Ms} {k:Nat} (h:Now c H p A m) (O:Ok c m) (hk:k < c.rs.length):∃ q l,A.ls[k]?=some q/\m.lanes[k]?=some l/\LnAt H q l/\atI (A.ls.map V.ref) (k:Int)=some (.ref q):=by
 have hl:k < m.lanes.length:=by rw [O.ln];exact hk
 obtain ⟨q,hq,hln⟩:=Cs.zeh h.li.lns (List.getElem?_eq_getElem hl)
 exact ⟨q,_,hq,List.getElem?_eq_getElem hl,hln,zbw (by rw [List.getElem?_map,hq];rfl)⟩
theorem Now.new {c:Cf} {H:Hp} {p:Addr} {A:Adr} {m:Ms} {e:Addr} (h:Now c H p A m) (he:H e=none):e ∉ A.all:=fun z=>by
 obtain ⟨xs,ex⟩:=h.li.is e z
 rw [he] at ex
 cases ex
end Mc
namespace L2
open PySem PySem.Spec PyProof.Rows
end L2
namespace Mc
open PySem L2
theorem Now.aside {c:Cf} {H:Hp} {d X:Addr} {A:Adr} {m:Ms} {ys:List V} {o:HO} (h:Now c H d A m) (hx:H X=some (.lst ys)) (n:X ∉ A.all):Now c (upd H X o) d A m :=
 ⟨zkv h.dic hx,h.nd,h.li.keep (Keep.lst hx) fun a ha e=>n (by rw [<- e];exact ha)⟩
theorem Step.listN {c:Cf} {H H':Hp} {d X:Addr} {A A':Adr} {m:Ms} {ys:List V} (s:Step d A H A' H') (N:Now c H d A m) (h:H X=some (.lst ys)) (n:X ∉ A.all):H' X=some (.lst ys)/\X ∉ A'.all:=by
 refine ⟨s.fr X _ h (.inl ⟨zcq h N.dic (fun z=>by cases z),n⟩),fun z=>?_⟩
 rcases s.nw X z with z | z
 ·exact n z
 ·rw [h] at z
  cases z
structure NwAt (c:Cf) (H0 H:Hp) (d n q:Addr) (B:Adr) (m:Ms) (ps:List (Int × Int)):Prop where
 now:Now c H d B m
 sm:Same H0 H
 new:∀ b ∈ B.all,H0 b=none
 dn:H0 d=none
 nn:H0 n=none
 qn:H0 q=none
 nq:n ≠ q
 na:n ∉ B.all
 qa:q ∉ B.all
 hn:H n=some (.lst ((ps.map fun x=>x.1).map V.int))
 hq:H q=some (.lst ((ps.map fun x=>x.2).map V.int))
theorem NwAt.same {c:Cf} {H0 H H':Hp} {d n q:Addr} {B:Adr} {m:Ms} {ps:List (Int × Int)} (h:NwAt c H0 H d n q B m ps) (s:Same H H'):NwAt c H0 H' d n q B m ps :=
 ⟨h.now.same s,h.sm.trans s,h.new,h.dn,h.nn,h.qn,h.nq,h.na,h.qa,s _ _ h.hn,s _ _ h.hq⟩
theorem NwAt.step {c:Cf} {H0 H H':Hp} {d n q:Addr} {B B':Adr} {m m':Ms} {ps:List (Int × Int)} (h:NwAt c H0 H d n q B m ps) (s:Step d B H B' H') (N:Now c H' d B' m'):NwAt c H0 H' d n q B' m' ps:=by
 obtain ⟨s1,s2⟩:=s.same h.sm h.dn h.new
 obtain ⟨n1,n2⟩:=s.listN h.now h.hn h.na
 obtain ⟨q1,q2⟩:=s.listN h.now h.hq h.qa
 exact ⟨N,s1,s2,h.dn,h.nn,h.qn,h.nq,n2,q2,n1,q1⟩
theorem NwAt.setN {c:Cf} {H0 H:Hp} {d n q:Addr} {B:Adr} {m:Ms} {ps:List (Int × Int)} {vs:List V} (h:NwAt c H0 H d n q B m ps) :
 Now c (upd H n (.lst vs)) d B m/\Same H0 (upd H n (.lst vs))/\upd H n (.lst vs) q=some (.lst ((ps.map fun x=>x.2).map V.int)) :=
 ⟨h.now.aside h.hn h.na,zax h.sm h.nn,by rw [zai h.nq.symm];exact h.hq⟩
theorem NwAt.set {c:Cf} {H0 H H1:Hp} {d n q:Addr} {B:Adr} {m:Ms} {ps qs:List (Int × Int)} (h:NwAt c H0 H d n q B m ps) (s:Same (upd H n (.lst ((qs.map fun x=>x.1).map V.int))) H1) :
 NwAt c H0 (upd H1 q (.lst ((qs.map fun x=>x.2).map V.int))) d n q B m qs:=by
 obtain ⟨a1,a2,a3⟩:=h.setN (vs:=(qs.map fun x=>x.1).map V.int)
 have hq1:=s _ _ a3
 exact ⟨(a1.same s).aside hq1 h.qa,zax (a2.trans s) h.qn,h.new,h.dn,h.nn,h.qn,h.nq,h.na,h.qa,by rw [zai h.nq];exact s _ _ upd_same,upd_same⟩
end Mc
namespace Sr
open PySem PyProof.Rows
def matV:List Value->Option (List Nat × Int)
 | [.str x _,.int n _]=>some (x.cps.toList,n)
 | _=>none
theorem zol:∀ {vs:List Value} {a:List Nat × Int},matV vs=some a->∃ x t n u,vs=[.str x t,.int n u]/\a=(x.cps.toList,n)
 | [.str x t,.int n u],a,h=>⟨x,t,n,u,rfl,(Option.some.inj h).symm⟩
def matK (h:Heap):Value->Option (List Nat × Int)
 | .ref a=>match h.get? a with
   | some o=>match o.data with
     | .seq its _=>matV its.toList
     | _=>none
   | none=>none
 | _=>none
theorem zlh {h:Heap} {v:Value} {k:List Nat × Int} (e:matK h v=some k):∃ a o n x t m u,v=.ref a/\h.get? a=some o/\o.data=.seq #[.str x t,.int m u] n/\k=(x.cps.toList,m):=by
 cases v with
 | ref a =>
   unfold matK at e
   cases e1:h.get? a with
   | none=>simp only [e1] at e;cases e
   | some o =>
     simp only [e1] at e
     cases d:o.data with
     | seq its n =>
       simp only [d] at e
       obtain ⟨x,t,m,u,e2,e3⟩:=zol e
       have e4:its=#[.str x t,.int m u]:=Array.toList_inj.mp e2
       subst e4
       exact ⟨a,o,n,x,t,m,u,rfl,e1,d,e3⟩
     | _=>simp only [d] at e;cases e
 | _=>cases e
def mlt (a b:List Nat × Int):Bool:=if a.1=b.1 then decide (a.2 < b.2) else decide (a.1 < b.1)
theorem zjQ (a:List Nat × Int):mlt a a=false:=by
 unfold mlt
 rw [if_pos rfl]
 exact decide_eq_false (Int.lt_irrefl _)
theorem zfe (a b:List Nat × Int) (h1:mlt a b=false) (h2:mlt b a=false):a=b:=by
 unfold mlt at h1 h2
 by_cases e:a.1=b.1
 ·rw [if_pos e] at h1
  rw [if_pos e.symm] at h2
  have l1:=of_decide_eq_false h1
  have l2:=of_decide_eq_false h2
  exact Prod.ext e (by omega)
 ·rw [if_neg e] at h1
  rw [if_neg (Ne.symm e)] at h2
  exact absurd (List.le_antisymm (List.not_lt.mp (of_decide_eq_false h2)) (List.not_lt.mp (of_decide_eq_false h1))) e
theorem zhd (a b c:List Nat × Int) (h1:mlt a b=true) (h2:mlt b c=true):mlt a c=true:=by
 unfold mlt at h1 h2 ⊢
 by_cases e1:a.1=b.1
 ·rw [if_pos e1] at h1
  have l1:=of_decide_eq_true h1
  by_cases e2:b.1=c.1
  ·rw [if_pos e2] at h2
   have l2:=of_decide_eq_true h2
   rw [if_pos (e1.trans e2)]
   exact decide_eq_true (by omega)
  ·rw [if_neg e2] at h2
   rw [if_neg (fun z=>e2 (e1.symm.trans z)),e1]
   exact h2
 ·rw [if_neg e1] at h1
  have l1:=of_decide_eq_true h1
  by_cases e2:b.1=c.1
  ·rw [if_neg (fun z=>e1 (z.trans e2.symm)),<- e2]
   exact decide_eq_true l1
  ·rw [if_neg e2] at h2
   have l2:=of_decide_eq_true h2
   have l3:=List.lt_trans l1 l2
   rw [if_neg (fun z=>List.lt_irrefl _ (z ▸ l3))]
   exact decide_eq_true l3
theorem znP (a b c:List Nat × Int) (h:mlt a c=true):mlt a b=true\/mlt b c=true:=by
 cases e1:mlt a b with
 | true=>exact .inl rfl
 | false =>
   cases e2:mlt b c with
   | true=>exact .inr rfl
   | false =>
     exfalso
     cases e3:mlt b a with
     | true =>
       have:=zhd b a c e3 h
       rw [e2] at this
       cases this
     | false =>
       rw [zfe a b e1 e3,e2] at h
       cases h
def kM (h:Heap):KeyKind where
 α:=List Nat × Int
 blt:=mlt
 irrefl:=zjQ
 trans:=zhd
 negTrans:=znP
 total:=zfe
 keyOf:=matK h
 dflt:=([],0)
section
variable {prog:Program} {w:World} {A:Around} {E:Value->Shared->Prop} {s:Shared}
theorem znv {a b:Str} (h:a.cps.toList=b.cps.toList):a=b:=by
 cases a
 cases b
 exact congrArg Str.mk (Array.toList_inj.mp h)
theorem zlf:zcd prog w A s (kM s.heap) (tuples' true):=by
 intro E x y a b Q kx ky q
 obtain ⟨ax,ox,nx,x1,t1,m1,u1,rfl,ex,dx,rfl⟩:=zlh (show matK s.heap x=some a from kx)
 obtain ⟨ay,oy,ny,x2,t2,m2,u2,rfl,ey,dy,rfl⟩:=zlh (show matK s.heap y=some b from ky)
 have q:Q (mlt (x1.cps.toList,m1) (x2.cps.toList,m2)) s:=q
 unfold mlt at q
 rw [zhk]
 refine wpAny_bind (listItems_at ex dx (wpAny_bind (listItems_at ey dy ?_)))
 refine wpAny_bind (wpAny_mono (wpAny_forIn_list _ (fun rest (c:Option Bool × PUnit) u=>c.1=none/\u=s/\(rest=[((Value.str x1 t1,Value.str x2 t2),0),((Value.int m1 u1,Value.int m2 u2),1)]\/(rest=[((Value.int m1 u1,Value.int m2 u2),1)]/\x1=x2)\/(rest=[]/\x1=x2/\m1=m2)))
  (fun (c:Option Bool × PUnit) u=>u=s/\(c.1=some (if x1.cps.toList=x2.cps.toList then decide (m1 < m2) else decide (x1.cps.toList < x2.cps.toList))\/(c.1=none/\x1=x2/\m1=m2))) ?_ ?_ _ _ ⟨rfl,rfl,.inl rfl⟩) ?_ fun _ _ z=>z)
 ·rintro ⟨⟨p,p'⟩,i⟩ rest c u ⟨hc,rfl,h | ⟨h,e⟩ | ⟨h,_⟩⟩
  ·cases h
   refine wpAny_bind (SeqAt.EqAt.str_str x1 t1 x2 t2 prog w E _ ?_)
   by_cases e:x1=x2
   ·subst e
    rw [beq_self_eq_true]
    exact wpAny_pure ⟨rfl,rfl,.inr (.inl ⟨rfl,rfl⟩)⟩
   ·rw [beq_eq_false_iff_ne.mpr e]
    refine wpAny_bind (oneLt_str (wpAny_pure ⟨rfl,.inl ?_⟩))
    rw [if_neg (fun z=>e (znv z))]
  ·cases h
   subst e
   refine wpAny_bind (SeqAt.EqAt.int_int m1 u1 m2 u2 prog w E _ ?_)
   by_cases e2:m1=m2
   ·subst e2
    rw [beq_self_eq_true]
    exact wpAny_pure ⟨rfl,rfl,.inr (.inr ⟨rfl,rfl,rfl⟩)⟩
   ·rw [beq_eq_false_iff_ne.mpr e2]
    refine wpAny_bind (ziS (wpAny_pure ⟨rfl,.inl ?_⟩))
    rw [if_pos rfl]
  ·cases h
 ·rintro c u ⟨hc,rfl,h | ⟨h,_⟩ | ⟨_,h1,h2⟩⟩
  ·cases h
  ·cases h
  ·exact ⟨rfl,.inr ⟨hc,h1,h2⟩⟩
 ·rintro ⟨c1,c2⟩ u ⟨rfl,h | ⟨h,e1,e2⟩⟩
  ·have h:c1=some _:=h
   subst h
   exact wpAny_pure q
  ·have h:c1=none:=h
   subst h e1 e2
   rw [if_pos rfl,decide_eq_false (Int.lt_irrefl _)] at q
   exact wpAny_pure q
def zkf (h:Heap) (v:Value):Prop:=∃ (a:Addr) (x:Str) (t:Tok) (n:Int) (u:Tok),v=.ref a/\IsTup h a #[.str x t,.int n u]
theorem zks {v:Value} (H:zkf s.heap v) {Q:Option Value->Shared->Prop} (q:Q (zaX s.heap v) s):wpAny (model prog w) A (firstOfTuple' v) Q E s:=by
 obtain ⟨a,x,t',n,u',rfl,ht⟩:=H
 obtain ⟨o,e,c,k,d⟩:=id ht
 have eq:firstOfTuple' (.ref a)=(do
  if (<- typeOf (.ref a)) != .type "tuple" then return none
  return (<- Builtin.List.listItems (.ref a))[0]?):=rfl
 rw [eq]
 refine wpAny_bind (wpAny_typeOf ht.typeIs ?_)
 rw [if_neg (by decide)]
 refine wpAny_bind (listItems_at e d (wpAny_pure ?_))
 have hq:zaX s.heap (.ref a)=(#[Value.str x t',Value.int n u'])[0]?:=by unfold zaX;simp only [e,d]
 rw [hq] at q
 exact q
theorem zmB {v:Value} (H:zkf s.heap v):∃ x t,zaX s.heap v=some (.str x t):=by
 obtain ⟨a,x,t,n,u,rfl,⟨o,e,c,k,d⟩⟩:=H
 exact ⟨x,t,by unfold zaX;simp only [e,d];rfl⟩
theorem zmK {vs:List Value} (H:∀ v ∈ vs,zkf s.heap v) (hne:vs ≠ []) {Q:SortKind->Shared->Prop} (q:Q (tuples' true) s):wpAny (model prog w) A (keyKind' vs.toArray) Q E s:=by
 rw [keyKind'_eq,List.mapM_toArray]
 have hsm:∀ v ∈ vs,∃ n t,zaX s.heap v=some (.str n t):=fun v hv=>zmB (H v hv)
 refine wpAny_bind (m:=List.toArray <$> _) (wpAny_bind (zeY (zaX s.heap) vs _ (fun v hv Q' q'=>zks (H v hv) q') (wpAny_pure ?_)))
 have hall:((vs.map (zaX s.heap)).toArray.all fun x=>x.isSome)=true:=by
  simp only [List.all_toArray,List.all_map,List.all_eq_true]
  intro v hv
  obtain ⟨n,t,e⟩:=hsm v hv
  show (zaX s.heap v).isSome=true
  rw [e]
  rfl
 rw [if_pos hall]
 refine wpAny_bind (wpAny_rule ?_)
 rw [oneTypeOnly'_eq]
 have hfm:((vs.map (zaX s.heap)).toArray.filterMap id)=(vs.filterMap (zaX s.heap)).toArray:=by
  simp [List.filterMap_map]
 rw [hfm,List.mapM_toArray]
 have htys:∀ v ∈ vs.filterMap (zaX s.heap),∃ n t,v=.str n t:=fun v hv=>by
  obtain ⟨u,hu,e⟩:=List.mem_filterMap.mp hv
  obtain ⟨n,t,e'⟩:=hsm u hu
  rw [e'] at e
  exact ⟨n,t,(Option.some.inj e).symm⟩
 refine wpAny_bind (wpAny_bind (m:=List.toArray <$> _) (wpAny_bind (zeY (fun _=>Value.type "str") (vs.filterMap (zaX s.heap)) _ (fun v hv Q' q'=>?_) (wpAny_pure ?_))))
 ·obtain ⟨n,t,rfl⟩:=htys v hv
  exact wpAny_typeOf (typeIs_str s n t) q'
 ·obtain ⟨v0,r,rfl⟩:=List.exists_cons_of_ne_nil hne
  obtain ⟨n,t,e⟩:=hsm v0 List.mem_cons_self
  have hfc:(v0 :: r).filterMap (zaX s.heap)=.str n t :: r.filterMap (zaX s.heap):=by rw [List.filterMap_cons,e]
  rw [hfc]
  have e0:(List.map (fun _=>Value.type "str") (Value.str n t :: r.filterMap (zaX s.heap))).toArray[0]?=some (.type "str"):=by simp
  have ea:((List.map (fun _=>Value.type "str") (Value.str n t :: r.filterMap (zaX s.heap))).toArray.all fun x=>x == Value.type "str")=true:=by
   simp only [List.all_toArray,List.all_map,List.all_eq_true]
   intro _ _
   rfl
  rw [e0]
  show wpAny _ _ (pure (if (Array.all _ fun x=>x == Value.type "str")=true then some (Value.type "str") else none)) _ _ _
  rw [if_pos ea]
  exact wpAny_pure (wpAny_pure q)
theorem zfv {a:Addr} {vs:List Value} {n:Nat} {R:Fin->Shared->Prop} (ho:s.heap.get? a=some (seqObj "list" vs.toArray n)) (hh:∀ v ∈ vs,zkf s.heap v) (hk:∀ v ∈ vs,∃ ns,matK s.heap v=some ns) (h64:vs.length < 4096)
 (q:∀ xs:Array Keyed,xs.Perm (pairsOf vs)->SortedToK (kM s.heap) xs vs.length->R (.done (.ret .none)) { s with heap:=sortedHeap s.heap a vs (xs.map (·.2)) }) :
 wpAny (model prog w) A (Builtin.«list.sort» ⟨[.ref a],[]⟩) R E s:=by
 have hlt:a < s.heap.objs.size:=Heap.lt_size ho
 rw [list_sort_plain]
 refine wpAny_bind (listItems_at ho rfl (wpAny_bind (listUpdate_at ho rfl ?_)))
 obtain ⟨e1,ho1⟩:∃ e1,(s.heap.update a (Obj.mapSeq fun _=>#[])).get? a=some (seqObj "list" #[] e1):=⟨_,get?_update_seq ho (fun _=>#[])⟩
 refine wpAny_bind (seqEpoch_at ho1 rfl (wpAny_bind (wpAny_newTuple (wpAny_bind (wpAny_newList (wpAny_holding ?_))))))
 generalize hg:((s.heap.update a (Obj.mapSeq fun _=>#[])).push (seqObj "tuple" vs.toArray 0)).push (seqObj "list" #[] 0)=g
 have other:∀ b ob,b ≠ a->s.heap.get? b=some ob->g.get? b=some ob:=fun b ob hb e=>by
  rw [<- hg]
  exact Heap.get?_push_of_some _ (Heap.get?_push_of_some _ ((Heap.get?_update_other _ _ (Ne.symm hb)).trans e))
 have ho6:g.get? a=some (seqObj "list" #[] e1):=by
  rw [<- hg]
  exact Heap.get?_push_of_some _ (Heap.get?_push_of_some _ ho1)
 show wpAny (model prog w) A _ R E { s with heap:=g }
 dsimp only
 have q':∀ xs:Array Keyed,xs.Perm (pairsOf vs)->SortedToK (kM s.heap) xs vs.length->R (.done (.ret .none)) { s with heap:=g.update a (Obj.mapSeq fun _=>xs.map (·.2)) }:=fun xs h1 h2=>by
  have:=q xs h1 h2
  unfold sortedHeap at this
  rw [hg] at this
  exact this
 have hsz:vs.toArray.size=vs.length:=by simp
 have long:∀ {xs:Array Keyed},xs.Perm (pairsOf vs)->(xs.map (·.2)).size<=sizeLine+1:=fun {xs} h=>by
  rw [Array.size_map,h.size_eq,pairsOf_size,sizeLine_eq]
  omega
 by_cases h2:vs.toArray.size < 2
 ·simp only [h2,if_true]
  refine wpAny_bind (wpAny_pure ?_)
  rw [StateT.run_pure]
  refine wpAny_bind (wpAny_pure ?_)
  refine wpAny_bind (seqEpoch_at ho6 rfl (wpAny_bind (listUpdate_at ho6 rfl ?_ (hsz2:=long (Array.Perm.refl _)))))
  simp only [bne_self_eq_false,Bool.false_eq_true,if_false]
  refine wpAny_pure (q' _ (Array.Perm.refl _) fun i j hij hj=>?_)
  have e:i=j:=by omega
  rw [e]
  exact KeyOrd.kle_refl _
 ·simp only [h2,if_false]
  have two:2<=vs.length:=by omega
  have nev:vs ≠ []:=fun z=>by rw [z] at two;exact absurd two (by decide)
  have notList:∀ v ∈ vs,∀ b,v=.ref b->b ≠ a:=fun v hv b e z=>by
   obtain ⟨b',x,t,m,u,e',⟨ob,eb,cb,_⟩⟩:=hh v hv
   subst e
   injection e' with e'
   subst e' z
   rw [ho] at eb
   have eo:seqObj "list" vs.toArray n=ob:=Option.some.inj eb
   rw [<- eo] at cb
   have cb':Value.type "list"=Value.type "tuple":=cb
   injection cb' with cb''
   exact absurd cb'' (by decide)
  have sameK:∀ v ∈ vs,matK g v=matK s.heap v:=fun v hv=>by
   obtain ⟨b,x,t,m,u,rfl,⟨ob,eb,cb,k,db⟩⟩:=hh v hv
   unfold matK
   simp only [eb,other b ob (notList _ hv b rfl) eb]
  have hh6:∀ v ∈ vs,zkf g v:=fun v hv=>by
   obtain ⟨b,x,t,m,u,rfl,⟨ob,eb,rest⟩⟩:=hh v hv
   exact ⟨b,x,t,m,u,rfl,⟨ob,other b ob (notList _ hv b rfl) eb,rest⟩⟩
  have hk6:KeysOf (kM g) (pairsOf vs):=fun p hp=>by
   rw [pairsOf_toList] at hp
   obtain ⟨_,hm⟩:=mem_zip_self hp
   obtain ⟨ns,e⟩:=hk _ hm
   exact ⟨ns,(sameK _ hm).trans e⟩
  refine wpAny_bind (zmK (s:={ s with heap:=g }) hh6 nev ?_)
  refine wpAny_bind (wpAny_mono (zjK (κ:=kM g) (kd:=tuples' true) (o:=pairsOf vs) (st:=SortSt.mk' (tuples' true) (vs.toArray.zip vs.toArray) #[] 7 none)
   (Q:=fun _ u=>(arrOf u).Perm (pairsOf vs)/\failedOf u=none/\SortedToK (kM g) (arrOf u) (pairsOf vs).size) (zlf (s:={ s with heap:=g })) hk6 ⟨Array.Perm.refl _,rfl,rfl,rfl⟩ (by rw [pairsOf_size];exact two)
   fun u h1 h2 h3=>⟨h1,h2,h3⟩) ?_ fun _ _ z=>z)
  rintro ⟨⟨⟩,u⟩ s' ⟨rfl,hp,hf,hs⟩
  refine wpAny_bind (seqEpoch_at ho6 rfl (wpAny_bind (listUpdate_at ho6 rfl ?_ (hsz2:=long hp))))
  rw [hf]
  simp only [bne_self_eq_false,Bool.false_eq_true,if_false]
  refine wpAny_pure (q' _ hp fun i j hij hj=>?_)
  have kk:∀ i,i < vs.length->KK (kM s.heap) (arrOf u) i=KK (kM g) (arrOf u) i:=fun i hi=>by
   have hi':i < (arrOf u).size:=by rw [hp.size_eq,pairsOf_size];exact hi
   have e:=getElem?_pos (arrOf u) i hi'
   have hin:(arrOf u)[i] ∈ (pairsOf vs).toList:=(Array.perm_iff_toList_perm.mp hp).mem_iff.mp (by simp)
   rw [pairsOf_toList] at hin
   obtain ⟨_,hm⟩:=mem_zip_self hin
   simp only [KK,e]
   show (matK s.heap _).getD ([],0)=(matK g _).getD ([],0)
   rw [sameK _ hm]
  rw [kk i (by omega),kk j hj]
  exact hs i j hij (by rw [pairsOf_size];exact hj)
theorem zhT {l:Addr} {vs:List Value} {Q:Value->Shared->Prop} (hl:s.heap.IsList l vs.toArray) (hh:∀ v ∈ vs,zkf s.heap v) (hk:∀ v ∈ vs,∃ ns,matK s.heap v=some ns) (h64:vs.length < 4096)
 (q:∀ (xs:Array Keyed) (h':Heap) (n:Nat),xs.Perm (pairsOf vs)->SortedToK (kM s.heap) xs vs.length->h'.get? (s.heap.objs.size+1)=some (seqObj "list" (xs.map (·.2)) n)->(∀ b o,s.heap.get? b=some o->h'.get? b=some o) ->
   Q (.ref (s.heap.objs.size+1)) { s with heap:=h' }) :
 wpAny (model prog w) A (call (.builtin "sorted") [.ref l]) Q E s:=by
 refine Calls.call_function_entry kind_sorted plain_sorted entry_sorted (args_sorted1 _) ?_
 unfold Builtin.«sorted»
 refine wpAny_bind (m:=checkCount "sorted" 1 1 _) (wpAny_pure (wpAny_bind (collect_list hl (wpAny_bind (wpAny_newList ?_)))))
 generalize hg:(s.heap.push (seqObj "list" #[] 0)).update s.heap.objs.size (Obj.mapSeq (·++ vs.toArray))=g
 have zg:g.objs.size=s.heap.objs.size+1:=by rw [<- hg,Heap.size_update,size_push']
 have og:∀ b o,s.heap.get? b=some o->g.get? b=some o:=fun b o e=>by
  rw [<- hg]
  exact (Heap.get?_update_other _ _ (Nat.ne_of_gt (Heap.lt_size e))).trans (Heap.get?_push_of_some _ e)
 show wpAny _ _ _ _ _ { s with heap:=g.push (seqObj "list" vs.toArray 0) }
 rw [zg]
 have hoL:(g.push (seqObj "list" vs.toArray 0)).get? (s.heap.objs.size+1)=some (seqObj "list" vs.toArray 0):=by rw [<- zg];exact Heap.get?_push_size _ rfl
 have ol:∀ b o,s.heap.get? b=some o->(g.push (seqObj "list" vs.toArray 0)).get? b=some o:=fun b o e=>Heap.get?_push_of_some _ (og b o e)
 have sameK:∀ v ∈ vs,matK (g.push (seqObj "list" vs.toArray 0)) v=matK s.heap v:=fun v hv=>by
  obtain ⟨b,x,t,m,u,rfl,⟨ob,eb,cb,k,db⟩⟩:=hh v hv
  unfold matK
  simp only [eb,ol b ob eb]
 refine wpAny_bind (wpAny_holding (wpAny_call_entry slot_list_sort ⟨_,hoL,rfl⟩ entry_list_sort (zfv (s:={ s with heap:=g.push (seqObj "list" vs.toArray 0) }) hoL (fun v hv=>?_) (fun v hv=>?_) h64 fun xs h1 h2=>⟨_,rfl,?_⟩) (args_list_sort _)))
 ·obtain ⟨b,x,t,m,u,e,⟨ob,eb,rest⟩⟩:=hh v hv
  exact ⟨b,x,t,m,u,e,⟨ob,ol b ob eb,rest⟩⟩
 ·obtain ⟨ns,e⟩:=hk v hv
  exact ⟨ns,(sameK v hv).trans e⟩
 ·have kk:SortedToK (kM s.heap) xs vs.length:=fun i j hij hj=>by
   have one:∀ i,i < vs.length->KK (kM s.heap) xs i=KK (kM (g.push (seqObj "list" vs.toArray 0))) xs i:=fun i hi=>by
    have hi':i < xs.size:=by rw [h1.size_eq,pairsOf_size];exact hi
    have e:=getElem?_pos xs i hi'
    have hin:xs[i] ∈ (pairsOf vs).toList:=(Array.perm_iff_toList_perm.mp h1).mem_iff.mp (by simp)
    rw [pairsOf_toList] at hin
    obtain ⟨_,hm⟩:=mem_zip_self hin
    simp only [KK,e]
    show (matK s.heap _).getD ([],0)=(matK _ _).getD ([],0)
    rw [sameK _ hm]
   rw [one i (by omega),one j hj]
   exact h2 i j hij hj
  generalize hf:sortedHeap (g.push (seqObj "list" vs.toArray 0)) (s.heap.objs.size+1) vs (xs.map (·.2))=h'
  obtain ⟨m,em⟩:∃ m,h'.get? (s.heap.objs.size+1)=some (seqObj "list" (xs.map (·.2)) m):=by
   rw [<- hf]
   unfold sortedHeap
   obtain ⟨e1,ho1⟩:∃ e1,((g.push (seqObj "list" vs.toArray 0)).update (s.heap.objs.size+1) (Obj.mapSeq fun _=>#[])).get? (s.heap.objs.size+1)=some (seqObj "list" #[] e1):=⟨_,get?_update_seq hoL (fun _=>#[])⟩
   exact ⟨_,get?_update_seq (Heap.get?_push_of_some _ (Heap.get?_push_of_some _ ho1)) (fun _=>xs.map (·.2))⟩
  have keep:∀ b o,s.heap.get? b=some o->h'.get? b=some o:=fun b o e=>by
   have hb:b ≠ s.heap.objs.size+1:=Nat.ne_of_lt (Nat.lt_succ_of_lt (Heap.lt_size e))
   rw [<- hf]
   unfold sortedHeap
   exact (Heap.get?_update_other _ _ (Ne.symm hb)).trans (Heap.get?_push_of_some _ (Heap.get?_push_of_some _ ((Heap.get?_update_other _ _ (Ne.symm hb)).trans (ol b o e))))
  exact wpAny_pure ⟨_,rfl,q xs h' m h1 kk em keep⟩
end
end Sr
namespace L2
open PySem PySem.Spec PyProof.Rows
abbrev TM:=Addr × Lan.Mx
def mkK (m:Lan.Mx):List Nat × Int:=(m.1.cps.toList,m.2)
def zhX (ts:List TM):List V:=ts.map fun t=>V.ref t.1
theorem zfJ {H:Hp}:∀ {vs:List V} {ms:List Lan.Mx},Paired (Lan.zbd H) vs ms->∃ ts:List TM,vs=zhX ts/\ms=ts.map (·.2)/\∀ t ∈ ts,H t.1=some (.tup [.str t.2.1,.int t.2.2])
 | _,_,.nil=>⟨[],rfl,rfl,fun t h=>nomatch h⟩
 | _,_,.cons ⟨a,e,z⟩ r=>by
   obtain ⟨ts,e1,e2,h⟩:=zfJ r
   subst e e1 e2
   refine ⟨(a,_) :: ts,rfl,rfl,fun t ht=>?_⟩
   rcases List.mem_cons.mp ht with rfl | ht
   ·exact z
   ·exact h t ht
theorem zgX {H:Hp}:∀ {ts:List TM},(∀ t ∈ ts,H t.1=some (.tup [.str t.2.1,.int t.2.2]))->Paired (Lan.zbd H) (zhX ts) (ts.map (·.2))
 | [],_=>.nil
 | t :: ts,h=>.cons ⟨t.1,rfl,h t List.mem_cons_self⟩ (zgX fun u hu=>h u (List.mem_cons_of_mem _ hu))
theorem zfK:∀ {ts:List TM} {us:List Value},Vals (zhX ts) us->us=ts.map fun t=>Value.ref t.1
 | [],_,.nil=>rfl
 | t :: ts,_,.cons r1 r2=>by
   cases r1
   rw [zfK r2]
   rfl
theorem zdZ:∀ ts:List TM,Vals (zhX ts) (ts.map fun t=>Value.ref t.1)
 | []=>.nil
 | t :: ts=>.cons rfl (zdZ ts)
def ziV (K:PySem.W.Frag):List V->Hp->VK->Prop:=fun xs H Q=>∃ p vs ms,xs=[.ref p]/\SqL K H p vs/\Paired (Lan.zbd H) vs ms/\ms.length < 4096 /\
 ∀ (l:Addr) (vs':List V) (ms':List Lan.Mx),H l=none->ms'.Perm ms->Paired (Lan.zbd H) vs' ms'->ms'.Pairwise (fun a b=>Sr.mlt (mkK b) (mkK a)=false)->Q (.ref l) (upd H l (.lst vs'))
section
variable {X:Cx}
theorem zhz:zcW X (.builtin "sorted") (ziV X.K):=by
 intro pins s σ H xs us Q I r h
 obtain ⟨p,vs,ms,rfl,hq,hpm,h64,q⟩:=h
 obtain ⟨ts,rfl,rfl,ht⟩:=zfJ hpm
 rw [List.length_map] at h64
 obtain ⟨u,rfl,ru⟩:=zfA r
 cases ru
 obtain ⟨its,rv,pl,hz⟩:=I.list hq
 have ei:=zfK rv
 subst ei
 have tup:∀ t ∈ ts,∃ tk tu,IsTup s.heap t.1 #[.str t.2.1 tk,.int t.2.2 tu]:=fun t hm=>by
  obtain ⟨vs,r2,p2,_⟩:=I.tuple (SqT.of (ht t hm))
  obtain ⟨v1,v2,rfl,⟨tk,rfl⟩,⟨tu,rfl⟩⟩:=zuN r2
  exact ⟨tk,tu,p2⟩
 have key:∀ t ∈ ts,Sr.matK s.heap (.ref t.1)=some (mkK t.2):=fun t hm=>by
  obtain ⟨tk,tu,o,e,_,n,d⟩:=tup t hm
  unfold Sr.matK
  simp only [e,d]
  rfl
 have e0:H (s.heap.objs.size+1)=none:=I.hok.fresh (Nat.le_succ _)
 refine Sr.zhT (vs:=ts.map fun t=>Value.ref t.1) pl.isList (fun v hv=>?_) (fun v hv=>?_) (by rw [List.length_map];exact h64) fun xs h' n hp hs hl hk=>?_
 ·obtain ⟨t,hm,rfl⟩:=List.mem_map.mp hv
  obtain ⟨tk,tu,p2⟩:=tup t hm
  exact ⟨t.1,t.2.1,tk,t.2.2,tu,rfl,p2⟩
 ·obtain ⟨t,hm,rfl⟩:=List.mem_map.mp hv
  exact ⟨_,key t hm⟩
 ·have pl2:xs.toList.Perm ((ts.map fun t=>Value.ref t.1).zip (ts.map fun t=>Value.ref t.1)):=by rw [<- pairsOf_toList];exact Array.perm_iff_toList_perm.mp hp
  have ez:((ts.map fun t=>Value.ref t.1).zip (ts.map fun t=>Value.ref t.1))=ts.map fun t=>(Value.ref t.1,Value.ref t.1):=by
   exact zge _ ts
  rw [ez] at pl2
  obtain ⟨ts',p1,e1⟩:=Sr.zda pl2
  have eo:(xs.map (·.2))=(ts'.map fun t=>Value.ref t.1).toArray:=by
   apply Array.toList_inj.mp
   rw [Array.toList_map,e1,List.map_map]
   rfl
  have hlen:xs.size=ts'.length:=by
   have:=congrArg List.length e1
   rw [List.length_map] at this
   simpa using this
  have srt:ts'.Pairwise (fun a b=>Sr.mlt (mkK b.2) (mkK a.2)=false):=by
   rw [List.pairwise_iff_getElem]
   intro i j hi hj hij
   have h3:=hs i j (Nat.le_of_lt hij) (by rw [List.length_map,<- p1.length_eq];exact hj)
   have kk:∀ k (hk:k < ts'.length),KK (Sr.kM s.heap) xs k=mkK ts'[k].2:=fun k hk'=>by
    have hk2:k < xs.size:=by rw [hlen];exact hk'
    have e:=getElem?_pos xs k hk2
    have e2:xs[k]=(Value.ref ts'[k].1,Value.ref ts'[k].1):=by
     have e3:xs.toList[k]?=some (Value.ref ts'[k].1,Value.ref ts'[k].1):=by rw [e1,List.getElem?_map,List.getElem?_eq_getElem hk'] <;> rfl
     have e4:xs.toList[k]?=some xs[k]:=by rw [Array.getElem?_toList];exact e
     rw [e4] at e3
     exact Option.some.inj e3
    simp only [KK,e,e2]
    show (Sr.matK s.heap (Value.ref ts'[k].1)).getD ([],0)=_
    rw [key _ (p1.mem_iff.mp (List.getElem_mem hk'))]
    rfl
   rw [kk i hi,kk j hj] at h3
   exact h3
  refine ⟨.ref (s.heap.objs.size+1),_,I.laid (t':=s.toks) (o:=.lst (zhX ts')) hk (Nat.le_succ _) ⟨?_,_,n,zdZ ts',?_⟩,rfl,q _ (zhX ts') (ts'.map (·.2)) e0 (p1.map _) (zgX fun t ht'=>ht t (p1.mem_iff.mp ht')) (by rw [List.pairwise_map];exact srt)⟩
  ·unfold zhX
   rw [List.length_map,p1.length_eq]
   exact zbK (by omega)
  ·rw [<- eo]
   exact hl
end
section
variable {X:Cx} (K:PySem.W.Frag) (hK:X.K=K)
include hK
theorem zmQ:zcW X (.builtin "sorted") (ziV K):=by subst hK;exact zhz
end
theorem zph {a b:Lan.Mx} (h:mkK a=mkK b):a=b:=by
 have h1:a.1.cps.toList=b.1.cps.toList:=congrArg Prod.fst h
 have h2:(mkK a).2=(mkK b).2:=congrArg Prod.snd h
 exact Prod.ext (Sr.znv h1) h2
theorem ziF {as bs:List Lan.Mx} (p:as.Perm bs) (ha:as.Pairwise fun a b=>Sr.mlt (mkK b) (mkK a)=false) (hb:bs.Pairwise fun a b=>Sr.mlt (mkK b) (mkK a)=false):as=bs:=by
 induction as generalizing bs with
 | nil=>exact p.symm.eq_nil.symm
 | cons a as ih =>
   cases bs with
   | nil=>exact absurd p.symm.nil_eq (by simp)
   | cons b bs =>
     obtain ⟨a1,a2⟩:=List.pairwise_cons.mp ha
     obtain ⟨b1,b2⟩:=List.pairwise_cons.mp hb
     have e:a=b:=by
      rcases List.mem_cons.mp (p.mem_iff.mp List.mem_cons_self) with z | z
      ·exact z
      ·rcases List.mem_cons.mp (p.mem_iff.mpr List.mem_cons_self) with y | y
       ·exact y.symm
       ·exact zph (Sr.zfe _ _ (b1 a z) (a1 b y))
     subst e
     rw [ih (List.Perm.cons_inv p) a2 b2]
end L2
namespace Mc
open PySem L2
def allM (m:Ms):List Mx:=m.lanes.flatten++(mats m.line++(mats m.heat++m.bar))
theorem zjh {ls:List (List Mx)} {k:Nat} {l l':List Mx} (h:ls[k]?=some l):∃ u v,ls.flatten=u++l++v/\(ls.set k l').flatten=u++l'++v:=by
 induction ls generalizing k with
 | nil=>simp at h
 | cons a r ih =>
   cases k with
   | zero =>
     have e:a=l:=Option.some.inj h
     subst e
     exact ⟨[],r.flatten,rfl,rfl⟩
   | succ k =>
     obtain ⟨u,v,e1,e2⟩:=ih h
     refine ⟨a++u,v,?_,?_⟩
     ·rw [List.flatten_cons,e1,List.append_assoc,List.append_assoc,List.append_assoc]
     ·rw [List.set_cons_succ,List.flatten_cons,e2,List.append_assoc,List.append_assoc,List.append_assoc]
theorem zbg (m:Ms) (y:Mx):(allM m).count y=m.lanes.flatten.count y+((mats m.line).count y+((mats m.heat).count y+m.bar.count y)):=by
 unfold allM
 rw [List.count_append,List.count_append,List.count_append]
theorem zmM {c:Cf} {m:Ms} (O:Ok c m) (y:Mx):(allM (fall c m)).count y=(allM m).count y:=by
 unfold fall
 cases hb:m.bar with
 | nil=>rfl
 | cons x r =>
   obtain ⟨_,_,_,_,k,hk,hkl⟩:=O.bm x (by rw [hb];exact List.mem_cons_self)
   show (allM (match Mt.zbq (c.rs.map fun r=>r.t) x.2 with
    | some k=>{ m with bar:=r,lanes:=zcc m.lanes k x }
    | none=>m)).count y=_
   rw [hk]
   have hg:m.lanes[k]?=some (m.lanes[k]'(by rw [O.ln];exact hkl)):=List.getElem?_eq_getElem _
   have ea:zcc m.lanes k x=m.lanes.set k (m.lanes[k]'(by rw [O.ln];exact hkl)++[x]):=by unfold zcc;rw [hg]
   obtain ⟨u,v,e1,e2⟩:=zjh (l':=m.lanes[k]'(by rw [O.ln];exact hkl)++[x]) hg
   rw [zbg,zbg]
   show (zcc m.lanes k x).flatten.count y+((mats m.line).count y+((mats m.heat).count y+r.count y))=_
   rw [ea,e1,e2,hb]
   simp only [List.count_append,List.count_cons,List.count_nil]
   omega
theorem zmZ (m:Ms) (y:Mx):(allM (cool m)).count y=(allM m).count y:=by
 unfold cool
 split
 ·rfl
 ·split
  ·rw [zbg,zbg]
   show m.lanes.flatten.count y+((mats m.line).count y+((mats []).count y+(m.bar++mats m.heat).count y))=_
   rw [List.count_append,show (mats []).count y=0 from rfl]
   omega
  ·rfl
theorem zme {m:Ms} {j:Nat} (y:Mx):(allM (pick m j)).count y=(allM m).count y:=by
 unfold pick
 cases h:m.lanes[j]? with
 | none=>rfl
 | some l =>
   cases l with
   | nil=>rfl
   | cons x r =>
     obtain ⟨u,v,e1,e2⟩:=zjh (l':=r) h
     show (allM (take { m with lanes:=m.lanes.set j r } (some x))).count y=_
     rw [zbg,zbg]
     show (m.lanes.set j r).flatten.count y+((mats (m.line++[some x])).count y+((mats m.heat).count y+m.bar.count y))=_
     rw [e1,e2,zcg]
     simp only [List.count_append,List.count_cons,List.count_nil,Option.toList_some]
     omega
theorem zjC (c:Cf) (m:Ms) (y:Mx):(allM (strike c m)).count y=(allM m).count y:=by
 unfold strike
 split
 ·rfl
 ·split
  ·unfold send
   split
   ·rename_i h
    have hh:=List.isEmpty_iff.mp h
    rw [zbg,zbg,hh]
    show m.lanes.flatten.count y+((mats []).count y+((mats m.line).count y+m.bar.count y))=m.lanes.flatten.count y+((mats m.line).count y+((mats []).count y+m.bar.count y))
    rw [show (mats []).count y=0 from rfl]
    omega
   ·rfl
  ·split
   ·rw [zbg,zbg]
    show m.lanes.flatten.count y+((mats (m.line++[none])).count y+((mats m.heat).count y+m.bar.count y))=_
    rw [zcg]
    simp
   ·split
    ·rfl
    ·split
     ·exact zme y
     ·rfl
theorem zmn {c:Cf} {m:Ms} (O:Ok c m) (y:Mx):(allM (tick c m)).count y=(allM m).count y:=by
 have h:=zjC c (cool (fall c m)) y
 rw [zmZ,zmM O] at h
 exact h
theorem zmf {c:Cf} {m:Ms} (O:Ok c m):(allM (tick c m)).Perm (allM m):=List.perm_iff_count.mpr (zmn O)
end Mc
namespace L2
open PySem PySem.Spec PyProof.Rows PySem.Builtin PySem.Builtin.Str
section
variable {X:Cx}
end
end L2
namespace L2
open PySem PySem.Spec PyProof.Rows PySem.W PySem.Calls
structure KBM (K:PySem.W.Frag) (fd:FuncData) (ps:List Str) (kn:Str):Prop where
 len:ps.length=5
 to:∀ (s:Shared) (a b c d e:Value),K.In s.heap->BindsTo s fd ⟨[a,b,c,d],[(kn,e)]⟩ (ps.zip [a,b,c,d,e])
def zps (C:Addr) (sp:Sp) (E:XK) (t tk:TA):TE:=fun σ H Q=>t σ H fun vs H1=>tk σ H1 fun zs H2=>zs.length=1/\∀ x dx,H2 x=none->H2 dx=none->dx ≠ x ->
 sp (.ref x :: (vs++zs)) (upd (upd H2 dx (.own x)) x (.ins C dx [])) (fun v H3=>v=.non/\Q (.ref x) H3) E
section
variable {X:Cx} {k j:Nat} {C f:Addr} {fd:FuncData} {ps:List Str} {sp:Sp} {x qual kn:Str} {st:Stmt} {p pos kpos:Pos} {e ek:Expr} {es:List Expr} {t:TA} {te:TE} {CX:CXT} {E:XK}
theorem zld {pins:List (Addr × Obj)} {σ:St} {H:Hp} {s:Shared} {Q:VK} {us ws:List Value} {vs zs:List V} (M:Mk X.K C f) (F:FnOk X.prog X.w X.K X.mg X.base CX k f fd ps sp) (hr:Room (k+1) X.A) (hb:KBM X.K fd ps kn)
 (hx:ziU CX X E) (I:Inv X pins σ H s) (r:Vals vs us) (rz:Vals zs ws) (hz:zs.length=1)
 (h:∀ x dx,H x=none->H dx=none->dx ≠ x->sp (.ref x :: (vs++zs)) (upd (upd H dx (.own x)) x (.ins C dx [])) (fun v H2=>v=.non/\Q (.ref x) H2) E) :
 wpAny (model X.prog X.w) X.A (call (.ref C) us ([kn].zip ws)) (EP X pins σ Q) X.xe s:=by
 have hq:=h (s.heap.objs.size+1) s.heap.objs.size (I.hok.fresh (Nat.le_succ _)) (I.hok.fresh (Nat.le_refl _)) (Nat.ne_of_lt (Nat.lt_succ_self _))
 have I2:=Inv.made (C:=C) I
 have r2:Vals (V.ref (s.heap.objs.size+1) :: (vs++zs)) (Value.ref (s.heap.objs.size+1) :: (us++ws)):=.cons rfl (r.append rz)
 have hl:=F.len _ _ _ _ hq
 rw [hb.len,List.length_cons,List.length_append,hz,r.length] at hl
 have hw:ws.length=1:=by rw [<- rz.length];exact hz
 obtain ⟨w0,rfl⟩:=List.length_eq_one_iff.mp hw
 obtain ⟨a0,b0,c0,rfl⟩:∃ a b c,us=[a,b,c]:=by
  match us,hl with
  | [a,b,c],_=>exact ⟨a,b,c,rfl⟩
  | [],h=>simp at h
  | [_],h=>simp at h
  | [_,_],h=>simp at h
  | _ :: _ :: _ :: _ :: _,h=>simp at h
 refine wpAny_call (zmc (f:=f) I.kIn M.makes M.init (beq_iff_eq.mp M.fn) (codeAny_mono (F.run _ X.stack _ _ ⟨[Value.ref (s.heap.objs.size+1),a0,b0,c0],[(kn,w0)]⟩ (Value.ref (s.heap.objs.size+1) :: ([a0,b0,c0]++[w0])) _ _ E (hr.make C [a0,b0,c0] [(kn,w0)])
  (I2.env0.make C [a0,b0,c0] [(kn,w0)]) (hb.to _ _ _ _ _ _ I2.kIn) r2 hq) fun r s' hq'=>?_))
 cases r with
 | error e=>exact hx pins σ _ _ e s' I2 hq'
 | ok fl =>
   cases fl with
   | ret u =>
     obtain ⟨v,H',I3,rv,ev,q3⟩:=I2.after hq'
     subst ev
     exact ⟨rv,⟨V.ref (s.heap.objs.size+1),H',I3,rfl,q3⟩⟩
   | next=>exact False.elim hq'
   | brk=>exact False.elim hq'
   | cont=>exact False.elim hq'
theorem zrs (d:DI X.K X.mg x qual st ps C f fd) (hb:KBM X.K fd ps kn) (F:FnOk X.prog X.w X.K X.mg X.base CX0 j f fd ps sp) (hr:Room k X.A) (hg:Gl X x) (ha:PA X (e :: es) t) (hk:PE X ek te) (hjk:j+1<=k:=by decide)
 (hall:(backToKw pos (keywordEach [⟨some kn,ek,kpos⟩] X.env)).all (·.1.isSome)=true:=by rfl) (hks:(backToKw pos (keywordEach [⟨some kn,ek,kpos⟩] X.env)).filterMap (·.1)=[kn]:=by rfl)
 (hdb:(x == ("__debug__":Str))=false:=by decide) (he:starEach (e :: es) X.env=(false,eval e X.env) :: starEach es X.env:=by rfl)
 (hpl:((backTo pos (starEach (e :: es) X.env)).any (·.1) || (backToKw pos (keywordEach [⟨some kn,ek,kpos⟩] X.env)).any (·.1.isNone))=false:=by rfl) :
 PE X (.Call (.Name x p) (e :: es) [⟨some kn,ek,kpos⟩] pos) (zps C sp E0 t (znV te tNil)):=by
 intro pins s σ H Q I h
 refine wpAny_Call_Name_kw (ziv I hg d.mg ?_ hdb)
 refine PySem.W.callWith_KW (h₀:=X.base) I.ok.mod.kin d.mkr.kp hall (thn (ha pos pins s σ H _ I h) fun us s1 ⟨vs,H1,I1,r,q⟩=>?_) hpl he
 refine thn (znJ hk zqK pos pins s1 σ H1 _ I1 q) fun ws s2 ⟨zs,H2,I2,rz,hz,q2⟩=>⟨I2.kIn,?_⟩
 rw [hks]
 exact zld d.mkr F (hr.mono hjk) hb zmG I2 r rz hz q2
end
end L2
namespace L2
open PySem
/-- behind a statement the rest and the names are lets: the proofs' terms stay small -/
theorem hideSeq {t u:TS} {D:Ends} {σ:St} {H:Hp} (h:let D':Ends:={ D with nx:=u D };t D' σ H):tSeq t u D σ H:=h
theorem hideAll {t u:TS} {D:Ends} {σ:St} {H:Hp} (h:let D':Ends:={ D with nx:=u D };let σ':St:=σ;t D' σ' H):tSeq t u D σ H:=h
theorem exE {α β:Type} {f:β} {g:α->β} {P:α->Prop} {w:α} (e:f=g w) (h:P w):∃ v,f=g v/\P v:=⟨w,e,h⟩
theorem gNameH {i:Nat} {v:V} {σ:St} {H:Hp} {Q:St->Hp->Prop} (h:Q (σ.set i (some v)) H):zmi i v σ H Q:=h
end L2
namespace Lw
open PySem L2
set_option maxHeartbeats 4000000
section

def top (i:Nat):Stmt:=PySem.Challenge.pw_linecaster_k47_whole_each_matrix_somewhe.main.body.getD i (.Pass ⟨0,0,0,0⟩)
abbrev s_wall:Stmt:=top 0
theorem sc_wall:FnScope ["k"] ["k"] (zab s_wall):=⟨rfl,rfl,rfl,by decide +kernel,rfl,by decide +kernel,by decide +kernel⟩
abbrev s_has_all:Stmt:=top 6
theorem zfV:FnScope ["teeth","others"] ["teeth","others"] (zab s_has_all):=⟨rfl,rfl,rfl,by decide +kernel,rfl,by decide +kernel,by decide +kernel⟩
abbrev s_falls_at:Stmt:=top 7
theorem zif:FnScope ["codes","teeth","channel","code"] ["codes","teeth"] (zab s_falls_at):=⟨rfl,rfl,rfl,by decide +kernel,rfl,by decide +kernel,by decide +kernel⟩
abbrev s_channel_of:Stmt:=top 9
theorem zgp:FnScope ["case","sign","number","channel"] ["case","sign"] (zab s_channel_of):=⟨rfl,rfl,rfl,by decide +kernel,rfl,by decide +kernel,by decide +kernel⟩
abbrev s_codes_of_:Stmt:=top 10
theorem zhD:FnScope ["case"] ["case"] (zab s_codes_of_):=⟨rfl,rfl,rfl,by decide +kernel,rfl,by decide +kernel,by decide +kernel⟩
abbrev s_is_sign_key:Stmt:=top 14
theorem zfB:FnScope ["key"] ["key"] (zab s_is_sign_key):=⟨rfl,rfl,rfl,by decide +kernel,rfl,by decide +kernel,by decide +kernel⟩
abbrev s_goes_on:Stmt:=top 15
theorem zkl:FnScope ["case","keys","at"] ["case","keys","at"] (zab s_goes_on):=⟨rfl,rfl,rfl,by decide +kernel,rfl,by decide +kernel,by decide +kernel⟩
abbrev s_look_at_keys:Stmt:=top 16
theorem zeO:FnScope ["case","keys","at"] ["case","keys"] (zab s_look_at_keys):=⟨rfl,rfl,rfl,by decide +kernel,rfl,by decide +kernel,by decide +kernel⟩
abbrev s_can_break:Stmt:=top 18
theorem zhb:FnScope ["case","ahead","channel","teeth","sign","width","own","many"] ["case","ahead","channel","teeth"] (zab s_can_break):=⟨rfl,rfl,rfl,by decide +kernel,rfl,by decide +kernel,by decide +kernel⟩
abbrev s_channels_of:Stmt:=top 19
theorem zfr:FnScope ["case","broken","channels","ahead","at","part","channel","lost","sign","width","own","many"] ["case","broken"] (zab s_channels_of):=⟨rfl,rfl,rfl,by decide +kernel,rfl,by decide +kernel,by decide +kernel⟩
abbrev s_law_cell_at:Stmt:=top 24
theorem zfu:FnScope ["_law_script","_law_k"] ["_law_script","_law_k"] (zab s_law_cell_at):=⟨rfl,rfl,rfl,by decide +kernel,rfl,by decide +kernel,by decide +kernel⟩
abbrev s_law_mixed:Stmt:=top 25
theorem zhp:FnScope ["_law_cell","_law_k"] ["_law_cell","_law_k"] (zab s_law_mixed):=⟨rfl,rfl,rfl,by decide +kernel,rfl,by decide +kernel,by decide +kernel⟩
abbrev s_law_bits:Stmt:=top 26
theorem zix:FnScope ["_law_one","_law_many"] ["_law_one"] (zab s_law_bits):=⟨rfl,rfl,rfl,by decide +kernel,rfl,by decide +kernel,by decide +kernel⟩
abbrev s_law_teeth:Stmt:=top 27
theorem zgT:FnScope ["_law_number","_law_many","_law_teeth_here","_law_k","_law_one"] ["_law_number","_law_many"] (zab s_law_teeth):=⟨rfl,rfl,rfl,by decide +kernel,rfl,by decide +kernel,by decide +kernel⟩
abbrev s_law_case:Stmt:=top 28
theorem zio:FnScope ["_law_script","_law_most","_law_signs","_law_number","_law_teeth_here","_law_case_here","_law_k","_law_one","_law_sign"] ["_law_script","_law_most"] (zab s_law_case):=⟨rfl,rfl,rfl,by decide +kernel,rfl,by decide +kernel,by decide +kernel⟩
abbrev s_law_lines:Stmt:=top 29
theorem zgS:FnScope ["_law_cells","_law_case_here","_law_lines_here","_law_k","_law_cell","_law_number","_law_word","_law_j"] ["_law_cells","_law_case_here"] (zab s_law_lines):=⟨rfl,rfl,rfl,by decide +kernel,rfl,by decide +kernel,by decide +kernel⟩
abbrev s_law_keys:Stmt:=top 30
theorem zhM:FnScope ["_law_lines_here"] ["_law_lines_here"] (zab s_law_keys):=⟨rfl,rfl,rfl,by decide +kernel,rfl,by decide +kernel,by decide +kernel⟩
abbrev s_law_broken:Stmt:=top 31
theorem zgt:FnScope ["_law_case_here","_law_cell","_law_found","_law_k","_law_channel","_law_lost"] ["_law_case_here","_law_cell"] (zab s_law_broken):=⟨rfl,rfl,rfl,by decide +kernel,rfl,by decide +kernel,by decide +kernel⟩
abbrev s_law_all:Stmt:=top 32
theorem zkk:FnScope ["_law_machine","_law_found","_law_lane"] ["_law_machine"] (zab s_law_all):=⟨rfl,rfl,rfl,by decide +kernel,rfl,by decide +kernel,by decide +kernel⟩
abbrev s_law_seen:Stmt:=top 33
theorem zhU:FnScope ["_law_machine"] ["_law_machine"] (zab s_law_seen):=⟨rfl,rfl,rfl,by decide +kernel,rfl,by decide +kernel,by decide +kernel⟩
abbrev s_law_own:Stmt:=top 34
theorem zjN:FnScope ["_law_machine","_law_case_here","_law_k","_law_lane","_law_sign","_law_teeth_here"] ["_law_machine","_law_case_here"] (zab s_law_own):=⟨rfl,rfl,rfl,by decide +kernel,rfl,by decide +kernel,by decide +kernel⟩
abbrev s_law:Stmt:=top 35
theorem zpN:FnScope ["_law_script","_law_case_here","_law_keys_here","_law_lost_ones","_law_machine","_law_every","_law_seen_here","_law_alike","_law_inside","_law_struck"] ["_law_script"] (zab s_law):=⟨rfl,rfl,rfl,by decide +kernel,rfl,by decide +kernel,by decide +kernel⟩
abbrev zcx:List Str:=["lying","case","played","struck","casting","line","heated","to_go","hanging","texts","done","waits"]
theorem zaQ:zcx.idxOf? ("lying":Str)=some 0:=by decide +kernel
theorem zbr:zcx.idxOf? ("case":Str)=some 1:=by decide +kernel
theorem zbF:zcx.idxOf? ("played":Str)=some 2:=by decide +kernel
theorem zaB:zcx.idxOf? ("struck":Str)=some 3:=by decide +kernel
theorem zch:zcx.idxOf? ("casting":Str)=some 4:=by decide +kernel
theorem zaJ:zcx.idxOf? ("line":Str)=some 5:=by decide +kernel
theorem zao:zcx.idxOf? ("heated":Str)=some 6:=by decide +kernel
theorem zaO:zcx.idxOf? ("to_go":Str)=some 7:=by decide +kernel
theorem zaw:zcx.idxOf? ("hanging":Str)=some 8:=by decide +kernel
theorem zbQ:zcx.idxOf? ("texts":Str)=some 9:=by decide +kernel
theorem zca:zcx.idxOf? ("done":Str)=some 10:=by decide +kernel
theorem zbR:zcx.idxOf? ("waits":Str)=some 11:=by decide +kernel
abbrev s_Machine_init:Stmt:=zah (top 22) 0
theorem zeL:FnScope ["self","case","keys","casting","broken"] ["self","case","keys","casting","broken"] (zab s_Machine_init):=⟨rfl,rfl,rfl,by decide +kernel,rfl,by decide +kernel,by decide +kernel⟩
abbrev s_Machine_next_key:Stmt:=zah (top 22) 1
theorem zdD:FnScope ["self"] ["self"] (zab s_Machine_next_key):=⟨rfl,rfl,rfl,by decide +kernel,rfl,by decide +kernel,by decide +kernel⟩
theorem zbp:zcx.idxOf? ("next_key":Str)=none:=by decide +kernel
abbrev s_Machine_lacks_matrix:Stmt:=zah (top 22) 2
theorem zcG:FnScope ["self","channel"] ["self"] (zab s_Machine_lacks_matrix):=⟨rfl,rfl,rfl,by decide +kernel,rfl,by decide +kernel,by decide +kernel⟩
theorem zbs:zcx.idxOf? ("lacks_matrix":Str)=none:=by decide +kernel
abbrev s_Machine_stuck:Stmt:=zah (top 22) 3
theorem zeB:FnScope ["self"] ["self"] (zab s_Machine_stuck):=⟨rfl,rfl,rfl,by decide +kernel,rfl,by decide +kernel,by decide +kernel⟩
theorem zcM:zcx.idxOf? ("stuck":Str)=none:=by decide +kernel
abbrev s_Machine_resting:Stmt:=zah (top 22) 4
theorem zdX:FnScope ["self"] ["self"] (zab s_Machine_resting):=⟨rfl,rfl,rfl,by decide +kernel,rfl,by decide +kernel,by decide +kernel⟩
theorem zdT:zcx.idxOf? ("resting":Str)=none:=by decide +kernel
abbrev s_Machine_move_bar:Stmt:=zah (top 22) 5
theorem zdI:FnScope ["self","matrix"] ["self"] (zab s_Machine_move_bar):=⟨rfl,rfl,rfl,by decide +kernel,rfl,by decide +kernel,by decide +kernel⟩
theorem zdL:zcx.idxOf? ("move_bar":Str)=none:=by decide +kernel
abbrev s_Machine_move_caster:Stmt:=zah (top 22) 6
theorem zcP:FnScope ["self"] ["self"] (zab s_Machine_move_caster):=⟨rfl,rfl,rfl,by decide +kernel,rfl,by decide +kernel,by decide +kernel⟩
theorem zcR:zcx.idxOf? ("move_caster":Str)=none:=by decide +kernel
abbrev s_Machine_move_line:Stmt:=zah (top 22) 7
theorem zdu:FnScope ["self","key"] ["self"] (zab s_Machine_move_line):=⟨rfl,rfl,rfl,by decide +kernel,rfl,by decide +kernel,by decide +kernel⟩
theorem zdp:zcx.idxOf? ("move_line":Str)=none:=by decide +kernel
abbrev s_Machine_send_line:Stmt:=zah (top 22) 8
theorem zds:FnScope ["self"] ["self"] (zab s_Machine_send_line):=⟨rfl,rfl,rfl,by decide +kernel,rfl,by decide +kernel,by decide +kernel⟩
theorem zdq:zcx.idxOf? ("send_line":Str)=none:=by decide +kernel
abbrev s_Machine_take:Stmt:=zah (top 22) 9
theorem zeP:FnScope ["self","part"] ["self","part"] (zab s_Machine_take):=⟨rfl,rfl,rfl,by decide +kernel,rfl,by decide +kernel,by decide +kernel⟩
theorem zcV:zcx.idxOf? ("take":Str)=none:=by decide +kernel
abbrev s_Machine_tick:Stmt:=zah (top 22) 10
theorem zfg:FnScope ["self"] ["self"] (zab s_Machine_tick):=⟨rfl,rfl,rfl,by decide +kernel,rfl,by decide +kernel,by decide +kernel⟩
theorem zfb:zcx.idxOf? ("tick":Str)=none:=by decide +kernel
abbrev s_Machine_slugs:Stmt:=zah (top 22) 13
theorem zey:FnScope ["self"] ["self"] (zab s_Machine_slugs):=⟨rfl,rfl,rfl,by decide +kernel,rfl,by decide +kernel,by decide +kernel⟩
theorem zbT:zcx.idxOf? ("slugs":Str)=none:=by decide +kernel
abbrev s_Machine_channels:Stmt:=zah (top 22) 15
theorem zdF:FnScope ["self"] ["self"] (zab s_Machine_channels):=⟨rfl,rfl,rfl,by decide +kernel,rfl,by decide +kernel,by decide +kernel⟩
theorem zbl:zcx.idxOf? ("channels":Str)=none:=by decide +kernel
abbrev s_Machine_gathered:Stmt:=zah (top 22) 17
theorem zdC:FnScope ["self"] ["self"] (zab s_Machine_gathered):=⟨rfl,rfl,rfl,by decide +kernel,rfl,by decide +kernel,by decide +kernel⟩
theorem zbo:zcx.idxOf? ("gathered":Str)=none:=by decide +kernel
abbrev s_Machine_in_caster:Stmt:=zah (top 22) 18
theorem zdt:FnScope ["self"] ["self"] (zab s_Machine_in_caster):=⟨rfl,rfl,rfl,by decide +kernel,rfl,by decide +kernel,by decide +kernel⟩
theorem zbU:zcx.idxOf? ("in_caster":Str)=none:=by decide +kernel
abbrev s_Machine_bar:Stmt:=zah (top 22) 19
theorem zfz:FnScope ["self"] ["self"] (zab s_Machine_bar):=⟨rfl,rfl,rfl,by decide +kernel,rfl,by decide +kernel,by decide +kernel⟩
theorem zdx:zcx.idxOf? ("bar":Str)=none:=by decide +kernel
set_option genInjectivity false
set_option genSizeOf false
structure Ad where
 f_wall:Addr
 d_wall:FuncData
 f_has_all:Addr
 d_has_all:FuncData
 f_falls_at:Addr
 d_falls_at:FuncData
 f_channel_of:Addr
 d_channel_of:FuncData
 f_codes_of_:Addr
 d_codes_of_:FuncData
 f_is_sign_key:Addr
 d_is_sign_key:FuncData
 f_goes_on:Addr
 d_goes_on:FuncData
 f_look_at_keys:Addr
 d_look_at_keys:FuncData
 f_can_break:Addr
 d_can_break:FuncData
 f_channels_of:Addr
 d_channels_of:FuncData
 f_law_cell_at:Addr
 d_law_cell_at:FuncData
 f_law_mixed:Addr
 d_law_mixed:FuncData
 f_law_bits:Addr
 d_law_bits:FuncData
 f_law_teeth:Addr
 d_law_teeth:FuncData
 f_law_case:Addr
 d_law_case:FuncData
 f_law_lines:Addr
 d_law_lines:FuncData
 f_law_keys:Addr
 d_law_keys:FuncData
 f_law_broken:Addr
 d_law_broken:FuncData
 f_law_all:Addr
 d_law_all:FuncData
 f_law_seen:Addr
 d_law_seen:FuncData
 f_law_own:Addr
 d_law_own:FuncData
 f_law:Addr
 d_law:FuncData
 c_Machine:Addr
 f_Machine_init:Addr
 d_Machine_init:FuncData
 f_Machine_next_key:Addr
 d_Machine_next_key:FuncData
 f_Machine_lacks_matrix:Addr
 d_Machine_lacks_matrix:FuncData
 f_Machine_stuck:Addr
 d_Machine_stuck:FuncData
 f_Machine_resting:Addr
 d_Machine_resting:FuncData
 f_Machine_move_bar:Addr
 d_Machine_move_bar:FuncData
 f_Machine_move_caster:Addr
 d_Machine_move_caster:FuncData
 f_Machine_move_line:Addr
 d_Machine_move_line:FuncData
 f_Machine_send_line:Addr
 d_Machine_send_line:FuncData
 f_Machine_take:Addr
 d_Machine_take:FuncData
 f_Machine_tick:Addr
 d_Machine_tick:FuncData
 f_Machine_slugs:Addr
 d_Machine_slugs:FuncData
 f_Machine_channels:Addr
 d_Machine_channels:FuncData
 f_Machine_gathered:Addr
 d_Machine_gathered:FuncData
 f_Machine_in_caster:Addr
 d_Machine_in_caster:FuncData
 f_Machine_bar:Addr
 d_Machine_bar:FuncData
 t_GAP_KEY:Tok
 t_SEND_KEY:Tok
 t_WEDGE:Tok
structure Tx (K:PySem.W.Frag) (mg:Str->Option Value) (a:Ad):Prop where
 wall:D K mg "_wall" s_wall ["k"] a.f_wall a.d_wall
 has_all:D K mg "has_all" s_has_all ["teeth","others"] a.f_has_all a.d_has_all
 falls_at:D K mg "falls_at" s_falls_at ["codes","teeth"] a.f_falls_at a.d_falls_at
 channel_of:D K mg "channel_of" s_channel_of ["case","sign"] a.f_channel_of a.d_channel_of
 codes_of_:D K mg "codes_of" s_codes_of_ ["case"] a.f_codes_of_ a.d_codes_of_
 is_sign_key:D K mg "is_sign_key" s_is_sign_key ["key"] a.f_is_sign_key a.d_is_sign_key
 goes_on:D K mg "goes_on" s_goes_on ["case","keys","at"] a.f_goes_on a.d_goes_on
 look_at_keys:D K mg "look_at_keys" s_look_at_keys ["case","keys"] a.f_look_at_keys a.d_look_at_keys
 can_break:D K mg "can_break" s_can_break ["case","ahead","channel","teeth"] a.f_can_break a.d_can_break
 channels_of:D K mg "channels_of" s_channels_of ["case","broken"] a.f_channels_of a.d_channels_of
 law_cell_at:D K mg "_law_cell_at" s_law_cell_at ["_law_script","_law_k"] a.f_law_cell_at a.d_law_cell_at
 law_mixed:D K mg "_law_mixed" s_law_mixed ["_law_cell","_law_k"] a.f_law_mixed a.d_law_mixed
 law_bits:D K mg "_law_bits" s_law_bits ["_law_one"] a.f_law_bits a.d_law_bits
 law_teeth:D K mg "_law_teeth" s_law_teeth ["_law_number","_law_many"] a.f_law_teeth a.d_law_teeth
 law_case:D K mg "_law_case" s_law_case ["_law_script","_law_most"] a.f_law_case a.d_law_case
 law_lines:D K mg "_law_lines" s_law_lines ["_law_cells","_law_case_here"] a.f_law_lines a.d_law_lines
 law_keys:D K mg "_law_keys" s_law_keys ["_law_lines_here"] a.f_law_keys a.d_law_keys
 law_broken:D K mg "_law_broken" s_law_broken ["_law_case_here","_law_cell"] a.f_law_broken a.d_law_broken
 law_all:D K mg "_law_all" s_law_all ["_law_machine"] a.f_law_all a.d_law_all
 law_seen:D K mg "_law_seen" s_law_seen ["_law_machine"] a.f_law_seen a.d_law_seen
 law_own:D K mg "_law_own" s_law_own ["_law_machine","_law_case_here"] a.f_law_own a.d_law_own
 law:D K mg "law" s_law ["_law_script"] a.f_law a.d_law
 Machine:DI K mg "Machine" "Machine.__init__" s_Machine_init ["self","case","keys","casting","broken"] a.c_Machine a.f_Machine_init a.d_Machine_init
 Machine_next_key:DM K "next_key" "Machine.next_key" s_Machine_next_key ["self"] a.c_Machine a.f_Machine_next_key a.d_Machine_next_key
 Machine_lacks_matrix:DM K "lacks_matrix" "Machine.lacks_matrix" s_Machine_lacks_matrix ["self"] a.c_Machine a.f_Machine_lacks_matrix a.d_Machine_lacks_matrix
 Machine_stuck:DM K "stuck" "Machine.stuck" s_Machine_stuck ["self"] a.c_Machine a.f_Machine_stuck a.d_Machine_stuck
 Machine_resting:DM K "resting" "Machine.resting" s_Machine_resting ["self"] a.c_Machine a.f_Machine_resting a.d_Machine_resting
 Machine_move_bar:DM K "move_bar" "Machine.move_bar" s_Machine_move_bar ["self"] a.c_Machine a.f_Machine_move_bar a.d_Machine_move_bar
 Machine_move_caster:DM K "move_caster" "Machine.move_caster" s_Machine_move_caster ["self"] a.c_Machine a.f_Machine_move_caster a.d_Machine_move_caster
 Machine_move_line:DM K "move_line" "Machine.move_line" s_Machine_move_line ["self"] a.c_Machine a.f_Machine_move_line a.d_Machine_move_line
 Machine_send_line:DM K "send_line" "Machine.send_line" s_Machine_send_line ["self"] a.c_Machine a.f_Machine_send_line a.d_Machine_send_line
 Machine_take:DM K "take" "Machine.take" s_Machine_take ["self","part"] a.c_Machine a.f_Machine_take a.d_Machine_take
 Machine_tick:DM K "tick" "Machine.tick" s_Machine_tick ["self"] a.c_Machine a.f_Machine_tick a.d_Machine_tick
 Machine_slugs:DM K "slugs" "Machine.slugs" s_Machine_slugs ["self"] a.c_Machine a.f_Machine_slugs a.d_Machine_slugs
 Machine_channels:DM K "channels" "Machine.channels" s_Machine_channels ["self"] a.c_Machine a.f_Machine_channels a.d_Machine_channels
 Machine_gathered:DM K "gathered" "Machine.gathered" s_Machine_gathered ["self"] a.c_Machine a.f_Machine_gathered a.d_Machine_gathered
 Machine_in_caster:DM K "in_caster" "Machine.in_caster" s_Machine_in_caster ["self"] a.c_Machine a.f_Machine_in_caster a.d_Machine_in_caster
 Machine_bar:DM K "bar" "Machine.bar" s_Machine_bar ["self"] a.c_Machine a.f_Machine_bar a.d_Machine_bar
 n_Machine_lying:zbP K a.c_Machine "lying"
 n_Machine_case:zbP K a.c_Machine "case"
 n_Machine_played:zbP K a.c_Machine "played"
 n_Machine_struck:zbP K a.c_Machine "struck"
 n_Machine_casting:zbP K a.c_Machine "casting"
 n_Machine_line:zbP K a.c_Machine "line"
 n_Machine_heated:zbP K a.c_Machine "heated"
 n_Machine_to_go:zbP K a.c_Machine "to_go"
 n_Machine_hanging:zbP K a.c_Machine "hanging"
 n_Machine_texts:zbP K a.c_Machine "texts"
 n_Machine_done:zbP K a.c_Machine "done"
 n_Machine_waits:zbP K a.c_Machine "waits"
 kw_Machine:KBM K a.d_Machine_init ["self","case","keys","casting","broken"] "broken"
 g_GAP_KEY:mg "GAP_KEY"=some (.str " " a.t_GAP_KEY)
 g_SEND_KEY:mg "SEND_KEY"=some (.str "/" a.t_SEND_KEY)
 g_WEDGE:mg "WEDGE"=some (.str " " a.t_WEDGE)
 b_ValueError:mg "ValueError"=none
 b_enumerate:mg "enumerate"=none
 b_int:mg "int"=none
 b_len:mg "len"=none
 b_list:mg "list"=none
 b_range:mg "range"=none
 b_sorted:mg "sorted"=none
abbrev lawLevel:Nat:=8
end
end Lw
namespace Lw
open PySem L2
set_option maxHeartbeats 4000000
section
variable {P:Program} {w:World} {K:PySem.W.Frag} {mg:Str->Option Value} {base:Heap} {a:Ad}
local macro_rules | `(tactic| walk_at "hk")=>`(tactic| first | assumption | exact upd_same | exact zae (by assumption) _ _ _ (by walk_at "hk"))
local macro_rules | `(tactic| walk_at "rd1")=>`(tactic| first | (with_reducible refine hideAll ?_;intro Dzz σzz) | with_reducible refine gNameH ?_ | refine ⟨_,rfl,?_⟩ | refine ⟨_,_,rfl,rfl,?_⟩ | refine ⟨_,_,_,_,rfl,rfl,SqL.of (by walk_at "hk"),(by assumption),?_⟩ | refine And.intro rfl ?_ | refine And.intro (Nat.le_of_ble_eq_true rfl) ?_ | refine And.intro (by first | decide | omega) ?_ | refine And.intro ⟨by first | decide | omega,by first | decide | omega⟩ ?_ | refine And.intro (.inl ⟨by first | decide | omega,by first | decide | omega⟩) ?_ | refine And.intro (.inr ⟨by first | decide | omega,by first | decide | omega⟩) ?_ | refine ⟨_,_,rfl,SqT.of (by first | exact upd_same | assumption),rfl,?_⟩ | refine ⟨_,_,_,rfl,(by assumption),rfl,?_⟩ | refine ⟨_,_,rfl,(by assumption),?_⟩)
local macro_rules | `(tactic| walk_at "rd")=>`(tactic| repeat (walk_at "rd1"))
local macro_rules | `(tactic| walk_at "tg")=>`(tactic| refine ⟨_,_,rfl,?_⟩)
def zgY:Sp:=fun vs H Q _=>∃ c k:Int,vs=[.int c,.int k]/\0<=k/\k<=1000000/\∀ z,0<=z->z < 2147483647->Q (.int z) H
theorem zcX (T:Tx K mg a):FnOk P w K mg base CX0 1 a.f_law_mixed a.d_law_mixed ["_law_cell","_law_k"] zgY:=by
 refine T.law_mixed.fn.ok zhp (fun vs H Q E h=>?_) (fun cdv A outer s H vs Q E hr h=>?_)
 ·obtain ⟨c,k,rfl,_⟩:=h
  rfl
 obtain ⟨c,k,rfl,h0,h1,q⟩:=h
 refine ⟨_,(zaf (zav (zap zbA (zap zeU (zap zaP (zap zaP (zap zaP (zap zbA (pv 0) zag) (zap zeU (zap zeU zag (pv 1)) (pv 1))) (pv 1)) zag) zag) zag))),?_⟩
 walk_at "rd"
 exact q _ (Int.emod_nonneg _ (by decide)) (Int.emod_lt_of_pos _ (by decide))
theorem znT:∀ c:Nat,c < 128->Mt.pc (c:Int)=((c % 2:Nat):Int)+Mt.pc ((c / 2:Nat):Int):=by decide +kernel
def zhP:Sp:=fun vs H Q _=>∃ c:Nat,vs=[.int (c:Int)]/\c < 128/\Q (.int (Mt.pc (c:Int))) H
theorem zie (T:Tx K mg a):FnOk P w K mg base CX0 1 a.f_law_bits a.d_law_bits ["_law_one"] zhP:=by
 refine T.law_bits.fn.ok zix (fun vs H Q E h=>?_) (fun cdv A outer s H vs Q E hr h=>?_)
 ·obtain ⟨c,rfl,_⟩:=h
  rfl
 obtain ⟨c,rfl,hc,q⟩:=h
 refine ⟨_,(zac (zay (i:=1) zix.nd rfl (Or.inl rfl) zag)
  (zac (zgm PassesOwn.never (zaA zhK (pv 0) zag (zas _)) (zac (zay (i:=1) zix.nd rfl (Or.inl rfl) (zap zaP (pv 1) (zap zbA (pv 0) zag)))
  (zaf (zay (i:=0) zix.nd rfl (Or.inl rfl) (zap zcm (pv 0) zag)))))
  (zaf (zav (pv 1))))),?_⟩
 walk_at "rd"
 refine ⟨fun m σ H2=>∃ (n:Nat) (s0:Int),σ=[some (.int (n:Int)),some (.int s0)]/\H2=H/\n < 128/\s0+Mt.pc (n:Int)=Mt.pc (c:Int)/\n=m,⟨c,c,0,rfl,rfl,hc,by omega,rfl⟩,?_⟩
 rintro m σ H2 ⟨n,s0,rfl,rfl,hn,hs,rfl⟩
 walk_at "rd"
 refine ite2 (fun c1=>?_) (fun c1=>?_)
 ·have c1:(0:Int) < (n:Int):=of_decide_eq_true c1
  refine ⟨fun σ' H'=>∃ (n':Nat) (s1:Int),σ'=[some (.int (n':Int)),some (.int s1)]/\H'=H2/\n' < 128/\s1+Mt.pc (n':Int)=Mt.pc (c:Int)/\n' < n,fun σ' H' ⟨n',s1,e1,e2,e3,e4,e5⟩=>⟨n',e5,n',s1,e1,e2,e3,e4,rfl⟩,?_⟩
  have hst:=znT n hn
  refine ⟨_,rfl,?_⟩
  refine ⟨_,rfl,?_⟩
  refine ⟨_,_,rfl,rfl,by show (0:Int) < 2;decide,?_⟩
  refine ⟨_,_,rfl,rfl,?_⟩
  refine ⟨_,rfl,?_⟩
  walk_at "rd1"
  walk_at "rd1"
  refine ⟨n / 2,s0+((n % 2:Nat):Int),?_,rfl,by omega,by omega,by omega⟩
  rw [Int.natCast_ediv,Int.natCast_emod]
  rfl
 ·have c1:¬ (0:Int) < (n:Int):=fun z=>c1 (decide_eq_true z)
  have h0:n=0:=by omega
  subst h0
  walk_at "rd"
  have e:s0=Mt.pc (c:Int):=by
   have:Mt.pc ((0:Nat):Int)=0:=by decide +kernel
   omega
  rw [<- e] at q
  exact q
def zfp (K:PySem.W.Frag):Sp:=fun vs H Q _=>∃ (l:Addr) (k:Nat) (ns:List Int),vs=[.ref l,.int (k:Int)]/\SqL K H l (ns.map V.int)/\Q (.int (ns.getD k 0)) H
theorem zdy (T:Tx K mg a):FnOk P w K mg base CX0 1 a.f_law_cell_at a.d_law_cell_at ["_law_script","_law_k"] (zfp K):=by
 refine T.law_cell_at.fn.ok zfu (fun vs H Q E h=>?_) (fun cdv A outer s H vs Q E hr h=>?_)
 ·obtain ⟨l,k,ns,rfl,_⟩:=h
  rfl
 obtain ⟨l,k,ns,rfl,hS,q⟩:=h
 refine ⟨_,(zac (zcb (zaA zmh (pv 1) (zaY (zdj K rfl) rfl T.b_len zcZ (zaa (pv 0) zad)) (zas _)) (zaf (zav (zbv (zaM K rfl) (pv 0) (pv 1) (fun _ _=>rfl)))) zaI)
  (zaf (zav zag))),?_⟩
 walk_at "rd"
 refine ⟨l,_,rfl,.inl hS,?_⟩
 walk_at "rd"
 refine ite2 (fun c=>?_) (fun c=>?_)
 ·have c':(k:Int) < ((ns.map V.int).length:Int):=of_decide_eq_true c
  rw [List.length_map] at c'
  have hk:k < ns.length:=by omega
  walk_at "rd"
  refine ⟨l,_,_,.int (ns.getD k 0),rfl,rfl,hS,zbw ?_,q⟩
  rw [List.getElem?_map,List.getD_eq_getElem?_getD,List.getElem?_eq_getElem hk]
  rfl
 ·have c':¬ (k:Int) < ((ns.map V.int).length:Int):=fun z=>c (decide_eq_true z)
  rw [List.length_map] at c'
  rw [List.getD_eq_getElem?_getD,List.getElem?_eq_none (by omega)] at q
  exact q
theorem zkW (z:Int):∀ zs:List Int,inV (.int z) (zs.map V.int)=decide (z ∈ zs)
 | []=>rfl
 | y :: zs=>by
   have ih:=zkW z zs
   unfold inV at ih ⊢
   rw [List.map_cons,List.any_cons,ih]
   have e:eqV (V.int y) (V.int z)=decide (z=y):=by
    show (y == z)=_
    rw [Bool.eq_iff_iff,beq_iff_eq,decide_eq_true_iff]
    exact eq_comm
   rw [e,<- Bool.decide_or,decide_eq_decide]
   exact List.mem_cons.symm
theorem zhm:∀ zs:List Int,(zs.map V.int).all zfZ=true
 | []=>rfl
 | y :: zs=>by
   rw [List.map_cons,List.all_cons,zhm zs]
   rfl
/-- how far the next number is that is not among these -/
theorem zrZ {ts:List Int} (h:ts.length < 128) (c:Nat):∃ d,d < 128/\(((c+d) % 128:Nat):Int) ∉ ts:=by
 by_cases z:∃ d,d < 128/\(((c+d) % 128:Nat):Int) ∉ ts
 ·exact z
 ·exfalso
  have all:∀ d,d < 128->(((c+d) % 128:Nat):Int) ∈ ts:=fun d hd=>by
   by_cases y:(((c+d) % 128:Nat):Int) ∈ ts
   ·exact y
   ·exact absurd ⟨d,hd,y⟩ z
  have hn:((List.range 128).map fun d=>(((c+d) % 128:Nat):Int)).Nodup:=by
   rw [List.nodup_iff_pairwise_ne,List.pairwise_map]
   refine (List.pairwise_lt_range (n:=128)).imp_of_mem fun {x y} hx hy hxy e=>?_
   have h1:=List.mem_range.mp hx
   have h2:=List.mem_range.mp hy
   omega
  have hf:=Cs.zgk hn (ys:=ts) fun x hx=>by
   obtain ⟨d,hd,e⟩:=List.mem_map.mp hx
   rw [<- e]
   exact all d (List.mem_range.mp hd)
  rw [List.length_map,List.length_range] at hf
  omega
def zhI:Sp:=fun vs H Q _=>∃ (n:Int) (m:Nat),vs=[.int n,.int (m:Int)]/\0<=n/\n < 2147483647/\1<=m/\m<=30 /\
 ∀ (r:Addr) (ts:List Int) (H':Hp),H r=none->Same H H'->H' r=some (.lst (ts.map V.int))->ts.length=m->(∀ t ∈ ts,0<=t/\t < 128)->ts.Nodup->ts.Pairwise (fun a b=>HT.zbc (Mt.rk b) (Mt.rk a)=false)->Q (.ref r) H'
theorem zhw (T:Tx K mg a):FnOk P w K mg base CX0 2 a.f_law_teeth a.d_law_teeth ["_law_number","_law_many"] zhI:=by
 have G_law_bits:=zie (P:=P) (w:=w) (base:=base) T
 refine T.law_teeth.fn.ok zgT (fun vs H Q E h=>?_) (fun cdv A outer s H vs Q E hr h=>?_)
 ·obtain ⟨n,m,rfl,_⟩:=h
  rfl
 obtain ⟨n,m,rfl,hn0,hn1,hm1,hm30,q⟩:=h
 refine ⟨_,(zac (zay (i:=2) zgT.nd rfl (Or.inl rfl) (zaD zad))
  (zac (zcO PassesOwn.never rfl (zeW rfl T.b_range (zaa (pv 1) zad)) (zal (i:=3) zgT.nd rfl (Or.inl rfl)) (zac (zay (i:=0) zgT.nd rfl (Or.inl rfl) (zap zbA (zap zeU (zap zaP (zap zaP (pv 0) (pv 3)) zag) zag) zag))
  (zac (zay (i:=4) zgT.nd rfl (Or.inl rfl) (zap zbA (zap zcm (pv 0) zag) zag))
  (zac (zgm PassesOwn.never (zaA (znQ K rfl) (pv 4) (pv 2) (by with_unfolding_all rfl)) (zaf (zay (i:=4) zgT.nd rfl (Or.inl rfl) (zap zbA (zap zaP (pv 4) zag) zag))))
  (zaf (zaR (zbD K rfl PySem.F.plainAttrs_list PySem.F.slot_list_append PySem.F.type_list_append zbf (pv 2) (zaa (pv 4) zad))))))))
  (zaf (zav (zbW rfl (zbi K rfl (zaY (zod K rfl) rfl T.b_sorted zgM (zaa (zbW rfl (zbi K rfl (pv 2)) (BlkOk.of (N':=["_law_number","_law_many","_law_teeth_here","_law_k","_law_one"]) (ms:=[4]) (k:=0) (by rfl)) (fun _ _ _ _ _=>(zal (i:=4) (show List.Nodup (["_law_number","_law_many","_law_teeth_here","_law_k","_law_one"]:List Str) from by decide +kernel) rfl (Or.inl rfl))) (fun _ _ _ _ _=>zdE) (fun _ _ _ _ _=>(zht (zaa (zbe T.law_bits G_law_bits hr rfl (zaa (pv 4) zad)) (zaa (pv 4) zad))))) zad))) (BlkOk.of (N':=["_law_number","_law_many","_law_teeth_here","_law_k","_law_one","_law_bits_here"]) (ms:=[4]) (k:=1) (by rfl)) (fun _ _ _ _ _=>(zbB K rfl (n:=2) rfl (zam (zal (i:=5) (show List.Nodup (["_law_number","_law_many","_law_teeth_here","_law_k","_law_one","_law_bits_here"]:List Str) from by decide +kernel) rfl (Or.inl rfl)) (zam (zal (i:=4) (show List.Nodup (["_law_number","_law_many","_law_teeth_here","_law_k","_law_one","_law_bits_here"]:List Str) from by decide +kernel) rfl (Or.inl rfl)) zbz)))) (fun _ _ _ _ _=>zdE) (fun _ _ _ _ _=>(pv 4))))))),?_⟩
 walk_at "rd"
 intro l hl
 have hs1:=zae hl (.lst [])
 have h1l:upd H l (.lst []) l=some (.lst (([]:List Int).map V.int)):=upd_same
 generalize upd H l (.lst [])=H1 at hs1 h1l ⊢
 walk_at "rd"
 refine zff (lo:=0) (n:=((m:Nat):Int).toNat) (fun i σ H2=>∃ (nn:Int) (ts:List Int) (v3 v4:Option V),σ=[some (.int nn),some (.int (m:Int)),some (.ref l),v3,v4]/\Same H H2/\H2 l=some (.lst (ts.map V.int))/\0<=nn/\nn < 2147483647/\ts.length=i/\(∀ t ∈ ts,0<=t/\t < 128)/\ts.Nodup)
  ⟨n,[],none,none,rfl,hs1,h1l,hn0,hn1,rfl,(fun t h=>by cases h),List.nodup_nil⟩ ?_ ?_
 ·rintro i σ H2 hi ⟨nn,ts,v3,v4,rfl,hs2,h2l,hnn0,hnn1,htl,htb,htn⟩
  rw [Int.zero_add]
  walk_at "rd"
  have hnum0:=Int.emod_nonneg ((nn+(i:Int)+1) * 69621) (show (2147483647:Int) ≠ 0 by decide)
  have hnum1:=Int.emod_lt_of_pos ((nn+(i:Int)+1) * 69621) (show (0:Int) < 2147483647 by decide)
  have hc0:0<=(nn+(i:Int)+1) * 69621 % 2147483647 / 7 % 128/\(nn+(i:Int)+1) * 69621 % 2147483647 / 7 % 128 < 128:=by omega
  generalize hce:(nn+(i:Int)+1) * 69621 % 2147483647 / 7 % 128=ce at hc0
  obtain ⟨cn,rfl⟩:=Int.eq_ofNat_of_zero_le hc0.1
  have hcn:cn < 128:=by omega
  obtain ⟨d0,hd0,hd1⟩:=zrZ (ts:=ts) (by omega) cn
  have est:(([some (.int nn),some (.int (m:Int)),some (.ref l),v3,v4]:St).set 3 (some (.int (i:Int)))).set 0 (some (.int ((nn+(i:Int)+1) * 69621 % 2147483647)))=[some (.int ((nn+(i:Int)+1) * 69621 % 2147483647)),some (.int (m:Int)),some (.ref l),some (.int (i:Int)),v4]:=rfl
  refine ⟨fun mm σ H3=>∃ c:Nat,σ=[some (.int ((nn+(i:Int)+1) * 69621 % 2147483647)),some (.int (m:Int)),some (.ref l),some (.int (i:Int)),some (.int (c:Int))]/\H3=H2/\c < 128/\(((c+mm) % 128:Nat):Int) ∉ ts,⟨d0,cn,by rw [<- hce];rfl,rfl,hcn,hd1⟩,?_⟩
  rintro mm σ H3 ⟨c,rfl,rfl,hc,hmm⟩
  refine ⟨_,rfl,?_⟩
  refine ⟨_,rfl,?_⟩
  refine ⟨l,_,rfl,.inl (SqL.of h2l),rfl,zhm _,?_⟩
  rw [if_neg (by decide),zkW]
  refine ⟨_,rfl,?_⟩
  refine ite2 (fun c1=>?_) (fun c1=>?_)
  ·have c1:(c:Int) ∈ ts:=of_decide_eq_true c1
   have hm0:mm ≠ 0:=fun z=>by
    rw [z,Nat.add_zero,Nat.mod_eq_of_lt hc] at hmm
    exact hmm c1
   refine ⟨fun σ' H'=>∃ c':Nat,σ'=[some (.int ((nn+(i:Int)+1) * 69621 % 2147483647)),some (.int (m:Int)),some (.ref l),some (.int (i:Int)),some (.int (c':Int))]/\H'=H3/\c' < 128/\(((c'+(mm - 1)) % 128:Nat):Int) ∉ ts,fun σ' H' ⟨c',e1,e2,e3,e4⟩=>⟨mm - 1,by omega,c',e1,e2,e3,e4⟩,?_⟩
   refine ⟨_,rfl,?_⟩
   refine ⟨_,_,rfl,rfl,?_⟩
   refine ⟨_,_,rfl,rfl,by show (0:Int) < 128;decide,?_⟩
   refine ⟨(c+1) % 128,?_,rfl,Nat.mod_lt _ (by decide),?_⟩
   ·rw [Int.natCast_emod,Int.natCast_add]
    rfl
   ·rw [Nat.mod_add_mod,show c+1+(mm - 1)=c+mm by omega]
    exact hmm
  ·have c1:(c:Int) ∉ ts:=fun z=>c1 (decide_eq_true z)
   refine ⟨_,rfl,?_⟩
   refine ⟨.inl ⟨rfl,_,SqL.of h2l⟩,?_⟩
   refine ⟨_,rfl,?_⟩
   refine ⟨l,_,_,rfl,rfl,h2l,zco (by rw [List.length_map];omega),?_⟩
   refine ⟨_,ts++[(c:Int)],_,_,rfl,zax hs2 hl,by rw [upd_same,List.map_append];rfl,hnum0,hnum1,by rw [List.length_append,htl];rfl,fun t ht=>?_,?_⟩
   ·rcases List.mem_append.mp ht with h | h
    ·exact htb t h
    ·rw [List.mem_singleton.mp h]
     omega
   ·rw [List.nodup_append]
    refine ⟨htn,by simp,fun x hx y hy=>?_⟩
    rw [List.mem_singleton.mp hy]
    exact fun e=>c1 (e ▸ hx)
 ·rintro σ H2 ⟨nn,ts,v3,v4,rfl,hs2,h2l,hnn0,hnn1,htl,htb,htn⟩
  have hmi:((m:Nat):Int).toNat=m:=by omega
  rw [hmi] at htl
  refine ⟨_,rfl,?_⟩
  refine ⟨l,rfl,⟨_,SqL.of h2l⟩,fun D hD=>?_⟩
  refine zbh (a:=l) (xs:=ts.map V.int) (fun i ys σ H3=>∃ (us:List TI2) (v4':Option V),ys=zcC us/\σ=[some (.int nn),some (.int (m:Int)),some (.ref l),v3,v4']/\Same H2 H3/\H3 D=some (.lst ys)/\us.map (·.2)=(ts.take i).map Mt.rk/\∀ t ∈ us,H3 t.1=some (.tup (t.2.map V.int)))
   ?_ ?_ ?_ ?_
  ·exact ⟨[],_,rfl,rfl,zae hD _,upd_same,rfl,fun t h=>nomatch h⟩
  ·exact fun i ys σ H3 _ ⟨_,_,_,_,hs,_⟩=>hs.seq (SqL.of h2l)
  ·rintro i y ys σ H3 hy hil ⟨us,v4',rfl,rfl,hs3,hh3,hus,huu⟩
   obtain ⟨c,rfl,hci⟩:=zcI hy
   have hcb:=htb c (List.mem_of_getElem? hci)
   obtain ⟨cn,rfl⟩:=Int.eq_ofNat_of_zero_le hcb.1
   have hul:us.length<=i:=by
    have:=congrArg List.length hus
    rw [List.length_map,List.length_map,List.length_take] at this
    omega
   walk_at "rd"
   intro t ht
   have hst:=zae ht (.tup [.int (Mt.pc (cn:Int)),.int (cn:Int)])
   have hh4:=hst _ _ hh3
   have htt:upd H3 t (.tup [.int (Mt.pc (cn:Int)),.int (cn:Int)]) t=some (.tup ((Mt.rk (cn:Int)).map V.int)):=upd_same
   refine zfn (ys:=zcC us) hil hh4 ?_ ⟨us++[(t,Mt.rk (cn:Int))],_,?_,rfl,zax (hs3.trans hst) hD,upd_same,?_,?_⟩
   ·unfold zcC
    rw [List.length_map]
    rw [List.length_map] at hil
    omega
   ·unfold zcC
    rw [List.map_append]
    rfl
   ·rw [List.map_append,hus,List.take_add_one,hci,List.map_append]
    rfl
   ·intro u hu
    rcases List.mem_append.mp hu with hu | hu
    ·have h1:=hst _ _ (huu u hu)
     rw [zai (zcq h1 hh4 (fun e=>by cases e))]
     exact h1
    ·rw [List.mem_singleton.mp hu]
     rw [zai (zcq htt hh4 (fun e=>by cases e))]
     exact htt
  ·rintro ys σ H3 ⟨us,v4',rfl,rfl,hs3,hh3,hus,huu⟩
   rw [List.length_map,List.take_of_length_le (Nat.le_refl _)] at hus
   have hul:us.length=ts.length:=by
    have:=congrArg List.length hus
    rw [List.length_map,List.length_map] at this
    exact this
   have hrk:∀ t ∈ us,t.2=Mt.rk (t.2.getD 1 0):=fun t ht=>by
    have:t.2 ∈ ts.map Mt.rk:=by rw [<- hus];exact List.mem_map_of_mem ht
    obtain ⟨c,_,e⟩:=List.mem_map.mp this
    rw [<- e]
    rfl
   refine ⟨D,us,rfl,SqL.of hh3,fun t ht=>⟨SqT.of (huu t ht),?_⟩,by omega,fun l2 ts' hl2 hpm hpw=>?_⟩
   ·rw [hrk t ht]
    exact fun e=>nomatch e
   refine ⟨l2,rfl,⟨_,SqL.of upd_same⟩,fun D3 hD3=>?_⟩
   refine zbh (a:=l2) (xs:=zcC ts') (fun i zs σ H4=>∃ (w4 w5:Option V),zs=((ts'.take i).map fun t=>t.2.getD 1 0).map V.int/\σ=[some (.int nn),some (.int (m:Int)),some (.ref l),v3,w4,w5]/\Same (upd H3 l2 (.lst (zcC ts'))) H4/\H4 D3=some (.lst zs))
    ?_ ?_ ?_ ?_
   ·exact ⟨_,_,rfl,rfl,zae hD3 _,upd_same⟩
   ·exact fun i zs σ H4 _ ⟨_,_,_,_,hs4,_⟩=>SqL.of (hs4 _ _ upd_same)
   ·rintro i y zs σ H4 hy hil ⟨w4,w5,rfl,rfl,hs4,hh4⟩
    have hil':i < ts'.length:=by unfold zcC at hil;rw [List.length_map] at hil;exact hil
    have hti:ts'[i]?=some ts'[i]:=List.getElem?_eq_getElem hil'
    have ey:y=.ref ts'[i].1:=by
     unfold zcC at hy
     rw [List.getElem?_map,hti] at hy
     exact (Option.some.inj hy).symm
    subst ey
    have hmem:ts'[i] ∈ us:=hpm.mem_iff.mp (List.getElem_mem hil')
    have hx:=hs4 _ _ (zae hl2 (.lst (zcC ts')) _ _ (huu _ hmem))
    rw [hrk _ hmem] at hx
    have hx':H4 ts'[i].1=some (.tup [.int (Mt.pc (ts'[i].2.getD 1 0)),.int (ts'[i].2.getD 1 0)]):=hx
    refine ⟨_,_,rfl,SqT.of hx',rfl,?_⟩
    walk_at "tg"
    walk_at "tg"
    walk_at "rd"
    refine zfn hil hh4 ?_ ⟨_,_,?_,rfl,zax hs4 hD3,upd_same⟩
    ·rw [List.length_map,List.length_map,List.length_take,hpm.length_eq,hul]
     omega
    ·rw [List.take_add_one,hti,List.map_append,List.map_append]
     rfl
   ·rintro zs σ H4 ⟨w4,w5,rfl,rfl,hs4,hh4⟩
    have e1:(zcC ts').length=ts'.length:=by unfold zcC;exact List.length_map _
    rw [e1,List.take_of_length_le (Nat.le_refl _)] at hh4
    have hgd:us.map (fun t=>t.2.getD 1 0)=ts:=by
     have:=congrArg (List.map fun l:List Int=>l.getD 1 0) hus
     rw [List.map_map,List.map_map] at this
     rw [show ((fun t:TI2=>t.2.getD 1 0))=(fun l:List Int=>l.getD 1 0) ∘ (fun t:TI2=>t.2) from rfl,this]
     exact List.map_id' ts
    have hpm':(ts'.map fun t=>t.2.getD 1 0).Perm ts:=by
     have:=hpm.map (fun t:TI2=>t.2.getD 1 0)
     rw [hgd] at this
     exact this
    refine q D3 (ts'.map fun t=>t.2.getD 1 0) H4 ?_ ?_ hh4 ?_ ?_ ?_ ?_
    ·exact hs2.free (hs3.free ((zae hl2 _).free hD3))
    ·exact hs2.trans ((zcf hs3 hl2).trans hs4)
    ·rw [hpm'.length_eq,htl]
    ·exact fun t ht=>htb t (hpm'.mem_iff.mp ht)
    ·exact hpm'.nodup_iff.mpr htn
    ·rw [List.pairwise_map]
     refine hpw.imp_of_mem fun {x y} hx hy e=>?_
     rw [<- hrk x (hpm.mem_iff.mp hx),<- hrk y (hpm.mem_iff.mp hy)]
     exact e
/-- rows as the machine laws draw them -/
structure Row41 (most:Int) (rs:List Cs.Row):Prop where
 l1:1<=rs.length
 l2:rs.length<=30
 sg:∀ r ∈ rs,∃ c ∈ Cs.signs,r.s=L2.sg c
 wd:∀ r ∈ rs,1<=r.w/\r.w<=99
 th:∀ r ∈ rs,0<=r.t/\r.t < 128
 mn:∀ r ∈ rs,0<=r.n/\r.n<=most
 nd:(rs.map fun r=>r.t).Nodup
 rt:(rs.map fun r=>r.t).Pairwise (fun a b=>HT.zbc (Mt.rk b) (Mt.rk a)=false)
 pl:∀ (j:Nat) r,rs[j]?=some r->Cs.place rs r.s=some j
def sgn (z:Int):Nat:=Cs.signs.getD z.toNat 0
theorem znL:∀ k:Fin 30,atI (Str.ofString "abcdefghijklmnopqrstuvwxyz.,-'").cps.toList (k.val:Int)=some (sgn (k.val:Int))/\sgn (k.val:Int) ∈ Cs.signs:=by decide +kernel
theorem zrG {z:Int} (h0:0<=z) (h1:z < 30):atI (Str.ofString "abcdefghijklmnopqrstuvwxyz.,-'").cps.toList z=some (sgn z)/\sgn z ∈ Cs.signs:=by
 obtain ⟨k,rfl⟩:=Int.eq_ofNat_of_zero_le h0
 exact znL ⟨k,by omega⟩
theorem zma:∀ j k:Fin 30,sgn (j.val:Int)=sgn (k.val:Int)->j=k:=by decide +kernel
theorem zox {y z:Int} (h0:0<=y/\y < 30) (h1:0<=z/\z < 30) (h:sgn y=sgn z):y=z:=by
 obtain ⟨j,rfl⟩:=Int.eq_ofNat_of_zero_le h0.1
 obtain ⟨k,rfl⟩:=Int.eq_ofNat_of_zero_le h1.1
 have:=zma ⟨j,by omega⟩ ⟨k,by omega⟩ h
 have:=congrArg Fin.val this
 have:j=k:=this
 omega
theorem zlc {rs:List Cs.Row} {b:Int} (hl:rs.length<=30) (h:∀ (j:Nat) r,rs[j]?=some r->r.s=L2.sg (sgn ((b+11 * (j:Int)) % 30))):∀ (j:Nat) r,rs[j]?=some r->Cs.place rs r.s=some j:=fun j r hr=>by
 refine Cs.zfD hr rfl fun i r' hi hr' e=>?_
 have hjl:=(List.getElem?_eq_some_iff.mp hr).1
 rw [h i r' hr',h j r hr] at e
 have e2:=zox (by omega) (by omega) (Mc.zjO e)
 omega
def ziu (K:PySem.W.Frag):Sp:=fun vs H Q _=>∃ (l:Addr) (ns:List Int) (most:Int),vs=[.ref l,.int most]/\SqL K H l (ns.map V.int)/\0<=most/\most<=40 /\
 ∀ (r:Addr) (xs:List V) (rs:List Cs.Row) (H':Hp),H r=none->Same H H'->H' r=some (.lst xs)->Paired (Cs.zce H') xs rs->Row41 most rs->Q (.ref r) H'
theorem ziC (T:Tx K mg a):FnOk P w K mg base CX0 3 a.f_law_case a.d_law_case ["_law_script","_law_most"] (ziu K):=by
 have G_law_cell_at:=zdy (P:=P) (w:=w) (base:=base) T
 have G_law_mixed:=zcX (P:=P) (w:=w) (base:=base) T
 have G_law_teeth:=zhw (P:=P) (w:=w) (base:=base) T
 refine T.law_case.fn.ok zio (fun vs H Q E h=>?_) (fun cdv A outer s H vs Q E hr h=>?_)
 ·obtain ⟨l,ns,most,rfl,_⟩:=h
  rfl
 obtain ⟨l,ns,most,rfl,hS,hm0,hm1,q⟩:=h
 refine ⟨_,(zac (zay (i:=2) zio.nd rfl (Or.inl rfl) zcN)
  (zac (zay (i:=3) zio.nd rfl (Or.inl rfl) (zbe T.law_mixed G_law_mixed hr rfl (zaa (zbe T.law_cell_at G_law_cell_at hr rfl (zaa (pv 0) (zaa zag zad))) (zaa zag zad))))
  (zac (zay (i:=4) zio.nd rfl (Or.inl rfl) (zbe T.law_teeth G_law_teeth hr rfl (zaa (pv 3) (zaa (zap zaP zag (zap zbA (zap zcm (pv 3) zag) (zbv (zaM K rfl) (zaD (zaa zag (zaa zag (zaa zag zad)))) (zap zbA (zap zcm (pv 3) zag) zag) (fun _ _=>rfl)))) zad))))
  (zac (zay (i:=5) zio.nd rfl (Or.inl rfl) (zaD zad))
  (zac (zcO PassesOwn.never rfl (zcE K rfl rfl T.b_enumerate (zaa (pv 4) zad)) (zbB K rfl (n:=2) rfl (zam (zal (i:=6) zio.nd rfl (Or.inl rfl)) (zam (zal (i:=7) zio.nd rfl (Or.inl rfl)) zbz))) (zac (zay (i:=3) zio.nd rfl (Or.inl rfl) (zap zbA (zap zeU (zap zaP (zap zaP (pv 3) (pv 6)) zag) zag) zag))
  (zac (zay (i:=8) zio.nd rfl (Or.inl rfl) (zbv zeZ (pv 2) (zap zbA (zap zaP (zap zcm (zbe T.law_cell_at G_law_cell_at hr rfl (zaa (pv 0) (zaa zag zad))) zag) (zap zeU zag (pv 6))) zag) (fun _ _=>rfl)))
  (zaf (zaR (zbD K rfl PySem.F.plainAttrs_list PySem.F.slot_list_append PySem.F.type_list_append zbf (pv 5) (zaa (zht (zaa (pv 8) (zaa (zap zaP zag (zap zbA (zap zcm (pv 3) zag) zag)) (zaa (pv 7) (zaa (zap zbA (zap zcm (pv 3) zag) (zap zaP (pv 1) zag)) zad))))) zad)))))))
  (zaf (zav (pv 5)))))))),?_⟩
 walk_at "rd"
 refine ⟨l,0,ns,rfl,hS,?_⟩
 walk_at "rd"
 refine ⟨_,_,rfl,by decide,by decide,fun f hf0 hf1=>?_⟩
 obtain ⟨zz,hzz,hz1,hz2⟩:=znz (B:=31) (zs:=[6,6,30]) (by decide) (i:=f / 3000 % 3) (by omega) (by show _ < 3;omega)
 have hz0:1<=zz:=by
  have h3:f / 3000 % 3=0\/f / 3000 % 3=1\/f / 3000 % 3=2:=by omega
  rcases h3 with e | e | e <;> (rw [e] at hzz;cases hzz;decide)
 have hk:0<=f / 3 % zz/\f / 3 % zz < zz:=⟨Int.emod_nonneg _ (by omega),Int.emod_lt_of_pos _ (by omega)⟩
 obtain ⟨k0,hk0⟩:=Int.eq_ofNat_of_zero_le hk.1
 walk_at "rd"
 refine fun eL heL=>?_
 have hsL:=zae heL (.lst [.int 6,.int 6,.int 30])
 have hLL:upd H eL (.lst [.int 6,.int 6,.int 30]) eL=some (.lst [.int 6,.int 6,.int 30]):=upd_same
 generalize upd H eL (.lst [.int 6,.int 6,.int 30])=HL at hsL hLL ⊢
 refine ⟨_,rfl,?_⟩
 refine ⟨_,_,rfl,rfl,⟨by decide,by decide⟩,?_⟩
 refine ⟨_,_,rfl,rfl,by show (0:Int) < 3;decide,?_⟩
 refine ⟨eL,_,_,_,rfl,rfl,SqL.of hLL,hzz,?_⟩
 refine ⟨_,_,rfl,rfl,by show 0 < zz;omega,?_⟩
 refine ⟨_,_,rfl,rfl,?_⟩
 refine ⟨f,k0+1,by rw [hk0];show [V.int f,V.int (1+(k0:Int))]=_;rw [show (1:Int)+(k0:Int)=((k0+1:Nat):Int) by omega],hf0,hf1,by omega,by omega,fun pt ts H1 hpt0 hs1 hpt htl htb htn htp=>?_⟩
 have hs1:=hsL.trans hs1
 walk_at "rd"
 intro rc hrc
 have hs2:=zcf (o:=.lst []) hs1 hrc
 have hs12:=zae hrc (.lst [])
 have h2r:upd H1 rc (.lst []) rc=some (.lst []):=upd_same
 generalize upd H1 rc (.lst [])=H2 at hs2 hs12 h2r ⊢
 have hrc0:=hs1.free hrc
 refine ⟨_,rfl,?_⟩
 refine ⟨pt,rfl,⟨_,SqL.of (hs12 _ _ hpt)⟩,?_⟩
 refine zcH (a:=pt) (xs:=ts.map V.int) (fun i σ H3=>∃ (xs:List V) (rs:List Cs.Row) (nn:Int) (v6 v7 v8:Option V),σ=[some (.ref l),some (.int most),some (.str "abcdefghijklmnopqrstuvwxyz.,-'"),some (.int nn),some (.ref pt),some (.ref rc),v6,v7,v8]/\Same H1 H3/\H3 rc=some (.lst xs)/\Paired (Cs.zce H3) xs rs/\0<=nn/\nn < 2147483647/\(rs.map fun r=>r.t)=ts.take i/\(∀ r ∈ rs,∃ c ∈ Cs.signs,r.s=sg c)/\(∀ r ∈ rs,1<=r.w/\r.w<=99)/\(∀ r ∈ rs,0<=r.n/\r.n<=most)/\(∀ (j:Nat) r,rs[j]?=some r->r.s=sg (sgn ((ns.getD 0 0 / 7+11 * (j:Int)) % 30))))
  ⟨[],[],f,none,none,none,rfl,hs12,h2r,.nil,hf0,hf1,rfl,(fun r h=>by cases h),(fun r h=>by cases h),(fun r h=>by cases h),(fun j r h=>by simp at h)⟩ (by rintro i σ H3 _ ⟨_,_,_,_,_,_,_,hs,_⟩;exact hs.seq (SqL.of hpt)) ?_ ?_
 ·rintro i y tp σ H3 hy ⟨xs,rs,nn,v6,v7,v8,rfl,hs3,hhc,hpd,hn0,hn1,hmt,hsg,hwd,hmn,hsq⟩ htp0
  obtain ⟨c,rfl,hci⟩:=zcI hy
  have hil:i < ts.length:=(List.getElem?_eq_some_iff.mp hci).1
  have hxl:=Cs.zbH hpd
  have hrl:rs.length=i:=by
   have:=congrArg List.length hmt
   rw [List.length_map,List.length_take] at this
   omega
  have hs4:=zae htp0 (.tup [.int i,.int c])
  have h4t:upd H3 tp (.tup [.int i,.int c]) tp=some (.tup [.int i,.int c]):=upd_same
  generalize upd H3 tp (.tup [.int i,.int c])=H4 at hs4 h4t ⊢
  walk_at "rd"
  walk_at "tg"
  walk_at "tg"
  try refine And.intro rfl ?_
  walk_at "rd"
  have hnum0:=Int.emod_nonneg ((nn+(i:Int)+1) * 48271) (show (2147483647:Int) ≠ 0 by decide)
  have hnum1:=Int.emod_lt_of_pos ((nn+(i:Int)+1) * 48271) (show (0:Int) < 2147483647 by decide)
  have hs14:=hs3.trans hs4
  refine ⟨l,0,ns,rfl,(hs1.trans hs14).seq hS,?_⟩
  generalize hc1:ns.getD 0 0=c1 at hsq ⊢
  walk_at "rd"
  obtain ⟨ec,hcs⟩:=zrG (z:=(c1 / 7+11 * (i:Int)) % 30) (by omega) (by omega)
  generalize hcc:sgn ((c1 / 7+11 * (i:Int)) % 30)=cc at ec hcs
  refine ⟨_,_,_,rfl,rfl,by decide,ec,?_⟩
  clear ec
  have hhc4:=hs4 _ _ hhc
  refine ⟨_,rfl,?_⟩
  refine ⟨.inl ⟨rfl,_,SqL.of hhc4⟩,?_⟩
  walk_at "rd"
  intro t ht
  have hz2:=Int.emod_nonneg (((nn+(i:Int)+1) * 48271 % 2147483647) / 500) (show most+1 ≠ 0 by omega)
  have hz3:=Int.emod_lt_of_pos (((nn+(i:Int)+1) * 48271 % 2147483647) / 500) (show 0 < most+1 by omega)
  have hst:=zae ht (.tup (Cs.rowV ⟨sg cc,1+((nn+(i:Int)+1) * 48271 % 2147483647) / 5 % 99,c,((nn+(i:Int)+1) * 48271 % 2147483647) / 500 % (most+1)⟩))
  have hhC:=hst _ _ hhc4
  have htC:upd H4 t (.tup (Cs.rowV ⟨sg cc,1+((nn+(i:Int)+1) * 48271 % 2147483647) / 5 % 99,c,((nn+(i:Int)+1) * 48271 % 2147483647) / 500 % (most+1)⟩)) t=some (.tup (Cs.rowV ⟨sg cc,1+((nn+(i:Int)+1) * 48271 % 2147483647) / 5 % 99,c,((nn+(i:Int)+1) * 48271 % 2147483647) / 500 % (most+1)⟩)):=upd_same
  refine ⟨rc,_,_,rfl,rfl,hhC,zco (by omega),?_⟩
  refine ⟨xs++[.ref t],rs++[⟨sg cc,1+((nn+(i:Int)+1) * 48271 % 2147483647) / 5 % 99,c,((nn+(i:Int)+1) * 48271 % 2147483647) / 500 % (most+1)⟩],_,_,_,_,rfl,zax (hs14.trans hst) hrc,upd_same,?_,hnum0,hnum1,?_,?_,?_,?_,?_⟩
  ·exact Paired.snoc (Cs.zdP (Cs.zaC hpd (hs4.trans hst)) hhC (fun z e=>by cases e)) ⟨t,rfl,by rw [zai (zcq htC hhC (fun e=>by cases e))];exact htC⟩
  ·rw [List.map_append,hmt,List.take_add_one,hci]
   rfl
  ·intro r hr
   rcases List.mem_append.mp hr with h | h
   ·exact hsg r h
   ·rw [List.mem_singleton.mp h]
    exact ⟨cc,hcs,rfl⟩
  ·intro r hr
   rcases List.mem_append.mp hr with h | h
   ·exact hwd r h
   ·rw [List.mem_singleton.mp h]
    show 1<=1+((nn+(i:Int)+1) * 48271 % 2147483647) / 5 % 99/\1+((nn+(i:Int)+1) * 48271 % 2147483647) / 5 % 99<=99
    omega
  ·intro r hr
   rcases List.mem_append.mp hr with h | h
   ·exact hmn r h
   ·rw [List.mem_singleton.mp h]
    show 0<=((nn+(i:Int)+1) * 48271 % 2147483647) / 500 % (most+1)/\((nn+(i:Int)+1) * 48271 % 2147483647) / 500 % (most+1)<=most
    omega
  ·intro j r hr
   try rw [hc1]
   by_cases hj:j < rs.length
   ·rw [List.getElem?_append_left hj] at hr
    exact hsq j r hr
   ·rw [List.getElem?_append_right (by omega)] at hr
    have hj2:j=i:=by
     have:=(List.getElem?_eq_some_iff.mp hr).1
     have:j - rs.length < 1:=this
     omega
    rw [hj2,hrl,Nat.sub_self] at hr
    cases hr
    rw [hj2,hcc]
 ·rintro σ H3 ⟨xs,rs,nn,v6,v7,v8,rfl,hs3,hhc,hpd,hn0,hn1,hmt,hsg,hwd,hmn,hsq⟩
  have hxl:=Cs.zbH hpd
  rw [List.length_map,List.take_of_length_le (Nat.le_refl _)] at hmt
  have hrl:rs.length=k0+1:=by
   have:=congrArg List.length hmt
   rw [List.length_map] at this
   omega
  refine ⟨_,rfl,?_⟩
  exact q rc xs rs H3 hrc0 (hs1.trans hs3) hhc hpd ⟨by omega,by omega,hsg,hwd,fun r hr=>htb _ (by rw [<- hmt];exact List.mem_map_of_mem hr),hmn,by rw [hmt];exact htn,by rw [hmt];exact htp,zlc (by omega) hsq⟩
def zjW:Sp:=fun vs H Q _=>∃ t o:Int,vs=[.int t,.int o]/\0<=t/\0<=o/\o < 128/\Q (.bl (Mt.has t o)) H
theorem zjT (T:Tx K mg a):FnOk P w K mg base CX0 1 a.f_has_all a.d_has_all ["teeth","others"] zjW:=by
 refine T.has_all.fn.ok zfV (fun vs H Q E h=>?_) (fun cdv A outer s H vs Q E hr h=>?_)
 ·obtain ⟨t,o,rfl,_⟩:=h
  rfl
 obtain ⟨t,o,rfl,h1,h2,h3,q⟩:=h
 refine ⟨_,(zaf (zav (zaL zgw (zap zkJ (pv 0) (pv 1)) (pv 1) (zas _)))),?_⟩
 walk_at "rd"
 rw [decV,Mt.zlw h1 h2 h3]
 exact q
def zin (K:PySem.W.Frag):Sp:=fun vs H Q _=>∃ (l:Addr) (t:Int) (cs:List Int),vs=[.ref l,.int t]/\SqL K H l (cs.map V.int)/\(∀ c ∈ cs,0<=c)/\0<=t/\t < 128/\∀ H',Same H H'->Q (Mt.optV (Mt.zbq cs t)) H'
theorem zhQ (T:Tx K mg a):FnOk P w K mg base CX0 2 a.f_falls_at a.d_falls_at ["codes","teeth"] (zin K):=by
 have G_has_all:=zjT (P:=P) (w:=w) (base:=base) T
 refine T.falls_at.fn.ok zif (fun vs H Q E h=>?_) (fun cdv A outer s H vs Q E hr h=>?_)
 ·obtain ⟨l,t,cs,rfl,_⟩:=h
  rfl
 obtain ⟨l,t,cs,rfl,hS,hc,h0,h1,q⟩:=h
 refine ⟨_,(zac (zcO PassesOwn.never rfl (zcE K rfl rfl T.b_enumerate (zaa (pv 0) zad)) (zbB K rfl (n:=2) rfl (zam (zal (i:=2) zif.nd rfl (Or.inl rfl)) (zam (zal (i:=3) zif.nd rfl (Or.inl rfl)) zbz))) (zaf (zcb (zdz (zbe T.has_all G_has_all hr rfl (zaa (pv 3) (zaa (pv 1) zad)))) (zaf (zav (pv 2))) zaI)))
  (zaf (zav znp))),?_⟩
 walk_at "rd"
 refine ⟨⟨_,hS⟩,?_⟩
 refine zcH (a:=l) (xs:=cs.map V.int) (fun i σ H2=>∃ (v1 v2:Option V),σ=[some (.ref l),some (.int t),v1,v2]/\Same H H2/\∀ (j:Nat) c',j < i->cs[j]?=some c'->Mt.has c' t=false)
  ⟨none,none,rfl,Same.refl _,fun j _ h=>absurd h (Nat.not_lt_zero _)⟩ (by rintro i σ H2 _ ⟨_,_,_,hs,_⟩;exact hs.seq hS) ?_ ?_
 ·rintro i y p σ H2 hy ⟨v1,v2,rfl,hs,hb⟩ hp
  obtain ⟨c,rfl,hci⟩:=zcI hy
  have hs2:=zcf (o:=.tup [.int i,.int c]) hs hp
  walk_at "rd"
  walk_at "tg"
  walk_at "tg"
  walk_at "rd"
  refine ⟨_,_,rfl,hc c (List.mem_of_getElem? hci),h0,h1,?_⟩
  walk_at "rd"
  cases e:Mt.has c t with
  | true =>
    refine iteT ?_
    walk_at "rd"
    have:=q _ hs2
    rw [Mt.zfL hci e hb] at this
    exact this
  | false =>
    refine iteF ?_
    refine ⟨_,_,rfl,hs2,fun j c' hj hc'=>?_⟩
    by_cases z:j=i
    ·subst z
     rw [hci] at hc'
     cases hc'
     exact e
    ·exact hb j c' (by omega) hc'
 ·rintro σ H2 ⟨v1,v2,rfl,hs,hb⟩
  have:=q _ hs
  rw [Mt.zkn (fun j c' hj=>hb j c' (by rw [List.length_map];exact hj))] at this
  exact this
def zih:Sp:=fun vs H Q _=>∃ t o:Int,vs=[.int t,.int o]/\Q (.bl (decide (Builtin.bitAnd t o=o))) H
theorem zhS (T:Tx K mg a):FnOk P w K mg base CX0 1 a.f_has_all a.d_has_all ["teeth","others"] zih:=by
 refine T.has_all.fn.ok zfV (fun vs H Q E h=>?_) (fun cdv A outer s H vs Q E hr h=>?_)
 ·obtain ⟨t,o,rfl,_⟩:=h
  rfl
 obtain ⟨t,o,rfl,q⟩:=h
 refine ⟨_,(zaf (zav (zaL zgw (zap zkJ (pv 0) (pv 1)) (pv 1) (zas _)))),?_⟩
 walk_at "rd"
 rw [decV]
 exact q
def zgq (K:PySem.W.Frag):Sp:=fun vs H Q _=>∃ (l:Addr) (x:Str) (rs:List Cs.Row),vs=[.ref l,.str x]/\Cs.zeV K H l rs/\∀ H',Same H H'->Q (Mt.optV (Cs.place rs x)) H'
theorem zcB (T:Tx K mg a):FnOk P w K mg base CX0 1 a.f_channel_of a.d_channel_of ["case","sign"] (zgq K):=by
 refine T.channel_of.fn.ok zgp (fun vs H Q E h=>?_) (fun cdv A outer s H vs Q E hr h=>?_)
 ·obtain ⟨l,x,rs,rfl,_⟩:=h
  rfl
 obtain ⟨l,x,rs,rfl,⟨xs,hS,hp⟩,q⟩:=h
 refine ⟨_,(zac (zcO PassesOwn.never rfl (zcE K rfl rfl T.b_enumerate (zaa (pv 0) zad)) (zbB K rfl (n:=2) rfl (zam (zal (i:=2) zgp.nd rfl (Or.inl rfl)) (zam (zal (i:=3) zgp.nd rfl (Or.inl rfl)) zbz))) (zaf (zcb (zaA zgw (zbv (zdG K rfl) (pv 3) zag (fun _ _=>rfl)) (pv 1) (zas _)) (zaf (zav (pv 2))) zaI)))
  (zaf (zav znp))),?_⟩
 walk_at "rd"
 try refine ⟨⟨_,hS⟩,?_⟩
 refine zcH (a:=l) (xs:=xs) (fun i σ H2=>∃ (v1 v2:Option V),σ=[some (.ref l),some (.str x),v1,v2]/\Same H H2/\∀ (j:Nat) r,j < i->rs[j]?=some r->r.s ≠ x)
  ⟨none,none,rfl,Same.refl _,fun j _ h=>absurd h (Nat.not_lt_zero _)⟩ (by rintro i σ H2 _ ⟨_,_,_,hs,_⟩;exact hs.seq hS) ?_ ?_
 ·rintro i y p σ H2 hy ⟨v1,v2,rfl,hs,hb⟩ hpn
  obtain ⟨r,hri,t,rfl,ht⟩:=Cs.zba hp hy
  have hs2:=zcf (o:=.tup [.int i,.ref t]) hs hpn
  have ht2:=hs2 _ _ ht
  walk_at "rd"
  walk_at "tg"
  walk_at "tg"
  walk_at "rd"
  refine ⟨t,_,_,_,rfl,rfl,SqT.of ht2,rfl,?_⟩
  walk_at "rd"
  rw [Cs.strV]
  by_cases e:r.s=x
  ·rw [decide_eq_true e]
   refine iteT ?_
   walk_at "rd"
   have:=q _ hs2
   rw [Cs.zfD hri e hb] at this
   exact this
  ·rw [decide_eq_false e]
   refine iteF ?_
   refine ⟨_,_,rfl,hs2,fun j r' hj hr'=>?_⟩
   by_cases z:j=i
   ·subst z
    rw [hri] at hr'
    cases hr'
    exact e
   ·exact hb j r' (by omega) hr'
 ·rintro σ H2 ⟨v1,v2,rfl,hs,hb⟩
  have:=q _ hs
  rw [Cs.zfS (fun j r hj=>hb j r (by rw [Cs.zbH hp];exact hj))] at this
  exact this
def zgF (K:PySem.W.Frag):Sp:=fun vs H Q _=>∃ (l:Addr) (rs:List Cs.Row),vs=[.ref l]/\Cs.zeV K H l rs/\rs.length<=1000/\∀ (r:Addr) H',H r=none->Same H H'->H' r=some (.lst ((rs.map fun x=>x.t).map V.int))->Q (.ref r) H'
theorem zgP (T:Tx K mg a):FnOk P w K mg base CX0 1 a.f_codes_of_ a.d_codes_of_ ["case"] (zgF K):=by
 refine T.codes_of_.fn.ok zhD (fun vs H Q E h=>?_) (fun cdv A outer s H vs Q E hr h=>?_)
 ·obtain ⟨l,rs,rfl,_⟩:=h
  rfl
 obtain ⟨l,rs,rfl,⟨xs,hS,hp⟩,hl,q⟩:=h
 refine ⟨_,(zaf (zav (zbW rfl (zbi K rfl (pv 0)) (BlkOk.of (N':=["case","sign","width","teeth","many"]) (ms:=[]) (k:=4) (by rfl)) (fun _ _ _ _ _=>(zbB K rfl (n:=4) rfl (zam (zal (i:=1) (show List.Nodup (["case","sign","width","teeth","many"]:List Str) from by decide +kernel) rfl (Or.inl rfl)) (zam (zal (i:=2) (show List.Nodup (["case","sign","width","teeth","many"]:List Str) from by decide +kernel) rfl (Or.inl rfl)) (zam (zal (i:=3) (show List.Nodup (["case","sign","width","teeth","many"]:List Str) from by decide +kernel) rfl (Or.inl rfl)) (zam (zal (i:=4) (show List.Nodup (["case","sign","width","teeth","many"]:List Str) from by decide +kernel) rfl (Or.inl rfl)) zbz)))))) (fun _ _ _ _ _=>zdE) (fun _ _ _ _ _=>(pv 3))))),?_⟩
 have hxl:=Cs.zbH hp
 walk_at "rd"
 intro D hD
 refine zbh (a:=l) (xs:=xs) (fun i ys σ H2=>∃ (v1 v2 v3 v4:Option V),ys=((rs.take i).map fun x=>x.t).map V.int/\σ=[some (.ref l),v1,v2,v3,v4]/\Same H H2/\H2 D=some (.lst ys))
  ?_ ?_ ?_ ?_
 ·exact ⟨none,none,none,none,rfl,rfl,zae hD _,upd_same⟩
 ·exact fun i ys σ H2 _ ⟨_,_,_,_,_,_,hs,_⟩=>hs.seq hS
 ·rintro i y ys σ H2 hy hil ⟨v1,v2,v3,v4,rfl,rfl,hs,hh⟩
  obtain ⟨r,hri,t,rfl,ht⟩:=Cs.zba hp hy
  have ht2:=hs _ _ ht
  refine ⟨_,_,rfl,SqT.of ht2,rfl,?_⟩
  walk_at "tg"
  walk_at "tg"
  walk_at "tg"
  walk_at "tg"
  walk_at "rd"
  refine zfn hil hh ?_ ⟨_,_,_,_,?_,rfl,zax hs hD,upd_same⟩
  ·rw [List.length_map,List.length_map,List.length_take]
   omega
  ·rw [List.take_add_one,hri,List.map_append,List.map_append]
   rfl
 ·rintro ys σ H2 ⟨v1,v2,v3,v4,rfl,rfl,hs,hh⟩
  rw [hxl,List.take_of_length_le (Nat.le_refl _)] at hh
  exact q D H2 hD hs hh
abbrev MA (a:Ad) (c:Mc.Cf) (H:Hp) (p:Addr) (A:Mc.Adr) (m:Mc.Ms):Prop:=Mc.Mac a.c_Machine zcx c H p A m
abbrev IA (a:Ad) (H:Hp) (p:Addr) (vs:List (Option V)):Prop:=zcF a.c_Machine zcx H p vs
def zhR (a:Ad):Sp:=fun vs H Q _=>∃ (p:Addr) (A:Mc.Adr) (c:Mc.Cf) (m:Mc.Ms),vs=[.ref p]/\MA a c H p A m/\Mc.Ok c m/\Q (.str (Mc.keyS c m)) H
theorem zbm (T:Tx K mg a):FnOk P w K mg base CX0 1 a.f_Machine_next_key a.d_Machine_next_key ["self"] (zhR a):=by
 refine T.Machine_next_key.fn.ok zdD (fun vs H Q E h=>?_) (fun cdv A outer s H vs Q E hr h=>?_)
 ·obtain ⟨p,A,c,m,rfl,_⟩:=h
  rfl
 obtain ⟨p,A,c,m,rfl,M,O,q⟩:=h
 have I:=M.ins
 have hxl:c.keys.cps.toList.length=c.keys.length:=Array.length_toList
 have hks:=O.cf.short
 have hsz:c.keys.length<=sizeLine:=zbK (by omega)
 refine ⟨_,(zaf (zav (ziT (zaA zmh (pfld (K:=K) rfl T.Machine.cl T.n_Machine_struck zaB (pv 0)) (zaY zbL rfl T.b_len zcZ (zaa (pfld (K:=K) rfl T.Machine.cl T.n_Machine_played zbF (pv 0)) zad)) (zas _)) (zbv zeZ (pfld (K:=K) rfl T.Machine.cl T.n_Machine_played zbF (pv 0)) (pfld (K:=K) rfl T.Machine.cl T.n_Machine_struck zaB (pv 0)) (fun _ _=>rfl)) zcN))),?_⟩
 walk_at "rd"
 unfold Mc.keyS Mc.key at q
 by_cases hl:m.at_ < c.keys.cps.toList.length
 ·rw [decide_eq_true (by omega)]
  refine iteT ?_
  walk_at "rd"
  refine ⟨_,_,_,rfl,rfl,hsz,zbw (List.getElem?_eq_getElem hl),?_⟩
  rw [List.getElem?_eq_getElem hl] at q
  exact q
 ·rw [decide_eq_false (by omega)]
  refine iteF ?_
  rw [List.getElem?_eq_none (by omega)] at q
  exact q
def zlS (a:Ad) (f:Mc.Cf->Mc.Ms->V):Sp:=fun vs H Q _=>∃ (p:Addr) (A:Mc.Adr) (c:Mc.Cf) (m:Mc.Ms),vs=[.ref p]/\MA a c H p A m/\Mc.Ok c m/\∀ H',Same H H'->Q (f c m) H'
theorem zbt (T:Tx K mg a):FnOk P w K mg base CX0 2 a.f_Machine_lacks_matrix a.d_Machine_lacks_matrix ["self"] (zlS a fun c m=>.bl (Mc.zaH c m)):=by
 have G_channel_of:=zcB (P:=P) (w:=w) (base:=base) T
 have G_Machine_next_key:=zbm (P:=P) (w:=w) (base:=base) T
 refine T.Machine_lacks_matrix.fn.ok zcG (fun vs H Q E h=>?_) (fun cdv A outer s H vs Q E hr h=>?_)
 ·obtain ⟨p,A,c,m,rfl,_⟩:=h
  rfl
 obtain ⟨p,A,c,m,rfl,M,O,q⟩:=h
 have I:=M.ins
 refine ⟨_,(zac (zay (i:=1) zcG.nd rfl (Or.inl rfl) (zbe T.channel_of G_channel_of hr rfl (zaa (pfld (K:=K) rfl T.Machine.cl T.n_Machine_case zbr (pv 0)) (zaa (zaK (K:=K) rfl T.Machine.cl T.Machine_next_key G_Machine_next_key hr zbp (pv 0)) zad))))
  (zaf (zav (zdb (znn (zle (pv 1))) (zew (zaL (keqD K rfl hr.units) (zbv (zaM K rfl) (pfld (K:=K) rfl T.Machine.cl T.n_Machine_lying zaQ (pv 0)) (pv 1) (fun _ _=>rfl)) (zaD zad) (zas _))))))),?_⟩
 walk_at "rd"
 refine ⟨p,A,c,m,rfl,M,O,?_⟩
 walk_at "rd"
 obtain ⟨xs,hx1,hx2⟩:=M.li.rows
 refine ⟨A.c,_,c.rs,rfl,⟨xs,SqL.of hx1,hx2⟩,fun H1 hs1=>?_⟩
 have q:∀ H',Same H H'->Q (.bl (Mc.zaH c m)) H':=q
 cases hp:Cs.place c.rs (Mc.keyS c m) with
 | none =>
   rw [Mc.zfM hp] at q
   walk_at "rd"
   exact q H1 hs1
 | some k =>
   rw [Mc.zjP hp] at q
   have hk:=Cs.zei hp
   obtain ⟨lq,l,h1,h2,h3,h4⟩:=M.lane O hk
   rw [Mc.zjx h2] at q
   have M1:=M.same hs1
   have I1:=M1.ins
   refine ⟨_,rfl,?_⟩
   refine ⟨true,rfl,?_⟩
   refine iteT ?_
   refine ⟨_,rfl,?_⟩
   refine ⟨_,_,_,rfl,I1,rfl,?_⟩
   refine ⟨_,rfl,?_⟩
   refine ⟨A.L,_,(k:Int),_,rfl,rfl,SqL.of M1.li.lan,h4,?_⟩
   refine And.intro (Nat.zero_le _) fun e he=>?_
   have hs2:=zae he (.lst [])
   have h3':Mc.LnAt (upd H1 e (.lst [])) lq l:=Mc.LnAt.keep (Mc.Keep.of_same (S:=fun _=>True) (hs1.trans hs2)) trivial h3
   refine ⟨_,_,h3'.den (O.llay h2),Mc.zcn upd_same,Mc.zcp _,?_⟩
   have q:=q _ (hs1.trans hs2)
   rw [<- Mc.zbS Mc.mxD l] at q
   exact q
theorem zcK (T:Tx K mg a):FnOk P w K mg base CX0 3 a.f_Machine_stuck a.d_Machine_stuck ["self"] (zlS a fun c m=>.bl (Mc.zeA c m)):=by
 have G_Machine_lacks_matrix:=zbt (P:=P) (w:=w) (base:=base) T
 refine T.Machine_stuck.fn.ok zeB (fun vs H Q E h=>?_) (fun cdv A outer s H vs Q E hr h=>?_)
 ·obtain ⟨p,A,c,m,rfl,_⟩:=h
  rfl
 obtain ⟨p,A,c,m,rfl,M,O,q⟩:=h
 have q:∀ H',Same H H'->Q (.bl (Mc.zaH c m && m.heat.isEmpty && m.bar.isEmpty)) H':=q
 have I:=M.ins
 refine ⟨_,(zaf (zav (zdb (zaK (K:=K) rfl T.Machine.cl T.Machine_lacks_matrix G_Machine_lacks_matrix hr zbs (pv 0)) (zdb (zaL (keqD K rfl hr.units) (pfld (K:=K) rfl T.Machine.cl T.n_Machine_heated zao (pv 0)) (zaD zad) (zas _)) (zew (zaL (keqD K rfl hr.units) (pfld (K:=K) rfl T.Machine.cl T.n_Machine_hanging zaw (pv 0)) (zaD zad) (zas _))))))),?_⟩
 walk_at "rd"
 refine ⟨p,A,c,m,rfl,M,O,fun H1 hs1=>?_⟩
 have M1:=M.same hs1
 have I1:=M1.ins
 refine ⟨_,rfl,?_⟩
 cases hl:Mc.zaH c m with
 | false =>
   rw [hl] at q
   refine iteF ?_
   exact q H1 hs1
 | true =>
   rw [hl] at q
   refine iteT ?_
   walk_at "rd"
   refine fun e he=>?_
   have hs2:=zae he (.lst [])
   have hs12:=hs1.trans hs2
   have M2:=M.same hs12
   refine ⟨_,_,M2.li.het.den O.hlay,Mc.zcn upd_same,Mc.zcp _,?_⟩
   rw [Mc.zbS Mc.zbu m.heat]
   generalize upd H1 e (.lst [])=H2 at hs2 hs12 M2 ⊢
   have I2:=M2.ins
   refine ⟨_,rfl,?_⟩
   cases hh:m.heat.isEmpty with
   | false =>
     rw [hh] at q
     refine iteF ?_
     exact q H2 hs12
   | true =>
     rw [hh] at q
     refine iteT ?_
     walk_at "rd"
     refine fun e he=>?_
     have hs3:=zae he (.lst [])
     have M3:=M2.same hs3
     refine ⟨_,_,M3.li.bar.den O.blay,Mc.zcn upd_same,Mc.zcp _,?_⟩
     have q:=q _ (hs12.trans hs3)
     rw [<- Mc.zbS Mc.mxD m.bar] at q
     exact q
theorem zdO (T:Tx K mg a):FnOk P w K mg base CX0 3 a.f_Machine_resting a.d_Machine_resting ["self"] (zlS a fun c m=>.bl (Mc.zaT c m)):=by
 have G_Machine_next_key:=zbm (P:=P) (w:=w) (base:=base) T
 refine T.Machine_resting.fn.ok zdX (fun vs H Q E h=>?_) (fun cdv A outer s H vs Q E hr h=>?_)
 ·obtain ⟨p,A,c,m,rfl,_⟩:=h
  rfl
 obtain ⟨p,A,c,m,rfl,M,O,q⟩:=h
 have q:∀ H',Same H H'->Q (.bl ((Mc.key c m).isNone && m.line.isEmpty && m.heat.isEmpty && m.bar.isEmpty)) H':=q
 have I:=M.ins
 refine ⟨_,(zaf (zav (zdb (zaL zgw (zaK (K:=K) rfl T.Machine.cl T.Machine_next_key G_Machine_next_key hr zbp (pv 0)) zcN (zas _)) (zdb (zaL (keqD K rfl hr.units) (pfld (K:=K) rfl T.Machine.cl T.n_Machine_line zaJ (pv 0)) (zaD zad) (zas _)) (zdb (zaL (keqD K rfl hr.units) (pfld (K:=K) rfl T.Machine.cl T.n_Machine_heated zao (pv 0)) (zaD zad) (zas _)) (zew (zaL (keqD K rfl hr.units) (pfld (K:=K) rfl T.Machine.cl T.n_Machine_hanging zaw (pv 0)) (zaD zad) (zas _)))))))),?_⟩
 walk_at "rd"
 refine ⟨p,A,c,m,rfl,M,O,?_⟩
 walk_at "rd"
 have ek:decide (V.str (Mc.keyS c m)=V.str (Str.ofString ""))=(Mc.key c m).isNone:=by
  rw [Cs.strV]
  unfold Mc.keyS
  cases Mc.key c m with
  | none=>exact decide_eq_true rfl
  | some k=>exact decide_eq_false fun e=>by cases e
 rw [ek]
 cases hl:(Mc.key c m).isNone with
 | false =>
   rw [hl] at q
   refine iteF ?_
   exact q H (Same.refl _)
 | true =>
   rw [hl] at q
   refine iteT ?_
   walk_at "rd"
   refine fun e he=>?_
   have hs2:=zae he (.lst [])
   have M2:=M.same hs2
   refine ⟨_,_,M2.li.lin.den O.ilay,Mc.zcn upd_same,Mc.zcp _,?_⟩
   rw [Mc.zbS Mc.zbu m.line]
   generalize upd H e (.lst [])=H2 at hs2 M2 ⊢
   have I2:=M2.ins
   refine ⟨_,rfl,?_⟩
   cases hh:m.line.isEmpty with
   | false =>
     rw [hh] at q
     refine iteF ?_
     exact q H2 hs2
   | true =>
     rw [hh] at q
     refine iteT ?_
     walk_at "rd"
     refine fun e he=>?_
     have hs3:=zcf (o:=.lst []) hs2 he
     have M3:=M.same hs3
     refine ⟨_,_,M3.li.het.den O.hlay,Mc.zcn upd_same,Mc.zcp _,?_⟩
     rw [Mc.zbS Mc.zbu m.heat]
     generalize upd H2 e (.lst [])=H3 at hs3 M3 ⊢
     have I3:=M3.ins
     refine ⟨_,rfl,?_⟩
     cases hg:m.heat.isEmpty with
     | false =>
       rw [hg] at q
       refine iteF ?_
       exact q H3 hs3
     | true =>
       rw [hg] at q
       refine iteT ?_
       walk_at "rd"
       refine fun e he=>?_
       have hs4:=zcf (o:=.lst []) hs3 he
       have M4:=M.same hs4
       refine ⟨_,_,M4.li.bar.den O.blay,Mc.zcn upd_same,Mc.zcp _,?_⟩
       have q:=q _ hs4
       rw [<- Mc.zbS Mc.mxD m.bar] at q
       exact q
theorem zes {α β:Type} {F:α->β->Prop}:∀ {xs xs':List α} {ys ys':List β},Paired F xs ys->Paired F xs' ys'->Paired F (xs++xs') (ys++ys')
 | _,_,_,_,.nil,h=>h
 | _,_,_,_,.cons r t,h=>.cons r (zes t h)
def ziM (a:Ad) (f:Mc.Cf->Mc.Ms->Mc.Ms):Sp:=fun vs H Q _=>∃ (p:Addr) (A:Mc.Adr) (c:Mc.Cf) (m:Mc.Ms),vs=[.ref p]/\MA a c H p A m/\Mc.Ok c m/\∀ A' H',MA a c H' p A' (f c m)->Mc.Step p A H A' H'->Q .non H'
theorem zdH (T:Tx K mg a):FnOk P w K mg base CX0 3 a.f_Machine_move_bar a.d_Machine_move_bar ["self"] (ziM a Mc.fall):=by
 have G_falls_at:=zhQ (P:=P) (w:=w) (base:=base) T
 have G_codes_of_:=zgP (P:=P) (w:=w) (base:=base) T
 refine T.Machine_move_bar.fn.ok zdI (fun vs H Q E h=>?_) (fun cdv A outer s H vs Q E hr h=>?_)
 ·obtain ⟨p,A,c,m,rfl,_⟩:=h
  rfl
 obtain ⟨p,A,c,m,rfl,M,O,q⟩:=h
 have I:=M.ins
 refine ⟨_,(zaf (zcb (zaA (kneD K rfl hr.units) (pfld (K:=K) rfl T.Machine.cl T.n_Machine_hanging zaw (pv 0)) (zaD zad) (zas _)) (zac (zay (i:=1) zdI.nd rfl (Or.inl rfl) (zbD K rfl PySem.F.plainAttrs_list PySem.F.slot_list_pop PySem.F.type_list_pop zjk (pfld (K:=K) rfl T.Machine.cl T.n_Machine_hanging zaw (pv 0)) (zaa zag zad)))
  (zaf (zaR (zbD K rfl PySem.F.plainAttrs_list PySem.F.slot_list_append PySem.F.type_list_append zbf (zbv (zaM K rfl) (pfld (K:=K) rfl T.Machine.cl T.n_Machine_lying zaQ (pv 0)) (zbe T.falls_at G_falls_at hr rfl (zaa (zbe T.codes_of_ G_codes_of_ hr rfl (zaa (pfld (K:=K) rfl T.Machine.cl T.n_Machine_case zbr (pv 0)) zad)) (zaa (zbv (zdG K rfl) (pv 1) zag (fun _ _=>rfl)) zad))) (fun _ _=>rfl)) (zaa (pv 1) zad))))) zaI)),?_⟩
 walk_at "rd"
 refine fun e he=>?_
 have hs1:=zae he (.lst [])
 have M1:=M.same hs1
 refine ⟨_,_,M1.li.bar.den O.blay,Mc.zcn upd_same,Mc.zcp _,?_⟩
 rw [Mc.zbS Mc.mxD m.bar]
 generalize upd H e (.lst [])=H1 at hs1 M1 ⊢
 have I1:=M1.ins
 refine ⟨_,rfl,?_⟩
 unfold Mc.fall at q
 cases hb:m.bar with
 | nil =>
   rw [hb] at q
   refine iteF ?_
   exact q A H1 M1 (Mc.Step.of_same hs1)
 | cons x r =>
   rw [hb] at q
   obtain ⟨o1,o2,o3,o4,k,hk,hkl⟩:=O.bm x (by rw [hb];exact List.mem_cons_self)
   have q:∀ A' H',MA a c H' p A' (match Mt.zbq (c.rs.map fun r=>r.t) x.2 with
    | some k=>{ m with bar:=r,lanes:=Mc.zcc m.lanes k x }
    | none=>m)->Mc.Step p A H A' H'->Q .non H':=q
   rw [hk] at q
   refine iteT ?_
   walk_at "rd"
   obtain ⟨bs,hb1,hb2⟩:=M1.li.bar
   rw [hb] at hb2
   obtain ⟨v,vs,rfl,hv,hvs⟩:∃ v vs,bs=v :: vs/\Lan.zbd H1 v x/\Paired (Lan.zbd H1) vs r:=by
    cases hb2 with
    | cons h1 h2=>exact ⟨_,_,rfl,h1,h2⟩
   refine ⟨.inl ⟨rfl,_,SqL.of hb1⟩,?_⟩
   walk_at "rd"
   refine ⟨A.b,_,0,0,v,rfl,rfl,hb1,by decide,by decide,Mc.ix0 _ _,rfl,?_⟩
   have M2:MA a c (upd H1 A.b (.lst vs)) p A { m with bar:=r }:=M1.setBar hb1 hvs
   have hst2:Mc.Step p A H A (upd H1 A.b (.lst vs)):=(Mc.Step.of_same hs1).trans (Mc.Step.lst (by unfold Mc.Adr.all;simp) hb1)
   have hv2:=Mc.zdY (Mc.Keep.lst (o:=.lst vs) hb1) hv
   have eer:((v :: vs).eraseIdx 0)=vs:=rfl
   rw [eer]
   generalize upd H1 A.b (.lst vs)=H2 at M2 hst2 hv2 ⊢
   have I2:=M2.ins
   obtain ⟨t,rfl,ht⟩:=hv2
   walk_at "rd"
   obtain ⟨ws,hw1,hw2⟩:=M2.li.rows
   have hfew:=O.cf.few
   refine ⟨A.c,c.rs,rfl,⟨ws,SqL.of hw1,hw2⟩,by omega,fun pr H3 hpr hs3 hr3=>?_⟩
   have M3:=M2.same hs3
   have ht3:=hs3 _ _ ht
   walk_at "rd"
   refine ⟨t,_,_,_,rfl,rfl,SqT.of ht3,rfl,?_⟩
   refine ⟨pr,x.2,_,rfl,SqL.of hr3,?_,o3,o4,fun H4 hs4=>?_⟩
   ·intro y hy
    obtain ⟨r',hr',rfl⟩:=List.mem_map.mp hy
    exact (O.cf.th r' hr').1
   rw [hk]
   have M4:=M3.same hs4
   have ht4:=hs4 _ _ ht3
   have hst4:=hst2.trans (Mc.Step.of_same (hs3.trans hs4))
   have hln:m.lanes.length=c.rs.length:=O.ln
   have hkl2:k < m.lanes.length:=by omega
   obtain ⟨lq,hlq,hl5⟩:=Cs.zeh M4.li.lns (List.getElem?_eq_getElem hkl2)
   obtain ⟨ys,hy1,hy2⟩:=hl5
   have hat:atI (A.ls.map V.ref) (k:Int)=some (.ref lq):=zbw (by rw [List.getElem?_map,hlq];rfl)
   refine ⟨A.L,_,(k:Int),_,rfl,rfl,SqL.of M4.li.lan,hat,?_⟩
   refine ⟨.inl ⟨rfl,_,SqL.of hy1⟩,?_⟩
   refine ⟨_,rfl,?_⟩
   have hlen:ys.length<=100000:=by
    have h1:=Paired.length hy2
    have h2:=Mc.zoh (List.getElem?_eq_getElem hkl2)
    have h3:=O.sz
    have h4:=Mc.zgx O
    unfold Mc.cnt at h3
    omega
   refine ⟨lq,ys,_,rfl,rfl,hy1,zco hlen,?_⟩
   have ea:Mc.zcc m.lanes k x=m.lanes.set k (m.lanes[k]++[x]):=by
    unfold Mc.zcc
    rw [List.getElem?_eq_getElem hkl2]
   have M5:MA a c (upd H4 lq (.lst (ys++[.ref t]))) p A { m with bar:=r,lanes:=m.lanes.set k (m.lanes[k]++[x]) }:=M4.setLane hlq hy1 (Paired.snoc hy2 ⟨t,rfl,ht4⟩)
   have q:∀ A' H',MA a c H' p A' { m with bar:=r,lanes:=Mc.zcc m.lanes k x }->Mc.Step p A H A' H'->Q .non H':=q
   rw [ea] at q
   have q:=q A _ M5 (hst4.trans (Mc.Step.lst (by unfold Mc.Adr.all;simp [List.mem_of_getElem? hlq]) hy1))
   exact q
theorem zcQ (T:Tx K mg a):FnOk P w K mg base CX0 2 a.f_Machine_move_caster a.d_Machine_move_caster ["self"] (ziM a fun _ m=>Mc.cool m):=by
 refine T.Machine_move_caster.fn.ok zcP (fun vs H Q E h=>?_) (fun cdv A outer s H vs Q E hr h=>?_)
 ·obtain ⟨p,A,c,m,rfl,_⟩:=h
  rfl
 obtain ⟨p,A,c,m,rfl,M,O,q⟩:=h
 have q:∀ A' H',MA a c H' p A' (Mc.cool m)->Mc.Step p A H A' H'->Q .non H':=q
 have I:=M.ins
 refine ⟨_,(zac (zcb (zaA (keqD K rfl hr.units) (pfld (K:=K) rfl T.Machine.cl T.n_Machine_heated zao (pv 0)) (zaD zad) (zas _)) (zaf zoC) zaI)
  (zac (zcl (K:=K) rfl T.Machine.cl T.n_Machine_to_go zaO (pv 0) (zap zlL (pfld (K:=K) rfl T.Machine.cl T.n_Machine_to_go zaO (pv 0)) zag))
  (zaf (zcb (zaA zor (pfld (K:=K) rfl T.Machine.cl T.n_Machine_to_go zaO (pv 0)) zag (zas _)) (zac (zaR (zbD K rfl PySem.F.plainAttrs_list PySem.F.slot_list_append PySem.F.type_list_append zbf (pfld (K:=K) rfl T.Machine.cl T.n_Machine_texts zbQ (pv 0)) (zaa (zbD K rfl PySem.F.plainAttrs_str PySem.F.slot_str_join PySem.F.type_str_join (zeF K rfl) zcN (zaa (zbW rfl (zbi K rfl (pfld (K:=K) rfl T.Machine.cl T.n_Machine_heated zao (pv 0))) (BlkOk.of (N':=["self","part"]) (ms:=[]) (k:=1) (by rfl)) (fun _ _ _ _ _=>(zal (i:=1) (show List.Nodup (["self","part"]:List Str) from by decide +kernel) rfl (Or.inl rfl))) (fun _ _ _ _ _=>zdE) (fun _ _ _ _ _=>(zbv (zmv K rfl) (pv 1) zag (fun _ _=>rfl)))) zad)) zad)))
  (zac (zaR (zbD K rfl PySem.F.plainAttrs_list PySem.F.slot_list_extend PySem.F.type_list_extend zkT (pfld (K:=K) rfl T.Machine.cl T.n_Machine_hanging zaw (pv 0)) (zaa (zbW rfl (zbi K rfl (pfld (K:=K) rfl T.Machine.cl T.n_Machine_heated zao (pv 0))) (BlkOk.of (N':=["self","part"]) (ms:=[]) (k:=1) (by rfl)) (fun _ _ _ _ _=>(zal (i:=1) (show List.Nodup (["self","part"]:List Str) from by decide +kernel) rfl (Or.inl rfl))) (fun _ _ _ _ _=>(zhL (zaA (kneD K rfl hr.units) (pv 1) (zdB (v:=.str " ") rfl T.g_WEDGE ⟨_,rfl⟩) (zas _)))) (fun _ _ _ _ _=>(pv 1))) zad)))
  (zaf (zcl (K:=K) rfl T.Machine.cl T.n_Machine_heated zao (pv 0) (zaD zad))))) zaI)))),?_⟩
 walk_at "rd"
 refine fun e he=>?_
 have hs1:=zae he (.lst [])
 have M1:=M.same hs1
 refine ⟨_,_,M1.li.het.den O.hlay,Mc.zcn upd_same,Mc.zcp _,?_⟩
 rw [Mc.zbS Mc.zbu m.heat]
 generalize upd H e (.lst [])=H1 at hs1 M1 ⊢
 have I1:=M1.ins
 refine ⟨_,rfl,?_⟩
 unfold Mc.cool at q
 cases hh:m.heat.isEmpty with
 | true =>
   rw [if_pos hh] at q
   refine iteT ?_
   exact q A H1 M1 (Mc.Step.of_same hs1)
 | false =>
   rw [if_neg (by rw [hh];decide)] at q
   refine iteF ?_
   walk_at "rd"
   refine fun H2 I2 k2=>?_
   have I2:IA a H2 p (Mc.vals c A { m with togo:=m.togo - 1 }):=I2
   have M2:=M1.setF I2 k2 rfl rfl rfl rfl rfl
   have st2:=(Mc.Step.of_same (p:=p) (A:=A) hs1).trans (Mc.Step.flds I1 I2 k2)
   have hne:m.heat ≠ []:=fun z=>by rw [z] at hh;cases hh
   have O2:∀ x,some x ∈ m.heat->Mc.OkM c x:=O.hm
   walk_at "rd"
   by_cases ht:m.togo - 1<=0
   ·rw [if_pos ht] at q
    rw [decide_eq_true ht]
    refine iteT ?_
    walk_at "rd"
    have hsz:=O.sz
    have hkl:=Mc.zgx O
    unfold Mc.cnt at hsz
    obtain ⟨hv,hh1,hh2⟩:=M2.li.het
    have hh2:Paired (Mc.zcr H2) hv m.heat:=hh2
    have hhl:=Paired.length hh2
    refine ⟨.inl ⟨rfl,_,SqL.of M2.li.txt⟩,?_⟩
    walk_at "rd"
    refine ⟨⟨_,SqL.of hh1⟩,fun D hD=>?_⟩
    refine zbh (a:=A.h) (xs:=hv) (fun i ys σ H3=>∃ (v2:Option V),ys=((m.heat.take i).map Mc.zbb).map V.str/\σ=[some (.ref p),v2]/\Same H2 H3/\H3 D=some (.lst ys))
     ?_ ?_ ?_ ?_
    ·exact ⟨none,rfl,rfl,zae hD _,upd_same⟩
    ·rintro i ys σ H3 hi ⟨v2,_,_,hs,_⟩
     exact hs.seq (SqL.of hh1)
    ·rintro i y ys σ H3 hy hil ⟨v2,rfl,rfl,hs,hh3⟩
     obtain ⟨pt,hpt,hpa⟩:=Mc.zeN hh2 hy
     have hpa3:=Mc.zdU (Mc.Keep.of_same (S:=fun _=>True) hs) hpa
     have hlen:(((m.heat.take i).map Mc.zbb).map V.str).length<=100000:=by
      rw [List.length_map,List.length_map,List.length_take]
      omega
     have etk:(((m.heat.take (i+1)).map Mc.zbb).map V.str)=(((m.heat.take i).map Mc.zbb).map V.str)++[V.str (Mc.zbb pt)]:=by
      rw [List.take_add_one,hpt,List.map_append,List.map_append]
      rfl
     walk_at "rd"
     cases pt with
     | none =>
       have e:y=.str " ":=hpa3
       subst e
       refine .inr ⟨_,_,32,rfl,rfl,zbK (by decide),rfl,?_⟩
       exact zfn hil hh3 hlen ⟨_,etk.symm,rfl,zax hs hD,upd_same⟩
     | some x =>
       obtain ⟨t,rfl,htt⟩:=hpa3
       refine .inl ⟨t,_,_,_,rfl,rfl,SqT.of htt,rfl,?_⟩
       exact zfn hil hh3 hlen ⟨_,etk.symm,rfl,zax hs hD,upd_same⟩
    ·rintro ys σ H3 ⟨v2,rfl,rfl,hs3,hh3⟩
     rw [hhl,List.take_of_length_le (Nat.le_refl _)] at hh3
     have M3:=M2.same hs3
     refine ⟨_,D,_,rfl,rfl,SqL.of hh3,Mc.zkc O2 (by omega),?_⟩
     have htl:=O.tx
     refine ⟨A.t,_,_,rfl,rfl,M3.li.txt,zco (by rw [List.length_map];show m.texts.length<=_;omega),?_⟩
     have et:(m.texts.map V.str)++[V.str (Txt.join (Str.ofString "") (m.heat.map Mc.zbb))]=(m.texts++[Mc.zaE m.heat]).map V.str:=by
      rw [List.map_append]
      rfl
     have M4:MA a c (upd H3 A.t (.lst ((m.texts.map V.str)++[V.str (Txt.join (Str.ofString "") (m.heat.map Mc.zbb))]))) p A { m with togo:=m.togo - 1,texts:=m.texts++[Mc.zaE m.heat] }:=by
      rw [et]
      exact M3.setTxt M3.li.txt
     have st4:Mc.Step p A H A (upd H3 A.t (.lst ((m.texts.map V.str)++[V.str (Txt.join (Str.ofString "") (m.heat.map Mc.zbb))]))):=(st2.trans (Mc.Step.of_same hs3)).trans (Mc.Step.lst (by unfold Mc.Adr.all;simp) M3.li.txt)
     generalize upd H3 A.t (.lst ((m.texts.map V.str)++[V.str (Txt.join (Str.ofString "") (m.heat.map Mc.zbb))]))=H4 at M4 st4 ⊢
     have I4:=M4.ins
     obtain ⟨hw,hw1,hw2⟩:=M4.li.het
     have hw2:Paired (Mc.zcr H4) hw m.heat:=hw2
     have hwl:=Paired.length hw2
     obtain ⟨bv,hb1,hb2⟩:=M4.li.bar
     have hbl:=Paired.length hb2
     have hbl:bv.length=m.bar.length:=hbl
     walk_at "rd"
     refine ⟨.inl ⟨rfl,_,SqL.of hb1⟩,?_⟩
     walk_at "rd"
     refine ⟨⟨_,SqL.of hw1⟩,fun D2 hD2=>?_⟩
     refine zbh (a:=A.h) (xs:=hw) (fun i ys σ H5=>∃ (v2:Option V),Paired (Lan.zbd H5) ys (Mc.mats (m.heat.take i))/\σ=[some (.ref p),v2]/\Same H4 H5/\H5 D2=some (.lst ys))
      ?_ ?_ ?_ ?_
     ·exact ⟨none,.nil,rfl,zae hD2 _,upd_same⟩
     ·rintro i ys σ H5 hi ⟨v2,_,_,hs,_⟩
      exact hs.seq (SqL.of hw1)
     ·rintro i y ys σ H5 hy hil ⟨v2,hp5,rfl,hs,hh5⟩
      obtain ⟨pt,hpt,hpa⟩:=Mc.zeN hw2 hy
      have hpa5:=Mc.zdU (Mc.Keep.of_same (S:=fun _=>True) hs) hpa
      have hmem:=List.mem_of_getElem? hpt
      have hlen:ys.length<=100000:=by
       have h1:=Paired.length hp5
       have h2:=Mc.zeD (m.heat.take i)
       rw [List.length_take] at h2
       omega
      walk_at "rd"
      refine ⟨_,_,Mc.zgs hpa5 (fun x e=>O.hlay x (e ▸ hmem)),.str _ (by decide +kernel),by show min _ 0<=64;omega,?_⟩
      refine ⟨_,rfl,?_⟩
      cases pt with
      | none =>
        have e:(if true=true then !PyData.eqv (Mc.zbu none) (.str (Str.ofString " ")) else PyData.eqv (Mc.zbu none) (.str (Str.ofString " ")))=false:=by
         show (!PyData.eqv (.str " ") (.str " "))=false
         rw [Mc.zji]
         rfl
        rw [e]
        refine iteF ?_
        refine zop hil ⟨_,?_,rfl,hs,hh5⟩
        rw [Mc.zgJ hpt,Option.toList_none,List.append_nil]
        exact hp5
      | some x =>
        have e:(if true=true then !PyData.eqv (Mc.zbu (some x)) (.str (Str.ofString " ")) else PyData.eqv (Mc.zbu (some x)) (.str (Str.ofString " ")))=true:=rfl
        rw [e]
        refine iteT ?_
        walk_at "rd"
        refine zfn hil hh5 hlen ⟨_,?_,rfl,zax hs hD2,upd_same⟩
        rw [Mc.zgJ hpt]
        exact Paired.snoc (Lan.zcz hp5 hh5) (Mc.zdY (Mc.Keep.lst hh5) hpa5)
     ·rintro ys σ H5 ⟨v2,hp5,rfl,hs5,hh5⟩
      rw [hwl,List.take_of_length_le (Nat.le_refl _)] at hp5
      have M5:=M4.same hs5
      have hyl:=Paired.length hp5
      have hml:=Mc.zeD m.heat
      refine ⟨A.b,D2,bv,ys,rfl,rfl,hs5 _ _ hb1,hh5,zbK (by omega),?_⟩
      have hb5:=Lan.zaG hb2 hs5
      have M6:MA a c (upd H5 A.b (.lst (bv++ys))) p A { m with togo:=m.togo - 1,texts:=m.texts++[Mc.zaE m.heat],bar:=m.bar++Mc.mats m.heat }:=M5.setBar (hs5 _ _ hb1) (zes hb5 hp5)
      have st6:Mc.Step p A H A (upd H5 A.b (.lst (bv++ys))):=(st4.trans (Mc.Step.of_same hs5)).trans (Mc.Step.lst (by unfold Mc.Adr.all;simp) (hs5 _ _ hb1))
      generalize upd H5 A.b (.lst (bv++ys))=H6 at M6 st6 ⊢
      walk_at "rd"
      refine fun e7 he7=>?_
      have hs7:=zae he7 (.lst [])
      have M7:=M6.same hs7
      have I7:=M7.ins
      have h77:upd H6 e7 (.lst []) e7=some (.lst []):=upd_same
      have hnew:=M6.new he7
      generalize upd H6 e7 (.lst [])=H7 at hs7 M7 I7 h77 ⊢
      walk_at "rd"
      refine fun H8 I8 k8=>?_
      have I8:IA a H8 p (Mc.vals c { A with h:=e7 } { m with togo:=m.togo - 1,texts:=m.texts++[Mc.zaE m.heat],bar:=m.bar++Mc.mats m.heat,heat:=[] }):=I8
      have st8:=(st6.trans (Mc.Step.of_same hs7)).trans (Mc.Step.flds I7 I8 k8)
      exact q _ H8 (Mc.Mac.fields I7 I8 k8 ⟨M7.li.rows,M7.li.lan,M7.li.lns,M7.li.lin,⟨[],h77,.nil⟩,M7.li.bar,M7.li.txt⟩ (Mc.nd_h M7.nd hnew)) (st8.to (Mc.zuJ (st6.free he7)))
   ·rw [if_neg ht] at q
    rw [decide_eq_false ht]
    refine iteF ?_
    exact q A H2 M2 st2
theorem zdr (T:Tx K mg a):FnOk P w K mg base CX0 1 a.f_Machine_send_line a.d_Machine_send_line ["self"] (ziM a Mc.send):=by
 refine T.Machine_send_line.fn.ok zds (fun vs H Q E h=>?_) (fun cdv A outer s H vs Q E hr h=>?_)
 ·obtain ⟨p,A,c,m,rfl,_⟩:=h
  rfl
 obtain ⟨p,A,c,m,rfl,M,O,q⟩:=h
 have I:=M.ins
 refine ⟨_,(zaf (zcb (zaA (keqD K rfl hr.units) (pfld (K:=K) rfl T.Machine.cl T.n_Machine_heated zao (pv 0)) (zaD zad) (zas _)) (zac (zcl (K:=K) rfl T.Machine.cl T.n_Machine_heated zao (pv 0) (pfld (K:=K) rfl T.Machine.cl T.n_Machine_line zaJ (pv 0)))
  (zac (zcl (K:=K) rfl T.Machine.cl T.n_Machine_to_go zaO (pv 0) (pfld (K:=K) rfl T.Machine.cl T.n_Machine_casting zch (pv 0)))
  (zac (zcl (K:=K) rfl T.Machine.cl T.n_Machine_line zaJ (pv 0) (zaD zad))
  (zaf (zcl (K:=K) rfl T.Machine.cl T.n_Machine_struck zaB (pv 0) (zap zaP (pfld (K:=K) rfl T.Machine.cl T.n_Machine_struck zaB (pv 0)) zag)))))) zaI)),?_⟩
 walk_at "rd"
 refine fun e he=>?_
 have hs1:=zae he (.lst [])
 have M1:=M.same hs1
 refine ⟨_,_,M1.li.het.den O.hlay,Mc.zcn upd_same,Mc.zcp _,?_⟩
 rw [Mc.zbS Mc.zbu m.heat]
 generalize upd H e (.lst [])=H1 at hs1 M1 ⊢
 have I1:=M1.ins
 refine ⟨_,rfl,?_⟩
 unfold Mc.send at q
 cases hh:m.heat.isEmpty with
 | false =>
   rw [if_neg (by rw [hh];decide)] at q
   refine iteF ?_
   exact q A H1 M1 (Mc.Step.of_same hs1)
 | true =>
   rw [if_pos hh] at q
   refine iteT ?_
   walk_at "rd"
   refine fun H2 I2 k2=>?_
   walk_at "rd"
   refine fun H3 I3 k3=>?_
   walk_at "rd"
   refine fun e4 he4=>?_
   have hs4:=zae he4 (.lst [])
   have h44:upd H3 e4 (.lst []) e4=some (.lst []):=upd_same
   have I4:=I3.same hs4
   have k43:∀ b o,H3 b=some o->upd H3 e4 (.lst []) b=some o:=hs4
   generalize upd H3 e4 (.lst [])=H4 at hs4 h44 I4 k43 ⊢
   walk_at "rd"
   refine fun H5 I5 k5=>?_
   walk_at "rd"
   refine fun H6 I6 k6=>?_
   have I6:IA a H6 p (Mc.vals c { A with h:=A.l,l:=e4 } { m with heat:=m.line,togo:=c.cast,line:=[],at_:=m.at_+1 }):=by
    have e:((m.at_:Int)+1)=((m.at_+1:Nat):Int):=by omega
    have I6:IA a H6 p [some (.ref A.L),some (.ref A.c),some (.str c.keys),some (.int ((m.at_:Int)+1)),some (.int c.cast),some (.ref e4),some (.ref A.l),some (.int c.cast),some (.ref A.b),some (.ref A.t),some (.int m.done),some (.int m.waits)]:=I6
    rw [e] at I6
    exact I6
   have k3':∀ b,b ≠ p->H3 b=H1 b:=fun b hb=>(k3 b hb).trans (k2 b hb)
   have k6':∀ b,b ≠ p->H6 b=H4 b:=fun b hb=>(k6 b hb).trans (k5 b hb)
   have M3:Mc.Lists c H3 A m:=M1.li.keep (by obtain ⟨_,_,z,_⟩:=I1;exact Mc.Keep.fld z k3') (M1.pne)
   have M4:Mc.Lists c H4 A m:=M3.keep (Mc.Keep.of_same (S:=fun _=>True) hs4) fun _ _=>trivial
   have hnew:e4 ∉ A.all:=fun z=>by
    obtain ⟨xs,ex⟩:=M3.is e4 z
    rw [he4] at ex
    cases ex
   have st3:=(Mc.Step.of_same (p:=p) (A:=A) hs1).trans (Mc.Step.flds I1 I3 k3')
   have st6:=(st3.trans (Mc.Step.of_same hs4)).trans (Mc.Step.flds I4 I6 k6')
   exact q _ H6 (Mc.Mac.fields I4 I6 k6' ⟨M4.rows,M4.lan,M4.lns,⟨[],h44,.nil⟩,M4.lin,M4.bar,M4.txt⟩ (Mc.nd_s M.nd hnew)) (st6.to (Mc.ztz (st3.free he4)))
def zow (a:Ad):Sp:=fun vs H Q _=>∃ (p:Addr) (A:Mc.Adr) (c:Mc.Cf) (m:Mc.Ms) (v:V) (pt:Mc.Part),vs=[.ref p,v]/\MA a c H p A m/\Mc.zcr H v pt/\m.line.length<=99999/\∀ A' H',MA a c H' p A' (Mc.take m pt)->Mc.Step p A H A' H'->Q .non H'
theorem zfl (T:Tx K mg a):FnOk P w K mg base CX0 1 a.f_Machine_take a.d_Machine_take ["self","part"] (zow a):=by
 refine T.Machine_take.fn.ok zeP (fun vs H Q E h=>?_) (fun cdv A outer s H vs Q E hr h=>?_)
 ·obtain ⟨p,A,c,m,v,pt,rfl,_⟩:=h
  rfl
 obtain ⟨p,A,c,m,v,pt,rfl,M,hpt,hsz,q⟩:=h
 have I:=M.ins
 obtain ⟨lv,hl1,hl2⟩:=M.li.lin
 have hll:=Paired.length hl2
 refine ⟨_,(zac (zaR (zbD K rfl PySem.F.plainAttrs_list PySem.F.slot_list_append PySem.F.type_list_append zbf (pfld (K:=K) rfl T.Machine.cl T.n_Machine_line zaJ (pv 0)) (zaa (pv 1) zad)))
  (zaf (zcl (K:=K) rfl T.Machine.cl T.n_Machine_struck zaB (pv 0) (zap zaP (pfld (K:=K) rfl T.Machine.cl T.n_Machine_struck zaB (pv 0)) zag)))),?_⟩
 walk_at "rd"
 refine ⟨.inl ⟨rfl,_,SqL.of hl1⟩,?_⟩
 walk_at "rd"
 refine ⟨A.l,lv,v,rfl,rfl,hl1,zco (by omega),?_⟩
 have M2:MA a c (upd H A.l (.lst (lv++[v]))) p A { m with line:=m.line++[pt] }:=M.setLine hl1 (Paired.snoc hl2 hpt)
 have st2:Mc.Step p A H A (upd H A.l (.lst (lv++[v]))):=Mc.Step.lst (by unfold Mc.Adr.all;simp) hl1
 generalize upd H A.l (.lst (lv++[v]))=H2 at M2 st2 ⊢
 have I2:=M2.ins
 walk_at "rd"
 refine fun H3 I3 k3=>?_
 have I3:IA a H3 p (Mc.vals c A (Mc.take m pt)):=by
  have e:((m.at_:Int)+1)=((m.at_+1:Nat):Int):=by omega
  have I3:IA a H3 p [some (.ref A.L),some (.ref A.c),some (.str c.keys),some (.int ((m.at_:Int)+1)),some (.int c.cast),some (.ref A.l),some (.ref A.h),some (.int m.togo),some (.ref A.b),some (.ref A.t),some (.int m.done),some (.int m.waits)]:=I3
  rw [e] at I3
  exact I3
 exact q A H3 (M2.setF I3 k3 rfl rfl rfl rfl rfl) (st2.trans (Mc.Step.flds I2 I3 k3))
theorem zdo (T:Tx K mg a):FnOk P w K mg base CX0 3 a.f_Machine_move_line a.d_Machine_move_line ["self"] (ziM a Mc.strike):=by
 have G_Machine_next_key:=zbm (P:=P) (w:=w) (base:=base) T
 have G_Machine_send_line:=zdr (P:=P) (w:=w) (base:=base) T
 have G_Machine_take:=zfl (P:=P) (w:=w) (base:=base) T
 have G_Machine_lacks_matrix:=zbt (P:=P) (w:=w) (base:=base) T
 have G_channel_of:=zcB (P:=P) (w:=w) (base:=base) T
 refine T.Machine_move_line.fn.ok zdu (fun vs H Q E h=>?_) (fun cdv A outer s H vs Q E hr h=>?_)
 ·obtain ⟨p,A,c,m,rfl,_⟩:=h
  rfl
 obtain ⟨p,A,c,m,rfl,M,O,q⟩:=h
 have I:=M.ins
 have hsz:=O.sz
 have hkl:=Mc.zgx O
 unfold Mc.cnt at hsz
 refine ⟨_,(zac (zay (i:=1) zdu.nd rfl (Or.inl rfl) (zaK (K:=K) rfl T.Machine.cl T.Machine_next_key G_Machine_next_key hr zbp (pv 0)))
  (zaf (zcb (zaA zgw (pv 1) (zdB (v:=.str "/") rfl T.g_SEND_KEY ⟨_,rfl⟩) (zas _)) (zaf (zaR (zaK (K:=K) rfl T.Machine.cl T.Machine_send_line G_Machine_send_line hr zdq (pv 0)))) (zaf (zcb (zaA zgw (pv 1) (zdB (v:=.str " ") rfl T.g_GAP_KEY ⟨_,rfl⟩) (zas _)) (zaf (zaR (zpd (K:=K) rfl T.Machine.cl T.Machine_take G_Machine_take hr zcV (pv 0) (zaa (zdB (v:=.str " ") rfl T.g_WEDGE ⟨_,rfl⟩) zad)))) (zaf (zcb (zdz (zaK (K:=K) rfl T.Machine.cl T.Machine_lacks_matrix G_Machine_lacks_matrix hr zbs (pv 0))) (zaf (zcl (K:=K) rfl T.Machine.cl T.n_Machine_waits zbR (pv 0) (zap zaP (pfld (K:=K) rfl T.Machine.cl T.n_Machine_waits zbR (pv 0)) zag))) (zaf (zcb (zaA ziE (pv 1) zcN (zas _)) (zaf (zaR (zpd (K:=K) rfl T.Machine.cl T.Machine_take G_Machine_take hr zcV (pv 0) (zaa (zbD K rfl PySem.F.plainAttrs_list PySem.F.slot_list_pop PySem.F.type_list_pop zjk (zbv (zaM K rfl) (pfld (K:=K) rfl T.Machine.cl T.n_Machine_lying zaQ (pv 0)) (zbe T.channel_of G_channel_of hr rfl (zaa (pfld (K:=K) rfl T.Machine.cl T.n_Machine_case zbr (pv 0)) (zaa (pv 1) zad))) (fun _ _=>rfl)) (zaa zag zad)) zad)))) zaI))))))))),?_⟩
 walk_at "rd"
 refine ⟨p,A,c,m,rfl,M,O,?_⟩
 unfold Mc.strike at q
 walk_at "rd"
 cases hk:Mc.key c m with
 | none =>
   rw [hk] at q
   have es:=Mc.zlJ hk
   have hla:Mc.zaH c m=false:=Mc.zfM (by rw [es];exact O.cf.noWedge.2.2)
   rw [es,show decide (V.str (Str.ofString "")=V.str (Str.ofString "/"))=false from by rw [Cs.strV];decide +kernel]
   refine iteF ?_
   walk_at "rd"
   refine ⟨p,A,c,m,rfl,M,O,fun H1 hs1=>?_⟩
   refine ⟨_,rfl,?_⟩
   rw [hla]
   refine iteF ?_
   walk_at "rd"
   try rw [show (!decide (V.str (Str.ofString "")=V.str (Str.ofString "")))=false from by rw [decide_eq_true rfl];rfl]
   try refine iteF ?_
   exact q A H1 (M.same hs1) (Mc.Step.of_same hs1)
 | some k =>
   rw [hk] at q
   have q:∀ (A':Mc.Adr) (H':Hp),MA a c H' p A' (if k=47 then Mc.send c m else if k=32 then Mc.take m none else if Mc.zaH c m=true then { m with waits:=m.waits+1 } else match Cs.place c.rs (sg k) with
    | some j=>Mc.pick m j
    | none=>m)->Mc.Step p A H A' H'->Q V.non H':=q
   have es:=Mc.zkV hk
   have d47:decide (V.str (sg k)=V.str (Str.ofString "/"))=decide (k=47):=Mc.sgD (d:=47)
   have d32:decide (V.str (sg k)=V.str (Str.ofString " "))=decide (k=32):=Mc.sgD (d:=32)
   rw [es,d47]
   by_cases h47:k=47
   ·rw [if_pos h47] at q
    rw [decide_eq_true h47]
    refine iteT ?_
    walk_at "rd"
    exact ⟨p,A,c,m,rfl,M,O,q⟩
   ·rw [if_neg h47] at q
    rw [decide_eq_false h47]
    refine iteF ?_
    walk_at "rd"
    rw [d32]
    by_cases h32:k=32
    ·rw [if_pos h32] at q
     rw [decide_eq_true h32]
     refine iteT ?_
     walk_at "rd"
     exact ⟨p,A,c,m,_,none,rfl,M,rfl,by omega,q⟩
    ·rw [if_neg h32] at q
     rw [decide_eq_false h32]
     refine iteF ?_
     walk_at "rd"
     refine ⟨p,A,c,m,rfl,M,O,fun H1 hs1=>?_⟩
     have M1:=M.same hs1
     have I1:=M1.ins
     refine ⟨_,rfl,?_⟩
     cases hla:Mc.zaH c m with
     | true =>
       rw [if_pos hla] at q
       refine iteT ?_
       walk_at "rd"
       refine fun H2 I2 k2=>?_
       have I2:IA a H2 p (Mc.vals c A { m with waits:=m.waits+1 }):=I2
       exact q A H2 (M1.setF I2 k2 rfl rfl rfl rfl rfl) ((Mc.Step.of_same hs1).trans (Mc.Step.flds I1 I2 k2))
     | false =>
       rw [if_neg (by rw [hla];decide)] at q
       refine iteF ?_
       obtain ⟨j,hj,x,r,hx⟩:=Mc.zmy O hk h47 h32 hla
       rw [hj] at q
       have q:∀ (A':Mc.Adr) (H':Hp),MA a c H' p A' (Mc.pick m j)->Mc.Step p A H A' H'->Q V.non H':=q
       have ep:Mc.pick m j=Mc.take { m with lanes:=m.lanes.set j r } (some x):=by unfold Mc.pick;rw [hx]
       rw [ep] at q
       walk_at "rd"
       obtain ⟨ws,hw1,hw2⟩:=M1.li.rows
       refine ⟨A.c,_,c.rs,rfl,⟨ws,SqL.of hw1,hw2⟩,fun H2 hs2=>?_⟩
       rw [hj]
       have M2:=M1.same hs2
       have hjl:=Cs.zei hj
       obtain ⟨lq,hlq,hl5⟩:=Cs.zeh M2.li.lns hx
       obtain ⟨ys,hy1,hy2⟩:=hl5
       obtain ⟨v,vs,rfl,hv,hvs⟩:∃ v vs,ys=v :: vs/\Lan.zbd H2 v x/\Paired (Lan.zbd H2) vs r:=by
        cases hy2 with
        | cons h1 h2=>exact ⟨_,_,rfl,h1,h2⟩
       have hat:atI (A.ls.map V.ref) (j:Int)=some (.ref lq):=zbw (by rw [List.getElem?_map,hlq];rfl)
       refine ⟨A.L,_,(j:Int),_,rfl,rfl,SqL.of M2.li.lan,hat,?_⟩
       refine ⟨.inl ⟨rfl,_,SqL.of hy1⟩,?_⟩
       walk_at "rd"
       refine ⟨lq,_,0,0,v,rfl,rfl,hy1,by decide,by decide,Mc.ix0 _ _,rfl,?_⟩
       have M3:MA a c (upd H2 lq (.lst vs)) p A { m with lanes:=m.lanes.set j r }:=M2.setLane hlq hy1 hvs
       have st3:Mc.Step p A H A (upd H2 lq (.lst vs)):=(Mc.Step.of_same (hs1.trans hs2)).trans (Mc.Step.lst (by unfold Mc.Adr.all;simp [List.mem_of_getElem? hlq]) hy1)
       have hv3:=Mc.zdY (Mc.Keep.lst (o:=.lst vs) hy1) hv
       have eer:((v :: vs).eraseIdx 0)=vs:=rfl
       rw [eer]
       generalize upd H2 lq (.lst vs)=H3 at M3 st3 hv3 ⊢
       exact ⟨p,A,c,_,v,some x,rfl,M3,hv3,by show m.line.length<=99999;omega,fun A' H' M' s'=>q A' H' M' (st3.trans s')⟩
def zoA (a:Ad):Sp:=fun vs H Q _=>∃ (p:Addr) (A:Mc.Adr) (c:Mc.Cf) (m:Mc.Ms),vs=[.ref p]/\MA a c H p A m/\Mc.Ok c m/\(Mc.still c m=true->∀ H',Same H H'->Q (.bl false) H')/\(Mc.still c m=false->∀ A' H',MA a c H' p A' (Mc.tick c m)->Mc.Step p A H A' H'->Q (.bl true) H')
theorem zfm (T:Tx K mg a):FnOk P w K mg base CX0 4 a.f_Machine_tick a.d_Machine_tick ["self"] (zoA a):=by
 have G_Machine_resting:=zdO (P:=P) (w:=w) (base:=base) T
 have G_Machine_stuck:=zcK (P:=P) (w:=w) (base:=base) T
 have G_Machine_move_bar:=zdH (P:=P) (w:=w) (base:=base) T
 have G_Machine_move_caster:=zcQ (P:=P) (w:=w) (base:=base) T
 have G_Machine_move_line:=zdo (P:=P) (w:=w) (base:=base) T
 refine T.Machine_tick.fn.ok zfg (fun vs H Q E h=>?_) (fun cdv A outer s H vs Q E hr h=>?_)
 ·obtain ⟨p,A,c,m,rfl,_⟩:=h
  rfl
 obtain ⟨p,A,c,m,rfl,M,O,qf,qt⟩:=h
 have I:=M.ins
 unfold Mc.still at qf qt
 refine ⟨_,(zac (zcb (PW.pt (zml (zdz (zaK (K:=K) rfl T.Machine.cl T.Machine_resting G_Machine_resting hr zdT (pv 0))) (zkD (zdz (zaK (K:=K) rfl T.Machine.cl T.Machine_stuck G_Machine_stuck hr zcM (pv 0)))))) (zaf (zav ziy)) zaI)
  (zac (zaR (zaK (K:=K) rfl T.Machine.cl T.Machine_move_bar G_Machine_move_bar hr zdL (pv 0)))
  (zac (zaR (zaK (K:=K) rfl T.Machine.cl T.Machine_move_caster G_Machine_move_caster hr zcR (pv 0)))
  (zac (zaR (zaK (K:=K) rfl T.Machine.cl T.Machine_move_line G_Machine_move_line hr zdp (pv 0)))
  (zac (zcl (K:=K) rfl T.Machine.cl T.n_Machine_done zca (pv 0) (zap zaP (pfld (K:=K) rfl T.Machine.cl T.n_Machine_done zca (pv 0)) zag))
  (zaf (zav ziy))))))),?_⟩
 walk_at "rd"
 refine ⟨p,A,c,m,rfl,M,O,fun H1 hs1=>?_⟩
 have M1:=M.same hs1
 have I1:=M1.ins
 refine ⟨_,rfl,?_⟩
 cases hrs:Mc.zaT c m with
 | true =>
   refine iteT ?_
   exact qf (by rw [hrs];rfl) H1 hs1
 | false =>
   refine iteF ?_
   walk_at "rd"
   refine ⟨p,A,c,m,rfl,M1,O,fun H2 hs2=>?_⟩
   have hs12:=hs1.trans hs2
   have M2:=M.same hs12
   have I2:=M2.ins
   refine ⟨_,rfl,?_⟩
   cases hst:Mc.zeA c m with
   | true =>
     refine iteT ?_
     exact qf (by rw [hrs,hst];rfl) H2 hs12
   | false =>
     refine iteF ?_
     walk_at "rd"
     refine ⟨p,A,c,m,rfl,M2,O,fun A3 H3 M3 s3=>?_⟩
     have I3:=M3.ins
     walk_at "rd"
     refine ⟨p,A3,c,_,rfl,M3,O.fall,fun A4 H4 M4 s4=>?_⟩
     have I4:=M4.ins
     walk_at "rd"
     refine ⟨p,A4,c,_,rfl,M4,O.fall.cool,fun A5 H5 M5 s5=>?_⟩
     have I5:=M5.ins
     walk_at "rd"
     refine fun H6 I6 k6=>?_
     have I6:IA a H6 p (Mc.vals c A5 (Mc.tick c m)):=I6
     exact qt (by rw [hrs,hst];rfl) A5 H6 (M5.setF I6 k6 rfl rfl rfl rfl rfl) (((((Mc.Step.of_same hs12).trans s3).trans s4).trans s5).trans (Mc.Step.flds I5 I6 k6))
def sp_run (a:Ad):Sp:=fun vs H Q _=>∃ (p:Addr) (A:Mc.Adr) (c:Mc.Cf) (m:Mc.Ms),vs=[.ref p]/\MA a c H p A m/\Mc.Ok c m/\∀ A' H',MA a c H' p A' (Mc.fin c m)->Mc.Step p A H A' H'->Q (.int ((Mc.fin c m).done - m.done)) H'
def zeg (a:Ad) (F:Mc.Cf->Mc.Ms->Hp->Hp->Addr->Prop):Sp:=fun vs H Q _=>∃ (p:Addr) (A:Mc.Adr) (c:Mc.Cf) (m:Mc.Ms),vs=[.ref p]/\MA a c H p A m/\Mc.Ok c m/\∀ r H',H r=none->Same H H'->F c m H H' r->Q (.ref r) H'
theorem zcL (T:Tx K mg a):FnOk P w K mg base CX0 1 a.f_Machine_slugs a.d_Machine_slugs ["self"] (zeg a fun c m H H' r=>H' r=some (.lst (m.texts.map V.str))):=by
 refine T.Machine_slugs.fn.ok zey (fun vs H Q E h=>?_) (fun cdv A outer s H vs Q E hr h=>?_)
 ·obtain ⟨p,A,c,m,rfl,_⟩:=h
  rfl
 obtain ⟨p,A,c,m,rfl,M,O,q⟩:=h
 have I:=M.ins
 refine ⟨_,(zaf (zav (zbO (zdd K rfl) rfl T.b_list zel (zaa (pfld (K:=K) rfl T.Machine.cl T.n_Machine_texts zbQ (pv 0)) zad)))),?_⟩
 walk_at "rd"
 refine ⟨A.t,_,rfl,.inl (SqL.of M.li.txt),fun r hr=>?_⟩
 exact q r _ hr (zae hr _) upd_same
theorem zbj (T:Tx K mg a):FnOk P w K mg base CX0 1 a.f_Machine_gathered a.d_Machine_gathered ["self"] (zeg a fun c m H H' r=>Mc.zgu H' r m.line):=by
 refine T.Machine_gathered.fn.ok zdC (fun vs H Q E h=>?_) (fun cdv A outer s H vs Q E hr h=>?_)
 ·obtain ⟨p,A,c,m,rfl,_⟩:=h
  rfl
 obtain ⟨p,A,c,m,rfl,M,O,q⟩:=h
 have I:=M.ins
 obtain ⟨xs,h1,h2⟩:=M.li.lin
 refine ⟨_,(zaf (zav (zbO (zdd K rfl) rfl T.b_list zel (zaa (pfld (K:=K) rfl T.Machine.cl T.n_Machine_line zaJ (pv 0)) zad)))),?_⟩
 walk_at "rd"
 refine ⟨A.l,_,rfl,.inl (SqL.of h1),fun r hr=>?_⟩
 have hs:=zae hr (.lst xs)
 exact q r _ hr hs ⟨xs,upd_same,Mc.zbY (Mc.Keep.of_same (S:=fun _=>True) hs) h2⟩
theorem zbV (T:Tx K mg a):FnOk P w K mg base CX0 1 a.f_Machine_in_caster a.d_Machine_in_caster ["self"] (zeg a fun c m H H' r=>Mc.zgu H' r m.heat):=by
 refine T.Machine_in_caster.fn.ok zdt (fun vs H Q E h=>?_) (fun cdv A outer s H vs Q E hr h=>?_)
 ·obtain ⟨p,A,c,m,rfl,_⟩:=h
  rfl
 obtain ⟨p,A,c,m,rfl,M,O,q⟩:=h
 have I:=M.ins
 obtain ⟨xs,h1,h2⟩:=M.li.het
 refine ⟨_,(zaf (zav (zbO (zdd K rfl) rfl T.b_list zel (zaa (pfld (K:=K) rfl T.Machine.cl T.n_Machine_heated zao (pv 0)) zad)))),?_⟩
 walk_at "rd"
 refine ⟨A.h,_,rfl,.inl (SqL.of h1),fun r hr=>?_⟩
 have hs:=zae hr (.lst xs)
 exact q r _ hr hs ⟨xs,upd_same,Mc.zbY (Mc.Keep.of_same (S:=fun _=>True) hs) h2⟩
theorem zdw (T:Tx K mg a):FnOk P w K mg base CX0 1 a.f_Machine_bar a.d_Machine_bar ["self"] (zeg a fun c m H H' r=>Mc.LnAt H' r m.bar):=by
 refine T.Machine_bar.fn.ok zfz (fun vs H Q E h=>?_) (fun cdv A outer s H vs Q E hr h=>?_)
 ·obtain ⟨p,A,c,m,rfl,_⟩:=h
  rfl
 obtain ⟨p,A,c,m,rfl,M,O,q⟩:=h
 have I:=M.ins
 obtain ⟨xs,h1,h2⟩:=M.li.bar
 refine ⟨_,(zaf (zav (zbO (zdd K rfl) rfl T.b_list zel (zaa (pfld (K:=K) rfl T.Machine.cl T.n_Machine_hanging zaw (pv 0)) zad)))),?_⟩
 walk_at "rd"
 refine ⟨A.b,_,rfl,.inl (SqL.of h1),fun r hr=>?_⟩
 have hs:=zae hr (.lst xs)
 exact q r _ hr hs ⟨xs,upd_same,Mc.zbN (Mc.Keep.of_same (S:=fun _=>True) hs) h2⟩
/-- new lists of matrices -/
def zkL (H H':Hp) (r:Addr) (ms:List (List Mc.Mx)):Prop:=∃ ls:List Addr,H' r=some (.lst (ls.map V.ref))/\Paired (Mc.LnAt H') ls ms/\(r :: ls).Nodup/\∀ z ∈ ls,H z=none
theorem zbn (T:Tx K mg a):FnOk P w K mg base CX0 1 a.f_Machine_channels a.d_Machine_channels ["self"] (zeg a fun c m H H' r=>zkL H H' r m.lanes):=by
 refine T.Machine_channels.fn.ok zdF (fun vs H Q E h=>?_) (fun cdv A outer s H vs Q E hr h=>?_)
 ·obtain ⟨p,A,c,m,rfl,_⟩:=h
  rfl
 obtain ⟨p,A,c,m,rfl,M,O,q⟩:=h
 have I:=M.ins
 have hll:=Paired.length M.li.lns
 have hln:=O.ln
 have hfew:=O.cf.few
 refine ⟨_,(zaf (zav (zbW rfl (zbi K rfl (pfld (K:=K) rfl T.Machine.cl T.n_Machine_lying zaQ (pv 0))) (BlkOk.of (N':=["self","matrices"]) (ms:=[]) (k:=1) (by rfl)) (fun _ _ _ _ _=>(zal (i:=1) (show List.Nodup (["self","matrices"]:List Str) from by decide +kernel) rfl (Or.inl rfl))) (fun _ _ _ _ _=>zdE) (fun _ _ _ _ _=>(zbO (zdd K rfl) rfl T.b_list zel (zaa (pv 1) zad)))))),?_⟩
 walk_at "rd"
 refine ⟨⟨_,SqL.of M.li.lan⟩,fun D hD=>?_⟩
 refine zbh (a:=A.L) (xs:=A.ls.map V.ref) (fun i ys σ H2=>∃ (v2:Option V) (ls:List Addr),ys=ls.map V.ref/\σ=[some (.ref p),v2]/\Same H H2/\H2 D=some (.lst ys)/\Paired (Mc.LnAt H2) ls (m.lanes.take i)/\(D :: ls).Nodup/\∀ z ∈ ls,H z=none)
  ?_ ?_ ?_ ?_
 ·exact ⟨none,[],rfl,rfl,zae hD _,upd_same,.nil,by simp,fun z hz=>nomatch hz⟩
 ·rintro i ys σ H2 hi ⟨_,_,_,_,hs,_⟩
  exact hs.seq (SqL.of M.li.lan)
 ·rintro i y ys σ H2 hy hil ⟨v2,ls,rfl,rfl,hs,hh,hp,hn,hf⟩
  rw [List.getElem?_map] at hy
  obtain ⟨q1,hq1,rfl⟩:=Option.map_eq_some_iff.mp hy
  obtain ⟨l,hl,xs,hx1,hx2⟩:=Cs.zba M.li.lns hq1
  have hlp:=Paired.length hp
  rw [List.length_take] at hlp
  rw [List.length_map] at hil
  walk_at "rd"
  refine ⟨q1,xs,rfl,.inl (SqL.of (hs _ _ hx1)),fun r hr=>?_⟩
  have hsr:=zae hr (.lst xs)
  have hrr:upd H2 r (.lst xs) r=some (.lst xs):=upd_same
  generalize upd H2 r (.lst xs)=H3 at hsr hrr ⊢
  have hh3:=hsr _ _ hh
  have hrD:r ≠ D:=fun e=>by rw [e,hh] at hr;cases hr
  have kp:Mc.Keep (fun b=>b ≠ D) H3 (upd H3 D (.lst (ls.map V.ref++[V.ref r]))):=Mc.Keep.lst hh3
  obtain ⟨hn1,hn2⟩:=List.nodup_cons.mp hn
  have hrl:r ∉ ls:=fun z=>by
   obtain ⟨k,hk,e⟩:=List.getElem_of_mem z
   obtain ⟨_,_,ws,hw,_⟩:=Cs.zba hp (List.getElem?_eq_getElem hk)
   rw [e,hr] at hw
   cases hw
  have hm3:=Mc.zbN (Mc.Keep.of_same (S:=fun _=>True) (hs.trans hsr)) hx2
  have h33:=Mc.zby (Mc.Keep.of_same (S:=fun _=>True) hsr) (fun _ _=>trivial) hp
  refine zfn (by rw [List.length_map];exact hil) hh3 (by rw [List.length_map];omega) ⟨_,ls++[r],by rw [List.map_append];rfl,rfl,zax (hs.trans hsr) hD,upd_same,?_,?_,?_⟩
  ·rw [List.take_add_one,hl]
   exact Paired.snoc (Mc.zby kp (fun z hz e=>hn1 (e ▸ hz)) h33) ⟨xs,kp _ _ hrr (.inl hrD),Mc.zbN kp hm3⟩
  ·rw [List.nodup_cons,List.nodup_append]
   refine ⟨fun z=>?_,hn2,by simp,fun x hx y hy e=>?_⟩
   ·rcases List.mem_append.mp z with z | z
    ·exact hn1 z
    ·exact hrD (List.mem_singleton.mp z).symm
   ·rw [List.mem_singleton.mp hy] at e
    exact hrl (e ▸ hx)
  ·intro z hz
   rcases List.mem_append.mp hz with hz | hz
   ·exact hf z hz
   ·rw [List.mem_singleton.mp hz]
    exact hs.free hr
 ·rintro ys σ H2 ⟨v2,ls,rfl,rfl,hs,hh,hp,hn,hf⟩
  rw [List.length_map,hll,List.take_of_length_le (Nat.le_refl _)] at hp
  exact q D H2 hD hs ⟨ls,hh,hp,hn,hf⟩
/-- whether one more matrix of a channel can be broken so -/
def zat (rs:List Cs.Row) (ah:List Int) (ch te:Int):Bool :=
 if 0<=ch/\ch < rs.length then (match rs[ch.toNat]? with
  | some r=>decide ((ah.count ch:Int) < r.n) && decide (1<=te) && decide (Builtin.bitAnd r.t te=te)
  | none=>false)
 else false
def zhu (K:PySem.W.Frag):Sp:=fun vs H Q _=>∃ (c h:Addr) (ch te:Int) (rs:List Cs.Row) (ah:List Int),vs=[.ref c,.ref h,.int ch,.int te]/\Cs.zeV K H c rs/\H h=some (.lst (ah.map V.int))/\rs.length<=1000/\∀ H',Same H H'->Q (.bl (zat rs ah ch te)) H'
theorem zgH (T:Tx K mg a):FnOk P w K mg base CX0 2 a.f_can_break a.d_can_break ["case","ahead","channel","teeth"] (zhu K):=by
 have G_has_all:=zhS (P:=P) (w:=w) (base:=base) T
 refine T.can_break.fn.ok zhb (fun vs H Q E h=>?_) (fun cdv A outer s H vs Q E hr h=>?_)
 ·obtain ⟨c,h,ch,te,rs,ah,rfl,_⟩:=h
  rfl
 obtain ⟨c,h,ch,te,rs,ah,rfl,⟨xs,hS,hpd⟩,hah,hrl,q⟩:=h
 have hxl:=Cs.zbH hpd
 have qf:zat rs ah ch te=false->Q (.bl false) H:=fun e=>by have:=q H (Same.refl _);rw [e] at this;exact this
 refine ⟨_,(zac (zcb (zgO (zmd zor zmh zag (pv 2) (zaY (zdj K rfl) rfl T.b_len zcZ (zaa (pv 0) zad)))) (zaf (zav ziy)) zaI)
  (zac (zja (zbv (zaM K rfl) (pv 0) (pv 2) (fun _ _=>rfl)) (zbB K rfl (n:=4) rfl (zam (zal (i:=4) zhb.nd rfl (Or.inl rfl)) (zam (zal (i:=5) zhb.nd rfl (Or.inl rfl)) (zam (zal (i:=6) zhb.nd rfl (Or.inl rfl)) (zam (zal (i:=7) zhb.nd rfl (Or.inl rfl)) zbz))))))
  (zaf (zav (zdb (zaL zmh (zbD K rfl PySem.F.plainAttrs_list PySem.F.slot_list_count PySem.F.type_list_count ziY (pv 1) (zaa (pv 2) zad)) (pv 7) (zas _)) (zdb (zaL ztt (pv 3) zag (zas _)) (zew (zbe T.has_all G_has_all hr rfl (zaa (pv 6) (zaa (pv 3) zad)))))))))),?_⟩
 refine ⟨_,rfl,?_⟩
 refine ⟨_,_,rfl,rfl,?_⟩
 refine ⟨_,rfl,?_⟩
 refine ite2 (fun c1=>?_) (fun c1=>?_)
 ·have c1:0<=ch:=of_decide_eq_true c1
  refine ⟨_,rfl,?_⟩
  refine ⟨c,_,rfl,.inl hS,?_⟩
  refine ⟨_,_,rfl,rfl,?_⟩
  refine ⟨_,rfl,?_⟩
  by_cases c2:ch < (xs.length:Int)
  ·rw [decide_eq_true c2]
   refine iteF ?_
   obtain ⟨k,rfl⟩:=Int.eq_ofNat_of_zero_le c1
   have hxk:xs[k]?=some (xs[k]'(by omega)):=List.getElem?_eq_getElem _
   obtain ⟨r,hrk,t,et,ht⟩:=Cs.zba hpd hxk
   rw [et] at hxk
   have ek:atI xs (k:Int)=some (.ref t):=zbw hxk
   have eB:zat rs ah (k:Int) te=(decide ((ah.count (k:Int):Int) < r.n) && decide (1<=te) && decide (Builtin.bitAnd r.t te=te)):=by
    unfold zat
    rw [if_pos ⟨by omega,by omega⟩,Int.toNat_natCast,hrk]
   have q:=q H (Same.refl _)
   rw [eB] at q
   clear qf
   refine ⟨_,rfl,?_⟩
   refine ⟨_,rfl,?_⟩
   refine ⟨c,_,_,_,rfl,rfl,hS,ek,?_⟩
   clear ek
   refine ⟨_,_,rfl,SqT.of ht,rfl,?_⟩
   walk_at "tg"
   walk_at "tg"
   walk_at "tg"
   walk_at "tg"
   refine And.intro rfl ?_
   refine ⟨_,rfl,?_⟩
   refine ⟨.inl ⟨rfl,_,SqL.of hah⟩,?_⟩
   refine ⟨_,rfl,?_⟩
   refine ⟨h,ah,_,rfl,rfl,hah,?_⟩
   refine ⟨_,rfl,?_⟩
   refine ⟨_,_,rfl,rfl,?_⟩
   refine ⟨_,rfl,?_⟩
   by_cases c3:(ah.count (k:Int):Int) < r.n
   ·rw [decide_eq_true c3] at q ⊢
    refine iteT ?_
    refine ⟨_,rfl,?_⟩
    refine ⟨_,_,rfl,rfl,?_⟩
    refine ⟨_,rfl,?_⟩
    by_cases c4:1<=te
    ·rw [decide_eq_true c4] at q ⊢
     refine iteT ?_
     refine ⟨_,rfl,?_⟩
     refine ⟨_,rfl,?_⟩
     exact ⟨r.t,te,rfl,q⟩
    ·rw [decide_eq_false c4] at q ⊢
     refine iteF ?_
     exact q
   ·rw [decide_eq_false c3] at q ⊢
    refine iteF ?_
    exact q
  ·rw [decide_eq_false c2]
   refine iteT ?_
   exact qf (by unfold zat;rw [if_neg (fun z=>c2 (by have:=z.2;omega))])
 ·have c1:¬ 0<=ch:=fun z=>c1 (decide_eq_true z)
  try refine ⟨_,rfl,?_⟩
  try refine iteT ?_
  exact qf (by unfold zat;rw [if_neg (fun z=>c1 z.1)])
open Lan in
/-- matrices as they lie at first -/
def zaZ (rs:List Cs.Row):List (List Mx):=rs.map fun r=>List.replicate r.n.toNat (r.s,r.t)
open Lan in
def setLane (rs:List Cs.Row) (ls:List (List Mx)) (ah:List Int) (b:Int × Int):List (List Mx) :=
 match rs[b.1.toNat]?,ls[b.1.toNat]? with
 | some r,some m=>ls.set b.1.toNat (m.set (ah.count b.1) (r.s,r.t - b.2))
 | _,_=>ls
open Lan in
def zlD (rs:List Cs.Row) (st:Option (List (List Mx) × List Int)) (b:Int × Int):Option (List (List Mx) × List Int) :=
 st.bind fun s=>if zat rs s.2 b.1 b.2=true then some (setLane rs s.1 s.2 b,s.2++[b.1]) else none
open Lan in
def after (rs:List Cs.Row) (bs:List (Int × Int)) (k:Nat):Option (List (List Mx) × List Int):=(bs.take k).foldl (zlD rs) (some (zaZ rs,[]))
theorem zcw (rs:List Cs.Row) (bs:List (Int × Int)):after rs bs 0=some (zaZ rs,[]):=rfl
theorem zdi {rs:List Cs.Row} {bs:List (Int × Int)} {k:Nat} {b:Int × Int} (h:bs[k]?=some b):after rs bs (k+1)=zlD rs (after rs bs k) b:=by
 unfold after
 rw [List.take_add_one,h]
 show List.foldl (zlD rs) _ (bs.take k++[b])=_
 rw [List.foldl_append]
 rfl
open Lan in
/-- what is told of broken matrices -/
inductive Told40 (rs:List Cs.Row) (bs:List (Int × Int)):Sum Nat (List (List Mx))->Prop
 | bad {k:Nat} {ls:List (List Mx)} {ah:List Int} {b:Int × Int}:after rs bs k=some (ls,ah)->bs[k]?=some b->zat rs ah b.1 b.2=false->Told40 rs bs (.inl k)
 | good {ls:List (List Mx)} {ah:List Int}:after rs bs bs.length=some (ls,ah)->Told40 rs bs (.inr ls)
theorem zcu {rs:List Cs.Row} {bs:List (Int × Int)} {k:Nat} (h:after rs bs k=none):∀ j,k+j<=bs.length->after rs bs (k+j)=none
 | 0,_=>h
 | j+1,hj=>by
   have hlt:k+j < bs.length:=by omega
   rw [<- Nat.add_assoc,zdi (List.getElem?_eq_getElem hlt),zcu h j (by omega)]
   rfl
theorem zgC {rs:List Cs.Row} {bs:List (Int × Int)} {k:Nat} {ls:List (List Lan.Mx)} {ah:List Int} {b:Int × Int} (h:after rs bs k=some (ls,ah)) (hb:bs[k]?=some b) (hc:zat rs ah b.1 b.2=false):after rs bs (k+1)=none:=by
 rw [zdi hb,h]
 show (if zat rs ah b.1 b.2=true then _ else none)=none
 rw [hc]
 rfl
theorem Told40.uniq {rs:List Cs.Row} {bs:List (Int × Int)} {a b:Sum Nat (List (List Lan.Mx))} (ha:Told40 rs bs a) (hb:Told40 rs bs b):a=b:=by
 have lt:∀ {k:Nat} {b:Int × Int},bs[k]?=some b->k < bs.length:=fun h=>(List.getElem?_eq_some_iff.mp h).1
 cases ha with
 | bad h1 g1 c1 =>
   rename_i k ls ah b1
   have n1:=zgC h1 g1 c1
   cases hb with
   | bad h2 g2 c2 =>
     rename_i k' ls' ah' b2
     have n2:=zgC h2 g2 c2
     have l1:=lt g1
     have l2:=lt g2
     rcases Nat.lt_trichotomy k k' with z | z | z
     ·have:=zcu n1 (k' - (k+1)) (by omega)
      rw [show k+1+(k' - (k+1))=k' by omega,h2] at this
      cases this
     ·rw [z]
     ·have:=zcu n2 (k - (k'+1)) (by omega)
      rw [show k'+1+(k - (k'+1))=k by omega,h1] at this
      cases this
   | good h2 =>
     have l1:=lt g1
     have:=zcu n1 (bs.length - (k+1)) (by omega)
     rw [show k+1+(bs.length - (k+1))=bs.length by omega,h2] at this
     cases this
 | good h1 =>
   cases hb with
   | bad h2 g2 c2 =>
     rename_i k' ls' ah' b2
     have l2:=lt g2
     have:=zcu (zgC h2 g2 c2) (bs.length - (k'+1)) (by omega)
     rw [show k'+1+(bs.length - (k'+1))=bs.length by omega,h1] at this
     cases this
   | good h2 =>
     rw [h1] at h2
     cases h2
     rfl
/-- a tuple of two numbers -/
def Two (H:Hp) (v:V) (b:Int × Int):Prop:=∃ a,v=.ref a/\H a=some (.tup [.int b.1,.int b.2])
theorem zdW {H H':Hp} {xs:List V} {bs:List (Int × Int)} (h:Paired (Two H) xs bs) (s:Same H H'):Paired (Two H') xs bs:=Paired.mapP h fun _ _ ⟨a,e,z⟩=>⟨a,e,s _ _ z⟩
theorem ztN {n k:Nat} (h:k < n):ixN n (k:Int)=some k:=by
 unfold ixN
 rw [if_pos (by omega),if_pos (by omega)]
 simp
theorem znU {rs:List Cs.Row} {ah:List Int} {ch te:Int} (h:zat rs ah ch te=true):∃ (k:Nat) (r:Cs.Row),ch=(k:Int)/\rs[k]?=some r/\ah.count ch < r.n.toNat:=by
 unfold zat at h
 split at h
 ·rename_i hb
  obtain ⟨k,rfl⟩:=Int.eq_ofNat_of_zero_le hb.1
  rw [Int.toNat_natCast] at h
  split at h
  ·rename_i r hr
   simp only [Bool.and_eq_true,decide_eq_true_eq] at h
   exact ⟨k,r,rfl,hr,by omega⟩
  ·cases h
 ·cases h
def zft (K:PySem.W.Frag):Sp:=fun vs H Q E=>∃ (c b:Addr) (xs bv:List V) (rs:List Cs.Row) (bs:List (Int × Int)) (lt:List (List Lan.Mx)),vs=[.ref c,.ref b]/\H c=some (.lst xs)/\Paired (Cs.zce H) xs rs/\rs.length<=100/\(∀ r ∈ rs,0<=r.n/\r.n<=1000)/\H b=some (.lst bv)/\Paired (Two H) bv bs/\bs.length<=1000/\Told40 rs bs (.inr lt) /\
 (∀ (D:Addr) (zs:List V) H',H D=none->Same H H'->H' D=some (.lst zs)->Paired (Lan.zcv H D H') zs lt->zs.Nodup->Q (.ref D) H')
theorem zfq (T:Tx K mg a):FnOk P w K mg base CX0 3 a.f_channels_of a.d_channels_of ["case","broken"] (zft K):=by
 have G_can_break:=zgH (P:=P) (w:=w) (base:=base) T
 refine T.channels_of.fn.ok zfr (fun vs H Q E h=>?_) (fun cdv A outer s H vs Q E hr h=>?_)
 ·obtain ⟨c,b,xs,bv,rs,bs,lt,rfl,_⟩:=h
  rfl
 obtain ⟨c,b,xs,bv,rs,bs,lt,rfl,hc,hpd,hrl,hrn,hb,hbd,hbl,htd,q⟩:=h
 have hxl:=Cs.zbH hpd
 have hbvl:=Paired.length hbd
 refine ⟨_,(zac (znD (i:=2) zfr.nd rfl (Or.inl rfl) rfl (zbi K rfl (pv 0)) (BlkOk.of (N':=["case","broken","channels","ahead","at","part","channel","lost","sign","width","own","many","teeth"]) (ms:=[8,9,11]) (k:=1) (by rfl)) (fun _ _ _ _ _=>(zbB K rfl (n:=4) rfl (zam (zal (i:=8) (show List.Nodup (["case","broken","channels","ahead","at","part","channel","lost","sign","width","own","many","teeth"]:List Str) from by decide +kernel) rfl (Or.inl rfl)) (zam (zal (i:=9) (show List.Nodup (["case","broken","channels","ahead","at","part","channel","lost","sign","width","own","many","teeth"]:List Str) from by decide +kernel) rfl (Or.inl rfl)) (zam (zal (i:=12) (show List.Nodup (["case","broken","channels","ahead","at","part","channel","lost","sign","width","own","many","teeth"]:List Str) from by decide +kernel) rfl (Or.inl rfl)) (zam (zal (i:=11) (show List.Nodup (["case","broken","channels","ahead","at","part","channel","lost","sign","width","own","many","teeth"]:List Str) from by decide +kernel) rfl (Or.inl rfl)) zbz)))))) (fun _ _ _ _ _=>zdE) (fun _ _ _ _ _=>(zap zrD (zaD (zaa (zht (zaa (pv 8) (zaa (pv 12) zad))) zad)) (pv 11))))
  (zac (zay (i:=3) zfr.nd rfl (Or.inl rfl) (zaD zad))
  (zac (zcO PassesOwn.never rfl (zcE K rfl rfl T.b_enumerate (zaa (ziT (zpM (zrN (pv 1))) (zaD zad) (pv 1)) zad)) (zbB K rfl (n:=2) rfl (zam (zal (i:=4) zfr.nd rfl (Or.inl rfl)) (zam (zal (i:=5) zfr.nd rfl (Or.inl rfl)) zbz))) (zac (zja (pv 5) (zbB K rfl (n:=2) rfl (zam (zal (i:=6) zfr.nd rfl (Or.inl rfl)) (zam (zal (i:=7) zfr.nd rfl (Or.inl rfl)) zbz))))
  (zac (zcb (zgO (zdz (zbe T.can_break G_can_break hr rfl (zaa (pv 0) (zaa (pv 3) (zaa (pv 6) (zaa (pv 7) zad))))))) (zaf zgA) zaI)
  (zac (zja (zbv (zaM K rfl) (pv 0) (pv 6) (fun _ _=>rfl)) (zbB K rfl (n:=4) rfl (zam (zal (i:=8) zfr.nd rfl (Or.inl rfl)) (zam (zal (i:=9) zfr.nd rfl (Or.inl rfl)) (zam (zal (i:=10) zfr.nd rfl (Or.inl rfl)) (zam (zal (i:=11) zfr.nd rfl (Or.inl rfl)) zbz))))))
  (zac (zja (zht (zaa (pv 8) (zaa (zap zlL (pv 10) (pv 7)) zad))) (zrE (zbv (zaM K rfl) (pv 2) (pv 6) (fun _ _=>rfl)) (zbD K rfl PySem.F.plainAttrs_list PySem.F.slot_list_count PySem.F.type_list_count ziY (pv 3) (zaa (pv 6) zad)) zmY))
  (zaf (zaR (zbD K rfl PySem.F.plainAttrs_list PySem.F.slot_list_append PySem.F.type_list_append zbf (pv 3) (zaa (pv 6) zad)))))))))
  (zaf (zav (pv 2)))))),?_⟩
 walk_at "rd"
 refine ⟨⟨_,SqL.of hc⟩,fun D hD=>?_⟩
 refine zbh (a:=c) (xs:=xs) (fun j zs σ H2=>∃ (w8 w9 w11 w12:Option V),σ=[some (.ref c),some (.ref b),none,none,none,none,none,none,w8,w9,none,w11,w12]/\Same H H2/\H2 D=some (.lst zs)/\Paired (Lan.zcv H D H2) zs ((zaZ rs).take j)/\zs.Nodup)
  ?_ ?_ ?_ ?_
 ·exact ⟨none,none,none,none,rfl,zae hD _,upd_same,.nil,List.nodup_nil⟩
 ·rintro j zs σ H2 hj ⟨_,_,_,_,_,hs,_⟩
  exact hs.seq (SqL.of hc)
 ·rintro j y zs σ H2 hy hjl ⟨w8,w9,w11,w12,rfl,hs2,hh2,hz2,hzn⟩
  obtain ⟨r,hrj,t,rfl,ht⟩:=Cs.zba hpd hy
  have hrb:=hrn r (List.mem_of_getElem? hrj)
  have hzl:=Paired.length hz2
  rw [List.length_take] at hzl
  refine ⟨_,_,rfl,SqT.of (hs2 _ _ ht),rfl,?_⟩
  walk_at "tg"
  walk_at "tg"
  walk_at "tg"
  walk_at "tg"
  try refine And.intro rfl ?_
  walk_at "rd"
  intro pt hpt
  have hs3:=zae hpt (.tup [.str r.s,.int r.t])
  have h3t:upd H2 pt (.tup [.str r.s,.int r.t]) pt=some (.tup [.str r.s,.int r.t]):=upd_same
  generalize upd H2 pt (.tup [.str r.s,.int r.t])=H3 at hs3 h3t ⊢
  walk_at "rd"
  intro p1 hp1
  have hs4:=zae hp1 (.lst [.ref pt])
  have h41:upd H3 p1 (.lst [.ref pt]) p1=some (.lst [.ref pt]):=upd_same
  generalize upd H3 p1 (.lst [.ref pt])=H4 at hs4 h41 ⊢
  walk_at "rd"
  refine ⟨p1,_,_,rfl,rfl,h41,by omega,by omega,zbK (by show 1 * r.n.toNat<=_;omega),fun p2 hp2=>?_⟩
  have efl:(List.replicate r.n.toNat [V.ref pt]).flatten=List.replicate r.n.toNat (V.ref pt):=by
   generalize r.n.toNat=n
   induction n with
   | zero=>rfl
   | succ n ih=>rw [List.replicate_succ,List.flatten_cons,ih];rfl
  rw [efl]
  have hs5:=zae hp2 (.lst (List.replicate r.n.toNat (V.ref pt)))
  have h52:upd H4 p2 (.lst (List.replicate r.n.toNat (V.ref pt))) p2=some (.lst (List.replicate r.n.toNat (V.ref pt))):=upd_same
  generalize upd H4 p2 (.lst (List.replicate r.n.toNat (V.ref pt)))=H5 at hs5 h52 ⊢
  have hs25:=hs3.trans (hs4.trans hs5)
  have hh5:=hs25 _ _ hh2
  have hpD:p2 ≠ D:=fun e=>by rw [e,(hs3.trans hs4) _ _ hh2] at hp2;cases hp2
  have hp20:H2 p2=none:=hs3.free (hs4.free hp2)
  refine zfn hjl hh5 (by omega) ⟨_,_,_,_,rfl,zax (hs2.trans hs25) hD,upd_same,?_,?_⟩
  ·have e0:(zaZ rs)[j]?=some (List.replicate r.n.toNat (r.s,r.t)):=by
    unfold zaZ
    rw [List.getElem?_map,hrj]
    rfl
   rw [List.take_add_one,e0]
   refine Paired.snoc (Lan.zmU (Lan.zdf hz2 hs25) hh5) ⟨p2,_,rfl,hpD,hs2.free hp20,by rw [zai hpD];exact h52,Lan.zcz (Lan.zjd ⟨pt,rfl,(hs4.trans hs5) _ _ h3t⟩ _) hh5⟩
  ·rw [List.nodup_append]
   refine ⟨hzn,by simp,fun x hx y hy=>?_⟩
   rw [List.mem_singleton.mp hy]
   exact fun e=>Lan.zhn hz2 hp20 (e ▸ hx)
 ·rintro zs σ H2 ⟨w8,w9,w11,w12,rfl,hs2,hh2,hz2,hzn⟩
  rw [hxl,List.take_of_length_le (by unfold zaZ;rw [List.length_map];exact Nat.le_refl _)] at hz2
  walk_at "rd"
  intro ph hph
  have hs3:=zae hph (.lst [])
  have h3h:upd H2 ph (.lst []) ph=some (.lst (([]:List Int).map V.int)):=upd_same
  generalize upd H2 ph (.lst [])=H3 at hs3 h3h ⊢
  have hphz:V.ref ph ∉ zs:=Lan.zhn hz2 hph
  have hphD:ph ≠ D:=fun e=>by rw [e,hh2] at hph;cases hph
  have hph0:H ph=none:=hs2.free hph
  have hb3:=(hs2.trans hs3) _ _ hb
  refine ⟨_,rfl,?_⟩
  refine ⟨_,rfl,?_⟩
  refine iteF ?_
  refine ⟨_,rfl,?_⟩
  refine ⟨b,rfl,⟨_,SqL.of hb3⟩,?_⟩
  refine zcH (a:=b) (xs:=bv) (fun i σ H4=>∃ (ls:List (List Lan.Mx)) (ah:List Int) (v4 v5 v6 v7 v8 v9 v10 v11:Option V),σ=[some (.ref c),some (.ref b),some (.ref D),some (.ref ph),v4,v5,v6,v7,v8,v9,v10,v11]/\Same H H4/\H4 D=some (.lst zs)/\Paired (Lan.zcv H D H4) zs ls/\H4 ph=some (.lst (ah.map V.int))/\after rs bs i=some (ls,ah)/\ah.length=i/\(∀ (k:Nat) m r,ls[k]?=some m->rs[k]?=some r->m.length=r.n.toNat))
   ⟨zaZ rs,[],none,none,none,none,none,none,none,none,rfl,hs2.trans hs3,hs3 _ _ hh2,Lan.zdf hz2 hs3,h3h,zcw rs bs,rfl,fun k m r hm hr=>?_⟩ (fun i σ H4 _ ⟨_,_,_,_,_,_,_,_,_,_,_,hs,_⟩=>hs.seq (SqL.of hb)) ?_ ?_
  ·unfold zaZ at hm
   rw [List.getElem?_map,hr] at hm
   have hm:List.replicate r.n.toNat (r.s,r.t)=m:=Option.some.inj hm
   rw [<- hm,List.length_replicate]
  ·rintro i y te σ H4 hy ⟨ls,ah,v4,v5,v6,v7,v8,v9,v10,v11,rfl,hs4,hD4,hz4,hp4,haf,hal,hlen⟩ hte
   obtain ⟨bb,hbi,tp,rfl,htp⟩:=Cs.zba hbd hy
   have hsA:=zae hte (.tup [.int i,.ref tp])
   have hAt:upd H4 te (.tup [.int i,.ref tp]) te=some (.tup [.int i,.ref tp]):=upd_same
   generalize upd H4 te (.tup [.int i,.ref tp])=H5 at hsA hAt ⊢
   have hs05:=hs4.trans hsA
   refine ⟨_,_,rfl,SqT.of hAt,rfl,?_⟩
   walk_at "tg"
   walk_at "tg"
   try refine And.intro rfl ?_
   refine ⟨_,rfl,?_⟩
   refine ⟨_,_,rfl,SqT.of (hs05 _ _ htp),rfl,?_⟩
   walk_at "tg"
   walk_at "tg"
   try refine And.intro rfl ?_
   refine ⟨_,rfl,?_⟩
   refine ⟨_,rfl,?_⟩
   refine ⟨_,rfl,?_⟩
   refine ⟨_,rfl,?_⟩
   refine ⟨c,ph,bb.1,bb.2,rs,ah,rfl,⟨xs,SqL.of (hs05 _ _ hc),Cs.zaC hpd hs05⟩,hsA _ _ hp4,by omega,fun H6 hs6=>?_⟩
   have hs46:=hsA.trans hs6
   have hs06:=hs4.trans hs46
   refine ⟨_,rfl,?_⟩
   cases hcb:zat rs ah bb.1 bb.2 with
   | false =>
     refine iteT ?_
     exact absurd (Told40.uniq (.bad haf hbi hcb) htd) (by intro z;cases z)
   | true =>
     refine iteF ?_
     have hib:=(List.getElem?_eq_some_iff.mp hy).1
     obtain ⟨k,r,hk1,hrk,hcnt⟩:=znU hcb
     have hkl:k < rs.length:=(List.getElem?_eq_some_iff.mp hrk).1
     have hxk:xs[k]?=some (xs[k]'(by omega)):=List.getElem?_eq_getElem _
     obtain ⟨r',hrk',t,et,ht⟩:=Cs.zba hpd hxk
     rw [hrk] at hrk'
     cases hrk'
     rw [et] at hxk
     have ek:atI xs (k:Int)=some (.ref t):=zbw hxk
     have hzl:=Paired.length hz4
     obtain ⟨hzk,m,hmk⟩:k < zs.length/\∃ m,ls[k]?=some m:=by
      have h1:(zaZ rs).length=rs.length:=List.length_map _
      have h2:=Paired.length hz2
      exact ⟨by omega,ls[k]'(by omega),List.getElem?_eq_getElem _⟩
     have hzk':zs[k]?=some zs[k]:=List.getElem?_eq_getElem hzk
     obtain ⟨m',hmk',p,ms0,ep,hpD,hp0,hp4',hpm⟩:=Cs.zba hz4 hzk'
     rw [hmk] at hmk'
     cases hmk'
     rw [ep] at hzk'
     have ez:atI zs (k:Int)=some (.ref p):=zbw hzk'
     have hml:=hlen k m r hmk hrk
     have hmsl:=Paired.length hpm
     have hpph:p ≠ ph:=fun e=>hphz (by rw [<- e];exact List.mem_of_getElem? hzk')
     have hD6:=hs46 _ _ hD4
     have hph6:=hs46 _ _ hp4
     have hp6:=hs46 _ _ hp4'
     have hz6:=Lan.zdf hz4 hs46
     have hpm6:=Lan.zaG hpm hs46
     rw [hk1]
     refine ⟨_,rfl,?_⟩
     refine ⟨_,rfl,?_⟩
     refine ⟨c,_,_,_,rfl,rfl,SqL.of (hs06 _ _ hc),ek,?_⟩
     clear ek
     refine ⟨_,_,rfl,SqT.of (hs06 _ _ ht),rfl,?_⟩
     walk_at "tg"
     walk_at "tg"
     walk_at "tg"
     walk_at "tg"
     try refine And.intro rfl ?_
     refine ⟨_,rfl,?_⟩
     refine ⟨_,rfl,?_⟩
     refine ⟨_,rfl,?_⟩
     refine ⟨_,_,rfl,rfl,?_⟩
     walk_at "rd"
     intro tn htn
     have hs67:=zae htn (HO.tup [V.str r.s,(fun i j:Int=>V.int (i - j)) r.t bb.2])
     have h7n:upd H6 tn (HO.tup [V.str r.s,(fun i j:Int=>V.int (i - j)) r.t bb.2]) tn=some (.tup [.str r.s,.int (r.t - bb.2)]):=upd_same
     generalize upd H6 tn (HO.tup [V.str r.s,(fun i j:Int=>V.int (i - j)) r.t bb.2])=H7 at hs67 h7n ⊢
     have hs07:=hs06.trans hs67
     have hD7:=hs67 _ _ hD6
     have hph7:=hs67 _ _ hph6
     have hp7:=hs67 _ _ hp6
     have hz7:=Lan.zdf hz6 hs67
     have hpm7:=Lan.zaG hpm6 hs67
     have hcnt':ah.count (k:Int) < ms0.length:=by rw [hk1] at hcnt;omega
     refine ⟨_,rfl,?_⟩
     refine ⟨_,rfl,?_⟩
     refine ⟨D,_,_,_,rfl,rfl,SqL.of hD7,ez,?_⟩
     clear ez
     refine ⟨_,rfl,?_⟩
     refine ⟨.inl ⟨rfl,_,SqL.of hph7⟩,?_⟩
     refine ⟨_,rfl,?_⟩
     refine ⟨ph,ah,_,rfl,rfl,hph7,?_⟩
     refine ⟨p,ms0,_,ah.count (k:Int),rfl,rfl,hp7,ztN hcnt',?_⟩
     have hm8:Paired (Lan.zbd (upd H7 p (.lst (ms0.set (ah.count (k:Int)) (.ref tn))))) (ms0.set (ah.count (k:Int)) (.ref tn)) (m.set (ah.count (k:Int)) (r.s,r.t - bb.2)):=Lan.zns ⟨tn,rfl,by rw [zai (zcq h7n hp7 (fun q=>by cases q))];exact h7n⟩ _ (Lan.zcz hpm7 hp7)
     have hz8:=Lan.lanes_set k hz7 hzn hzk' hp7 hm8 hpD hp0
     have hs08:Same H (upd H7 p (.lst (ms0.set (ah.count (k:Int)) (.ref tn)))):=zax hs07 hp0
     have hD8:upd H7 p (.lst (ms0.set (ah.count (k:Int)) (.ref tn))) D=some (.lst zs):=by rw [zai (Ne.symm hpD)];exact hD7
     have hph8:upd H7 p (.lst (ms0.set (ah.count (k:Int)) (.ref tn))) ph=some (.lst (ah.map V.int)):=by rw [zai (Ne.symm hpph)];exact hph7
     generalize upd H7 p (.lst (ms0.set (ah.count (k:Int)) (.ref tn)))=H8 at hz8 hs08 hD8 hph8 ⊢
     refine ⟨_,rfl,?_⟩
     refine ⟨.inl ⟨rfl,_,SqL.of hph8⟩,?_⟩
     refine ⟨_,rfl,?_⟩
     refine ⟨ph,_,_,rfl,rfl,hph8,zco (by rw [List.length_map];omega),?_⟩
     have hsl:setLane rs ls ah bb=ls.set k (m.set (ah.count (k:Int)) (r.s,r.t - bb.2)):=by
      unfold setLane
      rw [hk1,Int.toNat_natCast,hrk,hmk]
     refine ⟨ls.set k (m.set (ah.count (k:Int)) (r.s,r.t - bb.2)),ah++[(k:Int)],_,_,_,_,_,_,_,_,rfl,zax hs08 hph0,by rw [zai (Ne.symm hphD)];exact hD8,Lan.lanes_set.lanes_else hz8 hphz hph8,by rw [upd_same,List.map_append];rfl,?_,by rw [List.length_append,hal];rfl,fun k' m' r' hm' hr'=>?_⟩
     ·rw [zdi hbi,haf]
      show (if zat rs ah bb.1 bb.2=true then some (setLane rs ls ah bb,ah++[bb.1]) else none)=_
      rw [if_pos hcb,hsl,hk1]
     ·rw [List.getElem?_set] at hm'
      split at hm'
      ·rename_i e
       subst e
       split at hm'
       ·have hm':=Option.some.inj hm'
        rw [<- hm',List.length_set]
        exact hlen k m r' hmk hr'
       ·cases hm'
      ·exact hlen k' m' r' hm' hr'
  ·rintro σ H4 ⟨ls,ah,v4,v5,v6,v7,v8,v9,v10,v11,rfl,hs4,hD4,hz4,hp4,haf,hal,hlen⟩
   rw [hbvl] at haf
   refine ⟨_,rfl,?_⟩
   have e:ls=lt:=Sum.inr.inj (Told40.uniq (.good haf) htd)
   exact q D zs H4 hD hs4 hD4 (e ▸ hz4) hzn
theorem zoY {c d:Nat} (h:sg c=sg d):c=d:=by
 have h:(#[c]:Array Nat)=#[d]:=congrArg Str.cps h
 simpa using h
theorem sgV {c d:Nat}:decide (V.str (sg c)=V.str (sg d))=decide (c=d):=by
 rw [Cs.strV,decide_eq_decide]
 exact ⟨fun h=>zoY h,fun h=>by rw [h]⟩
def zfx:Sp:=fun vs H Q _=>∃ c:Nat,vs=[.str (sg c)]/\Q (.bl (Lns.isS c)) H
theorem zfo (T:Tx K mg a):FnOk P w K mg base CX0 1 a.f_is_sign_key a.d_is_sign_key ["key"] zfx:=by
 refine T.is_sign_key.fn.ok zfB (fun vs H Q E h=>?_) (fun cdv A outer s H vs Q E hr h=>?_)
 ·obtain ⟨c,rfl,_⟩:=h
  rfl
 obtain ⟨c,rfl,q⟩:=h
 have e1:decide (V.str (sg c)=V.str (Str.ofString " "))=decide (c=32):=sgV (d:=32)
 have e2:decide (V.str (sg c)=V.str (Str.ofString "/"))=decide (c=47):=sgV (d:=47)
 unfold Lns.isS at q
 refine ⟨_,(zaf (zav (zdb (zaL ziE (pv 0) (zdB (v:=.str " ") rfl T.g_GAP_KEY ⟨_,rfl⟩) (zas _)) (zew (zaL ziE (pv 0) (zdB (v:=.str "/") rfl T.g_SEND_KEY ⟨_,rfl⟩) (zas _)))))),?_⟩
 walk_at "rd"
 rw [e1]
 cases h32:decide (c=32) with
 | true =>
   rw [h32] at q
   exact q
 | false =>
   rw [h32] at q
   refine iteT ?_
   walk_at "rd"
   rw [e2]
   exact q
def zjI (K:PySem.W.Frag):Sp:=fun vs H Q _=>∃ (l:Addr) (x:Str) (i:Nat) (rs:List Cs.Row),vs=[.ref l,.str x,.int (i:Int)]/\Cs.zeV K H l rs/\x.length<=90000/\i < x.cps.toList.length/\∀ H',Same H H'->Q (.bl (Lns.zjj rs x.cps.toList i)) H'
theorem zjB (T:Tx K mg a):FnOk P w K mg base CX0 2 a.f_goes_on a.d_goes_on ["case","keys","at"] (zjI K):=by
 have G_is_sign_key:=zfo (P:=P) (w:=w) (base:=base) T
 have G_channel_of:=zcB (P:=P) (w:=w) (base:=base) T
 refine T.goes_on.fn.ok zkl (fun vs H Q E h=>?_) (fun cdv A outer s H vs Q E hr h=>?_)
 ·obtain ⟨l,x,i,rs,rfl,_⟩:=h
  rfl
 obtain ⟨l,x,i,rs,rfl,hC,hx,hi,q⟩:=h
 have hxs:x.length<=sizeLine:=zbK (by omega)
 have ec:atI x.cps.toList (i:Int)=some x.cps.toList[i]:=zbw (List.getElem?_eq_getElem hi)
 unfold Lns.zjj at q
 rw [List.getElem?_eq_getElem hi] at q
 generalize x.cps.toList[i]=c at ec q
 have q:∀ H',Same H H'->Q (.bl (if Lns.isS c=true then (Cs.place rs (sg c)).isSome else decide (0 < i) && (match x.cps.toList[i - 1]? with | none=>false | some d=>Lns.isS d))) H':=q
 refine ⟨_,(zac (zcb (zdz (zbe T.is_sign_key G_is_sign_key hr rfl (zaa (zbv zeZ (pv 1) (pv 2) (fun _ _=>rfl)) zad))) (zaf (zav (znn (zle (zbe T.channel_of G_channel_of hr rfl (zaa (pv 0) (zaa (zbv zeZ (pv 1) (pv 2) (fun _ _=>rfl)) zad))))))) zaI)
  (zaf (zav (zdb (zaL zhK (pv 2) zag (zas _)) (zew (zbe T.is_sign_key G_is_sign_key hr rfl (zaa (zbv zeZ (pv 1) (zap zlL (pv 2) zag) (fun _ _=>rfl)) zad))))))),?_⟩
 walk_at "rd"
 refine ⟨_,_,_,rfl,rfl,hxs,ec,?_⟩
 walk_at "rd"
 try refine ⟨_,rfl,?_⟩
 cases hs:Lns.isS c with
 | true =>
   rw [hs] at q
   refine iteT ?_
   walk_at "rd"
   refine ⟨_,_,_,rfl,rfl,hxs,ec,?_⟩
   walk_at "rd"
   refine ⟨l,sg c,rs,rfl,hC,fun H1 hs1=>?_⟩
   have e:(!decide (Mt.optV (Cs.place rs (sg c))=V.non))=(Cs.place rs (sg c)).isSome:=by
    cases Cs.place rs (sg c) <;> rfl
   have q:=q H1 hs1
   rw [if_pos rfl,<- e] at q
   exact q
 | false =>
   rw [hs] at q
   refine iteF ?_
   walk_at "rd"
   have q:=q H (Same.refl _)
   rw [if_neg (by decide)] at q
   cases i with
   | zero =>
     refine iteF ?_
     exact q
   | succ j =>
     have hj:j < x.cps.toList.length:=by omega
     have ec2:atI x.cps.toList (((j+1:Nat):Int) - 1)=some x.cps.toList[j]:=by
      rw [show (((j+1:Nat):Int) - 1)=((j:Nat):Int) by omega]
      exact zbw (List.getElem?_eq_getElem hj)
     rw [show j+1 - 1=j from rfl,List.getElem?_eq_getElem hj] at q
     have e0:decide ((0:Int) < ((j+1:Nat):Int))=true:=decide_eq_true (by omega)
     rw [e0]
     refine iteT ?_
     walk_at "rd"
     refine ⟨_,_,_,rfl,rfl,hxs,ec2,?_⟩
     walk_at "rd"
     have q:Q (.bl (decide (0 < j+1) && Lns.isS x.cps.toList[j])) H:=q
     rw [show decide (0 < j+1)=true from decide_eq_true (by omega),Bool.true_and] at q
     exact q
def zez (K:PySem.W.Frag):Sp:=fun vs H Q _=>∃ (l:Addr) (x:Str) (rs:List Cs.Row),vs=[.ref l,.str x]/\Cs.zeV K H l rs/\x.length<=90000/\Lns.zaU rs false x.cps.toList=true/\(x.cps.toList=[]\/∃ a,x.cps.toList=a++[47])/\∀ H',Same H H'->Q .non H'
theorem zex (T:Tx K mg a):FnOk P w K mg base CX0 3 a.f_look_at_keys a.d_look_at_keys ["case","keys"] (zez K):=by
 have G_goes_on:=zjB (P:=P) (w:=w) (base:=base) T
 refine T.look_at_keys.fn.ok zeO (fun vs H Q E h=>?_) (fun cdv A outer s H vs Q E hr h=>?_)
 ·obtain ⟨l,x,rs,rfl,_⟩:=h
  rfl
 obtain ⟨l,x,rs,rfl,hC,hx,hok,hend,q⟩:=h
 have hxs:x.length<=sizeLine:=zbK (by omega)
 have hxl:x.cps.toList.length=x.length:=Array.length_toList
 refine ⟨_,(zac (zcO PassesOwn.never rfl (zeW rfl T.b_range (zaa (zaY zbL rfl T.b_len zcZ (zaa (pv 1) zad)) zad)) (zal (i:=2) zeO.nd rfl (Or.inl rfl)) (zaf (zcb (zgO (zdz (zbe T.goes_on G_goes_on hr rfl (zaa (pv 0) (zaa (pv 1) (zaa (pv 2) zad)))))) (zaf zgA) zaI)))
  (zaf (zcb (PW.pt (zjs (zaA ziE (pv 1) zcN (zas _)) (zgg (zaA ziE (zbv zeZ (pv 1) (zqO znm zag) (fun _ _=>rfl)) (zdB (v:=.str "/") rfl T.g_SEND_KEY ⟨_,rfl⟩) (zas _))))) (zaf zgA) zaI))),?_⟩
 walk_at "rd"
 refine zff (n:=x.length) (fun i σ H2=>∃ v2:Option V,σ=[some (.ref l),some (.str x),v2]/\Same H H2) ⟨none,rfl,Same.refl _⟩ ?_ ?_
 ·rintro i σ H2 hi ⟨v2,rfl,hs⟩
  walk_at "rd"
  refine ⟨l,x,i,rs,by rw [Int.zero_add];rfl,hC.same hs,hx,by omega,fun H3 hs3=>?_⟩
  rw [Lns.zom hok (by omega)]
  refine ⟨_,rfl,?_⟩
  refine iteF ?_
  exact ⟨_,rfl,hs.trans hs3⟩
 ·rintro σ H2 ⟨v2,rfl,hs⟩
  walk_at "rd"
  rcases hend with he | ⟨a0,he⟩
  ·have ex:x="":=Lns.zkx he
   subst ex
   have e1:(!decide (V.str (Str.ofString "")=V.str (Str.ofString "")))=false:=by rw [decide_eq_true rfl];rfl
   rw [e1]
   try refine iteF ?_
   exact q H2 hs
  ·have hne:x ≠ "":=fun e=>by
    rw [e] at he
    have h:=congrArg List.length he
    rw [List.length_append] at h
    have h:0=a0.length+1:=h
    omega
   have e1:(!decide (V.str x=V.str (Str.ofString "")))=true:=by rw [Cs.strV,decide_eq_false hne];rfl
   rw [e1]
   try refine iteT ?_
   have ec:atI x.cps.toList (-1)=some 47:=by
    rw [he]
    exact Lns.znc a0 47
   walk_at "rd"
   refine ⟨_,_,_,rfl,rfl,hxs,ec,?_⟩
   walk_at "rd"
   have e2:(!decide (V.str ({ cps:=#[47] }:Str)=V.str (Str.ofString "/")))=false:=by rw [show (Str.ofString "/")=({ cps:=#[47] }:Str) from rfl,decide_eq_true rfl];rfl
   rw [e2]
   try refine iteF ?_
   exact q H2 hs
def startB (lt:List (List Mc.Mx)):Mc.Ms:=⟨lt,[],[],0,[],[],0,0,0⟩
def zly (a:Ad):Sp:=fun vs H Q _=>∃ (p pc pb dx:Addr) (c:Mc.Cf) (xs bv:List V) (bs:List (Int × Int)) (lt:List (List Mc.Mx)),vs=[.ref p,.ref pc,.str c.keys,.int c.cast,.ref pb]/\H p=some (.ins a.c_Machine dx [])/\H pc=some (.lst xs)/\Paired (Cs.zce H) xs c.rs/\Mc.OkC c/\Lns.zaU c.rs false c.keys.cps.toList=true/\(∀ r ∈ c.rs,0<=r.n/\r.n<=1000)/\H pb=some (.lst bv)/\Paired (Two H) bv bs/\bs.length<=1000/\Told40 c.rs bs (.inr lt) /\
 ∀ A H',MA a c H' p A (startB lt)->Mc.Off p H H'->(∀ b ∈ A.all,H b=none)->Q .non H'
theorem zeX (T:Tx K mg a):FnOk P w K mg base CX0 4 a.f_Machine_init a.d_Machine_init ["self","case","keys","casting","broken"] (zly a):=by
 have G_look_at_keys:=zex (P:=P) (w:=w) (base:=base) T
 have G_channels_of:=zfq (P:=P) (w:=w) (base:=base) T
 refine T.Machine.fn.ok zeL (fun vs H Q E h=>?_) (fun cdv A outer s H vs Q E hr h=>?_)
 ·obtain ⟨p,pc,pb,dx,c,xs,bv,bs,lt,rfl,_⟩:=h
  rfl
 obtain ⟨p,pc,pb,dx,c,xs,bv,bs,lt,rfl,hp,hc,hpd,OC,hok,hrn,hb,hbd,hbl,htd,q⟩:=h
 have hfew:=OC.few
 have I0:IA a H p (List.replicate zcx.length none):=⟨dx,[],hp,FS.nil (by decide)⟩
 refine ⟨_,(zac (zaR (zbe T.look_at_keys G_look_at_keys hr rfl (zaa (pv 1) (zaa (pv 2) zad))))
  (zac (zcl (K:=K) rfl T.Machine.cl T.n_Machine_lying zaQ (pv 0) (zbe T.channels_of G_channels_of hr rfl (zaa (pv 1) (zaa (pv 4) zad))))
  (zac (zcl (K:=K) rfl T.Machine.cl T.n_Machine_case zbr (pv 0) (zbO (zdd K rfl) rfl T.b_list zel (zaa (pv 1) zad)))
  (zac (zcl (K:=K) rfl T.Machine.cl T.n_Machine_played zbF (pv 0) (pv 2))
  (zac (zcl (K:=K) rfl T.Machine.cl T.n_Machine_struck zaB (pv 0) zag)
  (zac (zcl (K:=K) rfl T.Machine.cl T.n_Machine_casting zch (pv 0) (pv 3))
  (zac (zcl (K:=K) rfl T.Machine.cl T.n_Machine_line zaJ (pv 0) (zaD zad))
  (zac (zcl (K:=K) rfl T.Machine.cl T.n_Machine_heated zao (pv 0) (zaD zad))
  (zac (zcl (K:=K) rfl T.Machine.cl T.n_Machine_to_go zaO (pv 0) zag)
  (zac (zcl (K:=K) rfl T.Machine.cl T.n_Machine_hanging zaw (pv 0) (zaD zad))
  (zac (zcl (K:=K) rfl T.Machine.cl T.n_Machine_texts zbQ (pv 0) (zaD zad))
  (zac (zcl (K:=K) rfl T.Machine.cl T.n_Machine_done zca (pv 0) zag)
  (zaf (zcl (K:=K) rfl T.Machine.cl T.n_Machine_waits zbR (pv 0) zag)))))))))))))),?_⟩
 walk_at "rd"
 refine ⟨pc,_,c.rs,rfl,⟨xs,SqL.of hc,hpd⟩,OC.short,hok,OC.ends,fun H1 hs1=>?_⟩
 walk_at "rd"
 refine ⟨pc,pb,xs,bv,c.rs,bs,lt,rfl,hs1 _ _ hc,Cs.zaC hpd hs1,by omega,hrn,hs1 _ _ hb,zdW hbd hs1,hbl,htd,fun D zs H2 hD hs2 hD2 hz hzn=>?_⟩
 obtain ⟨ls,rfl,hls,hnd,hfr⟩:=Mc.zjX hz hzn
 have I2:=I0.same (hs1.trans hs2)
 walk_at "rd"
 refine fun H3 I3 k3=>?_
 have o3:=(Mc.Off.of_same (p:=p) (hs1.trans hs2)).trans (Mc.Off.of_fld k3)
 have hpcp:=Mc.zlV I0 hc
 walk_at "rd"
 refine ⟨pc,xs,rfl,.inl (SqL.of (o3 _ _ hpcp hc)),fun e4 he4=>?_⟩
 have hs4:=zae he4 (.lst xs)
 have h44:upd H3 e4 (.lst xs) e4=some (.lst xs):=upd_same
 have I4:=I3.same hs4
 generalize upd H3 e4 (.lst xs)=H4 at hs4 h44 I4 ⊢
 walk_at "rd"
 refine fun H5 I5 k5=>?_
 have o5:=(Mc.Off.of_same (p:=p) hs4).trans (Mc.Off.of_fld k5)
 walk_at "rd"
 refine fun H6 I6 k6=>?_
 walk_at "rd"
 refine fun H7 I7 k7=>?_
 walk_at "rd"
 refine fun H8 I8 k8=>?_
 have o8:=((Mc.Off.of_fld k6).trans (Mc.Off.of_fld k7)).trans (Mc.Off.of_fld k8)
 walk_at "rd"
 refine fun e9 he9=>?_
 have hs9:=zae he9 (.lst [])
 have h99:upd H8 e9 (.lst []) e9=some (.lst []):=upd_same
 have I9:=I8.same hs9
 generalize upd H8 e9 (.lst [])=H9 at hs9 h99 I9 ⊢
 walk_at "rd"
 refine fun H10 I10 k10=>?_
 have o10:=(Mc.Off.of_same (p:=p) hs9).trans (Mc.Off.of_fld k10)
 walk_at "rd"
 refine fun e11 he11=>?_
 have hs11:=zae he11 (.lst [])
 have h111:upd H10 e11 (.lst []) e11=some (.lst []):=upd_same
 have I11:=I10.same hs11
 generalize upd H10 e11 (.lst [])=H11 at hs11 h111 I11 ⊢
 walk_at "rd"
 refine fun H12 I12 k12=>?_
 walk_at "rd"
 refine fun H13 I13 k13=>?_
 have o13:=((Mc.Off.of_same (p:=p) hs11).trans (Mc.Off.of_fld k12)).trans (Mc.Off.of_fld k13)
 walk_at "rd"
 refine fun e14 he14=>?_
 have hs14:=zae he14 (.lst [])
 have h144:upd H13 e14 (.lst []) e14=some (.lst []):=upd_same
 have I14:=I13.same hs14
 generalize upd H13 e14 (.lst [])=H14 at hs14 h144 I14 ⊢
 walk_at "rd"
 refine fun H15 I15 k15=>?_
 have o15:=(Mc.Off.of_same (p:=p) hs14).trans (Mc.Off.of_fld k15)
 walk_at "rd"
 refine fun e16 he16=>?_
 have hs16:=zae he16 (.lst [])
 have h166:upd H15 e16 (.lst []) e16=some (.lst []):=upd_same
 have I16:=I15.same hs16
 generalize upd H15 e16 (.lst [])=H16 at hs16 h166 I16 ⊢
 walk_at "rd"
 refine fun H17 I17 k17=>?_
 walk_at "rd"
 refine fun H18 I18 k18=>?_
 walk_at "rd"
 refine fun H19 I19 k19=>?_
 have o19:=(((Mc.Off.of_same (p:=p) hs16).trans (Mc.Off.of_fld k17)).trans (Mc.Off.of_fld k18)).trans (Mc.Off.of_fld k19)
 have I19:IA a H19 p (Mc.vals c ⟨D,e4,e9,e11,e14,e16,ls⟩ (startB lt)):=I19
 -- from each list's begin to the end
 have o05:=o3.trans o5
 have o08:=o05.trans o8
 have o010:=o08.trans o10
 have o013:=o010.trans o13
 have o015:=o013.trans o15
 have o019:=o015.trans o19
 have f15:=o19
 have f13:=o15.trans f15
 have f10:=o13.trans f13
 have f8:=o10.trans f10
 have f5:=o8.trans f8
 have f3:=o5.trans f5
 have f2:=(Mc.Off.of_fld k3).trans f3
 have f4:=(Mc.Off.of_fld k5).trans f5
 have f9:=(Mc.Off.of_fld k10).trans f10
 have f11:=((Mc.Off.of_fld k12).trans (Mc.Off.of_fld k13)).trans f13
 have f14:=(Mc.Off.of_fld k15).trans f15
 have f16:=((Mc.Off.of_fld k17).trans (Mc.Off.of_fld k18)).trans (Mc.Off.of_fld k19)
 have hDp:=Mc.zlV I2 hD2
 have hlp:∀ z ∈ ls,z ≠ p:=fun z hz=>Mc.zej (I0.same hs1) (hfr z hz)
 have n4:=Mc.zej I3 he4
 have n9:=Mc.zej I8 he9
 have n11:=Mc.zej I10 he11
 have n14:=Mc.zej I13 he14
 have n16:=Mc.zej I15 he16
 have Lls:Paired (Mc.LnAt H19) ls (startB lt).lanes:=Mc.zby (Mc.Off.keep I2 f2) hlp hls
 have some_ls:∀ z ∈ ls,∃ ws,H2 z=some (.lst ws):=fun z hz=>by
  obtain ⟨i,hi,e⟩:=List.getElem_of_mem hz
  obtain ⟨_,_,ws,hw,_⟩:=Cs.zba hls (List.getElem?_eq_getElem hi)
  rw [e] at hw
  exact ⟨ws,hw⟩
 have dif:∀ {x e:Addr} {Hk:Hp} {ws:List V},Hk x=some (.lst ws)->Hk e=none->x ≠ e:=fun h1 h2 z=>by rw [z,h2] at h1;cases h1
 obtain ⟨hn1,hn2⟩:=List.nodup_cons.mp hnd
 have g3:=Mc.Off.of_fld k3
 have g8:=(g3.trans o5).trans o8
 have g10:=g8.trans o10
 have g13:=g10.trans o13
 have g15:=g13.trans o15
 have lsn:∀ {e:Addr} {Hk:Hp},Mc.Off p H2 Hk->Hk e=none->e ∉ ls:=fun o h hz=>by
  obtain ⟨ws,hw⟩:=some_ls _ hz
  rw [o _ _ (hlp _ hz) hw] at h
  cases h
 refine q ⟨D,e4,e9,e11,e14,e16,ls⟩ H19 ⟨I19,?_,⟨⟨xs,f4 _ _ n4 h44,?_⟩,f2 _ _ hDp hD2,Lls,⟨[],f9 _ _ n9 h99,.nil⟩,⟨[],f11 _ _ n11 h111,.nil⟩,⟨[],f14 _ _ n14 h144,.nil⟩,f16 _ _ n16 h166⟩⟩ o019 ?_
 ·unfold Mc.Adr.all
  simp only [List.nodup_cons,List.mem_cons,not_or]
  exact ⟨⟨dif (g3 _ _ hDp hD2) he4,dif (g8 _ _ hDp hD2) he9,dif (g10 _ _ hDp hD2) he11,dif (g13 _ _ hDp hD2) he14,dif (g15 _ _ hDp hD2) he16,hn1⟩,
   ⟨dif (((Mc.Off.of_fld k5).trans o8) _ _ n4 h44) he9,dif ((((Mc.Off.of_fld k5).trans o8).trans o10) _ _ n4 h44) he11,dif (((((Mc.Off.of_fld k5).trans o8).trans o10).trans o13) _ _ n4 h44) he14,dif ((((((Mc.Off.of_fld k5).trans o8).trans o10).trans o13).trans o15) _ _ n4 h44) he16,lsn g3 he4⟩,
   ⟨dif ((Mc.Off.of_fld k10) _ _ n9 h99) he11,dif (((Mc.Off.of_fld k10).trans o13) _ _ n9 h99) he14,dif ((((Mc.Off.of_fld k10).trans o13).trans o15) _ _ n9 h99) he16,lsn g8 he9⟩,
   ⟨dif (((Mc.Off.of_fld k12).trans (Mc.Off.of_fld k13)) _ _ n11 h111) he14,dif ((((Mc.Off.of_fld k12).trans (Mc.Off.of_fld k13)).trans o15) _ _ n11 h111) he16,lsn g10 he11⟩,
   ⟨dif ((Mc.Off.of_fld k15) _ _ n14 h144) he16,lsn g13 he14⟩,lsn g15 he16,hn2⟩
 ·exact Mc.zbM (Mc.Off.keep I0 o019) hpd
 ·unfold Mc.Adr.all
  intro b hb
  simp only [List.mem_cons] at hb
  rcases hb with rfl | rfl | rfl | rfl | rfl | rfl | hb
  ·exact hs1.free hD
  ·exact o3.free I3 he4
  ·exact o08.free I8 he9
  ·exact o010.free I10 he11
  ·exact o013.free I13 he14
  ·exact o015.free I15 he16
  ·exact hs1.free (hfr b hb)
theorem zmC:∀ t l:Fin 128,Mt.has (t.val:Int) (l.val:Int)=true->Mt.has (t.val:Int) ((t.val:Int) - (l.val:Int))=true:=by decide +kernel
theorem zlq {t l:Int} (ht:0<=t/\t < 128) (hl:0<=l/\l < 128) (h:Mt.has t l=true):Mt.has t (t - l)=true:=by
 obtain ⟨j,rfl⟩:=Int.eq_ofNat_of_zero_le ht.1
 obtain ⟨k,rfl⟩:=Int.eq_ofNat_of_zero_le hl.1
 exact zmC ⟨j,by omega⟩ ⟨k,by omega⟩ h
theorem zmg {rs:List Cs.Row} {ah:List Int} {ch te:Int} (h:zat rs ah ch te=true):∃ (k:Nat) (r:Cs.Row),ch=(k:Int)/\rs[k]?=some r/\Builtin.bitAnd r.t te=te:=by
 unfold zat at h
 split at h
 ·rename_i hb
  obtain ⟨k,rfl⟩:=Int.eq_ofNat_of_zero_le hb.1
  rw [Int.toNat_natCast] at h
  split at h
  ·rename_i r hr
   simp only [Bool.and_eq_true,decide_eq_true_eq] at h
   exact ⟨k,r,rfl,hr,h.2⟩
  ·cases h
 ·cases h
/-- lanes of a case some of whose matrices are broken -/
structure LOk (rs:List Cs.Row) (ls:List (List Mc.Mx)):Prop where
 ln:ls.length=rs.length
 one:∀ (j:Nat) m r,ls[j]?=some m->rs[j]?=some r->m.length=r.n.toNat/\∀ x ∈ m,x.1=r.s/\0<=x.2/\x.2 < 128/\Mt.has r.t x.2=true
theorem LOk.zero {rs:List Cs.Row} (R:Mc.Rows rs):LOk rs (zaZ rs):=by
 refine ⟨List.length_map _,fun j m r hm hr=>?_⟩
 unfold zaZ at hm
 rw [List.getElem?_map,hr] at hm
 have hm:List.replicate r.n.toNat (r.s,r.t)=m:=Option.some.inj hm
 rw [<- hm]
 refine ⟨List.length_replicate,fun x hx=>?_⟩
 rw [List.eq_of_mem_replicate hx]
 obtain ⟨h1,h2⟩:=R.th r (List.mem_of_getElem? hr)
 exact ⟨rfl,h1,h2,Mt.zgh _⟩
theorem LOk.step {rs:List Cs.Row} (R:Mc.Rows rs) {ls:List (List Mc.Mx)} (h:LOk rs ls) {ah:List Int} {b:Int × Int} (hb:1<=b.2/\b.2 < 128) (hc:zat rs ah b.1 b.2=true):LOk rs (setLane rs ls ah b):=by
 obtain ⟨k,r,hk,hr,ha⟩:=zmg hc
 have hkl:k < ls.length:=by rw [h.ln];exact (List.getElem?_eq_some_iff.mp hr).1
 have hm:ls[k]?=some ls[k]:=List.getElem?_eq_getElem hkl
 have ht:=R.th r (List.mem_of_getElem? hr)
 have hh:Mt.has r.t b.2=true:=by rw [<- Mt.zlw ht.1 (by omega) hb.2];exact decide_eq_true ha
 have hle:=Mt.zta ht ⟨by omega,hb.2⟩ hh
 have hs:=zlq ht ⟨by omega,hb.2⟩ hh
 have e:setLane rs ls ah b=ls.set k (ls[k].set (ah.count b.1) (r.s,r.t - b.2)):=by
  unfold setLane
  rw [hk,Int.toNat_natCast,hr,hm]
 rw [e]
 refine ⟨by rw [List.length_set];exact h.ln,fun j m r' hm' hr'=>?_⟩
 rw [List.getElem?_set] at hm'
 split at hm'
 ·rename_i ej
  subst ej
  rw [hr] at hr'
  cases hr'
  have hm':=Option.some.inj hm'
  obtain ⟨g1,g2⟩:=h.one k _ r hm hr
  rw [<- hm']
  refine ⟨by rw [List.length_set];exact g1,fun x hx=>?_⟩
  rcases List.mem_or_eq_of_mem_set hx with hx | hx
  ·exact g2 x hx
  ·rw [hx]
   exact ⟨rfl,by show 0<=r.t - b.2;omega,by show r.t - b.2 < 128;omega,hs⟩
 ·exact h.one j m r' hm' hr'
theorem zky {rs:List Cs.Row} (R:Mc.Rows rs) {bs:List (Int × Int)} (hb:∀ b ∈ bs,1<=b.2/\b.2 < 128):∀ (k:Nat) (ls:List (List Mc.Mx)) (ah:List Int),after rs bs k=some (ls,ah)->LOk rs ls:=by
 intro k
 induction k with
 | zero =>
   intro ls ah h
   rw [zcw] at h
   cases h
   exact LOk.zero R
 | succ k ih =>
   intro ls ah h
   cases hk:bs[k]? with
   | none =>
     have hl:bs.length<=k:=List.getElem?_eq_none_iff.mp hk
     have e:after rs bs (k+1)=after rs bs k:=by
      unfold after
      rw [List.take_of_length_le (by omega),List.take_of_length_le hl]
     rw [e] at h
     exact ih ls ah h
   | some b =>
     rw [zdi hk] at h
     unfold zlD at h
     cases ha:after rs bs k with
     | none=>rw [ha] at h;cases h
     | some s =>
       rw [ha] at h
       have h:(if zat rs s.2 b.1 b.2=true then some (setLane rs s.1 s.2 b,s.2++[b.1]) else none)=some (ls,ah):=h
       by_cases hc:zat rs s.2 b.1 b.2=true
       ·rw [if_pos hc] at h
        cases h
        exact LOk.step R (ih s.1 s.2 ha) (hb b (List.mem_of_getElem? hk)) hc
       ·rw [if_neg hc] at h
        cases h
theorem LOk.ok {rs:List Cs.Row} (R:Mc.Rows rs) {lt:List (List Mc.Mx)} (h:LOk rs lt) {c:Mc.Cf} (hc:c.rs=rs) (O:Mc.OkC c):Mc.Ok c (startB lt):=by
 have hf:=R.few
 refine ⟨O,?_,fun l hl x hx=>?_,(fun x hx=>nomatch hx),(fun x hx=>nomatch hx),(fun x hx=>nomatch hx),Nat.zero_le _,fun _=>rfl,?_,Nat.le_refl _,(fun x hx=>nomatch hx),fun z=>absurd rfl z⟩
 ·show lt.length=c.rs.length
  rw [h.ln,hc]
 ·obtain ⟨j,hj,e⟩:=List.getElem_of_mem hl
  have hj:j < lt.length:=hj
  have hr:rs[j]?=some (rs[j]'(by rw [<- h.ln];exact hj)):=List.getElem?_eq_getElem _
  have hmem:=List.mem_of_getElem? hr
  obtain ⟨g1,g2⟩:=h.one j l _ (by rw [List.getElem?_eq_getElem hj];exact congrArg some e) hr
  obtain ⟨x1,x2,x3,x4⟩:=g2 x hx
  obtain ⟨o1,o2,_,_,_⟩:=R.okM hc hmem
  refine ⟨by rw [x1];exact o1,by rw [x1];exact o2,x2,x3,?_⟩
  obtain ⟨i,hi,hij⟩:=Mt.zjE (cs:=c.rs.map fun r=>r.t) (t:=x.2) (i:=j) (c:=(rs[j]'(by rw [<- h.ln];exact hj)).t) (by rw [hc,List.getElem?_map,hr];rfl) x4
  exact ⟨i,hi,by rw [hc,<- h.ln];omega⟩
 ·have hs:(lt.map List.length).sum<=lt.length * 40:=Lns.ziL List.length 40 lt fun l hl=>by
   obtain ⟨j,hj,e⟩:=List.getElem_of_mem hl
   have hr:rs[j]?=some (rs[j]'(by rw [<- h.ln];exact hj)):=List.getElem?_eq_getElem _
   obtain ⟨g1,_⟩:=h.one j l _ (by rw [List.getElem?_eq_getElem hj];exact congrArg some e) hr
   have:=R.mn _ (List.mem_of_getElem? hr)
   omega
  have hl:=h.ln
  show (lt.map List.length).sum+0+0+0<=2000+0
  omega
theorem zjA {rs:List Cs.Row} {bs:List (Int × Int)} {b:Int × Int} {ls:List (List Mc.Mx)} {ah:List Int} (h:after rs bs bs.length=some (ls,ah)) (hc:zat rs ah b.1 b.2=true):after rs (bs++[b]) (bs++[b]).length=some (setLane rs ls ah b,ah++[b.1]):=by
 have e:after rs (bs++[b]) (bs++[b]).length=zlD rs (after rs bs bs.length) b:=by
  unfold after
  rw [List.take_length,List.take_length,List.foldl_append]
  rfl
 rw [e,h]
 show (if zat rs ah b.1 b.2=true then some (setLane rs ls ah b,ah++[b.1]) else none)=_
 rw [if_pos hc]
theorem zmO:∀ t w:Fin 128,Builtin.bitAnd (t.val:Int) (Builtin.bitAnd (t.val:Int) (w.val:Int))=Builtin.bitAnd (t.val:Int) (w.val:Int)/\0<=Builtin.bitAnd (t.val:Int) (w.val:Int)/\Builtin.bitAnd (t.val:Int) (w.val:Int) < 128:=by decide +kernel
theorem zoe {t w:Int} (ht:0<=t/\t < 128) (hw:0<=w/\w < 128):Builtin.bitAnd t (Builtin.bitAnd t w)=Builtin.bitAnd t w/\0<=Builtin.bitAnd t w/\Builtin.bitAnd t w < 128:=by
 obtain ⟨j,rfl⟩:=Int.eq_ofNat_of_zero_le ht.1
 obtain ⟨k,rfl⟩:=Int.eq_ofNat_of_zero_le hw.1
 exact zmO ⟨j,by omega⟩ ⟨k,by omega⟩
theorem zrx {rs:List Cs.Row} {ah:List Int} {k:Nat} {r:Cs.Row} {te:Int} (hr:rs[k]?=some r) (hn:(ah.count (k:Int):Int) < r.n) (h1:1<=te) (ha:Builtin.bitAnd r.t te=te):zat rs ah (k:Int) te=true:=by
 have hk:=(List.getElem?_eq_some_iff.mp hr).1
 unfold zat
 rw [if_pos ⟨by omega,by omega⟩,Int.toNat_natCast,hr]
 show (decide _ && decide _ && decide _)=true
 rw [decide_eq_true hn,decide_eq_true h1,decide_eq_true ha]
 rfl
theorem zlQ {rs:List Cs.Row} {r:Cs.Row} (h:r ∈ rs):(Cs.place rs r.s).isSome=true:=by
 unfold Cs.place
 rw [List.findIdx?_isSome,List.any_eq_true]
 exact ⟨r,h,decide_eq_true rfl⟩
theorem zfW {no p:Addr} {H:Hp} {o:HO}:∀ {xs:List V} {ls:List (List Str)},Paired (Lns.zdJ no H) xs ls->V.ref p ∉ xs->Paired (Lns.zdJ no (upd H p o)) xs ls
 | _,_,.nil,_=>.nil
 | _,_,.cons ⟨q,e,n,z⟩ t,hn=>by
   subst e
   exact .cons ⟨q,rfl,n,by rw [zai (fun e=>hn (by rw [e];exact List.mem_cons_self))];exact z⟩ (zfW t fun h=>hn (List.mem_cons_of_mem _ h))
def zgL (K:PySem.W.Frag):Sp:=fun vs H Q _=>∃ (l pc:Addr) (ns:List Int) (xs:List V) (rs:List Cs.Row),vs=[.ref l,.ref pc]/\SqL K H l (ns.map V.int)/\ns.length<=63/\H pc=some (.lst xs)/\Paired (Cs.zce H) xs rs/\rs ≠ []/\rs.length<=30/\(∀ r ∈ rs,∃ c ∈ Cs.signs,r.s=sg c) /\
 ∀ (r:Addr) (zs:List V) (ls:List (List Str)) H',H r=none->Same H H'->H' r=some (.lst zs)->Paired (Lns.zdJ r H') zs ls->Mc.Lines rs ls->Q (.ref r) H'
theorem zgN (T:Tx K mg a):FnOk P w K mg base CX0 2 a.f_law_lines a.d_law_lines ["_law_cells","_law_case_here"] (zgL K):=by
 have G_law_mixed:=zcX (P:=P) (w:=w) (base:=base) T
 refine T.law_lines.fn.ok zgS (fun vs H Q E h=>?_) (fun cdv A outer s H vs Q E hr h=>?_)
 ·obtain ⟨l,pc,ns,xs,rs,rfl,_⟩:=h
  rfl
 obtain ⟨l,pc,ns,xs,rs,rfl,hS,hnl,hc,hpd,hne,hrl,hsg,q⟩:=h
 have hxl:=Cs.zbH hpd
 have hpos:0 < rs.length:=List.length_pos_iff.mpr hne
 refine ⟨_,(zac (zay (i:=2) zgS.nd rfl (Or.inl rfl) (zaD (zaa (zaD zad) zad)))
  (zac (zcO PassesOwn.never rfl (zcE K rfl rfl T.b_enumerate (zaa (pv 0) zad)) (zbB K rfl (n:=2) rfl (zam (zal (i:=3) zgS.nd rfl (Or.inl rfl)) (zam (zal (i:=4) zgS.nd rfl (Or.inl rfl)) zbz))) (zac (zay (i:=5) zgS.nd rfl (Or.inl rfl) (zbe T.law_mixed G_law_mixed hr rfl (zaa (pv 4) (zaa (pv 3) zad))))
  (zac (zay (i:=6) zgS.nd rfl (Or.inl rfl) zcN)
  (zac (zcO PassesOwn.never rfl (zeW rfl T.b_range (zaa (zap zaP zag (zap zbA (pv 5) zag)) zad)) (zal (i:=7) zgS.nd rfl (Or.inl rfl)) (zac (zay (i:=5) zgS.nd rfl (Or.inl rfl) (zap zbA (zap zeU (zap zaP (zap zaP (pv 5) (pv 7)) zag) zag) zag))
  (zaf (zay (i:=6) zgS.nd rfl (Or.inl rfl) (zap zfO (pv 6) (zbv (zdG K rfl) (zbv (zaM K rfl) (pv 1) (zap zbA (zap zcm (pv 5) zag) (zaY (zdj K rfl) rfl T.b_len zcZ (zaa (pv 1) zad))) (fun _ _=>rfl)) zag (fun _ _=>rfl)))))))
  (zac (zaR (zbD K rfl PySem.F.plainAttrs_list PySem.F.slot_list_append PySem.F.type_list_append zbf (zbv (zaM K rfl) (pv 2) (zqO znm zag) (fun _ _=>rfl)) (zaa (pv 6) zad)))
  (zaf (zcb (zaA zgw (zap zbA (pv 5) zag) zag (zas _)) (zaf (zaR (zbD K rfl PySem.F.plainAttrs_list PySem.F.slot_list_append PySem.F.type_list_append zbf (pv 2) (zaa (zaD zad) zad)))) zaI)))))))
  (zaf (zav (zbW rfl (zbi K rfl (pv 2)) (BlkOk.of (N':=["_law_cells","_law_case_here","_law_lines_here","_law_k","_law_cell","_law_number","_law_word","_law_j","_law_line"]) (ms:=[]) (k:=1) (by rfl)) (fun _ _ _ _ _=>(zal (i:=8) (show List.Nodup (["_law_cells","_law_case_here","_law_lines_here","_law_k","_law_cell","_law_number","_law_word","_law_j","_law_line"]:List Str) from by decide +kernel) rfl (Or.inl rfl))) (fun _ _ _ _ _=>(zhL (zaA (kneD K rfl hr.units) (pv 8) (zaD zad) (zas _)))) (fun _ _ _ _ _=>(pv 8))))))),?_⟩
 walk_at "rd"
 refine fun p0 hp0=>?_
 have hs1:=zae hp0 (.lst [])
 have h1p:upd H p0 (.lst []) p0=some (.lst (([]:List Str).map V.str)):=upd_same
 generalize upd H p0 (.lst [])=H1 at hs1 h1p ⊢
 walk_at "rd"
 refine fun LR hLR=>?_
 have hs2:=zcf (o:=.lst [.ref p0]) hs1 hLR
 have hs12:=zae hLR (.lst [.ref p0])
 have h2L:upd H1 LR (.lst [.ref p0]) LR=some (.lst ([]++[.ref p0])):=upd_same
 generalize upd H1 LR (.lst [.ref p0])=H2 at hs2 hs12 h2L ⊢
 have hpL:p0 ≠ LR:=fun e=>by rw [<- e,h1p] at hLR;cases hLR
 have hLR0:=hs1.free hLR
 refine ⟨_,rfl,?_⟩
 refine ⟨l,rfl,⟨_,hs2.seq hS⟩,?_⟩
 refine zcH (a:=l) (xs:=ns.map V.int) (fun i σ H3=>∃ (ini:List V) (p:Addr) (ls:List (List Str)) (last:List Str) (v3 v4 v5 v6 v7:Option V),σ=[some (.ref l),some (.ref pc),some (.ref LR),v3,v4,v5,v6,v7]/\Same H H3/\H3 LR=some (.lst (ini++[.ref p]))/\Paired (Lns.zdJ LR H3) ini ls/\V.ref p ∉ ini/\p ≠ LR/\H p=none/\H3 p=some (.lst (last.map V.str)) /\
  ls.length<=i/\last.length<=i/\(∀ l ∈ ls,l ≠ []/\l.length<=63/\∀ x ∈ l,Mc.Wd rs 5 x)/\∀ x ∈ last,Mc.Wd rs 5 x)
  ⟨[],p0,[],[],none,none,none,none,none,rfl,hs2,h2L,.nil,(fun z=>nomatch z),hpL,hp0,hs12 _ _ h1p,Nat.le_refl _,Nat.le_refl _,(fun l hl=>nomatch hl),(fun l hl=>nomatch hl)⟩ (by rintro i σ H3 _ ⟨_,_,_,_,_,_,_,_,_,_,hs,_⟩;exact hs.seq hS) ?_ ?_
 ·rintro i y tp σ H3 hy ⟨ini,p,ls,last,v3,v4,v5,v6,v7,rfl,hs3,hL3,hp3,hpi,hpL,hp0,hpp,hll,hla,hlo,hlw⟩ htp0
  obtain ⟨c,rfl,hci⟩:=zcI hy
  have hil:i < ns.length:=(List.getElem?_eq_some_iff.mp hci).1
  have hs34:=zae htp0 (.tup [.int i,.int c])
  have hs4:=zcf (o:=.tup [.int i,.int c]) hs3 htp0
  have h4t:upd H3 tp (.tup [.int i,.int c]) tp=some (.tup [.int i,.int c]):=upd_same
  generalize upd H3 tp (.tup [.int i,.int c])=H4 at hs34 hs4 h4t ⊢
  have hL4:=hs34 _ _ hL3
  have hpp4:=hs34 _ _ hpp
  have hp4:=Lns.zeo hp3 hs34
  walk_at "rd"
  walk_at "tg"
  walk_at "tg"
  walk_at "rd"
  refine ⟨_,_,rfl,by omega,by omega,fun f hf0 hf1=>?_⟩
  have hf5:=Int.emod_nonneg f (show (5:Int) ≠ 0 by decide)
  have hf6:=Int.emod_lt_of_pos f (show (0:Int) < 5 by decide)
  walk_at "rd"
  refine zff (n:=(1+f % 5).toNat) (fun j σ H5=>∃ (x:Str) (nn:Int) (v7:Option V),σ=[some (.ref l),some (.ref pc),some (.ref LR),some (.int i),some (.int c),some (.int nn),some (.str x),v7]/\H5=H4/\0<=nn/\nn < 2147483647/\x.length=j/\∀ c ∈ x.cps.toList,c ∈ Cs.signs/\(Cs.place rs (sg c)).isSome=true)
   ⟨"",f,v7,rfl,rfl,hf0,hf1,by decide,fun c h=>by rw [show (Str.ofString "").cps.toList=[] by decide] at h;cases h⟩ ?_ ?_
  ·rintro j σ H5 hj ⟨x,nn,v7,rfl,rfl,hn0,hn1,hxlen,hxp⟩
   rw [Int.zero_add]
   have hb0:=Int.emod_nonneg ((nn+(j:Int)+1) * 69621) (show (2147483647:Int) ≠ 0 by decide)
   have hb1:=Int.emod_lt_of_pos ((nn+(j:Int)+1) * 69621) (show (0:Int) < 2147483647 by decide)
   have hj5:(j:Int)<=5:=by omega
   have hc4:=hs4 _ _ hc
   have hat:∀ g:Int,0<=g->g < 2147483647->∃ (k:Nat) (t:Addr) (c:Nat),g / 7 % (xs.length:Int)=(k:Int)/\atI xs (k:Int)=some (.ref t)/\c ∈ Cs.signs/\(Cs.place rs (sg c)).isSome=true/\∃ r:Cs.Row,r.s=sg c/\H5 t=some (.tup (Cs.rowV r)):=fun g hg0 hg1=>by
    have hy0:=Int.emod_nonneg (g / 7) (show (xs.length:Int) ≠ 0 by omega)
    have hy1:=Int.emod_lt_of_pos (g / 7) (show (0:Int) < xs.length by omega)
    obtain ⟨k,hk⟩:=Int.eq_ofNat_of_zero_le hy0
    have hkl:k < xs.length:=by omega
    obtain ⟨r,hri,t,et,ht⟩:=Cs.zba hpd (List.getElem?_eq_getElem hkl)
    have hrm:=List.mem_of_getElem? hri
    obtain ⟨c,hcs,ec⟩:=hsg r hrm
    exact ⟨k,t,c,hk,by rw [<- et];exact zbw (List.getElem?_eq_getElem hkl),hcs,by rw [<- ec];exact zlQ hrm,r,ec,hs4 _ _ ht⟩
   obtain ⟨k,t,d,hk,hatk,hds,hdp,r,er,ht⟩:=hat _ hb0 hb1
   walk_at "rd"
   refine ⟨pc,_,rfl,.inl (SqL.of hc4),?_⟩
   refine ⟨_,_,rfl,rfl,(by show (0:Int) < _;omega),?_⟩
   dsimp only
   rw [hk]
   refine ⟨pc,_,_,_,rfl,rfl,SqL.of hc4,hatk,?_⟩
   refine ⟨t,_,_,_,rfl,rfl,SqT.of ht,rfl,?_⟩
   refine ⟨_,_,rfl,rfl,zbK (by rw [er];show x.length+1<=_;omega),?_⟩
   refine ⟨x++r.s,_,_,rfl,rfl,hb0,hb1,?_,fun z hz=>?_⟩
   ·rw [Str.length_append,er,hxlen]
    rfl
   ·rw [er,Str.cps_append,Array.toList_append] at hz
    rcases List.mem_append.mp hz with h | h
    ·exact hxp z h
    ·have:z=d:=by simpa [sg] using h
     rw [this]
     exact ⟨hds,hdp⟩
  ·rintro σ H5 ⟨x,nn,v7,rfl,rfl,hn0,hn1,hxlen,hxp⟩
   have hw:Mc.Wd rs 5 x:=⟨by omega,by omega,hxp⟩
   have hinl:=Lns.zdQ hp4
   walk_at "rd"
   refine ⟨LR,_,-1,_,rfl,rfl,SqL.of hL4,Lns.znc ini _,?_⟩
   refine ⟨.inl ⟨rfl,_,SqL.of hpp4⟩,?_⟩
   walk_at "rd"
   refine ⟨p,_,_,rfl,rfl,hpp4,zco (by rw [List.length_map];omega),?_⟩
   have hs6:=zax (o:=.lst (last.map V.str++[V.str x])) hs4 hp0
   have hL6:upd H5 p (.lst (last.map V.str++[V.str x])) LR=some (.lst (ini++[.ref p])):=by rw [zai hpL.symm];exact hL4
   have h6p:upd H5 p (.lst (last.map V.str++[V.str x])) p=some (.lst ((last++[x]).map V.str)):=by rw [upd_same,List.map_append];rfl
   have hp6:=zfW (o:=.lst (last.map V.str++[V.str x])) hp4 hpi
   generalize upd H5 p (.lst (last.map V.str++[V.str x]))=H6 at hs6 hL6 h6p hp6 ⊢
   have hlw':∀ y ∈ last++[x],Mc.Wd rs 5 y:=fun y hy=>by
    rcases List.mem_append.mp hy with hy | hy
    ·exact hlw y hy
    ·rw [List.mem_singleton.mp hy]
     exact hw
   have hla':(last++[x]).length<=i+1:=by rw [List.length_append];show _+1<=_;omega
   walk_at "rd"
   refine ite2 (fun _=>?_) (fun _=>?_)
   ·walk_at "rd"
    refine ⟨.inl ⟨rfl,_,SqL.of hL6⟩,?_⟩
    walk_at "rd"
    refine fun e he=>?_
    have hs7:=zae he (.lst [])
    have h7e:upd H6 e (.lst []) e=some (.lst (([]:List Str).map V.str)):=upd_same
    generalize upd H6 e (.lst [])=H7 at hs7 h7e ⊢
    have hL7:=hs7 _ _ hL6
    have heL:e ≠ LR:=fun z=>by rw [z,hL6] at he;cases he
    refine ⟨LR,_,_,rfl,rfl,hL7,zco (by rw [List.length_append];show _+1<=_;omega),?_⟩
    have hp7:=Lns.zeo hp6 hs7
    refine ⟨ini++[.ref p],e,ls++[last++[x]],[],_,_,_,_,_,rfl,zax (hs6.trans hs7) hLR0,upd_same,?_,?_,heL,hs6.free he,by rw [zai heL];exact h7e,by rw [List.length_append];show _+1<=_;omega,Nat.zero_le _,?_,fun y hy=>nomatch hy⟩
    ·exact Paired.snoc (Lns.zhq hp7) ⟨p,rfl,hpL,by rw [zai hpL];exact hs7 _ _ h6p⟩
    ·intro z
     rcases List.mem_append.mp z with z | z
     ·obtain ⟨k,hk,ek⟩:=List.getElem_of_mem z
      obtain ⟨_,_,q1,eq1,_,hq1⟩:=Cs.zba hp6 (List.getElem?_eq_getElem hk)
      rw [ek] at eq1
      cases eq1
      rw [he] at hq1
      cases hq1
     ·cases List.mem_singleton.mp z
      rw [he] at h6p
      cases h6p
    ·intro l hl
     rcases List.mem_append.mp hl with hl | hl
     ·exact hlo l hl
     ·rw [List.mem_singleton.mp hl]
      exact ⟨by simp,by omega,hlw'⟩
   ·exact ⟨ini,p,ls,last++[x],_,_,_,_,_,rfl,hs6,hL6,hp6,hpi,hpL,hp0,h6p,by omega,hla',hlo,hlw'⟩
 ·rintro σ H3 ⟨ini,p,ls,last,v3,v4,v5,v6,v7,rfl,hs3,hL3,hp3,hpi,hpL,hp0,hpp,hll,hla,hlo,hlw⟩
  rw [List.length_map] at hll hla
  have hall:Paired (Lns.zdJ LR H3) (ini++[.ref p]) (ls++[last]):=Paired.snoc hp3 ⟨p,rfl,hpL,hpp⟩
  have hal:(ini++[V.ref p]).length=(ls++[last]).length:=Lns.zdQ hall
  have halw:∀ l ∈ ls++[last],l.length<=63/\∀ x ∈ l,Mc.Wd rs 5 x:=fun l hl=>by
   rcases List.mem_append.mp hl with hl | hl
   ·exact (hlo l hl).2
   ·rw [List.mem_singleton.mp hl]
    exact ⟨by omega,hlw⟩
  have hfl:(ls++[last]).length<=64:=by rw [List.length_append];show _+1<=_;omega
  generalize ini++[V.ref p]=zs at hL3 hall hal
  generalize ls++[last]=ms at hall hal halw hfl
  walk_at "rd"
  refine ⟨⟨_,SqL.of hL3⟩,fun D hD=>?_⟩
  refine zbh (a:=LR) (xs:=zs) (fun i ys σ H4=>∃ (w8:Option V),σ=[some (.ref l),some (.ref pc),some (.ref LR),v3,v4,v5,v6,v7,w8]/\Same H3 H4/\H4 D=some (.lst ys)/\Paired (Lns.zdJ D H4) ys ((ms.take i).filter fun l=>!l.isEmpty))
   ?_ ?_ ?_ ?_
  ·exact ⟨none,rfl,zae hD _,upd_same,.nil⟩
  ·rintro i ys σ H4 hi ⟨_,_,hs,_⟩
   exact hs.seq (SqL.of hL3)
  ·rintro i y ys σ H4 hy hil ⟨w8,rfl,hs4,hh4,hy4⟩
   obtain ⟨l1,hl1,q1,rfl,_,hq1⟩:=Cs.zba hall hy
   have hq4:=hs4 _ _ hq1
   have hqD:q1 ≠ D:=zar hq1 hD
   have hyl:=Lns.zdQ hy4
   have hfl2:=List.length_filter_le (fun l:List Str=>!l.isEmpty) (ms.take i)
   rw [List.length_take] at hfl2
   have hlay:∀ x ∈ l1,PyData.canLay0 (.str x)=true:=fun x hx=>((halw l1 (List.mem_of_getElem? hl1)).2 x hx).lay
   walk_at "rd"
   refine fun e he=>?_
   have hs5:=zae he (.lst [])
   have hes:upd H4 e (.lst []) e=some (.lst []):=upd_same
   generalize upd H4 e (.lst [])=H5 at hs5 hes ⊢
   have hh5:=hs5 _ _ hh4
   have hy5:=Lns.zeo hy4 hs5
   refine ⟨_,_,.lst (SqL.of (hs5 _ _ hq4)) (Ln.zek hlay),Mc.zcn hes,Mc.zcp _,?_⟩
   refine ⟨_,rfl,?_⟩
   have ee:(if true=true then !PyData.eqv (.list (l1.map PyData.str)) (.list []) else PyData.eqv (.list (l1.map PyData.str)) (.list []))=!l1.isEmpty:=by
    rw [if_pos rfl,Mc.zbS PyData.str l1]
   rw [ee]
   have etk:((ms.take (i+1)).filter fun l=>!l.isEmpty)=((ms.take i).filter fun l=>!l.isEmpty)++(if (!l1.isEmpty)=true then [l1] else []):=by
    rw [List.take_add_one,hl1,List.filter_append]
    congr 1
    cases l1 <;> rfl
   cases hb:(!l1.isEmpty) with
   | false =>
     rw [hb,if_neg (by decide),List.append_nil] at etk
     refine iteF ?_
     exact zop hil ⟨_,rfl,hs4.trans hs5,hh5,by rw [etk];exact hy5⟩
   | true =>
     rw [hb,if_pos rfl] at etk
     refine iteT ?_
     walk_at "rd"
     refine zfn hil hh5 (by omega) ⟨_,rfl,zax (hs4.trans hs5) hD,upd_same,?_⟩
     rw [etk]
     exact Paired.snoc (Lns.zhq hy5) ⟨q1,rfl,hqD,by rw [zai hqD];exact hs5 _ _ hq4⟩
  ·rintro ys σ H4 ⟨w8,rfl,hs4,hh4,hy4⟩
   rw [hal,List.take_of_length_le (Nat.le_refl _)] at hy4
   refine q D ys _ H4 (hs3.free hD) (hs3.trans hs4) hh4 hy4 ⟨?_,fun l hl=>?_⟩
   ·exact Nat.le_trans (List.length_filter_le _ _) hfl
   ·obtain ⟨h1,h2⟩:=List.mem_filter.mp hl
    exact ⟨fun z=>(by rw [z] at h2;exact absurd h2 (by decide)),halw l h1⟩
def zis (K:PySem.W.Frag):Sp:=fun vs H Q _=>∃ (p no:Addr) (xs:List V) (ls:List (List Str)),vs=[.ref p]/\SqL K H p xs/\Paired (Lns.zdJ no H) xs ls/\Lns.Fit ls/\∀ H',Same H H'->Q (.str (Lns.keyT ls)) H'
theorem ziG (T:Tx K mg a):FnOk P w K mg base CX0 1 a.f_law_keys a.d_law_keys ["_law_lines_here"] (zis K):=by
 refine T.law_keys.fn.ok zhM (fun vs H Q E h=>?_) (fun cdv A outer s H vs Q E hr h=>?_)
 ·obtain ⟨p,no,xs,ls,rfl,_⟩:=h
  rfl
 obtain ⟨p,no,xs,ls,rfl,hS,hp,hf,q⟩:=h
 have hxl:=Lns.zdQ hp
 have hf1:=hf.1
 refine ⟨_,(zaf (zav (zbD K rfl PySem.F.plainAttrs_str PySem.F.slot_str_join PySem.F.type_str_join (zeF K rfl) zcN (zaa (zbW rfl (zbi K rfl (pv 0)) (BlkOk.of (N':=["_law_lines_here","_law_line"]) (ms:=[]) (k:=1) (by rfl)) (fun _ _ _ _ _=>(zal (i:=1) (show List.Nodup (["_law_lines_here","_law_line"]:List Str) from by decide +kernel) rfl (Or.inl rfl))) (fun _ _ _ _ _=>zdE) (fun _ _ _ _ _=>(zap zfO (zbD K rfl PySem.F.plainAttrs_str PySem.F.slot_str_join PySem.F.type_str_join (zeF K rfl) zcN (zaa (pv 1) zad)) zcN))) zad)))),?_⟩
 walk_at "rd"
 intro D hD
 refine zbh (a:=p) (xs:=xs) (fun i ys σ H2=>∃ (v2:Option V),ys=((ls.take i).map fun l=>Lns.zbx l++"/").map V.str/\σ=[some (.ref p),v2]/\Same H H2/\H2 D=some (.lst ys))
  ?_ ?_ ?_ ?_
 ·exact ⟨none,rfl,rfl,zae hD _,upd_same⟩
 ·rintro i ys σ H2 hi ⟨v2,_,_,hs,_⟩
  exact hs.seq hS
 ·rintro i x ys σ H2 hx hil ⟨v2,rfl,rfl,hs,hh⟩
  obtain ⟨l,hl,p2,rfl,_,hp2⟩:=Cs.zba hp hx
  obtain ⟨hl1,hl2⟩:=hf.2 l (List.mem_of_getElem? hl)
  have hll:=Lns.zhj hl1 hl2
  walk_at "rd"
  refine ⟨_,p2,l,rfl,rfl,SqL.of (hs _ _ hp2),Lns.zjD hl1 hl2,?_⟩
  walk_at "rd"
  refine ⟨zbK ?_,?_⟩
  ·have e:(Str.ofString "/").length=1:=by decide
   have e2:(Txt.join (Str.ofString " ") l).length<=10100:=hll
   omega
  refine zfn hil hh ?_ ⟨_,?_,rfl,zax hs hD,upd_same⟩
  ·rw [List.length_map,List.length_map,List.length_take]
   omega
  ·rw [List.take_add_one,hl,List.map_append,List.map_append]
   rfl
 ·rintro ys σ H2 ⟨v2,rfl,rfl,hs,hh⟩
  rw [hxl,List.take_of_length_le (Nat.le_refl _)] at hh
  refine ⟨_,D,_,rfl,rfl,SqL.of hh,Lns.zjG hf,?_⟩
  have e:=Lns.zmA ls
  have q:=q _ hs
  rw [<- e] at q
  exact q
def zgd:Sp:=fun vs H Q _=>∃ (pc:Addr) (xs:List V) (rs:List Cs.Row) (z:Int),vs=[.ref pc,.int z]/\H pc=some (.lst xs)/\Paired (Cs.zce H) xs rs/\Mc.Rows rs/\∀ pf fv bs lt H',H pf=none->Same H H'->H' pf=some (.lst fv)->Paired (Two H') fv bs->bs.length<=30->(∀ b ∈ bs,1<=b.2/\b.2 < 128)->Told40 rs bs (.inr lt)->Q (.ref pf) H'
theorem zgb (T:Tx K mg a):FnOk P w K mg base CX0 2 a.f_law_broken a.d_law_broken ["_law_case_here","_law_cell"] zgd:=by
 have G_law_mixed:=zcX (P:=P) (w:=w) (base:=base) T
 refine T.law_broken.fn.ok zgt (fun vs H Q E h=>?_) (fun cdv A outer s H vs Q E hr h=>?_)
 ·obtain ⟨pc,xs,rs,z,rfl,_⟩:=h
  rfl
 obtain ⟨pc,xs,rs,z,rfl,hc,hpd,R,q⟩:=h
 have hxl:=Cs.zbH hpd
 have hfew:=R.few
 refine ⟨_,(zac (zay (i:=2) zgt.nd rfl (Or.inl rfl) (zaD zad))
  (zac (zpD (zcb (zaA zgw (zap zbA (pv 1) zag) zag (zas _)) (zaf (zcO PassesOwn.never rfl (zcE K rfl rfl T.b_enumerate (zaa (pv 0) zad)) (zbB K rfl (n:=2) rfl (zam (zal (i:=3) zgt.nd rfl (Or.inl rfl)) (zam (zal (i:=4) zgt.nd rfl (Or.inl rfl)) zbz))) (zac (zay (i:=5) zgt.nd rfl (Or.inl rfl) (zap zkJ (zbv (zdG K rfl) (pv 4) zag (fun _ _=>rfl)) (zap zbA (zap zcm (zbe T.law_mixed G_law_mixed hr rfl (zaa (pv 1) (zaa (zap zaP zag (pv 3)) zad))) zag) zag)))
  (zaf (zcb (PW.pt (zjs (zaA zhK (pv 5) zag (zas _)) (zgg (zaA zhK (zbv (zdG K rfl) (pv 4) zag (fun _ _=>rfl)) zag (zas _))))) (zaf (zaR (zbD K rfl PySem.F.plainAttrs_list PySem.F.slot_list_append PySem.F.type_list_append zbf (pv 2) (zaa (zht (zaa (pv 3) (zaa (pv 5) zad))) zad)))) zaI))))) zaI))
  (zaf (zav (pv 2))))),?_⟩
 walk_at "rd"
 intro pf hpf
 have hs1:=zae hpf (.lst [])
 have h1f:upd H pf (.lst []) pf=some (.lst []):=upd_same
 generalize upd H pf (.lst [])=H1 at hs1 h1f ⊢
 walk_at "rd"
 refine ⟨fun σ H4=>∃ (fv:List V) (bs:List (Int × Int)) (ls:List (List Mc.Mx)) (ah:List Int) (v3 v4 v5:Option V),σ=[some (.ref pc),some (.int z),some (.ref pf),v3,v4,v5]/\Same H H4/\H4 pf=some (.lst fv)/\Paired (Two H4) fv bs/\bs.length<=30/\(∀ b ∈ bs,1<=b.2/\b.2 < 128)/\after rs bs bs.length=some (ls,ah),?_,?_⟩
 rotate_left
 ·rintro σ H4 ⟨fv,bs,ls,ah,v3,v4,v5,rfl,hs4,h4f,hfd,hbl,hbb,haf⟩
  walk_at "rd"
  exact q pf fv bs ls H4 hpf hs4 h4f hfd hbl hbb (.good haf)
 walk_at "rd"
 refine ite2 (fun _=>?_) (fun _=>?_)
 rotate_left
 ·exact ⟨[],[],zaZ rs,[],none,none,none,rfl,hs1,h1f,.nil,Nat.zero_le _,(fun b hb=>nomatch hb),zcw rs []⟩
 walk_at "rd"
 refine ⟨⟨_,SqL.of (hs1 _ _ hc)⟩,?_⟩
 refine zcH (a:=pc) (xs:=xs) (fun i σ H4=>∃ (fv:List V) (bs:List (Int × Int)) (ls:List (List Mc.Mx)) (ah:List Int) (v3 v4 v5:Option V),σ=[some (.ref pc),some (.int z),some (.ref pf),v3,v4,v5]/\Same H H4/\H4 pf=some (.lst fv)/\Paired (Two H4) fv bs/\bs.length<=i/\(∀ b ∈ bs,1<=b.2/\b.2 < 128)/\after rs bs bs.length=some (ls,ah)/\∀ x ∈ ah,x < (i:Int))
  ⟨[],[],zaZ rs,[],none,none,none,rfl,hs1,h1f,.nil,Nat.zero_le _,(fun b hb=>nomatch hb),zcw rs [],(fun x hx=>nomatch hx)⟩ (by rintro i σ H4 _ ⟨_,_,_,_,_,_,_,_,hs,_⟩;exact hs.seq (SqL.of hc)) ?_ ?_
 ·rintro i y tp σ H4 hy ⟨fv,bs,ls,ah,v3,v4,v5,rfl,hs4,h4f,hfd,hbl,hbb,haf,hah⟩ htp
  obtain ⟨r,hri,t,rfl,ht⟩:=Cs.zba hpd hy
  have hil:i < rs.length:=(List.getElem?_eq_some_iff.mp hri).1
  have hs5':=zae htp (.tup [.int i,.ref t])
  have h5t:upd H4 tp (.tup [.int i,.ref t]) tp=some (.tup [.int i,.ref t]):=upd_same
  generalize upd H4 tp (.tup [.int i,.ref t])=H5 at hs5' h5t ⊢
  have hs5:=hs4.trans hs5'
  have h5f:=hs5' _ _ h4f
  have hf5:=zdW hfd hs5'
  have ht5:=hs5 _ _ ht
  have hth:=R.th r (List.mem_of_getElem? hri)
  have a2:atI (Cs.rowV r) 2=some (.int r.t):=rfl
  have a3:atI (Cs.rowV r) 3=some (.int r.n):=rfl
  walk_at "rd"
  walk_at "tg"
  walk_at "tg"
  try refine And.intro rfl ?_
  walk_at "rd"
  refine ⟨t,_,_,_,rfl,rfl,SqT.of ht5,a2,?_⟩
  walk_at "rd"
  refine ⟨_,_,rfl,by omega,by omega,fun f hf0 hf1=>?_⟩
  obtain ⟨w1,w2,w3⟩:=zoe hth (w:=f / 9 % 128) ⟨by omega,by omega⟩
  walk_at "rd"
  refine ite2 (fun c1=>?_) (fun c1=>?_)
  rotate_left
  ·try refine iteF ?_
   exact ⟨fv,bs,ls,ah,_,_,_,rfl,hs5,h5f,hf5,by omega,hbb,haf,fun x hx=>by have:=hah x hx;omega⟩
  have c1:0 < Builtin.bitAnd r.t (f / 9 % 128):=of_decide_eq_true c1
  walk_at "rd"
  refine ⟨t,_,_,_,rfl,rfl,SqT.of ht5,a3,?_⟩
  walk_at "rd"
  refine ite2 (fun c2=>?_) (fun c2=>?_)
  rotate_left
  ·exact ⟨fv,bs,ls,ah,_,_,_,rfl,hs5,h5f,hf5,by omega,hbb,haf,fun x hx=>by have:=hah x hx;omega⟩
  have c2:0 < r.n:=of_decide_eq_true c2
  dsimp only
  generalize Builtin.bitAnd r.t (f / 9 % 128)=te at w1 w2 w3 c1 ⊢
  have hcz:ah.count (i:Int)=0:=List.count_eq_zero.mpr fun hx=>by have:=hah _ hx;omega
  have hcb:zat rs ah (i:Int) te=true:=zrx hri (by rw [hcz];exact c2) (by omega) w1
  have hfl:=Paired.length hf5
  walk_at "rd"
  refine ⟨.inl ⟨rfl,_,SqL.of h5f⟩,?_⟩
  walk_at "rd"
  intro tn htn
  have hs6:=zae htn (.tup [.int (i:Int),.int te])
  have h6n:upd H5 tn (.tup [.int (i:Int),.int te]) tn=some (.tup [.int (i:Int),.int te]):=upd_same
  generalize upd H5 tn (.tup [.int (i:Int),.int te])=H6 at hs6 h6n ⊢
  have h6f:=hs6 _ _ h5f
  have hf6:=zdW hf5 hs6
  refine ⟨pf,fv,_,rfl,rfl,h6f,zco (by omega),?_⟩
  refine ⟨fv++[.ref tn],bs++[((i:Int),te)],setLane rs ls ah ((i:Int),te),ah++[(i:Int)],_,_,_,rfl,zax (hs5.trans hs6) hpf,upd_same,?_,by rw [List.length_append];show bs.length+1<=i+1;omega,fun b hb=>?_,zjA (b:=((i:Int),te)) haf hcb,fun x hx=>?_⟩
  ·exact Paired.snoc (Paired.mapP hf6 fun _ _ ⟨b,e1,e2⟩=>⟨b,e1,by rw [zai (zcq e2 h6f fun z=>by cases z)];exact e2⟩) ⟨tn,rfl,by rw [zai (zcq h6n h6f fun z=>by cases z)];exact h6n⟩
  ·rcases List.mem_append.mp hb with hb | hb
   ·exact hbb b hb
   ·rw [List.mem_singleton.mp hb]
    exact ⟨by show 1<=te;omega,w3⟩
  ·rcases List.mem_append.mp hx with hx | hx
   ·have:=hah x hx;omega
   ·rw [List.mem_singleton.mp hx];omega
 ·rintro σ H4 ⟨fv,bs,ls,ah,v3,v4,v5,rfl,hs4,h4f,hfd,hbl,hbb,haf,_⟩
  exact ⟨fv,bs,ls,ah,v3,v4,v5,rfl,hs4,h4f,hfd,by omega,hbb,haf⟩
def zke (a:Ad):Sp:=fun vs H Q _=>∃ (p:Addr) (A:Mc.Adr) (c:Mc.Cf) (m:Mc.Ms),vs=[.ref p]/\MA a c H p A m/\Mc.Ok c m/\(Mc.allM m).length < 4096/\∀ (r:Addr) (vs':List V) (ms':List Mc.Mx) H',H r=none->Same H H'->H' r=some (.lst vs')->Paired (Lan.zbd H') vs' ms'->ms'.Perm (Mc.allM m)->ms'.Pairwise (fun a b=>Sr.mlt (mkK b) (mkK a)=false)->Q (.ref r) H'
theorem zjv (T:Tx K mg a):FnOk P w K mg base CX0 2 a.f_law_all a.d_law_all ["_law_machine"] (zke a):=by
 have G_Machine_channels:=zbn (P:=P) (w:=w) (base:=base) T
 have G_Machine_gathered:=zbj (P:=P) (w:=w) (base:=base) T
 have G_Machine_in_caster:=zbV (P:=P) (w:=w) (base:=base) T
 have G_Machine_bar:=zdw (P:=P) (w:=w) (base:=base) T
 refine T.law_all.fn.ok zkk (fun vs H Q E h=>?_) (fun cdv A outer s H vs Q E hr h=>?_)
 ·obtain ⟨p,A,c,m,rfl,_⟩:=h
  rfl
 obtain ⟨p,A,c,m,rfl,M,O,hlen,q⟩:=h
 have hall:=hlen
 unfold Mc.allM at hall
 rw [List.length_append,List.length_append,List.length_append] at hall
 have hsz:=O.sz
 have hkl:=Mc.zgx O
 unfold Mc.cnt at hsz
 refine ⟨_,(zac (zay (i:=1) zkk.nd rfl (Or.inl rfl) (zaD zad))
  (zac (zcO PassesOwn.never rfl (zbi K rfl (zaK (K:=K) rfl T.Machine.cl T.Machine_channels G_Machine_channels hr zbl (pv 0))) (zal (i:=2) zkk.nd rfl (Or.inl rfl)) (zaf (zay (i:=1) zkk.nd rfl (Or.inl rfl) (zap ziX (pv 1) (pv 2)))))
  (zac (zay (i:=1) zkk.nd rfl (Or.inl rfl) (zap ziX (pv 1) (zbW rfl (zbi K rfl (zap ziX (zaK (K:=K) rfl T.Machine.cl T.Machine_gathered G_Machine_gathered hr zbo (pv 0)) (zaK (K:=K) rfl T.Machine.cl T.Machine_in_caster G_Machine_in_caster hr zbU (pv 0)))) (BlkOk.of (N':=["_law_machine","_law_found","_law_lane","_law_thing"]) (ms:=[]) (k:=1) (by rfl)) (fun _ _ _ _ _=>(zal (i:=3) (show List.Nodup (["_law_machine","_law_found","_law_lane","_law_thing"]:List Str) from by decide +kernel) rfl (Or.inl rfl))) (fun _ _ _ _ _=>(zhL (zaA (kneD K rfl hr.units) (pv 3) zcN (zas _)))) (fun _ _ _ _ _=>(pv 3)))))
  (zaf (zav (zaY (zmQ K rfl) rfl T.b_sorted zgM (zaa (zap ziX (pv 1) (zaK (K:=K) rfl T.Machine.cl T.Machine_bar G_Machine_bar hr zdx (pv 0))) zad))))))),?_⟩
 walk_at "rd"
 refine fun f0 hf0=>?_
 have hs1:=zae hf0 (.lst [])
 have h1f:upd H f0 (.lst []) f0=some (.lst []):=upd_same
 generalize upd H f0 (.lst [])=H1 at hs1 h1f ⊢
 have M1:=M.same hs1
 have I1:=M1.ins
 walk_at "rd"
 refine ⟨p,A,c,m,rfl,M1,O,fun r H2 hr0 hs2 hL=>?_⟩
 obtain ⟨ls,hr2,hls,_,_⟩:=hL
 have hll:=Paired.length hls
 refine ⟨r,rfl,⟨_,SqL.of hr2⟩,?_⟩
 have hs02:=hs1.trans hs2
 have fl_le:∀ i,((m.lanes.take i).flatten).length<=m.lanes.flatten.length:=fun i=>by
  have e:m.lanes.flatten=(m.lanes.take i).flatten++(m.lanes.drop i).flatten:=by rw [<- List.flatten_append,List.take_append_drop]
  rw [e,List.length_append]
  omega
 refine zjb (a:=r) (xs:=ls.map V.ref) (fun i σ H3=>∃ (f:Addr) (vs:List V) (v2:Option V),σ=[some (.ref p),some (.ref f),v2]/\Same H2 H3/\H3 f=some (.lst vs)/\Paired (Lan.zbd H3) vs (m.lanes.take i).flatten)
  ⟨f0,[],none,rfl,Same.refl _,hs2 _ _ h1f,.nil⟩ (by rintro i σ H3 _ ⟨_,_,_,_,hs,_⟩;exact hs.seq (SqL.of hr2)) ?_ ?_
 ·rintro i y σ H3 hy ⟨f,vs,v2,rfl,hs3,hf,hpv⟩
  rw [List.getElem?_map] at hy
  obtain ⟨q1,hq1,rfl⟩:=Option.map_eq_some_iff.mp hy
  obtain ⟨l0,hl0,us,hu1,hu2⟩:=Cs.zba hls hq1
  have hvl:=Paired.length hpv
  have hul:=Paired.length hu2
  have e1:(m.lanes.take (i+1)).flatten=(m.lanes.take i).flatten++l0:=by
   rw [List.take_add_one,hl0,List.flatten_append]
   show _++(l0++[])=_
   rw [List.append_nil]
  have h4:=fl_le (i+1)
  rw [e1,List.length_append] at h4
  walk_at "rd"
  refine ⟨f,q1,_,_,rfl,rfl,hf,hs3 _ _ hu1,zbK (by omega),fun p4 hp4=>?_⟩
  have hs4:=zae hp4 (.lst (vs++us))
  refine ⟨p4,vs++us,_,rfl,hs3.trans hs4,upd_same,?_⟩
  rw [e1]
  exact zes (Lan.zaG hpv hs4) (Lan.zaG hu2 (hs3.trans hs4))
 ·rintro σ H3 ⟨f,vs,v2,rfl,hs3,hf,hpv⟩
  rw [List.length_map,hll,List.take_of_length_le (Nat.le_refl _)] at hpv
  have M3:=M1.same (hs2.trans hs3)
  have I3:=M3.ins
  have hs03:=hs02.trans hs3
  have hvl:=Paired.length hpv
  walk_at "rd"
  refine ⟨p,A,c,m,rfl,M3,O,fun d1 H4 hd1 hs4 hL1=>?_⟩
  have M4:=M3.same hs4
  have I4:=M4.ins
  walk_at "rd"
  refine ⟨p,A,c,m,rfl,M4,O,fun d2 H5 hd2 hs5 hL2=>?_⟩
  obtain ⟨x1,a1,b1⟩:=hL1.keep (Mc.Keep.of_same (S:=fun _=>True) hs5) trivial
  obtain ⟨x2,a2,b2⟩:=hL2
  have hx1:=Paired.length b1
  have hx2:=Paired.length b2
  refine ⟨d1,d2,_,_,rfl,rfl,a1,a2,zbK (by omega),fun d hd=>?_⟩
  have hs6:=zae hd (.lst (x1++x2))
  have hu1:upd H5 d (.lst (x1++x2)) d=some (.lst (x1++x2)):=upd_same
  have hu2:=zes (Mc.zbY (Mc.Keep.of_same (S:=fun _=>True) hs6) b1) (Mc.zbY (Mc.Keep.of_same (S:=fun _=>True) hs6) b2)
  generalize upd H5 d (.lst (x1++x2))=H8 at hs6 hu1 hu2 ⊢
  have hul:=Paired.length hu2
  generalize x1++x2=us at hu1 hu2 hul
  have hlp:∀ x,some x ∈ m.line++m.heat->PyData.canLay0 (.str x.1)=true:=fun x hx=>by
   rcases List.mem_append.mp hx with h | h
   ·exact O.ilay x h
   ·exact O.hlay x h
  have hplen:(m.line++m.heat).length<=95000:=by rw [List.length_append];omega
  have hmt:Mc.mats (m.line++m.heat)=Mc.mats m.line++Mc.mats m.heat:=List.filterMap_append
  generalize m.line++m.heat=ps at hu2 hul hlp hplen hmt
  have hs38:=hs4.trans (hs5.trans hs6)
  have hf8:=hs38 _ _ hf
  have hpv8:=Lan.zaG hpv hs38
  have M8:=M3.same hs38
  have hs08:=hs03.trans hs38
  clear a1 a2 b1 b2 hs4 hs5 hs6 M4 I3 I4 hs38 hpv hf hs03 hs3 hs02
  walk_at "rd"
  refine ⟨⟨_,SqL.of hu1⟩,fun D hD=>?_⟩
  refine zbh (a:=d) (xs:=us) (fun j ys σ H9=>∃ (v4:Option V),σ=[some (.ref p),some (.ref f),v2,v4]/\Same H8 H9/\H9 D=some (.lst ys)/\Paired (Lan.zbd H9) ys (Mc.mats (ps.take j)))
   ?_ ?_ ?_ ?_
  ·exact ⟨none,rfl,zae hD _,upd_same,.nil⟩
  ·rintro j ys σ H9 hj ⟨_,_,hs,_⟩
   exact hs.seq (SqL.of hu1)
  ·rintro j y ys σ H9 hy9 hjl ⟨v4,rfl,hs9,hh9,hpy⟩
   obtain ⟨pt,hpt,hpa⟩:=Mc.zeN hu2 hy9
   have hpa9:=Mc.zdU (Mc.Keep.of_same (S:=fun _=>True) hs9) hpa
   have hmem:=List.mem_of_getElem? hpt
   have hyl:=Paired.length hpy
   have hml:(Mc.mats (ps.take j)).length<=j:=Nat.le_trans (Mc.zeD _) (by rw [List.length_take];omega)
   have htk:ps.take (j+1)=ps.take j++[pt]:=by rw [List.take_add_one,hpt];rfl
   have hjj:j < 100000:=by omega
   walk_at "rd"
   refine ⟨_,_,Mc.zgs hpa9 (fun x e=>hlp x (e ▸ hmem)),.str _ (by decide +kernel),by show min _ 0<=64;omega,?_⟩
   cases pt with
   | none =>
     rw [show PyData.eqv (Mc.zbu none) (.str (Str.ofString " "))=true from Mc.zji]
     refine ⟨_,rfl,?_⟩
     refine iteF ?_
     refine zop hjl ⟨_,rfl,hs9,hh9,?_⟩
     rw [htk,Mc.zcg]
     show Paired _ ys (_++[])
     rw [List.append_nil]
     exact hpy
   | some x =>
     rw [show PyData.eqv (Mc.zbu (some x)) (.str (Str.ofString " "))=false from rfl]
     refine ⟨_,rfl,?_⟩
     refine iteT ?_
     walk_at "rd"
     refine zfn hjl hh9 (by omega) ⟨_,rfl,zax hs9 hD,upd_same,?_⟩
     rw [htk,Mc.zcg]
     obtain ⟨t,rfl,htt⟩:=hpa9
     exact Paired.snoc (Lan.zcz hpy hh9) ⟨t,rfl,by rw [zai (zcq htt hh9 (fun e=>by cases e))];exact htt⟩
  ·rintro ys σ H9 ⟨v4,rfl,hs9,hh9,hpy⟩
   rw [hul,List.take_of_length_le (Nat.le_refl _),hmt] at hpy
   have hyl:=Paired.length hpy
   rw [List.length_append] at hyl
   walk_at "rd"
   refine ⟨f,D,_,_,rfl,rfl,hs9 _ _ hf8,hh9,zbK (by omega),fun p10 hp10=>?_⟩
   have hs10:=zae hp10 (.lst (vs++ys))
   have h10:upd H9 p10 (.lst (vs++ys)) p10=some (.lst (vs++ys)):=upd_same
   have hp10d:=zes (Lan.zaG hpv8 (hs9.trans hs10)) (Lan.zaG hpy hs10)
   generalize upd H9 p10 (.lst (vs++ys))=H10 at hs10 h10 hp10d ⊢
   have M10:=M8.same (hs9.trans hs10)
   have I10:=M10.ins
   walk_at "rd"
   refine ⟨p,A,c,m,rfl,M10,O,fun d3 H11 hd3 hs11 hL3=>?_⟩
   obtain ⟨x3,a3,b3⟩:=hL3
   have hx3:=Paired.length b3
   refine ⟨p10,d3,_,_,rfl,rfl,hs11 _ _ h10,a3,zbK (by rw [List.length_append];omega),fun p12 hp12=>?_⟩
   have hs12:=zae hp12 (.lst (vs++ys++x3))
   have h12:upd H11 p12 (.lst (vs++ys++x3)) p12=some (.lst (vs++ys++x3)):=upd_same
   have hd12:=zes (Lan.zaG hp10d (hs11.trans hs12)) (Lan.zaG b3 hs12)
   rw [show (m.lanes.flatten++(Mc.mats m.line++Mc.mats m.heat)++m.bar)=Mc.allM m by unfold Mc.allM;rw [List.append_assoc,List.append_assoc]] at hd12
   generalize upd H11 p12 (.lst (vs++ys++x3))=H12 at hs12 h12 hd12 ⊢
   walk_at "rd"
   refine ⟨p12,_,_,rfl,SqL.of h12,hd12,hlen,fun r2 vs' ms' hr2 hpm hpd hpw=>?_⟩
   have hs13:=zae hr2 (.lst vs')
   have hs012:=hs08.trans (hs9.trans (hs10.trans (hs11.trans hs12)))
   exact q r2 vs' ms' _ (hs012.free hr2) (hs012.trans hs13) upd_same (Lan.zaG hpd hs13) hpm hpw
/-! what is seen of a machine,as data -/
def zfs (m:Mc.Ms):PyData:=.list [.list (m.lanes.map Mc.zfa),.list (m.line.map Mc.zbu),.list (m.heat.map Mc.zbu),.list (m.bar.map Mc.mxD),.list (m.texts.map PyData.str)]
theorem zfh {α:Type} {f:α->PyData}:∀ {js:List α},(∀ j,nb (f j)=true)->nbL (js.map f)=true
 | [],_=>rfl
 | j :: js,h=>by
   show (nb (f j) && nbL (js.map f))=true
   rw [h j,zfh h]
   rfl
theorem zll (x:Mc.Part):nb (Mc.zbu x)=true:=by cases x <;> rfl
theorem zkY (m:Mc.Ms):nb (zfs m)=true:=by
 show (nbL (m.lanes.map Mc.zfa) && (nbL (m.line.map Mc.zbu) && (nbL (m.heat.map Mc.zbu) && (nbL (m.bar.map Mc.mxD) && (nbL (m.texts.map PyData.str) && true)))))=true
 rw [zfh (f:=Mc.zfa) fun l=>(zfh (f:=Mc.mxD) fun _=>rfl),zfh (f:=Mc.zbu) zll,zfh (f:=Mc.zbu) zll,zfh (f:=Mc.mxD) fun _=>rfl,zfh (f:=PyData.str) fun _=>rfl]
 rfl
theorem zjo {α:Type} {f:α->PyData} (hf:∀ a b,f a=f b->a=b):∀ {xs ys:List α},xs.map f=ys.map f->xs=ys
 | [],[],_=>rfl
 | [],_ :: _,h=>by cases h
 | _ :: _,[],h=>by cases h
 | x :: xs,y :: ys,h=>by
   rw [List.map_cons,List.map_cons] at h
   obtain ⟨h1,h2⟩:=List.cons.inj h
   rw [hf x y h1,zjo hf h2]
theorem zdh {α:Type} {f:α->PyData} (hf:∀ a b,f a=f b->a=b) {xs ys:List α} (h:PyData.list (xs.map f)=.list (ys.map f)):xs=ys:=zjo hf (PyData.list.inj h)
theorem zlF (a b:Mc.Mx) (h:Mc.mxD a=Mc.mxD b):a=b:=by
 have h:=PyData.tuple.inj h
 obtain ⟨h1,h2⟩:=List.cons.inj h
 obtain ⟨h2,_⟩:=List.cons.inj h2
 exact Prod.ext (PyData.str.inj h1) (PyData.int.inj h2)
theorem zjt (a b:Mc.Part) (h:Mc.zbu a=Mc.zbu b):a=b:=by
 cases a with
 | none=>cases b with
   | none=>rfl
   | some y=>cases h
 | some x=>cases b with
   | none=>cases h
   | some y=>rw [zlF x y h]
theorem znB {m m':Mc.Ms} (h:PyData.eqv (zfs m) (zfs m')=true):m.lanes=m'.lanes/\m.line=m'.line/\m.heat=m'.heat/\m.bar=m'.bar/\m.texts=m'.texts:=by
 have h:=PyData.list.inj ((zlu _ _ (zkY m) (zkY m')).mp h)
 obtain ⟨h0,h⟩:=List.cons.inj h
 obtain ⟨h1,h⟩:=List.cons.inj h
 obtain ⟨h2,h⟩:=List.cons.inj h
 obtain ⟨h3,h⟩:=List.cons.inj h
 obtain ⟨h4,_⟩:=List.cons.inj h
 exact ⟨zdh (fun a b e=>zdh zlF e) h0,zdh zjt h1,zdh zjt h2,zdh zlF h3,zdh (fun a b e=>PyData.str.inj e) h4⟩
theorem zjH (m:Mc.Ms) (e:PyData):min (zfs m).depth e.depth<=64:=by
 have h0:=Mc.zbJ Mc.zfa 2 Mc.zfT m.lanes
 have h1:=Mc.zbJ Mc.zbu 1 Mc.zfH m.line
 have h2:=Mc.zbJ Mc.zbu 1 Mc.zfH m.heat
 have h3:=Mc.zbJ Mc.mxD 1 Mc.zgv m.bar
 have h4:=Mc.zbJ PyData.str 0 (fun _=>Nat.le_refl _) m.texts
 have e1:(zfs m).depth=max (PyData.depthAll (m.lanes.map Mc.zfa)+1) (max (PyData.depthAll (m.line.map Mc.zbu)+1) (max (PyData.depthAll (m.heat.map Mc.zbu)+1) (max (PyData.depthAll (m.bar.map Mc.mxD)+1) (max (PyData.depthAll (m.texts.map PyData.str)+1) 0))))+1:=rfl
 have up:∀ {x k:Nat},x<=k->k<=62->x+1<=63:=fun h1 h2=>Nat.succ_le_succ (Nat.le_trans h1 h2)
 refine Nat.le_trans (Nat.min_le_left _ _) ?_
 rw [e1]
 exact Nat.succ_le_succ (Nat.max_le.mpr ⟨up h0 (by decide),Nat.max_le.mpr ⟨up h1 (by decide),Nat.max_le.mpr ⟨up h2 (by decide),Nat.max_le.mpr ⟨up h3 (by decide),Nat.max_le.mpr ⟨up h4 (by decide),by decide⟩⟩⟩⟩⟩)
/-- what was seen stands in new lists -/
def SeAt (H H':Hp) (r:Addr) (m:Mc.Ms):Prop:=∃ d0 d1 d2 d3 d4,H' r=some (.lst [.ref d0,.ref d1,.ref d2,.ref d3,.ref d4])/\H r=none/\H d0=none/\H d1=none/\H d2=none/\H d3=none/\H d4=none/\zkL H H' d0 m.lanes/\Mc.zgu H' d1 m.line/\Mc.zgu H' d2 m.heat/\Mc.LnAt H' d3 m.bar/\H' d4=some (.lst (m.texts.map V.str))
theorem SeAt.keep {H H1 H2:Hp} {r:Addr} {m:Mc.Ms} (h:SeAt H H1 r m) (k:Mc.Keep (fun b=>H b=none) H1 H2):SeAt H H2 r m:=by
 obtain ⟨d0,d1,d2,d3,d4,e,n,n0,n1,n2,n3,n4,⟨ls,g1,g2,g3,g4⟩,h1,h2,h3,h4⟩:=h
 exact ⟨d0,d1,d2,d3,d4,k _ _ e (.inl n),n,n0,n1,n2,n3,n4,⟨ls,k _ _ g1 (.inl n0),Mc.zby k g4 g2,g3,g4⟩,h1.keep k n1,h2.keep k n2,h3.keep k n3,k _ _ h4 (.inl n4)⟩
theorem SeAt.same {H H1 H2:Hp} {r:Addr} {m:Mc.Ms} (h:SeAt H H1 r m) (s:Same H1 H2):SeAt H H2 r m:=h.keep (Mc.Keep.of_same s)
theorem SeAt.den {K:PySem.W.Frag} {H H':Hp} {r:Addr} {c:Mc.Cf} {m:Mc.Ms} (h:SeAt H H' r m) (O:Mc.Ok c m):Den K H' (.ref r) (zfs m):=by
 obtain ⟨d0,d1,d2,d3,d4,e,_,_,_,_,_,_,⟨ls,g1,g2,_,_⟩,h1,h2,h3,h4⟩:=h
 exact .lst (SqL.of e) (.cons (.lst (SqL.of g1) (Mc.zjm g2 O.llays)) (.cons (h1.den O.ilay) (.cons (h2.den O.hlay) (.cons (h3.den O.blay) (.cons (.lst (SqL.of h4) (Ln.zek O.tl)) .nil)))))
theorem ziq (T:Tx K mg a):FnOk P w K mg base CX0 2 a.f_law_seen a.d_law_seen ["_law_machine"] (zeg a fun c m H H' r=>SeAt H H' r m):=by
 have G_Machine_channels:=zbn (P:=P) (w:=w) (base:=base) T
 have G_Machine_gathered:=zbj (P:=P) (w:=w) (base:=base) T
 have G_Machine_in_caster:=zbV (P:=P) (w:=w) (base:=base) T
 have G_Machine_bar:=zdw (P:=P) (w:=w) (base:=base) T
 have G_Machine_slugs:=zcL (P:=P) (w:=w) (base:=base) T
 refine T.law_seen.fn.ok zhU (fun vs H Q E h=>?_) (fun cdv A outer s H vs Q E hr h=>?_)
 ·obtain ⟨p,A,c,m,rfl,_⟩:=h
  rfl
 obtain ⟨p,A,c,m,rfl,M,O,q⟩:=h
 have I:=M.ins
 refine ⟨_,(zaf (zav (zaD (zaa (zaK (K:=K) rfl T.Machine.cl T.Machine_channels G_Machine_channels hr zbl (pv 0)) (zaa (zaK (K:=K) rfl T.Machine.cl T.Machine_gathered G_Machine_gathered hr zbo (pv 0)) (zaa (zaK (K:=K) rfl T.Machine.cl T.Machine_in_caster G_Machine_in_caster hr zbU (pv 0)) (zaa (zaK (K:=K) rfl T.Machine.cl T.Machine_bar G_Machine_bar hr zdx (pv 0)) (zaa (zaK (K:=K) rfl T.Machine.cl T.Machine_slugs G_Machine_slugs hr zbT (pv 0)) zad)))))))),?_⟩
 walk_at "rd"
 refine ⟨p,A,c,m,rfl,M,O,fun d0 H1 hd0 hs1 hL0=>?_⟩
 have M1:=M.same hs1
 have I1:=M1.ins
 walk_at "rd"
 refine ⟨p,A,c,m,rfl,M1,O,fun d1 H2 hd1 hs2 hL1=>?_⟩
 have M2:=M1.same hs2
 have I2:=M2.ins
 walk_at "rd"
 refine ⟨p,A,c,m,rfl,M2,O,fun d2 H3 hd2 hs3 hL2=>?_⟩
 have M3:=M2.same hs3
 have I3:=M3.ins
 walk_at "rd"
 refine ⟨p,A,c,m,rfl,M3,O,fun d3 H4 hd3 hs4 hL3=>?_⟩
 have M4:=M3.same hs4
 have I4:=M4.ins
 walk_at "rd"
 refine ⟨p,A,c,m,rfl,M4,O,fun d4 H5 hd4 hs5 hL4=>?_⟩
 walk_at "rd"
 refine fun r hr=>?_
 have hs6:=zae hr (.lst [.ref d0,.ref d1,.ref d2,.ref d3,.ref d4])
 have s56:=hs5.trans hs6
 have s46:=hs4.trans s56
 have s36:=hs3.trans s46
 have s26:=hs2.trans s36
 have s05:Same H H5:=hs1.trans (hs2.trans (hs3.trans (hs4.trans hs5)))
 obtain ⟨ls,g1,g2,g3,g4⟩:=hL0
 exact q r _ (s05.free hr) (hs1.trans s26) ⟨d0,d1,d2,d3,d4,upd_same,s05.free hr,hd0,hs1.free hd1,(hs1.trans hs2).free hd2,(hs1.trans (hs2.trans hs3)).free hd3,(hs1.trans (hs2.trans (hs3.trans hs4))).free hd4,⟨ls,s26 _ _ g1,Mc.zby (Mc.Keep.of_same (S:=fun _=>True) s26) (fun _ _=>trivial) g2,g3,g4⟩,hL1.keep (Mc.Keep.of_same (S:=fun _=>True) s36) trivial,hL2.keep (Mc.Keep.of_same (S:=fun _=>True) s46) trivial,hL3.keep (Mc.Keep.of_same (S:=fun _=>True) s56) trivial,hs6 _ _ hL4⟩
def zjR (a:Ad):Sp:=fun vs H Q _=>∃ (p pc:Addr) (A:Mc.Adr) (c:Mc.Cf) (m:Mc.Ms) (xs:List V),vs=[.ref p,.ref pc]/\MA a c H p A m/\Mc.Ok c m/\Mc.Gd c m/\H pc=some (.lst xs)/\Paired (Cs.zce H) xs c.rs/\∀ H',Same H H'->Q (.bl true) H'
theorem zkh (T:Tx K mg a):FnOk P w K mg base CX0 2 a.f_law_own a.d_law_own ["_law_machine","_law_case_here"] (zjR a):=by
 have G_Machine_channels:=zbn (P:=P) (w:=w) (base:=base) T
 refine T.law_own.fn.ok zjN (fun vs H Q E h=>?_) (fun cdv A outer s H vs Q E hr h=>?_)
 ·obtain ⟨p,pc,A,c,m,xs,rfl,_⟩:=h
  rfl
 obtain ⟨p,pc,A,c,m,xs,rfl,M,O,G,hpc,hpd,q⟩:=h
 have I:=M.ins
 have hxl:=Cs.zbH hpd
 have hln:=O.ln
 have hfew:=O.cf.few
 refine ⟨_,(zac (zcO PassesOwn.never rfl (zcE K rfl rfl T.b_enumerate (zaa (zaK (K:=K) rfl T.Machine.cl T.Machine_channels G_Machine_channels hr zbl (pv 0)) zad)) (zbB K rfl (n:=2) rfl (zam (zal (i:=2) zjN.nd rfl (Or.inl rfl)) (zam (zal (i:=3) zjN.nd rfl (Or.inl rfl)) zbz))) (zaf (zcO PassesOwn.never rfl (zbi K rfl (pv 3)) (zbB K rfl (n:=2) rfl (zam (zal (i:=4) zjN.nd rfl (Or.inl rfl)) (zam (zal (i:=5) zjN.nd rfl (Or.inl rfl)) zbz))) (zaf (zcb (PW.pt (zml (zaA ziE (pv 4) (zbv (zdG K rfl) (zbv (zaM K rfl) (pv 1) (pv 2) (fun _ _=>rfl)) zag (fun _ _=>rfl)) (zas _)) (zkD (zaA ziE (pv 5) (zbv (zdG K rfl) (zbv (zaM K rfl) (pv 1) (pv 2) (fun _ _=>rfl)) zag (fun _ _=>rfl)) (zas _))))) (zaf (zav ziy)) zaI)))))
  (zaf (zav ziy))),?_⟩
 walk_at "rd"
 refine ⟨p,A,c,m,rfl,M,O,fun r H1 hr0 hs1 hL=>?_⟩
 obtain ⟨ls,hr1,hls,_,_⟩:=hL
 have hll:=Paired.length hls
 have hpc1:=hs1 _ _ hpc
 have hpd1:=Cs.zaC hpd hs1
 refine ⟨r,rfl,⟨_,SqL.of hr1⟩,?_⟩
 refine zcH (a:=r) (xs:=ls.map V.ref) (fun i σ H2=>∃ (v2 v3 v4 v5:Option V),σ=[some (.ref p),some (.ref pc),v2,v3,v4,v5]/\Same H1 H2) ⟨none,none,none,none,rfl,Same.refl _⟩ (by rintro i σ H2 _ ⟨_,_,_,_,_,hs⟩;exact hs.seq (SqL.of hr1)) ?_ ?_
 ·rintro i y tp σ H2 hy ⟨v2,v3,v4,v5,rfl,hs2⟩ htp
  rw [List.getElem?_map] at hy
  obtain ⟨q1,hq1,rfl⟩:=Option.map_eq_some_iff.mp hy
  obtain ⟨l0,hl0,us,hu1,hu2⟩:=Cs.zba hls hq1
  obtain ⟨r0,hr0',hown⟩:=G.ow i l0 hl0
  obtain ⟨_,hv0,t0,rfl,ht0⟩:=Cs.zeh hpd1 hr0'
  have hatc:∀ _:Unit,atI xs (i:Int)=some (.ref t0):=fun _=>zbw hv0
  have hs3':=zae htp (.tup [.int i,.ref q1])
  have h3t:upd H2 tp (.tup [.int i,.ref q1]) tp=some (.tup [.int i,.ref q1]):=upd_same
  generalize upd H2 tp (.tup [.int i,.ref q1])=H3 at hs3' h3t ⊢
  have hs3:=hs2.trans hs3'
  have a0:atI (Cs.rowV r0) 0=some (.str r0.s):=rfl
  have a2:atI (Cs.rowV r0) 2=some (.int r0.t):=rfl
  walk_at "rd"
  walk_at "tg"
  walk_at "tg"
  try refine And.intro rfl ?_
  walk_at "rd"
  refine ⟨⟨_,SqL.of (hs3 _ _ hu1)⟩,?_⟩
  refine zjb (a:=q1) (xs:=us) (fun j σ H4=>∃ (v4 v5:Option V),σ=[some (.ref p),some (.ref pc),some (.int (i:Int)),some (.ref q1),v4,v5]/\Same H1 H4) ⟨_,_,rfl,hs3⟩ (by rintro j σ H4 _ ⟨_,_,_,hs⟩;exact hs.seq (SqL.of hu1)) ?_ ?_
  ·rintro j y σ H4 hy ⟨w4,w5,rfl,hs4⟩
   obtain ⟨x,hxj,tx,rfl,htx⟩:=Cs.zba hu2 hy
   have hxm:=List.mem_of_getElem? hxj
   rw [hown x hxm] at htx
   have htx4:=hs4 _ _ htx
   have ht04:=hs4 _ _ ht0
   have hpc4:=hs4 _ _ hpc1
   walk_at "rd"
   walk_at "tg"
   walk_at "tg"
   try refine And.intro rfl ?_
   walk_at "rd"
   refine ⟨pc,_,_,_,rfl,rfl,SqL.of hpc4,hatc (),?_⟩
   refine ⟨t0,_,_,_,rfl,rfl,SqT.of ht04,a0,?_⟩
   walk_at "rd"
   have e1:(!decide (V.str r0.s=V.str r0.s))=false:=by rw [decide_eq_true rfl];rfl
   have e2:(!decide (V.int r0.t=V.int r0.t))=false:=by rw [decide_eq_true rfl];rfl
   try dsimp only
   rw [e1]
   refine iteF ?_
   walk_at "rd"
   refine ⟨pc,_,_,_,rfl,rfl,SqL.of hpc4,hatc (),?_⟩
   refine ⟨t0,_,_,_,rfl,rfl,SqT.of ht04,a2,?_⟩
   walk_at "rd"
   try dsimp only
   rw [e2]
   refine iteF ?_
   exact ⟨_,_,rfl,hs4⟩
  ·rintro σ H4 ⟨w4,w5,rfl,hs4⟩
   exact ⟨_,_,_,_,rfl,hs4⟩
 ·rintro σ H2 ⟨v2,v3,v4,v5,rfl,hs2⟩
  walk_at "rd"
  exact q _ (hs1.trans hs2)
/-! a machine with broken matrices,or none: what stays while it goes,and what is seen of it -/
def zib (ks:List Nat):Prop:=∀ i,ks[i]?=some 47->∃ j d,i=j+1/\ks[j]?=some d/\d ≠ 47
theorem zmN {rs:List Cs.Row} {ks:List Nat} (h:Lns.zaU rs false ks=true):zib ks:=fun i hi=>by
 have h1:=Lns.zju h i 47 hi
 rw [if_neg (by decide)] at h1
 rcases h1 with ⟨_,z⟩ | ⟨j,d,e,hd,hs⟩
 ·cases z
 ·exact ⟨j,d,e,hd,fun z=>by rw [z] at hs;exact absurd hs (by decide)⟩
structure Kp47 (c:Mc.Cf) (al:List Mc.Mx) (m:Mc.Ms):Prop where
 ok:Mc.Ok c m
 pm:(Mc.allM m).Perm al
 le:m.line=[]->m.at_=0\/c.keys.cps.toList[m.at_ - 1]?=some 47
 ct:(m.texts.map fun t=>t.length+1).sum+(if m.heat.isEmpty=true then 0 else m.heat.length+1)+m.line.length=m.at_
 tg:m.togo<=c.cast
theorem zmx:∀ {l:List Mc.Part},(∀ x ∈ Mc.mats l,x.1.length=1)->(Mc.zaE l).length=l.length:=fun {l} h=>by
 have e:(Mc.cps (Mc.zaE l)).length=(Mc.zaE l).length:=Array.length_toList
 rw [<- e,Mc.zde]
 clear e
 induction l with
 | nil=>rfl
 | cons p r ih =>
   rw [List.flatMap_cons,List.length_append,List.length_cons]
   cases p with
   | none =>
     have e:(Mc.cps (Mc.zbb none)).length=1:=rfl
     rw [e,ih h]
     omega
   | some x =>
     have e:(Mc.cps (Mc.zbb (some x))).length=1:=by
      have h1:=h x List.mem_cons_self
      show x.1.cps.toList.length=1
      rw [<- h1]
      exact Array.length_toList
     rw [e,ih fun y hy=>h y (List.mem_cons_of_mem _ hy)]
     omega
theorem zet (c:Mc.Cf) (m:Mc.Ms):Mc.strike c m=m\/Mc.strike c m={ m with waits:=m.waits+1 }\/(Mc.key c m=some 47/\m.heat=[]/\Mc.strike c m={ m with heat:=m.line,togo:=c.cast,line:=[],at_:=m.at_+1 })\/∃ p ls,Mc.strike c m={ m with lanes:=ls,line:=m.line++[p],at_:=m.at_+1 }:=by
 unfold Mc.strike
 split
 ·exact .inl rfl
 ·rename_i k hk
  split
  ·rename_i h47
   unfold Mc.send
   split
   ·rename_i hh
    exact .inr (.inr (.inl ⟨by rw [hk,h47],List.isEmpty_iff.mp hh,rfl⟩))
   ·exact .inl rfl
  ·split
   ·exact .inr (.inr (.inr ⟨none,m.lanes,rfl⟩))
   ·split
    ·exact .inr (.inl rfl)
    ·split
     ·unfold Mc.pick
      split
      ·exact .inr (.inr (.inr ⟨_,_,rfl⟩))
      ·exact .inl rfl
     ·exact .inl rfl
theorem zlt (c:Mc.Cf) (m:Mc.Ms):(Mc.cool (Mc.fall c m)).at_=m.at_/\(Mc.cool (Mc.fall c m)).line=m.line:=by
 obtain ⟨a1,a2,_⟩:=Mc.zck c m
 obtain ⟨b1,b2,_⟩:=Mc.zdR (Mc.fall c m)
 exact ⟨b1.trans a1,b2.trans a2⟩
theorem znF {m:Mc.Ms} (h:∀ x ∈ Mc.mats m.heat,x.1.length=1):((Mc.cool m).texts.map fun t=>t.length+1).sum+(if (Mc.cool m).heat.isEmpty=true then 0 else (Mc.cool m).heat.length+1)=(m.texts.map fun t=>t.length+1).sum+(if m.heat.isEmpty=true then 0 else m.heat.length+1):=by
 unfold Mc.cool
 split
 ·rfl
 ·rename_i hh
  split
  ·show ((m.texts++[Mc.zaE m.heat]).map fun t=>t.length+1).sum+0=_
   rw [List.map_append,List.sum_append,<- zmx h]
   show _+((Mc.zaE m.heat).length+1+0)+0=_
   omega
  ·rfl
theorem zov {c:Mc.Cf} {m:Mc.Ms} (h:m.togo<=c.cast):(Mc.cool m).togo<=c.cast:=by
 unfold Mc.cool
 split
 ·exact h
 ·split
  ·show m.togo - 1<=c.cast
   omega
  ·show m.togo - 1<=c.cast
   omega
theorem line_ne {c:Mc.Cf} {m:Mc.Ms} (G:zib c.keys.cps.toList) (le:m.line=[]->m.at_=0\/c.keys.cps.toList[m.at_ - 1]?=some 47) (hk:Mc.key c m=some 47):m.line ≠ []:=fun e=>by
 obtain ⟨j,d,e1,e2,e3⟩:=G m.at_ hk
 rcases le e with z | z
 ·omega
 ·rw [e1,Nat.add_sub_cancel,e2] at z
  exact e3 (Option.some.inj z)
theorem Kp47.tick {c:Mc.Cf} {al:List Mc.Mx} {m:Mc.Ms} (G:zib c.keys.cps.toList) (ha:∀ x ∈ al,x.1.length=1) (K:Kp47 c al m):Kp47 c al (Mc.tick c m):=by
 have O:=K.ok
 obtain ⟨f1,f2,f3,f4,f5,_,_⟩:=Mc.zck c m
 obtain ⟨l1,l2⟩:=zlt c m
 have hm:∀ x ∈ Mc.mats (Mc.fall c m).heat,x.1.length=1:=fun x hx=>by
  rw [f3] at hx
  refine ha x (K.pm.mem_iff.mp ?_)
  unfold Mc.allM
  exact List.mem_append_right _ (List.mem_append_right _ (List.mem_append_left _ hx))
 have c1:=znF hm
 rw [f5,f3] at c1
 have hct:=K.ct
 have c2:(Mc.cool (Mc.fall c m)).togo<=c.cast:=zov (by rw [f4];exact K.tg)
 have le:(Mc.cool (Mc.fall c m)).line=[]->(Mc.cool (Mc.fall c m)).at_=0\/c.keys.cps.toList[(Mc.cool (Mc.fall c m)).at_ - 1]?=some 47:=by rw [l1,l2];exact K.le
 have ct:((Mc.cool (Mc.fall c m)).texts.map fun t=>t.length+1).sum+(if (Mc.cool (Mc.fall c m)).heat.isEmpty=true then 0 else (Mc.cool (Mc.fall c m)).heat.length+1)+(Mc.cool (Mc.fall c m)).line.length=(Mc.cool (Mc.fall c m)).at_:=by rw [c1,l1,l2];exact hct
 have hne:=line_ne G le
 have hsc:=zet c (Mc.cool (Mc.fall c m))
 refine ⟨O.tick,(Mc.zmf O).trans K.pm,?_,?_,?_⟩
 ·show (Mc.strike c (Mc.cool (Mc.fall c m))).line=[]->(Mc.strike c (Mc.cool (Mc.fall c m))).at_=0\/c.keys.cps.toList[(Mc.strike c (Mc.cool (Mc.fall c m))).at_ - 1]?=some 47
  generalize Mc.cool (Mc.fall c m)=n at hsc le ⊢
  rcases hsc with e | e | ⟨hk,_,e⟩ | ⟨p,ls,e⟩
  ·rw [e];exact le
  ·rw [e];exact le
  ·rw [e]
   intro _
   exact .inr hk
  ·rw [e]
   intro z
   have z:n.line++[p]=[]:=z
   simp at z
 ·show ((Mc.strike c (Mc.cool (Mc.fall c m))).texts.map fun t=>t.length+1).sum+(if (Mc.strike c (Mc.cool (Mc.fall c m))).heat.isEmpty=true then 0 else (Mc.strike c (Mc.cool (Mc.fall c m))).heat.length+1)+(Mc.strike c (Mc.cool (Mc.fall c m))).line.length=(Mc.strike c (Mc.cool (Mc.fall c m))).at_
  generalize Mc.cool (Mc.fall c m)=n at hsc hne ct ⊢
  rcases hsc with e | e | ⟨hk,hh,e⟩ | ⟨p,ls,e⟩
  ·rw [e];exact ct
  ·rw [e];exact ct
  ·rw [e]
   rw [hh] at ct
   have h1:¬ (n.line.isEmpty=true):=fun z=>hne hk (List.isEmpty_iff.mp z)
   show (n.texts.map fun t=>t.length+1).sum+(if n.line.isEmpty=true then 0 else n.line.length+1)+0=n.at_+1
   rw [if_neg h1]
   have ct:(n.texts.map fun t=>t.length+1).sum+0+n.line.length=n.at_:=ct
   omega
  ·rw [e]
   show (n.texts.map fun t=>t.length+1).sum+(if n.heat.isEmpty=true then 0 else n.heat.length+1)+(n.line++[p]).length=n.at_+1
   rw [List.length_append]
   show _+(n.line.length+1)=_
   omega
 ·show (Mc.strike c (Mc.cool (Mc.fall c m))).togo<=c.cast
  generalize Mc.cool (Mc.fall c m)=n at hsc c2 ⊢
  rcases hsc with e | e | ⟨hk,_,e⟩ | ⟨p,ls,e⟩
  ·rw [e];exact c2
  ·rw [e];exact c2
  ·rw [e];exact Int.le_refl _
  ·rw [e];exact c2
/-- the same is seen of both -/
def zkO (m m':Mc.Ms):Prop:=m.lanes=m'.lanes/\m.line=m'.line/\m.heat=m'.heat/\m.bar=m'.bar/\m.texts=m'.texts
theorem zkp {c:Mc.Cf} {al:List Mc.Mx} {m:Mc.Ms} (G:zib c.keys.cps.toList) (K:Kp47 c al m) (hs:Mc.still c m=false) (s:zkO (Mc.tick c m) m):m.heat ≠ []:=fun hh=>by
 have O:=K.ok
 obtain ⟨f1,f2,f3,f4,f5,_,_⟩:=Mc.zck c m
 have hc:Mc.cool (Mc.fall c m)=Mc.fall c m:=by
  unfold Mc.cool
  rw [if_pos (by rw [f3,hh];rfl)]
 obtain ⟨_,s2,s3,s4,_⟩:=s
 have s2:(Mc.strike c (Mc.cool (Mc.fall c m))).line=m.line:=s2
 have s3:(Mc.strike c (Mc.cool (Mc.fall c m))).heat=m.heat:=s3
 have s4:(Mc.strike c (Mc.cool (Mc.fall c m))).bar=m.bar:=s4
 rw [hc] at s2 s3 s4
 rw [(Mc.zcY c _).1,Mc.zgo O] at s4
 have hb:m.bar=[]:=by
  have h1:=congrArg List.length s4
  rw [List.length_tail] at h1
  cases e:m.bar with
  | nil=>rfl
  | cons x r =>
    rw [e,List.length_cons] at h1
    omega
 have hf:Mc.fall c m=m:=by
  unfold Mc.fall
  rw [hb]
 rw [hf] at s2 s3
 have hst:Mc.zaT c m=false/\Mc.zeA c m=false:=by
  unfold Mc.still at hs
  rw [Bool.or_eq_false_iff] at hs
  exact hs
 have h2:Mc.zaH c m=false:=by
  have h:=hst.2
  unfold Mc.zeA at h
  rw [hh,hb] at h
  cases e:Mc.zaH c m with
  | false=>rfl
  | true=>rw [e] at h;cases h
 cases hk:Mc.key c m with
 | none =>
   have h:=hst.1
   have e1:c.keys.cps.toList.length<=m.at_:=List.getElem?_eq_none_iff.mp hk
   have e2:=O.en (Nat.le_antisymm O.le e1)
   unfold Mc.zaT at h
   rw [hk,e2,hh,hb] at h
   cases h
 | some k =>
   by_cases h47:k=47
   ·rw [h47] at hk
    have hne:=line_ne G K.le hk
    have e:Mc.strike c m={ m with heat:=m.line,togo:=c.cast,line:=[],at_:=m.at_+1 }:=by
     unfold Mc.strike
     rw [hk]
     show (if 47=47 then Mc.send c m else _)=_
     rw [if_pos rfl]
     unfold Mc.send
     rw [if_pos (by rw [hh];rfl)]
    rw [e,hh] at s3
    exact hne s3
   by_cases h32:k=32
   ·have e:Mc.strike c m=Mc.take m none:=by
     unfold Mc.strike
     rw [hk]
     show (if k=47 then _ else if k=32 then Mc.take m none else _)=_
     rw [if_neg h47,if_pos h32]
    rw [e] at s2
    have h:=congrArg List.length s2
    have h:(m.line++[none]).length=m.line.length:=h
    rw [List.length_append] at h
    have h:m.line.length+1=m.line.length:=h
    omega
   obtain ⟨j,hp,x,r,hl⟩:=Mc.zmy O hk h47 h32 h2
   have e:=Mc.zdK O hk hp h2
   rw [e] at s2
   unfold Mc.pick at s2
   rw [hl] at s2
   have h:=congrArg List.length s2
   have h:(m.line++[some x]).length=m.line.length:=h
   rw [List.length_append] at h
   have h:m.line.length+1=m.line.length:=h
   omega
theorem zrj {c:Mc.Cf} {m:Mc.Ms} (hh:m.heat ≠ []) (s:zkO (Mc.tick c m) m):(Mc.tick c m).togo=m.togo - 1:=by
 obtain ⟨f1,f2,f3,f4,f5,_,_⟩:=Mc.zck c m
 obtain ⟨_,_,_,_,s5⟩:=s
 have s5:(Mc.strike c (Mc.cool (Mc.fall c m))).texts=m.texts:=s5
 rw [(Mc.zcY c _).2] at s5
 show (Mc.strike c (Mc.cool (Mc.fall c m))).togo=m.togo - 1
 rcases Mc.zct (Mc.fall c m) with ⟨h1,_⟩ | ⟨_,_,h3,_⟩ | ⟨_,_,_,h4,h5⟩
 ·rw [f3] at h1
  exact absurd h1 hh
 ·rw [s5,f5] at h3
  omega
 ·rw [f4] at h5
  rw [f3] at h4
  rcases zet c (Mc.cool (Mc.fall c m)) with e | e | ⟨_,h6,_⟩ | ⟨p,ls,e⟩
  ·rw [e];exact h5
  ·rw [e];exact h5
  ·rw [h4] at h6
   exact absurd h6 hh
  ·rw [e];exact h5
/-- how often in a row nothing that is seen changed -/
def Alk (c:Mc.Cf) (m:Mc.Ms) (n:Int):Prop:=0<=n/\(m.heat ≠ []->m.togo+n<=c.cast)/\(m.heat=[]->n=0)
theorem Alk.zero {c:Mc.Cf} {al:List Mc.Mx} {m:Mc.Ms} (K:Kp47 c al m):Alk c m 0:=⟨Int.le_refl _,fun _=>by have:=K.tg;omega,fun _=>rfl⟩
theorem Alk.next {c:Mc.Cf} {al:List Mc.Mx} {m:Mc.Ms} {n:Int} (G:zib c.keys.cps.toList) (K:Kp47 c al m) (hs:Mc.still c m=false) (h:Alk c m n) (s:zkO (Mc.tick c m) m):Alk c (Mc.tick c m) (n+1):=by
 have hh:=zkp G K hs s
 have ht:=zrj hh s
 obtain ⟨h0,h1,_⟩:=h
 have h1:=h1 hh
 refine ⟨by omega,fun _=>by rw [ht];omega,fun z=>?_⟩
 rw [s.2.2.1] at z
 exact absurd z hh
theorem Alk.few {c:Mc.Cf} {m:Mc.Ms} {n:Int} (O:Mc.Ok c m) (hc:c.cast<=20) (h:Alk c m n):n<=19:=by
 obtain ⟨h0,h1,h2⟩:=h
 by_cases hh:m.heat=[]
 ·have:=h2 hh
  omega
 ·have:=h1 hh
  have:=O.tg hh
  omega
theorem zmo (ts:List Str):(ts.map fun t=>t.length+1).sum=(ts.map (·.length)).sum+ts.length:=by
 induction ts with
 | nil=>rfl
 | cons t r ih =>
   rw [List.map_cons,List.map_cons,List.sum_cons,List.sum_cons,List.length_cons,ih]
   omega
theorem zuP {c:Mc.Cf} {al:List Mc.Mx} {m:Mc.Ms} (K:Kp47 c al m) (hs:Mc.still c m=true):(m.texts.map (·.length)).sum+m.texts.length+m.line.length<=c.keys.length/\(Mc.zeA c m=true\/(m.texts.map (·.length)).sum+m.texts.length+m.line.length=c.keys.length):=by
 have O:=K.ok
 have hct:=K.ct
 have el:c.keys.cps.toList.length=c.keys.length:=Array.length_toList
 have hle:=O.le
 rw [zmo] at hct
 unfold Mc.still at hs
 rw [Bool.or_eq_true] at hs
 rcases hs with h | h
 ·unfold Mc.zaT at h
  simp only [Bool.and_eq_true,Option.isNone_iff_eq_none] at h
  obtain ⟨⟨⟨h1,h2⟩,h3⟩,_⟩:=h
  rw [if_pos h3] at hct
  have e1:c.keys.cps.toList.length<=m.at_:=List.getElem?_eq_none_iff.mp h1
  exact ⟨by omega,.inr (by omega)⟩
 ·have h':=h
  unfold Mc.zeA at h'
  simp only [Bool.and_eq_true] at h'
  rw [if_pos h'.1.2] at hct
  exact ⟨by omega,.inl h⟩
theorem zqZ {b:Bool} {A G:Prop} (hA:b=true->G->A) (g:G):if b=true then A else G:=by
 cases b with
 | true=>exact hA rfl g
 | false=>exact g
def twoD (b:Int × Int):PyData:=.tuple [.int b.1,.int b.2]
theorem ziR {K:PySem.W.Frag} {H:Hp}:∀ {xs:List V} {bs:List (Int × Int)},Paired (Two H) xs bs->DenL K H xs (bs.map twoD)
 | _,_,.nil=>.nil
 | _,_,.cons ⟨a,e,z⟩ r=>by subst e;exact .cons (.tup (SqT.of z) (.cons (.int _) (.cons (.int _) .nil))) (ziR r)
theorem zlP (bs:List (Int × Int)) (e:PyData):min (PyData.list (bs.map twoD)).depth e.depth<=64:=by
 have q2:(PyData.list (bs.map twoD)).depth=PyData.depthAll (bs.map twoD)+1:=rfl
 have h2:=Mc.zbJ twoD 1 (fun _=>Nat.le_refl _) bs
 omega
theorem zmm (ms:List Mc.Mx) (e:PyData):min (Mc.zfa ms).depth e.depth<=64:=by
 have:=Mc.zfT ms
 omega
/-- what stays while the machine made since H0 goes on,with the row of all its matrices at pe -/
structure Kq47 (C:Addr) (ns:List Str) (c:Mc.Cf) (H0 H:Hp) (p pe:Addr) (A:Mc.Adr) (m:Mc.Ms) (dv:List V) (dm:List Mc.Mx):Prop where
 mac:Mc.Mac C ns c H p A m
 sm:Same H0 H
 new:∀ b ∈ A.all,H0 b=none
 hd:H pe=some (.lst dv)
 nd:pe ∉ A.all
 pd:Paired (Lan.zbd H) dv dm
theorem Kq47.same {C:Addr} {ns:List Str} {c:Mc.Cf} {H0 H H':Hp} {p pe:Addr} {A:Mc.Adr} {m:Mc.Ms} {dv:List V} {dm:List Mc.Mx} (h:Kq47 C ns c H0 H p pe A m dv dm) (s:Same H H'):Kq47 C ns c H0 H' p pe A m dv dm :=
 ⟨h.mac.same s,h.sm.trans s,h.new,s _ _ h.hd,h.nd,Lan.zaG h.pd s⟩
theorem Kq47.step {C:Addr} {ns:List Str} {c:Mc.Cf} {H0 H H':Hp} {p pe:Addr} {A A':Mc.Adr} {m m':Mc.Ms} {dv:List V} {dm:List Mc.Mx} (h:Kq47 C ns c H0 H p pe A m dv dm) (hp:H0 p=none) (s:Mc.Step p A H A' H') (M:Mc.Mac C ns c H' p A' m'):Kq47 C ns c H0 H' p pe A' m' dv dm:=by
 obtain ⟨s1,s2⟩:=s.same h.sm hp h.new
 obtain ⟨d1,d2⟩:=s.list h.mac h.hd h.nd
 exact ⟨M,s1,s2,d1,d2,Mc.zbN (S:=fun b=>b ≠ p/\b ∉ A.all) (fun b o hb hs=>s.fr b o hb hs) h.pd⟩
theorem zou {c:Mc.Cf} {m:Mc.Ms} (O:Mc.Ok c m):∀ x ∈ Mc.allM m,PyData.canLay0 (.str x.1)=true:=fun x hx=>by
 unfold Mc.allM at hx
 rcases List.mem_append.mp hx with h | h
 ·obtain ⟨l,hl,hx⟩:=List.mem_flatten.mp h
  exact (O.lm l hl x hx).1
 rcases List.mem_append.mp h with h | h
 ·obtain ⟨y,hy,e⟩:=List.mem_filterMap.mp h
  have e:y=some x:=e
  rw [e] at hy
  exact (O.im x hy).1
 rcases List.mem_append.mp h with h | h
 ·obtain ⟨y,hy,e⟩:=List.mem_filterMap.mp h
  have e:y=some x:=e
  rw [e] at hy
  exact (O.hm x hy).1
 ·exact (O.bm x h).1
theorem ziK:∀ l:List Str,(Txt.join "" l).length=(l.map (·.length)).sum
 | []=>by decide
 | x :: l=>by rw [Mc.zee,Str.length_append,ziK l,List.map_cons,List.sum_cons]
def sp_law (K:PySem.W.Frag):Sp:=fun vs H Q _=>∃ (l:Addr) (ns:List Int),vs=[.ref l]/\SqL K H l (ns.map V.int)/\ns.length<=63/\∀ H',Q (.bl true) H'
theorem ok_law (T:Tx K mg a):FnOk P w K mg base CX0 lawLevel a.f_law a.d_law ["_law_script"] (sp_law K):=by
 have G_law_case:=ziC (P:=P) (w:=w) (base:=base) T
 have G_law_cell_at:=zdy (P:=P) (w:=w) (base:=base) T
 have G_law_lines:=zgN (P:=P) (w:=w) (base:=base) T
 have G_law_keys:=ziG (P:=P) (w:=w) (base:=base) T
 have G_law_broken:=zgb (P:=P) (w:=w) (base:=base) T
 have G_law_all:=zjv (P:=P) (w:=w) (base:=base) T
 have G_law_seen:=ziq (P:=P) (w:=w) (base:=base) T
 have G_law_own:=zkh (P:=P) (w:=w) (base:=base) T
 have G_Machine_init:=zeX (P:=P) (w:=w) (base:=base) T
 have G_Machine_tick:=zfm (P:=P) (w:=w) (base:=base) T
 have G_Machine_slugs:=zcL (P:=P) (w:=w) (base:=base) T
 have G_Machine_gathered:=zbj (P:=P) (w:=w) (base:=base) T
 have G_Machine_stuck:=zcK (P:=P) (w:=w) (base:=base) T
 refine T.law.fn.ok zpN (fun vs H Q E h=>?_) (fun cdv A outer s H vs Q E hr h=>?_)
 ·obtain ⟨l,ns,rfl,_⟩:=h
  rfl
 obtain ⟨l,ns,rfl,hS,hl,q⟩:=h
 refine ⟨_,(zac (zay (i:=1) zpN.nd rfl (Or.inl rfl) (zbe T.law_case G_law_case hr rfl (zaa (pv 0) (zaa zag zad))))
  (zac (zay (i:=2) zpN.nd rfl (Or.inl rfl) (zbe T.law_keys G_law_keys hr rfl (zaa (zbe T.law_lines G_law_lines hr rfl (zaa (zmq (zms K rfl) (pv 0) (zlM zag) (zlM (zbv (zaM K rfl) (zaD (zaa zag (zaa zag zad))) (zbO zhh rfl T.b_int znd (zaa (zaL zhK (zaY (zdj K rfl) rfl T.b_len zcZ (zaa (pv 1) zad)) zag (zas _)) zad)) (fun _ _=>rfl)))) (zaa (pv 1) zad))) zad)))
  (zac (zay (i:=3) zpN.nd rfl (Or.inl rfl) (zbe T.law_broken G_law_broken hr rfl (zaa (pv 1) (zaa (zbe T.law_cell_at G_law_cell_at hr rfl (zaa (pv 0) (zaa zag zad))) zad))))
  (zac (zay (i:=4) zpN.nd rfl (Or.inl rfl) (zrs T.Machine T.kw_Machine G_Machine_init hr rfl (zaa (pv 1) (zaa (pv 2) (zaa (zap zaP zag (zap zbA (zap zcm (zbe T.law_cell_at G_law_cell_at hr rfl (zaa (pv 0) (zaa zag zad))) zag) zag)) zad))) (pv 3)))
  (zac (zay (i:=5) zpN.nd rfl (Or.inl rfl) (zbe T.law_all G_law_all hr rfl (zaa (pv 4) zad)))
  (zac (zay (i:=6) zpN.nd rfl (Or.inl rfl) (zbe T.law_seen G_law_seen hr rfl (zaa (pv 4) zad)))
  (zac (zay (i:=7) zpN.nd rfl (Or.inl rfl) zag)
  (zac (zgm PassesOwn.never (zdz (zaK (K:=K) rfl T.Machine.cl T.Machine_tick G_Machine_tick hr zfb (pv 4))) (zac (zay (i:=8) zpN.nd rfl (Or.inl rfl) (zaL (kneD K rfl hr.units) (zbv (zaM K rfl) (pv 6) zag (fun _ _=>rfl)) (zaD zad) (zas _)))
  (zac (zay (i:=7) zpN.nd rfl (Or.inl rfl) (zbv (zaM K rfl) (zaD (zaa zag (zaa (zap zaP (pv 7) zag) zad))) (zbO zhh rfl T.b_int znd (zaa (zaL (keqD K rfl hr.units) (zbe T.law_seen G_law_seen hr rfl (zaa (pv 4) zad)) (pv 6) (zas _)) zad)) (fun _ _=>rfl)))
  (zac (zcb (PW.pt (zml (PW.pt (zjs (zaA zhK (pv 7) zag (zas _)) (zgg (zgO (zdz (pv 8)))))) (zml (zaA zhK (pv 7) zag (zas _)) (zkD (zaA (kneD K rfl hr.units) (zbe T.law_all G_law_all hr rfl (zaa (pv 4) zad)) (pv 5) (zas _)))))) (zaf (zav ziy)) zaI)
  (zac (zcb (PW.pt (zjs (zaA (keqD K rfl hr.units) (pv 3) (zaD zad) (zas _)) (zgg (zgO (zdz (zbe T.law_own G_law_own hr rfl (zaa (pv 4) (zaa (pv 1) zad)))))))) (zaf (zav ziy)) zaI)
  (zaf (zay (i:=6) zpN.nd rfl (Or.inl rfl) (zbe T.law_seen G_law_seen hr rfl (zaa (pv 4) zad)))))))))
  (zac (zay (i:=9) zpN.nd rfl (Or.inl rfl) (zap zaP (zap zaP (zaY zbL rfl T.b_len zcZ (zaa (zbD K rfl PySem.F.plainAttrs_str PySem.F.slot_str_join PySem.F.type_str_join (zeF K rfl) zcN (zaa (zaK (K:=K) rfl T.Machine.cl T.Machine_slugs G_Machine_slugs hr zbT (pv 4)) zad)) zad)) (zaY (zdj K rfl) rfl T.b_len zcZ (zaa (zaK (K:=K) rfl T.Machine.cl T.Machine_slugs G_Machine_slugs hr zbT (pv 4)) zad))) (zaY (zdj K rfl) rfl T.b_len zcZ (zaa (zaK (K:=K) rfl T.Machine.cl T.Machine_gathered G_Machine_gathered hr zbo (pv 4)) zad))))
  (zaf (zav (zdb (zaL zor (pv 9) (zaY zbL rfl T.b_len zcZ (zaa (pv 2) zad)) (zas _)) (zew (zul (zaK (K:=K) rfl T.Machine.cl T.Machine_stuck G_Machine_stuck hr zcM (pv 4)) (zew (zaL zgw (pv 9) (zaY zbL rfl T.b_len zcZ (zaa (pv 2) zad)) (zas _))))))))))))))))),?_⟩
 walk_at "rd"
 refine ⟨l,ns,6,rfl,hS,by decide,by decide,fun pc xs rs H1 hpc0 hs1 hpc hpd R=>?_⟩
 have hl1:=R.l1
 have hl2:=R.l2
 have hxl:=Cs.zbH hpd
 have RR:Mc.Rows rs:=⟨by omega,R.sg,R.th,fun r hr=>⟨(R.mn r hr).1,by have:=(R.mn r hr).2;omega⟩⟩
 walk_at "rd"
 refine fun pk hpk=>?_
 have hs2:=zae hpk (.lst [.int 42,.int 18])
 have h2k:upd H1 pk (.lst [.int 42,.int 18]) pk=some (.lst [.int 42,.int 18]):=upd_same
 generalize upd H1 pk (.lst [.int 42,.int 18])=H2 at hs2 h2k ⊢
 have hpc2:=hs2 _ _ hpc
 walk_at "rd"
 refine ⟨pc,xs,rfl,.inl (SqL.of hpc2),?_⟩
 walk_at "rd"
 refine .inr ⟨_,rfl,?_⟩
 obtain ⟨z,ez⟩:∃ z:Int,atI [V.int 42,V.int 18] (if decide ((6:Int) < (xs.length:Int))=true then 1 else 0)=some (.int z):=by
  split
  ·exact ⟨18,rfl⟩
  ·exact ⟨42,rfl⟩
 refine ⟨pk,_,_,_,rfl,rfl,SqL.of h2k,ez,?_⟩
 refine ⟨z,rfl,?_⟩
 refine ⟨l,_,rfl,(hs1.trans hs2).seq hS,fun ps hps=>?_⟩
 obtain ⟨ms,ecut,hml⟩:=Cs.zok ns (some 2) (some z)
 rw [ecut]
 have hs3:=zae hps (.lst (ms.map V.int))
 have h3s:upd H2 ps (.lst (ms.map V.int)) ps=some (.lst (ms.map V.int)):=upd_same
 generalize upd H2 ps (.lst (ms.map V.int))=H3 at hs3 h3s ⊢
 have hs13:=hs2.trans hs3
 walk_at "rd"
 refine ⟨ps,pc,ms,xs,rs,rfl,SqL.of h3s,by omega,hs13 _ _ hpc,Cs.zaC hpd hs13,(fun e=>by rw [e] at hl1;exact absurd hl1 (by decide)),by omega,R.sg,fun lr zs ls H4 hlr hs4 hlr4 hzl L=>?_⟩
 walk_at "rd"
 refine ⟨lr,lr,zs,ls,rfl,SqL.of hlr4,hzl,L.fit,fun H5 hs5=>?_⟩
 have hs15:=hs13.trans (hs4.trans hs5)
 have hs05:=hs1.trans hs15
 have hok:Lns.zaU rs false (Lns.keyT ls).cps.toList=true:=Lns.zik L.ok
 have hrn:∀ r ∈ rs,0<=r.n/\r.n<=1000:=fun r hr=>⟨(R.mn r hr).1,by have:=(R.mn r hr).2;omega⟩
 generalize hK0:Lns.keyT ls=keys at hok ⊢
 have hpc5:=hs15 _ _ hpc
 have hpd5:=Cs.zaC hpd hs15
 have hS5:=hs05.seq hS
 have OC:∀ z:Int,1<=z->Mc.OkC ⟨rs,keys,z⟩:=fun z hz=>by rw [<- hK0];exact RR.okC L.short L.ok hz
 have G1:zib keys.cps.toList:=zmN hok
 have hkl:keys.length<=90000:=by rw [<- hK0];exact L.short
 walk_at "rd"
 refine ⟨l,1,ns,rfl,hS5,?_⟩
 obtain ⟨ca,hca⟩:∃ ca,ca=ns.getD 1 0:=⟨_,rfl⟩
 rw [<- hca]
 have hz0:1<=1+ca / 2 % 20:=by omega
 have hz1:1+ca / 2 % 20<=20:=by omega
 walk_at "rd"
 refine ⟨pc,xs,rs,_,rfl,hpc5,hpd5,RR,fun pb bv bs lt H6 hpb0 hs6 hpb hbd hbl hbb htd=>?_⟩
 have hpc6:=hs6 _ _ hpc5
 have hpd6:=Cs.zaC hpd5 hs6
 clear hs2 h2k hpc2 ez hps ecut h3s hs13 hlr hlr4 hzl hs15 hs4 hs5 hs3
 walk_at "rd"
 refine ⟨l,1,ns,rfl,hs6.seq hS5,?_⟩
 rw [<- hca]
 clear hca
 walk_at "rd"
 refine fun p0 dx0 hp0 hdx0 hne0=>?_
 have hsm:Same H6 (upd (upd H6 dx0 (HO.own p0)) p0 (HO.ins a.c_Machine dx0 [])):=fun b u hb=>by rw [zai (zar hb hp0),zai (zar hb hdx0)];exact hb
 refine ⟨p0,pc,pb,dx0,⟨rs,keys,1+ca / 2 % 20⟩,xs,bv,bs,lt,rfl,upd_same,hsm _ _ hpc6,Cs.zaC hpd6 hsm,OC _ hz0,hok,hrn,hsm _ _ hpb,zdW hbd hsm,by omega,htd,fun A0 H7 M0 off0 fr0=>⟨rfl,?_⟩⟩
 have hs7:=Mc.zlv hp0 hdx0 off0
 have fr0':∀ b ∈ A0.all,H6 b=none:=fun b hb=>Mc.zmE hp0 hdx0 (fr0 b hb)
 have LO:LOk rs lt:=by
  cases htd with
  | good haf=>exact zky RR hbb _ _ _ haf
 obtain ⟨c,hc⟩:∃ c:Mc.Cf,c=⟨rs,keys,1+ca / 2 % 20⟩:=⟨_,rfl⟩
 have hcr:c.rs=rs:=by rw [hc]
 have hck:c.keys=keys:=by rw [hc]
 have hcc:c.cast<=20:=by rw [hc];exact hz1
 have hc0:0<=c.cast:=by rw [hc];show 0<=1+ca / 2 % 20;omega
 have O0:Mc.Ok c (startB lt):=by rw [hc];exact LOk.ok RR LO rfl (OC _ hz0)
 have M0:MA a c H7 p0 A0 (startB lt):=by rw [<- hc] at M0;exact M0
 have RT:Mc.Rt c:=by rw [hc];exact Mc.zug R.th R.nd R.rt R.pl R.sg hok
 have hgd:bs=[]->Mc.Gd c (startB lt):=fun e=>by
  rw [e] at htd
  cases htd with
  | good haf =>
    have haf:after rs [] 0=some (lt,_):=haf
    rw [zcw] at haf
    cases haf
    have g:=Mc.Gd.start (c:=c) fun r hr=>by rw [hcr] at hr;exact (R.mn r hr).1
    rw [hcr] at g
    exact g
 obtain ⟨al,hal0⟩:∃ al,al=Mc.allM (startB lt):=⟨_,rfl⟩
 have hal1:∀ x ∈ al,x.1.length=1:=fun x hx=>by
  rw [hal0] at hx
  have e:Mc.allM (startB lt)=lt.flatten:=by
   show lt.flatten++([]++([]++[]))=_
   rw [List.append_nil,List.append_nil,List.append_nil]
  rw [e] at hx
  obtain ⟨l1,hl1',hx⟩:=List.mem_flatten.mp hx
  obtain ⟨j,hj,e⟩:=List.getElem_of_mem hl1'
  have hr:rs[j]?=some (rs[j]'(by rw [<- LO.ln];exact hj)):=List.getElem?_eq_getElem _
  obtain ⟨_,g2⟩:=LO.one j l1 _ (by rw [List.getElem?_eq_getElem hj];exact congrArg some e) hr
  obtain ⟨d,_,e2⟩:=R.sg _ (List.mem_of_getElem? hr)
  rw [(g2 x hx).1,e2]
  rfl
 have hall:al.length<=2000:=by
  have h1:=O0.sz
  have e:al=lt.flatten:=by
   rw [hal0]
   show lt.flatten++([]++([]++[]))=_
   rw [List.append_nil,List.append_nil,List.append_nil]
  have h1:(lt.map List.length).sum+0+0+0<=2000+0:=h1
  rw [e,List.length_flatten]
  omega
 have KP0:Kp47 c al (startB lt):=⟨O0,by rw [hal0],fun _=>.inl rfl,rfl,hc0⟩
 have G1c:zib c.keys.cps.toList:=by rw [hck];exact G1
 have hkc:c.keys.length=keys.length:=by rw [hck]
 clear off0 fr0 OC LO htd hsm hc
 generalize startB lt=m0 at M0 O0 hgd KP0 hal0 ⊢
 have I0:=M0.ins
 walk_at "rd"
 refine ⟨p0,A0,c,m0,rfl,M0,O0,by rw [<- hal0];omega,fun pe dv dm H8 hpe hs8 hpe8 hpd8 hpm hpw=>?_⟩
 have M8:=M0.same hs8
 have nde:pe ∉ A0.all:=M0.new hpe
 rw [<- hal0] at hpm
 walk_at "rd"
 refine ⟨p0,A0,c,m0,rfl,M8,O0,fun r0 H9 hr0 hs9 S9=>?_⟩
 have K0:Kq47 a.c_Machine zcx c H6 H9 p0 pe A0 m0 dv dm:=⟨M8.same hs9,hs7.trans (hs8.trans hs9),fr0',hs9 _ _ hpe8,nde,Lan.zaG hpd8 hs9⟩
 have hdlay:∀ x ∈ dm,PyData.canLay0 (.str x.1)=true:=fun x hx=>zou O0 x (by rw [<- hal0];exact hpm.mem_iff.mp hx)
 walk_at "rd"
 refine ⟨fun n σ H11=>∃ (A1:Mc.Adr) (m1:Mc.Ms) (r1:Addr) (HS:Hp) (k:Int) (v8:Option V),σ=[some (.ref l),some (.ref pc),some (.str keys),some (.ref pb),some (.ref p0),some (.ref pe),some (.ref r1),some (.int k),v8,none]/\Kq47 a.c_Machine zcx c H6 H11 p0 pe A1 m1 dv dm/\Kp47 c al m1/\Alk c m1 k/\(bs=[]->Mc.Gd c m1)/\MA a c HS p0 A1 m1/\SeAt HS H11 r1 m1/\Mc.work c m1=n,
  ⟨_,A0,m0,r0,H8,0,none,rfl,K0,KP0,Alk.zero KP0,hgd,M8,S9,rfl⟩,?_⟩
 clear K0 KP0 M8 S9 hs8 hs9 M0 I0 hpe8 hpd8 O0 hgd
 rintro n σ H11 ⟨A1,m1,r1,HS,k,v8,rfl,K1,KP,AL,GD,MS,S1,rfl⟩
 have I1:=K1.mac.ins
 walk_at "rd"
 refine ⟨p0,A1,c,m1,rfl,K1.mac,KP.ok,fun hst H12 hs12=>?_,fun hst A2 H12 M2 st2=>?_⟩
 ·refine ⟨_,rfl,?_⟩
  refine iteF ?_
  have K2:=K1.same hs12
  have I2:=K2.mac.ins
  obtain ⟨e1,e2⟩:=zuP KP hst
  rw [hkc] at e1 e2
  have ej:=ziK m1.texts
  walk_at "rd"
  refine ⟨p0,A1,c,m1,rfl,K2.mac,KP.ok,fun t1 H13 ht1 hs13 ht13=>?_⟩
  have K3:=K2.same hs13
  have I3:=K3.mac.ins
  walk_at "rd"
  refine ⟨_,t1,m1.texts,rfl,rfl,SqL.of ht13,by show _+_ * 0<=_;omega,?_⟩
  walk_at "rd"
  refine ⟨zbK (by rw [ej];omega),?_⟩
  rw [ej]
  walk_at "rd"
  refine ⟨p0,A1,c,m1,rfl,K3.mac,KP.ok,fun t2 H14 ht2 hs14 ht14=>?_⟩
  have K4:=K3.same hs14
  have I4:=K4.mac.ins
  walk_at "rd"
  refine ⟨t2,_,rfl,.inl (SqL.of ht14),?_⟩
  rw [List.length_map]
  walk_at "rd"
  refine ⟨p0,A1,c,m1,rfl,K4.mac,KP.ok,fun t3 H15 ht3 hs15 hL=>?_⟩
  have K5:=K4.same hs15
  have I5:=K5.mac.ins
  obtain ⟨x1,a1,b1⟩:=hL
  have hx1:=Paired.length b1
  walk_at "rd"
  refine ⟨t3,_,rfl,.inl (SqL.of a1),?_⟩
  rw [hx1]
  walk_at "rd"
  refine ⟨zbK (by omega),?_⟩
  refine ⟨_,_,rfl,rfl,?_⟩
  refine ⟨true,congrArg V.bl (decide_eq_true (by omega)),iteT ?_⟩
  walk_at "rd"
  refine ⟨p0,A1,c,m1,rfl,K5.mac,KP.ok,fun H16 hs16=>?_⟩
  cases est:Mc.zeA c m1 with
  | true =>
    refine ⟨true,congrArg V.bl est,iteT ?_⟩
    exact q _
  | false =>
    rw [est] at e2
    have e2:=e2.resolve_left (by decide)
    refine ⟨false,congrArg V.bl est,iteF ?_⟩
    walk_at "rd"
    refine ⟨zbK (by omega),?_⟩
    have e3:V.int ((((m1.texts.map (·.length)).sum:Nat):Int)+(m1.texts.length:Int)+(m1.line.length:Int))=V.int (keys.length:Int):=congrArg V.int (by omega)
    refine ⟨rfl,?_⟩
    exact (congrArg (fun b=>Q (V.bl b) H16) (decide_eq_true e3)).mpr (q H16)
 ·refine ⟨_,rfl,?_⟩
  refine iteT ?_
  have K2:=K1.step hp0 st2 M2
  have S2:=S1.keep (st2.kept MS)
  have KP2:=KP.tick G1c hal1
  have hwk:=Mc.zeb KP.ok hst
  have GD2:bs=[]->Mc.Gd c (Mc.tick c m1):=fun e=>(GD e).tick RT KP.ok
  have AL2:∀ k',(k'=0\/(k'=k+1/\zkO (Mc.tick c m1) m1))->Alk c (Mc.tick c m1) k'/\(0 < k'->m1.heat ≠ []):=fun k' h=>by
   rcases h with rfl | ⟨rfl,h⟩
   ·exact ⟨Alk.zero KP2,fun z=>absurd z (by decide)⟩
   ·exact ⟨AL.next G1c KP hst h,fun _=>zkp G1c KP hst h⟩
  generalize Mc.tick c m1=m2 at M2 K2 KP2 hwk GD2 AL2
  refine ⟨fun σ' H'=>∃ (r1:Addr) (HS:Hp) (k:Int) (v8:Option V),σ'=[some (.ref l),some (.ref pc),some (.str keys),some (.ref pb),some (.ref p0),some (.ref pe),some (.ref r1),some (.int k),v8,none]/\Kq47 a.c_Machine zcx c H6 H' p0 pe A2 m2 dv dm/\Alk c m2 k/\MA a c HS p0 A2 m2/\SeAt HS H' r1 m2,?_,?_⟩
  ·rintro σ' H' ⟨r2,HS2,k2,w8,rfl,K3,AL3,MS3,S3⟩
   exact ⟨_,hwk,A2,m2,r2,HS2,k2,w8,rfl,K3,KP2,AL3,GD2,MS3,S3,rfl⟩
  obtain ⟨d0,d1,d2,d3,d4,es,nr,n0,n1,n2,n3,n4,Q0,Q1,Q2,Q3,Q4⟩:=S2
  have at2:∀ _:Unit,atI [V.ref d0,V.ref d1,V.ref d2,V.ref d3,V.ref d4] 2=some (.ref d2):=fun _=>rfl
  walk_at "rd"
  refine ⟨r1,_,_,_,rfl,rfl,SqL.of es,at2 (),?_⟩
  walk_at "rd"
  intro e1 he1
  have hs13:=zae he1 (.lst [])
  have h13e:upd H12 e1 (.lst []) e1=some (.lst []):=upd_same
  generalize upd H12 e1 (.lst [])=H13 at hs13 h13e ⊢
  have S3:SeAt HS H13 r1 m1:=SeAt.same ⟨d0,d1,d2,d3,d4,es,nr,n0,n1,n2,n3,n4,Q0,Q1,Q2,Q3,Q4⟩ hs13
  have DH:Den K H13 (.ref d2) (.list (m1.heat.map Mc.zbu)):=(Q2.keep (Mc.Keep.of_same (S:=fun _=>True) hs13) trivial).den KP.ok.hlay
  refine ⟨_,_,DH,.lst (SqL.of h13e) .nil,by show min _ 1<=64;omega,?_⟩
  rw [Mc.zbS,if_pos rfl]
  have hie:m1.heat ≠ []->(!m1.heat.isEmpty)=true:=fun h=>by
   cases e:m1.heat with
   | nil=>exact absurd e h
   | cons x r=>rfl
  generalize (!m1.heat.isEmpty)=ib at hie ⊢
  have K3:=K2.same hs13
  have I3:=K3.mac.ins
  clear es nr n0 n1 n2 n3 n4 Q0 Q1 Q2 Q3 Q4 DH at2 h13e
  walk_at "rd"
  intro pk2 hpk2
  have hs14:=zae hpk2 (.lst [.int 0,.int (k+1)])
  have h14k:upd H13 pk2 (.lst [.int 0,.int (k+1)]) pk2=some (.lst [.int 0,.int (k+1)]):=upd_same
  show (fun x H1=>tCB _ _ _ H1 _) (V.ref pk2) (upd H13 pk2 (HO.lst [V.int 0,V.int (k+1)]))
  generalize upd H13 pk2 (HO.lst [V.int 0,V.int (k+1)])=H14 at hs14 h14k ⊢
  have K4:=K3.same hs14
  have S4:=S3.same hs14
  walk_at "rd"
  refine ⟨p0,A2,c,m2,rfl,K4.mac,KP2.ok,fun r2 H15 hr2 hs15 S5=>?_⟩
  have D5:=SeAt.den (K:=K) S5 KP2.ok
  have D1:=SeAt.den (K:=K) (S4.same hs15) KP.ok
  walk_at "rd"
  refine ⟨_,_,D5,D1,zjH m2 _,?_⟩
  rw [if_neg (by decide)]
  refine .inr ⟨_,rfl,?_⟩
  obtain ⟨k',ek,hk'⟩:∃ k',atI [V.int 0,V.int (k+1)] (if PyData.eqv (zfs m2) (zfs m1)=true then 1 else 0)=some (.int k')/\(k'=0\/(k'=k+1/\zkO m2 m1)):=by
   by_cases h:PyData.eqv (zfs m2) (zfs m1)=true
   ·rw [if_pos h]
    exact ⟨k+1,rfl,.inr ⟨rfl,znB h⟩⟩
   ·rw [if_neg h]
    exact ⟨0,rfl,.inl rfl⟩
  obtain ⟨AL3,hin⟩:=AL2 k' hk'
  have hk0:=AL3.1
  have hk19:=AL3.few KP2.ok hcc
  refine ⟨pk2,_,_,_,rfl,rfl,SqL.of (hs15 _ _ h14k),ek,?_⟩
  have K5:=K4.same hs15
  clear ek D5 D1 S4 S3 S5 h14k hk' AL2 AL
  walk_at "rd"
  refine zqZ (b:=decide (0 < k')) (fun h g=>?_) ?_
  ·have hh:=hie (hin (of_decide_eq_true h))
   subst hh
   refine ⟨_,rfl,?_⟩
   refine ⟨_,rfl,?_⟩
   exact g
  refine iteF ?_
  walk_at "rd"
  rw [show decide ((19:Int) < k')=false from decide_eq_false (by omega)]
  refine iteF ?_
  walk_at "rd"
  have hpl:(Mc.allM m2).length=al.length:=KP2.pm.length_eq
  refine ⟨p0,A2,c,m2,rfl,K5.mac,KP2.ok,by omega,fun pe2 dv2 dm2 H16 hpe2 hs16 hh16 hpd16 hpm2 hpw2=>?_⟩
  have K6:=K5.same hs16
  have edm:dm2=dm:=ziF (hpm2.trans (KP2.pm.trans hpm.symm)) hpw2 hpw
  subst edm
  have DA:Den K H16 (.ref pe2) (Mc.zfa dm2):=Mc.LnAt.den ⟨dv2,hh16,hpd16⟩ hdlay
  have DB:Den K H16 (.ref pe) (Mc.zfa dm2):=Mc.LnAt.den ⟨dv,K6.hd,K6.pd⟩ hdlay
  walk_at "rd"
  refine ⟨_,_,DA,DB,zmm dm2 _,?_⟩
  rw [Mc.zmX DA,if_pos rfl]
  refine ⟨_,rfl,?_⟩
  refine iteF ?_
  clear DA DB hpd16 hpm2 hpw2 hh16
  walk_at "rd"
  intro e2 he2
  have hs17:=zae he2 (.lst [])
  have h17e:upd H16 e2 (.lst []) e2=some (.lst []):=upd_same
  generalize upd H16 e2 (.lst [])=H17 at hs17 h17e ⊢
  have K7:=K6.same hs17
  have hpb7:H17 pb=some (.lst bv):=K7.sm _ _ hpb
  have hbd7:Paired (Two H17) bv bs:=zdW hbd K7.sm
  refine ⟨_,_,.lst (SqL.of hpb7) (ziR hbd7),.lst (SqL.of h17e) .nil,zlP bs _,?_⟩
  rw [Mc.zbS,if_neg (by decide)]
  refine ⟨_,rfl,?_⟩
  refine ite2 (fun h=>?_) (fun h=>?_)
  ·have hb0:bs=[]:=List.isEmpty_iff.mp h
   walk_at "rd"
   refine ⟨p0,pc,A2,c,m2,xs,rfl,K7.mac,KP2.ok,GD2 hb0,K7.sm _ _ hpc6,by rw [hcr];exact Cs.zaC hpd6 K7.sm,fun H18 hs18=>?_⟩
   have K8:=K7.same hs18
   refine ⟨_,rfl,?_⟩
   refine iteF ?_
   walk_at "rd"
   refine ⟨p0,A2,c,m2,rfl,K8.mac,KP2.ok,fun r3 H19 hr3 hs19 S9=>?_⟩
   exact ⟨r3,_,k',_,rfl,K8.same hs19,AL3,K8.mac,S9⟩
  ·walk_at "rd"
   refine ⟨p0,A2,c,m2,rfl,K7.mac,KP2.ok,fun r3 H19 hr3 hs19 S9=>?_⟩
   exact ⟨r3,_,k',_,rfl,K7.same hs19,AL3,K7.mac,S9⟩
theorem ba1 {fd:FuncData} {ps:List Str} (h:∀ a:Value,bindArgs fd ⟨[a],[]⟩=pure (ps.zip [a])):∀ us:List Value,us.length=1->bindArgs fd ⟨us,[]⟩=pure (ps.zip us):=us1 (P:=fun us=>bindArgs fd ⟨us,[]⟩=pure (ps.zip us)) h
theorem ba2 {fd:FuncData} {ps:List Str} (h:∀ a b:Value,bindArgs fd ⟨[a,b],[]⟩=pure (ps.zip [a,b])):∀ us:List Value,us.length=2->bindArgs fd ⟨us,[]⟩=pure (ps.zip us):=us2 (P:=fun us=>bindArgs fd ⟨us,[]⟩=pure (ps.zip us)) h
theorem ba3 {fd:FuncData} {ps:List Str} (h:∀ a b c:Value,bindArgs fd ⟨[a,b,c],[]⟩=pure (ps.zip [a,b,c])):∀ us:List Value,us.length=3->bindArgs fd ⟨us,[]⟩=pure (ps.zip us):=us3 (P:=fun us=>bindArgs fd ⟨us,[]⟩=pure (ps.zip us)) h
theorem ba4 {fd:FuncData} {ps:List Str} (h:∀ a b c d:Value,bindArgs fd ⟨[a,b,c,d],[]⟩=pure (ps.zip [a,b,c,d])):∀ us:List Value,us.length=4->bindArgs fd ⟨us,[]⟩=pure (ps.zip us):=us4 (P:=fun us=>bindArgs fd ⟨us,[]⟩=pure (ps.zip us)) h
theorem ba5 {fd:FuncData} {ps:List Str} (h:∀ a b c d e:Value,bindArgs fd ⟨[a,b,c,d,e],[]⟩=pure (ps.zip [a,b,c,d,e])):∀ us:List Value,us.length=5->bindArgs fd ⟨us,[]⟩=pure (ps.zip us):=us5 (P:=fun us=>bindArgs fd ⟨us,[]⟩=pure (ps.zip us)) h
theorem bd4 {s:Shared} {fd:FuncData} {ps:List Str} {ds:List Value} (h:∀ a b c d:Value,BindsTo s fd ⟨[a,b,c,d],[]⟩ (ps.zip ([a,b,c,d]++ds))):∀ us:List Value,us.length=4->BindsTo s fd ⟨us,[]⟩ (ps.zip (us++ds)):=us4 (P:=fun us=>BindsTo s fd ⟨us,[]⟩ (ps.zip (us++ds))) h
theorem bd5 {s:Shared} {fd:FuncData} {ps:List Str} {ds:List Value} (h:∀ a b c d e:Value,BindsTo s fd ⟨[a,b,c,d,e],[]⟩ (ps.zip ([a,b,c,d,e]++ds))):∀ us:List Value,us.length=5->BindsTo s fd ⟨us,[]⟩ (ps.zip (us++ds)):=us5 (P:=fun us=>BindsTo s fd ⟨us,[]⟩ (ps.zip (us++ds))) h
theorem txt_mk {K:PySem.W.Frag} {h:Heap} {mg:Str->Option Value} (X:K.In h) (G:h.Ns mainGlobals mg)
 {f0:Addr} {od0 an0:Option Addr} {sl0:Array (Option Value)} {oc0 kV0 dc0 pm0 cd0 ct0:Value} {f1:Addr} {od1 an1:Option Addr} {sl1:Array (Option Value)} {oc1 kV1 dc1 pm1 cd1 ct1:Value} {f2:Addr} {od2 an2:Option Addr} {sl2:Array (Option Value)} {oc2 kV2 dc2 pm2 cd2 ct2:Value} {f3:Addr} {od3 an3:Option Addr} {sl3:Array (Option Value)} {oc3 kV3 dc3 pm3 cd3 ct3:Value} {f4:Addr} {od4 an4:Option Addr} {sl4:Array (Option Value)} {oc4 kV4 dc4 pm4 cd4 ct4:Value} {f5:Addr} {od5 an5:Option Addr} {sl5:Array (Option Value)} {oc5 kV5 dc5 pm5 cd5 ct5:Value} {f6:Addr} {od6 an6:Option Addr} {sl6:Array (Option Value)} {oc6 kV6 dc6 pm6 cd6 ct6:Value} {f7:Addr} {od7 an7:Option Addr} {sl7:Array (Option Value)} {oc7 kV7 dc7 pm7 cd7 ct7:Value} {f8:Addr} {od8 an8:Option Addr} {sl8:Array (Option Value)} {oc8 kV8 dc8 pm8 cd8 ct8:Value} {f9:Addr} {od9 an9:Option Addr} {sl9:Array (Option Value)} {oc9 kV9 dc9 pm9 cd9 ct9:Value} {f10:Addr} {od10 an10:Option Addr} {sl10:Array (Option Value)} {oc10 kV10 dc10 pm10 cd10 ct10:Value} {f11:Addr} {od11 an11:Option Addr} {sl11:Array (Option Value)} {oc11 kV11 dc11 pm11 cd11 ct11:Value} {f12:Addr} {od12 an12:Option Addr} {sl12:Array (Option Value)} {oc12 kV12 dc12 pm12 cd12 ct12:Value} {f13:Addr} {od13 an13:Option Addr} {sl13:Array (Option Value)} {oc13 kV13 dc13 pm13 cd13 ct13:Value} {f14:Addr} {od14 an14:Option Addr} {sl14:Array (Option Value)} {oc14 kV14 dc14 pm14 cd14 ct14:Value} {f15:Addr} {od15 an15:Option Addr} {sl15:Array (Option Value)} {oc15 kV15 dc15 pm15 cd15 ct15:Value} {f16:Addr} {od16 an16:Option Addr} {sl16:Array (Option Value)} {oc16 kV16 dc16 pm16 cd16 ct16:Value} {f17:Addr} {od17 an17:Option Addr} {sl17:Array (Option Value)} {oc17 kV17 dc17 pm17 cd17 ct17:Value} {f18:Addr} {od18 an18:Option Addr} {sl18:Array (Option Value)} {oc18 kV18 dc18 pm18 cd18 ct18:Value} {f19:Addr} {od19 an19:Option Addr} {sl19:Array (Option Value)} {oc19 kV19 dc19 pm19 cd19 ct19:Value} {f20:Addr} {od20 an20:Option Addr} {sl20:Array (Option Value)} {oc20 kV20 dc20 pm20 cd20 ct20:Value} {f21:Addr} {od21 an21:Option Addr} {sl21:Array (Option Value)} {oc21 kV21 dc21 pm21 cd21 ct21:Value}
 (a0:PySem.W.nsIn K mainGlobals "_wall"=some (some (.ref f0))) (l0:K.lookup f0=some ⟨oc0,od0,.func (PySem.W.fnOf "_wall" "_wall" (zaj s_wall) (zak s_wall) (zab s_wall) .none kV0 dc0 pm0 an0 cd0 ct0),sl0⟩) (c0:PySem.W.codeIn K cd0 "_wall"=true) (k0:PySem.W.keepIn K (.ref f0)=true)
 (a1:PySem.W.nsIn K mainGlobals "has_all"=some (some (.ref f1))) (l1:K.lookup f1=some ⟨oc1,od1,.func (PySem.W.fnOf "has_all" "has_all" (zaj s_has_all) (zak s_has_all) (zab s_has_all) .none kV1 dc1 pm1 an1 cd1 ct1),sl1⟩) (c1:PySem.W.codeIn K cd1 "has_all"=true) (k1:PySem.W.keepIn K (.ref f1)=true)
 (a2:PySem.W.nsIn K mainGlobals "falls_at"=some (some (.ref f2))) (l2:K.lookup f2=some ⟨oc2,od2,.func (PySem.W.fnOf "falls_at" "falls_at" (zaj s_falls_at) (zak s_falls_at) (zab s_falls_at) .none kV2 dc2 pm2 an2 cd2 ct2),sl2⟩) (c2:PySem.W.codeIn K cd2 "falls_at"=true) (k2:PySem.W.keepIn K (.ref f2)=true)
 (a3:PySem.W.nsIn K mainGlobals "channel_of"=some (some (.ref f3))) (l3:K.lookup f3=some ⟨oc3,od3,.func (PySem.W.fnOf "channel_of" "channel_of" (zaj s_channel_of) (zak s_channel_of) (zab s_channel_of) .none kV3 dc3 pm3 an3 cd3 ct3),sl3⟩) (c3:PySem.W.codeIn K cd3 "channel_of"=true) (k3:PySem.W.keepIn K (.ref f3)=true)
 (a4:PySem.W.nsIn K mainGlobals "codes_of"=some (some (.ref f4))) (l4:K.lookup f4=some ⟨oc4,od4,.func (PySem.W.fnOf "codes_of" "codes_of" (zaj s_codes_of_) (zak s_codes_of_) (zab s_codes_of_) .none kV4 dc4 pm4 an4 cd4 ct4),sl4⟩) (c4:PySem.W.codeIn K cd4 "codes_of"=true) (k4:PySem.W.keepIn K (.ref f4)=true)
 (a5:PySem.W.nsIn K mainGlobals "is_sign_key"=some (some (.ref f5))) (l5:K.lookup f5=some ⟨oc5,od5,.func (PySem.W.fnOf "is_sign_key" "is_sign_key" (zaj s_is_sign_key) (zak s_is_sign_key) (zab s_is_sign_key) .none kV5 dc5 pm5 an5 cd5 ct5),sl5⟩) (c5:PySem.W.codeIn K cd5 "is_sign_key"=true) (k5:PySem.W.keepIn K (.ref f5)=true)
 (a6:PySem.W.nsIn K mainGlobals "goes_on"=some (some (.ref f6))) (l6:K.lookup f6=some ⟨oc6,od6,.func (PySem.W.fnOf "goes_on" "goes_on" (zaj s_goes_on) (zak s_goes_on) (zab s_goes_on) .none kV6 dc6 pm6 an6 cd6 ct6),sl6⟩) (c6:PySem.W.codeIn K cd6 "goes_on"=true) (k6:PySem.W.keepIn K (.ref f6)=true)
 (a7:PySem.W.nsIn K mainGlobals "look_at_keys"=some (some (.ref f7))) (l7:K.lookup f7=some ⟨oc7,od7,.func (PySem.W.fnOf "look_at_keys" "look_at_keys" (zaj s_look_at_keys) (zak s_look_at_keys) (zab s_look_at_keys) .none kV7 dc7 pm7 an7 cd7 ct7),sl7⟩) (c7:PySem.W.codeIn K cd7 "look_at_keys"=true) (k7:PySem.W.keepIn K (.ref f7)=true)
 (a8:PySem.W.nsIn K mainGlobals "can_break"=some (some (.ref f8))) (l8:K.lookup f8=some ⟨oc8,od8,.func (PySem.W.fnOf "can_break" "can_break" (zaj s_can_break) (zak s_can_break) (zab s_can_break) .none kV8 dc8 pm8 an8 cd8 ct8),sl8⟩) (c8:PySem.W.codeIn K cd8 "can_break"=true) (k8:PySem.W.keepIn K (.ref f8)=true)
 (a9:PySem.W.nsIn K mainGlobals "channels_of"=some (some (.ref f9))) (l9:K.lookup f9=some ⟨oc9,od9,.func (PySem.W.fnOf "channels_of" "channels_of" (zaj s_channels_of) (zak s_channels_of) (zab s_channels_of) .none kV9 dc9 pm9 an9 cd9 ct9),sl9⟩) (c9:PySem.W.codeIn K cd9 "channels_of"=true) (k9:PySem.W.keepIn K (.ref f9)=true)
 (a10:PySem.W.nsIn K mainGlobals "_law_cell_at"=some (some (.ref f10))) (l10:K.lookup f10=some ⟨oc10,od10,.func (PySem.W.fnOf "_law_cell_at" "_law_cell_at" (zaj s_law_cell_at) (zak s_law_cell_at) (zab s_law_cell_at) .none kV10 dc10 pm10 an10 cd10 ct10),sl10⟩) (c10:PySem.W.codeIn K cd10 "_law_cell_at"=true) (k10:PySem.W.keepIn K (.ref f10)=true)
 (a11:PySem.W.nsIn K mainGlobals "_law_mixed"=some (some (.ref f11))) (l11:K.lookup f11=some ⟨oc11,od11,.func (PySem.W.fnOf "_law_mixed" "_law_mixed" (zaj s_law_mixed) (zak s_law_mixed) (zab s_law_mixed) .none kV11 dc11 pm11 an11 cd11 ct11),sl11⟩) (c11:PySem.W.codeIn K cd11 "_law_mixed"=true) (k11:PySem.W.keepIn K (.ref f11)=true)
 (a12:PySem.W.nsIn K mainGlobals "_law_bits"=some (some (.ref f12))) (l12:K.lookup f12=some ⟨oc12,od12,.func (PySem.W.fnOf "_law_bits" "_law_bits" (zaj s_law_bits) (zak s_law_bits) (zab s_law_bits) .none kV12 dc12 pm12 an12 cd12 ct12),sl12⟩) (c12:PySem.W.codeIn K cd12 "_law_bits"=true) (k12:PySem.W.keepIn K (.ref f12)=true)
 (a13:PySem.W.nsIn K mainGlobals "_law_teeth"=some (some (.ref f13))) (l13:K.lookup f13=some ⟨oc13,od13,.func (PySem.W.fnOf "_law_teeth" "_law_teeth" (zaj s_law_teeth) (zak s_law_teeth) (zab s_law_teeth) .none kV13 dc13 pm13 an13 cd13 ct13),sl13⟩) (c13:PySem.W.codeIn K cd13 "_law_teeth"=true) (k13:PySem.W.keepIn K (.ref f13)=true)
 (a14:PySem.W.nsIn K mainGlobals "_law_case"=some (some (.ref f14))) (l14:K.lookup f14=some ⟨oc14,od14,.func (PySem.W.fnOf "_law_case" "_law_case" (zaj s_law_case) (zak s_law_case) (zab s_law_case) .none kV14 dc14 pm14 an14 cd14 ct14),sl14⟩) (c14:PySem.W.codeIn K cd14 "_law_case"=true) (k14:PySem.W.keepIn K (.ref f14)=true)
 (a15:PySem.W.nsIn K mainGlobals "_law_lines"=some (some (.ref f15))) (l15:K.lookup f15=some ⟨oc15,od15,.func (PySem.W.fnOf "_law_lines" "_law_lines" (zaj s_law_lines) (zak s_law_lines) (zab s_law_lines) .none kV15 dc15 pm15 an15 cd15 ct15),sl15⟩) (c15:PySem.W.codeIn K cd15 "_law_lines"=true) (k15:PySem.W.keepIn K (.ref f15)=true)
 (a16:PySem.W.nsIn K mainGlobals "_law_keys"=some (some (.ref f16))) (l16:K.lookup f16=some ⟨oc16,od16,.func (PySem.W.fnOf "_law_keys" "_law_keys" (zaj s_law_keys) (zak s_law_keys) (zab s_law_keys) .none kV16 dc16 pm16 an16 cd16 ct16),sl16⟩) (c16:PySem.W.codeIn K cd16 "_law_keys"=true) (k16:PySem.W.keepIn K (.ref f16)=true)
 (a17:PySem.W.nsIn K mainGlobals "_law_broken"=some (some (.ref f17))) (l17:K.lookup f17=some ⟨oc17,od17,.func (PySem.W.fnOf "_law_broken" "_law_broken" (zaj s_law_broken) (zak s_law_broken) (zab s_law_broken) .none kV17 dc17 pm17 an17 cd17 ct17),sl17⟩) (c17:PySem.W.codeIn K cd17 "_law_broken"=true) (k17:PySem.W.keepIn K (.ref f17)=true)
 (a18:PySem.W.nsIn K mainGlobals "_law_all"=some (some (.ref f18))) (l18:K.lookup f18=some ⟨oc18,od18,.func (PySem.W.fnOf "_law_all" "_law_all" (zaj s_law_all) (zak s_law_all) (zab s_law_all) .none kV18 dc18 pm18 an18 cd18 ct18),sl18⟩) (c18:PySem.W.codeIn K cd18 "_law_all"=true) (k18:PySem.W.keepIn K (.ref f18)=true)
 (a19:PySem.W.nsIn K mainGlobals "_law_seen"=some (some (.ref f19))) (l19:K.lookup f19=some ⟨oc19,od19,.func (PySem.W.fnOf "_law_seen" "_law_seen" (zaj s_law_seen) (zak s_law_seen) (zab s_law_seen) .none kV19 dc19 pm19 an19 cd19 ct19),sl19⟩) (c19:PySem.W.codeIn K cd19 "_law_seen"=true) (k19:PySem.W.keepIn K (.ref f19)=true)
 (a20:PySem.W.nsIn K mainGlobals "_law_own"=some (some (.ref f20))) (l20:K.lookup f20=some ⟨oc20,od20,.func (PySem.W.fnOf "_law_own" "_law_own" (zaj s_law_own) (zak s_law_own) (zab s_law_own) .none kV20 dc20 pm20 an20 cd20 ct20),sl20⟩) (c20:PySem.W.codeIn K cd20 "_law_own"=true) (k20:PySem.W.keepIn K (.ref f20)=true)
 (a21:PySem.W.nsIn K mainGlobals "law"=some (some (.ref f21))) (l21:K.lookup f21=some ⟨oc21,od21,.func (PySem.W.fnOf "law" "law" (zaj s_law) (zak s_law) (zab s_law) .none kV21 dc21 pm21 an21 cd21 ct21),sl21⟩) (c21:PySem.W.codeIn K cd21 "law"=true) (k21:PySem.W.keepIn K (.ref f21)=true)
 {c_Machine:Addr} (ca_Machine:PySem.W.nsIn K mainGlobals "Machine"=some (some (.ref c_Machine)))
 (pg_Machine:PySem.W.plainGet K c_Machine Str.empty=true) (hd_Machine:PySem.W.hasDictIn K c_Machine=true) (po_Machine:PySem.W.plainOver K c_Machine=true) (sa_Machine:PySem.W.findIn K (.ref c_Machine) "__setattr__"=some (some (.builtin "object.__setattr__"))) (mk_Machine:PySem.W.makesIn K c_Machine=true) (kc_Machine:PySem.W.keepIn K (.ref c_Machine)=true)
 {f_Machine_init:Addr} (a_Machine_init:PySem.W.findIn K (.ref c_Machine) "__init__"=some (some (.ref f_Machine_init))) (i_Machine_init:PySem.W.isFn K (.ref f_Machine_init)=true)
 {od_Machine_init an_Machine_init:Option Addr} {sl_Machine_init:Array (Option Value)} {oc_Machine_init kV_Machine_init dc_Machine_init pm_Machine_init cd_Machine_init ct_Machine_init:Value}
 {T_Machine_init:Addr}
 (l_Machine_init:K.lookup f_Machine_init=some ⟨oc_Machine_init,od_Machine_init,.func (PySem.W.fnOf "__init__" "Machine.__init__" (zaj s_Machine_init) (zak s_Machine_init) (zab s_Machine_init) (.ref T_Machine_init) kV_Machine_init dc_Machine_init pm_Machine_init an_Machine_init cd_Machine_init ct_Machine_init),sl_Machine_init⟩) (c_Machine_init:PySem.W.codeIn K cd_Machine_init "Machine.__init__"=true) (k_Machine_init:PySem.W.keepIn K (.ref f_Machine_init)=true)
 {to_Machine_init:Value} {td_Machine_init:Option Addr} {tn_Machine_init:Nat} {ts_Machine_init:Array (Option Value)} (t_Machine_init:K.lookup T_Machine_init=some ⟨to_Machine_init,td_Machine_init,.seq #[.none] tn_Machine_init,ts_Machine_init⟩)
 {f_Machine_next_key:Addr} (a_Machine_next_key:PySem.W.findIn K (.ref c_Machine) "next_key"=some (some (.ref f_Machine_next_key))) (i_Machine_next_key:PySem.W.isFn K (.ref f_Machine_next_key)=true)
 {od_Machine_next_key an_Machine_next_key:Option Addr} {sl_Machine_next_key:Array (Option Value)} {oc_Machine_next_key kV_Machine_next_key dc_Machine_next_key pm_Machine_next_key cd_Machine_next_key ct_Machine_next_key:Value}
 (l_Machine_next_key:K.lookup f_Machine_next_key=some ⟨oc_Machine_next_key,od_Machine_next_key,.func (PySem.W.fnOf "next_key" "Machine.next_key" (zaj s_Machine_next_key) (zak s_Machine_next_key) (zab s_Machine_next_key) .none kV_Machine_next_key dc_Machine_next_key pm_Machine_next_key an_Machine_next_key cd_Machine_next_key ct_Machine_next_key),sl_Machine_next_key⟩) (c_Machine_next_key:PySem.W.codeIn K cd_Machine_next_key "Machine.next_key"=true) (k_Machine_next_key:PySem.W.keepIn K (.ref f_Machine_next_key)=true)
 {f_Machine_lacks_matrix:Addr} (a_Machine_lacks_matrix:PySem.W.findIn K (.ref c_Machine) "lacks_matrix"=some (some (.ref f_Machine_lacks_matrix))) (i_Machine_lacks_matrix:PySem.W.isFn K (.ref f_Machine_lacks_matrix)=true)
 {od_Machine_lacks_matrix an_Machine_lacks_matrix:Option Addr} {sl_Machine_lacks_matrix:Array (Option Value)} {oc_Machine_lacks_matrix kV_Machine_lacks_matrix dc_Machine_lacks_matrix pm_Machine_lacks_matrix cd_Machine_lacks_matrix ct_Machine_lacks_matrix:Value}
 (l_Machine_lacks_matrix:K.lookup f_Machine_lacks_matrix=some ⟨oc_Machine_lacks_matrix,od_Machine_lacks_matrix,.func (PySem.W.fnOf "lacks_matrix" "Machine.lacks_matrix" (zaj s_Machine_lacks_matrix) (zak s_Machine_lacks_matrix) (zab s_Machine_lacks_matrix) .none kV_Machine_lacks_matrix dc_Machine_lacks_matrix pm_Machine_lacks_matrix an_Machine_lacks_matrix cd_Machine_lacks_matrix ct_Machine_lacks_matrix),sl_Machine_lacks_matrix⟩) (c_Machine_lacks_matrix:PySem.W.codeIn K cd_Machine_lacks_matrix "Machine.lacks_matrix"=true) (k_Machine_lacks_matrix:PySem.W.keepIn K (.ref f_Machine_lacks_matrix)=true)
 {f_Machine_stuck:Addr} (a_Machine_stuck:PySem.W.findIn K (.ref c_Machine) "stuck"=some (some (.ref f_Machine_stuck))) (i_Machine_stuck:PySem.W.isFn K (.ref f_Machine_stuck)=true)
 {od_Machine_stuck an_Machine_stuck:Option Addr} {sl_Machine_stuck:Array (Option Value)} {oc_Machine_stuck kV_Machine_stuck dc_Machine_stuck pm_Machine_stuck cd_Machine_stuck ct_Machine_stuck:Value}
 (l_Machine_stuck:K.lookup f_Machine_stuck=some ⟨oc_Machine_stuck,od_Machine_stuck,.func (PySem.W.fnOf "stuck" "Machine.stuck" (zaj s_Machine_stuck) (zak s_Machine_stuck) (zab s_Machine_stuck) .none kV_Machine_stuck dc_Machine_stuck pm_Machine_stuck an_Machine_stuck cd_Machine_stuck ct_Machine_stuck),sl_Machine_stuck⟩) (c_Machine_stuck:PySem.W.codeIn K cd_Machine_stuck "Machine.stuck"=true) (k_Machine_stuck:PySem.W.keepIn K (.ref f_Machine_stuck)=true)
 {f_Machine_resting:Addr} (a_Machine_resting:PySem.W.findIn K (.ref c_Machine) "resting"=some (some (.ref f_Machine_resting))) (i_Machine_resting:PySem.W.isFn K (.ref f_Machine_resting)=true)
 {od_Machine_resting an_Machine_resting:Option Addr} {sl_Machine_resting:Array (Option Value)} {oc_Machine_resting kV_Machine_resting dc_Machine_resting pm_Machine_resting cd_Machine_resting ct_Machine_resting:Value}
 (l_Machine_resting:K.lookup f_Machine_resting=some ⟨oc_Machine_resting,od_Machine_resting,.func (PySem.W.fnOf "resting" "Machine.resting" (zaj s_Machine_resting) (zak s_Machine_resting) (zab s_Machine_resting) .none kV_Machine_resting dc_Machine_resting pm_Machine_resting an_Machine_resting cd_Machine_resting ct_Machine_resting),sl_Machine_resting⟩) (c_Machine_resting:PySem.W.codeIn K cd_Machine_resting "Machine.resting"=true) (k_Machine_resting:PySem.W.keepIn K (.ref f_Machine_resting)=true)
 {f_Machine_move_bar:Addr} (a_Machine_move_bar:PySem.W.findIn K (.ref c_Machine) "move_bar"=some (some (.ref f_Machine_move_bar))) (i_Machine_move_bar:PySem.W.isFn K (.ref f_Machine_move_bar)=true)
 {od_Machine_move_bar an_Machine_move_bar:Option Addr} {sl_Machine_move_bar:Array (Option Value)} {oc_Machine_move_bar kV_Machine_move_bar dc_Machine_move_bar pm_Machine_move_bar cd_Machine_move_bar ct_Machine_move_bar:Value}
 (l_Machine_move_bar:K.lookup f_Machine_move_bar=some ⟨oc_Machine_move_bar,od_Machine_move_bar,.func (PySem.W.fnOf "move_bar" "Machine.move_bar" (zaj s_Machine_move_bar) (zak s_Machine_move_bar) (zab s_Machine_move_bar) .none kV_Machine_move_bar dc_Machine_move_bar pm_Machine_move_bar an_Machine_move_bar cd_Machine_move_bar ct_Machine_move_bar),sl_Machine_move_bar⟩) (c_Machine_move_bar:PySem.W.codeIn K cd_Machine_move_bar "Machine.move_bar"=true) (k_Machine_move_bar:PySem.W.keepIn K (.ref f_Machine_move_bar)=true)
 {f_Machine_move_caster:Addr} (a_Machine_move_caster:PySem.W.findIn K (.ref c_Machine) "move_caster"=some (some (.ref f_Machine_move_caster))) (i_Machine_move_caster:PySem.W.isFn K (.ref f_Machine_move_caster)=true)
 {od_Machine_move_caster an_Machine_move_caster:Option Addr} {sl_Machine_move_caster:Array (Option Value)} {oc_Machine_move_caster kV_Machine_move_caster dc_Machine_move_caster pm_Machine_move_caster cd_Machine_move_caster ct_Machine_move_caster:Value}
 (l_Machine_move_caster:K.lookup f_Machine_move_caster=some ⟨oc_Machine_move_caster,od_Machine_move_caster,.func (PySem.W.fnOf "move_caster" "Machine.move_caster" (zaj s_Machine_move_caster) (zak s_Machine_move_caster) (zab s_Machine_move_caster) .none kV_Machine_move_caster dc_Machine_move_caster pm_Machine_move_caster an_Machine_move_caster cd_Machine_move_caster ct_Machine_move_caster),sl_Machine_move_caster⟩) (c_Machine_move_caster:PySem.W.codeIn K cd_Machine_move_caster "Machine.move_caster"=true) (k_Machine_move_caster:PySem.W.keepIn K (.ref f_Machine_move_caster)=true)
 {f_Machine_move_line:Addr} (a_Machine_move_line:PySem.W.findIn K (.ref c_Machine) "move_line"=some (some (.ref f_Machine_move_line))) (i_Machine_move_line:PySem.W.isFn K (.ref f_Machine_move_line)=true)
 {od_Machine_move_line an_Machine_move_line:Option Addr} {sl_Machine_move_line:Array (Option Value)} {oc_Machine_move_line kV_Machine_move_line dc_Machine_move_line pm_Machine_move_line cd_Machine_move_line ct_Machine_move_line:Value}
 (l_Machine_move_line:K.lookup f_Machine_move_line=some ⟨oc_Machine_move_line,od_Machine_move_line,.func (PySem.W.fnOf "move_line" "Machine.move_line" (zaj s_Machine_move_line) (zak s_Machine_move_line) (zab s_Machine_move_line) .none kV_Machine_move_line dc_Machine_move_line pm_Machine_move_line an_Machine_move_line cd_Machine_move_line ct_Machine_move_line),sl_Machine_move_line⟩) (c_Machine_move_line:PySem.W.codeIn K cd_Machine_move_line "Machine.move_line"=true) (k_Machine_move_line:PySem.W.keepIn K (.ref f_Machine_move_line)=true)
 {f_Machine_send_line:Addr} (a_Machine_send_line:PySem.W.findIn K (.ref c_Machine) "send_line"=some (some (.ref f_Machine_send_line))) (i_Machine_send_line:PySem.W.isFn K (.ref f_Machine_send_line)=true)
 {od_Machine_send_line an_Machine_send_line:Option Addr} {sl_Machine_send_line:Array (Option Value)} {oc_Machine_send_line kV_Machine_send_line dc_Machine_send_line pm_Machine_send_line cd_Machine_send_line ct_Machine_send_line:Value}
 (l_Machine_send_line:K.lookup f_Machine_send_line=some ⟨oc_Machine_send_line,od_Machine_send_line,.func (PySem.W.fnOf "send_line" "Machine.send_line" (zaj s_Machine_send_line) (zak s_Machine_send_line) (zab s_Machine_send_line) .none kV_Machine_send_line dc_Machine_send_line pm_Machine_send_line an_Machine_send_line cd_Machine_send_line ct_Machine_send_line),sl_Machine_send_line⟩) (c_Machine_send_line:PySem.W.codeIn K cd_Machine_send_line "Machine.send_line"=true) (k_Machine_send_line:PySem.W.keepIn K (.ref f_Machine_send_line)=true)
 {f_Machine_take:Addr} (a_Machine_take:PySem.W.findIn K (.ref c_Machine) "take"=some (some (.ref f_Machine_take))) (i_Machine_take:PySem.W.isFn K (.ref f_Machine_take)=true)
 {od_Machine_take an_Machine_take:Option Addr} {sl_Machine_take:Array (Option Value)} {oc_Machine_take kV_Machine_take dc_Machine_take pm_Machine_take cd_Machine_take ct_Machine_take:Value}
 (l_Machine_take:K.lookup f_Machine_take=some ⟨oc_Machine_take,od_Machine_take,.func (PySem.W.fnOf "take" "Machine.take" (zaj s_Machine_take) (zak s_Machine_take) (zab s_Machine_take) .none kV_Machine_take dc_Machine_take pm_Machine_take an_Machine_take cd_Machine_take ct_Machine_take),sl_Machine_take⟩) (c_Machine_take:PySem.W.codeIn K cd_Machine_take "Machine.take"=true) (k_Machine_take:PySem.W.keepIn K (.ref f_Machine_take)=true)
 {f_Machine_tick:Addr} (a_Machine_tick:PySem.W.findIn K (.ref c_Machine) "tick"=some (some (.ref f_Machine_tick))) (i_Machine_tick:PySem.W.isFn K (.ref f_Machine_tick)=true)
 {od_Machine_tick an_Machine_tick:Option Addr} {sl_Machine_tick:Array (Option Value)} {oc_Machine_tick kV_Machine_tick dc_Machine_tick pm_Machine_tick cd_Machine_tick ct_Machine_tick:Value}
 (l_Machine_tick:K.lookup f_Machine_tick=some ⟨oc_Machine_tick,od_Machine_tick,.func (PySem.W.fnOf "tick" "Machine.tick" (zaj s_Machine_tick) (zak s_Machine_tick) (zab s_Machine_tick) .none kV_Machine_tick dc_Machine_tick pm_Machine_tick an_Machine_tick cd_Machine_tick ct_Machine_tick),sl_Machine_tick⟩) (c_Machine_tick:PySem.W.codeIn K cd_Machine_tick "Machine.tick"=true) (k_Machine_tick:PySem.W.keepIn K (.ref f_Machine_tick)=true)
 {f_Machine_slugs:Addr} (a_Machine_slugs:PySem.W.findIn K (.ref c_Machine) "slugs"=some (some (.ref f_Machine_slugs))) (i_Machine_slugs:PySem.W.isFn K (.ref f_Machine_slugs)=true)
 {od_Machine_slugs an_Machine_slugs:Option Addr} {sl_Machine_slugs:Array (Option Value)} {oc_Machine_slugs kV_Machine_slugs dc_Machine_slugs pm_Machine_slugs cd_Machine_slugs ct_Machine_slugs:Value}
 (l_Machine_slugs:K.lookup f_Machine_slugs=some ⟨oc_Machine_slugs,od_Machine_slugs,.func (PySem.W.fnOf "slugs" "Machine.slugs" (zaj s_Machine_slugs) (zak s_Machine_slugs) (zab s_Machine_slugs) .none kV_Machine_slugs dc_Machine_slugs pm_Machine_slugs an_Machine_slugs cd_Machine_slugs ct_Machine_slugs),sl_Machine_slugs⟩) (c_Machine_slugs:PySem.W.codeIn K cd_Machine_slugs "Machine.slugs"=true) (k_Machine_slugs:PySem.W.keepIn K (.ref f_Machine_slugs)=true)
 {f_Machine_channels:Addr} (a_Machine_channels:PySem.W.findIn K (.ref c_Machine) "channels"=some (some (.ref f_Machine_channels))) (i_Machine_channels:PySem.W.isFn K (.ref f_Machine_channels)=true)
 {od_Machine_channels an_Machine_channels:Option Addr} {sl_Machine_channels:Array (Option Value)} {oc_Machine_channels kV_Machine_channels dc_Machine_channels pm_Machine_channels cd_Machine_channels ct_Machine_channels:Value}
 (l_Machine_channels:K.lookup f_Machine_channels=some ⟨oc_Machine_channels,od_Machine_channels,.func (PySem.W.fnOf "channels" "Machine.channels" (zaj s_Machine_channels) (zak s_Machine_channels) (zab s_Machine_channels) .none kV_Machine_channels dc_Machine_channels pm_Machine_channels an_Machine_channels cd_Machine_channels ct_Machine_channels),sl_Machine_channels⟩) (c_Machine_channels:PySem.W.codeIn K cd_Machine_channels "Machine.channels"=true) (k_Machine_channels:PySem.W.keepIn K (.ref f_Machine_channels)=true)
 {f_Machine_gathered:Addr} (a_Machine_gathered:PySem.W.findIn K (.ref c_Machine) "gathered"=some (some (.ref f_Machine_gathered))) (i_Machine_gathered:PySem.W.isFn K (.ref f_Machine_gathered)=true)
 {od_Machine_gathered an_Machine_gathered:Option Addr} {sl_Machine_gathered:Array (Option Value)} {oc_Machine_gathered kV_Machine_gathered dc_Machine_gathered pm_Machine_gathered cd_Machine_gathered ct_Machine_gathered:Value}
 (l_Machine_gathered:K.lookup f_Machine_gathered=some ⟨oc_Machine_gathered,od_Machine_gathered,.func (PySem.W.fnOf "gathered" "Machine.gathered" (zaj s_Machine_gathered) (zak s_Machine_gathered) (zab s_Machine_gathered) .none kV_Machine_gathered dc_Machine_gathered pm_Machine_gathered an_Machine_gathered cd_Machine_gathered ct_Machine_gathered),sl_Machine_gathered⟩) (c_Machine_gathered:PySem.W.codeIn K cd_Machine_gathered "Machine.gathered"=true) (k_Machine_gathered:PySem.W.keepIn K (.ref f_Machine_gathered)=true)
 {f_Machine_in_caster:Addr} (a_Machine_in_caster:PySem.W.findIn K (.ref c_Machine) "in_caster"=some (some (.ref f_Machine_in_caster))) (i_Machine_in_caster:PySem.W.isFn K (.ref f_Machine_in_caster)=true)
 {od_Machine_in_caster an_Machine_in_caster:Option Addr} {sl_Machine_in_caster:Array (Option Value)} {oc_Machine_in_caster kV_Machine_in_caster dc_Machine_in_caster pm_Machine_in_caster cd_Machine_in_caster ct_Machine_in_caster:Value}
 (l_Machine_in_caster:K.lookup f_Machine_in_caster=some ⟨oc_Machine_in_caster,od_Machine_in_caster,.func (PySem.W.fnOf "in_caster" "Machine.in_caster" (zaj s_Machine_in_caster) (zak s_Machine_in_caster) (zab s_Machine_in_caster) .none kV_Machine_in_caster dc_Machine_in_caster pm_Machine_in_caster an_Machine_in_caster cd_Machine_in_caster ct_Machine_in_caster),sl_Machine_in_caster⟩) (c_Machine_in_caster:PySem.W.codeIn K cd_Machine_in_caster "Machine.in_caster"=true) (k_Machine_in_caster:PySem.W.keepIn K (.ref f_Machine_in_caster)=true)
 {f_Machine_bar:Addr} (a_Machine_bar:PySem.W.findIn K (.ref c_Machine) "bar"=some (some (.ref f_Machine_bar))) (i_Machine_bar:PySem.W.isFn K (.ref f_Machine_bar)=true)
 {od_Machine_bar an_Machine_bar:Option Addr} {sl_Machine_bar:Array (Option Value)} {oc_Machine_bar kV_Machine_bar dc_Machine_bar pm_Machine_bar cd_Machine_bar ct_Machine_bar:Value}
 (l_Machine_bar:K.lookup f_Machine_bar=some ⟨oc_Machine_bar,od_Machine_bar,.func (PySem.W.fnOf "bar" "Machine.bar" (zaj s_Machine_bar) (zak s_Machine_bar) (zab s_Machine_bar) .none kV_Machine_bar dc_Machine_bar pm_Machine_bar an_Machine_bar cd_Machine_bar ct_Machine_bar),sl_Machine_bar⟩) (c_Machine_bar:PySem.W.codeIn K cd_Machine_bar "Machine.bar"=true) (k_Machine_bar:PySem.W.keepIn K (.ref f_Machine_bar)=true)
 (n_Machine_lying:PySem.W.findIn K (.ref c_Machine) "lying"=some none)
 (n_Machine_case:PySem.W.findIn K (.ref c_Machine) "case"=some none)
 (n_Machine_played:PySem.W.findIn K (.ref c_Machine) "played"=some none)
 (n_Machine_struck:PySem.W.findIn K (.ref c_Machine) "struck"=some none)
 (n_Machine_casting:PySem.W.findIn K (.ref c_Machine) "casting"=some none)
 (n_Machine_line:PySem.W.findIn K (.ref c_Machine) "line"=some none)
 (n_Machine_heated:PySem.W.findIn K (.ref c_Machine) "heated"=some none)
 (n_Machine_to_go:PySem.W.findIn K (.ref c_Machine) "to_go"=some none)
 (n_Machine_hanging:PySem.W.findIn K (.ref c_Machine) "hanging"=some none)
 (n_Machine_texts:PySem.W.findIn K (.ref c_Machine) "texts"=some none)
 (n_Machine_done:PySem.W.findIn K (.ref c_Machine) "done"=some none)
 (n_Machine_waits:PySem.W.findIn K (.ref c_Machine) "waits"=some none)
 {t_GAP_KEY:Tok} (y_GAP_KEY:PySem.W.nsIn K mainGlobals "GAP_KEY"=some (some (.str " " t_GAP_KEY)))
 {t_SEND_KEY:Tok} (y_SEND_KEY:PySem.W.nsIn K mainGlobals "SEND_KEY"=some (some (.str "/" t_SEND_KEY)))
 {t_WEDGE:Tok} (y_WEDGE:PySem.W.nsIn K mainGlobals "WEDGE"=some (some (.str " " t_WEDGE)))
 (z_ValueError:PySem.W.nsIn K mainGlobals "ValueError"=some none)
 (z_enumerate:PySem.W.nsIn K mainGlobals "enumerate"=some none)
 (z_int:PySem.W.nsIn K mainGlobals "int"=some none)
 (z_len:PySem.W.nsIn K mainGlobals "len"=some none)
 (z_list:PySem.W.nsIn K mainGlobals "list"=some none)
 (z_range:PySem.W.nsIn K mainGlobals "range"=some none)
 (z_sorted:PySem.W.nsIn K mainGlobals "sorted"=some none)
 : ∃ a:Ad,Tx K mg a:=by
 have D0:D K mg "_wall" s_wall ["k"] f0 _:=⟨zaz l0 c0 k0,ba1 (fun _=>rfl),PySem.W.mg_of X G a0⟩
 have D1:D K mg "has_all" s_has_all ["teeth","others"] f1 _:=⟨zaz l1 c1 k1,ba2 (fun _ _=>rfl),PySem.W.mg_of X G a1⟩
 have D2:D K mg "falls_at" s_falls_at ["codes","teeth"] f2 _:=⟨zaz l2 c2 k2,ba2 (fun _ _=>rfl),PySem.W.mg_of X G a2⟩
 have D3:D K mg "channel_of" s_channel_of ["case","sign"] f3 _:=⟨zaz l3 c3 k3,ba2 (fun _ _=>rfl),PySem.W.mg_of X G a3⟩
 have D4:D K mg "codes_of" s_codes_of_ ["case"] f4 _:=⟨zaz l4 c4 k4,ba1 (fun _=>rfl),PySem.W.mg_of X G a4⟩
 have D5:D K mg "is_sign_key" s_is_sign_key ["key"] f5 _:=⟨zaz l5 c5 k5,ba1 (fun _=>rfl),PySem.W.mg_of X G a5⟩
 have D6:D K mg "goes_on" s_goes_on ["case","keys","at"] f6 _:=⟨zaz l6 c6 k6,ba3 (fun _ _ _=>rfl),PySem.W.mg_of X G a6⟩
 have D7:D K mg "look_at_keys" s_look_at_keys ["case","keys"] f7 _:=⟨zaz l7 c7 k7,ba2 (fun _ _=>rfl),PySem.W.mg_of X G a7⟩
 have D8:D K mg "can_break" s_can_break ["case","ahead","channel","teeth"] f8 _:=⟨zaz l8 c8 k8,ba4 (fun _ _ _ _=>rfl),PySem.W.mg_of X G a8⟩
 have D9:D K mg "channels_of" s_channels_of ["case","broken"] f9 _:=⟨zaz l9 c9 k9,ba2 (fun _ _=>rfl),PySem.W.mg_of X G a9⟩
 have D10:D K mg "_law_cell_at" s_law_cell_at ["_law_script","_law_k"] f10 _:=⟨zaz l10 c10 k10,ba2 (fun _ _=>rfl),PySem.W.mg_of X G a10⟩
 have D11:D K mg "_law_mixed" s_law_mixed ["_law_cell","_law_k"] f11 _:=⟨zaz l11 c11 k11,ba2 (fun _ _=>rfl),PySem.W.mg_of X G a11⟩
 have D12:D K mg "_law_bits" s_law_bits ["_law_one"] f12 _:=⟨zaz l12 c12 k12,ba1 (fun _=>rfl),PySem.W.mg_of X G a12⟩
 have D13:D K mg "_law_teeth" s_law_teeth ["_law_number","_law_many"] f13 _:=⟨zaz l13 c13 k13,ba2 (fun _ _=>rfl),PySem.W.mg_of X G a13⟩
 have D14:D K mg "_law_case" s_law_case ["_law_script","_law_most"] f14 _:=⟨zaz l14 c14 k14,ba2 (fun _ _=>rfl),PySem.W.mg_of X G a14⟩
 have D15:D K mg "_law_lines" s_law_lines ["_law_cells","_law_case_here"] f15 _:=⟨zaz l15 c15 k15,ba2 (fun _ _=>rfl),PySem.W.mg_of X G a15⟩
 have D16:D K mg "_law_keys" s_law_keys ["_law_lines_here"] f16 _:=⟨zaz l16 c16 k16,ba1 (fun _=>rfl),PySem.W.mg_of X G a16⟩
 have D17:D K mg "_law_broken" s_law_broken ["_law_case_here","_law_cell"] f17 _:=⟨zaz l17 c17 k17,ba2 (fun _ _=>rfl),PySem.W.mg_of X G a17⟩
 have D18:D K mg "_law_all" s_law_all ["_law_machine"] f18 _:=⟨zaz l18 c18 k18,ba1 (fun _=>rfl),PySem.W.mg_of X G a18⟩
 have D19:D K mg "_law_seen" s_law_seen ["_law_machine"] f19 _:=⟨zaz l19 c19 k19,ba1 (fun _=>rfl),PySem.W.mg_of X G a19⟩
 have D20:D K mg "_law_own" s_law_own ["_law_machine","_law_case_here"] f20 _:=⟨zaz l20 c20 k20,ba2 (fun _ _=>rfl),PySem.W.mg_of X G a20⟩
 have D21:D K mg "law" s_law ["_law_script"] f21 _:=⟨zaz l21 c21 k21,ba1 (fun _=>rfl),PySem.W.mg_of X G a21⟩
 have M_Machine_init:DI K mg "Machine" "Machine.__init__" s_Machine_init ["self","case","keys","casting","broken"] c_Machine f_Machine_init _:=⟨PySem.W.mg_of X G ca_Machine,⟨pg_Machine,hd_Machine,po_Machine,sa_Machine⟩,⟨mk_Machine,a_Machine_init,i_Machine_init,kc_Machine⟩,⟨⟨_,_,_,_,_,_,_,_,_,_,rfl,l_Machine_init,c_Machine_init⟩,k_Machine_init⟩,fun s us XX hl=>bd5 (fun _ _ _ _ _=>BindsTo.of_defaults rfl (XX _ _ t_Machine_init) rfl rfl rfl) us (zlO hl),fun s us XX hl=>bd4 (fun _ _ _ _=>BindsTo.of_defaults rfl (XX _ _ t_Machine_init) rfl rfl rfl) us (zlO hl)⟩
 have M_Machine_next_key:DM K "next_key" "Machine.next_key" s_Machine_next_key ["self"] c_Machine f_Machine_next_key _:=⟨zaz l_Machine_next_key c_Machine_next_key k_Machine_next_key,ba1 (fun _=>rfl),⟨a_Machine_next_key,i_Machine_next_key,k_Machine_next_key⟩⟩
 have M_Machine_lacks_matrix:DM K "lacks_matrix" "Machine.lacks_matrix" s_Machine_lacks_matrix ["self"] c_Machine f_Machine_lacks_matrix _:=⟨zaz l_Machine_lacks_matrix c_Machine_lacks_matrix k_Machine_lacks_matrix,ba1 (fun _=>rfl),⟨a_Machine_lacks_matrix,i_Machine_lacks_matrix,k_Machine_lacks_matrix⟩⟩
 have M_Machine_stuck:DM K "stuck" "Machine.stuck" s_Machine_stuck ["self"] c_Machine f_Machine_stuck _:=⟨zaz l_Machine_stuck c_Machine_stuck k_Machine_stuck,ba1 (fun _=>rfl),⟨a_Machine_stuck,i_Machine_stuck,k_Machine_stuck⟩⟩
 have M_Machine_resting:DM K "resting" "Machine.resting" s_Machine_resting ["self"] c_Machine f_Machine_resting _:=⟨zaz l_Machine_resting c_Machine_resting k_Machine_resting,ba1 (fun _=>rfl),⟨a_Machine_resting,i_Machine_resting,k_Machine_resting⟩⟩
 have M_Machine_move_bar:DM K "move_bar" "Machine.move_bar" s_Machine_move_bar ["self"] c_Machine f_Machine_move_bar _:=⟨zaz l_Machine_move_bar c_Machine_move_bar k_Machine_move_bar,ba1 (fun _=>rfl),⟨a_Machine_move_bar,i_Machine_move_bar,k_Machine_move_bar⟩⟩
 have M_Machine_move_caster:DM K "move_caster" "Machine.move_caster" s_Machine_move_caster ["self"] c_Machine f_Machine_move_caster _:=⟨zaz l_Machine_move_caster c_Machine_move_caster k_Machine_move_caster,ba1 (fun _=>rfl),⟨a_Machine_move_caster,i_Machine_move_caster,k_Machine_move_caster⟩⟩
 have M_Machine_move_line:DM K "move_line" "Machine.move_line" s_Machine_move_line ["self"] c_Machine f_Machine_move_line _:=⟨zaz l_Machine_move_line c_Machine_move_line k_Machine_move_line,ba1 (fun _=>rfl),⟨a_Machine_move_line,i_Machine_move_line,k_Machine_move_line⟩⟩
 have M_Machine_send_line:DM K "send_line" "Machine.send_line" s_Machine_send_line ["self"] c_Machine f_Machine_send_line _:=⟨zaz l_Machine_send_line c_Machine_send_line k_Machine_send_line,ba1 (fun _=>rfl),⟨a_Machine_send_line,i_Machine_send_line,k_Machine_send_line⟩⟩
 have M_Machine_take:DM K "take" "Machine.take" s_Machine_take ["self","part"] c_Machine f_Machine_take _:=⟨zaz l_Machine_take c_Machine_take k_Machine_take,ba2 (fun _ _=>rfl),⟨a_Machine_take,i_Machine_take,k_Machine_take⟩⟩
 have M_Machine_tick:DM K "tick" "Machine.tick" s_Machine_tick ["self"] c_Machine f_Machine_tick _:=⟨zaz l_Machine_tick c_Machine_tick k_Machine_tick,ba1 (fun _=>rfl),⟨a_Machine_tick,i_Machine_tick,k_Machine_tick⟩⟩
 have M_Machine_slugs:DM K "slugs" "Machine.slugs" s_Machine_slugs ["self"] c_Machine f_Machine_slugs _:=⟨zaz l_Machine_slugs c_Machine_slugs k_Machine_slugs,ba1 (fun _=>rfl),⟨a_Machine_slugs,i_Machine_slugs,k_Machine_slugs⟩⟩
 have M_Machine_channels:DM K "channels" "Machine.channels" s_Machine_channels ["self"] c_Machine f_Machine_channels _:=⟨zaz l_Machine_channels c_Machine_channels k_Machine_channels,ba1 (fun _=>rfl),⟨a_Machine_channels,i_Machine_channels,k_Machine_channels⟩⟩
 have M_Machine_gathered:DM K "gathered" "Machine.gathered" s_Machine_gathered ["self"] c_Machine f_Machine_gathered _:=⟨zaz l_Machine_gathered c_Machine_gathered k_Machine_gathered,ba1 (fun _=>rfl),⟨a_Machine_gathered,i_Machine_gathered,k_Machine_gathered⟩⟩
 have M_Machine_in_caster:DM K "in_caster" "Machine.in_caster" s_Machine_in_caster ["self"] c_Machine f_Machine_in_caster _:=⟨zaz l_Machine_in_caster c_Machine_in_caster k_Machine_in_caster,ba1 (fun _=>rfl),⟨a_Machine_in_caster,i_Machine_in_caster,k_Machine_in_caster⟩⟩
 have M_Machine_bar:DM K "bar" "Machine.bar" s_Machine_bar ["self"] c_Machine f_Machine_bar _:=⟨zaz l_Machine_bar c_Machine_bar k_Machine_bar,ba1 (fun _=>rfl),⟨a_Machine_bar,i_Machine_bar,k_Machine_bar⟩⟩
 exact ⟨⟨f0,_,f1,_,f2,_,f3,_,f4,_,f5,_,f6,_,f7,_,f8,_,f9,_,f10,_,f11,_,f12,_,f13,_,f14,_,f15,_,f16,_,f17,_,f18,_,f19,_,f20,_,f21,_,c_Machine,f_Machine_init,_,f_Machine_next_key,_,f_Machine_lacks_matrix,_,f_Machine_stuck,_,f_Machine_resting,_,f_Machine_move_bar,_,f_Machine_move_caster,_,f_Machine_move_line,_,f_Machine_send_line,_,f_Machine_take,_,f_Machine_tick,_,f_Machine_slugs,_,f_Machine_channels,_,f_Machine_gathered,_,f_Machine_in_caster,_,f_Machine_bar,_,t_GAP_KEY,t_SEND_KEY,t_WEDGE⟩,⟨D0,D1,D2,D3,D4,D5,D6,D7,D8,D9,D10,D11,D12,D13,D14,D15,D16,D17,D18,D19,D20,D21,M_Machine_init,M_Machine_next_key,M_Machine_lacks_matrix,M_Machine_stuck,M_Machine_resting,M_Machine_move_bar,M_Machine_move_caster,M_Machine_move_line,M_Machine_send_line,M_Machine_take,M_Machine_tick,M_Machine_slugs,M_Machine_channels,M_Machine_gathered,M_Machine_in_caster,M_Machine_bar,n_Machine_lying,n_Machine_case,n_Machine_played,n_Machine_struck,n_Machine_casting,n_Machine_line,n_Machine_heated,n_Machine_to_go,n_Machine_hanging,n_Machine_texts,n_Machine_done,n_Machine_waits,⟨rfl,fun s _ _ _ _ _ XX=>BindsTo.of_defaults rfl (XX _ _ t_Machine_init) rfl rfl rfl⟩,PySem.W.mg_of X G y_GAP_KEY,PySem.W.mg_of X G y_SEND_KEY,PySem.W.mg_of X G y_WEDGE,PySem.W.mg_none_of X G z_ValueError,PySem.W.mg_none_of X G z_enumerate,PySem.W.mg_none_of X G z_int,PySem.W.mg_none_of X G z_len,PySem.W.mg_none_of X G z_list,PySem.W.mg_none_of X G z_range,PySem.W.mg_none_of X G z_sorted⟩⟩
section
open PySem.W PyProof.Rows
open Hd (qr qi qs qt qb qe qF qG qT qN qf qg qC HD)
noncomputable def h_3 (P:Params):Obj:=⟨(qt "dict"),.none,(.dict #[qe P "__name__" 165 (qs "law_linecaster_k47_whole_each_matrix_somewhe" 537),qe P "__doc__" 166 .none,qe P "__package__" 167 .none,qe P "__loader__" 168 (qb "__main__.__loader__#opaque"),qe P "__spec__" 169 .none,qe P "__annotations__" 170 (qr 6),qe P "__builtins__" 171 (qr 4),qe P "__file__" 173 (qs "/claim/cut.py" 172),qe P "__cached__" 174 .none,qe P "_wall" 193 (qr 21),qe P "CasterError" 213 (qr 31),qe P "NoCase" 238 (qr 51),qe P "NoKeys" 263 (qr 70),qe P "has_all" 273 (qr 79),qe P "falls_at" 283 (qr 86),qe P "channel_of" 295 (qr 93),qe P "codes_of" 301 (qr 98),qe P "GAP_KEY" 305 (qs " " 304),qe P "SEND_KEY" 307 (qs "/" 306),qe P "is_sign_key" 314 (qr 105),qe P "goes_on" 323 (qr 112),qe P "look_at_keys" 332 (qr 119),qe P "can_break" 348 (qr 126),qe P "channels_of" 354 (qr 131),qe P "WEDGE" 358 (qs " " 357),qe P "Machine" 536 (qr 278),qe P "_law_cell_at" 546 (qr 289),qe P "_law_mixed" 554 (qr 296),qe P "_law_bits" 562 (qr 303),qe P "_law_teeth" 568 (qr 308),qe P "_law_case" 583 (qr 315),qe P "_law_lines" 589 (qr 320),qe P "_law_keys" 595 (qr 325),qe P "_law_broken" 607 (qr 332),qe P "_law_all" 613 (qr 337),qe P "_law_seen" 620 (qr 344),qe P "_law_own" 632 (qr 351),qe P "law" 648 (qr 358)] 38),#[]⟩
noncomputable def h_11:Obj:=qT []
noncomputable def h_12:Obj:=qN [(qi 1),(qi 0),(qr 20),(qi 5),(qi 0),(qr 27),(qi 7),(qi 0),(qr 40),(qi 12),(qi 0),(qr 59),(qi 18),(qi 0),(qr 78),(qi 20),(qi 0),(qr 85),(qi 26),(qi 0),(qr 92),(qi 31),(qi 0),(qr 97),(qi 36),(qi 0),(qr 104),(qi 38),(qi 0),(qr 111),(qi 42),(qi 0),(qr 118),(qi 49),(qi 0),(qr 125),(qi 54),(qi 0),(qr 130),(qi 67),(qi 0),(qr 137),(qi 169),(qi 0),(qr 288),(qi 173),(qi 0),(qr 295),(qi 175),(qi 0),(qr 302),(qi 181),(qi 0),(qr 307),(qi 190),(qi 0),(qr 314),(qi 200),(qi 0),(qr 319),(qi 212),(qi 0),(qr 324),(qi 214),(qi 0),(qr 331),(qi 222),(qi 0),(qr 336),(qi 228),(qi 0),(qr 343),(qi 230),(qi 0),(qr 350),(qi 236),(qi 0),(qr 357)]
noncomputable def h_13:Obj:=qC "<module>" "<module>" 182 1 0 0 0 0 11 false 12 .none .none .none .none 185 186
noncomputable def h_14:Obj:=⟨(qt "frame"),.none,.plain,#[(.some (qr 13)),(.some (qr 3)),(.some (qr 3)),.none,(.some (qs "__main__" 164)),.none,(.some (qr 0))]⟩
noncomputable def h_15:Obj:=qT []
noncomputable def h_16:Obj:=qN []
noncomputable def h_17:Obj:=qT [(qs "k" 190)]
noncomputable def h_18:Obj:=qT []
noncomputable def h_19:Obj:=qg "_wall" "_wall" (top 0)
noncomputable def h_20:Obj:=qC "_wall" "_wall" 187 1 1 0 0 3 15 true 16 .none (qr 17) (qr 18) (qr 19) 191 192
noncomputable def h_21:Obj:=qf "_wall" "_wall" (top 0) (qs "__main__" 164) (qr 20)
noncomputable def h_22:Obj:=qT [(qt "ValueError")]
noncomputable def h_23:Obj:=⟨(qt "builtin_function_or_method"),.none,(.fields #[(qb "type.__prepare__"),(qt "type")]),#[]⟩
noncomputable def h_24 (P:Params):Obj:=⟨(qt "dict"),.none,(.dict #[qe P "__module__" 203 (qs "linecaster.errors" 194),qe P "__qualname__" 205 (qs "CasterError" 204),qe P "__firstlineno__" 207 (.int (5) 206),qe P "__static_attributes__" 208 (qr 29)] 4),#[]⟩
noncomputable def h_25:Obj:=qT []
noncomputable def h_26:Obj:=qN []
noncomputable def h_27:Obj:=qC "CasterError" "CasterError" 198 5 0 0 0 0 25 false 26 .none .none .none .none 201 202
noncomputable def h_28:Obj:=⟨(qt "frame"),.none,.plain,#[(.some (qr 27)),(.some (qr 3)),(.some (qr 24)),.none,(.some (qs "linecaster.errors" 194)),.none,(.some (qr 0))]⟩
noncomputable def h_29:Obj:=qT []
noncomputable def h_30 (P:Params):Obj:=⟨(qt "dict"),.none,(.dict #[qe P "__module__" 203 (qs "linecaster.errors" 194),qe P "__firstlineno__" 207 (.int (5) 206),qe P "__static_attributes__" 208 (qr 29),qe P "__weakref__" 210 (qr 32),qe P "__doc__" 211 .none] 3),#[]⟩
noncomputable def h_31:Obj:=⟨(qt "type"),.none,(.cls ⟨(.ofString "CasterError"),[(qt "ValueError")],[(qr 31),(qt "ValueError"),(qt "Exception"),(qt "BaseException"),(qt "object")],30,(.ofString "CasterError"),true,[],[(qr 51),(qr 70)],false,.none,false⟩),#[(.some (qr 22)),.none,(.some (qs "CasterError" 196)),(.some (qs "CasterError" 204)),(.some (qb "ValueError.__new__")),(.some (.bool true))]⟩
noncomputable def h_32:Obj:=⟨(qt "getset_descriptor"),.none,(.fields #[(qs "__weakref__" 209),(qr 31),(qb "ExceptionGroup.__weakref__"),.none]),#[]⟩
noncomputable def h_33:Obj:=⟨(qt "super"),.none,(.fields #[(qr 31),(qr 31),(qr 31)]),#[]⟩
noncomputable def h_34:Obj:=⟨(qt "builtin_function_or_method"),.none,(.fields #[(qb "object.__init_subclass__"),(qr 31)]),#[]⟩
noncomputable def h_35:Obj:=qT [(qr 31)]
noncomputable def h_36:Obj:=⟨(qt "builtin_function_or_method"),.none,(.fields #[(qb "type.__prepare__"),(qt "type")]),#[]⟩
noncomputable def h_37 (P:Params):Obj:=⟨(qt "dict"),.none,(.dict #[qe P "__module__" 221 (qs "linecaster.errors" 194),qe P "__qualname__" 223 (qs "NoCase" 222),qe P "__firstlineno__" 225 (.int (7) 224),qe P "__init__" 233 (qr 48),qe P "__static_attributes__" 235 (qr 49)] 5),#[]⟩
noncomputable def h_38:Obj:=qT []
noncomputable def h_39:Obj:=qN [(qi 9),(qi 4),(qr 47)]
noncomputable def h_40:Obj:=qC "NoCase" "NoCase" 216 7 0 0 0 0 38 false 39 .none .none .none .none 219 220
noncomputable def h_41:Obj:=⟨(qt "frame"),.none,.plain,#[(.some (qr 40)),(.some (qr 3)),(.some (qr 37)),.none,(.some (qs "linecaster.errors" 194)),.none,(.some (qr 0))]⟩
noncomputable def h_42:Obj:=qT []
noncomputable def h_43:Obj:=qN []
noncomputable def h_44:Obj:=qT [(qs "self" 229),(qs "at" 230)]
noncomputable def h_45:Obj:=qT []
noncomputable def h_46:Obj:=qg "__init__" "NoCase.__init__" (zah (top 3) 0)
noncomputable def h_47:Obj:=qC "__init__" "NoCase.__init__" 226 9 2 0 0 3 42 true 43 .none (qr 44) (qr 45) (qr 46) 231 232
noncomputable def h_48:Obj:=qf "__init__" "NoCase.__init__" (zah (top 3) 0) (qs "linecaster.errors" 194) (qr 47)
noncomputable def h_49:Obj:=qT [(qs "at" 234)]
noncomputable def h_50 (P:Params):Obj:=⟨(qt "dict"),.none,(.dict #[qe P "__module__" 221 (qs "linecaster.errors" 194),qe P "__firstlineno__" 225 (.int (7) 224),qe P "__init__" 233 (qr 48),qe P "__static_attributes__" 235 (qr 49),qe P "__doc__" 236 .none] 2),#[]⟩
noncomputable def h_51:Obj:=⟨(qt "type"),.none,(.cls ⟨(.ofString "NoCase"),[(qr 31)],[(qr 51),(qr 31),(qt "ValueError"),(qt "Exception"),(qt "BaseException"),(qt "object")],50,(.ofString "NoCase"),true,[],[],false,.none,false⟩),#[(.some (qr 35)),.none,(.some (qs "NoCase" 214)),(.some (qs "NoCase" 222)),(.some (qb "ValueError.__new__")),(.some (.bool true))]⟩
noncomputable def h_52:Obj:=⟨(qt "super"),.none,(.fields #[(qr 51),(qr 51),(qr 51)]),#[]⟩
noncomputable def h_53:Obj:=⟨(qt "builtin_function_or_method"),.none,(.fields #[(qb "object.__init_subclass__"),(qr 51)]),#[]⟩
noncomputable def h_54:Obj:=qT [(qr 31)]
noncomputable def h_55:Obj:=⟨(qt "builtin_function_or_method"),.none,(.fields #[(qb "type.__prepare__"),(qt "type")]),#[]⟩
noncomputable def h_56 (P:Params):Obj:=⟨(qt "dict"),.none,(.dict #[qe P "__module__" 246 (qs "linecaster.errors" 194),qe P "__qualname__" 248 (qs "NoKeys" 247),qe P "__firstlineno__" 250 (.int (12) 249),qe P "__init__" 258 (qr 67),qe P "__static_attributes__" 260 (qr 68)] 5),#[]⟩
noncomputable def h_57:Obj:=qT []
noncomputable def h_58:Obj:=qN [(qi 14),(qi 4),(qr 66)]
noncomputable def h_59:Obj:=qC "NoKeys" "NoKeys" 241 12 0 0 0 0 57 false 58 .none .none .none .none 244 245
noncomputable def h_60:Obj:=⟨(qt "frame"),.none,.plain,#[(.some (qr 59)),(.some (qr 3)),(.some (qr 56)),.none,(.some (qs "linecaster.errors" 194)),.none,(.some (qr 0))]⟩
noncomputable def h_61:Obj:=qT []
noncomputable def h_62:Obj:=qN []
noncomputable def h_63:Obj:=qT [(qs "self" 254),(qs "at" 255)]
noncomputable def h_64:Obj:=qT []
noncomputable def h_65:Obj:=qg "__init__" "NoKeys.__init__" (zah (top 4) 0)
noncomputable def h_66:Obj:=qC "__init__" "NoKeys.__init__" 251 14 2 0 0 3 61 true 62 .none (qr 63) (qr 64) (qr 65) 256 257
noncomputable def h_67:Obj:=qf "__init__" "NoKeys.__init__" (zah (top 4) 0) (qs "linecaster.errors" 194) (qr 66)
noncomputable def h_68:Obj:=qT [(qs "at" 259)]
noncomputable def h_69 (P:Params):Obj:=⟨(qt "dict"),.none,(.dict #[qe P "__module__" 246 (qs "linecaster.errors" 194),qe P "__firstlineno__" 250 (.int (12) 249),qe P "__init__" 258 (qr 67),qe P "__static_attributes__" 260 (qr 68),qe P "__doc__" 261 .none] 2),#[]⟩
noncomputable def h_70:Obj:=⟨(qt "type"),.none,(.cls ⟨(.ofString "NoKeys"),[(qr 31)],[(qr 70),(qr 31),(qt "ValueError"),(qt "Exception"),(qt "BaseException"),(qt "object")],69,(.ofString "NoKeys"),true,[],[],false,.none,false⟩),#[(.some (qr 54)),.none,(.some (qs "NoKeys" 239)),(.some (qs "NoKeys" 247)),(.some (qb "ValueError.__new__")),(.some (.bool true))]⟩
noncomputable def h_71:Obj:=⟨(qt "super"),.none,(.fields #[(qr 70),(qr 70),(qr 70)]),#[]⟩
noncomputable def h_72:Obj:=⟨(qt "builtin_function_or_method"),.none,(.fields #[(qb "object.__init_subclass__"),(qr 70)]),#[]⟩
noncomputable def h_73:Obj:=qT []
noncomputable def h_74:Obj:=qN []
noncomputable def h_75:Obj:=qT [(qs "teeth" 269),(qs "others" 270)]
noncomputable def h_76:Obj:=qT []
noncomputable def h_77:Obj:=qg "has_all" "has_all" (top 6)
noncomputable def h_78:Obj:=qC "has_all" "has_all" 266 18 2 0 0 3 73 true 74 .none (qr 75) (qr 76) (qr 77) 271 272
noncomputable def h_79:Obj:=qf "has_all" "has_all" (top 6) (qs "linecaster.bars" 264) (qr 78)
noncomputable def h_80:Obj:=qT []
noncomputable def h_81:Obj:=qN []
noncomputable def h_82:Obj:=qT [(qs "codes" 277),(qs "teeth" 278),(qs "channel" 279),(qs "code" 280)]
noncomputable def h_83:Obj:=qT []
noncomputable def h_84:Obj:=qg "falls_at" "falls_at" (top 7)
noncomputable def h_85:Obj:=qC "falls_at" "falls_at" 274 20 2 0 0 3 80 true 81 .none (qr 82) (qr 83) (qr 84) 281 282
noncomputable def h_86:Obj:=qf "falls_at" "falls_at" (top 7) (qs "linecaster.bars" 264) (qr 85)
noncomputable def h_87:Obj:=qT []
noncomputable def h_88:Obj:=qN []
noncomputable def h_89:Obj:=qT [(qs "case" 289),(qs "sign" 290),(qs "number" 291),(qs "channel" 292)]
noncomputable def h_90:Obj:=qT []
noncomputable def h_91:Obj:=qg "channel_of" "channel_of" (top 9)
noncomputable def h_92:Obj:=qC "channel_of" "channel_of" 286 26 2 0 0 3 87 true 88 .none (qr 89) (qr 90) (qr 91) 293 294
noncomputable def h_93:Obj:=qf "channel_of" "channel_of" (top 9) (qs "linecaster.cases" 284) (qr 92)
noncomputable def h_94:Obj:=qT []
noncomputable def h_95:Obj:=qN []
noncomputable def h_96:Obj:=qg "codes_of" "codes_of" (top 10)
noncomputable def h_97:Obj:=qC "codes_of" "codes_of" 296 31 1 0 0 3 94 true 95 .none .none .none (qr 96) 299 300
noncomputable def h_98:Obj:=qf "codes_of" "codes_of" (top 10) (qs "linecaster.cases" 284) (qr 97)
noncomputable def h_99:Obj:=qT []
noncomputable def zve:Obj:=qN []
noncomputable def zqT:Obj:=qT [(qs "key" 311)]
noncomputable def zry:Obj:=qT []
noncomputable def zuL:Obj:=qg "is_sign_key" "is_sign_key" (top 14)
noncomputable def zqW:Obj:=qC "is_sign_key" "is_sign_key" 308 36 1 0 0 3 99 true 100 .none (qr 101) (qr 102) (qr 103) 312 313
noncomputable def zpF:Obj:=qf "is_sign_key" "is_sign_key" (top 14) (qs "linecaster.keys" 302) (qr 104)
noncomputable def zqS:Obj:=qT []
noncomputable def ztS:Obj:=qN []
noncomputable def zsC:Obj:=qT [(qs "case" 318),(qs "keys" 319),(qs "at" 320)]
noncomputable def zoJ:Obj:=qT []
noncomputable def zub:Obj:=qg "goes_on" "goes_on" (top 15)
noncomputable def zpu:Obj:=qC "goes_on" "goes_on" 315 38 3 0 0 3 106 true 107 .none (qr 108) (qr 109) (qr 110) 321 322
noncomputable def zpe:Obj:=qf "goes_on" "goes_on" (top 15) (qs "linecaster.keys" 302) (qr 111)
noncomputable def zqA:Obj:=qT []
noncomputable def zuj:Obj:=qN []
noncomputable def zpJ:Obj:=qT [(qs "case" 327),(qs "keys" 328),(qs "at" 329)]
noncomputable def zrh:Obj:=qT []
noncomputable def zuH:Obj:=qg "look_at_keys" "look_at_keys" (top 16)
noncomputable def zsk:Obj:=qC "look_at_keys" "look_at_keys" 324 42 2 0 0 3 113 true 114 .none (qr 115) (qr 116) (qr 117) 330 331
noncomputable def zqa:Obj:=qf "look_at_keys" "look_at_keys" (top 16) (qs "linecaster.keys" 302) (qr 118)
noncomputable def zpT:Obj:=qT []
noncomputable def zui:Obj:=qN []
noncomputable def zoU:Obj:=qT [(qs "case" 338),(qs "ahead" 339),(qs "channel" 340),(qs "teeth" 341),(qs "sign" 342),(qs "width" 343),(qs "own" 344),(qs "many" 345)]
noncomputable def zqJ:Obj:=qT []
noncomputable def zvj:Obj:=qg "can_break" "can_break" (top 18)
noncomputable def zqi:Obj:=qC "can_break" "can_break" 335 49 4 0 0 3 120 true 121 .none (qr 122) (qr 123) (qr 124) 346 347
noncomputable def zsw:Obj:=qf "can_break" "can_break" (top 18) (qs "linecaster.matrices" 333) (qr 125)
noncomputable def zsZ:Obj:=qT []
noncomputable def zvi:Obj:=qN []
noncomputable def zuB:Obj:=qg "channels_of" "channels_of" (top 19)
noncomputable def zrm:Obj:=qC "channels_of" "channels_of" 349 54 2 0 0 3 127 true 128 .none .none .none (qr 129) 352 353
noncomputable def zoE:Obj:=qf "channels_of" "channels_of" (top 19) (qs "linecaster.matrices" 333) (qr 130)
noncomputable def zuS:Obj:=qT []
noncomputable def zuA:Obj:=⟨(qt "builtin_function_or_method"),.none,(.fields #[(qb "type.__prepare__"),(qt "type")]),#[]⟩
noncomputable def zvc (P:Params):Obj:=⟨(qt "dict"),.none,(.dict #[qe P "__module__" 366 (qs "linecaster.machine" 355),qe P "__qualname__" 368 (qs "Machine" 367),qe P "__firstlineno__" 370 (.int (67) 369),qe P "__init__" 381 (qr 146),qe P "next_key" 388 (qr 153),qe P "lacks_matrix" 396 (qr 160),qe P "stuck" 403 (qr 167),qe P "resting" 410 (qr 174),qe P "move_bar" 418 (qr 181),qe P "move_caster" 424 (qr 186),qe P "move_line" 432 (qr 193),qe P "send_line" 439 (qr 200),qe P "take" 447 (qr 207),qe P "tick" 454 (qr 214),qe P "run" 461 (qr 221),qe P "ticks" 468 (qr 228),qe P "slugs" 475 (qr 235),qe P "waited" 482 (qr 242),qe P "channels" 488 (qr 247),qe P "numbers_lying" 495 (qr 254),qe P "gathered" 502 (qr 261),qe P "in_caster" 509 (qr 268),qe P "bar" 516 (qr 275),qe P "__static_attributes__" 529 (qr 276)] 24),#[]⟩
noncomputable def zuO:Obj:=qT []
noncomputable def ztx:Obj:=qN [(qi 69),(qi 4),(qr 145),(qi 84),(qi 4),(qr 152),(qi 87),(qi 4),(qr 159),(qi 91),(qi 4),(qr 166),(qi 94),(qi 4),(qr 173),(qi 97),(qi 4),(qr 180),(qi 102),(qi 4),(qr 185),(qi 111),(qi 4),(qr 192),(qi 122),(qi 4),(qr 199),(qi 129),(qi 4),(qr 206),(qi 133),(qi 4),(qr 213),(qi 142),(qi 4),(qr 220),(qi 145),(qi 4),(qr 227),(qi 148),(qi 4),(qr 234),(qi 151),(qi 4),(qr 241),(qi 154),(qi 4),(qr 246),(qi 157),(qi 4),(qr 253),(qi 160),(qi 4),(qr 260),(qi 163),(qi 4),(qr 267),(qi 166),(qi 4),(qr 274)]
noncomputable def zud:Obj:=qC "Machine" "Machine" 361 67 0 0 0 0 135 false 136 .none .none .none .none 364 365
noncomputable def zuI:Obj:=⟨(qt "frame"),.none,.plain,#[(.some (qr 137)),(.some (qr 3)),(.some (qr 134)),.none,(.some (qs "linecaster.machine" 355)),.none,(.some (qr 0))]⟩
noncomputable def zsM:Obj:=qT [.none]
noncomputable def zpa:Obj:=qT []
noncomputable def ztR:Obj:=qN []
noncomputable def zsb:Obj:=qT [(qs "self" 374),(qs "case" 375),(qs "keys" 376),(qs "casting" 377),(qs "broken" 378)]
noncomputable def zqM:Obj:=qT []
noncomputable def zto:Obj:=qg "__init__" "Machine.__init__" (zah (top 22) 0)
noncomputable def zoN:Obj:=qC "__init__" "Machine.__init__" 371 69 5 0 0 3 140 true 141 .none (qr 142) (qr 143) (qr 144) 379 380
noncomputable def zsQ:Obj:=⟨(qt "function"),.none,(qF "__init__" "Machine.__init__" (zah (top 22) 0) (qr 139) .none .none (qs "linecaster.machine" 355) .none (qr 145) .none),#[]⟩
noncomputable def zpk:Obj:=qT []
noncomputable def ztj:Obj:=qN []
noncomputable def zrk:Obj:=qT [(qs "self" 385)]
noncomputable def zpW:Obj:=qT []
noncomputable def ztG:Obj:=qg "next_key" "Machine.next_key" (zah (top 22) 1)
noncomputable def zpZ:Obj:=qC "next_key" "Machine.next_key" 382 84 1 0 0 3 147 true 148 .none (qr 149) (qr 150) (qr 151) 386 387
noncomputable def zqx:Obj:=qf "next_key" "Machine.next_key" (zah (top 22) 1) (qs "linecaster.machine" 355) (qr 152)
noncomputable def zsp:Obj:=qT []
noncomputable def ztk:Obj:=qN []
noncomputable def zrz:Obj:=qT [(qs "self" 392),(qs "channel" 393)]
noncomputable def zpH:Obj:=qT []
noncomputable def zts:Obj:=qg "lacks_matrix" "Machine.lacks_matrix" (zah (top 22) 2)
noncomputable def zpi:Obj:=qC "lacks_matrix" "Machine.lacks_matrix" 389 87 1 0 0 3 154 true 155 .none (qr 156) (qr 157) (qr 158) 394 395
noncomputable def zpo:Obj:=qf "lacks_matrix" "Machine.lacks_matrix" (zah (top 22) 2) (qs "linecaster.machine" 355) (qr 159)
noncomputable def zrn:Obj:=qT []
noncomputable def zuc:Obj:=qN []
noncomputable def zsj:Obj:=qT [(qs "self" 400)]
noncomputable def zpX:Obj:=qT []
noncomputable def ztP:Obj:=qg "stuck" "Machine.stuck" (zah (top 22) 3)
noncomputable def zoR:Obj:=qC "stuck" "Machine.stuck" 397 91 1 0 0 3 161 true 162 .none (qr 163) (qr 164) (qr 165) 401 402
noncomputable def zrS:Obj:=qf "stuck" "Machine.stuck" (zah (top 22) 3) (qs "linecaster.machine" 355) (qr 166)
noncomputable def zoM:Obj:=qT []
noncomputable def ztw:Obj:=qN []
noncomputable def zsr:Obj:=qT [(qs "self" 407)]
noncomputable def zra:Obj:=qT []
noncomputable def ztf:Obj:=qg "resting" "Machine.resting" (zah (top 22) 4)
noncomputable def zpV:Obj:=qC "resting" "Machine.resting" 404 94 1 0 0 3 168 true 169 .none (qr 170) (qr 171) (qr 172) 408 409
noncomputable def zpG:Obj:=qf "resting" "Machine.resting" (zah (top 22) 4) (qs "linecaster.machine" 355) (qr 173)
noncomputable def zpx:Obj:=qT []
noncomputable def ztD:Obj:=qN []
noncomputable def zrr:Obj:=qT [(qs "self" 414),(qs "matrix" 415)]
noncomputable def zrK:Obj:=qT []
noncomputable def ztW:Obj:=qg "move_bar" "Machine.move_bar" (zah (top 22) 5)
noncomputable def zpz:Obj:=qC "move_bar" "Machine.move_bar" 411 97 1 0 0 3 175 true 176 .none (qr 177) (qr 178) (qr 179) 416 417
noncomputable def zoL:Obj:=qf "move_bar" "Machine.move_bar" (zah (top 22) 5) (qs "linecaster.machine" 355) (qr 180)
noncomputable def zqv:Obj:=qT []
noncomputable def zuo:Obj:=qN []
noncomputable def zte:Obj:=qg "move_caster" "Machine.move_caster" (zah (top 22) 6)
noncomputable def zoG:Obj:=qC "move_caster" "Machine.move_caster" 419 102 1 0 0 3 182 true 183 .none .none .none (qr 184) 422 423
noncomputable def zqF:Obj:=qf "move_caster" "Machine.move_caster" (zah (top 22) 6) (qs "linecaster.machine" 355) (qr 185)
noncomputable def zoS:Obj:=qT []
noncomputable def zvg:Obj:=qN []
noncomputable def zpC:Obj:=qT [(qs "self" 428),(qs "key" 429)]
noncomputable def zrA:Obj:=qT []
noncomputable def zus:Obj:=qg "move_line" "Machine.move_line" (zah (top 22) 7)
noncomputable def zpg:Obj:=qC "move_line" "Machine.move_line" 425 111 1 0 0 3 187 true 188 .none (qr 189) (qr 190) (qr 191) 430 431
noncomputable def zpw:Obj:=qf "move_line" "Machine.move_line" (zah (top 22) 7) (qs "linecaster.machine" 355) (qr 192)
noncomputable def zrv:Obj:=qT []
noncomputable def zuR:Obj:=qN []
noncomputable def zqy:Obj:=qT [(qs "self" 436)]
noncomputable def zsK:Obj:=qT []
noncomputable def zuW:Obj:=qg "send_line" "Machine.send_line" (zah (top 22) 8)
noncomputable def zsi:Obj:=qC "send_line" "Machine.send_line" 433 122 1 0 0 3 194 true 195 .none (qr 196) (qr 197) (qr 198) 437 438
noncomputable def zrJ:Obj:=qf "send_line" "Machine.send_line" (zah (top 22) 8) (qs "linecaster.machine" 355) (qr 199)
noncomputable def zsB:Obj:=qT []
noncomputable def ztF:Obj:=qN []
noncomputable def zoP:Obj:=qT [(qs "self" 443),(qs "part" 444)]
noncomputable def zsm:Obj:=qT []
noncomputable def ztE:Obj:=qg "take" "Machine.take" (zah (top 22) 9)
noncomputable def zqd:Obj:=qC "take" "Machine.take" 440 129 2 0 0 3 201 true 202 .none (qr 203) (qr 204) (qr 205) 445 446
noncomputable def zqQ:Obj:=qf "take" "Machine.take" (zah (top 22) 9) (qs "linecaster.machine" 355) (qr 206)
noncomputable def zqj:Obj:=qT []
noncomputable def zuq:Obj:=qN []
noncomputable def zqN:Obj:=qT [(qs "self" 451)]
noncomputable def zrI:Obj:=qT []
noncomputable def zur:Obj:=qg "tick" "Machine.tick" (zah (top 22) 10)
noncomputable def zrt:Obj:=qC "tick" "Machine.tick" 448 133 1 0 0 3 208 true 209 .none (qr 210) (qr 211) (qr 212) 452 453
noncomputable def zrf:Obj:=qf "tick" "Machine.tick" (zah (top 22) 10) (qs "linecaster.machine" 355) (qr 213)
noncomputable def zqt:Obj:=qT []
noncomputable def zuk:Obj:=qN []
noncomputable def zpl:Obj:=qT [(qs "self" 458)]
noncomputable def zqb:Obj:=qT []
noncomputable def ztQ:Obj:=qg "run" "Machine.run" (zah (top 22) 11)
noncomputable def zsE:Obj:=qC "run" "Machine.run" 455 142 1 0 0 3 215 true 216 .none (qr 217) (qr 218) (qr 219) 459 460
noncomputable def zpn:Obj:=qf "run" "Machine.run" (zah (top 22) 11) (qs "linecaster.machine" 355) (qr 220)
noncomputable def zqU:Obj:=qT []
noncomputable def ztB:Obj:=qN []
noncomputable def zsh:Obj:=qT [(qs "self" 465)]
noncomputable def zsz:Obj:=qT []
noncomputable def zuf:Obj:=qg "ticks" "Machine.ticks" (zah (top 22) 12)
noncomputable def zoF:Obj:=qC "ticks" "Machine.ticks" 462 145 1 0 0 3 222 true 223 .none (qr 224) (qr 225) (qr 226) 466 467
noncomputable def zqC:Obj:=qf "ticks" "Machine.ticks" (zah (top 22) 12) (qs "linecaster.machine" 355) (qr 227)
noncomputable def zoD:Obj:=qT []
noncomputable def ztV:Obj:=qN []
noncomputable def zri:Obj:=qT [(qs "self" 472)]
noncomputable def zsR:Obj:=qT []
noncomputable def zuG:Obj:=qg "slugs" "Machine.slugs" (zah (top 22) 13)
noncomputable def zqf:Obj:=qC "slugs" "Machine.slugs" 469 148 1 0 0 3 229 true 230 .none (qr 231) (qr 232) (qr 233) 473 474
noncomputable def zre:Obj:=qf "slugs" "Machine.slugs" (zah (top 22) 13) (qs "linecaster.machine" 355) (qr 234)
noncomputable def zrF:Obj:=qT []
noncomputable def zun:Obj:=qN []
noncomputable def zpQ:Obj:=qT [(qs "self" 479)]
noncomputable def zss:Obj:=qT []
noncomputable def ztv:Obj:=qg "waited" "Machine.waited" (zah (top 22) 14)
noncomputable def zqp:Obj:=qC "waited" "Machine.waited" 476 151 1 0 0 3 236 true 237 .none (qr 238) (qr 239) (qr 240) 480 481
noncomputable def zrT:Obj:=qf "waited" "Machine.waited" (zah (top 22) 14) (qs "linecaster.machine" 355) (qr 241)
noncomputable def zqR:Obj:=qT []
noncomputable def ztK:Obj:=qN []
noncomputable def ztC:Obj:=qg "channels" "Machine.channels" (zah (top 22) 15)
noncomputable def zpm:Obj:=qC "channels" "Machine.channels" 483 154 1 0 0 3 243 true 244 .none .none .none (qr 245) 486 487
noncomputable def zqX:Obj:=qf "channels" "Machine.channels" (zah (top 22) 15) (qs "linecaster.machine" 355) (qr 246)
noncomputable def zqg:Obj:=qT []
noncomputable def ztZ:Obj:=qN []
noncomputable def zrU:Obj:=qT [(qs "self" 492)]
noncomputable def zpp:Obj:=qT []
noncomputable def ztT:Obj:=qg "numbers_lying" "Machine.numbers_lying" (zah (top 22) 16)
noncomputable def zsl:Obj:=qC "numbers_lying" "Machine.numbers_lying" 489 157 1 0 0 3 248 true 249 .none (qr 250) (qr 251) (qr 252) 493 494
noncomputable def zrl:Obj:=qf "numbers_lying" "Machine.numbers_lying" (zah (top 22) 16) (qs "linecaster.machine" 355) (qr 253)
noncomputable def zsU:Obj:=qT []
noncomputable def ztJ:Obj:=qN []
noncomputable def zqk:Obj:=qT [(qs "self" 499)]
noncomputable def zoQ:Obj:=qT []
noncomputable def zuv:Obj:=qg "gathered" "Machine.gathered" (zah (top 22) 17)
noncomputable def zqc:Obj:=qC "gathered" "Machine.gathered" 496 160 1 0 0 3 255 true 256 .none (qr 257) (qr 258) (qr 259) 500 501
noncomputable def zsJ:Obj:=qf "gathered" "Machine.gathered" (zah (top 22) 17) (qs "linecaster.machine" 355) (qr 260)
noncomputable def zsP:Obj:=qT []
noncomputable def ztl:Obj:=qN []
noncomputable def zpc:Obj:=qT [(qs "self" 506)]
noncomputable def zsn:Obj:=qT []
noncomputable def zuy:Obj:=qg "in_caster" "Machine.in_caster" (zah (top 22) 18)
noncomputable def zso:Obj:=qC "in_caster" "Machine.in_caster" 503 163 1 0 0 3 262 true 263 .none (qr 264) (qr 265) (qr 266) 507 508
noncomputable def zrV:Obj:=qf "in_caster" "Machine.in_caster" (zah (top 22) 18) (qs "linecaster.machine" 355) (qr 267)
noncomputable def zsS:Obj:=qT []
noncomputable def zty:Obj:=qN []
noncomputable def zrc:Obj:=qT [(qs "self" 513)]
noncomputable def zqe:Obj:=qT []
noncomputable def zuw:Obj:=qg "bar" "Machine.bar" (zah (top 22) 19)
noncomputable def zrY:Obj:=qC "bar" "Machine.bar" 510 166 1 0 0 3 269 true 270 .none (qr 271) (qr 272) (qr 273) 514 515
noncomputable def zpU:Obj:=qf "bar" "Machine.bar" (zah (top 22) 19) (qs "linecaster.machine" 355) (qr 274)
noncomputable def zsA:Obj:=qT [(qs "case" 517),(qs "casting" 518),(qs "done" 519),(qs "hanging" 520),(qs "heated" 521),(qs "line" 522),(qs "lying" 523),(qs "played" 524),(qs "struck" 525),(qs "texts" 526),(qs "to_go" 527),(qs "waits" 528)]
noncomputable def zpj (P:Params):Obj:=⟨(qt "dict"),.none,(.dict #[qe P "__module__" 366 (qs "linecaster.machine" 355),qe P "__firstlineno__" 370 (.int (67) 369),qe P "__init__" 381 (qr 146),qe P "next_key" 388 (qr 153),qe P "lacks_matrix" 396 (qr 160),qe P "stuck" 403 (qr 167),qe P "resting" 410 (qr 174),qe P "move_bar" 418 (qr 181),qe P "move_caster" 424 (qr 186),qe P "move_line" 432 (qr 193),qe P "send_line" 439 (qr 200),qe P "take" 447 (qr 207),qe P "tick" 454 (qr 214),qe P "run" 461 (qr 221),qe P "ticks" 468 (qr 228),qe P "slugs" 475 (qr 235),qe P "waited" 482 (qr 242),qe P "channels" 488 (qr 247),qe P "numbers_lying" 495 (qr 254),qe P "gathered" 502 (qr 261),qe P "in_caster" 509 (qr 268),qe P "bar" 516 (qr 275),qe P "__static_attributes__" 529 (qr 276),qe P "__dict__" 531 (qr 279),qe P "__weakref__" 533 (qr 280),qe P "__doc__" 534 .none] 4),#[]⟩
noncomputable def zpI:Obj:=⟨(qt "type"),.none,(.cls ⟨(.ofString "Machine"),[(qt "object")],[(qr 278),(qt "object")],277,(.ofString "Machine"),true,[],[],false,.none,false⟩),#[.none,.none,(.some (qs "Machine" 359)),(.some (qs "Machine" 367)),(.some (qb "object.__new__")),(.some (.bool true))]⟩
noncomputable def zqq:Obj:=⟨(qt "getset_descriptor"),.none,(.fields #[(qs "__dict__" 530),(qr 278),(qb "function.__dict__"),(qb "function.__dict__#set")]),#[]⟩
noncomputable def zoZ:Obj:=⟨(qt "getset_descriptor"),.none,(.fields #[(qs "__weakref__" 532),(qr 278),(qb "ExceptionGroup.__weakref__"),.none]),#[]⟩
noncomputable def ztH:Obj:=⟨(qt "super"),.none,(.fields #[(qr 278),(qr 278),(qr 278)]),#[]⟩
noncomputable def zuu:Obj:=⟨(qt "builtin_function_or_method"),.none,(.fields #[(qb "object.__init_subclass__"),(qr 278)]),#[]⟩
noncomputable def zoI:Obj:=qT []
noncomputable def zuU:Obj:=qN []
noncomputable def zqh:Obj:=qT [(qs "_law_script" 542),(qs "_law_k" 543)]
noncomputable def zsX:Obj:=qT []
noncomputable def zuT:Obj:=qg "_law_cell_at" "_law_cell_at" (top 24)
noncomputable def zrP:Obj:=qC "_law_cell_at" "_law_cell_at" 539 169 2 0 0 3 283 true 284 .none (qr 285) (qr 286) (qr 287) 544 545
noncomputable def zoW:Obj:=qf "_law_cell_at" "_law_cell_at" (top 24) (qs "law_linecaster_k47_whole_each_matrix_somewhe" 537) (qr 288)
noncomputable def zsy:Obj:=qT []
noncomputable def zuX:Obj:=qN []
noncomputable def zpK:Obj:=qT [(qs "_law_cell" 550),(qs "_law_k" 551)]
noncomputable def zru:Obj:=qT []
noncomputable def zuz:Obj:=qg "_law_mixed" "_law_mixed" (top 25)
noncomputable def zsx:Obj:=qC "_law_mixed" "_law_mixed" 547 173 2 0 0 3 290 true 291 .none (qr 292) (qr 293) (qr 294) 552 553
noncomputable def zrw:Obj:=qf "_law_mixed" "_law_mixed" (top 25) (qs "law_linecaster_k47_whole_each_matrix_somewhe" 537) (qr 295)
noncomputable def zsT:Obj:=qT []
noncomputable def zti:Obj:=qN []
noncomputable def zsN:Obj:=qT [(qs "_law_one" 558),(qs "_law_many" 559)]
noncomputable def zpL:Obj:=qT []
noncomputable def zuE:Obj:=qg "_law_bits" "_law_bits" (top 26)
noncomputable def zpt:Obj:=qC "_law_bits" "_law_bits" 555 175 1 0 0 3 297 true 298 .none (qr 299) (qr 300) (qr 301) 560 561
noncomputable def zrO:Obj:=qf "_law_bits" "_law_bits" (top 26) (qs "law_linecaster_k47_whole_each_matrix_somewhe" 537) (qr 302)
noncomputable def zsu:Obj:=qT []
noncomputable def zuF:Obj:=qN []
noncomputable def zum:Obj:=qg "_law_teeth" "_law_teeth" (top 27)
noncomputable def zpR:Obj:=qC "_law_teeth" "_law_teeth" 563 181 2 0 0 3 304 true 305 .none .none .none (qr 306) 566 567
noncomputable def zrL:Obj:=qf "_law_teeth" "_law_teeth" (top 27) (qs "law_linecaster_k47_whole_each_matrix_somewhe" 537) (qr 307)
noncomputable def zqG:Obj:=qT []
noncomputable def ztm:Obj:=qN []
noncomputable def ztc:Obj:=qT [(qs "_law_script" 572),(qs "_law_most" 573),(qs "_law_signs" 574),(qs "_law_number" 575),(qs "_law_teeth_here" 576),(qs "_law_case_here" 577),(qs "_law_k" 578),(qs "_law_one" 579),(qs "_law_sign" 580)]
noncomputable def zqV:Obj:=qT []
noncomputable def ztL:Obj:=qg "_law_case" "_law_case" (top 28)
noncomputable def zoV:Obj:=qC "_law_case" "_law_case" 569 190 2 0 0 3 309 true 310 .none (qr 311) (qr 312) (qr 313) 581 582
noncomputable def zpB:Obj:=qf "_law_case" "_law_case" (top 28) (qs "law_linecaster_k47_whole_each_matrix_somewhe" 537) (qr 314)
noncomputable def zsW:Obj:=qT []
noncomputable def zuK:Obj:=qN []
noncomputable def ztu:Obj:=qg "_law_lines" "_law_lines" (top 29)
noncomputable def zsc:Obj:=qC "_law_lines" "_law_lines" 584 200 2 0 0 3 316 true 317 .none .none .none (qr 318) 587 588
noncomputable def zsG:Obj:=qf "_law_lines" "_law_lines" (top 29) (qs "law_linecaster_k47_whole_each_matrix_somewhe" 537) (qr 319)
noncomputable def zpS:Obj:=qT []
noncomputable def zvf:Obj:=qN []
noncomputable def zut:Obj:=qg "_law_keys" "_law_keys" (top 30)
noncomputable def zpy:Obj:=qC "_law_keys" "_law_keys" 590 212 1 0 0 3 321 true 322 .none .none .none (qr 323) 593 594
noncomputable def zpr:Obj:=qf "_law_keys" "_law_keys" (top 30) (qs "law_linecaster_k47_whole_each_matrix_somewhe" 537) (qr 324)
noncomputable def zrH:Obj:=qT []
noncomputable def ztI:Obj:=qN []
noncomputable def zsa:Obj:=qT [(qs "_law_case_here" 599),(qs "_law_cell" 600),(qs "_law_found" 601),(qs "_law_k" 602),(qs "_law_channel" 603),(qs "_law_lost" 604)]
noncomputable def zsf:Obj:=qT []
noncomputable def ztU:Obj:=qg "_law_broken" "_law_broken" (top 31)
noncomputable def zqo:Obj:=qC "_law_broken" "_law_broken" 596 214 2 0 0 3 326 true 327 .none (qr 328) (qr 329) (qr 330) 605 606
noncomputable def zpf:Obj:=qf "_law_broken" "_law_broken" (top 31) (qs "law_linecaster_k47_whole_each_matrix_somewhe" 537) (qr 331)
noncomputable def zqw:Obj:=qT []
noncomputable def ztp:Obj:=qN []
noncomputable def ztM:Obj:=qg "_law_all" "_law_all" (top 32)
noncomputable def zpq:Obj:=qC "_law_all" "_law_all" 608 222 1 0 0 3 333 true 334 .none .none .none (qr 335) 611 612
noncomputable def zrg:Obj:=qf "_law_all" "_law_all" (top 32) (qs "law_linecaster_k47_whole_each_matrix_somewhe" 537) (qr 336)
noncomputable def zqE:Obj:=qT []
noncomputable def zva:Obj:=qN []
noncomputable def zrW:Obj:=qT [(qs "_law_machine" 617)]
noncomputable def zqs:Obj:=qT []
noncomputable def ztY:Obj:=qg "_law_seen" "_law_seen" (top 33)
noncomputable def zoT:Obj:=qC "_law_seen" "_law_seen" 614 228 1 0 0 3 338 true 339 .none (qr 340) (qr 341) (qr 342) 618 619
noncomputable def zsv:Obj:=qf "_law_seen" "_law_seen" (top 33) (qs "law_linecaster_k47_whole_each_matrix_somewhe" 537) (qr 343)
noncomputable def zqB:Obj:=qT []
noncomputable def zvh:Obj:=qN []
noncomputable def zqD:Obj:=qT [(qs "_law_machine" 624),(qs "_law_case_here" 625),(qs "_law_k" 626),(qs "_law_lane" 627),(qs "_law_sign" 628),(qs "_law_teeth_here" 629)]
noncomputable def zsD:Obj:=qT []
noncomputable def ztX:Obj:=qg "_law_own" "_law_own" (top 34)
noncomputable def zsq:Obj:=qC "_law_own" "_law_own" 621 230 2 0 0 3 345 true 346 .none (qr 347) (qr 348) (qr 349) 630 631
noncomputable def zrX:Obj:=qf "_law_own" "_law_own" (top 34) (qs "law_linecaster_k47_whole_each_matrix_somewhe" 537) (qr 350)
noncomputable def zoK:Obj:=qT []
noncomputable def zuD:Obj:=qN []
noncomputable def zpP:Obj:=qT [(qs "_law_script" 636),(qs "_law_case_here" 637),(qs "_law_keys_here" 638),(qs "_law_lost_ones" 639),(qs "_law_machine" 640),(qs "_law_every" 641),(qs "_law_seen_here" 642),(qs "_law_alike" 643),(qs "_law_inside" 644),(qs "_law_struck" 645)]
noncomputable def zsY:Obj:=qT []
noncomputable def zuZ:Obj:=qg "law" "law" (top 35)
noncomputable def zqu:Obj:=qC "law" "law" 633 236 1 0 0 3 352 true 353 .none (qr 354) (qr 355) (qr 356) 646 647
noncomputable def zqr:Obj:=qf "law" "law" (top 35) (qs "law_linecaster_k47_whole_each_matrix_somewhe" 537) (qr 357)
noncomputable def a_11 (P:Params):Obj:=h_11
noncomputable def a_12 (P:Params):Obj:=qN []
noncomputable def a_13 (P:Params):Obj:=h_13
noncomputable def a_14 (P:Params):Obj:=h_14
noncomputable def hO (P:Params):List Obj:=[boot_o_0 P,boot_o_1 P,boot_o_2 P,h_3 P,boot_o_4 P,boot_o_5 P,boot_o_6 P,boot_o_7 P,boot_o_8 P,boot_o_9 P,boot_o_10 P,h_11,h_12,h_13,h_14,h_15,h_16,h_17,h_18,h_19,h_20,h_21,h_22,h_23,h_24 P,h_25,h_26,h_27,h_28,h_29,h_30 P,h_31,h_32,h_33,h_34,h_35,h_36,h_37 P,h_38,h_39,h_40,h_41,h_42,h_43,h_44,h_45,h_46,h_47,h_48,h_49,h_50 P,h_51,h_52,h_53,h_54,h_55,h_56 P,h_57,h_58,h_59,h_60,h_61,h_62,h_63,h_64,h_65,h_66,h_67,h_68,h_69 P,h_70,h_71,h_72,h_73,h_74,h_75,h_76,h_77,h_78,h_79,h_80,h_81,h_82,h_83,h_84,h_85,h_86,h_87,h_88,h_89,h_90,h_91,h_92,h_93,h_94,h_95,h_96,h_97,h_98,h_99,zve,zqT,zry,zuL,zqW,zpF,zqS,ztS,zsC,zoJ,zub,zpu,zpe,zqA,zuj,zpJ,zrh,zuH,zsk,zqa,zpT,zui,zoU,zqJ,zvj,zqi,zsw,zsZ,zvi,zuB,zrm,zoE,zuS,zuA,zvc P,zuO,ztx,zud,zuI,zsM,zpa,ztR,zsb,zqM,zto,zoN,zsQ,zpk,ztj,zrk,zpW,ztG,zpZ,zqx,zsp,ztk,zrz,zpH,zts,zpi,zpo,zrn,zuc,zsj,zpX,ztP,zoR,zrS,zoM,ztw,zsr,zra,ztf,zpV,zpG,zpx,ztD,zrr,zrK,ztW,zpz,zoL,zqv,zuo,zte,zoG,zqF,zoS,zvg,zpC,zrA,zus,zpg,zpw,zrv,zuR,zqy,zsK,zuW,zsi,zrJ,zsB,ztF,zoP,zsm,ztE,zqd,zqQ,zqj,zuq,zqN,zrI,zur,zrt,zrf,zqt,zuk,zpl,zqb,ztQ,zsE,zpn,zqU,ztB,zsh,zsz,zuf,zoF,zqC,zoD,ztV,zri,zsR,zuG,zqf,zre,zrF,zun,zpQ,zss,ztv,zqp,zrT,zqR,ztK,ztC,zpm,zqX,zqg,ztZ,zrU,zpp,ztT,zsl,zrl,zsU,ztJ,zqk,zoQ,zuv,zqc,zsJ,zsP,ztl,zpc,zsn,zuy,zso,zrV,zsS,zty,zrc,zqe,zuw,zrY,zpU,zsA,zpj P,zpI,zqq,zoZ,ztH,zuu,zoI,zuU,zqh,zsX,zuT,zrP,zoW,zsy,zuX,zpK,zru,zuz,zsx,zrw,zsT,zti,zsN,zpL,zuE,zpt,zrO,zsu,zuF,zum,zpR,zrL,zqG,ztm,ztc,zqV,ztL,zoV,zpB,zsW,zuK,ztu,zsc,zsG,zpS,zvf,zut,zpy,zpr,zrH,ztI,zsa,zsf,ztU,zqo,zpf,zqw,ztp,ztM,zpq,zrg,zqE,zva,zrW,zqs,ztY,zoT,zsv,zqB,zvh,zqD,zsD,ztX,zsq,zrX,zoK,zuD,zpP,zsY,zuZ,zqu,zqr]
noncomputable def hA (P:Params):List Obj:=[boot_o_0 P,boot_o_1 P,boot_o_2 P,boot_o_3 P,boot_o_4 P,boot_o_5 P,boot_o_6 P,boot_o_7 P,boot_o_8 P,boot_o_9 P,boot_o_10 P,a_11 P,a_12 P,a_13 P,a_14 P]
noncomputable def hK (P:Params):Frag:=(nat_lit 2,boot_o_2 P) :: (nat_lit 3,h_3 P) :: (nat_lit 15,h_15) :: (nat_lit 17,h_17) :: (nat_lit 18,h_18) :: (nat_lit 20,h_20) :: (nat_lit 21,h_21) :: (nat_lit 22,h_22) :: (nat_lit 29,h_29) :: (nat_lit 30,h_30 P) :: (nat_lit 31,h_31) :: (nat_lit 32,h_32) :: (nat_lit 35,h_35) :: (nat_lit 42,h_42) :: (nat_lit 44,h_44) :: (nat_lit 45,h_45) :: (nat_lit 47,h_47) :: (nat_lit 48,h_48) :: (nat_lit 49,h_49) :: (nat_lit 50,h_50 P) :: (nat_lit 51,h_51) :: (nat_lit 54,h_54) :: (nat_lit 61,h_61) :: (nat_lit 63,h_63) :: (nat_lit 64,h_64) :: (nat_lit 66,h_66) :: (nat_lit 67,h_67) :: (nat_lit 68,h_68) :: (nat_lit 69,h_69 P) :: (nat_lit 70,h_70) :: (nat_lit 73,h_73) :: (nat_lit 75,h_75) :: (nat_lit 76,h_76) :: (nat_lit 78,h_78) :: (nat_lit 79,h_79) :: (nat_lit 80,h_80) :: (nat_lit 82,h_82) :: (nat_lit 83,h_83) :: (nat_lit 85,h_85) :: (nat_lit 86,h_86) :: (nat_lit 87,h_87) :: (nat_lit 89,h_89) :: (nat_lit 90,h_90) :: (nat_lit 92,h_92) :: (nat_lit 93,h_93) :: (nat_lit 94,h_94) :: (nat_lit 97,h_97) :: (nat_lit 98,h_98) :: (nat_lit 99,h_99) :: (nat_lit 101,zqT) :: (nat_lit 102,zry) :: (nat_lit 104,zqW) :: (nat_lit 105,zpF) :: (nat_lit 106,zqS) :: (nat_lit 108,zsC) :: (nat_lit 109,zoJ) :: (nat_lit 111,zpu) :: (nat_lit 112,zpe) :: (nat_lit 113,zqA) :: (nat_lit 115,zpJ) :: (nat_lit 116,zrh) :: (nat_lit 118,zsk) :: (nat_lit 119,zqa) :: (nat_lit 120,zpT) :: (nat_lit 122,zoU) :: (nat_lit 123,zqJ) :: (nat_lit 125,zqi) :: (nat_lit 126,zsw) :: (nat_lit 127,zsZ) :: (nat_lit 130,zrm) :: (nat_lit 131,zoE) :: (nat_lit 139,zsM) :: (nat_lit 140,zpa) :: (nat_lit 142,zsb) :: (nat_lit 143,zqM) :: (nat_lit 145,zoN) :: (nat_lit 146,zsQ) :: (nat_lit 147,zpk) :: (nat_lit 149,zrk) :: (nat_lit 150,zpW) :: (nat_lit 152,zpZ) :: (nat_lit 153,zqx) :: (nat_lit 154,zsp) :: (nat_lit 156,zrz) :: (nat_lit 157,zpH) :: (nat_lit 159,zpi) :: (nat_lit 160,zpo) :: (nat_lit 161,zrn) :: (nat_lit 163,zsj) :: (nat_lit 164,zpX) :: (nat_lit 166,zoR) :: (nat_lit 167,zrS) :: (nat_lit 168,zoM) :: (nat_lit 170,zsr) :: (nat_lit 171,zra) :: (nat_lit 173,zpV) :: (nat_lit 174,zpG) :: (nat_lit 175,zpx) :: (nat_lit 177,zrr) :: (nat_lit 178,zrK) :: (nat_lit 180,zpz) :: (nat_lit 181,zoL) :: (nat_lit 182,zqv) :: (nat_lit 185,zoG) :: (nat_lit 186,zqF) :: (nat_lit 187,zoS) :: (nat_lit 189,zpC) :: (nat_lit 190,zrA) :: (nat_lit 192,zpg) :: (nat_lit 193,zpw) :: (nat_lit 194,zrv) :: (nat_lit 196,zqy) :: (nat_lit 197,zsK) :: (nat_lit 199,zsi) :: (nat_lit 200,zrJ) :: (nat_lit 201,zsB) :: (nat_lit 203,zoP) :: (nat_lit 204,zsm) :: (nat_lit 206,zqd) :: (nat_lit 207,zqQ) :: (nat_lit 208,zqj) :: (nat_lit 210,zqN) :: (nat_lit 211,zrI) :: (nat_lit 213,zrt) :: (nat_lit 214,zrf) :: (nat_lit 215,zqt) :: (nat_lit 217,zpl) :: (nat_lit 218,zqb) :: (nat_lit 220,zsE) :: (nat_lit 221,zpn) :: (nat_lit 222,zqU) :: (nat_lit 224,zsh) :: (nat_lit 225,zsz) :: (nat_lit 227,zoF) :: (nat_lit 228,zqC) :: (nat_lit 229,zoD) :: (nat_lit 231,zri) :: (nat_lit 232,zsR) :: (nat_lit 234,zqf) :: (nat_lit 235,zre) :: (nat_lit 236,zrF) :: (nat_lit 238,zpQ) :: (nat_lit 239,zss) :: (nat_lit 241,zqp) :: (nat_lit 242,zrT) :: (nat_lit 243,zqR) :: (nat_lit 246,zpm) :: (nat_lit 247,zqX) :: (nat_lit 248,zqg) :: (nat_lit 250,zrU) :: (nat_lit 251,zpp) :: (nat_lit 253,zsl) :: (nat_lit 254,zrl) :: (nat_lit 255,zsU) :: (nat_lit 257,zqk) :: (nat_lit 258,zoQ) :: (nat_lit 260,zqc) :: (nat_lit 261,zsJ) :: (nat_lit 262,zsP) :: (nat_lit 264,zpc) :: (nat_lit 265,zsn) :: (nat_lit 267,zso) :: (nat_lit 268,zrV) :: (nat_lit 269,zsS) :: (nat_lit 271,zrc) :: (nat_lit 272,zqe) :: (nat_lit 274,zrY) :: (nat_lit 275,zpU) :: (nat_lit 276,zsA) :: (nat_lit 277,zpj P) :: (nat_lit 278,zpI) :: (nat_lit 279,zqq) :: (nat_lit 280,zoZ) :: (nat_lit 283,zoI) :: (nat_lit 285,zqh) :: (nat_lit 286,zsX) :: (nat_lit 288,zrP) :: (nat_lit 289,zoW) :: (nat_lit 290,zsy) :: (nat_lit 292,zpK) :: (nat_lit 293,zru) :: (nat_lit 295,zsx) :: (nat_lit 296,zrw) :: (nat_lit 297,zsT) :: (nat_lit 299,zsN) :: (nat_lit 300,zpL) :: (nat_lit 302,zpt) :: (nat_lit 303,zrO) :: (nat_lit 304,zsu) :: (nat_lit 307,zpR) :: (nat_lit 308,zrL) :: (nat_lit 309,zqG) :: (nat_lit 311,ztc) :: (nat_lit 312,zqV) :: (nat_lit 314,zoV) :: (nat_lit 315,zpB) :: (nat_lit 316,zsW) :: (nat_lit 319,zsc) :: (nat_lit 320,zsG) :: (nat_lit 321,zpS) :: (nat_lit 324,zpy) :: (nat_lit 325,zpr) :: (nat_lit 326,zrH) :: (nat_lit 328,zsa) :: (nat_lit 329,zsf) :: (nat_lit 331,zqo) :: (nat_lit 332,zpf) :: (nat_lit 333,zqw) :: (nat_lit 336,zpq) :: (nat_lit 337,zrg) :: (nat_lit 338,zqE) :: (nat_lit 340,zrW) :: (nat_lit 341,zqs) :: (nat_lit 343,zoT) :: (nat_lit 344,zsv) :: (nat_lit 345,zqB) :: (nat_lit 347,zqD) :: (nat_lit 348,zsD) :: (nat_lit 350,zsq) :: (nat_lit 351,zrX) :: (nat_lit 352,zoK) :: (nat_lit 354,zpP) :: (nat_lit 355,zsY) :: (nat_lit 357,zqu) :: (nat_lit 358,zqr) :: []
abbrev has:List Addr:=[2,3,15,17,18,20,21,22,29,30,31,32,35,42,44,45,47,48,49,50,51,54,61,63,64,66,67,68,69,70,73,75,76,78,79,80,82,83,85,86,87,89,90,92,93,94,97,98,99,101,102,104,105,106,108,109,111,112,113,115,116,118,119,120,122,123,125,126,127,130,131,139,140,142,143,145,146,147,149,150,152,153,154,156,157,159,160,161,163,164,166,167,168,170,171,173,174,175,177,178,180,181,182,185,186,187,189,190,192,193,194,196,197,199,200,201,203,204,206,207,208,210,211,213,214,215,217,218,220,221,222,224,225,227,228,229,231,232,234,235,236,238,239,241,242,243,246,247,248,250,251,253,254,255,257,258,260,261,262,264,265,267,268,269,271,272,274,275,276,277,278,279,280,283,285,286,288,289,290,292,293,295,296,297,299,300,302,303,304,307,308,309,311,312,314,315,316,319,320,321,324,325,326,328,329,331,332,333,336,337,338,340,341,343,344,345,347,348,350,351,352,354,355,357,358]
abbrev zhi:Life:=⟨[],[],[],0,[],[],false,#[],[],0,false,false,false,0,[2000,10,10],false,0,true,[],[],0,false⟩
abbrev hD:HD:=⟨4642,12,0,2258,1,⟨0,0,0,0⟩,187,⟨0,0,0,0⟩,187,⟨0,0,0,0⟩,649,359,15,⟨0,0,0,0⟩,⟨0,0,0,0⟩,⟨0,0,0,0⟩,⟨236,0,253,110⟩,(qr 13),14,(.some (qr 6))⟩
abbrev hview:Program:={ PySem.Challenge.pw_linecaster_k47_whole_each_matrix_somewhe with main:={ PySem.Challenge.pw_linecaster_k47_whole_each_matrix_somewhe.main with body:=[top 0,top 2,top 3,top 4,top 6,top 7,top 9,top 10,top 12,top 13,top 14,top 15,top 16,top 18,top 19,top 21,top 22,top 24,top 25,top 26,top 27,top 28,top 29,top 30,top 31,top 32,top 33,top 34,top 35] } }
theorem hpre:Hd.Pre PySem.Challenge.pw_linecaster_k47_whole_each_matrix_somewhe hD zhi hA:=fun w os=>by kernel_rfl
theorem hblk:Hd.Blk PySem.Challenge.pw_linecaster_k47_whole_each_matrix_somewhe hD zhi hA:=fun w os=>by kernel_rfl
theorem hgo:Hd.Go PySem.Challenge.pw_linecaster_k47_whole_each_matrix_somewhe hD zhi hA hO:=fun w os=>by kernel_rfl
theorem hfin:Hd.Fin PySem.Challenge.pw_linecaster_k47_whole_each_matrix_somewhe hD zhi hO:=fun w os=>by kernel_rfl
theorem hl1:Hd.Lk1 PySem.Challenge.pw_linecaster_k47_whole_each_matrix_somewhe hD zhi hO:=fun w os=>by kernel_rfl
theorem hl3:Hd.Lk3 hD zhi hO hK has:=fun w os=>by kernel_rfl
theorem hKe:∀ P,has=(hK P).map (·.1):=fun P=>by kernel_rfl
theorem hl2:Hd.Lk2 PySem.Challenge.pw_linecaster_k47_whole_each_matrix_somewhe hview hD zhi hO (Hd.XtH PySem.Challenge.rw_linecaster_k47_whole_each_matrix_somewhe hview):=fun w os=>by kernel_rfl
theorem hsaid:Hd.zro PySem.Challenge.rw_linecaster_k47_whole_each_matrix_somewhe=true:=by kernel_rfl
theorem hleft:LeftO PySem.Challenge.pw_linecaster_k47_whole_each_matrix_somewhe hview [] (Hd.XtH PySem.Challenge.rw_linecaster_k47_whole_each_matrix_somewhe hview) (Hook.obs (kHook hK has hKe)) (Hook.val (kHook hK has hKe)) hD.N:=Hd.zof (D:=hD) (L:=zhi) (A:=hA) (O:=hO) (by kernel_rfl) (fun s=>by kernel_rfl) (by kernel_rfl) (by kernel_rfl) (by kernel_rfl) hpre hblk hgo hfin hl1 hl2 hl3
end
end
end Lw
open PySem PySem.W PyProof.Rows
set_option maxRecDepth 100000 in
set_option maxHeartbeats 0 in
theorem PySem.Challenge.cw_linecaster_k47_whole_each_matrix_somewhe_holds : PySem.Challenge.rw_linecaster_k47_whole_each_matrix_somewhe.Holds := by
 w_on
 refine Hd.holds (st:=Lw.s_law) (x:="law") (l:=PySem.Challenge.rw_linecaster_k47_whole_each_matrix_somewhe) (q:=Lw.hview) (K:=Lw.hK) (as:=Lw.has) (e:=Lw.hKe) (N:=Lw.hD.N) Lw.hsaid Lw.hleft (by kernel_rfl) (by kernel_rfl) (by kernel_rfl) (by kernel_rfl) (by decide +kernel) ⟨rfl,rfl,rfl,rfl,rfl,by decide +kernel⟩ ?hw ?hc
 (case hw=>w_witness2)
 k_fill
 refine L2.walk_ofK (l:=PySem.Challenge.rw_linecaster_k47_whole_each_matrix_somewhe) (n:=63) (k:=Lw.lawLevel) (x:="_law_script") (CX:=L2.CX0) (sp:=Lw.sp_law) rfl (by decide) rfl ⟨rfl,by decide,by decide⟩ (fun w h Y=>PySem.W.kIn_of Y) ?F ?S ?C
 case F =>
  intro w mg fa h KX G hmg
  have T:∃ a:Lw.Ad,Lw.Tx (L2.KOf KX) mg a:=by
   dsimp only [L2.KOf]
   refine' Lw.txt_mk KX G ?a0 ?l0 ?c0 ?k0 ?a1 ?l1 ?c1 ?k1 ?a2 ?l2 ?c2 ?k2 ?a3 ?l3 ?c3 ?k3 ?a4 ?l4 ?c4 ?k4 ?a5 ?l5 ?c5 ?k5 ?a6 ?l6 ?c6 ?k6 ?a7 ?l7 ?c7 ?k7 ?a8 ?l8 ?c8 ?k8 ?a9 ?l9 ?c9 ?k9 ?a10 ?l10 ?c10 ?k10 ?a11 ?l11 ?c11 ?k11 ?a12 ?l12 ?c12 ?k12 ?a13 ?l13 ?c13 ?k13 ?a14 ?l14 ?c14 ?k14 ?a15 ?l15 ?c15 ?k15 ?a16 ?l16 ?c16 ?k16 ?a17 ?l17 ?c17 ?k17 ?a18 ?l18 ?c18 ?k18 ?a19 ?l19 ?c19 ?k19 ?a20 ?l20 ?c20 ?k20 ?a21 ?l21 ?c21 ?k21 ?ca_Machine ?pg_Machine ?hd_Machine ?po_Machine ?sa_Machine ?mk_Machine ?kc_Machine ?a_Machine_init ?i_Machine_init ?l_Machine_init ?c_Machine_init ?k_Machine_init ?t_Machine_init ?a_Machine_next_key ?i_Machine_next_key ?l_Machine_next_key ?c_Machine_next_key ?k_Machine_next_key ?a_Machine_lacks_matrix ?i_Machine_lacks_matrix ?l_Machine_lacks_matrix ?c_Machine_lacks_matrix ?k_Machine_lacks_matrix ?a_Machine_stuck ?i_Machine_stuck ?l_Machine_stuck ?c_Machine_stuck ?k_Machine_stuck ?a_Machine_resting ?i_Machine_resting ?l_Machine_resting ?c_Machine_resting ?k_Machine_resting ?a_Machine_move_bar ?i_Machine_move_bar ?l_Machine_move_bar ?c_Machine_move_bar ?k_Machine_move_bar ?a_Machine_move_caster ?i_Machine_move_caster ?l_Machine_move_caster ?c_Machine_move_caster ?k_Machine_move_caster ?a_Machine_move_line ?i_Machine_move_line ?l_Machine_move_line ?c_Machine_move_line ?k_Machine_move_line ?a_Machine_send_line ?i_Machine_send_line ?l_Machine_send_line ?c_Machine_send_line ?k_Machine_send_line ?a_Machine_take ?i_Machine_take ?l_Machine_take ?c_Machine_take ?k_Machine_take ?a_Machine_tick ?i_Machine_tick ?l_Machine_tick ?c_Machine_tick ?k_Machine_tick ?a_Machine_slugs ?i_Machine_slugs ?l_Machine_slugs ?c_Machine_slugs ?k_Machine_slugs ?a_Machine_channels ?i_Machine_channels ?l_Machine_channels ?c_Machine_channels ?k_Machine_channels ?a_Machine_gathered ?i_Machine_gathered ?l_Machine_gathered ?c_Machine_gathered ?k_Machine_gathered ?a_Machine_in_caster ?i_Machine_in_caster ?l_Machine_in_caster ?c_Machine_in_caster ?k_Machine_in_caster ?a_Machine_bar ?i_Machine_bar ?l_Machine_bar ?c_Machine_bar ?k_Machine_bar ?n_Machine_lying ?n_Machine_case ?n_Machine_played ?n_Machine_struck ?n_Machine_casting ?n_Machine_line ?n_Machine_heated ?n_Machine_to_go ?n_Machine_hanging ?n_Machine_texts ?n_Machine_done ?n_Machine_waits ?y_GAP_KEY ?y_SEND_KEY ?y_WEDGE ?z_ValueError ?z_enumerate ?z_int ?z_len ?z_list ?z_range ?z_sorted
   (case a0=>k_is)
   (case l0=>k_is)
   (case c0=>k_is)
   (case k0=>k_is)
   (case a1=>k_is)
   (case l1=>k_is)
   (case c1=>k_is)
   (case k1=>k_is)
   (case a2=>k_is)
   (case l2=>k_is)
   (case c2=>k_is)
   (case k2=>k_is)
   (case a3=>k_is)
   (case l3=>k_is)
   (case c3=>k_is)
   (case k3=>k_is)
   (case a4=>k_is)
   (case l4=>k_is)
   (case c4=>k_is)
   (case k4=>k_is)
   (case a5=>k_is)
   (case l5=>k_is)
   (case c5=>k_is)
   (case k5=>k_is)
   (case a6=>k_is)
   (case l6=>k_is)
   (case c6=>k_is)
   (case k6=>k_is)
   (case a7=>k_is)
   (case l7=>k_is)
   (case c7=>k_is)
   (case k7=>k_is)
   (case a8=>k_is)
   (case l8=>k_is)
   (case c8=>k_is)
   (case k8=>k_is)
   (case a9=>k_is)
   (case l9=>k_is)
   (case c9=>k_is)
   (case k9=>k_is)
   (case a10=>k_is)
   (case l10=>k_is)
   (case c10=>k_is)
   (case k10=>k_is)
   (case a11=>k_is)
   (case l11=>k_is)
   (case c11=>k_is)
   (case k11=>k_is)
   (case a12=>k_is)
   (case l12=>k_is)
   (case c12=>k_is)
   (case k12=>k_is)
   (case a13=>k_is)
   (case l13=>k_is)
   (case c13=>k_is)
   (case k13=>k_is)
   (case a14=>k_is)
   (case l14=>k_is)
   (case c14=>k_is)
   (case k14=>k_is)
   (case a15=>k_is)
   (case l15=>k_is)
   (case c15=>k_is)
   (case k15=>k_is)
   (case a16=>k_is)
   (case l16=>k_is)
   (case c16=>k_is)
   (case k16=>k_is)
   (case a17=>k_is)
   (case l17=>k_is)
   (case c17=>k_is)
   (case k17=>k_is)
   (case a18=>k_is)
   (case l18=>k_is)
   (case c18=>k_is)
   (case k18=>k_is)
   (case a19=>k_is)
   (case l19=>k_is)
   (case c19=>k_is)
   (case k19=>k_is)
   (case a20=>k_is)
   (case l20=>k_is)
   (case c20=>k_is)
   (case k20=>k_is)
   (case a21=>k_is)
   (case l21=>k_is)
   (case c21=>k_is)
   (case k21=>k_is)
   (case ca_Machine=>k_is)
   (case pg_Machine=>k_is)
   (case hd_Machine=>k_is)
   (case po_Machine=>k_is)
   (case sa_Machine=>k_is)
   (case mk_Machine=>k_is)
   (case kc_Machine=>k_is)
   (case a_Machine_init=>k_is)
   (case i_Machine_init=>k_is)
   (case l_Machine_init=>k_is)
   (case c_Machine_init=>k_is)
   (case k_Machine_init=>k_is)
   (case t_Machine_init=>k_is)
   (case a_Machine_next_key=>k_is)
   (case i_Machine_next_key=>k_is)
   (case l_Machine_next_key=>k_is)
   (case c_Machine_next_key=>k_is)
   (case k_Machine_next_key=>k_is)
   (case a_Machine_lacks_matrix=>k_is)
   (case i_Machine_lacks_matrix=>k_is)
   (case l_Machine_lacks_matrix=>k_is)
   (case c_Machine_lacks_matrix=>k_is)
   (case k_Machine_lacks_matrix=>k_is)
   (case a_Machine_stuck=>k_is)
   (case i_Machine_stuck=>k_is)
   (case l_Machine_stuck=>k_is)
   (case c_Machine_stuck=>k_is)
   (case k_Machine_stuck=>k_is)
   (case a_Machine_resting=>k_is)
   (case i_Machine_resting=>k_is)
   (case l_Machine_resting=>k_is)
   (case c_Machine_resting=>k_is)
   (case k_Machine_resting=>k_is)
   (case a_Machine_move_bar=>k_is)
   (case i_Machine_move_bar=>k_is)
   (case l_Machine_move_bar=>k_is)
   (case c_Machine_move_bar=>k_is)
   (case k_Machine_move_bar=>k_is)
   (case a_Machine_move_caster=>k_is)
   (case i_Machine_move_caster=>k_is)
   (case l_Machine_move_caster=>k_is)
   (case c_Machine_move_caster=>k_is)
   (case k_Machine_move_caster=>k_is)
   (case a_Machine_move_line=>k_is)
   (case i_Machine_move_line=>k_is)
   (case l_Machine_move_line=>k_is)
   (case c_Machine_move_line=>k_is)
   (case k_Machine_move_line=>k_is)
   (case a_Machine_send_line=>k_is)
   (case i_Machine_send_line=>k_is)
   (case l_Machine_send_line=>k_is)
   (case c_Machine_send_line=>k_is)
   (case k_Machine_send_line=>k_is)
   (case a_Machine_take=>k_is)
   (case i_Machine_take=>k_is)
   (case l_Machine_take=>k_is)
   (case c_Machine_take=>k_is)
   (case k_Machine_take=>k_is)
   (case a_Machine_tick=>k_is)
   (case i_Machine_tick=>k_is)
   (case l_Machine_tick=>k_is)
   (case c_Machine_tick=>k_is)
   (case k_Machine_tick=>k_is)
   (case a_Machine_slugs=>k_is)
   (case i_Machine_slugs=>k_is)
   (case l_Machine_slugs=>k_is)
   (case c_Machine_slugs=>k_is)
   (case k_Machine_slugs=>k_is)
   (case a_Machine_channels=>k_is)
   (case i_Machine_channels=>k_is)
   (case l_Machine_channels=>k_is)
   (case c_Machine_channels=>k_is)
   (case k_Machine_channels=>k_is)
   (case a_Machine_gathered=>k_is)
   (case i_Machine_gathered=>k_is)
   (case l_Machine_gathered=>k_is)
   (case c_Machine_gathered=>k_is)
   (case k_Machine_gathered=>k_is)
   (case a_Machine_in_caster=>k_is)
   (case i_Machine_in_caster=>k_is)
   (case l_Machine_in_caster=>k_is)
   (case c_Machine_in_caster=>k_is)
   (case k_Machine_in_caster=>k_is)
   (case a_Machine_bar=>k_is)
   (case i_Machine_bar=>k_is)
   (case l_Machine_bar=>k_is)
   (case c_Machine_bar=>k_is)
   (case k_Machine_bar=>k_is)
   (case n_Machine_lying=>k_is)
   (case n_Machine_case=>k_is)
   (case n_Machine_played=>k_is)
   (case n_Machine_struck=>k_is)
   (case n_Machine_casting=>k_is)
   (case n_Machine_line=>k_is)
   (case n_Machine_heated=>k_is)
   (case n_Machine_to_go=>k_is)
   (case n_Machine_hanging=>k_is)
   (case n_Machine_texts=>k_is)
   (case n_Machine_done=>k_is)
   (case n_Machine_waits=>k_is)
   (case y_GAP_KEY=>k_is)
   (case y_SEND_KEY=>k_is)
   (case y_WEDGE=>k_is)
   (case z_ValueError=>k_is)
   (case z_enumerate=>k_is)
   (case z_int=>k_is)
   (case z_len=>k_is)
   (case z_list=>k_is)
   (case z_range=>k_is)
   (case z_sorted=>k_is)
  obtain ⟨a,T⟩:=T
  have e0:=hmg.symm.trans T.law.mg
  cases e0
  exact ⟨_,fun s u=>.of_eq (T.law.ba [u] rfl),fun base kb nb=>Lw.ok_law T⟩
 case S=>exact fun K H a ns hl hO hS=>⟨a,ns,rfl,hS,hl,fun _=>rfl⟩
 case C=>exact fun _ _ _ _ z=>z
