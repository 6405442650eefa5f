import PyProof.Rows.All
import Wide.All
import OpenK.AllK
import Wide.FinOn
import Lean
import PyProof.EqAt
import PyProof.EqKinds
import PyProof.TupleCall
import PyProof.P3Eq
import PyProof.NeData
import PyProof.Rows.SortShellK
import PySem.Challenge.RW_linecaster_k75_whole_desk
set_option Elab.async false
set_option linter.all false
set_option maxRecDepth 100000
noncomputable section
local macro_rules | `(tactic| lk) => `(tactic| decide)
local macro_rules | `(tactic| room) => `(tactic| decide +kernel)
local macro_rules | `(tactic| w_up) => `(tactic| kernel_rfl)
abbrev ϊ:=PySem.Value->PySem.Shared->Prop
abbrev ϋ:=PySem.Str->Option PySem.Value
abbrev ό:=PySem.Params->List PySem.Obj
abbrev ύ:=List (PySem.Addr×PySem.Obj)
abbrev ώ:=List PySem.Str
abbrev Ϗ:=List PySem.Value
abbrev ϐ:=Option PySem.Value
abbrev ϑ:=Option Int
abbrev ϒ:=Option PySem.Addr
abbrev ϓ:=List Int
abbrev ϔ:=List Nat
abbrev ϕ:=List PySem.Obj
abbrev ϖ:=List PySem.Addr
abbrev ϗ:=List PySem.Expr
abbrev Ϙ:=List (Int×Int)
abbrev ϙ:=List (PySem.Str×PySem.Addr)
abbrev Ϛ:=List PySem.Env
abbrev ϛ:=PySem.Result->PySem.Shared->Prop
abbrev Ϝ:=List PySem.Keyword
abbrev ϝ:=PySem.Addr->Prop
abbrev Ϟ:=PySem.Value
abbrev ϟ:=PySem.Shared
abbrev Ϡ:=PySem.Addr
abbrev ϡ:=PySem.W.Frag
abbrev Ϣ:=PySem.World
abbrev ϣ:=PySem.Program
abbrev Ϥ:=PySem.Heap
abbrev ϥ:=PySem.Str
abbrev Ϧ:=PySem.Expr
abbrev ϧ:=PySem.Stmt
abbrev Ϩ:=@Option
abbrev ϩ:=@List
def U:a=a:=rfl
section
variable {C a b c d e f g h:Prop}{α β γ δ ε ζ ω:Type}
def KM(F:a->b->C)(H:a/\b):C:=F H.1 H.2
def ED(F:a->b->c->C):a/\b/\c->C:=KM λx=>KM (F x)
def FY(F:a->b->c->d->C):a/\b/\c/\d->C:=KM λx=>ED (F x)
def HP(F:a->b->c->d->e->C):a/\b/\c/\d/\e->C:=KM λx=>FY (F x)
def FZ(F:a->b->c->d->e->f->C):a/\b/\c/\d/\e/\f->C:=KM λx=>HP (F x)
def MU(F:a->b->c->d->e->f->g->C):a/\b/\c/\d/\e/\f/\g->C:=KM λx=>FZ (F x)
def MV(F:a->b->c->d->e->f->g->h->C):a/\b/\c/\d/\e/\f/\g/\h->C:=KM λx=>MU (F x)
def Z0{P:α->Prop}(H:∃i,P i)(F:∀i,P i->C):C:=H.elim F
def Sk{P:α->β->Prop}(H:∃i j,P i j)(F:∀i j,P i j->C):C:=H.elim λx H=>Z0 H (F x)
def QA{P:α->β->γ->Prop}(H:∃i j k,P i j k)(F:∀i j k,P i j k->C):C:=H.elim λx H=>Sk H (F x)
def VT{P:α->β->γ->δ->Prop}(H:∃i j o k,P i j o k)(F:∀i j o k,P i j o k->C):C:=H.elim λx H=>QA H (F x)
def Sl{P:α->β->γ->δ->ε->Prop}(H:∃i k p o j,P i k p o j)(F:∀i k p o j,P i k p o j->C):C:=H.elim λx H=>VT H (F x)
def jg{P:α->β->γ->δ->ε->ζ->Prop}(H:∃i k p o j r,P i k p o j r)(F:∀i k p o j r,P i k p o j r->C):C:=H.elim λx H=>Sl H (F x)
def OV{P:α->Prop}(F:∀i,P i->C)(H:∃i,P i):C:=Z0 H F
def JG{P:α->β->Prop}(F:∀i j,P i j->C)(H:∃i j,P i j):C:=Sk H F
def GA{P:α->β->γ->Prop}(F:∀i j k,P i j k->C)(H:∃i j k,P i j k):C:=QA H F
def HX{P:α->β->γ->δ->Prop}(F:∀i j o k,P i j o k->C)(H:∃i j o k,P i j o k):C:=VT H F
def EK{P:α->β->γ->δ->ε->Prop}(F:∀i k p o j,P i k p o j->C)(H:∃i k p o j,P i k p o j):C:=Sl H F
def Ry{P:α->β->γ->δ->ε->ζ->Prop}(F:∀i k p o j r,P i k p o j r->C)(H:∃i k p o j r,P i k p o j r):C:=jg H F
def MW{P:α->Prop}(i)(H:P i):∃i,P i:=⟨i,H⟩
def Nm{P:α->β->Prop}(i)(j)(H:P i j):∃i j,P i j:=⟨i,j,H⟩
def JH{P:α->β->γ->Prop}(i)(j)(k)(H:P i j k):∃i j k,P i j k:=⟨i,j,k,H⟩
def LO{P:α->β->γ->δ->Prop}(i)(j)(o)(k)(H:P i j o k):∃i j o k,P i j o k:=⟨i,j,o,k,H⟩
def DC{P:α->β->γ->δ->ε->Prop}(i)(k)(p)(o)(j)(H:P i k p o j):∃i k p o j,P i k p o j:=⟨i,k,p,o,j,H⟩
def LG(i:a)(j:b):a/\b:=⟨i,j⟩
def IQ(i:a)(k:b)(j:c):a/\b/\c:=⟨i,LG k j⟩
def GC(i:a)(k:b)(j:c)(o:d):a/\b/\c/\d:=⟨i,IQ k j o⟩
def MX(i:a)(k:b)(p:c)(o:d)(j:e):a/\b/\c/\d/\e:=⟨i,GC k p o j⟩
def IR(i:a)(k:b)(p:c)(o:d)(j:e)(r:f):a/\b/\c/\d/\e/\f:=⟨i,MX k p o j r⟩
def DY(i:a)(o:b)(r:c)(p:d)(j:e)(s:f)(k:g):a/\b/\c/\d/\e/\f/\g:=⟨i,IR o r p j s k⟩
section
variable {D:ω->Prop}{G:α->ω}{p0 p1 p2:α->Prop}
def GD(F:∀a,p0 a->D (G a)):∀X,(∃a,X=G a/\p0 a)->D X:=λ_=>OV λa H=>H.1 ▸ F a H.2
def Oo(F:∀a,p0 a->p1 a->D (G a)):∀X,(∃a,X=G a/\p0 a/\p1 a)->D X:=λ_=>OV λa H=>H.1 ▸ KM (F a) H.2
def KN(F:∀a,p0 a->p1 a->p2 a->D (G a)):∀X,(∃a,X=G a/\p0 a/\p1 a/\p2 a)->D X:=λ_=>OV λa H=>H.1 ▸ ED (F a) H.2
end
section
variable {D:ω->Prop}{G:α->β->ω}{p0 p1 p2 p3 p4:α->β->Prop}
def KE(F:∀a b,p0 a b->D (G a b)):∀X,(∃a b,X=G a b/\p0 a b)->D X:=λ_=>JG λa b H=>H.1 ▸ F a b H.2
def Rz(F:∀a b,p0 a b->p1 a b->D (G a b)):∀X,(∃a b,X=G a b/\p0 a b/\p1 a b)->D X:=λ_=>JG λa b H=>H.1 ▸ KM (F a b) H.2
def HY(F:∀a b,p0 a b->p1 a b->p2 a b->D (G a b)):∀X,(∃a b,X=G a b/\p0 a b/\p1 a b/\p2 a b)->D X:=λ_=>JG λa b H=>H.1 ▸ ED (F a b) H.2
def Q7(F:∀a b,p0 a b->p1 a b->p2 a b->p3 a b->D (G a b)):∀X,(∃a b,X=G a b/\p0 a b/\p1 a b/\p2 a b/\p3 a b)->D X:=λ_=>JG λa b H=>H.1 ▸ FY (F a b) H.2
def VU(F:∀a b,p0 a b->p1 a b->p2 a b->p3 a b->p4 a b->D (G a b)):∀X,(∃a b,X=G a b/\p0 a b/\p1 a b/\p2 a b/\p3 a b/\p4 a b)->D X:=λ_=>JG λa b H=>H.1 ▸ HP (F a b) H.2
end
section
variable {D:ω->Prop}{G:α->β->γ->ω}{p0 p1 p2 p3 p4 p5 p6:α->β->γ->Prop}
def NY(F:∀a b c,p0 a b c->D (G a b c)):∀X,(∃a b c,X=G a b c/\p0 a b c)->D X:=λ_=>GA λa b c H=>H.1 ▸ F a b c H.2
def jh(F:∀a b c,p0 a b c->p1 a b c->D (G a b c)):∀X,(∃a b c,X=G a b c/\p0 a b c/\p1 a b c)->D X:=λ_=>GA λa b c H=>H.1 ▸ KM (F a b c) H.2
def RA(F:∀a b c,p0 a b c->p1 a b c->p2 a b c->D (G a b c)):∀X,(∃a b c,X=G a b c/\p0 a b c/\p1 a b c/\p2 a b c)->D X:=λ_=>GA λa b c H=>H.1 ▸ ED (F a b c) H.2
def Q8(F:∀a b c,p0 a b c->p1 a b c->p2 a b c->p3 a b c->D (G a b c)):∀X,(∃a b c,X=G a b c/\p0 a b c/\p1 a b c/\p2 a b c/\p3 a b c)->D X:=λ_=>GA λa b c H=>H.1 ▸ FY (F a b c) H.2
def RB(F:∀a b c,p0 a b c->p1 a b c->p2 a b c->p3 a b c->p4 a b c->D (G a b c)):∀X,(∃a b c,X=G a b c/\p0 a b c/\p1 a b c/\p2 a b c/\p3 a b c/\p4 a b c)->D X:=λ_=>GA λa b c H=>H.1 ▸ HP (F a b c) H.2
def Z1(F:∀a b c,p0 a b c->p1 a b c->p2 a b c->p3 a b c->p4 a b c->p5 a b c->D (G a b c)):∀X,(∃a b c,X=G a b c/\p0 a b c/\p1 a b c/\p2 a b c/\p3 a b c/\p4 a b c/\p5 a b c)->D X:=λ_=>GA λa b c H=>H.1 ▸ FZ (F a b c) H.2
def Sm(F:∀a b c,p0 a b c->p1 a b c->p2 a b c->p3 a b c->p4 a b c->p5 a b c->p6 a b c->D (G a b c)):∀X,(∃a b c,X=G a b c/\p0 a b c/\p1 a b c/\p2 a b c/\p3 a b c/\p4 a b c/\p5 a b c/\p6 a b c)->D X:=λ_=>GA λa b c H=>H.1 ▸ MU (F a b c) H.2
end
section
variable {D:ω->Prop}{G:α->β->γ->δ->ω}{p0 p1 p2 p3 p4 p5 p6 p7:α->β->γ->δ->Prop}
def Sn(F:∀a b c d,p0 a b c d->D (G a b c d)):∀X,(∃a b c d,X=G a b c d/\p0 a b c d)->D X:=λ_=>HX λa b c d H=>H.1 ▸ F a b c d H.2
def JP(F:∀a b c d,p0 a b c d->p1 a b c d->p2 a b c d->D (G a b c d)):∀X,(∃a b c d,X=G a b c d/\p0 a b c d/\p1 a b c d/\p2 a b c d)->D X:=λ_=>HX λa b c d H=>H.1 ▸ ED (F a b c d) H.2
def RC(F:∀a b c d,p0 a b c d->p1 a b c d->p2 a b c d->p3 a b c d->D (G a b c d)):∀X,(∃a b c d,X=G a b c d/\p0 a b c d/\p1 a b c d/\p2 a b c d/\p3 a b c d)->D X:=λ_=>HX λa b c d H=>H.1 ▸ FY (F a b c d) H.2
def VW(F:∀a b c d,p0 a b c d->p1 a b c d->p2 a b c d->p3 a b c d->p4 a b c d->D (G a b c d)):∀X,(∃a b c d,X=G a b c d/\p0 a b c d/\p1 a b c d/\p2 a b c d/\p3 a b c d/\p4 a b c d)->D X:=λ_=>HX λa b c d H=>H.1 ▸ HP (F a b c d) H.2
def So(F:∀a b c d,p0 a b c d->p1 a b c d->p2 a b c d->p3 a b c d->p4 a b c d->p5 a b c d->D (G a b c d)):∀X,(∃a b c d,X=G a b c d/\p0 a b c d/\p1 a b c d/\p2 a b c d/\p3 a b c d/\p4 a b c d/\p5 a b c d)->D X:=λ_=>HX λa b c d H=>H.1 ▸ FZ (F a b c d) H.2
def Z2(F:∀a b c d,p0 a b c d->p1 a b c d->p2 a b c d->p3 a b c d->p4 a b c d->p5 a b c d->p6 a b c d->D (G a b c d)):∀X,(∃a b c d,X=G a b c d/\p0 a b c d/\p1 a b c d/\p2 a b c d/\p3 a b c d/\p4 a b c d/\p5 a b c d/\p6 a b c d)->D X:=λ_=>HX λa b c d H=>H.1 ▸ MU (F a b c d) H.2
def Z3(F:∀a b c d,p0 a b c d->p1 a b c d->p2 a b c d->p3 a b c d->p4 a b c d->p5 a b c d->p6 a b c d->p7 a b c d->D (G a b c d)):∀X,(∃a b c d,X=G a b c d/\p0 a b c d/\p1 a b c d/\p2 a b c d/\p3 a b c d/\p4 a b c d/\p5 a b c d/\p6 a b c d/\p7 a b c d)->D X:=λ_=>HX λa b c d H=>H.1 ▸ MV (F a b c d) H.2
end
section
variable {D:ω->Prop}{G:α->β->γ->δ->ε->ω}{p0 p1 p2 p3 p4 p5 p6 p7:α->β->γ->δ->ε->Prop}
def Sq(F:∀a b c d e,p0 a b c d e->D (G a b c d e)):∀X,(∃a b c d e,X=G a b c d e/\p0 a b c d e)->D X:=λ_=>EK λa b c d e H=>H.1 ▸ F a b c d e H.2
def VX(F:∀a b c d e,p0 a b c d e->p1 a b c d e->D (G a b c d e)):∀X,(∃a b c d e,X=G a b c d e/\p0 a b c d e/\p1 a b c d e)->D X:=λ_=>EK λa b c d e H=>H.1 ▸ KM (F a b c d e) H.2
def VY(F:∀a b c d e,p0 a b c d e->p1 a b c d e->p2 a b c d e->D (G a b c d e)):∀X,(∃a b c d e,X=G a b c d e/\p0 a b c d e/\p1 a b c d e/\p2 a b c d e)->D X:=λ_=>EK λa b c d e H=>H.1 ▸ ED (F a b c d e) H.2
def RD(F:∀a b c d e,p0 a b c d e->p1 a b c d e->p2 a b c d e->p3 a b c d e->D (G a b c d e)):∀X,(∃a b c d e,X=G a b c d e/\p0 a b c d e/\p1 a b c d e/\p2 a b c d e/\p3 a b c d e)->D X:=λ_=>EK λa b c d e H=>H.1 ▸ FY (F a b c d e) H.2
def Z4(F:∀a b c d e,p0 a b c d e->p1 a b c d e->p2 a b c d e->p3 a b c d e->p4 a b c d e->D (G a b c d e)):∀X,(∃a b c d e,X=G a b c d e/\p0 a b c d e/\p1 a b c d e/\p2 a b c d e/\p3 a b c d e/\p4 a b c d e)->D X:=λ_=>EK λa b c d e H=>H.1 ▸ HP (F a b c d e) H.2
def Z5(F:∀a b c d e,p0 a b c d e->p1 a b c d e->p2 a b c d e->p3 a b c d e->p4 a b c d e->p5 a b c d e->D (G a b c d e)):∀X,(∃a b c d e,X=G a b c d e/\p0 a b c d e/\p1 a b c d e/\p2 a b c d e/\p3 a b c d e/\p4 a b c d e/\p5 a b c d e)->D X:=λ_=>EK λa b c d e H=>H.1 ▸ FZ (F a b c d e) H.2
def Z6(F:∀a b c d e,p0 a b c d e->p1 a b c d e->p2 a b c d e->p3 a b c d e->p4 a b c d e->p5 a b c d e->p6 a b c d e->D (G a b c d e)):∀X,(∃a b c d e,X=G a b c d e/\p0 a b c d e/\p1 a b c d e/\p2 a b c d e/\p3 a b c d e/\p4 a b c d e/\p5 a b c d e/\p6 a b c d e)->D X:=λ_=>EK λa b c d e H=>H.1 ▸ MU (F a b c d e) H.2
def VZ(F:∀a b c d e,p0 a b c d e->p1 a b c d e->p2 a b c d e->p3 a b c d e->p4 a b c d e->p5 a b c d e->p6 a b c d e->p7 a b c d e->D (G a b c d e)):∀X,(∃a b c d e,X=G a b c d e/\p0 a b c d e/\p1 a b c d e/\p2 a b c d e/\p3 a b c d e/\p4 a b c d e/\p5 a b c d e/\p6 a b c d e/\p7 a b c d e)->D X:=λ_=>EK λa b c d e H=>H.1 ▸ MV (F a b c d e) H.2
end
section
variable {D:ω->Prop}{G:α->β->γ->δ->ε->ζ->ω}{p0 p1 p2 p3 p4 p5 p6:α->β->γ->δ->ε->ζ->Prop}
def Ss(F:∀a b c d e f,p0 a b c d e f->D (G a b c d e f)):∀X,(∃a b c d e f,X=G a b c d e f/\p0 a b c d e f)->D X:=λ_=>Ry λa b c d e f H=>H.1 ▸ F a b c d e f H.2
def ji(F:∀a b c d e f,p0 a b c d e f->p1 a b c d e f->p2 a b c d e f->D (G a b c d e f)):∀X,(∃a b c d e f,X=G a b c d e f/\p0 a b c d e f/\p1 a b c d e f/\p2 a b c d e f)->D X:=λ_=>Ry λa b c d e f H=>H.1 ▸ ED (F a b c d e f) H.2
def Su(F:∀a b c d e f,p0 a b c d e f->p1 a b c d e f->p2 a b c d e f->p3 a b c d e f->D (G a b c d e f)):∀X,(∃a b c d e f,X=G a b c d e f/\p0 a b c d e f/\p1 a b c d e f/\p2 a b c d e f/\p3 a b c d e f)->D X:=λ_=>Ry λa b c d e f H=>H.1 ▸ FY (F a b c d e f) H.2
def jj(F:∀a b c d e f,p0 a b c d e f->p1 a b c d e f->p2 a b c d e f->p3 a b c d e f->p4 a b c d e f->D (G a b c d e f)):∀X,(∃a b c d e f,X=G a b c d e f/\p0 a b c d e f/\p1 a b c d e f/\p2 a b c d e f/\p3 a b c d e f/\p4 a b c d e f)->D X:=λ_=>Ry λa b c d e f H=>H.1 ▸ HP (F a b c d e f) H.2
def Z7(F:∀a b c d e f,p0 a b c d e f->p1 a b c d e f->p2 a b c d e f->p3 a b c d e f->p4 a b c d e f->p5 a b c d e f->D (G a b c d e f)):∀X,(∃a b c d e f,X=G a b c d e f/\p0 a b c d e f/\p1 a b c d e f/\p2 a b c d e f/\p3 a b c d e f/\p4 a b c d e f/\p5 a b c d e f)->D X:=λ_=>Ry λa b c d e f H=>H.1 ▸ FZ (F a b c d e f) H.2
def jk(F:∀a b c d e f,p0 a b c d e f->p1 a b c d e f->p2 a b c d e f->p3 a b c d e f->p4 a b c d e f->p5 a b c d e f->p6 a b c d e f->D (G a b c d e f)):∀X,(∃a b c d e f,X=G a b c d e f/\p0 a b c d e f/\p1 a b c d e f/\p2 a b c d e f/\p3 a b c d e f/\p4 a b c d e f/\p5 a b c d e f/\p6 a b c d e f)->D X:=λ_=>Ry λa b c d e f H=>H.1 ▸ MU (F a b c d e f) H.2
end
section
variable {p0 p1 p2 p3 p4:α->Prop}
def AS(F:∀a,p0 a->p1 a->C):(∃a,p0 a/\p1 a)->C:=OV λa=>KM (F a)
def DN(F:∀a,p0 a->p1 a->p2 a->C):(∃a,p0 a/\p1 a/\p2 a)->C:=OV λa=>ED (F a)
def GK(F:∀a,p0 a->p1 a->p2 a->p3 a->C):(∃a,p0 a/\p1 a/\p2 a/\p3 a)->C:=OV λa=>FY (F a)
def OW(F:∀a,p0 a->p1 a->p2 a->p3 a->p4 a->C):(∃a,p0 a/\p1 a/\p2 a/\p3 a/\p4 a)->C:=OV λa=>HP (F a)
variable (a:α) (y0:p0 a) (y1:p1 a) (y2:p2 a) (y3:p3 a)
def AU:∃a,p0 a/\p1 a:=⟨a,y0,y1⟩
def HA:∃a,p0 a/\p1 a/\p2 a:=⟨a,y0,y1,y2⟩
def IS:∃a,p0 a/\p1 a/\p2 a/\p3 a:=⟨a,y0,y1,y2,y3⟩
end
section
variable {p0 p1 p2 p3 p4 p5:α->β->Prop}
def EX(F:∀a b,p0 a b->p1 a b->C):(∃a b,p0 a b/\p1 a b)->C:=JG λa b=>KM (F a b)
def GL(F:∀a b,p0 a b->p1 a b->p2 a b->C):(∃a b,p0 a b/\p1 a b/\p2 a b)->C:=JG λa b=>ED (F a b)
def IK(F:∀a b,p0 a b->p1 a b->p2 a b->p3 a b->C):(∃a b,p0 a b/\p1 a b/\p2 a b/\p3 a b)->C:=JG λa b=>FY (F a b)
def Q9(F:∀a b,p0 a b->p1 a b->p2 a b->p3 a b->p4 a b->C):(∃a b,p0 a b/\p1 a b/\p2 a b/\p3 a b/\p4 a b)->C:=JG λa b=>HP (F a b)
def Qa(F:∀a b,p0 a b->p1 a b->p2 a b->p3 a b->p4 a b->p5 a b->C):(∃a b,p0 a b/\p1 a b/\p2 a b/\p3 a b/\p4 a b/\p5 a b)->C:=JG λa b=>FZ (F a b)
variable (a:α) (b:β) (y0:p0 a b) (y1:p1 a b) (y2:p2 a b) (y3:p3 a b) (y4:p4 a b)
def Nn:∃a b,p0 a b/\p1 a b:=⟨a,b,y0,y1⟩
def BY:∃a b,p0 a b/\p1 a b/\p2 a b:=⟨a,b,y0,y1,y2⟩
def CM:∃a b,p0 a b/\p1 a b/\p2 a b/\p3 a b:=⟨a,b,y0,y1,y2,y3⟩
def MY:∃a b,p0 a b/\p1 a b/\p2 a b/\p3 a b/\p4 a b:=⟨a,b,y0,y1,y2,y3,y4⟩
end
section
variable {p0 p1 p2 p3 p4:α->β->γ->Prop}
def Oq(F:∀a b c,p0 a b c->p1 a b c->C):(∃a b c,p0 a b c/\p1 a b c)->C:=GA λa b c=>KM (F a b c)
def Qb(F:∀a b c,p0 a b c->p1 a b c->p2 a b c->p3 a b c->p4 a b c->C):(∃a b c,p0 a b c/\p1 a b c/\p2 a b c/\p3 a b c/\p4 a b c)->C:=GA λa b c=>HP (F a b c)
variable (a:α) (b:β) (c:γ) (y0:p0 a b c) (y1:p1 a b c) (y2:p2 a b c) (y3:p3 a b c) (y4:p4 a b c)
def Qc:∃a b c,p0 a b c/\p1 a b c/\p2 a b c:=⟨a,b,c,y0,y1,y2⟩
def LH:∃a b c,p0 a b c/\p1 a b c/\p2 a b c/\p3 a b c:=⟨a,b,c,y0,y1,y2,y3⟩
def DZ:∃a b c,p0 a b c/\p1 a b c/\p2 a b c/\p3 a b c/\p4 a b c:=⟨a,b,c,y0,y1,y2,y3,y4⟩
end
section
variable {p0 p1 p2 p3 p4 p5:α->β->γ->δ->Prop}
variable (a:α) (b:β) (c:γ) (d:δ) (y0:p0 a b c d) (y1:p1 a b c d) (y2:p2 a b c d) (y3:p3 a b c d) (y4:p4 a b c d) (y5:p5 a b c d)
def EM:∃a b c d,p0 a b c d/\p1 a b c d/\p2 a b c d/\p3 a b c d:=⟨a,b,c,d,y0,y1,y2,y3⟩
def DH:∃a b c d,p0 a b c d/\p1 a b c d/\p2 a b c d/\p3 a b c d/\p4 a b c d:=⟨a,b,c,d,y0,y1,y2,y3,y4⟩
def NL:∃a b c d,p0 a b c d/\p1 a b c d/\p2 a b c d/\p3 a b c d/\p4 a b c d/\p5 a b c d:=⟨a,b,c,d,y0,y1,y2,y3,y4,y5⟩
end
section
variable {p0 p1 p2 p3 p4:α->β->γ->δ->ε->ζ->Prop}
variable (a:α) (b:β) (c:γ) (d:δ) (e:ε) (f:ζ) (y0:p0 a b c d e f) (y1:p1 a b c d e f) (y2:p2 a b c d e f) (y3:p3 a b c d e f) (y4:p4 a b c d e f)
def OX:∃a b c d e f,p0 a b c d e f/\p1 a b c d e f/\p2 a b c d e f/\p3 a b c d e f/\p4 a b c d e f:=⟨a,b,c,d,e,f,y0,y1,y2,y3,y4⟩
end
end
def NM{a:Sort _}{x:a}{q:Prop}:x=x\/q:=Or.inl U
def W1{a:Sort _}:q\/x=x:=Or.inr U
def A3:=@List.length_map
def A5:=@PySem.wpAny_bind
def A6:=@List.getElem?_eq_getElem
def A7:=@PySem.Heap.get?_push_of_some
def A9:=@Nat.le_refl
def Aa:=@List.mem_cons_self
def Ab:=@decide_eq_true
def Ac:=@List.mem_cons_of_mem
def Ae:=@List.map_append
def Af:=@List.mem_of_getElem?
def Ag:=@List.length_append
def Ah:=@List.mem_singleton
def Ai:=@List.take_of_length_le
def Aj:=@decide_eq_false
def Ak:=@PySem.wpAny_pure
def Al:=@List.mem_cons
def Am:=@List.take_add_one
def An:=@List.getElem?_map
def Ao:=@List.length_take
def Ap:=@List.getElem?_eq_some_iff
def Aq:=@List.append_nil
def Ar:=@Bool.and_eq_true
def As:=@PySem.Heap.lt_size
def Au:=@Array.length_toList
def Av:=@if_neg
def Aw:=@Nat.le_trans
def Ax:=@of_decide_eq_true
def Ay:=@PySem.F.plainAttrs_list
def Az:=@Option.map_eq_some_iff
def B0:=@Option.some.inj
def B1:=@if_pos
def B2:=@PySem.Paired.length
def B4:=@List.append_assoc
def B5:=@List.size_toArray
def B6:=@PySem.PassesOwn.never
def B8:=@Nat.zero_le
def Ba:=@PySem.Str.length_append
def Bb:=@List.length_cons
def Bc:=@PySem.Heap.get?_push_size
def Be:=@List.mem_append
def Bf:=@List.getD_eq_getElem?_getD
def Bg:=@Bool.false_ne_true
def Bh:=@PySem.Heap.get?_update_other
def Bi:=@PySem.F.plainAttrs_str
def Bj:=@PySem.F.slot_list_append
def Bk:=@PySem.F.type_list_append
def Bl:=@List.not_mem_nil
def Bm:=@List.mem_append_right
def Bn:=@Nat.ne_of_lt
def Bo:=@List.cons_ne_nil
def Bp:=@List.map_cons
def Bq:=@List.mem_map
def Bs:=@Nat.lt_of_lt_of_le
def Bt:=@congrArg
def Bu:=@PySem.F.slot_str_join
def Bv:=@PySem.F.type_str_join
def Bw:=@List.all_eq_true
def Bx:=@Int.eq_ofNat_of_zero_le
def By:=@List.length_replicate
def Bz:=@PySem.Paired.snoc
def C2:=@List.nodup_cons
def C3:=@beq_iff_eq
def C4:=@decide_eq_decide
def C5:=@Nat.le_of_ble_eq_true
def C6:=@PySem.StrLaws.glued_eq_join
def C7:=@List.getElem_of_mem
def C8:=@PyProof.Rows.callWith_type1
def C9:=@PySem.wpAny_holding
def Ca:=@PySem.wpAny_Call_Name_kw
def Cb:=@List.getElem?_append_right
def Cc:=@PySem.Heap.get?_update_self
def Cd:=@List.findIdx?_eq_some_iff_getElem
def Ce:=@List.mem_append_left
def Cg:=@List.append_eq_nil_iff
def Ci:=@PySem.wpAny_truthy_bool
def Cj:=@PySem.wpAny_loadPart_at
def Ck:=@PySem.Heap.size_push
def Cn:=@PySem.W.mg_of
def Co:=@PySem.wpAny_mono
def Cq:=@List.length_eq_zero_iff
def Cr:=@Ne.symm
def Ct:=@PySem.wpAny_field
def Cu:=@List.length_drop
def Cv:=@List.getElem?_append_left
def Cw:=@List.length_pos_iff
def Cy:=@Nat.lt_irrefl
def Cz:=@List.cons.inj
def D0:=@List.eq_of_mem_replicate
def D3:=@decide_eq_true_iff
def D7:=@List.map_map
def D8:=@PySem.wpAny_newObj_type
def Dc:=@List.flatten_cons
def Dd:=@or_false
def De:=@PySem.wpAny_nextOf_list_item
def Df:=@PySem.mem_of_lookup
def Dh:=@List.replicate_succ
def Di:=@Bool.eq_iff_iff
def Dj:=@Int.le_refl
def Dl:=@List.mem_iff_getElem?
def Dn:=@List.getElem_mem
def Do:=@PySem.W.callWith_K
def Dq:=@PySem.wpAny_setField_rec
def Ds:=@PySem.wpAny_standAt
def Dt:=@Option.isSome_iff_exists
def Du:=@List.sum_cons
def Dv:=@Int.zero_add
def Dw:=@Bool.and_eq_true_iff
def Dx:=@List.mem_range
def Dy:=@PySem.wpAny_seqItems
def E3:=@Nat.not_lt_zero
def E4:=@Nat.ne_of_gt
def E5:=@List.mem_filterMap
def E6:=@Bool.false_eq_true
def E7:=@Int.emod_lt_of_pos
def E8:=@PySem.wpAny_passesOwn
def E9:=@Nat.min_eq_left
def Ea:=@PySem.wpAny_updateSeq
def Eb:=@Int.emod_nonneg
def Ec:=@PySem.codeAny_mono
def Ed:=@Nat.le_succ
def Ee:=@PyProof.Rows.slot_tuple_getitem
def Ef:=@beq_eq_false_iff_ne
def Eg:=@PySem.wpAny_isSubtype_exc
def Eh:=@PySem.F.plain_min_loop
def Ei:=@List.getElem_map
def Ej:=@decide_eq_false_iff_not
def Ek:=@Int.mul_le_mul_of_nonneg_left
def El:=@Nat.le_of_eq
def Em:=@PySem.call_meets
def En:=@Nat.sub_self
def Eo:=@PySem.StrLaws.join_length_le
def Ep:=@PySem.F.slot_str_split
def Er:=@PySem.F.type_str_split
def Es:=@List.length_set
def Et:=@List.find?_cons
def Eu:=@List.any_cons
def Ew:=@Array.getElem?_toList
def Ex:=@List.filterMap_append
def Ey:=@PySem.W.methodCall_KW
def Ez:=@PySem.wpAny_nextOf_list_end
def F0:=@PySem.wpAny_pyIter_list
def F1:=@List.getElem?_set
def F3:=@List.nodup_append
def F4:=@PySem.wpAny_call
def F5:=@List.forIn_nil
def F6:=@List.nodup_nil
def F7:=@PySem.Around.under_plainId
def F8:=@PySem.wpAny_letGo
def F9:=@PySem.codeAny_call_builtin
def Fb:=@Array.getElem?_eq_some_iff
def Fc:=@PySem.F.excBase_ValueError
def Fd:=@Nat.le_of_lt
def Fe:=@List.lookup_cons
def Ff:=@Nat.lt_trans
def Fg:=@Bool.or_true
def Fh:=@List.any_eq_true
def Fi:=@List.findIdx?_eq_none_iff
def Fj:=@List.drop_eq_getElem_cons
def Fk:=@List.mem_or_eq_of_mem_set
def Fl:=@List.pairwise_iff_getElem
def Fm:=@List.map_congr_left
def Fn:=@List.filterMap_cons
def Fo:=@List.takeWhile_cons
def Fp:=@PySem.F.plain_extend_loop
def Fq:=@PySem.plainId_quiet
def Fs:=@PySem.wpAny_execs_nil
def Ft:=@List.foldl_cons
def Fu:=@List.forIn_cons
def Fv:=@Int.natCast_add
def Fw:=@Nat.lt_of_le_of_lt
def Fy:=@PySem.Code.quiet_builtin
def Fz:=@List.filter_append
def G0:=@PySem.wpAny_callSpecial?_slot
def G1:=@PySem.StrLaws.partsBetween_eq
def G2:=@if_false
def G3:=@List.reverse_cons
def G4:=@Nat.testBit_eq_decide_div_mod_eq
def G5:=@PySem.wpAny_tryCatch
def G6:=@PySem.Heap.size_after_update
def G7:=@PySem.plainObj_wpAny_Assign_Attribute
def G8:=@List.getElem?_toArray
def G9:=@PySem.ofString_length
def Ga:=@List.cons_append
def Gb:=@Array.all_toList
def Gc:=@List.filter_cons
def Ge:=@List.mem_reverse
def Gf:=@List.map_take
def Gg:=@Nat.add_assoc
def Gh:=@List.getElem?_set_ne
def Gi:=@Array.mem_toList_iff
def Gj:=@PySem.wpAny_updateSeq_pair
def Gk:=@List.mem_of_mem_take
def Gm:=@List.mem_filter
def Gn:=@Option.map_some
def Gp:=@PySem.wpAny_specialOf
def Gq:=@PySem.codeAny_builtin
def Gr:=@Int.ediv_nonneg
def Gs:=@List.sum_append
def Gu:=@PySem.F.slot_zip_next
def Gv:=@PySem.W.plainGet_of
def Gw:=@List.length_reverse
def Gx:=@Array.toList_append
def Gy:=@List.mem_map_of_mem
def Gz:=@List.map_set
def Ht:=@PySem.Calls.Name_function_global
def Hx:=@PyProof.Rows.assignInOrder_cons
def Hy:=@Int.fdiv_eq_ediv_of_nonneg
def Ic:=@PySem.typeIs_str
def Ie:=@PySem.tupleKind_room_in1
def Ig:=@Int.mul_nonneg
def Ih:=@PySem.F.args_str_split_2
def Ii:=@List.contains_cons
def Ij:=@PySem.wpAny_FormattedValue_plain
def Ik:=@PySem.int_text_length_le
def Il:=@PySem.codeAny_call_builtin_code
def Im:=@PySem.wpAny_check_type_call_sub
def Io:=@List.getLast?_eq_none_iff
def Iq:=@List.getLast?_eq_some_iff
def Iu:=@PySem.sizeLine_eq
def Iv:=@Int.toNat_natCast
def Iw:=@if_true
def Iy:=@Nat.lt_succ_of_lt
def Iz:=@PySem.F.entry_str_split
def J0:=@Bool.not_eq_true'
def J2:=@List.flatMap_cons
def J4:=@Classical.not_not
def J5:=@Bool.eq_false_iff
def J6:=@List.map_id
def J8:=@PySem.wpAny_getItem_list_slice
def Ja:=@List.all_cons
def Jc:=@List.map_drop
def Jd:=@List.length_filterMap_le
def Je:=@List.length_erase_of_mem
def Jf:=@PySem.wpAny_onRaise
def Jg:=@Bool.and_true
def Jh:=@PySem.F.slot_list_extend
def Ji:=@PySem.F.type_list_extend
def Jj:=@Nat.lt_succ_self
def Jk:=@PySem.wpAny_call_entry
def Jl:=@beq_self_eq_true
def Jm:=@Int.ediv_le_self
def Jn:=@PySem.wpAny_pyIter_zip
def Jo:=@PySem.F.slot_str_split
def Jp:=@PySem.codeAny_call_builtin_at
def Jq:=@List.isEmpty_iff
def Jr:=@Int.ediv_ediv_of_nonneg
def Js:=@List.getElem?_set_self
def Jt:=@PySem.wpAny_rule
def Ju:=@PyProof.noPylong_small
def Jv:=@PySem.W.cellsFrom_some
def Jw:=@PySem.typeIs_int
def Jx:=@Nat.sub_zero
def Jy:=@List.all_map
def Jz:=@List.filter_eq_nil_iff
def K0:=@List.drop_of_length_le
def K1:=@List.length_pos_of_mem
def K2:=@List.of_mem_zip
def K3:=@PySem.pushCells_keeps
def K4:=@PySem.wpAny_JoinedStr
def K5:=@PySem.W.KIN.num_reads
def K6:=@List.length_filter_le
def K7:=@List.take_append_drop
def K8:=@List.getElem?_eq_none
def K9:=@Array.mem_of_getElem?
def Ka:=@PySem.F.slot_list_pop
def Kb:=@PySem.F.type_list_pop
def Kc:=@List.pairwise_reverse
def Kd:=@List.drop_zero
def Ke:=@List.drop_eq_nil_iff
def Kf:=@PySem.wpAny_setField
def Kg:=@Nat.log2_lt
def Kh:=@Bool.or_eq_false_iff
def Ki:=@List.findIdx?_isSome
def Kj:=@List.mem_of_mem_drop
def Kk:=@List.drop_drop
def Kl:=@List.map_eq_nil_iff
def Km:=@List.flatMap_append
def Kn:=@PySem.evalPart_none
def Ko:=@Int.natCast_nonneg
def Kq:=@Array.find?_toList
def Kr:=@PySem.W.Looks.here
def Ks:=@Option.isSome_some
def Kt:=@Array.append_empty
def Ku:=@Nat.lt_of_le_of_ne
def Kv:=@Array.forIn_toList
def Kw:=@List.count_eq_zero
def Kx:=@PySem.Within.cons
def Ky:=@List.map_nil
def Kz:=@List.ext_getElem?
def L1:=@Int.ediv_one
def L3:=@Option.isSome_map
def L4:=@decide_eq_true_eq
def L5:=@Nat.succ_mul
def L6:=@List.count_append
def L7:=@List.findIdx?_map
def L8:=@Int.le_of_lt
def L9:=@Nat.add_zero
def Lq:=@Nat.zero_add
def Lr:=@Int.pow_pos
def Ls:=@or_self
open PySem.W (Frag)
namespace L2
open PySem PySem.Spec PyProof.Rows
noncomputable def FN (s:ϧ) (j:Nat):ϧ:=match s with
 | .ClassDef _ _ _ body _ _ _ _ _ _ _=>body.getD j (.Pass ⟨0,0,0,0⟩)
 | _=>.Pass ⟨0,0,0,0⟩
def BU(s:ϧ):Arguments:=match s with
 | .FunctionDef _ a _ _ _ _ _ _ _ _=>a
 | _=>{ posonlyargs:=[],args:=[],vararg:=none,kwonlyargs:=[],kw_defaults:=[],kwarg:=none,defaults:=[] }
def JQ(s:ϧ):ϩ ϧ:=match s with
 | .FunctionDef _ _ b _ _ _ _ _ _ _=>b
 | _=>[]
def AN(s:ϧ):Scope:=match s with
 | .FunctionDef _ _ _ _ _ _ a _ _ _=>a
 | _=>{ kind:=.function,names:=[],isGenerator:=false,isCoroutine:=false }
end L2
namespace Hd
open PySem PySem.W PyProof.Rows L2
noncomputable section
abbrev qr(n:Nat):Ϟ:=.ref n
abbrev qi(n:Nat):Ϟ:=.int (Int.ofNat n) 0
abbrev qs(x:String)(t:Nat):Ϟ:=.str (Str.ofString x) t
abbrev qt(x:String):Ϟ:=.type x
abbrev qb(x:String):Ϟ:=.builtin x
abbrev qe(P:Params)(x:ϥ)(t:Nat)(v:Ϟ):DictEntry:=⟨PyData.keyHash P x,.str x t,v⟩
abbrev qF(x y:ϥ)(st:ϧ)(dV kV doc pm:Ϟ)(a:ϒ)(c ct:Ϟ):Data:=.func (fnOf x y (BU st) (JQ st) (AN st) dV kV doc pm a c ct)
abbrev qG(g b:Ϡ)(x y:ϥ)(st:ϧ)(dV kV doc pm:Ϟ)(a:ϒ)(c ct:Ϟ):Data:=.func { name:=x,qualname:=y,params:=BU st,body:=.stmts (JQ st),scope:=AN st,globals:=g,closure:=[],defaults:=dV,kwdefaults:=kV,doc,pyModule:=pm,annotations:=a,code:=c,closureTuple:=ct,builtins:=b }
abbrev qT(l:Ϗ):Obj:=⟨.type "tuple",.none,.seq l.toArray 0,#[]⟩
abbrev qN(l:Ϗ):Obj:=⟨.none,.none,.fields l.toArray,#[]⟩
abbrev qf(x y:ϥ)(st:ϧ)(pm a:Ϟ):Obj:=⟨.type "function",.none,qF x y st .none .none .none pm .none a .none,#[]⟩
abbrev qg(x y:ϥ)(st:ϧ):Obj:=⟨.none,.none,qG 0 0 x y st .none .none .none .none .none .none .none,#[]⟩
noncomputable abbrev qC (x y:ϥ) (t l a b d f i:Nat) (g:Bool) (c:Nat) (p j o r:Ϟ) (k e:Nat):Obj:=⟨.type "code",.none,.fields #[.str x t,.str y (t+1),qs "/claim/cut.py" (t+2),qi l,qi a,qi b,qi d,qi f,qr i,.bool g,qi 181,qr c,p,j,o,r,qi k,qi l,qs "/claim/cut.py" e],#[]⟩
structure HD where
 N:Nat
 n1:Nat
 n2:Nat
 n3:Nat
 n4:Nat
 d1:Drawn
 k1:Nat
 d2:Drawn
 k2:Nat
 d3:Drawn
 k3:Nat
 many:Nat
 Ĕ:Nat
 fp:Pos
 p1:Pos
 p2:Pos
 p3:Pos
 cd:Ϟ
 fr:Nat
 ann:ϐ
def Z8:ϕ->ϕ×ϕ|[]=>([],[])|a::l=>let r:=Z8 l;(a::r.2,r.1)
noncomputable def OY:Nat->ϕ->BT
 |0,_=>.nil|n+1,l=>match l with
   | []=>.nil
   | a::l=>let r:=Z8 l;.node a (OY n r.1) (OY n r.2)
abbrev Np(p:ϣ)(D:HD):Env:={ scope:=p.main.scope,locals:=mainNs,globals:=mainNs,cells:=[],code:=D.cd,frame:=some D.fr }
noncomputable abbrev MZ (p:ϣ) (D:HD):Code:=.body (behindTheImports p) (Np p D)
abbrev S0(w:Ϣ)(a:OsState):ϟ:=⟨boot_heap w.params,Array.mk [],boot_drawn,boot_toks,a⟩
abbrev SA(D:HD)(L:Life)(A:ό)(w:Ϣ)(a:OsState):ϟ:=⟨⟨⟨A w.params⟩,L⟩,Array.mk [],D.d1,D.k1,a⟩
abbrev SB(D:HD)(L:Life)(A:ό)(w:Ϣ)(a:OsState):SharedT:=⟨OY 12 (A w.params),D.Ĕ,L,Array.mk [],D.d2,D.k2,a⟩
abbrev SC(D:HD)(L:Life)(O:ό)(w:Ϣ)(a:OsState):SharedT:=⟨OY 12 (O w.params),D.many,L,Array.mk [],D.d3,D.k3,a⟩
abbrev SF(D:HD)(L:Life)(O:ό)(w:Ϣ)(a:OsState):ϟ:=⟨⟨⟨O w.params⟩,L⟩,Array.mk [],D.d3,D.k3,a⟩
abbrev RE:=PySem.W.Fast.tw14364793385576792824
abbrev W2(p:ϣ)(D:HD)(L:Life)(A:ό):Prop:=∀(w:Ϣ) (a:OsState),PySem.W.Fast.tw15667345088766844465 RE p w 11 D.ann D.n1 (S0 w a) (topStub p) =
 some (SA D L A w a,⟨PySem.W.Fast.tw11892475500146522536 RE (MZ p D),MZ p D,D.p1,[topFrame D.fp]⟩)
abbrev W5(p:ϣ)(D:HD)(L:Life)(A:ό):Prop:=∀(w:Ϣ) (a:OsState),PySem.W.Fast.tw14374325043358763698 RE p w 11 D.ann 1 (D.n2+1) (SA D L A w a) (blockOf (behindTheImports p) (Np p D) (MZ p D) D.p1 [topFrame D.fp]) =
 some (.next,(SB D L A w a).abs,MZ p D,D.p2)
abbrev Go(p:ϣ)(D:HD)(L:Life)(A O:ό):Prop:=∀(w:Ϣ) (a:OsState),PySem.W.Fast.tw10110043849684766642 RE p w 11 D.ann 1 (D.n3+1) (SB D L A w a) (piecesOf (behindTheImports p) (Np p D) (MZ p D) D.p2 [topFrame D.fp]) =
 some (.next,SC D L O w a,MZ p D,D.p3)
abbrev Fin(p:ϣ)(D:HD)(L:Life)(O:ό):Prop:=∀(w:Ϣ) (a:OsState),PySem.W.Fast.tw14082659384304107361 RE p w 11 D.ann (D.n4+1) (SC D L O w a).abs ⟨doneF .next,MZ p D,D.p3,[topFrame D.fp]⟩=some (SF D L O w a)
def Ud:treeTable=RE:=PySem.W.Fast.te14364793385576792824
def jm{p}{D}{L}{A O}(j:W2 p D L A)(d:W5 p D L A)(k:Go p D L A O)(e:Fin p D L O)(w)(os) :
 topRun treeTable p w 11 D.ann (D.n1+((D.n2+1)+((D.n3+1)+(D.n4+1)))) (S0 w os) (topStub p)=some (SF D L O w os):=by
 have a:topGo treeTable p w 11 D.ann D.n1 (S0 w os) (topStub p)=some (SA D L A w os,⟨denote treeTable (MZ p D),MZ p D,D.p1,[topFrame D.fp]⟩):=by
  rw[PySem.W.Fast.te15667345088766844465,PySem.W.Fast.te11892475500146522536,Ud];exact j w os
 have o:segRun treeTable p w 11 D.ann 1 (D.n2+1) (SA D L A w os) (blockOf (behindTheImports p) (Np p D) (MZ p D) D.p1 [topFrame D.fp])=some (.next,(SB D L A w os).abs,MZ p D,D.p2):=by
  rw[PySem.W.Fast.te14374325043358763698,Ud];exact d w os
 have c:segRunT treeTable p w 11 D.ann 1 (D.n3+1) (SB D L A w os) (piecesOf (behindTheImports p) (Np p D) (MZ p D) D.p2 [topFrame D.fp])=some (.next,SC D L O w os,MZ p D,D.p3):=by
  rw[PySem.W.Fast.te10110043849684766642,Ud];exact k w os
 have i:topRun treeTable p w 11 D.ann (D.n4+1) (SC D L O w os).abs ⟨doneF .next,MZ p D,D.p3,[topFrame D.fp]⟩=some (SF D L O w os):=by
  rw[PySem.W.Fast.te14082659384304107361,Ud];exact e w os
 refine go_top a (piece_block o ?_);have:=piece_app (rest:=[]) (segRun_of c) (piece_nil (env:=Np p D) i);rw[Aq]at this
 exact this
abbrev HF(L:Life)(O:ό)(w:Ϣ):Ϥ:=⟨⟨O w.params⟩,L⟩
abbrev Sv:=PySem.W.Fast.tw5923862056798008813
def jn:importedModules=Sv:=PySem.W.Fast.te5923862056798008813
abbrev Z9(p:ϣ)(D:HD)(L:Life)(O:ό):Prop:=∀(w:Ϣ) (a:OsState),
 (staticsOk (Sv p.main.body) (boot_heap w.params) (HF L O w)&&namesBound p (HF L O w)&&gensDone (SF D L O w a)&&laidKept (boot_heap w.params) (HF L O w))=true
abbrev W6(p q:ϣ)(D:HD)(L:Life)(O:ό)(a:ϟ->Bool):Prop:=∀(w:Ϣ) (c:OsState),
 PySem.W.Fast.tw4187177175401517315 q [] (Sv p.main.body) a true (SF D L O w c)=openGood q []
abbrev W7(D:HD)(L:Life)(O:ό)(K:Params->ϡ)(as:ϖ):Prop:=∀(w:Ϣ) (a:OsState),
 as.map (SF D L O w a).heap.get?=(K w.params).map λx=>some x.2
def jo(w:Ϣ)(D:HD)(a:D.ann=some (.ref 6)):((boot_heap w.params).isNs mainGlobals&&(Array.mk []:Array GenState).size==0,(boot_heap w.params).objs.size,(boot_heap w.params).nsMap mainGlobals "__annotations__")=(true,11,D.ann):=by rw[a];kernel_rfl
def jq{p q}{D}{L}{A O}{i}{K}{as}{N}{e}
 (o:opening p=plainProg p.main.scope.names) (d:∀s,fenceModules? p s=some s) (C:Nat.ble 600 N=true) (E:D.ann=some (.ref 6)) (B:Nat.ble (D.n1+((D.n2+1)+((D.n3+1)+(D.n4+1)))) N=true)
 (v:W2 p D L A) (k:W5 p D L A) (z:Go p D L A O) (r:Fin p D L O) (G:Z9 p D L O) (H:W6 p q D L O i) (y:W7 D L O K as) :
 LeftO p q [] i (Hook.obs (kHook K as e)) (Hook.val (kHook K as e)) N :=
 LeftO.of_pieces (H₀:=boot_heap) (H₁:=λP=>⟨⟨O P⟩,L⟩) (gs₀:=Array.mk []) (gs₁:=Array.mk []) (d₁:=D.d3) (k₁:=D.k3) (m₀:=11) (ann:=D.ann) (boot_open o C d) (λw=>jo w D E) (jm v k z r) B λw=>funext λa=>by
  have j:=G w a;have c:=H w a;rw[<-jn]at j c
  rw[<-PySem.W.Fast.te4187177175401517315]at c
  exact looks_pair j (looks_pair c (y w a))
abbrev Za:=PySem.W.Fast.tw9446332074065402090
abbrev jr(s:ϧ):Pos:=match s with
 | .FunctionDef _ _ _ _ _ _ _ _ _ p=>p
 | _=>⟨0,0,0,0⟩
abbrev W9(x:String)(s:ϧ):DefRec:=⟨Str.ofString x,BU s,JQ s,AN s,jr s⟩
noncomputable abbrev OZ (l:OpenLaw) (q:ϣ):ϟ->Bool:=λs=>xlAt q [] s&&recOk (RowW.records l.row.toRowW) s
def holds{l}{q}{K}{as}{e}{N}{x}{st}(a:Za l=true)
 (left:LeftO l.row.prog q [] (OZ l q) (Hook.obs (kHook K as e)) (Hook.val (kHook K as e)) N) (c:defOf q l.row.name=some (W9 x st,[]))
 (k:l.row.prog.theDef l.row.name=some (BU st,JQ st,AN st)) (o:kwWritten? (BU st).kwonlyargs (BU st).kw_defaults=some []) (i:(!l.row.writes||l.row.records.isEmpty)=true)
 (ok:(chainsOk q&&opensWell l.row.prog&&(frees l.row.toRowW&&l.row.within.isEmpty))=true) (r:l.row.prog.bare) (p:l.row.toRowW.promised)
 (call:WalkO q [] (XL q []) (Hook.says (kHook K as e)) l.row.toRowW (W9 x st) [] λf vs=>PySem.call f vs):l.Holds :=
 have a:l.wellSaid=true:=(congrFun PySem.W.Fast.te9446332074065402090 l).trans a
 holds_law a λj=>holds_open (d:=W9 x st) (kwd:=[]) left (Hook.of _) (Hook.keeps _) (λs z=>xl_of s (Dw.mp z).1) XL.keeps c k o (λs z=>recFacts_of (Dw.mp z).2) i j ok r p call
end
noncomputable section
noncomputable abbrev qP:Obj:=⟨qt "builtin_function_or_method",.none,.fields #[qb "type.__prepare__",qt "type"],#[]⟩
abbrev qU(n:Nat):Obj:=⟨qt "super",.none,.fields #[qr n,qr n,qr n],#[]⟩
abbrev qI(n:Nat):Obj:=⟨qt "builtin_function_or_method",.none,.fields #[qb "object.__init_subclass__",qr n],#[]⟩
noncomputable abbrev qW (a b:Nat) (m:Ϟ):Obj:=⟨qt "frame",.none,.plain,#[.some (qr a),.some (qr 3),.some (qr b),.none,.some m,.none,.some (qr 0)]⟩
abbrev qD(n:Nat)(l:ϩ DictEntry):Obj:=⟨qt "dict",.none,.dict l.toArray n,#[]⟩
abbrev qv(P:Params)(x:ϥ)(t r:Nat):DictEntry:=qe P x t (qr r)
noncomputable abbrev qX (x:String) (r c n b t u:Nat):Obj:=⟨qt "type",.none,.cls ⟨.ofString x,[qr r],[qr c,qr r,qt "ValueError",qt "Exception",qt "BaseException",qt "object"],n,.ofString x,true,[],[],false,.none,false⟩,#[.some (qr b),.none,.some (qs x t),.some (qs x u),.some (qb "ValueError.__new__"),.some (.bool true)]⟩
noncomputable abbrev qM (x:String) (t l n k:Nat):Obj:=qC (Str.ofString x) (Str.ofString x) t l 0 0 0 0 n false (n+1) .none .none .none .none k (k+1)
noncomputable def z3:ϔ->Ϗ|a::b::c::r=>qi a::qi b::qr c::z3 r|_=>[]
def Zb:ώ->Nat->Ϗ|[],_=>[]|x::r,t=>.str x t::Zb r (t+1)
noncomputable abbrev hA (n:Nat) (x y:ϥ) (s:ϧ) (t l a:Nat) (ls:ϔ) (pm:Ϟ) (ns:ώ) (r:ϕ):ϕ:=qT []::qN (z3 ls)::qT (Zb ns (t+3))::qT []::qg x y s::qC x y t l a 0 0 3 n true (n+1) .none (qr (n+2)) (qr (n+3)) (qr (n+4)) (t+3+ns.length) (t+4+ns.length)::qf x y s pm (qr (n+5))::r
noncomputable abbrev hB (n:Nat) (x y:ϥ) (s:ϧ) (t l a:Nat) (ls:ϔ) (pm:Ϟ) (r:ϕ):ϕ:=qT []::qN (z3 ls)::qg x y s::qC x y t l a 0 0 3 n true (n+1) .none .none .none (qr (n+2)) (t+3) (t+4)::qf x y s pm (qr (n+3))::r
def sN:ϧ->ϥ|.FunctionDef n ..=>n|_=>Str.empty
def sL:ϧ->Nat|.FunctionDef _ _ _ _ _ _ _ _ _ p=>p.line|_=>0
def sA(s:ϧ):Nat:=(L2.BU s).args.length
noncomputable def sO (s:ϧ):ώ:=(L2.AN s).names.filterMap λy=>match y.2 with
 | NameKind.local=>some y.1
 | _=>none
structure Fx where
 b:Bool
 n:Nat
 t:Nat
 s:ϧ
noncomputable def KO (f:Nat->ϧ):ϔ->Nat->Nat->ϩ Fx|[],_,_=>[]|i::l,n,t=>cond (i.ble 499) (⟨true,n,t,f i⟩::KO f l (n+7) (t+6+(sO (f i)).length)) (⟨false,n,t,f (i-500)⟩::KO f l (n+5) (t+6))
def LP(k:ϥ->ϥ)(pm:Ϟ)(l:ϩ Fx)(r:ϕ):ϕ:=l.foldr (λx r=>cond x.b (hA x.n (sN x.s) (k (sN x.s)) x.s x.t (sL x.s) (sA x.s) [] pm (sO x.s) r) (hB x.n (sN x.s) (k (sN x.s)) x.s x.t (sL x.s) (sA x.s) [] pm r)) r
noncomputable def KP (P:Params) (l:ϩ Fx):ϩ DictEntry:=l.map λx=>qe P (sN x.s) (x.t+5+cond x.b (sO x.s).length 0) (qr (x.n+cond x.b 6 4))
noncomputable def LQ (u:Nat) (l:ϩ Fx):ϔ:=l.flatMap λx=>[sL x.s,u,x.n+cond x.b 5 3]
noncomputable def LR (l:ϩ Fx):ϔ:=l.flatMap λx=>(cond x.b [0,2,3,5,6] [0,3,4]).map (x.n+·)
end
def fs{c d:Type}:c×d->c|(a,_)=>a
abbrev Zc(p q:ϣ)(D:HD)(L:Life)(O:ό)(a:ϟ->Bool):Prop:=∀(w:Ϣ) (c:OsState),(PySem.W.Fast.tw4187177175401517315 q [] (Sv p.main.body) a true (SF D L O w c)).1=fs (openGood q [])
def nf:Obj->Bool|⟨_,_,.freed,_⟩=>false|_=>true
def jt{D:HD}(j:∀P,(O P).length=n)(a:∀P,(O P).all nf=true)(e:(as.all λi=>Nat.blt i n)=true):W7 D L O (λP=>as.map λi=>(i,(O P).getD i d)) as:=λw c=>by
 rw[D7];refine Fm λi k=>?_;have h:i<(O w.params).length:=by rw[j];exact Nat.blt_eq.mp (Bw.mp e i k)
 have g:=Bw.mp (a w.params) _ (Dn h);show(SF D L O w c).heap.get? i=some ((O w.params).getD i d);rw[Bf,A6 h];simp only[Heap.get?,G8,A6 h,Option.getD_some];revert g;generalize (O w.params)[i]=o;intro g;split
 .simp_all [nf]
 .rfl
section
variable {α β γ δ ε ζ η θ ι:Type}
def p4:α×β×γ×δ×ε×ζ×η×θ×ι->β×ε×η×ι|(_,b,_,_,e,_,h,_,i)=>(b,e,h,i)
def p3:α×β×γ×δ×ε×ζ×η×θ×ι->γ|(_,_,c,_)=>c
def p5:α×β×γ×δ×ε×ζ×η×θ×ι->δ|(_,_,_,d,_)=>d
def p6:α×β×γ×δ×ε×ζ×η×θ×ι->ζ|(_,_,_,_,_,z,_)=>z
def p8:α×β×γ×δ×ε×ζ×η×θ×ι->θ|(_,_,_,_,_,_,_,t,_)=>t
end
section
variable (p q:ϣ) (D:HD) (L:Life) (O:ό) (Xt:ϟ->Bool)
noncomputable abbrev TT (w:Ϣ) (a:OsState):=PySem.W.Fast.tw4187177175401517315 q [] (Sv p.main.body) Xt true (SF D L O w a)
abbrev Lb:Prop:=∀w a,((TT p q D L O Xt w a).2.1,(TT p q D L O Xt w a).2.2.2.2.1,(TT p q D L O Xt w a).2.2.2.2.2.2.1,(TT p q D L O Xt w a).2.2.2.2.2.2.2.2)=p4 (openGood q [])
abbrev Lc:Prop:=∀w a,(TT p q D L O Xt w a).2.2.1=p3 (openGood q [])
abbrev Ld:Prop:=∀w a,(TT p q D L O Xt w a).2.2.2.1=p5 (openGood q [])
abbrev Le:Prop:=∀w a,(TT p q D L O Xt w a).2.2.2.2.2.1=p6 (openGood q [])
abbrev Lf:Prop:=∀w a,(TT p q D L O Xt w a).2.2.2.2.2.2.2.1=p8 (openGood q [])
variable {p q D L O Xt}
theorem ju(a:Zc p q D L O Xt)(b:Lb p q D L O Xt)(c:Lc p q D L O Xt)(d:Ld p q D L O Xt)(e:Le p q D L O Xt)(f:Lf p q D L O Xt):W6 p q D L O Xt:=λw i=>by
 show TT p q D L O Xt w i=_;have o:(TT p q D L O Xt w i).1=_:=a w i;have j:=b w i;have s:=c w i;have k:=d w i;have r:=e w i;have v:=f w i;generalize TT p q D L O Xt w i=X at o j s k r v⊢;generalize openGood q []=Y at o j s k r v⊢;obtain⟨x1,R,B,z,T,Z,E,W,Q⟩:=X;obtain⟨C,y2,G,S,I,J,y,H,P⟩:=Y;cases o;cases j;cases s;cases k;cases r;cases v;rfl
end
end Hd
namespace Lw
open PySem L2
abbrev Ϫ:=PySem.Challenge.pw_linecaster_k75_whole_desk
abbrev ϫ:=PySem.Challenge.rw_linecaster_k75_whole_desk
set_option maxHeartbeats 4000000
noncomputable def top (i:Nat):ϧ:=Ϫ.main.body.getD i (.Pass ⟨0,0,0,0⟩)
section
open PySem.W PyProof.Rows
open Hd (qr qi qs qt qb qe qF qG qT qN qf qg qC HD qP qU qI qW qD qv qX qM z3 KO LP KP LQ LR)
noncomputable section
abbrev m0:Ϟ:=qs "__main__" 164
abbrev m1:Ϟ:=qs "linecaster.errors" 194
abbrev m2:Ϟ:=qs "linecaster.cases" 419
abbrev m3:Ϟ:=qs "linecaster.lines" 490
abbrev m4:Ϟ:=qs "linecaster.breaking" 553
abbrev m5:Ϟ:=qs "linecaster.copies" 615
abbrev m6:Ϟ:=qs "linecaster.casetexts" 731
abbrev m7:Ϟ:=qs "linecaster.jobs" 803
abbrev m8:Ϟ:=qs "linecaster.keys" 853
abbrev m9:Ϟ:=qs "linecaster.bars" 890
abbrev jv:Ϟ:=qs "linecaster.matrices" 910
abbrev Zd:Ϟ:=qs "linecaster.machine" 932
abbrev jw:Ϟ:=qs "linecaster.needs" 1114
abbrev Sw:Ϟ:=qs "linecaster.desk" 1154
abbrev jx:Ϟ:=qs "law_linecaster_k75_whole_desk" 1307
abbrev Ue:=KO top [0] 15 187
noncomputable abbrev Ug:=KO top [15,16,17,18,19,520,521,522] 190 423
noncomputable abbrev Uh:=KO top [524,25,26,27,28,29] 240 492
noncomputable abbrev Ui:=KO top [31,532,33,534,535,536,537,538] 280 555
noncomputable abbrev Uj:=KO top [542,543,44,45,46,47,48,49,50,51,52,53] 324 621
noncomputable abbrev Uk:=KO top [556,57,558,59,60,561,62,563] 404 735
abbrev Ul:=KO top [569,70,71,72] 453 815
abbrev Um:=KO top [576,77,78,79] 479 859
abbrev Uo:=KO top [81,82] 505 892
abbrev Up:=KO top [84,585] 519 912
noncomputable abbrev NZ:=KO (FN (top 88)) [1,2,3,4,5,506,7,8,9,10,11,12,13,14,515,516,17,18,19] 546 959
noncomputable abbrev P0:=KO top [590,591,92,93] 680 1116
noncomputable abbrev P1:=KO top [98,99,600,101,102,103,104,105] 706 1169
noncomputable abbrev O0:=KO (FN (top 106)) [0,501,2,3,504,5] 767 1249
noncomputable abbrev P2:=KO top [108,109,110,611,112,113,614,615,616,117,118,119,120,621,122,123,124,125,626] 812 1309
abbrev u(l r:ϕ):ϕ:=l++r
noncomputable abbrev gA (n:Nat) (x y:String) (i j t l a:Nat) (ls:ϔ) (pm:Ϟ) (ns:ώ) (r:ϕ):ϕ:=Hd.hA n x y (FN (top i) j) t l a ls pm ns r
noncomputable abbrev cN (P:Params) (n:Nat) (x:String) (b l t:Nat) (m:Ϟ) (r:ϕ):ϕ:=qT [qr b]::qP::qD 4 [qe P "__module__" (t+7) m,qe P "__qualname__" (t+9) (qs x (t+8)),qe P "__firstlineno__" (t+11) (.int l (t+10)),qv P "__static_attributes__" (t+12) (n+7)]::qT []::qN []::qM x (t+2) l (n+3) (t+5)::qW (n+5) (n+2) m::qT []::qD 2 [qe P "__module__" (t+7) m,qe P "__firstlineno__" (t+11) (.int l (t+10)),qv P "__static_attributes__" (t+12) (n+7),qe P "__doc__" (t+13) .none]::qX x b (n+9) (n+8) n t (t+8)::qU (n+9)::qI (n+9)::r
noncomputable abbrev cI (P:Params) (n:Nat) (x y:String) (i b l t:Nat) (a:String) (m:Ϟ) (r:ϕ):ϕ:=qT [qr b]::qP::qD 5 [qe P "__module__" (t+7) m,qe P "__qualname__" (t+9) (qs x (t+8)),qe P "__firstlineno__" (t+11) (.int l (t+10)),qv P "__init__" (t+19) (n+13),qv P "__static_attributes__" (t+21) (n+14)]::qT []::qN (z3 [l+2,4,n+12])::qM x (t+2) l (n+3) (t+5)::qW (n+5) (n+2) m::gA (n+7) "__init__" y i 0 (t+12) (l+2) 2 [] m ["self",a] (qT [qs a (t+20)]::qD 2 [qe P "__module__" (t+7) m,qe P "__firstlineno__" (t+11) (.int l (t+10)),qv P "__init__" (t+19) (n+13),qv P "__static_attributes__" (t+21) (n+14),qe P "__doc__" (t+22) .none]::qX x b (n+16) (n+15) n t (t+8)::qU (n+16)::qI (n+16)::r)
def hO(P:Params):ϕ :=
 u [boot_o_0 P,boot_o_1 P,boot_o_2 P,qD 122 ([qe P "__name__" 165 (qs "law_linecaster_k75_whole_desk" 1307),qe P "__doc__" 166 .none,qe P "__package__" 167 .none,qe P "__loader__" 168 (qb "__main__.__loader__#opaque"),qe P "__spec__" 169 .none,qv P "__annotations__" 170 6,qv P "__builtins__" 171 4,qe P "__file__" 173 (qs "/claim/cut.py" 172),qe P "__cached__" 174 .none]++KP P Ue++[qv P "CasterError" 213 31,qv P "NoCase" 238 51,qv P "TooMany" 254 63,qv P "Loose" 279 82,qv P "Tight" 304 101,qv P "NoBreak" 329 120,qv P "NoCopy" 345 132,qv P "NoKeys" 370 151,qv P "NoText" 386 163,qv P "NoNumber" 402 175,qv P "NoRow" 418 187,qe P "SIGNS" 422 (qs "abcdefghijklmnopqrstuvwxyz.,-'" 421)]++KP P Ug++KP P Uh++KP P Ui++[qe P "FIGURES" 618 (qs "0123456789" 617),qe P "MOST_BRACKETS" 620 (.int (4) 619)]++KP P Uj++[qe P "NUMBER_OF_TEETH" 734 (.int (7) 733)]++KP P Uk++[qe P "FIRST_MEASURE" 806 (.int (100) 805),qv P "FIRST_GAPS" 810 452,qe P "MOST_PARAGRAPHS" 812 (.int (60) 811),qe P "MOST_WORDS" 814 (.int (400) 813)]++KP P Ul++[qe P "GAP_KEY" 856 (qs " " 855),qe P "SEND_KEY" 858 (qs "/" 857)]++KP P Um++KP P Uo++KP P Up++[qe P "WEDGE" 935 (qs " " 934),qv P "Machine" 1113 675]++KP P P0++[qe P "MOST_CASTING" 1157 (.int (20) 1156),qv P "COPY_ROWS" 1162 704,qv P "MACHINE_ROWS" 1168 705]++KP P P1++[qv P "Desk" 1306 807]++KP P P2),boot_o_4 P,boot_o_5 P,boot_o_6 P,boot_o_7 P,boot_o_8 P,boot_o_9 P,boot_o_10 P,qT [],qN (z3 (LQ 0 Ue++[5,0,27,7,0,40,12,0,59,14,0,71,19,0,90,24,0,109,29,0,128,31,0,140,36,0,159,38,0,171,40,0,183]++LQ 0 Ug++LQ 0 Uh++LQ 0 Ui++LQ 0 Uj++LQ 0 Uk++LQ 0 Ul++LQ 0 Um++LQ 0 Uo++LQ 0 Up++[318,0,536]++LQ 0 P0++LQ 0 P1++[484,0,765]++LQ 0 P2)),qM "<module>" 182 1 11 185,qW 13 3 (qs "__main__" 164)] <|
 LP id m0 Ue <|
 u [qT [(qt "ValueError")],qP,qD 4 [qe P "__module__" 203 (qs "linecaster.errors" 194),qe P "__qualname__" 205 (qs "CasterError" 204),qe P "__firstlineno__" 207 (.int (5) 206),qv P "__static_attributes__" 208 29],qT [],qN [],qM "CasterError" 198 5 25 201,qW 27 24 (qs "linecaster.errors" 194),qT [],qD 3 [qe P "__module__" 203 (qs "linecaster.errors" 194),qe P "__firstlineno__" 207 (.int (5) 206),qv P "__static_attributes__" 208 29,qv P "__weakref__" 210 32,qe P "__doc__" 211 .none],⟨(qt "type"),.none,(.cls ⟨(.ofString "CasterError"),[(qt "ValueError")],[(qr 31),(qt "ValueError"),(qt "Exception"),(qt "BaseException"),(qt "object")],30,(.ofString "CasterError"),true,[],[(qr 51),(qr 63),(qr 82),(qr 101),(qr 120),(qr 132),(qr 151),(qr 163),(qr 175),(qr 187)],false,.none,false⟩),#[(.some (qr 22)),.none,(.some (qs "CasterError" 196)),(.some (qs "CasterError" 204)),(.some (qb "ValueError.__new__")),(.some (.bool true))]⟩,⟨(qt "getset_descriptor"),.none,(.fields #[(qs "__weakref__" 209),(qr 31),(qb "ExceptionGroup.__weakref__"),.none]),#[]⟩,qU 31,qI 31] <|
 cI P 35 "NoCase" "NoCase.__init__" 3 31 7 214 "at" m1 <|
 cN P 54 "TooMany" 31 12 239 m1 <|
 cI P 66 "Loose" "Loose.__init__" 5 31 14 255 "by" m1 <|
 cI P 85 "Tight" "Tight.__init__" 6 31 19 280 "by" m1 <|
 cI P 104 "NoBreak" "NoBreak.__init__" 7 31 24 305 "words" m1 <|
 cN P 123 "NoCopy" 31 29 330 m1 <|
 cI P 135 "NoKeys" "NoKeys.__init__" 9 31 31 346 "at" m1 <|
 cN P 154 "NoText" 31 36 371 m1 <|
 cN P 166 "NoNumber" 31 38 387 m1 <|
 cN P 178 "NoRow" 31 40 403 m1 <|
 LP id m2 Ug <|
 LP id m3 Uh <|
 LP id m4 Ui <|
 LP id m5 Uj <|
 LP id m6 Uk <|
 u [qT [(.int (2) 807),(.int (4) 808),(.int (8) 809)]] <|
 LP id m7 Ul <|
 LP id m8 Um <|
 LP id m9 Uo <|
 LP id jv Up <|
 u [qT [],qP,qD 24 ([qe P "__module__" 943 (qs "linecaster.machine" 932),qe P "__qualname__" 945 (qs "Machine" 944),qe P "__firstlineno__" 947 (.int (318) 946),qv P "__init__" 958 545]++KP P NZ++[qv P "__static_attributes__" 1106 673]),qT [],qN (z3 ([320,4,544]++LQ 4 NZ)),qM "Machine" 938 318 534 941,qW 536 533 (qs "linecaster.machine" 932),qT [.none],qT [],qN [],qT [(qs "self" 951),(qs "case" 952),(qs "keys" 953),(qs "casting" 954),(qs "broken" 955)],qT [],qg "__init__" "Machine.__init__" (FN (top 88) 0),qC "__init__" "Machine.__init__" 948 320 5 0 0 3 539 true 540 .none (qr 541) (qr 542) (qr 543) 956 957,⟨(qt "function"),.none,(qF "__init__" "Machine.__init__" (FN (top 88) 0) (qr 538) .none .none (qs "linecaster.machine" 932) .none (qr 544) .none),#[]⟩] <|
 LP ("Machine."++·) Zd NZ <|
 u [qT [(qs "case" 1094),(qs "casting" 1095),(qs "done" 1096),(qs "hanging" 1097),(qs "heated" 1098),(qs "line" 1099),(qs "lying" 1100),(qs "played" 1101),(qs "struck" 1102),(qs "texts" 1103),(qs "to_go" 1104),(qs "waits" 1105)],qD 4 ([qe P "__module__" 943 Zd,qe P "__firstlineno__" 947 (.int (318) 946),qv P "__init__" 958 545]++KP P NZ++[qv P "__static_attributes__" 1106 673,qv P "__dict__" 1108 676,qv P "__weakref__" 1110 677,qe P "__doc__" 1111 .none]),⟨(qt "type"),.none,(.cls ⟨(.ofString "Machine"),[(qt "object")],[(qr 675),(qt "object")],674,(.ofString "Machine"),true,[],[],false,.none,false⟩),#[.none,.none,(.some (qs "Machine" 936)),(.some (qs "Machine" 944)),(.some (qb "object.__new__")),(.some (.bool true))]⟩,⟨(qt "getset_descriptor"),.none,(.fields #[(qs "__dict__" 1107),(qr 675),(qb "function.__dict__"),(qb "function.__dict__#set")]),#[]⟩,⟨(qt "getset_descriptor"),.none,(.fields #[(qs "__weakref__" 1109),(qr 675),(qb "ExceptionGroup.__weakref__"),.none]),#[]⟩,qU 675,qI 675] <|
 LP id jw P0 <|
 u [qT [(qs "lines" 1158),(qs "gaps" 1159),(qs "keys" 1160),(qs "need" 1161)],qT [(qs "start" 1163),(qs "run" 1164),(qs "slugs" 1165),(qs "state" 1166),(qs "waited" 1167)]] <|
 LP id Sw P1 <|
 u [qT [],qP,qD 10 ([qe P "__module__" 1244 Sw,qe P "__qualname__" 1246 (qs "Desk" 1245),qe P "__firstlineno__" 1248 (.int (484) 1247)]++KP P O0++[qv P "__static_attributes__" 1299 805]),qT [],qN (z3 (LQ 4 O0)),qM "Desk" 1239 484 763 1242,qW 765 762 Sw] <|
 LP ("Desk."++·) Sw O0 <|
 u [qT [(qs "case" 1295),(qs "casting" 1296),(qs "composed" 1297),(qs "machine" 1298)],qD 4 ([qe P "__module__" 1244 Sw,qe P "__firstlineno__" 1248 (.int (484) 1247)]++KP P O0++[qv P "__static_attributes__" 1299 805,qv P "__dict__" 1301 808,qv P "__weakref__" 1303 809,qe P "__doc__" 1304 .none]),⟨(qt "type"),.none,(.cls ⟨(.ofString "Desk"),[(qt "object")],[(qr 807),(qt "object")],806,(.ofString "Desk"),true,[],[],false,.none,false⟩),#[.none,.none,(.some (qs "Desk" 1237)),(.some (qs "Desk" 1245)),(.some (qb "object.__new__")),(.some (.bool true))]⟩,⟨(qt "getset_descriptor"),.none,(.fields #[(qs "__dict__" 1300),(qr 807),(qb "function.__dict__"),(qb "function.__dict__#set")]),#[]⟩,⟨(qt "getset_descriptor"),.none,(.fields #[(qs "__weakref__" 1302),(qr 807),(qb "ExceptionGroup.__weakref__"),.none]),#[]⟩,qU 807,qI 807] <|
 LP id jx P2 <|
 []
def hA(P:Params):ϕ:=[boot_o_0 P,boot_o_1 P,boot_o_2 P,boot_o_3 P,boot_o_4 P,boot_o_5 P,boot_o_6 P,boot_o_7 P,boot_o_8 P,boot_o_9 P,boot_o_10 P,(hO P).getD 11 (qT []),qN [],(hO P).getD 13 (qT []),(hO P).getD 14 (qT [])]
noncomputable abbrev has:ϖ:=([2,3]++LR Ue++[22,29,30,31,32,35,42,44,45,47,48,49,50,51,54,61,62,63,66,73,75,76,78,79,80,81,82,85,92,94,95,97,98,99,100,101,104,111,113,114,116,117,118,119,120,123,130,131,132,135,142,144,145,147,148,149,150,151,154,161,162,163,166,173,174,175,178,185,186,187]++LR Ug++LR Uh++LR Ui++LR Uj++LR Uk++[452]++LR Ul++LR Um++LR Uo++LR Up++[538,539,541,542,544,545]++LR NZ++[673,674,675,676,677]++LR P0++[704,705]++LR P1++LR O0++[805,806,807,808,809]++LR P2)
def hK(P:Params):ϡ:=has.map λi=>(i,(hO P).getD i (qT []))
noncomputable abbrev Na:Life:=⟨[],[],[],0,[],[],false,#[],[],0,false,false,false,0,[2000,10,10],false,0,true,[],[],0,false⟩
noncomputable abbrev hD:HD:=⟨13212,12,0,6543,1,⟨0,0,0,0⟩,187,⟨0,0,0,0⟩,187,⟨0,0,0,0⟩,1486,933,15,⟨0,0,0,0⟩,⟨0,0,0,0⟩,⟨0,0,0,0⟩,⟨682,0,710,100⟩,(qr 13),14,(.some (qr 6))⟩
noncomputable abbrev á:ϣ:={ Ϫ with main:={ Ϫ.main with body:=[0,2,3,4,5,6,7,8,9,10,11,12,14,15,16,17,18,19,20,21,22,24,25,26,27,28,29,31,32,33,34,35,36,37,38,40,41,42,43,44,45,46,47,48,49,50,51,52,53,55,56,57,58,59,60,61,62,63,65,66,67,68,69,70,71,72,74,75,76,77,78,79,81,82,84,85,87,88,90,91,92,93,95,96,97,98,99,100,101,102,103,104,105,106,108,109,110,111,112,113,114,115,116,117,118,119,120,121,122,123,124,125,126].map top } }
end
def zW:Hd.W2 Ϫ hD Na hA:=λw a=>by w_up
def Wa:Hd.W5 Ϫ hD Na hA:=λw a=>by w_up
def hgo:Hd.Go Ϫ hD Na hA hO:=λw a=>by w_up
def Wb:Hd.Fin Ϫ hD Na hO:=λw a=>by w_up
def Ĝ:Hd.Z9 Ϫ hD Na hO:=λw a=>by w_up
def hN:∀P,(hO P).length=hD.many:=λP=>by w_up
def ū:∀P,(hO P).all Hd.nf=true:=λP=>by w_up
def hl3:Hd.W7 hD Na hO hK has:=Hd.jt hN ū (by w_up)
def hKe:∀P,has=(hK P).map (·.1):=λP=>by w_up
def hla:Hd.Zc Ϫ á hD Na hO (Hd.OZ ϫ á):=λw a=>by w_up
def jy:Hd.Lb Ϫ á hD Na hO (Hd.OZ ϫ á):=λw a=>by w_up
def jz:Hd.Lc Ϫ á hD Na hO (Hd.OZ ϫ á):=λw a=>by w_up
def jA:Hd.Ld Ϫ á hD Na hO (Hd.OZ ϫ á):=λw a=>by w_up
def jB:Hd.Le Ϫ á hD Na hO (Hd.OZ ϫ á):=λw a=>by w_up
def jC:Hd.Lf Ϫ á hD Na hO (Hd.OZ ϫ á):=λw a=>by w_up
def ģ:Hd.W6 Ϫ á hD Na hO (Hd.OZ ϫ á):=Hd.ju hla jy jz jA jB jC
def hsaid:Hd.Za ϫ=true:=by w_up
def hleft:LeftO Ϫ á [] (Hd.OZ ϫ á) (Hook.obs (kHook hK has hKe)) (Hook.val (kHook hK has hKe)) hD.N:=Hd.jq (D:=hD) (L:=Na) (A:=hA) (O:=hO) (by w_up) (λs=>by w_up) (by w_up) (by w_up) (by w_up) zW Wa hgo Wb Ĝ ģ hl3
end
end Lw
namespace L2
open PySem PySem.Spec PyProof.Rows
abbrev GO:=Sum Int ϥ
noncomputable def RF:GO->Ϟ->Bool|.inl k,v=>Value.isInt k v|.inr x,v=>Value.isStrOf x v
def Wc(w:Ϣ):GO->Int|.inl k=>hashInt k|.inr x=>hashStr w x
theorem P3:∀{k} {v},RF k v=true->(∃i t,k=Sum.inl i/\v=Value.int i t)\/(∃x t,k=Sum.inr x/\v=Value.str x t)
 |.inl i,v,h=>by obtain⟨t,e⟩:=Value.isInt_shape (k:=i) (v:=v) h;exact .inl ⟨i,t,U,e⟩
 |.inr x,v,h=>by obtain⟨t,e⟩:=Value.isStrOf_shape (x:=x) (v:=v) h;exact .inr ⟨x,t,U,e⟩
def jD(i)(t):RF (.inl i) (.int i t)=true:=by simp[RF,Value.isInt]
def jE(x)(t):RF (.inr x) (.str x t)=true:=by simp[RF,Value.isStrOf]
def jF(a b):decide ((Sum.inl a:GO)=Sum.inl b)=(a==b):=by lia
def jG(a b):decide ((Sum.inr a:GO)=Sum.inr b)=decide (a=b):=by lia
def jH(a)(b):decide ((Sum.inl a:GO)=Sum.inr b)=false:=Aj (λq=>nomatch q)
def jI(a)(b):decide ((Sum.inr a:GO)=Sum.inl b)=false:=Aj (λq=>nomatch q)
def Nq(prog:ϣ)(w:Ϣ):PySem.KeyKind prog w GO where
 is:=RF
 hash:=Wc w
 inj:=λv a b p d=>by
  rcases P3 p with⟨i,t,rfl,rfl⟩|⟨x,t,rfl,rfl⟩
  .rcases P3 d with⟨j,u,rfl,e⟩|⟨y,u,rfl,e⟩
   .injection e with e1 _;rw[e1]
   .exact nomatch e
  .rcases P3 d with⟨j,u,rfl,e⟩|⟨y,u,rfl,e⟩
   .exact nomatch e
   .injection e with e1 _;rw[e1]
 byValue:=λk v h=>by
  rcases P3 h with⟨i,t,rfl,rfl⟩|⟨x,t,rfl,rfl⟩<;>rfl
 pyHash:=λc h=>by
  rcases P3 c with⟨i,t,rfl,rfl⟩|⟨x,t,rfl,rfl⟩
  .exact wpAny_pyHash_int h
  .exact wpAny_pyHash_str h
 eqBool:=λo c h=>by
  rcases P3 o with⟨i,t,rfl,rfl⟩|⟨x,t,rfl,rfl⟩
  .rcases P3 c with⟨j,u,rfl,rfl⟩|⟨y,u,rfl,rfl⟩
   .rw[jF]at h;exact wpAny_eqBool_int h
   .rw[jH]at h;exact SeqAt.EqAt.int_str i t y u _ _ _ _ h
  .rcases P3 c with⟨j,u,rfl,rfl⟩|⟨y,u,rfl,rfl⟩
   .rw[jI]at h;exact SeqAt.EqAt.str_int x t j u _ _ _ _ h
   .rw[jG]at h;exact wpAny_eqBool_str h
 «strs»:=λk x t v h=>by
  rcases P3 h with⟨i,u,rfl,e⟩|⟨y,u,rfl,e⟩
  .exact nomatch e
  .injection e with e1 _
   subst e1;cases v<;>rfl
def jJ(prog)(w)(i)(t):(Nq prog w).is (.inl i) (.int i t)=true:=jD i t
def jK(prog)(w)(x)(t):(Nq prog w).is (.inr x) (.str x t)=true:=jE x t
inductive V where
 | non|bl (b:Bool)|int (i:Int)|str (x:ϥ)|byt (b:Array UInt8)|flt (b:UInt64)|ref (a:Ϡ)|ty (n:String)
 deriving DecidableEq
def BE:V->Ϟ->Prop
 |.non,u=>u=Value.none|.bl b,u=>u=Value.bool b
 |.int i,u=>∃t,u=Value.int i t|.str x,u=>∃t,u=Value.str x t
 |.byt b,u=>∃t,u=Value.bytes b t|.flt b,u=>∃t,u=Value.float b t
 |.ref a,u=>u=Value.ref a|.ty n,u=>u=Value.type n
abbrev AV:ϩ V->Ϗ->Prop:=Paired BE
def AV.length{xs}{us}(r:AV xs us):xs.length=us.length:=B2 r
theorem AV.get:∀{xs} {us} {i:Nat}{x},AV xs us->xs[i]?=some x->∃u,us[i]?=some u/\BE x u
 |_,_,_,_,.nil,e=>by simp at e|_,_,0,_,.cons r _,e=>by simp at e;subst e;exact⟨_,U,r⟩
 |_,_,i+1,x,.cons _ t,e=>by obtain⟨u,c,a⟩:=AV.get (i:=i) (x:=x) t (by simpa using e);exact⟨u,by simpa using c,a⟩
theorem AV.set{x}{u}(r:BE x u):∀{xs} {us} (i),AV xs us->AV (xs.set i x) (us.set i u)
 |_,_,_,.nil=>.nil|_,_,0,.cons _ t=>.cons r t
 |_,_,i+1,.cons q t=>.cons q (AV.set r i t)
def AV.append(h:AV xs us)(s:AV ys ws):AV (xs++ys) (us++ws):=by induction h with|nil=>exact s|cons r _ a=>exact .cons r a
theorem AV.take:∀{xs} {us} (n),AV xs us->AV (xs.take n) (us.take n)
 |_,_,0,_=>.nil|_,_,_+1,.nil=>.nil
 |_,_,n+1,.cons r t=>.cons r (AV.take n t)
theorem AV.drop:∀{xs} {us} (n),AV xs us->AV (xs.drop n) (us.drop n)
 |_,_,0,r=>r|_,_,_+1,.nil=>.nil
 |_,_,n+1,.cons _ t=>AV.drop n t
def FE:Ϩ V->ϐ->Prop
 |some v,some u=>BE v u|none,none=>True
 |_,_=>False
def KV{a:Type}:ϩ (a×V)->ϩ (a×Ϟ)->Prop:=Paired λ(p:a×V) (q:a×Ϟ)=>p.1=q.1/\BE p.2 q.2
def kV:GO->V|.inl i=>.int i|.inr x=>.str x
inductive HO where
 | lst (xs:ϩ V)
 | tup (xs:ϩ V)
 | dK (kvs:ϩ (GO×V))|dT (kvs:ϩ (ϩ GO×V))
 | set (S:Int->Bool) (n:Nat)
 | ins (C dx:Ϡ) (fs:ϩ (ϥ×V))
 | own (x:Ϡ)
 | xd (fs:ϩ (ϥ×V))
 | met (f x:Ϡ)
 | rng (lo hi:Int)
 | frz (o:Obj) (u:HO)
 | tbl (ps:Array Ϟ)
 | ext (φ:Ϥ->Prop)
abbrev Hp:=Ϡ->Ϩ HO
def upd(H:Hp)(a:Ϡ)(o:HO):Hp:=λb=>if b=a then some o else H b
theorem AM{H}{a}{o}:upd H a o a=some o:=by unfold upd;rw[B1 U]
theorem BJ{H}{a b}{o}(h:b≠a):upd H a o b=H b:=by unfold upd;rw[Av h]
def HB{H:Hp}{a b}{o u}(h:H a=some o)(h':H b=some u)(d:o≠u):a≠b:=by lia
def DR{H:Hp}{a b}{o}(h:H a=some o)(h':H b=none):a≠b:=by intro e;subst e;rw[h]at h';cases h'
section
variable (P:ϣ) (w:Ϣ)
def KF(H:Hp)(h:Ϥ)(a:Ϡ):HO->Prop
 |.lst e=>e.length<=sizeLine/\∃(d:Ϗ) (n:Nat),AV e d/\h.get? a=some { cls:=.type "list",data:=.seq d.toArray n }|.tup e=>e.length<=sizeLine/\∃d:Ϗ,AV e d/\IsTup h a d.toArray
 |.dK c=>c.length<=sizeLine/\(a==sysModules)=false/\∃s,KV c s/\h.DictOf (Nq P w) a s|.dT c=>c.length<=sizeLine/\(a==sysModules)=false/\∃e:ϩ (ϩ GO×Ϡ×Ϟ),
    Paired (λ(p:ϩ GO×V) (q:ϩ GO×Ϡ×Ϟ)=>p.1=q.1/\H q.2.1=some (.tup (p.1.map kV))/\BE p.2 q.2.2) c e /\
    ∃o z G,h.get? a=some o/\o.ExactDict/\o.data=.dict z G/\z.toList=e.map (entryOfKey (tupleKind (Nq P w)))/\(e.map (·.1)).Nodup
 |.set S n=>h.SetOf (intKind P w) a S n|.ins C j fs=>H j=some (.own a)/\fs.length<=1000/\j≠a/\h.get? a=some (PySem.W.instObj C j) /\
    ∃i,h.Ns1 j i/\(∀f,FE (fs.lookup f) (i f))/\PySem.Within i (fs.map (·.1))
 |.own _=>∃o,h.get? a=some o|.xd fs=>∃i,h.Ns1 a i/\∀f,FE (fs.lookup f) (i f)
 |.rng I E=>∃t u v,h.get? a=some { cls:=.type "range",data:=.fields #[.int I t,.int E u,.int 1 v] }|.frz o u=>h.get? a=some o/\KF H h a u
 |.tbl B=>h.get? a=some { cls:=.none,data:=.fields B }|.met f x=>h.get? a=some (PySem.W.methodObj (.ref f) (.ref x))
 |.ext k=>k h/\(∃o,h.get? a=some o)/\∀y r:Ϥ,k y->(∀o,y.get? a=some o->r.get? a=some o)->k r
def FO(H:Hp)(h:Ϥ):Prop:=∀a o,H a=some o->KF P w H h a o
end
section
variable {P:ϣ}{w:Ϣ}{H H':Hp}{h h':Ϥ}{a:Ϡ}{o:HO}
def KF.lt(x:KF P w H h a o):a<h.objs.size:=by cases o with|lst d=>(obtain⟨_,_,_,_,e⟩:=x;exact As e)|tup d=>(obtain⟨_,_,_,p⟩:=x;exact p.lt)|dK c=>(obtain⟨_,_,_,_,o,_,_,e,_⟩:=x;exact As e)|dT c=>(obtain⟨_,_,_,_,o,_,_,e,_⟩:=x;exact As e)|set S n=>(obtain⟨o,_,_,_,e,_⟩:=x;exact As e)|ins C s fs=>(obtain⟨_,_,_,e,_⟩:=x;exact As e)|own y=>(obtain⟨_,e⟩:=x;exact As e)|xd fs=>(obtain⟨_,⟨_,_,_,e,_⟩,_⟩:=x;exact As e)|rng v r=>(obtain⟨_,_,_,e⟩:=x;exact As e)|frz k u=>(obtain⟨e,_⟩:=x;exact As e)|tbl j=>exact As (show h.get? a=some _ from x)|met f y=>exact As (show h.get? a=some _ from x)|ext i=>obtain⟨_,⟨_,e⟩,_⟩:=x;exact As e
def Paired.Æ{e c:Type}{F G:e->c->Prop}{l₁}{l₂}(h:Paired F l₁ l₂)(f:∀a b,F a b->G a b):Paired G l₁ l₂:=by induction h with|nil=>exact .nil|cons r _ d=>exact .cons (f _ _ r) d
def KF.Ũ(x:KF P w H h a o)(k:∀b u,(b=a\/H b=some (.own a))->h.get? b=some u->h'.get? b=some u)
 (R:∀b,H b=some (.own a)->H' b=some (.own a)) (L:∀b xs,H b=some (.tup xs)->H' b=some (.tup xs)):KF P w H' h' a o:=by
 induction o with
 | lst xs=>obtain⟨z,B,n,r,e⟩:=x;exact⟨z,B,n,r,k _ _ (.inl U) e⟩
 | tup xs=>obtain⟨z,B,r,i,e,c⟩:=x;exact⟨z,B,r,i,k _ _ (.inl U) e,c⟩
 | dK E=>obtain⟨z,y,O,r,i,j,s,e,c⟩:=x;exact⟨z,y,O,r,i,j,s,k _ _ (.inl U) e,c⟩
 | dT E =>
   obtain⟨z,y,xs,r,i,j,s,e,c⟩:=x;exact⟨z,y,xs,Paired.Æ r λp q z=>⟨z.1,L _ _ z.2.1,z.2.2⟩,i,j,s,k _ _ (.inl U) e,c⟩
 | set S n=>obtain⟨i,j,s,t,e,c⟩:=x;exact⟨i,j,s,t,k _ _ (.inl U) e,c⟩
 | ins C Z fs =>
   obtain⟨d,z,ne,e,G,⟨I,j,s,Q,c⟩,r⟩:=x;exact⟨R _ d,z,ne,k _ _ (.inl U) e,G,⟨I,j,s,k _ _ (.inr d) Q,c⟩,r⟩
 | own y=>obtain⟨i,e⟩:=x;exact⟨i,k _ _ (.inl U) e⟩
 | xd fs=>obtain⟨G,⟨I,j,s,e,c⟩,r⟩:=x;exact⟨G,⟨I,j,s,k _ _ (.inl U) e,c⟩,r⟩
 | rng lo Y=>obtain⟨t,u,v,e⟩:=x;exact⟨t,u,v,k _ _ (.inl U) e⟩
 | frz i u T=>obtain⟨e,q⟩:=x;exact⟨k _ _ (.inl U) e,T q⟩
 | tbl J =>
   have e:h.get? a=some { cls:=.none,data:=.fields J }:=x;show h'.get? a=some { cls:=.none,data:=.fields J };exact k a _ (.inl U) e
 | met f y =>
   have e:=x;show h'.get? a=some (PySem.W.methodObj (.ref f) (.ref y));exact k a _ (.inl U) e
 | ext X=>obtain⟨p,⟨o,e⟩,st⟩:=x;exact⟨st _ _ p λo q=>k _ _ (.inl U) q,⟨o,k _ _ (.inl U) e⟩,st⟩
def FO.lt(x:FO P w H h)(e:H a=some o):a<h.objs.size:=(x a o e).lt
def FO.fresh(x:FO P w H h)(e:h.objs.size<=a):H a=none:=by cases q:H a with|none=>rfl|some u=>exact absurd (Bs (x.lt q) e) (Cy _)
def FO.kept(x:FO P w H h)(k:∀b u,h.get? b=some u->h'.get? b=some u):FO P w H h':=λa o e =>(x a o e).Ũ (λb u _ q=>k b u q) (λ_ q=>q) λ_ _ q=>q
def FO.laid(x:FO P w H h)(k:∀b u,h.get? b=some u->h'.get? b=some u)(j:h.objs.size<=a)(new:KF P w (upd H a o) h' a o):FO P w (upd H a o) h':=λb u e=>by
 have i:=x.fresh j;by_cases d:b=a
 .subst d;rw[AM]at e;cases e;exact new
 .rw[BJ d]at e
  exact(x b u e).Ũ (λc v _ q=>k c v q) (λc q=>by rw[BJ (DR q i)];exact q) λc p q=>by rw[BJ (DR q i)];exact q
end
def Rd(H:Hp)(a:Ϡ)(u:HO):Prop:=H a=some u\/∃o,H a=some (.frz o u)
def Rd.ok{P}{w}{H}{h}{a}{u}(r:Rd H a u)(x:FO P w H h):KF P w H h a u:=by rcases r with r|⟨o,r⟩;exact x a u r;obtain⟨_,q⟩:=x a _ r;exact q
def Sx:Ϩ HO->Prop
 |some (.lst _)=>True|some (.dK _)=>True
 |some (.dT _)=>True|some (.set _ _)=>True
 |some (.ins _ _ _)=>True|some (.ext _)=>True
 |_=>False
section
variable {P:ϣ}{w:Ϣ}{H:Hp}{h h':Ϥ}{x e:Ϡ}{o':HO}
def FO.write(ok:FO P w H h)(p:Sx (H x))(he:e=x\/H e=some (.own x))(k:∀b u,b≠e->h.get? b=some u->h'.get? b=some u)(B:∃u,h'.get? e=some u)
 (new:KF P w (upd H x o') h' x o'):FO P w (upd H x o') h':=λb u q=>by
 have d:∀c y,H c=some (.own y)->c≠x:=λc y r z=>by subst z;rw[r]at p;exact p
 have i:∀c o,H c=some (.tup o)->c≠x:=λc o r z=>by subst z;rw[r]at p;exact p
 by_cases j:b=x
 .subst j;rw[AM]at q;cases q;exact new
 .rw[BJ j]at q
  by_cases a:b=e
  .have C:H b=some (.own x):=by
    rcases he with z|z
    .exact absurd (a.trans z) j
    .rw[a];exact z
   rw[q]at C;cases C
   obtain⟨v,E⟩:=B;exact⟨v,by rw[a];exact E⟩
  .refine(ok b u q).Ũ (λc v s r=>k c v ?_ r) (λc r=>by rw[BJ (d c b r)];exact r) λc o r=>by rw[BJ (i c o r)];exact r
   rcases s with rfl|s
   .exact a
   .rintro rfl;rcases he with z|z
    .exact d c b s z
    .rw[s]at z;cases z;exact j U
end
structure Un(fs ex:ϖ)(H H':Hp)(h h':Ϥ):Prop where
 keep:∀b o,h.get? b=some o->H b=none->b∉fs->b∉ex->h'.get? b=some o
 slot:∀b o,h.get? b=some o->H b=none->b∈fs->b∉ex->∃sl,h'.get? b=some { o with slots:=sl }
 free:∀b o,h.get? b=some o->H b=none->b∉ex->H' b=none
 there:∀b o,h.get? b=some o->b∉ex->∃o',h'.get? b=some o'
 ŝ:∀b xs,H b=some (.tup xs)->H' b=some (.tup xs)
 Ŋ:∀b o u,H b=some (.frz o u)->H' b=some (.frz o u)
 Ű:∀b ps,H b=some (.tbl ps)->∃more,H' b=some (.tbl (ps++more))
section
variable {fs fs' ex ex':ϖ}{H H1 H2:Hp}{h h1 h2 h':Ϥ}{a x e:Ϡ}{o:HO}
def Un.any(u:Un fs ex H H1 h h1)(q:h.get? b=some ob)(n:H b=none)(d:b∉ex):∃i,h1.get? b=some { ob with slots:=i }:=by by_cases c:b∈fs;exact u.slot b ob q n c d;exact⟨ob.slots,u.keep b ob q n c d⟩
def Un.kept(k:∀b u,h.get? b=some u->h'.get? b=some u):Un fs ex H H h h' :=⟨λb c q _ _ _=>k b c q,λb c q _ _ _=>⟨c.slots,k b c q⟩,λ_ _ _ n _=>n,λb c q _=>⟨c,k b c q⟩,λ_ _ q=>q,λ_ _ _ q=>q,λ_ d q=>⟨#[],by rw[q];simp⟩⟩
def Un.refl:Un fs ex H H h h:=Un.kept λ_ _ q=>q
def Un.laid(k:∀b u,h.get? b=some u->h'.get? b=some u)(d:h.objs.size<=a)(c:H a=none):Un fs ex H (upd H a o) h h' where
 keep:=λb u q _ _ _=>k b u q
 slot:=λb u q _ _ _=>⟨u.slots,k b u q⟩
 free:=λb u q n _=>by rw[BJ (Bn (Bs (As q) d))];exact n
 there:=λb u q _=>⟨u,k b u q⟩
 ŝ:=λb i q=>by rw[BJ (DR q c)];exact q
 Ŋ:=λb u i q=>by rw[BJ (DR q c)];exact q
 Ű:=λb j q=>⟨#[],by rw[BJ (DR q c),q];simp⟩
def Un.write(c:Sx (H x))(he:e=x\/H e=some (.own x))(k:∀b u,b≠e->h.get? b=some u->h'.get? b=some u)(r:∃u,h'.get? e=some u):Un fs ex H (upd H x o) h h':=by
 have s:∀b,H b=none->b≠x:=λb n z=>by subst z;rw[n]at c;exact c
 have i:∀b,H b=none->b≠e:=λb n z=>by lia
 have d:∀b u,H b=some u->¬Sx (some u)->b≠x:=λb u q j z=>by subst z;rw[q]at c;exact j c
 refine⟨λb u q n _ _=>k b u (i b n) q,λb u q n _ _=>⟨u.slots,k b u (i b n) q⟩,λb u q n _=>by rw[BJ (s b n)];exact n,λb u q _=>?_,
  λb p q=>by rw[BJ (d b _ q λz=>z)];exact q,λb u p q=>by rw[BJ (d b _ q λz=>z)];exact q,λb v q=>⟨#[],by rw[BJ (d b _ q λz=>z),q];simp⟩⟩
 grind
end
noncomputable def Uq (h:Ϥ) (H:Hp):ϖ:=(List.range h.objs.size).filter λa=>(H a).isSome
def KQ(h:Ϥ)(H:Hp):Ϥ:=PySem.W.hideAll h (Uq h H)
def jL(h)(H):(KQ h H).objs.size=h.objs.size:=PySem.W.hideAll_size _ _
def jM{h}{H}{b}{o}(e:h.get? b=some o)(n:H b=none):(KQ h H).get? b=some o :=
 PySem.W.hideAll_get _ e λa=>by
  have q:(H b).isSome=true:=(Gm.mp a).2;rw[n]at q;simp at q
def jN{h}{H}{b}{o}(e:(KQ h H).get? b=some o):h.get? b=some o/\H b=none:=by have a:=PySem.W.of_hideAll (Uq h H) e;refine⟨a,?_⟩;cases q:H b with|none=>rfl|some x =>have c:b∈Uq h H:=Gm.mpr ⟨Dx.mpr (As a),by simp[q]⟩;simp_all[KQ,none,PySem.W.hideAll_none,Uq]
noncomputable def jO (g h:Ϥ) (L:Ϡ):ύ:=(List.range h.objs.size).filterMap λa=>if a=L\/(g.get? a).isSome=true then none else(h.get? a).map λo=>(a,o)
noncomputable def rest (g h:Ϥ) (L d:Ϡ):ύ:=(jO g h L).filter λp=>decide (p.1≠d)
structure Mod(K:ϡ)(mg:ϋ)(base:Ϥ):Prop where
 kin:K.In base
 glob:base.Ns mainGlobals mg
 blt:∃mb,base.Ns builtinsNs mb/\∀x:ϥ,x≠"__name__"->mb x=bootBuiltins x
 nolimit:base.NoLimit
structure Cx where
 prog:ϣ
 w:Ϣ
 K:ϡ
 mg:ϥ->ϐ
 base:Ϥ
 A:Around
 N:ώ
 Ã:ϟ
 H₀:Hp
 env:Env
 outer:Ϛ
 stack:Ϛ
 ex:ϖ
 fn:ϥ->Bool
 calm:Bool
 pn:ύ
 xe:Ϟ->ϟ->Prop
noncomputable def Mw (l:Ϛ):ϖ:=l.filterMap (·.frame)
abbrev Cx.fs(X:Cx):ϖ:=Mw X.outer
def Sy(a:Scope)(x:ϥ):Prop:=a.names.lookup x=some .local\/a.names.lookup x=some .cell\/a.names.lookup x=some .free
def P4(a:Scope)(x:ϥ):Prop:=a.names.lookup x=some .local\/a.names.lookup x=some .cell
def We(env:Env)(h:Ϥ)(m:ϋ)(x:ϥ)(u:Ϟ):Prop :=(env.kindOf x=some .local/\m x=some u)\/((env.kindOf x=some .cell\/env.kindOf x=some .free)/\∃c,env.cells.lookup x=some c/\h.IsCell c (some u))
structure Cx.Ok(X:Cx):Prop where
 mod:Mod X.K X.mg X.base
 kind:X.env.scope.kind=.function
 glob:X.env.globals=mainGlobals
 blt:X.env.builtins=builtinsNs
 above:X.Ã.heap.objs.size<=X.env.locals
 inj:∀x y c,X.env.cells.lookup x=some c->X.env.cells.lookup y=some c->x=y
 has:∀x,(X.env.kindOf x=some .cell\/X.env.kindOf x=some .free)->∃c,X.env.cells.lookup x=some c
 cab:∀x c,X.fn x=true->X.env.cells.lookup x=some c->X.Ã.heap.objs.size<=c
 hd:X.calm=true->X.A.handled=none
 frames:X.A.frames=some X.stack
 stk:X.stack=X.outer\/(X.stack=X.env::X.outer/\X.env.frame=some X.env.locals)
 exf:∀b∈X.ex,b≠X.env.locals/\∀x c,X.env.cells.lookup x=some c->c≠b
 bs:∀b o,X.base.get? b=some o->X.Ã.heap.get? b=some o/\X.H₀ b=none
 zX:X.base.objs.size<=X.Ã.heap.objs.size
 š:∀b o,X.base.get? b=some o->b∉X.ex
 ţ:∀b∈X.ex,b∉X.fs
 Đ:X.Ã.heap.FunFrames X.base X.outer
 frf:∀b∈X.fs,X.H₀ b=none
structure AG(X:Cx)(pins:ύ)(σ:ϩ (Ϩ V))(H:Hp)(s:ϟ):Prop where
 ok:X.Ok
 os:s.os=X.Ã.os
 bare:AllBare s.gens
 base:Un X.fs X.ex X.H₀ H X.Ã.heap s.heap
 loc:∃m,s.heap.Ns X.env.locals m/\∀(i:Nat) (x:ϥ) (v:V),X.N[i]?=some x->σ[i]?=some (some v)->Sy X.env.scope x->∃u,BE v u/\We X.env s.heap m x u
 cell:∀x c,X.env.cells.lookup x=some c->∃v,s.heap.IsCell c v
 free:H X.env.locals=none
 å:∀x c,X.env.cells.lookup x=some c->H c=none
 pin:∀p∈X.pn++pins,s.heap.get? p.1=some p.2/\H p.1=none/\p.1≠X.env.locals/\p.1∉X.fs/\∀v,p.2.data≠.cell v
 Ê:FO X.prog X.w H s.heap
 len:σ.length=X.N.length
section
variable {X:Cx}{pins:ύ}{σ:ϩ (Ϩ V)}{H H':Hp}{s:ϟ}{h':Ϥ}
def Cx.Ok.nofr(ok:X.Ok)(e:X.base.get? b=some o):b∉X.fs:=λa=>by
 have:=(ok.Đ.mem a).1;rw[e]at this;cases this
def AG.bs(I:AG X pins σ H s):∀b o,X.base.get? b=some o->s.heap.get? b=some o/\H b=none:=λb o e =>⟨I.base.keep b o (I.ok.bs b o e).1 (I.ok.bs b o e).2 (I.ok.nofr e) (I.ok.š b o e),I.base.free b o (I.ok.bs b o e).1 (I.ok.bs b o e).2 (I.ok.š b o e)⟩
def AG.bk(I:AG X pins σ H s):∀b o,X.base.get? b=some o->s.heap.get? b=some o:=λb o e=>(I.bs b o e).1
def AG.mod(I:AG X pins σ H s):Mod X.K X.mg X.base:=I.ok.mod
def AG.ď(I:AG X pins σ H s):X.K.In s.heap:=I.ok.mod.kin.keeps I.bk
def AG.lt(I:AG X pins σ H s):X.env.locals<s.heap.objs.size:=let ⟨_,hn,_⟩:=I.loc;hn.lt
def AG.sz(I:AG X pins σ H s):X.Ã.heap.objs.size<=s.heap.objs.size:=Aw I.ok.above (Fd I.lt)
def AG.nofs(I:AG X pins σ H s)(h:s.heap.objs.size<=a):a∉X.fs:=λd=>by
 obtain⟨_,o,c,_⟩:=I.ok.Đ.mem d;exact absurd (Bs (As c) (Aw I.sz h)) (Cy _)
def AG.cne(I:AG X pins σ H s):∀x c,X.env.cells.lookup x=some c->c≠X.env.locals:=λx c e z=>by
 obtain⟨v,o,i,hd⟩:=I.cell x c e;obtain⟨m,⟨p,k,j,d,a,_⟩,_⟩:=I.loc;rw[z,d]at i;cases i;rw[a]at hd;cases hd
def AG.Đ(I:AG X pins σ H s):s.heap.FunFrames X.base X.outer:=by
 have all:∀(l:Ϛ),(∀b∈Mw l,b∈X.fs)->X.Ã.heap.FunFrames X.base l->s.heap.FunFrames X.base l:=by
  intro l;induction l with
  | nil=>intro _ _;trivial
  | cons env r y =>
    rintro i ⟨j,⟨L,o,d,v,k,hd⟩,p⟩;have c:L∈X.fs:=i L (by unfold Mw;rw[Fn,d];exact Aa);obtain⟨B,e⟩:=I.base.slot L o k (I.ok.frf L c) c λz=>I.ok.ţ L z c
    exact⟨j,⟨L,_,d,v,e,hd⟩,y (λb a=>i b (by unfold Mw;rw[Fn,d];exact Ac _ a)) p⟩
 exact all X.outer (λ_ a=>a) I.ok.Đ
def AG.stack(I:AG X pins σ H s):s.heap.FunFrames X.base X.stack:=by rcases I.ok.stk with e|⟨e,a⟩;rw[e];exact I.Đ;rw[e];obtain⟨m,c,_⟩:=I.loc;exact .cons (by rw[I.ok.kind];decide) a c (Heap.get?_none_of_le (Aw I.ok.zX I.ok.above)) I.Đ
def AG.zx(I:AG X pins σ H s):∀b∈Mw X.stack,b∈X.env.locals::X.fs:=λb a=>by
 rcases I.ok.stk with e|⟨e,c⟩
 .rw[e]at a;exact Ac _ a
 .rw[e]at a
  unfold Mw at a;rw[Fn,c]at a
  exact a
def AG.Ś(I:AG X pins σ H s):∀b∈Mw X.stack,H b=none:=λb a=>by
 rcases Al.mp (I.zx b a)with e|a
 .rw[e];exact I.free
 .obtain⟨_,o,c,_⟩:=I.ok.Đ.mem a;exact I.base.free b o c (I.ok.frf b a) λz=>I.ok.ţ b z a
def AG.step{g'}{t'}{d'}{ch:ϖ}(I:AG X pins σ H s)
 (E:∀b∈ch,(b∈X.ex\/X.Ã.heap.objs.size<=b)/\b≠X.env.locals/\(∀x c,X.env.cells.lookup x=some c->c≠b)/\∀p∈X.pn++pins,p.1≠b)
 (keep:∀b o,b≠X.env.locals->b∉X.fs->b∉ch->s.heap.get? b=some o->H b=none->h'.get? b=some o)
 (slot:∀b o,b≠X.env.locals->b∈X.fs->b∉ch->s.heap.get? b=some o->H b=none->∃Q,h'.get? b=some { o with slots:=Q }) (free:∀b o,b∉ch->s.heap.get? b=some o->H b=none->H' b=none)
 (there:∀b o,b∉ch->s.heap.get? b=some o->∃P,h'.get? b=some P)
 (ŝ:∀b xs,H b=some (.tup xs)->H' b=some (.tup xs)) (Ŋ:∀b o u,H b=some (.frz o u)->H' b=some (.frz o u)) (Ű:∀b ps,H b=some (.tbl ps)->∃G,H' b=some (.tbl (ps++G)))
 (ns:∀m,s.heap.Ns X.env.locals m->h'.Ns X.env.locals m) (S:FO X.prog X.w H' h') (Y:AllBare g') :
 AG X pins σ H' { s with heap:=h',gens:=g',drawn:=d',toks:=t' }:=by
 have J:∀b o,X.Ã.heap.get? b=some o->b≠X.env.locals:=λb o e=>Bn (Bs (As e) I.ok.above)
 have y:∀b o,X.Ã.heap.get? b=some o->b∉X.ex->b∉ch:=λb o e a C=>by
  rcases(E b C).1 with z|z
  .exact a z
  .exact absurd (Bs (As e) z) (Cy _)
 have j:∀x c,X.env.cells.lookup x=some c->∀v,s.heap.IsCell c v->h'.IsCell c v:=λx c e v ⟨o,O,hd⟩=>by
  have L:=λz=>(E c z).2.2.1 x c e U
  by_cases W:c∈X.fs
  .obtain⟨Q,q⟩:=slot c o (I.cne x c e) W L O (I.å x c e);exact AU _ q hd
  .exact AU o (keep c o (I.cne x c e) W L O (I.å x c e)) hd
 refine⟨I.ok,I.os,Y,⟨λb o e n C a=>?_,λb o e n C a=>?_,λb o e n a=>?_,λb o e a=>?_,λb xs e=>ŝ b xs (I.base.ŝ b xs e),λb o xs e=>Ŋ b o xs (I.base.Ŋ b o xs e),λb ps e=>?_⟩,?_,λx c e=>?_,?_,λx c e=>?_,λp Z=>?_,S,I.len⟩
 .exact keep b o (J b o e) C (y b o e a) (I.base.keep b o e n C a) (I.base.free b o e n a)
 .obtain⟨Q,B⟩:=I.base.slot b o e n C a;obtain⟨T,R⟩:=slot b _ (J b o e) C (y b o e a) B (I.base.free b o e n a);exact⟨T,R⟩
 .obtain⟨P,B⟩:=I.base.there b o e a;exact free b P (y b o e a) B (I.base.free b o e n a)
 .obtain⟨P,B⟩:=I.base.there b o e a;exact there b P (y b o e a) B
 .obtain⟨m1,B⟩:=I.base.Ű b ps e
  grind
 .refine AS (λm hn hl=>?_) I.loc;refine AU m (ns m hn) (λi x v B R e3=>?_);refine AS (λu r l=>?_) (hl i x v B R e3);refine AU u r ?_;rcases l with l|⟨k,c,e,z⟩
  .exact .inl l
  .exact .inr ⟨k,c,e,j x c e _ z⟩
 .obtain⟨v,z⟩:=I.cell x c e;exact⟨v,j x c e v z⟩
 .obtain⟨m,⟨o,_,_,O,_⟩,_⟩:=I.loc
  grind[free,I.free]
 .refine EX (λv o O hd=>?_) (I.cell x c e);exact free c o (λz=>(E c z).2.2.1 x c e U) O (I.å x c e)
 .refine HP (λe n ne nf d=>?_) (I.pin p Z)
  grind
def AG.un{t'}(I:AG X pins σ H s)(u:Un X.fs [] H H' s.heap h')(j:FO X.prog X.w H' h'):AG X pins σ H' { s with heap:=h',toks:=t' }:=by
 obtain⟨m,⟨o,C,J,k,r⟩,_⟩:=id I.loc;obtain⟨B,v⟩:=u.any k I.free (by simp);exact I.step (g':=s.gens) (d':=s.drawn) (ch:=[]) (λ_ z=>nomatch z) (λb o _ c _ e n=>u.keep b o e n c (by simp)) (λb o _ c _ e n=>u.slot b o e n c (by simp)) (λb o _ e n=>u.free b o e n (by simp)) (λb o _ e=>u.there b o e (by simp)) u.ŝ u.Ŋ u.Ű (λG y=>by
  obtain⟨E,i,d,a,p⟩:=y;rw[k]at a;cases a
  exact⟨_,i,d,v,p⟩) j I.bare
def AG.call{g'}{t'}{d'}{ch}(I:AG X pins σ H s)(u:Un (Mw X.stack) ch H H' s.heap h')(y:FO X.prog X.w H' h')(G:AllBare g')
 (i:∀b∈ch,(b∈X.ex\/X.Ã.heap.objs.size<=b)/\b≠X.env.locals/\(∀x c,X.env.cells.lookup x=some c->c≠b)/\∀p∈X.pn++pins,p.1≠b) :
 AG X pins σ H' { s with heap:=h',gens:=g',drawn:=d',toks:=t' }:=by
 obtain⟨m,⟨o,O,R,B,r⟩,_⟩:=id I.loc;obtain⟨L,k⟩:=u.any B I.free λz=>(i _ z).2.1 U
 exact I.step (ch:=ch) i (λb o k E a e n=>u.keep b o e n (λz=>(Al.mp (I.zx b z)).elim k E) a) (λb o _ _ a e n=>u.any e n a) (λb o a e n=>u.free b o e n a) (λb o a e=>u.there b o e a) u.ŝ u.Ŋ u.Ű (λQ J=>by
  obtain⟨P,v,j,d,C⟩:=J;rw[B]at d;cases d
  exact⟨_,v,j,k,C⟩) y G
def AG.turned{t'}{a}(I:AG X pins σ H s)(k:∀b o,b≠a->s.heap.get? b=some o->h'.get? b=some o)(B:H a=none)(i:a≠X.env.locals)
 (P:a∈X.ex\/X.Ã.heap.objs.size<=a) (J:∀x c,X.env.cells.lookup x=some c->c≠a) (Q:∀p∈X.pn++pins,p.1≠a):AG X pins σ H { s with heap:=h',toks:=t' }:=by
 have G:∀b u,H b=some u->b≠a:=λb u e z=>by rw[z,B]at e;cases e
 refine I.step (g':=s.gens) (d':=s.drawn) (ch:=[a]) (λb L=>?_) (λb o _ _ d e _=>k b o (λz=>d (by simp[z])) e) (λb o _ _ d e _=>⟨o.slots,k b o (λz=>d (by simp[z])) e⟩) (λ_ _ _ _ n=>n)
  (λb o d e=>⟨o,k b o (λz=>d (by simp[z])) e⟩) (λ_ _ e=>e) (λ_ _ _ e=>e) (λb O e=>⟨#[],by rw[e];simp⟩) (λm C=>?_) (λb u e=>?_) I.bare
 .grind
 .revert C;refine Oq λo y E j r=>?_;exact JH o y E (LG (k _ o (Cr i) j) r)
 .refine(I.Ê b u e).Ũ (λc v d q=>k c v ?_ q) (λ_ q=>q) λ_ _ q=>q
  lia
def AG.tok(I:AG X pins σ H s)(t):AG X pins σ H { s with toks:=t }:=I.un (h':=s.heap) (t':=t) Un.refl I.Ê
def AG.kept{t'}(I:AG X pins σ H s)(k:∀b u,s.heap.get? b=some u->h'.get? b=some u):AG X pins σ H { s with heap:=h',toks:=t' }:=I.un (Un.kept k) (I.Ê.kept k)
def AG.laid{a}{o}{t'}(I:AG X pins σ H s)(k:∀b u,s.heap.get? b=some u->h'.get? b=some u)(c:s.heap.objs.size<=a)(new:KF X.prog X.w (upd H a o) h' a o) :
 AG X pins σ (upd H a o) { s with heap:=h',toks:=t' }:=I.un (Un.laid k c (I.Ê.fresh c)) (I.Ê.laid k c new)
def AG.write(I:AG X pins σ H s)(c:Sx (H x))(he:e=x\/H e=some (.own x))(k:∀b u,b≠e->s.heap.get? b=some u->h'.get? b=some u)(a:∃u,h'.get? e=some u)(new:KF X.prog X.w (upd H x o) h' x o):AG X pins σ (upd H x o) { s with heap:=h',toks:=t' }:=I.un (Un.write c he k a) (I.Ê.write c he k a new)
def AG.zG(I:AG X pins σ H s)(h:∀p∈a,s.heap.get? p.1=some p.2/\H p.1=none/\p.1≠X.env.locals/\p.1∉X.fs/\∀v,p.2.data≠.cell v):AG X a σ H s :=⟨I.ok,I.os,I.bare,I.base,I.loc,I.cell,I.free,I.å,λp c=>(Be.mp c).elim (λz=>I.pin p (Ce _ z)) (h p),I.Ê,I.len⟩
theorem Ze{N:ώ}(hN:N.Nodup){i j:Nat}{x}(a:N[i]?=some x)(b:N[j]?=some x):i=j:=by obtain⟨k,c⟩:=Ap.mp a;obtain⟨e,d⟩:=Ap.mp b;exact(List.getElem_inj hN).mp (c.trans d.symm)
def Zf{M}{A}{E}{i}{x}{v}{u}{Q}(I:AG X pins σ H s)(hN:X.N.Nodup)(hi:X.N[i]?=some x)(J:P4 X.env.scope x)(r:BE v u)
 (h:∀s',AG X pins (σ.set i (some v)) H s'->(∃a,Heap.SameBut a s.heap s'.heap/\(a=X.env.locals\/X.env.cells.lookup x=some a))->Q () s') (hf:X.fn x=true\/X.env.scope.names.lookup x=some .local:=by first|exact .inl U|exact .inr U|assumption):wpAny M A (storeName X.env x u) Q E s:=by
 refine AS (λm hn hl=>?_) (id I.loc);have aa:(X.env.scope.kind==.class||(X.env.scope.kind==.module&&X.env.locals !=X.env.globals))=false:=by rw[I.ok.kind];rfl
 have P:i<σ.length:=by rw[I.len];exact(Ap.mp hi).1
 have cne:=I.cne;have C:∀{a:Ϡ}{h':Ϥ},(∃o,s.heap.get? a=some o/\H a=none)->Heap.SameBut a s.heap h'->FO X.prog X.w H h':=λ{a h'} ha B b ob e=>by
  revert ha;refine AS λ_ _ ac=>?_;refine(I.Ê b ob e).Ũ (λc w' L q=>(B.2 c ?_).trans q) (λ_ q=>q) λ_ _ q=>q
  lia
 rcases J with T|T
 .refine wpAny_storeName_local T hn (λh' ae B=>?_) aa;refine Oq (λoL _ _ af _=>?_) (id hn);refine h _ ⟨I.ok,I.os,I.bare,⟨λb o e n R J=>?_,λb o e n R J=>?_,I.base.free,λb o e J=>?_,I.base.ŝ,I.base.Ŋ,I.base.Ű⟩,⟨_,ae,λj y v' G O e3=>?_⟩,λy c e=>?_,I.free,I.å,λp hp=>?_,C ⟨oL,af,I.free⟩ B,by simpa using I.len⟩ ⟨_,B,.inl U⟩
  .exact(B.2 b (Bn (Bs (As e) I.ok.above))).trans (I.base.keep b o e n R J)
  .obtain⟨sl,G⟩:=I.base.slot b o e n R J;exact⟨sl,(B.2 b (Bn (Bs (As e) I.ok.above))).trans G⟩
  .obtain⟨o',G⟩:=I.base.there b o e J;exact⟨o',(B.2 b (Bn (Bs (As e) I.ok.above))).trans G⟩
  .by_cases W:j=i
   .subst W;rw[hi]at G;cases G
    rw[Js P]at O
    cases O;exact AU u r (.inl ⟨T,by simp⟩)
   .rw[Gh (Cr W)]at O
    refine AS (λu' r' q=>?_) (hl j y v' G O e3);refine AU u' r' ?_;rcases q with⟨k,e⟩|⟨k,c,e,z⟩
    .refine .inl ⟨k,?_⟩
     grind[Ze]
    .exact .inr ⟨k,c,e,z.sameBut B (cne y c e)⟩
  .obtain⟨w',z⟩:=I.cell y c e;exact⟨w',z.sameBut B (cne y c e)⟩
  .refine HP (λe n ne nf d=>?_) (I.pin p hp);exact MX ((B.2 p.1 ne).trans e) n ne nf d
 .have S:X.fn x=true:=by
   lia
  obtain⟨c,L⟩:=I.ok.has x (.inl T);obtain⟨w',z⟩:=I.cell x c L;refine wpAny_storeName_cell I.ok.kind T L z (λh' Z B=>?_);refine AS (λoc ab ag=>?_) (id z);refine h { s with heap:=h' } ⟨I.ok,I.os,I.bare,⟨λb o e n R J=>?_,λb o e n R J=>?_,I.base.free,λb o e J=>?_,I.base.ŝ,I.base.Ŋ,I.base.Ű⟩,⟨m,hn.sameBut B (Cr (cne x c L)),λj y v' G O e3=>?_⟩,λy c' e=>?_,I.free,I.å,λp hp=>?_,C ⟨oc,ab,I.å x c L⟩ B,by simpa using I.len⟩ ⟨c,B,.inr L⟩
  .exact(B.2 b (Bn (Bs (As e) (I.ok.cab x c S L)))).trans (I.base.keep b o e n R J)
  .obtain⟨sl,G⟩:=I.base.slot b o e n R J;exact⟨sl,(B.2 b (Bn (Bs (As e) (I.ok.cab x c S L)))).trans G⟩
  .obtain⟨o',G⟩:=I.base.there b o e J;exact⟨o',(B.2 b (Bn (Bs (As e) (I.ok.cab x c S L)))).trans G⟩
  .by_cases W:j=i
   .subst W;rw[hi]at G;cases G
    rw[Js P]at O
    cases O;exact AU u r (.inr ⟨.inl T,c,L,Z⟩)
   .rw[Gh (Cr W)]at O
    refine AS (λu' r' q=>?_) (hl j y v' G O e3);refine AU u' r' ?_;rcases q with q|⟨k,c',e,z'⟩
    .exact .inl q
    .refine .inr ⟨k,c',e,z'.sameBut B ?_⟩;rintro rfl;exact W (Ze hN G (I.ok.inj _ _ _ e L ▸ hi))
  .by_cases Y:c'=c
   .subst Y;exact⟨_,Z⟩
   .obtain⟨w2,z2⟩:=I.cell y c' e;exact⟨w2,z2.sameBut B Y⟩
  .refine HP (λe n ne nf d=>?_) (I.pin p hp);refine MX ((B.2 p.1 ?_).trans e) n ne nf d
   grind
def Ur{u}(I:AG X pins σ H s)(hN:X.N.Nodup)(e:X.N[i]?=some x)(j:P4 X.env.scope x)(r:BE v u)(h:∀a,AG X pins (σ.set i (some v)) H a->Q () a)(c:X.fn x=true\/X.env.scope.names.lookup x=some .local:=by first|exact .inl U|exact .inr U|assumption):wpAny M A (storeName X.env x u) Q E s :=
 Zf I hN e j r (λa d _=>h a d) c
def AG.call'(I:AG X pins σ H s)(r:a.os=s.os)(u:Un (Mw X.stack) ch H H' s.heap a.heap)(d:FO X.prog X.w H' a.heap)(v:AllBare a.gens)(i:∀b∈ch,(b∈X.ex\/X.Ã.heap.objs.size<=b)/\b≠X.env.locals/\(∀x c,X.env.cells.lookup x=some c->c≠b)/\∀p∈X.pn++pins,p.1≠b):AG X pins σ H' a:=by obtain⟨h',o,j,k,y⟩:=a;have e:y=s.os:=r;subst e;exact I.call (g':=o) (t':=k) (d':=j) u d v i
end
abbrev XK:=Ϟ->ϒ->Hp->Prop
abbrev St:=ϩ (Ϩ V)
abbrev zS:=St->Hp->Prop
abbrev zU:=Nat->ϩ V->St->Hp->Prop
abbrev zT:=Nat->St->Hp->Prop
abbrev VK:=V->Hp->Prop
abbrev TE:=St->Hp->VK->Prop
abbrev TT:=St->Hp->(Bool->Hp->Prop)->Prop
abbrev TA:=St->Hp->(ϩ V->Hp->Prop)->Prop
structure GP where
 nx:St->Hp->Prop
 rt:VK
 bk:St->Hp->Prop:=λ_ _=>False
 ct:St->Hp->Prop:=λ_ _=>False
abbrev TS:=GP->St->Hp->Prop
def EP(X:Cx)(a:ύ)(e:St)(Q:VK)(u:Ϟ)(d:ϟ):Prop:=∃v c,AG X a e c d/\BE v u/\Q v c
def TP(X:Cx)(a:ύ)(e:St)(Q:Bool->Hp->Prop)(b:Bool)(d:ϟ):Prop:=∃c,AG X a e c d/\Q b c
def AP(X:Cx)(a:ύ)(i:St)(Q:ϩ V->Hp->Prop)(us:Ϗ)(e:ϟ):Prop:=∃c d,AG X a i d e/\AV c us/\Q c d
def SP(X:Cx)(c:ύ)(D:GP)(f:Flow)(e:ϟ):Prop :=
 match f with
 | .next=>∃a d,AG X c a d e/\D.nx a d
 | .brk=>∃a d,AG X c a d e/\D.bk a d
 | .cont=>∃a d,AG X c a d e/\D.ct a d
 | .ret u=>∃v a d,AG X c a d e/\BE v u/\D.rt v d
def PE(X:Cx)(e:Ϧ)(t:TE):Prop :=∀(a:ύ) (s:ϟ) (c:St) (H:Hp) (Q:VK),AG X a c H s->t c H Q->wpAny (model X.prog X.w) X.A (eval e X.env) (EP X a c Q) X.xe s
def PT(X:Cx)(e:Ϧ)(t:TT):Prop :=∀(a:ύ) (s:ϟ) (c:St) (H:Hp) (Q:Bool->Hp->Prop),AG X a c H s->t c H Q->wpAny (model X.prog X.w) X.A (isTrue e X.env (eval e X.env)) (TP X a c Q) X.xe s
def PW(X:Cx)(e:Ϧ)(t:TT):Prop :=∀(c:Sem Ϟ) (a:ύ) (s:ϟ) (d:St) (H:Hp) (Q:Bool->Hp->Prop),AG X a d H s->t d H Q->wpAny (model X.prog X.w) X.A (isTrue e X.env c) (TP X a d Q) X.xe s
def PW.pt(h:PW X e t):PT X e t:=h _
def PA(X:Cx)(e:ϗ)(t:TA):Prop :=∀(c:Pos) (a:ύ) (s:ϟ) (d:St) (H:Hp) (Q:ϩ V->Hp->Prop),AG X a d H s->t d H Q->wpAny (model X.prog X.w) X.A (spliced (backTo c (starEach e X.env))) (AP X a d Q) X.xe s
def PS(X:Cx)(st:ϧ)(t:TS):Prop :=∀(a:ύ) (s:ϟ) (c:St) (H:Hp) (D:GP),AG X a c H s->t D c H->wpAny (model X.prog X.w) X.A (exec st X.env) (SP X a D) X.xe s
def IT(X:Cx)(st:ϩ ϧ)(t:TS):Prop :=∀(a:ύ) (s:ϟ) (c:St) (H:Hp) (D:GP),AG X a c H s->t D c H->wpAny (model X.prog X.w) X.A (execs st X.env) (SP X a D) X.xe s
def BH{d:Type}{t:Sem d}{Q Q'}{M}{A}{E}{s}(h:wpAny M A t Q E s)(c:∀a s,Q a s->Q' a s):wpAny M A t Q' E s:=Co h c λ_ _ x=>x
section
variable {X:Cx}
def P5(i:Nat):TE:=λa H Q=>∃v,a[i]?=some (some v)/\Q v H
def tC(v:V):TE:=λ_ H Q=>Q v H
def jP(hN:X.N[i]?=some x)(E:Sy X.env.scope x)(hd:(x==("__debug__":ϥ))=false:=by lk)(k:(x==("__classdict__":ϥ))=false:=by lk):PE X (.Name x C) (P5 i):=by rintro j s y H Q I ⟨v,e,h⟩;obtain⟨m,z,p⟩:=I.loc;obtain⟨u,r,l⟩:=p i x v hN e E;have fin:EP X j y Q u s:=⟨v,H,I,r,h⟩;rcases l with⟨d,B⟩|⟨d,c,o,a⟩;exact wpAny_Name (wpAny_loadName_local I.ok.kind d z B fin) hd;rcases d with d|d;exact wpAny_Name (wpAny_loadName_cell I.ok.kind d o a fin) hd;exact wpAny_Name (wpAny_loadName_free I.ok.kind d o a fin k) hd
def AJ{i j a}:PE X (.Constant (.int i) j a) (tC (.int i)):=λ_ _ _ H _ I h=>wpAny_Constant_int ⟨.int i,H,I.tok _,⟨_,U⟩,h⟩
def JI{b j a}:PE X (.Constant (.bool b) j a) (tC (.bl b)):=λ_ _ _ H _ I h=>Constant_bool ⟨.bl b,H,I,U,h⟩
def QB{j a}:PE X (.Constant .none j a) (tC .non):=λ_ _ _ H _ I h=>Constant_none ⟨.non,H,I,U,h⟩
def BN{x j a}:PE X (.Constant (.str x) j a) (tC (.str x)):=λ_ _ _ H _ I h=>Calls.Constant_str ⟨.str x,H,I.tok _,⟨_,U⟩,h⟩
def Gl(X:Cx)(x:ϥ):Prop:=X.env.kindOf x=some .globalImplicit
def Qd{u}(I:AG X a σ H s)(e:Gl X x)(c:X.mg x=some u)(h:Q u s)(hd:(x==("__debug__":ϥ))=false:=by lk):wpAny (model X.prog X.w) X.A (eval (.Name x d) X.env) Q E s :=
 Ht I.ok.kind e (Calls.loadGlobal_global (by rw[I.ok.glob];exact I.mod.glob.keeps I.bk) c h) hd
def Os{u}(I:AG X a σ H s)(k:Gl X x)(c:X.mg x=none)(e:bootBuiltins x=some u)(h:Q u s)(o:x≠"__name__":=by lk)(hd:(x==("__debug__":ϥ))=false:=by lk):wpAny (model X.prog X.w) X.A (eval (.Name x d) X.env) Q E s:=by refine AS (λp j i=>?_) I.mod.blt;exact Ht I.ok.kind k (Calls.loadGlobal_builtin (by rw[I.ok.glob];exact I.mod.glob.keeps I.bk) c (by rw[I.ok.blt];exact j.keeps I.bk) ((i x o).trans e) h) hd
def JR{u}(d:Gl X x)(a:X.mg x=some u)(r:BE v u)(hd:(x==("__debug__":ϥ))=false:=by lk):PE X (.Name x c) (tC v) :=
 λ_ _ _ H _ I h=>Qd I d a ⟨v,H,I,r,h⟩ hd
variable {a b:Ϧ}{ta tb:TE}{pos:Pos}
def PC(X:Cx)(op:CmpOp)(a b:Ϧ)(t:TE):Prop :=∀(c:ύ) (s:ϟ) (i:St) (H:Hp) (Q:VK),AG X c i H s->t i H Q ->wpAny (model X.prog X.w) X.A (eval a X.env) (λv e=>wpAny (model X.prog X.w) X.A (eval b X.env) (λu d=>wpAny (model X.prog X.w) X.A (compareOp op v u) (EP X c i Q) X.xe d) X.xe e) X.xe s
def Zg(b){op}(h:op≠.In)(d:op≠.NotIn):behindInMarks op b=false:=by
 have c:(op==CmpOp.In)=false:=by cases op<;>first|rfl|exact absurd U h
 have e:(op==CmpOp.NotIn)=false:=by cases op<;>first|rfl|exact absurd U d
 cases b<;>simp[behindInMarks,c,e]
def Wf(ta:TE):TE:=λd H Q=>ta d H λx c=>Q (.bl (decide (x=.non))) c
def jQ(ta:TE):TE:=λd H Q=>ta d H λx c=>Q (.bl (!decide (x=.non))) c
def BE.ű{x}{v}(r:BE x v):(v==Value.none)=decide (x=.non):=by cases x with|non=>cases r;rfl|bl _=>cases r;rfl|int _=>(obtain⟨t,rfl⟩:=r;rfl)|str _=>(obtain⟨t,rfl⟩:=r;rfl)|byt _=>(obtain⟨t,rfl⟩:=r;rfl)|flt _=>(obtain⟨t,rfl⟩:=r;rfl)|ref _=>cases r;rfl|ty _=>cases r;rfl
def Us{j d}(i:PE X a ta):PC X .Is a (.Constant .none j d) (Wf ta):=by intro c s r H Q I h;exact BH (i c s r H _ I h) λv y ⟨x,e,p,k,o⟩=>Constant_none (is_none_gen ⟨.bl _,e,p,by rw[k.ű];rfl,o⟩)
def QC{j d}(i:PE X a ta):PC X .IsNot a (.Constant .none j d) (jQ ta):=by intro c s r H Q I h;exact BH (i c s r H _ I h) λv y ⟨x,e,p,k,o⟩=>Constant_none (isnot_none_gen ⟨.bl _,e,p,by rw[k.ű];rfl,o⟩)
def tB(t:TE):TT:=λe H Q=>t e H λx d=>∃c,x=.bl c/\Q c d
def P6(h:PC X op a b t)(e:behindInMarks op b=false:=by first|exact Zg _ (by lk) (by lk)|rfl):PE X (.Compare a [op] [b] pos) t:=λc s i H Q I d=>wpAny_Compare1 (h c s i H Q I d) e
def Ut{op}{t}(h:PC X op a b t)(j:behindInMarks op b=false:=by first|exact Zg _ (by lk) (by lk)|rfl):PT X (.Compare a [op] [b] pos) (tB t):=by intro i s B H Q I y;refine wpAny_isTrue_Compare1 (BH (h i s B H _ I y) λv E j=>BH j λu C k=>BH k λc G=>GL λx z p o r=>?_) j;revert r;refine AS λd e q=>?_;subst e;cases o;exact Ci ⟨z,p,q⟩
def FK{e}{t}(h:PE X e t)(he:∀c,isTrue e X.env c=(do let v <- c;standAt e.pos;holding [v] (truthy v)):=by intro _;rfl):PT X e (tB t):=by intro i s y H Q I p;refine isTrue_plain (BH (h i s y H _ I p) λv z ⟨x,r,k,j,o⟩=>?_) (he _);obtain⟨d,rfl,q⟩:=o;cases j;exact Ci ⟨r,k,q⟩
variable {tA tB':TT}{rest:ϗ}
def Wg(t u:TT):TT:=λe H Q=>t e H λc d=>if c=true then u e d Q else Q false d
def jR(t u:TT):TT:=λe H Q=>t e H λc d=>if c=true then Q true d else u e d Q
def Wh(t:TT):TT:=λe H Q=>t e H λc d=>Q (!c) d
def P7(i:PT X a tA):PW X (.BoolOp .And [a] pos) tA:=by intro k d s j H Q I h;refine isTrue_and (BH (i d s j H Q I h) λc o e=>?_);cases c with|true=>exact isTrue_and_nil e|false=>exact e
def P8(i:PT X a tA):PW X (.BoolOp .Or [a] pos) tA:=by intro k d s j H Q I h;refine isTrue_or (BH (i d s j H Q I h) λc o e=>?_);cases c with|false=>exact isTrue_or_nil e|true=>exact e
def P9(o:PT X a tA)(v:PW X (.BoolOp .And (b::rest) pos) tB'):PW X (.BoolOp .And (a::b::rest) pos) (Wg tA tB'):=by intro p d s k H Q I h;refine isTrue_and (BH (o d s k H _ I h) λc r=>AS λe j i=>?_);cases c with|true=>exact v p d r k e Q j i|false=>exact⟨e,j,i⟩
def Ot(o:PT X a tA)(v:PW X (.BoolOp .Or (b::rest) pos) tB'):PW X (.BoolOp .Or (a::b::rest) pos) (jR tA tB'):=by intro p d s k H Q I h;refine isTrue_or (BH (o d s k H _ I h) λc r=>AS λe j i=>?_);cases c with|true=>exact⟨e,j,i⟩|false=>exact v p d r k e Q j i
def KS(i:PT X a tA):PT X (.UnaryOp .Not a pos) (Wh tA):=by intro d s j H Q I h;exact isTrue_not (i d s j H (λc e=>Q (!c) e) I h)
def jS(ta tb:TE):TE:=λe H Q=>ta e H λx d=>∃c,x=.bl c/\if c=true then tb e d Q else Q (.bl false) d
def Wi(ta tb:TE):TE:=λe H Q=>ta e H λx d=>∃c,x=.bl c/\if c=true then Q (.bl true) d else tb e d Q
def KG{op}(h:PE X a t):PE X (.BoolOp op [a] pos) t:=λc s e H Q I d=>BoolOp_one (h c s e H Q I d)
def GY(p:PE X a ta)(z:PE X (.BoolOp .And (b::rest) pos) tb):PE X (.BoolOp .And (a::b::rest) pos) (jS ta tb):=by intro d s o H Q I h;refine BoolOp_and (BH (p d s o H _ I h) λv y=>GL λx j k r i=>?_);revert i;refine AS λc e i=>?_;subst e;cases r;refine Ci ?_;cases c with|true=>exact z d y o j Q k i|false=>exact⟨.bl false,j,k,U,i⟩
def jT(p:PE X a ta)(z:PE X (.BoolOp .Or (b::rest) pos) tb):PE X (.BoolOp .Or (a::b::rest) pos) (Wi ta tb):=by intro d s o H Q I h;refine BoolOp_or (BH (p d s o H _ I h) λv y=>GL λx j k r i=>?_);revert i;refine AS λc e i=>?_;subst e;cases r;refine Ci ?_;cases c with|false=>exact z d y o j Q k i|true=>exact⟨.bl true,j,k,U,i⟩
def jU(t:TT)(ta tb:TE):TE:=λd H Q=>t d H λc e=>if c=true then ta d e Q else tb d e Q
def Pa{c}(y:PT X c tA)(r:PE X a ta)(v:PE X b tb):PE X (.IfExp c a b pos) (jU tA ta tb):=by intro e s i H Q I h;refine wpAny_IfExp (BH (y e s i H _ I h) λd o=>AS λj p k=>?_);cases d with|true=>exact r e o i j Q p k|false=>exact v e o i j Q p k
end
def AC(K:ϡ)(H:Hp)(a:Ϡ)(xs:ϩ V):Prop :=Rd H a (.lst xs) \/∃(o:Obj) (c:Array Ϟ) (n:Nat),K.lookup a=some o/\o.cls=.type "list"/\o.dict=none/\o.data=.seq c n/\c.size<=sizeLine/\AV xs c.toList
def BP(K:ϡ)(H:Hp)(a:Ϡ)(xs:ϩ V):Prop :=Rd H a (.tup xs) \/∃(o:Obj) (c:Array Ϟ) (n:Nat),K.lookup a=some o/\o.cls=.type "tuple"/\o.data=.seq c n/\c.size<=sizeLine/\AV xs c.toList
noncomputable def Wj:Ϟ->Ϩ V
 |.none=>some .non|.bool b=>some (.bl b)
 |.int i _=>some (.int i)|.str x _=>some (.str x)
 |.bytes b _=>some (.byt b)|.float b _=>some (.flt b)
 |.ref a=>some (.ref a)|.type n=>some (.ty n)
 |_=>none
def BE.abs{u}(r:BE x u):Wj u=some x:=by cases x with|non=>cases r;rfl|bl _=>cases r;rfl|int _=>(obtain⟨t,rfl⟩:=r;rfl)|str _=>(obtain⟨t,rfl⟩:=r;rfl)|byt _=>(obtain⟨t,rfl⟩:=r;rfl)|flt _=>(obtain⟨t,rfl⟩:=r;rfl)|ref _=>cases r;rfl|ty _=>cases r;rfl
theorem BE.inj{x y}{u}(r:BE x u)(q:BE y u):x=y:=B0 (r.abs.symm.trans q.abs)
theorem AV.inj(h:AV xs us)(h':AV ys us):xs=ys:=by induction h generalizing ys with|nil=>cases h';rfl|cons r t c =>cases h' with|cons a d=>rw[r.inj a,c d]
section
variable {X:Cx}{pins:ύ}{σ:St}{H:Hp}{s:ϟ}{a:Ϡ}{xs ys:ϩ V}
def AC.of{K}(h:H a=some (.lst xs)):AC K H a xs:=.inl (.inl h)
def BP.of{K}(h:H a=some (.tup xs)):BP K H a xs:=.inl (.inl h)
def AG.list(I:AG X pins σ H s)(h:AC X.K H a xs):∃its:Ϗ,AV xs its/\PlainL s.heap a its.toArray/\xs.length<=sizeLine:=by rcases h with h|⟨o,its,n,c,i,hd,d,j,r⟩;obtain⟨z,its,n,r,e⟩:=h.ok I.Ê;exact HA its r ⟨_,n,e,U,U,U⟩ z;refine HA its.toList r ⟨o,n,I.ď a o c,i,hd,by simpa using d⟩ ?_;have e:=r.length;simp only[Au]at e;lia
def AG.tuple(I:AG X pins σ H s)(h:BP X.K H a xs):∃its:Ϗ,AV xs its/\IsTup s.heap a its.toArray/\xs.length<=sizeLine:=by rcases h with h|⟨o,its,n,c,i,d,j,r⟩;obtain⟨z,its,r,p⟩:=h.ok I.Ê;exact HA its r p z;refine HA its.toList r ⟨o,I.ď a o c,i,n,by simpa using d⟩ ?_;have e:=r.length;simp only[Au]at e;lia
def AG.Ĩ(I:AG X pins σ H s)(h:AC X.K H a xs)(h':AC X.K H a ys):xs=ys:=by obtain⟨i,r,⟨o,n,e,_,_,d⟩,_⟩:=I.list h;obtain⟨c,p,⟨y,v,k,_,_,j⟩,_⟩:=I.list h';rw[e]at k;cases k;rw[d]at j;injection j with d1 _;have:i=c:=(by simpa using Bt Array.toList d1);subst this;exact r.inj p
def AG.zO(I:AG X pins σ H s)(h:BP X.K H a xs)(h':BP X.K H a ys):xs=ys:=by obtain⟨i,r,⟨o,e,_,n,d⟩,_⟩:=I.tuple h;obtain⟨c,p,⟨y,k,_,v,j⟩,_⟩:=I.tuple h';rw[e]at k;cases k;rw[d]at j;injection j with d1 _;have:i=c:=(by simpa using Bt Array.toList d1);subst this;exact r.inj p
end
abbrev Cx.Ñ(X:Cx)(E:ϊ):Cx:={ X with xe:=E }
abbrev Cx.nox(X:Cx):Cx:=X.Ñ λ_ _=>False
def Cx.Ok.Ñ{X:Cx}(ok:X.Ok)(E):(X.Ñ E).Ok :=⟨ok.mod,ok.kind,ok.glob,ok.blt,ok.above,ok.inj,ok.has,ok.cab,ok.hd,ok.frames,ok.stk,ok.exf,ok.bs,ok.zX,ok.š,ok.ţ,ok.Đ,ok.frf⟩
def Cx.Ok.Ë{X:Cx}{E}(ok:(X.Ñ E).Ok):X.Ok :=⟨ok.mod,ok.kind,ok.glob,ok.blt,ok.above,ok.inj,ok.has,ok.cab,ok.hd,ok.frames,ok.stk,ok.exf,ok.bs,ok.zX,ok.š,ok.ţ,ok.Đ,ok.frf⟩
section
variable {X:Cx}{pins:ύ}{σ:St}{H:Hp}{s:ϟ}{E:ϊ}
def AG.Ñ(I:AG X pins σ H s)(E):AG (X.Ñ E) pins σ H s:=⟨I.ok.Ñ E,I.os,I.bare,I.base,I.loc,I.cell,I.free,I.å,I.pin,I.Ê,I.len⟩
def AG.Ë(I:AG (X.Ñ E) pins σ H s):AG X pins σ H s:=⟨I.ok.Ë,I.os,I.bare,I.base,I.loc,I.cell,I.free,I.å,I.pin,I.Ê,I.len⟩
def SP.Ë{D}{f}{d}(h:SP (X.Ñ E) pins D f d):SP X pins D f d:=by cases f with|next=>(obtain⟨a,c,I,q⟩:=h;exact⟨a,c,I.Ë,q⟩)|brk=>(obtain⟨a,c,I,q⟩:=h;exact⟨a,c,I.Ë,q⟩)|cont=>(obtain⟨a,c,I,q⟩:=h;exact⟨a,c,I.Ë,q⟩)|ret u=>obtain⟨v,a,c,I,r,q⟩:=h;exact⟨v,a,c,I.Ë,r,q⟩
def IT.nox{st}{t}(h:IT X.nox st t):IT X st t:=λpins s σ H D I a =>Co (h pins s σ H D (I.Ñ _) a) (λ_ _ q=>q.Ë) λ_ _ z=>False.elim z
end
section
variable {X:Cx}{st:ϧ}{rest:ϩ ϧ}{t u:TS}{e:Ϧ}{te:TE}{pos:Pos}
def Zh:TS:=λD a H=>D.nx a H
def QD(t u:TS):TS:=λD a H=>t { D with nx:=u D } a H
def CJ:IT X [] Zh:=λ_ _ a H _ I h=>Fs ⟨a,H,I,h⟩
def AH(i:PS X st t)(d:IT X rest u):IT X (st::rest) (QD t u):=by intro a s p H D I h;refine wpAny_execs_cons (BH (i a s p H { D with nx:=u D } I h) λf o q=>?_);cases f with|next =>revert q;refine EX λc k j q=>?_;exact d a o c k D j q|ret v=>exact q|brk=>exact q|cont=>exact q
def BV(c:PS X st t):IT X [st] t:=by intro a s d H D I h;refine wpAny_execs_cons (BH (c a s d H D I h) λf i q=>?_);cases f with|next=>exact Fs q|ret v=>exact q|brk=>exact q|cont=>exact q
def Zi:TS:=λD a H=>D.bk a H
def jV:PS X (.Pass pos) Zh:=λ_ _ a H _ I h=>wpAny_Pass ⟨a,H,I,h⟩
def jW:PS X (.Break pos) Zi:=λ_ _ a H _ I h=>wpAny_Break ⟨a,H,I,h⟩
def AG.quiet{a}{σ}{H}{s}(I:AG X a σ H s):interactive X.env=false:=by simp[interactive,I.ok.kind]
def jX(te:TE):TS:=λD a H=>te a H λ_ c=>D.nx a c
def FC(he:PE X e te)(k:swapsWith e none pos.line X.env=pure false:=by rfl):PS X (.Expr e pos) (jX te):=by intro a s d H D I h;exact wpAny_Expr_any (BH (he a s d H _ I h) λv r c=>by obtain⟨x,i,o,p,j⟩:=c;exact⟨d,i,o,j⟩) I.quiet k
def Sz(te:TE):TS:=λD a H=>te a H D.rt
def jY(he:PE X e te):PS X (.Return (some e) pos) (Sz te):=by intro a s c H D I h;exact wpAny_Return_some (BH (he a s c H _ I h) λv o ⟨x,d,k,i,j⟩=>⟨x,c,d,k,i,j⟩)
def jZ:TS:=λD _ H=>D.rt .non H
def k4:PS X (.Return none pos) jZ:=λ_ _ a H _ I h=>wpAny_Return_none ⟨.non,a,H,I,U,h⟩
def Wl(c:TT)(t u:TS):TS:=λD a H=>c a H λb d=>if b=true then t D a d else u D a d
def CC{c}{a b}{o}(B:PT X c o)(z:IT X a t)(y:IT X b u):PS X (.If c a b pos) (Wl o t u):=by intro i s j H D I h;refine wpAny_If (BH (B i s j H _ I h) λd v=>AS λr k p=>?_);cases d with|true=>exact z i v j r D k p|false=>exact y i v j r D k p
def k9:TS:=λ_ _ _=>False
def LI:PS X st k9:=λ_ _ _ _ _ _ h=>h.elim
end
abbrev TG:=V->St->Hp->(St->Hp->Prop)->Prop
abbrev QE:=ϩ V->St->Hp->(St->Hp->Prop)->Prop
def PG(X:Cx)(a:Ϧ)(t:TG):Prop :=∀(c:ύ) (s:ϟ) (i:St) (H:Hp) (v:V) (u:Ϟ) (Q:St->Hp->Prop),AG X c i H s->BE v u->t v i H Q ->wpAny (model X.prog X.w) X.A (assign a X.env u) (λ_ j=>∃d e,AG X c d e j/\Q d e) X.xe s
def QF(X:Cx)(o:ϗ)(t:QE):Prop :=∀(a:ύ) (s:ϟ) (j:St) (H:Hp) (e:ϩ V) (d:Ϗ) (Q:St->Hp->Prop),AG X a j H s->AV e d->t e j H Q ->wpAny (model X.prog X.w) X.A (assignInOrder ((assignEach o X.env).map (·.2)) d) (λ_ k=>∃c i,AG X a c i k/\Q c i) X.xe s
abbrev SD:=V->V->V->Hp->(Hp->Prop)->Prop
def SE(X:Cx)(t:SD):Prop :=∀(a:ύ) (s:ϟ) (j:St) (H:Hp) (o i v:V) (e c u:Ϟ) (Q:Hp->Prop),AG X a j H s->BE o e->BE i c->BE v u->t o i v H Q ->wpAny (model X.prog X.w) X.A (setItem e c u) (λ_ k=>∃d,AG X a j d k/\Q d) X.xe s
section
variable {X:Cx}{pos:Pos}
def Qe(i:Nat):TG:=λv a H Q=>Q (a.set i (some v)) H
def Zj(hN:X.N.Nodup)(e:X.N[i]?=some x)(j:P4 X.env.scope x)(c:X.fn x=true\/X.env.scope.names.lookup x=some .local:=by first|exact .inl U|exact .inr U|assumption):PG X (.Name x pos) (Qe i):=by intro a s o H v u Q I r h;exact wpAny_assign_Name (Ur I hN e j r (λk d=>⟨_,H,d,h⟩) c)
def Wm:QE:=λc a H Q=>c=[]/\Q a H
def ka(t:TG)(u:QE):QE:=λc e H Q=>∃v r,c=v::r/\t v e H λa d=>u r a d Q
def EL:QF X [] Wm:=by rintro a s c H e d Q I r ⟨rfl,h⟩;cases r;exact assignInOrder_nil ⟨c,H,I,h⟩
def BO{e}{c}{t}{u}(o:PG X e t)(i:QF X c u)
 (B:(assignEach (e::c) X.env).map (·.2)=assign e X.env::(assignEach c X.env).map (·.2):=by rfl):QF X (e::c) (ka t u):=by
 rintro a s C H E J Q I r ⟨v,G,rfl,h⟩;cases r with
 | cons r p =>
   rw[B];exact Hx (BH (o a s C H _ _ _ I r h) λ_ z ⟨d,y,j,k⟩=>i a z d y _ _ Q j p k)
def QG(K:ϡ)(n:Nat)(t:QE):TG:=λv d H Q=>∃a c,v=.ref a/\BP K H a c/\c.length=n/\t c d H Q
def kc(S:X.calm=true)(h:QF X j t)(R:(assignEach j X.env).length=n:=by rfl)(i:(assignEach j X.env).findIdx? (·.1)=none:=by rfl):PG X (.Tuple j k pos) (QG X.K n t):=by refine λc s y H v u Q I r=>IK λa O d E L J=>?_;subst d;cases r;refine DN (λG p z T=>?_) (I.tuple E);refine assign_Tuple_tuple (I.ok.hd S) z (by simp[R,<-L,p.length]) i λC P=>?_;have B:AG X c y H { s with heap:=C }:=I.kept (t':=s.toks) λb o e=>P b o (Bn (As e)) e;exact h c _ y H O _ Q B (by simpa using p) J
def Wn(to c:TE)(t:SD):TG:=λv a H Q=>to a H λo e=>c a e λi d=>t o i v d λj=>Q a j
def Uv{o i}{to j}{t}(L:PE X o to)(S:PE X i j)(R:SE X t)
 (Y:∀v,assign (.Subscript o i pos) X.env v=(do
   let c <- holding [v] (eval o X.env)
   let d <- holding [v,c] (eval i X.env)
   standAt pos
   holding [v,c,d] (setItem c d v)
   release [v,c,d] []):=by intro _;rfl):PG X (.Subscript o i pos) (Wn to j t):=by
 intro a s e H v u Q I r h;rw[Y];exact A5 (C9 (BH (L a s e H _ I h) λc P ⟨x,O,p,k,E⟩=>A5 (C9 (BH (S a P e O _ p E) λd C ⟨y,W,J,T,Z⟩=>A5 (Ds (A5 (C9 (BH (R a C e W x y v c d u _ J k T r Z) λ_ s3 ⟨z,B,G⟩=>wpAny_release ⟨e,z,B,G⟩))))))))
def O4(c:TE)(g:TG):TS:=λD a H=>c a H λx d=>g x a d D.nx
def IU{tg e}{c}{g}(he:PE X e c)(k:PG X tg g)(B:swapsWithSole [tg] e pos.line X.env=pure false:=by rfl)(r:swappedStores [tg] e X.env=pure none:=by rfl)
 (p:(assignEach [tg] X.env).map (·.2)=[assign tg X.env]:=by rfl):PS X (.Assign [tg] e pos) (O4 c g):=by
 intro a s d H D I h;refine wpAny_Assign_stores (BH (he a s d H _ I h) λv z=>GL λx y j i o=>?_) B r;rw[p];exact BH (k a z d y x v _ j i o) λ_ C q=>q
def kd{i}{x}{e}{d}{a}(hN:X.N.Nodup)(C:X.N[i]?=some x)(G:P4 X.env.scope x)(he:PE X e d)(B:swapsWith e (some (.Name x a)) pos.line X.env=pure false:=by rfl)(r:X.fn x=true\/X.env.scope.names.lookup x=some .local:=by first|exact .inl U|exact .inr U|assumption) :
 PS X (.Assign [.Name x a] e pos) (O4 d (Qe i)):=by
 intro c s E H D I h;exact wpAny_Assign_Name (BH (he c s E H _ I h) λv L ⟨y,z,k,j,o⟩=>Ur k hN C G j (λJ p=>⟨_,z,p,o⟩) r) B
def Wo(i j:Nat)(e:TA):TS:=λD a H=>e a H λc d=>∃v w,c=[v,w]/\D.nx ((a.set i (some v)).set j (some w)) d
def ke{kt k2 d}(hc:X.calm=true)(hN:X.N.Nodup)(hi:X.N[i]?=some x)(hj:X.N[j]?=some y)(E:i≠j)(W:X.env.scope.names.lookup x=some .local)(R:X.env.scope.names.lookup y=some .local)(ha:PA X [a,b] ta)(hw:swappedStores [.Tuple [.Name x L,.Name y S] kt pt] (.Tuple [a,b] k2 d) X.env=pure (some [x,y]))(hs:swapsWithSole [.Tuple [.Name x L,.Name y S] kt pt] (.Tuple [a,b] k2 d) pos.line X.env=pure false:=by rfl) :
 PS X (.Assign [.Tuple [.Name x L,.Name y S] kt pt] (.Tuple [a,b] k2 d) pos) (Wo i j ta):=by
 intro c s T H D I h;rw[exec_Assign_arm];refine A5 (Ds ?_);rw[hs];refine A5 (Ak ?_);rw[Av (by lk)];refine A5 (Tuple_ (BH (ha _ c s T H _ I h) λus z=>GL λvs Q I1 Y J=>?_));revert J;refine EX λv w B J=>?_;subst B;obtain⟨r,k,rfl,rv,G⟩:∃r k,us=[r,k]/\BE v r/\BE w k:=by
  cases Y with
  | cons p q =>
    cases q with
    | cons p' q' =>
      cases q';exact BY _ _ U p p'
 refine D8 ?_ (by show 2<=sizeLine;decide);have I2:AG X c T Q { z with heap:=z.heap.push { cls:=.type "tuple",data:=.seq [r,k].toArray } }:=I1.kept (t':=z.toks) λb o e=>A7 _ e
 rw[hw];refine A5 (Ak ?_);show wpAny (model X.prog X.w) X.A (do rule "assign.swapped-stores";let items <- unpackItems (.ref z.heap.objs.size) 2 none;assignInOrder [λv=>bindName X.env y v,λv=>bindName X.env x v] items.reverse;pure Flow.next) _ _ _;refine A5 (Jt (A5 (unpackItems_tuple (items:=#[r,k]) (I.ok.hd hc) (IsTup.new z.heap _) λO C=>?_)));show wpAny _ _ (assignInOrder [λv=>bindName X.env y v,λv=>bindName X.env x v] [k,r] >>= λ_=>pure Flow.next) _ _ _;refine A5 (Hx (wpAny_bindName (Ur (I2.kept (h':=O) (t':=z.toks) λb o e=>C b o (Bn (As e)) e) hN hj (.inl R) G (λs2 Z=>Hx (wpAny_bindName (Ur Z hN hi (.inl W) rv (λs3 P=>assignInOrder_nil (Ak ?_)) (.inr W)))) (.inr R))));rw[List.set_comm _ _ (Cr E)]at P
 exact Nn _ Q P J
end
section
variable {X:Cx}{pos:Pos}
def kg(c:TT)(tb:TS):TS:=λD a H=>∃W:Nat->St->Hp->Prop,(∃m,W m a H)/\∀m a H,W m a H ->c a H λb e=>if b=true then ∃N:St->Hp->Prop,(∀d j,N d j->∃i,i<m/\W i d j)/\tb { D with nx:=N,ct:=N,bk:=D.nx } a e else D.nx a e
def Pb{tb}(G:PassesOwn (model X.prog X.w) X.A X.env X.xe)(Z:PT X c T)(R:IT X body tb):PS X (.While c body [] pos) (kg T tb):=by intro d s σ H D I h;obtain⟨W,⟨m0,w0⟩,k⟩:=h;refine wpAny_While (codeAny_whileLoop (λn P=>∃j O,AG X d j O P/\W n j O) ?_ m0 ⟨σ,H,I,w0⟩);refine λn s1=>EX λe J S Q=>?_;refine E8 G (BH (Z d s1 e J _ S (k n e J Q)) λb Y=>AS λL E p=>?_);cases b with|true =>(revert p;refine AS λN hN p=>?_;rw[B1 U];refine E8 G (BH (R d Y e L _ E p) λf s3 o=>?_);cases f with|next =>revert o;refine EX λa i z y=>?_;refine AS (λB C r=>?_) (hN a i y);exact⟨B,C,a,i,z,r⟩|cont =>revert o;refine EX λa i z y=>?_;refine AS (λB C r=>?_) (hN a i y);exact⟨B,C,a,i,z,r⟩|brk=>exact o|ret v=>exact o)|false =>rw[Av Bg];exact Fs ⟨e,L,E,p⟩
end
structure It where
 go:Nat->Hp->Prop
 yld:Nat->Hp->V->Hp->Prop
 stop:Nat->Hp->Prop
def EB(X:Cx)(a:ύ)(H:Hp)(b:Ϡ):Prop :=H b=none/\b≠X.env.locals/\b∉X.fs/\(b∈X.ex\/X.Ã.heap.objs.size<=b)/\(∀x c,X.env.cells.lookup x=some c->c≠b)/\∀p∈X.pn++a,p.1≠b
def AG.ŷ{X}{a}{σ}{H H'}{s}{b}(I:AG X a σ H s)(d:s.heap.objs.size<=b)(j:H' b=none):EB X a H' b:=by refine⟨j,E4 (Bs I.lt d),I.nofs d,.inr (Aw I.sz d),λx c e z=>?_,λp i z=>?_⟩;obtain⟨v,q⟩:=I.cell x c e;exact absurd (Bs q.lt (by rw[z];exact d)) (Cy _);exact absurd (Bs (As (I.pin p i).1) (by rw[z];exact d)) (Cy _)
structure LS(P:ϣ)(w:Ϣ)(K:ϡ)(tg:Ϧ)(J:It)(fp:ϖ)(it:Ϡ)(tn:Nat->Ϥ->Prop):Prop where
 mem:it∈fp
 obj:∀i h,tn i h->∀b∈fp,∃o,h.get? b=some o/\∀v,o.data≠.cell v
 keep:∀i h h',tn i h->(∀b∈fp,∀o,h.get? b=some o->h'.get? b=some o)->tn i h'
 item:∀(X:Cx),X.prog=P->X.w=w->X.K=K->X.calm=true->∀(i:Nat) (pins:ύ) (s:ϟ) (σ:St) (H:Hp) (E:ϊ),AG X pins σ H s->(∀b∈fp,EB X pins H b)->tn i s.heap->J.go i H ->
  wpAny (model P w) X.A (pyNext (.ref it)) (λr s1=>∃u,r=some u /\
   wpAny (model P w) X.A (letOwnedTupleGo tg (.ref it) u) (λ_ s2=>∃x H',AG X pins σ H' s2/\BE x u/\J.yld i H x H'/\tn (i+1) s2.heap/\∀b∈fp,H' b=none) E s1) E s
 done:∀(X:Cx),X.prog=P->X.w=w->X.K=K->X.calm=true->∀(i:Nat) (pins:ύ) (s:ϟ) (σ:St) (H:Hp) (E:ϊ),AG X pins σ H s->(∀b∈fp,EB X pins H b)->tn i s.heap->J.stop i H ->
  wpAny (model P w) X.A (pyNext (.ref it)) (λr s1=>r=none/\AG X pins σ H s1) E s
 self:∀(A:Around) (i:Nat) (s:ϟ) (Q:ϊ) (E:ϊ),tn i s.heap->Q (.ref it) s->wpAny (model P w) A (pyIter (.ref it)) Q E s
abbrev TI:=St->Hp->(It->Hp->Prop)->Prop
def Uw(X:Cx)(a:ύ)(p:St)(o:Ϧ)(R:It->Hp->Prop)(c:Ϟ)(j:ϟ):Prop :=∃(e:Ϡ) (k:ϖ) (i:Nat->Ϥ->Prop) (J:It) (d:Hp),c=.ref e/\AG X a p d j/\LS X.prog X.w X.K o J k e i/\i 0 j.heap/\(∀b∈k,EB X a d b)/\R J d
def PI(X:Cx)(e iter:Ϧ)(d:TI):Prop :=∀(a:ύ) (s:ϟ) (c:St) (H:Hp) (R:It->Hp->Prop),AG X a c H s->d c H R ->wpAny (model X.prog X.w) X.A (eval iter X.env) (λv i=>wpAny (model X.prog X.w) X.A (pyIter v) (Uw X a c e R) X.xe i) X.xe s
def SG{u}(d:s.heap.get? c=some o)(i:o.cls=.type n)(hd:o.data=.fields vs)(j:["enumerate","zip","dict_itemiterator","dict_reverseitemiterator","odict_iterator","itertools.zip_longest","itertools.pairwise"].contains n=false)(a:Q () s):wpAny M A (letOwnedTupleGo e (.ref c) u) Q E s:=by
 unfold letOwnedTupleGo;cases e<;>first
  | exact Ak a
  | (cases u<;>first
      | exact Ak a
      | (refine A5 (wpAny_load d ?_)
         rw[i,hd];show wpAny M A (if (["enumerate","zip","dict_itemiterator","dict_reverseitemiterator","odict_iterator","itertools.zip_longest","itertools.pairwise"].contains n&&vs[0]?==some (rawInt _))=true then _ else _) Q E s;rw[Av (by intro h;rw[j,Bool.false_and]at h;cases h)];exact Ak a))
def RG(K:ϡ)(a:Ϡ):It :=⟨λi H=>∃c x,AC K H a c/\c[i]?=some x,λi H x d=>d=H/\∀c,AC K H a c->c[i]?=some x,λi H=>∃c,AC K H a c/\c.length<=i⟩
def Wp(K:ϡ)(a:Ϡ):It :=⟨λi H=>∃c x,BP K H a c/\c[i]?=some x,λi H x d=>d=H/\∀c,BP K H a c->c[i]?=some x,λi H=>∃c,BP K H a c/\c.length<=i⟩
def Qf(lo:Int)(n:Nat):It:=⟨λi _=>i<n,λi H x a=>a=H/\x=.int (lo+i),λi _=>n<=i⟩
def kh{P:ϣ}{w:Ϣ}{K:ϡ}{tg:Ϧ}(a y:Ϡ):LS P w K tg (RG K a) [y] y (λi h=>h.IsListIter y a i) where
 mem:=by simp
 obj:=λi h st b r=>by
  have e:b=y:=by simpa using r
  subst e;revert st;refine DN λo e c d=>?_;exact AU o e (λv z=>by rw[d]at z;cases z)
 keep:=λi h C st k=>st.at λo e=>k y (by simp) o e
 item:=by
  intro X hP T hK hc i j s σ H E I J st L;subst hP T hK;revert L;refine EX λxs x G Z=>?_;refine DN (λR S p hz=>?_) (I.list G);refine AS (λu hu ru=>?_) (S.get Z);refine FZ (λO Q f2 f3 f4 Y=>?_) (J y (by simp));refine wpAny_pyNext_list_item st p.isList (x:=u) (by simpa using hu) λC B sb=>?_;have I1:AG X j σ H { s with heap:=C }:=I.turned (t':=s.toks) (λb o r e=>(sb.2 b r).trans e) O Q f3 f4 Y;refine DN (λo e c d=>?_) (id B);exact AU u U (SG (s:={ s with heap:=C }) e c d (by lk) ⟨x,H,I1,ru,⟨U,λys hy=>by rw[I.Ĩ hy G];exact Z⟩,B,λb r=>(J b r).1⟩)
 done:=by
  intro X hP T hK hc i j s σ H E I J st L;subst hP T hK;revert L;refine AS λxs G Z=>?_;refine DN (λR S p hz=>?_) (I.list G);refine FZ (λO Q f2 f3 f4 Y=>?_) (J y (by simp));have hl:=S.length;exact wpAny_pyNext_list_end (I.ok.hd hc) st p.isList (by simp;lia) λC eb=>⟨U,I.turned (t':=s.toks) (λb o r e=>eb b o r e) O Q f3 f4 Y⟩
 self:=λ_ _ _ _ _ st h=>wpAny_pyIter_listiter st h
def ki{P:ϣ}{w:Ϣ}{K:ϡ}{tg:Ϧ}(a y:Ϡ):LS P w K tg (Wp K a) [y] y (λi h=>h.IsTupleIter y a i) where
 mem:=by simp
 obj:=λi h st b r=>by
  have e:b=y:=by simpa using r
  subst e;revert st;refine DN λo e c d=>?_;exact AU o e (λv z=>by rw[d]at z;cases z)
 keep:=λi h C st k=>st.at λo e=>k y (by simp) o e
 item:=by
  intro X hP T hK hc i j s σ H E I J st L;subst hP T hK;revert L;refine EX λxs x G Z=>?_;refine DN (λR S p hz=>?_) (I.tuple G);refine AS (λu hu ru=>?_) (S.get Z);refine FZ (λO Q f2 f3 f4 Y=>?_) (J y (by simp));refine wpAny_pyNext_tuple_item st (p) (x:=u) (by simpa using hu) λC B sb=>?_;have I1:AG X j σ H { s with heap:=C }:=I.turned (t':=s.toks) (λb o r e=>(sb.2 b r).trans e) O Q f3 f4 Y;refine DN (λo e c d=>?_) (id B);exact AU u U (SG (s:={ s with heap:=C }) e c d (by lk) ⟨x,H,I1,ru,⟨U,λys hy=>by rw[I.zO hy G];exact Z⟩,B,λb r=>(J b r).1⟩)
 done:=by
  intro X hP T hK hc i j s σ H E I J st L;subst hP T hK;revert L;refine AS λxs G Z=>?_;refine DN (λR S p hz=>?_) (I.tuple G);refine FZ (λO Q f2 f3 f4 Y=>?_) (J y (by simp));have hl:=S.length;exact wpAny_pyNext_tuple_end (I.ok.hd hc) st (p) (by simp;lia) λC eb=>⟨U,I.turned (t':=s.toks) (λb o r e=>eb b o r e) O Q f3 f4 Y⟩
 self:=λ_ _ _ _ _ st h=>wpAny_pyIter_tupleiter st h
def kl{P:ϣ}{w:Ϣ}{K:ϡ}{tg:Ϧ}(c:Ϡ)(lo:Int)(n:Nat):LS P w K tg (Qf lo n) [c] c (λi h=>IsRangeIter h c (lo+(i:Nat)*1) ((n:Int)-(i:Nat)) 1) where
 mem:=by simp
 obj:=λi h st b d=>by
  have e:b=c:=by simpa using d
  subst e;exact⟨_,st,λv z=>by
   have Y:Data.fields _=Data.cell v:=z;cases Y⟩
 keep:=λi h p st k=>k c (by simp) _ st
 item:=by
  intro X Q G hK R i a s T H E I r st y;subst Q G hK;refine FZ (λB C f2 O L J=>?_) (r c (by simp));refine(Walks.range (prog:=X.prog) (w:=X.w) (I.ok.hd R) c lo 1 n).item i s _ _ y st λv p S hv j kk=>?_;obtain⟨t,rfl⟩:=hv;have Z:AG X a T H { s with heap:=p,toks:=S }:=I.turned (λb o d e=>kk b o (by simpa using d) e) B C O L J;refine AU _ U (SG (s:={ s with heap:=p,toks:=S }) (n:="range_iterator") j U U (by lk) ⟨.int (lo+i),H,Z,⟨t,?_⟩,⟨U,U⟩,j,λb d=>(r b d).1⟩);rw[Int.mul_one]
 done:=by
  intro X Q G hK R i a s T H E I r st y;subst Q G hK;refine FZ (λB C f2 O L J=>?_) (r c (by simp));exact wpAny_pyNext_range_end (I.ok.hd R) st (by have:n<=i:=y;lia) λp eb=>⟨U,I.turned (t':=s.toks) (λb o d e=>eb b o d e) B C O L J⟩
 self:=λ_ _ _ _ _ st h=>wpAny_pyIter_rangeiter st h
section
variable {X:Cx}{tg:Ϧ}
def Zk(K:ϡ)(d:TE):TI:=λi H R=>d i H λx c=>∃a,x=.ref a/\(∃e,AC K c a e)/\R (RG K a) c
def SH(K:ϡ)(d:TE):TI:=λi H R=>d i H λx c=>∃a,x=.ref a/\(∃e,BP K c a e)/\R (Wp K a) c
def km{l}{j}(E:PE X l j):PI X tg l (Zk X.K j):=by
 intro c s G H R I h;refine BH (E c s G H _ I h) λv i=>GL λx C d k B=>?_;obtain⟨a,rfl,⟨O,y⟩,q⟩:=B;cases k;refine DN (λz J p L=>?_) (d.list y);refine F0 p.isList ⟨i.heap.objs.size,[i.heap.objs.size],_,_,C,U,d.kept (t':=i.toks) λb o e=>A7 _ e,kh a _,⟨_,Bc _ U,U,U⟩,λb r=>?_,q⟩;have e:b=i.heap.objs.size:=by simpa using r
 subst e;exact d.ŷ (A9 _) (d.Ê.fresh (A9 _))
def ko{l:Ϧ}{j:TE}(E:PE X l j):PI X tg l (SH X.K j):=by
 intro c s G H R I h;refine BH (E c s G H _ I h) λv i=>GL λx C d k B=>?_;obtain⟨a,rfl,⟨O,y⟩,q⟩:=B;cases k;refine DN (λz J p L=>?_) (d.tuple y);refine wpAny_pyIter_tuple (p) ⟨i.heap.objs.size,[i.heap.objs.size],_,_,C,U,d.kept (t':=i.toks) λb o e=>A7 _ e,ki a _,⟨_,Bc _ U,U,U⟩,λb r=>?_,q⟩;have e:b=i.heap.objs.size:=by simpa using r
 subst e;exact d.ŷ (A9 _) (d.Ê.fresh (A9 _))
def Zl{c}{σ}{H}{s}{R}{E}{lo a}{t u v}{i}(I:AG X c σ H s)(r:-(2^62)<=lo)(j:lo<2^62)(z:-(2^62)<=a)(p:a<2^62)
 (q:R (Qf lo (a-lo).toNat) H):wpAny (model X.prog X.w) X.A (pyIter (.ref s.heap.objs.size)) (Uw X c σ tg R) E { s with heap:=s.heap.push { cls:=.type "range",data:=.fields #[.int lo t,.int a u,.int 1 v] },toks:=i }:=by
 refine wpAny_pyIter_range (IsRange.new ..) (small_one r j z p) ?_;have d:AG X c σ H { s with heap:=s.heap.push { cls:=.type "range",data:=.fields #[.int lo t,.int a u,.int 1 v] },toks:=i }:=I.kept λb o e=>A7 _ e
 refine⟨(s.heap.push { cls:=.type "range",data:=.fields #[.int lo t,.int a u,.int 1 v] }).objs.size,[(s.heap.push { cls:=.type "range",data:=.fields #[.int lo t,.int a u,.int 1 v] }).objs.size],_,_,H,U,
  d.kept (t':=i) λb o e=>A7 _ e,kl _ lo (a-lo).toNat,?_,λb k=>?_,q⟩
 .have B:lo+((0:Nat):Int)*1=lo:=by simp
  have y:(((a-lo).toNat:Nat):Int)-((0:Nat):Int)=Builtin.Range.rangeSize lo a 1:=by rw[rangeSize_one];split<;>lia
  show IsRangeIter _ _ (lo+((0:Nat):Int)*1) ((((a-lo).toNat:Nat):Int)-((0:Nat):Int)) 1;rw[B,y];exact Bc _ U
 .have e:b=(s.heap.push { cls:=.type "range",data:=.fields #[.int lo t,.int a u,.int 1 v] }).objs.size:=by simpa using k
  subst e;exact d.ŷ (A9 _) (d.Ê.fresh (A9 _))
def kq(d:TA):TI:=λe H R=>d e H λa c=>∃j:Int,a=[.int j]/\-(2^62)<=j/\j<2^62/\R (Qf 0 j.toNat) c
def kr(d:TA):TI:=λe H R=>d e H λa c=>∃i j:Int,a=[.int i,.int j]/\(-(2^62)<=i/\i<2^62/\-(2^62)<=j/\j<2^62)/\R (Qf i (j-i).toNat) c
def NN{a}{i}{p d}(v:Gl X "range")(C:X.mg "range"=none)(E:PA X [a] i)(z:starEach [a] X.env=[(false,eval a X.env)]:=by rfl):PI X tg (.Call (.Name "range" p) [a] [] d) (kq i):=by intro c s B H R I h;refine Call_ (Os I v C boot_range (C8 (BH (E d c s B H _ I h) λP O ⟨J,L,o,k,e⟩=>?_) z U));obtain⟨j,rfl,e,G,q⟩:=e;cases k with|cons r y =>cases y;obtain⟨t,rfl⟩:=r;exact call_range_1 (Zl o (by lia) (by lia) e G (by simpa using q))
def Wq(B:Gl X "range")(O:X.mg "range"=none)(P:PA X [a,b] C)(J:starEach [a,b] X.env=[(false,eval a X.env),(false,eval b X.env)]:=by rfl)(d:starEach [b] X.env=[(false,eval b X.env)]:=by rfl) :
 PI X tg (.Call (.Name "range" p) [a,b] [] o) (kr C):=by
 intro c s L H R I h;refine Call_ (Os I B O boot_range (C8 (BH (P o c s L H _ I h) λZ Y ⟨T,W,z,y,e⟩=>?_) (by rw[J,d]) (by rw[d];rfl)));obtain⟨i,j,rfl,⟨e,Q,E,G⟩,q⟩:=e;cases y with
 | cons r k =>
   cases k with
   | cons v k =>
     cases k;obtain⟨t,rfl⟩:=r;obtain⟨S,rfl⟩:=v;exact call_range_2 (Zl z e Q E G q)
def Wr(o:TI)(g:TG)(tb:TS):TS:=λD a H=>o a H λJ p=>∃W:Nat->Nat->St->Hp->Prop,(∃m,W 0 m a p)/\∀i m a H,W i m a H ->(J.stop i H/\D.nx a H)\/(J.go i H/\∃N:St->Hp->Prop,(∀d c,N d c->∃j,j<m/\W (i+1) j d c)/\∀x c,J.yld i H x c->g x a c λe k=>tb { D with nx:=N,ct:=N,bk:=D.nx } e k)
def SI(a:ϖ)(h:Ϥ):ύ:=a.filterMap λb=>(h.get? b).map λo=>(b,o)
def Ux(c:b∈a)(e:h.get? b=some o):(b,o)∈SI a h:=E5.mpr ⟨b,c,by rw[e];rfl⟩
def ku(a:p∈SI c h):p.1∈c/\h.get? p.1=some p.2:=by obtain⟨b,d,e⟩:=E5.mp a;cases q:h.get? b with|none=>rw[q]at e;cases e|some o =>grind
def AG.pinned(I:AG X a σ H s)(B:∀b∈c,EB X a H b)(C:∀b∈c,∃o,s.heap.get? b=some o/\∀v,o.data≠.cell v):AG X (a++SI c s.heap) σ H s :=
 I.zG λp y=>(Be.mp y).elim (λz=>I.pin p (Bm _ z)) λz=>by
  obtain⟨i,e⟩:=ku z;refine FY (λk r E _=>?_) (B p.1 i);refine AS (λo j d=>?_) (C p.1 i);rw[e]at j;cases j
  exact MX e k r E d
def AG.ġ(I:AG X (a++pl) σ H s):AG X a σ H s:=I.zG λp c=>I.pin p (Bm _ (Ce _ c))
def GZ{tb}(S:PassesOwn (model X.prog X.w) X.A X.env X.xe)(hc:X.calm=true)(hi:PI X tg iter wi)(hg:PG X tg g)(k:IT X body tb)(hs:∀x,foldedSetIterable iter X.env x=pure x:=by intro _;rfl):PS X (.For tg iter body [] af) (Wr wi g tb):=by intro c s σ H D I h;refine wpAny_For (BH (hi c s σ H _ I h) λv s1 h1=>BH h1 λag s2 h2=>?_) hs;obtain⟨it,O,tn,J,H2,rfl,I2,T,ac,f2,W,⟨m0,w0⟩,Y⟩:=h2;have p:∀{C:Hp},(∀b∈O,C b=none)->∀b∈O,EB X c C b:=λhn b k=>⟨hn b k,(f2 b k).2⟩;refine codeAny_forLoop_any (λn s'=>∃i B C,AG X c B C s'/\tn i s'.heap/\(∀b∈O,C b=none)/\W i n B C) ?_ m0 ⟨0,σ,H2,I2,ac,λb k=>(f2 b k).1,w0⟩;refine λn s3=>GA λi j Z=>FY λI3 P Q w3=>?_;rcases Y i n j Z w3 with⟨R,qn⟩|⟨go,N,hN,step⟩;refine E8 S (BH (T.done X U U U hc i c s3 j Z X.xe I3 (p Q) P R) λr s4 ae=>?_);obtain⟨hr,I4⟩:=ae;subst hr;exact Fs ⟨j,Z,I4,qn⟩;refine E8 S (BH (T.item X U U U hc i c s3 j Z X.xe I3 (p Q) P go) λr s4=>AS λu hr h4=>?_);subst hr;refine E8 S (BH h4 λ_ s5=>Q9 λx H5 I5 r5 y5 G aa=>?_);refine E8 S (BH (hg _ s5 j H5 x u _ (I5.pinned (p aa) (T.obj _ _ G)) r5 (step x H5 y5)) λ_ s6 ⟨ab,H6,I6,q6⟩=>E8 S (BH (k _ s6 ab H6 _ I6 q6) λf s7 E=>?_));have again:∀{a:St}{y:Hp},AG X (c++SI O s5.heap) a y s7->N a y->∃m,m<n/\∃i B C,AG X c B C s7/\tn i s7.heap/\(∀b∈O,C b=none)/\W i m B C:=λ{a y} z L=>(by refine AS (λm' hm w7=>?_) (hN a y L);refine⟨m',hm,i+1,a,y,z.ġ,T.keep _ _ _ G λb k o e=>(z.pin (b,o) (Bm _ (Bm _ (Ux k e)))).1,λb k=>?_,w7⟩;refine AS (λo e d=>?_) (T.obj _ _ G b k);exact(z.pin (b,o) (Bm _ (Bm _ (Ux k e)))).2.1);cases f with|next=>(obtain⟨a,y,z,L⟩:=E;exact again z L)|cont=>(obtain⟨a,y,z,L⟩:=E;exact again z L)|brk=>(obtain⟨a,y,z,E⟩:=E;exact⟨a,y,z.ġ,E⟩)|ret v=>obtain⟨x7,a,y,z,r7,E⟩:=E;exact⟨x7,a,y,z.ġ,r7,E⟩
end
def Qg{K}{a}{xs}{g:TG}{tb:TS}{D:GP}{c}{H}(Pv:Nat->St->Hp->Prop)(z:Pv 0 c H)(B:∀i c H,i<=xs.length->Pv i c H->AC K H a xs)
 (C:∀i x c H,xs[i]?=some x->Pv i c H->g x c H λj s=>tb { D with nx:=Pv (i+1),ct:=Pv (i+1),bk:=D.nx } j s) (hd:∀c H,Pv xs.length c H->D.nx c H) :
 ∃W:Nat->Nat->St->Hp->Prop,(∃m,W 0 m c H)/\∀i m c H,W i m c H ->
  ((RG K a).stop i H/\D.nx c H)\/((RG K a).go i H/\∃N:St->Hp->Prop,(∀d k,N d k->∃v,v<m/\W (i+1) v d k)/\∀x k,(RG K a).yld i H x k->g x c k λj s=>tb { D with nx:=N,ct:=N,bk:=D.nx } j s):=by
 refine AU (λi m c H=>m=xs.length-i/\i<=xs.length/\Pv i c H) ⟨xs.length,by simp,B8 _,z⟩ ?_;refine λi m c H=>ED λr E p=>?_;subst r;have q:=B i c H E p;by_cases o:i<xs.length
 .refine .inr ⟨⟨xs,xs[i],q,by simp[o]⟩,Pv (i+1),λd k G=>⟨xs.length-(i+1),by lia,U,o,G⟩,λx k y=>?_⟩;obtain⟨rfl,y⟩:=y;exact C i x c _ (y xs q) p
 .have e:i=xs.length:=by lia
  subst e;exact .inl ⟨⟨xs,q,A9 _⟩,hd c H p⟩
def Nr{lo}{n}{g:TG}{tb:TS}{D:GP}{a}{H}(Pv:Nat->St->Hp->Prop)(v:Pv 0 a H)
 (z:∀i a H,i<n->Pv i a H->g (.int (lo+i)) a H λj r=>tb { D with nx:=Pv (i+1),ct:=Pv (i+1),bk:=D.nx } j r) (hd:∀a H,Pv n a H->D.nx a H) :
 ∃W:Nat->Nat->St->Hp->Prop,(∃m,W 0 m a H)/\∀i m a H,W i m a H ->
  ((Qf lo n).stop i H/\D.nx a H)\/((Qf lo n).go i H/\∃N:St->Hp->Prop,(∀d k,N d k->∃s,s<m/\W (i+1) s d k)/\∀x k,(Qf lo n).yld i H x k->g x a k λj r=>tb { D with nx:=N,ct:=N,bk:=D.nx } j r):=by
 refine AU (λi m a H=>m=n-i/\i<=n/\Pv i a H) ⟨n,by simp,B8 _,v⟩ ?_;refine λi m a H=>ED λo C p=>?_;subst o;by_cases c:i<n
 .refine .inr ⟨c,Pv (i+1),λd k B=>⟨n-(i+1),by lia,U,c,B⟩,λx k y=>?_⟩;obtain⟨e,y⟩:=y;subst e y;exact z i a _ c p
 .have e:i=n:=by lia
  subst e;exact .inl ⟨A9 _,hd a H p⟩
abbrev R2:=V->V->Hp->VK->Prop
def FG(X:Cx)(f:Ϟ->Ϟ->Sem Ϟ)(r:R2):Prop :=∀(a:ύ) (s:ϟ) (c:St) (H:Hp) (x y:V) (v u:Ϟ) (Q:VK),AG X a c H s->BE x v->BE y u->r x y H Q ->wpAny (model X.prog X.w) X.A (f v u) (EP X a c Q) X.xe s
def Ws(X:Cx)(f:Ϟ->Sem Ϟ)(r:V->Hp->VK->Prop):Prop :=∀(a:ύ) (s:ϟ) (c:St) (H:Hp) (x:V) (v:Ϟ) (Q:VK),AG X a c H s->BE x v->r x H Q ->wpAny (model X.prog X.w) X.A (f v) (EP X a c Q) X.xe s
def KU(X:Cx)(f:Ϟ)(r:ϩ V->Hp->VK->Prop):Prop :=∀(a:ύ) (s:ϟ) (e:St) (H:Hp) (d:ϩ V) (c:Ϗ) (Q:VK),AG X a e H s->AV d c->r d H Q ->wpAny (model X.prog X.w) X.A (call f c) (EP X a e Q) X.xe s
def Uy(r:R2)(e tb:TE):TE:=λa H Q=>e a H λx d=>tb a d λy c=>r x y c Q
def kv(r:V->Hp->VK->Prop)(c:TE):TE:=λd H Q=>c d H λx a=>r x a Q
def rI(C:Int->Int->Prop)(g:Int->Int->V):R2:=λx y H Q=>∃i j,x=.int i/\y=.int j/\C i j/\Q (g i j) H
def Pd(g:Int->Int->V):R2:=λx y H Q=>∃i j,x=.int i/\y=.int j/\Q (g i j) H
def rU(g:Int->V):V->Hp->VK->Prop:=λx H Q=>∃i,x=.int i/\Q (g i) H
section
variable {X:Cx}{a b c:Ϧ}{ta tb tc:TE}{pos:Pos}
def QH(L:PE X a ta)(r:PE X b tb){d}{s}{σ}{H}{R:V->V->Hp->Prop}(I:AG X d σ H s)
 (h:ta σ H λx o=>tb σ o λy e=>R x y e) {Q} {f:Ϟ->Ϟ->Sem Ϟ}
 (E:∀v u k x y e,AG X d σ e k->BE x v->BE y u->R x y e->wpAny (model X.prog X.w) X.A (f v u) Q X.xe k) :
 wpAny (model X.prog X.w) X.A (eval a X.env) (λv j=>wpAny (model X.prog X.w) X.A (eval b X.env) (λu i=>wpAny (model X.prog X.w) X.A (f v u) Q X.xe i) X.xe j) X.xe s:=by
 exact BH (L d s σ H _ I h) λv G ⟨x,o,z,p,B⟩=>BH (r d G σ o _ z B) λu k ⟨y,e,C,J,O⟩=>E v u k x y e C p J O
def AX{op}{r}(k:FG X (binaryOp op) r)(C:PE X a ta)(e:PE X b tb):PE X (.BinOp a op b pos) (Uy r ta tb):=by intro d s z H Q I h;exact wpAny_BinOp (QH C e I h λv u i x y B j o p q=>k d i z B x y v u Q j o p q)
def Nt(p:Ws X (unaryOp op) r)(B:PE X a ta):PE X (.UnaryOp op a pos) (kv r ta):=by intro d s i H Q I h;exact UnaryOp_ (BH (B d s i H _ I h) λv z e=>by obtain⟨x,y,k,j,o⟩:=e;exact p d z i y x v Q k j o)
def Uz{f}{C}{g:Int->Int->Int}
 (rule:∀(i j) (t u) (s) (Q) (E),C i j->Q (.int (g i j) s.toks) { s with toks:=s.toks+1 }->wpAny (model X.prog X.w) X.A (f (.int i t) (.int j u)) Q E s) :
 FG X f (rI C λi j=>.int (g i j)):=by
 rintro d s r H x y v u Q I k o ⟨i,j,rfl,rfl,p,q⟩;obtain⟨t,rfl⟩:=k;obtain⟨e,rfl⟩:=o;exact rule i j t e s _ _ p ⟨.int (g i j),H,I.tok _,⟨_,U⟩,q⟩
def QI{f}{g:Int->Int->Int}
 (rule:∀(i j) (t u) (s) (Q) (E),Q (.int (g i j) s.toks) { s with toks:=s.toks+1 }->wpAny (model X.prog X.w) X.A (f (.int i t) (.int j u)) Q E s) :
 FG X f (Pd λi j=>.int (g i j)):=by
 rintro d s p H x y v u Q I k o ⟨i,j,rfl,rfl,q⟩;obtain⟨t,rfl⟩:=k;obtain⟨e,rfl⟩:=o;exact rule i j t e s _ _ ⟨.int (g i j),H,I.tok _,⟨_,U⟩,q⟩
def Pe{f}{g:Int->Int->Bool}
 (rule:∀(i j) (t u) (s) (Q) (E),Q (.bool (g i j)) s->wpAny (model X.prog X.w) X.A (f (.int i t) (.int j u)) Q E s) :
 FG X f (Pd λi j=>.bl (g i j)):=by
 rintro d s p H x y v u Q I k o ⟨i,j,rfl,rfl,q⟩;obtain⟨t,rfl⟩:=k;obtain⟨e,rfl⟩:=o;exact rule i j t e s _ _ ⟨.bl (g i j),H,I,U,q⟩
def Wt(i j:Int):Prop:=0<j/\j<1073741824
def QJ(i j:Int):Prop:=(-(2^64)<i/\i<2^64)\/(-(2^64)<j/\j<2^64)
def QJ.ok{i j}(h:QJ i j):IntMulOk i j:=by rcases h with⟨d,e⟩|⟨d,e⟩;exact .of_left (intBits_le_64 d e);exact .of_right (intBits_le_64 d e)
def kx(k:Nat):(0:Int)<=2^k:=by rw[two_pow_cast];exact Ko _
def DT:FG X (binaryOp .Add) (Pd λi j=>.int (i+j)):=QI λ_ _ _ _ _ _ _ q=>add_int q
def LU:FG X (binaryOp .Sub) (Pd λi j=>.int (i-j)):=QI λ_ _ _ _ _ _ _ q=>sub_int q
def Nd:FG X (binaryOp .Mult) (rI QJ λi j=>.int (i*j)):=Uz λ_ _ _ _ _ _ _ d q=>mul_int q d.ok
def LV:FG X (binaryOp .FloorDiv) (rI Wt λi j=>.int (i/j)):=Uz λi j _ _ _ _ _ d q=>by
 have k:(0:Int)<j:=d.1;have e:j<1073741824:=d.2;exact floordiv_int (by lia) (by rw[Hy i (by lia)];exact q) (.inl (Ju (by lia)))
def GM:FG X (binaryOp .Mod) (rI (λ_ j=>0<j) λi j=>.int (i%j)):=Uz λi j _ _ _ _ _ d q=>by
 have e:(0:Int)<j:=d;exact mod_int' (by lia) (by rw[Int.fmod_eq_emod_of_nonneg i (by lia)];exact q)
def kz:FG X (binaryOp .RShift) (rI (λ_ j=>0<=j) λi j=>.int (i/2^j.toNat)):=Uz λi j _ _ _ _ _ d q =>rshift_int d (by rw[Hy i (kx _)];exact q)
def Zm:FG X (binaryOp .BitAnd) (Pd λi j=>.int (Builtin.bitAnd i j)):=QI λ_ _ _ _ _ _ _ q=>and_int q
def kA{f}{g:Int->Int}
 (rule:∀(i) (t) (s) (Q) (E),Q (.int (g i) s.toks) { s with toks:=s.toks+1 }->wpAny (model X.prog X.w) X.A (f (.int i t)) Q E s) :
 Ws X f (rU λi=>.int (g i)):=by
 rintro d s j H x v Q I e ⟨i,rfl,q⟩;obtain⟨t,rfl⟩:=e;exact rule i t s _ _ ⟨.int (g i),H,I.tok _,⟨_,U⟩,q⟩
def Nv:Ws X (unaryOp .USub) (rU λi=>.int (-i)):=kA λ_ _ _ _ _ q=>neg_int q
end
noncomputable def SJ:V->V->Bool
 |.non,.non=>true|.non,.int _=>true|.int _,.non=>true|.non,.bl _=>true|.bl _,.non=>true|.non,.str _=>true|.str _,.non=>true
 |.int _,.int _=>true|.bl _,.bl _=>true|.str _,.str _=>true|.byt _,.byt _=>true
 |.int _,.str _=>true|.str _,.int _=>true|.bl _,.str _=>true|.str _,.bl _=>true
 |_,_=>false
def kB:R2:=λx y H Q=>SJ x y=true/\Q (.bl (decide (x=y))) H
def kC:R2:=λx y H Q=>SJ x y=true/\Q (.bl (!decide (x=y))) H
def Zn:decide (V.int i=V.int j)=(i==j):=by rw[Di];simp
def Zo:decide (V.bl i=V.bl j)=(i==j):=by rw[Di];simp
def Zp:decide (V.str i=V.str j)=(i==j):=by rw[Di];simp
def Zq:decide (V.byt i=V.byt j)=(i.toList==j.toList):=by rw[Di];cases i;cases j;simp
section
variable {X:Cx}{a b c:Ϧ}{ta tb tc:TE}{pos:Pos}
def GG(I:AG X d σ H s)(q:Q (.bl k) H)(e:k=i):EP X d σ Q (.bool i) s:=by subst e;exact BY (.bl k) H I U q
def EE:FG X (compareOp .Eq) kB:=by rintro p s r H x y v u Q I o d ⟨k,q⟩;cases x with|non =>(cases o;cases y with|non=>cases d;exact PySem.EqNone.eq_none_none (GG I q (by simp))|bl j=>cases d;exact PySem.EqNone.eq_none_bool (GG I q (by simp))|int j=>(obtain⟨e,rfl⟩:=d;exact PySem.EqNone.eq_none_int (GG I q (by simp)))|str j=>(obtain⟨e,rfl⟩:=d;exact PySem.EqNone.eq_none_str (GG I q (by simp)))|_=>exact absurd (show false=true from k) Bg)|bl i =>(cases o;cases y with|non=>cases d;exact PySem.EqNone.eq_bool_none (GG I q (by simp))|bl j=>cases d;exact eq_bool (GG I q Zo)|str j=>(obtain⟨e,rfl⟩:=d;exact PySem.EqMixed.eq_bool_str (GG I q (by simp)))|_=>exact absurd (show false=true from k) Bg)|int i =>(obtain⟨t,rfl⟩:=o;cases y with|non=>cases d;exact PySem.EqNone.eq_int_none (GG I q (by simp))|int j=>(obtain⟨e,rfl⟩:=d;exact eq_int (GG I q Zn))|str j=>(obtain⟨e,rfl⟩:=d;exact PySem.EqMixed.eq_int_str (GG I q (by simp)))|_=>exact absurd (show false=true from k) Bg)|str i =>(obtain⟨t,rfl⟩:=o;cases y with|non=>cases d;exact PySem.EqNone.eq_str_none (GG I q (by simp))|bl j=>cases d;exact PySem.EqMixed.eq_str_bool (GG I q (by simp))|int j=>(obtain⟨e,rfl⟩:=d;exact PySem.EqMixed.eq_str_int (GG I q (by simp)))|str j=>(obtain⟨e,rfl⟩:=d;exact eq_str (GG I q Zp))|_=>exact absurd (show false=true from k) Bg)|byt i =>(obtain⟨t,rfl⟩:=o;cases y with|byt j=>(obtain⟨e,rfl⟩:=d;exact PySem.W.eq_bytes (GG I q Zq))|_=>exact absurd (show false=true from k) Bg)|_=>cases y<;>exact absurd (show false=true from k) Bg
def My:FG X (compareOp .NotEq) kC:=by rintro p s r H x y v u Q I o d ⟨k,q⟩;cases x with|non =>(cases o;cases y with|non=>cases d;exact PySem.EqNone.ne_none_none (GG I q (by simp))|bl j=>cases d;exact PySem.EqNone.ne_none_bool (GG I q (by simp))|int j=>(obtain⟨e,rfl⟩:=d;exact PySem.EqNone.ne_none_int (GG I q (by simp)))|str j=>(obtain⟨e,rfl⟩:=d;exact PySem.EqNone.ne_none_str (GG I q (by simp)))|_=>exact absurd (show false=true from k) Bg)|bl i =>(cases o;cases y with|non=>cases d;exact PySem.EqNone.ne_bool_none (GG I q (by simp))|bl j=>cases d;exact ne_bool (GG I q (Bt not Zo))|str j=>(obtain⟨e,rfl⟩:=d;exact PySem.EqMixed.ne_bool_str (GG I q (by simp)))|_=>exact absurd (show false=true from k) Bg)|int i =>(obtain⟨t,rfl⟩:=o;cases y with|non=>cases d;exact PySem.EqNone.ne_int_none (GG I q (by simp))|int j=>(obtain⟨e,rfl⟩:=d;exact ne_int (GG I q (Bt not Zn)))|str j=>(obtain⟨e,rfl⟩:=d;exact PySem.EqMixed.ne_int_str (GG I q (by simp)))|_=>exact absurd (show false=true from k) Bg)|str i =>(obtain⟨t,rfl⟩:=o;cases y with|non=>cases d;exact PySem.EqNone.ne_str_none (GG I q (by simp))|bl j=>cases d;exact PySem.EqMixed.ne_str_bool (GG I q (by simp))|int j=>(obtain⟨e,rfl⟩:=d;exact PySem.EqMixed.ne_str_int (GG I q (by simp)))|str j=>(obtain⟨e,rfl⟩:=d;exact ne_str (GG I q (Bt not Zp)))|_=>exact absurd (show false=true from k) Bg)|byt i =>(obtain⟨t,rfl⟩:=o;cases y with|byt j=>(obtain⟨e,rfl⟩:=d;exact PySem.W.ne_bytes (GG I q (Bt not Zq)))|_=>exact absurd (show false=true from k) Bg)|_=>cases y<;>exact absurd (show false=true from k) Bg
def NO:FG X (compareOp .Lt) (Pd λi j=>.bl (decide (i<j))):=Pe λ_ _ _ _ _ _ _ q=>lt_int q
def Ng:FG X (compareOp .LtE) (Pd λi j=>.bl (decide (i<=j))):=Pe λ_ _ _ _ _ _ _ q=>le_int q
def Pf:FG X (compareOp .Gt) (Pd λi j=>.bl (decide (j<i))):=Pe λ_ _ _ _ _ _ _ q=>gt_int q
def Zr:FG X (compareOp .GtE) (Pd λi j=>.bl (decide (j<=i))):=Pe λ_ _ _ _ _ _ _ q=>ge_int q
def Wu:FG X (compareOp .In) (λx y H Q=>∃i j,x=.str i/\y=.str j/\Q (.bl (!(Builtin.Str.occurrences j i 0 j.length 1).isEmpty)) H):=by rintro d s p H x y v u Q I e k ⟨i,j,rfl,rfl,q⟩;obtain⟨t,rfl⟩:=e;obtain⟨o,rfl⟩:=k;exact in_str (GG I q U)
def BL(b)(h:op≠.In:=by lk)(e:op≠.NotIn:=by lk):behindInMarks op b=false:=by
 have d:(op==CmpOp.In)=false:=by cases op<;>first|rfl|exact absurd U h
 have i:(op==CmpOp.NotIn)=false:=by cases op<;>first|rfl|exact absurd U e
 cases b<;>simp[behindInMarks,d,i]
def FH{op}{r}(k:FG X (compareOp op) r)(E:PE X a ta)(e:PE X b tb)(C:behindInMarks op b=false):PE X (.Compare a [op] [b] pos) (Uy r ta tb):=by intro d s z H Q I h;exact wpAny_Compare1 (QH E e I h λv u i x y B j o p q=>k d i z B x y v u Q j o p q) C
def Zs(t:TE):TT:=λe H Q=>t e H λx d=>∃k,x=.bl k/\Q k d
def CA(O:FG X (compareOp op) r)(Y:PE X a ta)(o:PE X b tb)(T:behindInMarks op b=false):PT X (.Compare a [op] [b] pos) (Zs (Uy r ta tb)):=by intro d s i H Q I h;refine wpAny_isTrue_Compare1 (BH (Y d s i H _ I h) λv R ⟨x,P,p,j,G⟩=>BH (o d R i P _ p G) λu E ⟨y,W,L,S,Z⟩ =>BH (O d E i W x y v u _ L j S Z) λc s3 ⟨z,B,C,r3,k,e,J⟩=>?_) T;subst e;cases r3;exact Ci ⟨B,C,J⟩
def Zt(r s:R2)(ta tb tc:TE):TE:=λd H Q=>ta d H λx o=>tb d o λy i=>r x y i λz e=>∃k,z=.bl k /\(if k=true then tc d e λp j=>s y p j Q else Q (.bl false) e)
def UA(ho:FG X (compareOp op) r)(p:FG X (compareOp j) O)(ha:PE X a ta)(S:PE X b tb)(hc:PE X c tc)(hm:lastMarks [op,j] [b,c]=false:=by with_unfolding_all rfl):PE X (.Compare a [op,j] [b,c] pos) (Zt r O ta tb tc):=by intro i s o H Q I h;refine Compare_chain (BH (ha i s o H _ I h) λv s1 ⟨x,H1,W,P,q1⟩=>chain_link (BH (S i s1 o H1 _ W q1) λu s2 ⟨y,H2,I2,G,q2⟩ =>BH (ho i s2 o H2 x y v u _ I2 P G q2) λd s3 ⟨z,B,C,r3,k,e,E⟩=>?_)) hm;subst e;cases r3;refine Ci ?_;cases k with|false=>exact ite_ff ⟨.bl false,B,C,U,E⟩|true=>exact ite_tt (chain_last (BH (hc i s3 o B _ C E) λL J ⟨T,Z,R,Y,q4⟩=>p i J o Z y T u L Q R G Y q4))
def Zu(ho:FG X (compareOp op) r)(p:FG X (compareOp j) O)(ha:PE X a ta)(S:PE X b tb)(hc:PE X c tc)(hm:lastMarks [op,j] [b,c]=false:=by with_unfolding_all rfl):PT X (.Compare a [op,j] [b,c] pos) (Zs (Zt r O ta tb tc)):=by intro i s o H Q I h;refine isTrue_chain (BH (ha i s o H _ I h) λv s1 ⟨x,H1,W,P,q1⟩=>test_link (BH (S i s1 o H1 _ W q1) λu s2 ⟨y,H2,I2,G,q2⟩ =>BH (ho i s2 o H2 x y v u _ I2 P G q2) λd s3 ⟨z,B,C,r3,k,e,E⟩=>?_)) hm;subst e;cases r3;refine Ci ?_;cases k with|false =>(obtain⟨k',e',q'⟩:=E;cases e';exact ite_ff ⟨B,C,q'⟩)|true =>refine ite_tt (test_last (BH (hc i s3 o B _ C E) λL J ⟨T,H4,R,Z,q4⟩=>BH (p i J o H4 y T u L _ R G Z q4) λd' s5 ⟨z2,Y,I5,r5,k2,e2,q5⟩=>?_));subst e2;cases r5;exact Ci ⟨Y,I5,q5⟩
def RH:(sizeLine)<2^63:=by rw[Iu];decide
def IV:FG X (binaryOp .Add) (λx y H Q=>∃i j,x=.str i/\y=.str j/\i.length+j.length<=sizeLine/\Q (.str (i++j)) H):=by rintro d s z H x y v u Q I o p ⟨i,j,rfl,rfl,k,q⟩;obtain⟨t,rfl⟩:=o;obtain⟨e,rfl⟩:=p;exact add_str (λe r=>⟨.str (i++j),H,I.tok _,⟨_,U⟩,q⟩) k
def LW(r:AV [x] us):∃u,us=[u]/\BE x u:=by cases r with|cons e d=>cases d;exact⟨_,U,e⟩
def Wv(r:AV [x,y] us):∃u d,us=[u,d]/\BE x u/\BE y d:=by cases r with|cons j e =>cases e with|cons r3 i=>cases i;exact⟨_,_,U,j,r3⟩
def kE(o:X.calm=true):KU X (.builtin "min") (λxs H Q=>∃i j,xs=[.int i,.int j]/\Q (.int (if j<i then j else i)) H):=by rintro e s B H xs C Q I r ⟨i,j,rfl,q⟩;obtain⟨u,p,rfl,⟨t,rfl⟩,⟨v,rfl⟩⟩:=Wv r;refine min_two_ints (I.ok.hd o) λy z k=>⟨_,H,I.kept k,?_,q⟩;by_cases d:j<i;rw[B1 d,B1 d];exact⟨_,U⟩;rw[Av d,Av d];exact⟨_,U⟩
def Ww:KU X (.type "int") (λxs H Q=>(∃i,xs=[.int i]/\Q (.int i) H)\/∃k,xs=[.bl k]/\Q (.int (if k then 1 else 0)) H):=by intro d s o H xs j Q I r h;rcases h with⟨i,rfl,q⟩|⟨k,rfl,q⟩;obtain⟨u,rfl,t,rfl⟩:=LW r;exact call_int_int ⟨.int i,H,I,⟨_,U⟩,q⟩;obtain⟨u,rfl,e⟩:=LW r;cases e;exact call_int_bool ⟨.int (if k then 1 else 0),H,I.tok _,⟨_,U⟩,q⟩
end
structure Mz(h:Ϥ)(x dx C:Ϡ)(mA:ϋ):Prop where
 obj:h.get? x=some (PySem.W.instObj C dx)
 ns:h.Ns1 dx mA
 ne:dx≠x
def kF{h:Ϥ}{i}{mA}(n:h.Ns1 i mA):∃d,h.get? i=some d/\∀name,PySem.W.lookIn name d=some (mA name):=by revert n;refine Qb λo r v k hd j _ s=>?_;refine AU o k (λname=>?_);have e:=s name;unfold nsFind findBy at e;rw[<-Kq]at e;unfold PySem.W.lookIn;rw[hd];dsimp only;split;grind;rename_i q;rw[q]at e;have a:r.toList.any (·.refKey)=false:=(by rw[List.any_eq_false];intro y p;refine Sk (j y (Gi.mp p)) λz t c=>?_;simp[DictEntry.refKey,c]);grind
def Mz.look(I:Mz h x c C mA):∃a,PySem.W.InstAt h x (PySem.W.instObj C c) C (some a)/\∀name,PySem.W.lookIn name a=some (mA name) :=
 let ⟨a,ho,hl⟩:=kF I.ns
 ⟨a,⟨I.obj,U,U,ho⟩,hl⟩
section
variable {prog:ϣ}{w:Ϣ}{A:Around}{E:ϊ}{s:ϟ}{K:ϡ}{x dx C f:Ϡ}{mA:ϋ}{name:ϥ}{v:Ϟ}
def kG(X:K.In s.heap)(I:Mz s.heap x dx C mA)(k:PySem.W.plainGet K C name=true)(i:PySem.W.hasDictIn K C=true)(e:PySem.W.findIn K (.ref C) name=some none)(j:mA name=some v)(a:PySem.W.handedIn v=true)(h:Q v { s with toks:=s.toks+1 }) :
 wpAny (model prog w) A (getAttr (.ref x) name c) Q E s:=by
 obtain⟨o,J,d⟩:=I.look;exact PySem.W.get_value X J (Gv k).1 (PySem.W.findObj_own i e U (by rw[d,j])) a h
def kH(X:K.In s.heap)(I:Mz s.heap x dx C mA)(a:PySem.W.plainGet K C name=true)(c:PySem.W.findIn K (.ref C) name=some (some (.ref f)))(j:PySem.W.isFn K (.ref f)=true)(i:mA name=none)(h:Q (.ref f,[.ref x]) s) :
 wpAny (model prog w) A (getMethod (.ref x) name pl) Q E s:=by
 refine AS (λd J e=>?_) I.look;exact PySem.W.method_fn X J (Gv a).1 (Gv a).2 c (C3.mp j) (by show(PySem.W.lookIn name d).map (·.isSome)=some false;rw[e,i];rfl) h
def kJ(X:K.In s.heap)(I:Mz s.heap x dx C mA)(H:PySem.W.findIn K (.ref C) "__setattr__"=some (some (.builtin "object.__setattr__")))(z:PySem.W.plainOver K C=true)(o:PySem.W.takerIn K C name=some none)(G:PySem.W.hasDictIn K C=true)(B:PySem.Within mA ns)(hsz:ns.length<=sizeLine)(h:∀h',Mz h' x dx C (λy=>if y=name then some v else mA y)->Heap.SameBut dx s.heap h'->Q () { s with heap:=h',toks:=s.toks+2 }) :
 wpAny (model prog w) A (setAttr (.ref x) name v) Q E s:=by
 refine AS (λY J T=>?_) I.look;refine PySem.W.set_plain X J H (PySem.W.osa_open (s:={ s with toks:=s.toks+1 }) (r:=none) X J z o λb=>?_);refine AS (λS O k=>?_) (PySem.W.any_some G);have L:=I.obj;refine A5 (Ak (A5 (A5 (wpAny_loadPart L (A5 (Kr (s:={ s with toks:=s.toks+1 }) (PySem.W.looks_clsIn X O) ?_))))));rw[k];refine Ak (a:=some dx) (A5 (Ak (A5 (wpAny_nsSet1 (s:={ s with toks:=s.toks+1 }) I.ns λh' d c=>?_))));refine QA (d.count (Kx name v B)) λR P p=>ED λj e i=>?_;exact A5 (wpAny_lookBehind j (by rw[e];exact pastItsLine_dict (Aw i (by rw[Bb];lia))) (Ak (h _ ⟨(c.2 _ (Cr I.ne)).trans I.obj,d,I.ne⟩ c)))
def kK (X:K.In s.heap) (c:PySem.W.makesIn K C=true) (i:PySem.W.findIn K (.ref C) "__init__"=some (some (.ref f))) (e:PySem.W.typeIn K (.ref f)=some (.type "function")) (h:codeAny (model prog w) (A.under (.builtin "type.__call__" ⟨.ref C::vs,a⟩)) (.call (.ref f) ⟨.ref (s.heap.objs.size+1)::vs,a⟩) (PySem.W.InitBack (s.heap.objs.size+1) R)
 { s with heap:=(s.heap.push PySem.W.emptyDict).push (PySem.W.instObj C s.heap.objs.size) }) :
 codeAny (model prog w) A (.call (.ref C) ⟨vs,a⟩) R s:=by
 obtain⟨k,g,d,t,j⟩:=s;exact PySem.W.make_core (PySem.W.makes_of X c) (PySem.W.looks_findIn X i) (λself=>PySem.W.bind_fn X self e) (.inl U) h
end
noncomputable def EN (f:ϥ) (v:V):ϩ (ϥ×V)->ϩ (ϥ×V)|[]=>[(f,v)]|(g,x)::r=>if g=f then(g,v)::r else(g,x)::EN f v r
theorem Wx(f g)(v):∀fs:ϩ (ϥ×V),(EN f v fs).lookup g=if g=f then some v else fs.lookup g|[]=>by show List.lookup g [(f,v)]=_;by_cases h:g=f;have a:(g==f)=true:=C3.mpr h;simp only[List.lookup,a,B1 h];have a:(g==f)=false:=Ef.mpr h;simp only[List.lookup,a,Av h]|(k,x)::r=>by have d:=Wx f g v r;rw[show EN f v ((k,x)::r)=(if k=f then(k,v)::r else(k,x)::EN f v r)from U];by_cases c:k=f;rw[B1 c];by_cases h:g=k;have a:(g==k)=true:=C3.mpr h;simp only[List.lookup,a,B1 (h.trans c)];have a:(g==k)=false:=Ef.mpr h;simp only[List.lookup,a,Av (λe:g=f=>h (e.trans c.symm))];rw[Av c];by_cases h:g=k;have a:(g==k)=true:=C3.mpr h;simp only[List.lookup,a,Av (λe:g=f=>c (h.symm.trans e))];have a:(g==k)=false:=Ef.mpr h;simp only[List.lookup,a];exact d
theorem Wy(f)(v):∀fs:ϩ (ϥ×V),f∈(EN f v fs).map (·.1)/\∀g,g∈fs.map (·.1)->g∈(EN f v fs).map (·.1)|[]=>⟨by simp[EN],λg h=>by simp at h⟩|(k,x)::r=>by obtain⟨c,d⟩:=Wy f v r;rw[show EN f v ((k,x)::r)=(if k=f then(k,v)::r else(k,x)::EN f v r)from U];by_cases a:k=f;rw[B1 a];subst a;exact⟨by simp,λg h=>by simpa using h⟩;rw[Av a];refine⟨?_,λg h=>?_⟩;rw[Bp];exact Ac _ c;rw[Bp]at h⊢;rcases Al.mp h with e|e;exact Al.mpr (.inl e);exact Ac _ (d g e)
theorem Zv(f)(v):∀fs:ϩ (ϥ×V),(EN f v fs).length<=fs.length+1|[]=>by simp[EN]|(k,x)::r=>by have c:=Zv f v r;rw[show EN f v ((k,x)::r)=(if k=f then(k,v)::r else(k,x)::EN f v r)from U];by_cases a:k=f;rw[B1 a,Bb,Bb];lia;rw[Av a,Bb,Bb];lia
def FE.some_of(r:FE (some v) o):∃u,o=some u/\BE v u:=by cases o with|none=>exact(show False from r).elim|some u=>exact⟨u,U,r⟩
def FE.none_of(r:FE none o):o=none:=by cases o with|none=>rfl|some u=>exact(show False from r).elim
def kL{u}(r:BE v u):PySem.W.handedIn u=true:=by cases v with|non=>cases (show u=Value.none from r);rfl|bl b=>cases (show u=Value.bool b from r);rfl|int i=>(obtain⟨t,e⟩:=(show ∃t,u=Value.int i t from r);cases e;rfl)|str x=>(obtain⟨t,e⟩:=(show ∃t,u=Value.str x t from r);cases e;rfl)|byt b=>(obtain⟨t,e⟩:=(show ∃t,u=Value.bytes b t from r);cases e;rfl)|flt b=>(obtain⟨t,e⟩:=(show ∃t,u=Value.float b t from r);cases e;rfl)|ref a=>cases (show u=Value.ref a from r);rfl|ty n=>cases (show u=Value.type n from r);rfl
section
variable {P:ϣ}{w:Ϣ}{H H':Hp}{h h':Ϥ}{a C dx:Ϡ}{fs fs':ϩ (ϥ×V)}
def Wz(i:FO P w H h)(e:H a=some (.ins C dx fs)):∃c,Mz h a dx C c/\(∀f,FE (fs.lookup f) (c f))/\PySem.Within c (fs.map (·.1))/\fs.length<=1000/\H dx=some (.own a):=by obtain⟨d,z,ne,j,c,n,r,q⟩:=(i a _ e);exact MW c (MX ⟨j,n,ne⟩ r q z d)
end
structure NP(K:ϡ)(C:Ϡ):Prop where
 pg:PySem.W.plainGet K C Str.empty=true
 hd:PySem.W.hasDictIn K C=true
 po:PySem.W.plainOver K C=true
 sa:PySem.W.findIn K (.ref C) "__setattr__"=some (some (.builtin "object.__setattr__"))
def NP.get{K}{C}(c:NP K C)(f):PySem.W.plainGet K C f=true:=c.pg
def Pg(K:ϡ)(C:Ϡ)(f:ϥ):Prop:=PySem.W.findIn K (.ref C) f=some none
def Pg.taker{K}{C}{f}(n:Pg K C f):PySem.W.takerIn K C f=some none:=by unfold PySem.W.takerIn;rw[show PySem.W.findIn K (.ref C) f=some none from n];rfl
structure SK(K:ϡ)(C:Ϡ)(m:ϥ)(f:Ϡ):Prop where
 at_:PySem.W.findIn K (.ref C) m=some (some (.ref f))
 fn:PySem.W.isFn K (.ref f)=true
 kp:PySem.W.keepIn K (.ref f)=true
section
variable {X:Cx}{pins:ύ}{σ:St}{H:Hp}{s:ϟ}{a C dx:Ϡ}{fs:ϩ (ϥ×V)}{f:ϥ}{v:V}{A:Around}{E:ϊ}
def kN(I:AG X pins σ H s)(e:H a=some (.ins C dx fs))(c:NP X.K C)(n:Pg X.K C f)(l:fs.lookup f=some v)(h:∀u d,AG X pins σ H d->BE v u->Q u d):wpAny (model X.prog X.w) A (getAttr (.ref a) f b) Q E s:=by refine OW (λk O r _ _ _=>?_) (Wz I.Ê e);obtain⟨u,j,i⟩:=FE.some_of (v:=v) (o:=k f) (by rw[<-l];exact r f);exact kG I.ď O (c.get f) c.hd n j (kL i) (h u _ (I.tok _) i)
def WA(I:AG X pins σ H s)(e:H a=some (.ins C dx fs))(c:NP X.K C)(k:SK X.K C m g)(l:fs.lookup m=none)(h:Q (.ref g,[.ref a]) s):wpAny (model X.prog X.w) A (getMethod (.ref a) m pl) Q E s:=by refine OW (λi O r _ _ _=>?_) (Wz I.Ê e);have d:i m=none:=FE.none_of (by rw[<-l];exact r m);exact kH I.ď O (c.get m) k.at_ k.fn d h
def kO{u}(I:AG X pins σ H s)(e:H a=some (.ins C dx fs))(c:NP X.K C)(n:Pg X.K C f)(P:fs.length<1000)(R:BE y u)(h:∀j,AG X pins σ (upd H a (.ins C dx (EN f y fs))) j->Q () j):wpAny (model X.prog X.w) A (setAttr (.ref a) f u) Q E s:=by refine OW (λS O r i _ k=>?_) (Wz I.Ê e);have J:(fs.map (·.1)).length<=sizeLine:=(by rw[A3,Iu];lia);refine kJ I.ď O c.sa c.po n.taker c.hd i J λG d L=>h _ ?_;have hd:∃o,G.get? dx=some o:=let ⟨o,_,_,e',_⟩:=d.ns;⟨o,e'⟩;refine I.write (x:=a) (e:=dx) (by rw[e];exact True.intro) (.inr k) (λb q p z=>(L.2 b p).trans z) hd ⟨by rw[BJ O.ne];exact k,?_,O.ne,d.obj,_,d.ns,λg=>?_,λg B=>?_⟩;have:=Zv f y fs;lia;grind[FE,EN,Wx];by_cases q:g=f;rw[q];exact(Wy f y fs).1;refine(Wy f y fs).2 g (i g λz=>B ?_);lia
def AG.made(I:AG X pins σ H s):AG X pins σ (upd (upd H s.heap.objs.size (.own (s.heap.objs.size+1))) (s.heap.objs.size+1) (.ins C s.heap.objs.size []))
 { s with heap:=(s.heap.push PySem.W.emptyDict).push (PySem.W.instObj C s.heap.objs.size) }:=by
 have c:(s.heap.push PySem.W.emptyDict).get? s.heap.objs.size=some PySem.W.emptyDict:=Bc s.heap U;have k:((s.heap.push PySem.W.emptyDict).push (PySem.W.instObj C s.heap.objs.size)).get? (s.heap.objs.size+1)=some (PySem.W.instObj C s.heap.objs.size):=by
  have:=Bc (s.heap.push PySem.W.emptyDict) (o:=PySem.W.instObj C s.heap.objs.size) U
  rwa [Ck]at this
 have d:(s.heap.push PySem.W.emptyDict).Ns s.heap.objs.size (λ_=>none):=⟨PySem.W.emptyDict,#[],_,c,U,(λe i=>absurd i (by simp)),λ_=>U⟩
 refine(I.laid (a:=s.heap.objs.size) (o:=.own (s.heap.objs.size+1)) (h':=s.heap.push PySem.W.emptyDict) (t':=s.toks) (λb u q=>A7 _ q) (A9 _) ⟨_,c⟩).laid (a:=s.heap.objs.size+1) (o:=.ins C s.heap.objs.size []) (t':=s.toks) (λb u q=>A7 _ q) (El (Ck _ _)) ?_;have ne:s.heap.objs.size≠s.heap.objs.size+1:=Bn (Jj _);refine⟨by rw[BJ ne,AM],B8 _,ne,k,λ_=>none,(Heap.Ns1.of_empty d).at λo q=>A7 _ q,λ_=>True.intro,λy j=>absurd U j⟩
def kP{f}{s}(i:attributeBase e f env (eval e env)=eval e env)(h:wpAny (model prog w) A (eval e env) (λo c=>wpAny (model prog w) A (getAttr o f true) Q E c) E s):wpAny (model prog w) A (eval (.Attribute e f d) env) Q E s :=Attribute_any_ h (by rw[arm_eval_Attribute,i])
end
structure CK(k:Nat)(A:Around):Prop where
 hd:A.handled=none
 dp:A.depth+3*k+5<recursionLimit
 un:A.units+16*k+200<cLine
def CK.mono(r:CK k A)(h:j<=k):CK j A:=⟨r.hd,by have:=r.dp;lia,by have:=r.un;lia⟩
def CK.deeper{k}{A}(r:CK (k+1) A)(env):CK k (A.deeper env) :=⟨r.hd,by have:=r.dp;show A.depth+1+3*k+5<_;lia,by have:=r.un;show A.units+3+16*k+200<_;lia⟩
def kQ{A:Around}{C}{us}{a}:(A.under (.builtin "type.__call__" ⟨.ref C::us,a⟩)).depth=A.depth+1:=by first|rfl|simp[Around.under,Code.weight,Code.isCreation,Code.isGuard,Code.isCaller,Code.frames,Code.isFrame,guardIds]
def kR{A:Around}{C}{us}{a}:(A.under (.builtin "type.__call__" ⟨.ref C::us,a⟩)).units=A.units+1:=by first|rfl|simp[Around.under,Code.cUnits,Code.frames,Code.isFrame]
def CK.make{k}{A}(r:CK (k+1) A)(C)(us)(a):CK k (A.under (.builtin "type.__call__" ⟨.ref C::us,a⟩)) :=⟨r.hd,by have:=r.dp;rw[kQ];lia,by have:=r.un;rw[kR];lia⟩
def CK.depth{k}{A}(r:CK k A):A.depth<recursionLimit:=by have:=r.dp;lia
def CK.units(r:CK k A):A.units+64<cLine:=by have:=r.un;lia
def O5:TA:=λ_ H Q=>Q [] H
def SM(j:TE)(c:TA):TA:=λa H Q=>j a H λx e=>c a e λi d=>Q (x::i) d
section
variable {X:Cx}{e:Ϧ}{es:ϗ}{te:TE}{t:TA}{pos:Pos}
def AI:PA X [] O5:=λ_ _ _ _ H Q I h=>Calls.spliced_nil ⟨[],H,I,.nil,h⟩
def AD(E:PE X e te)(r:PA X es t)(z:starEach (e::es) X.env=(false,eval e X.env)::starEach es X.env:=by rfl):PA X (e::es) (SM te t):=by intro pos a s d H Q I h;rw[z];show wpAny _ _ (spliced ((false,eval e X.env)::backTo pos (starEach es X.env))) _ _ s;exact Calls.spliced_cons (BH (E a s d H _ I h) λu y ⟨x,p,j,i,k⟩=>BH (r pos a y d p _ j k) λL J c=>by obtain⟨v,C,o,B,G⟩:=c;exact⟨x::v,C,o,.cons i B,G⟩)
def WB(t:TA):TE:=λd H Q=>t d H λc a=>c.length<=sizeLine/\∀p,a p=none->Q (.ref p) (upd a p (.tup c))
def WC(t:TA):TE:=λd H Q=>t d H λc a=>c.length<=sizeLine/\∀p,a p=none->Q (.ref p) (upd a p (.lst c))
def FP{y}(h:PA X es t):PE X (.Tuple es y pos) (WB t):=by intro a s p H Q I i;refine wpAny_Tuple_spliced (BH (h pos a s p H _ I i) λv c ⟨o,k,d,r,z,q⟩=>⟨by rw[<-r.length];exact z,?_⟩);have j:=d.Ê.fresh (A9 _);refine BY (.ref c.heap.objs.size) (upd k c.heap.objs.size (.tup o)) (d.laid (t':=c.toks) (λb u e=>A7 _ e) (A9 _) ?_) U (q _ j);exact⟨z,v,r,⟨_,Bc _ U,U,_,U⟩⟩
def CO(h:PA X es t):PE X (.List es pos) (WC t):=by intro a s p H Q I i;refine wpAny_List_spliced (BH (h pos a s p H _ I i) λv c ⟨o,k,d,r,z,q⟩=>⟨by rw[<-r.length];exact z,?_⟩);have j:=d.Ê.fresh (A9 _);refine⟨.ref c.heap.objs.size,upd k c.heap.objs.size (.lst o),d.laid (t':=c.toks) (λb u e=>A7 _ e) (A9 _) ?_,U,q _ j⟩;exact⟨z,v,0,r,Bc _ U⟩
end
abbrev Sp:=ϩ V->Hp->VK->XK->Prop
abbrev Ou:=Ϛ->Hp->ϟ->XK->Ϟ->ϟ->Prop
structure MB(P:ϣ)(w:Ϣ)(K:ϡ)(mg:ϋ)(base:Ϥ)(A:Around)(outer:Ϛ)(s:ϟ)(H:Hp):Prop where
 frames:A.frames=some outer
 mod:Mod K mg base
 bs:∀b o,base.get? b=some o->s.heap.get? b=some o/\H b=none
 zX:base.objs.size<=s.heap.objs.size
 Đ:s.heap.FunFrames base outer
 frf:∀b∈Mw outer,H b=none
 Ê:FO P w H s.heap
 bare:AllBare s.gens
def CE(outer:Ϛ)(P:ϣ)(w:Ϣ)(H:Hp)(s:ϟ)(Q:VK)(u:Ϟ)(a:ϟ):Prop :=∃v c,a.os=s.os/\AllBare a.gens/\Un (Mw outer) [] H c s.heap a.heap/\FO P w c a.heap/\BE v u/\Q v c
def CR(CX:Ou)(outer:Ϛ)(P:ϣ)(w:Ϣ)(H:Hp)(s:ϟ)(Q:VK)(E:XK)(r:Result)(a:ϟ):Prop :=
 match r with
 | .ok (.ret u)=>CE outer P w H s Q u a
 | .ok _=>False
 | .error e=>CX outer H s E e a
structure CF(P:ϣ)(w:Ϣ)(K:ϡ)(mg:ϋ)(base:Ϥ)(CX:Ou)(k:Nat)(f:Ϡ)(fd:FuncData)(ps:ώ)(sp:Sp):Prop where
 len:∀vs H Q E,sp vs H Q E->vs.length=ps.length
 run:∀(A:Around) (outer:Ϛ) (s:ϟ) (H:Hp) (args:Args) (us:Ϗ) (vs:ϩ V) (Q:VK) (E:XK),CK k A->MB P w K mg base A outer s H->BindsTo s fd args (ps.zip us)->AV vs us->sp vs H Q E ->
  codeAny (model P w) A (.call (.ref f) args) (CR CX outer P w H s Q E) s
def CF.mono{P}{w}{K}{mg}{base}{CX}{j k}{f}{a}{ps}{sp}(F:CF P w K mg base CX j f a ps sp)(h:j<=k) :
 CF P w K mg base CX k f a ps sp:=⟨F.len,λA outer s H args e c Q E d=>F.run A outer s H args e c Q E (d.mono h)⟩
def MB.make{P}{w}{K}{mg}{base}{A}{outer}{s}{H}(e:MB P w K mg base A outer s H)(C)(us)(a) :
 MB P w K mg base (A.under (.builtin "type.__call__" ⟨.ref C::us,a⟩)) outer s H:=⟨by first|exact e.frames|(simpa[Around.under,Code.envs,Code.isFrame,pushEnvs]using e.frames),e.mod,e.bs,e.zX,e.Đ,e.frf,e.Ê,e.bare⟩
section
variable {X:Cx}{pins:ύ}{σ:St}{H:Hp}{s s':ϟ}
def AG.env0(I:AG X pins σ H s):MB X.prog X.w X.K X.mg X.base X.A X.stack s H :=⟨I.ok.frames,I.ok.mod,I.bs,Aw I.ok.zX I.sz,I.stack,I.Ś,I.Ê,I.bare⟩
def AG.after{u}(I:AG X pins σ H s)(h:CE X.stack X.prog X.w H s Q u s'):EP X pins σ Q u s':=by revert h;refine Qa λv j os a un e r q=>?_;obtain⟨i,g,d,t,c⟩:=s';obtain rfl:c=s.os:=os;exact BY v j (I.call (h':=i) (g':=g) (d':=d) (t':=t) (ch:=[]) un e a (λb z=>absurd z (by simp))) r q
end
def Zw(sp:Sp)(a:ϩ V)(E:XK)(t:TA):TE:=λe H Q=>t e H λc d=>sp (c++a) d Q E
def WD(C:Ϡ)(sp:Sp)(d:ϩ V)(E:XK)(t:TA):TE:=λj H Q=>t j H λi c=>∀x a,c x=none->c a=none->a≠x ->sp (.ref x::(i++d)) (upd (upd c a (.own x)) x (.ins C a [])) (λv e=>v=.non/\Q (.ref x) e) E
def MC(K:ϡ)(d:FuncData)(ps:ώ)(c:Ϗ):Prop :=∀(s:ϟ) (a:Ϗ),K.In s.heap->(a++c).length=ps.length->BindsTo s d ⟨a,[]⟩ (ps.zip (a++c))
theorem MC.all{K}{a}{ps}(h:∀us:Ϗ,us.length=ps.length->bindArgs a ⟨us,[]⟩=pure (ps.zip us)):MC K a ps []:=λs us _ c=>by
 rw[Aq]at c⊢
 exact .of_eq (h us c)
def SN(CX:Ou)(X:Cx)(E:XK):Prop:=∀(a:ύ) (d:St) (H:Hp) (s:ϟ) (e:Ϟ) (c:ϟ),AG X a d H s->CX X.stack H s E e c->X.xe e c
section
variable {X:Cx}{CX:Ou}{k:Nat}{f C:Ϡ}{fd:FuncData}{ps:ώ}{sp:Sp}{dvs:ϩ V}{ds:Ϗ}{E:XK}{x m:ϥ}{p pos apos:Pos}{e o:Ϧ}{es:ϗ}{ta:TE}{t:TA}
def WE(F:CF X.prog X.w X.K X.mg X.base CX k f fd ps sp)(y:CK k X.A)(j:MC X.K fd ps ds)(hd:AV dvs ds)(z:SN CX X E)(I:AG X a σ H s)(r:AV vs us)(h:sp (vs++dvs) H Q E):wpAny (model X.prog X.w) X.A (call (.ref f) us) (EP X a σ Q) X.xe s:=by have d:=r.append hd;have v:(us++ds).length=ps.length:=(by rw[<-d.length];exact F.len _ _ _ _ h);refine F4 (Ec (F.run X.A X.stack s H ⟨us,[]⟩ (us++ds) (vs++dvs) Q E y I.env0 (j s us I.ď v) d h) λr i c=>?_);cases r with|error e=>exact z a σ H s e i I c|ok fl =>cases fl with|ret u=>exact I.after c|next=>exact False.elim c|brk=>exact False.elim c|cont=>exact False.elim c
def kS(F:CF X.prog X.w X.K X.mg X.base CX k f fd ps sp)(z:CK k X.A)(v:Gl X x)(J:X.mg x=some (.ref f))(y:PySem.W.keepIn X.K (.ref f)=true)(j:MC X.K fd ps ds)(hd:AV dvs ds)(G:SN CX X E)
 (L:PA X (e::es) t) (d:(x==("__debug__":ϥ))=false:=by lk) (he:starEach (e::es) X.env=(false,eval e X.env)::starEach es X.env:=by rfl) (hpl:(backTo pos (starEach es X.env)).any (·.1)=false:=by rfl) :
 PE X (.Call (.Name x p) (e::es) [] pos) (Zw sp dvs E t):=by
 intro a s B H Q I h;exact Ca (Qd I v J (Do (h₀:=X.base) I.ok.mod.kin y (BH (L pos a s B H _ I h) λS R c=>by obtain⟨O,P,i,r,q⟩:=c;exact⟨i.ď,WE F z j hd G i r q⟩) he hpl) d)
structure Mk(K:ϡ)(C f:Ϡ):Prop where
 makes:PySem.W.makesIn K C=true
 init:PySem.W.findIn K (.ref C) "__init__"=some (some (.ref f))
 fn:PySem.W.isFn K (.ref f)=true
 kp:PySem.W.keepIn K (.ref C)=true
def kU(M:Mk X.K C f)(F:CF X.prog X.w X.K X.mg X.base CX k f fd ps sp)(R:CK (k+1) X.A)(G:MC X.K fd ps ds)(hd:AV dvs ds)(S:SN CX X E)(I:AG X c σ H s)(r:AV vs us)(h:∀x j,H x=none->H j=none->j≠x->sp (.ref x::(vs++dvs)) (upd (upd H j (.own x)) x (.ins C j [])) (λv T=>v=.non/\Q (.ref x) T) E) :
 wpAny (model X.prog X.w) X.A (call (.ref C) us) (EP X c σ Q) X.xe s:=by
 have y:=h (s.heap.objs.size+1) s.heap.objs.size (I.Ê.fresh (Ed _)) (I.Ê.fresh (A9 _)) (Bn (Jj _));have i:=AG.made (C:=C) I;have z:AV (V.ref (s.heap.objs.size+1)::(vs++dvs)) (Value.ref (s.heap.objs.size+1)::(us++ds)):=.cons U (r.append hd);have P:(Value.ref (s.heap.objs.size+1)::us++ds).length=ps.length:=by
  have e:=z.length;rw[F.len _ _ _ _ y]at e
  exact e.symm
 refine F4 (kK (f:=f) I.ď M.makes M.init (C3.mp M.fn) (Ec (F.run _ X.stack _ _ ⟨Value.ref (s.heap.objs.size+1)::us,[]⟩ (Value.ref (s.heap.objs.size+1)::(us++ds)) _ _ E (R.make C us [])
  (i.env0.make C us []) (G _ (Value.ref (s.heap.objs.size+1)::us) i.ď P) z y) λr B a=>?_))
 cases r with
 | error e=>exact S c σ _ _ e B i a
 | ok fl =>
   cases fl with
   | ret u =>
     refine IK (λv W J O d L=>?_) (i.after a);subst d;exact⟨O,⟨V.ref (s.heap.objs.size+1),W,J,U,L⟩⟩
   | next=>exact False.elim a
   | brk=>exact False.elim a
   | cont=>exact False.elim a
def Zx(M:Mk X.K C f)(F:CF X.prog X.w X.K X.mg X.base CX k f fd ps sp)(y:CK (k+1) X.A)(v:Gl X x)(G:X.mg x=some (.ref C))(j:MC X.K fd ps ds)(hd:AV dvs ds)(B:SN CX X E)
 (J:PA X (e::es) t) (d:(x==("__debug__":ϥ))=false:=by lk) (he:starEach (e::es) X.env=(false,eval e X.env)::starEach es X.env:=by rfl) (hpl:(backTo pos (starEach es X.env)).any (·.1)=false:=by rfl) :
 PE X (.Call (.Name x p) (e::es) [] pos) (WD C sp dvs E t):=by
 intro a s z H Q I h;exact Ca (Qd I v G (Do (h₀:=X.base) I.ok.mod.kin M.kp (BH (J pos a s z H _ I h) λR P c=>by obtain⟨L,O,i,r,q⟩:=c;exact⟨i.ď,kU M F y j hd B i r q⟩) he hpl) d)
end
def PK(X:Cx)(e:Ϝ)(t:TA):Prop :=∀(c:Pos) (a:ύ) (s:ϟ) (d:St) (H:Hp) (Q:ϩ V->Hp->Prop),AG X a d H s->t d H Q->wpAny (model X.prog X.w) X.A (evalAll ((backToKw c (keywordEach e X.env)).map (·.2))) (AP X a d Q) X.xe s
section
variable {X:Cx}{CX:Ou}{k:Nat}{f C:Ϡ}{fd:FuncData}{ps ks:ώ}{sp:Sp}{E:XK}{x m:ϥ}{p pos apos kpos:Pos}{e o:Ϧ}{es:ϗ}{kws:Ϝ}{te ta:TE}{t tk:TA}{nm:Ϩ ϥ}
def kW:PK X [] O5:=λ_ _ _ _ H Q I h=>wpAny_evalAll_nil ⟨[],H,I,.nil,h⟩
def kX(O:PE X e te)(z:PK X kws t):PK X (⟨nm,e,kpos⟩::kws) (SM te t):=by intro pos a s c H Q I h;show wpAny _ _ (evalAll ((do let v <- eval e X.env;standAt pos;pure v)::(backToKw pos (keywordEach kws X.env)).map (·.2))) _ _ s;exact wpAny_evalAll_cons (A5 (BH (O a s c H _ I h) λu G ⟨x,y,i,d,j⟩=>A5 (Ds (Ak (BH (z pos a G c y _ i j) λS R ⟨B,L,r,J,P⟩=>⟨x::B,L,r,.cons d J,P⟩)))))
variable {g:Ϗ->Ϗ->Ϗ}{gV:ϩ V->ϩ V->ϩ V}
end
structure EF(N P:ώ)(sc:Scope):Prop where
 kind:sc.kind=.function
 co:sc.isCoroutine=false
 gen:sc.isGenerator=false
 nd:N.Nodup
 pre:N.take P.length=P
 par:∀x∈P,sc.names.lookup x=some .local\/sc.names.lookup x=some .cell
 nofree:∀y∈sc.names,y.2≠.free
theorem Zy{kindOf}{x}:∀{a} {m},(∀v,(x,v)∉a)->bindL kindOf a m x=m x|[],_,_=>rfl|(n,v)::r,m,h=>by unfold bindL;rw[Zy λw c=>h w (Ac _ c)];split;have:x≠n:=(by rintro rfl;exact h v Aa);simp[this];rfl
theorem Zz{kindOf}{x}:∀{a} {m},(∀v,(x,v)∉a)->bindC kindOf a m x=m x|[],_,_=>rfl|(n,v)::r,m,h=>by unfold bindC;rw[Zz λw c=>h w (Ac _ c)];split;rfl;have:x≠n:=(by rintro rfl;exact h v Aa);simp[this]
theorem ZA{kindOf}{x}{v}:∀{P:ώ}{vs} {i:Nat}{m},P.Nodup->P[i]?=some x->vs[i]?=some v->kindOf x=some .local ->bindL kindOf (P.zip vs) m x=some v
 |[],_,_,_,_,h,_,_=>by simp at h|_::_,[],_,_,_,_,h,_=>by simp at h
 |p::P,w::vs,0,m,d,c,a,e=>by simp at c a;subst c;subst a;show bindL kindOf ((p,w)::P.zip vs) m p=_;unfold bindL;rw[Zy λv j=>(C2.mp d).1 (K2 j).1,B1 e];simp|p::P,w::vs,i+1,m,d,c,a,e=>by show bindL kindOf ((p,w)::P.zip vs) m x=_;unfold bindL;exact ZA (i:=i) (C2.mp d).2 (by simpa using c) (by simpa using a) e
theorem ZC{kindOf}{x}{v}:∀{P:ώ}{vs} {i:Nat}{m},P.Nodup->P[i]?=some x->vs[i]?=some v->kindOf x≠some .local ->bindC kindOf (P.zip vs) m x=some v
 |[],_,_,_,_,h,_,_=>by simp at h|_::_,[],_,_,_,_,h,_=>by simp at h
 |p::P,w::vs,0,m,d,c,a,e=>by simp at c a;subst c;subst a;show bindC kindOf ((p,w)::P.zip vs) m p=_;unfold bindC;rw[Zz λv j=>(C2.mp d).1 (K2 j).1,Av e];simp|p::P,w::vs,i+1,m,d,c,a,e=>by show bindC kindOf ((p,w)::P.zip vs) m x=_;unfold bindC;exact ZC (i:=i) (C2.mp d).2 (by simpa using c) (by simpa using a) e
noncomputable def start (N:ώ) (vs:ϩ V):St:=vs.map some++List.replicate (N.length-vs.length) none
noncomputable def HC (CX:Ou) (P:ϣ) (w:Ϣ) (K:ϡ) (mg:ϋ) (base:Ϥ) (N:ώ) (qual:ϥ) (scope:Scope) (f:Ϡ) (c:Ϟ) (A:Around) (outer:Ϛ) (s:ϟ) (H:Hp) (E:XK):Cx where
 prog:=P
 w:=w
 K:=K
 mg:=mg
 base:=base
 A:=A.deeper (envOfC qual scope s.heap.objs.size f c)
 N:=N
 Ã:=s
 H₀:=H
 env:=envOfC qual scope s.heap.objs.size f c
 outer:=outer
 stack:=envOfC qual scope s.heap.objs.size f c::outer
 ex:=[]
 calm:=true
 fn:=λ_=>true
 pn:=[]
 xe:=λe d=>wpAny (model P w) (A.deeper (envOfC qual scope s.heap.objs.size f c)) (leaving (envOfC qual scope s.heap.objs.size f c) e) (λ_ a=>CX outer H s E e a) (λi a=>CX outer H s E i a) d
def UB{a:Scope}{n}{x}(h:a.names.lookup x=some .cell):∃c,(cellsFrom n a.names []).lookup x=some c:=by simp_all[Jv,Dt.mp]
def kY{CX}{P}{w}{K}{mg}{base}{N ps}{qual}{scope}{f}{J}{A}{outer}{s Q}{H}{E}{us}{vs}
 (S:EF N ps scope) (hd:A.handled=none) (a:MB P w K mg base A outer s H) (Y:vs.length=ps.length) (r:AV vs us)
 (x:InCallC s s.heap.objs.size (bindL (envOfC qual scope s.heap.objs.size f J).kindOf (ps.zip us) λ_=>none) (cellsFrom (s.heap.objs.size+1) scope.names []) (bindC (envOfC qual scope s.heap.objs.size f J).kindOf (ps.zip us) λ_=>none) Q) :
 AG (HC CX P w K mg base N qual scope f J A outer s H E) [] (start N vs) H Q:=by
 have R:ps.length<=N.length:=by have:=Bt List.length S.pre;rw[Ao]at this;lia
 refine EX (λI X o L=>?_) x.done;subst o;have j:∀b:Ϡ,b∉(HC CX P w K mg base N qual scope f J A outer s H E).ex:=λb z=>absurd (show b∈([]:ϖ)from z) (by simp)
 refine⟨⟨a.mod,S.kind,U,U,A9 _,λy z c I G=>?_,λy d=>?_,λy c _ h=>?_,λ_=>hd,Around.frames_deeper a.frames,.inr ⟨U,U⟩,λb z=>absurd z (j b),a.bs,a.zX,λb _ _=>j b,λb z=>absurd z (j b),a.Đ,a.frf⟩,
  rfl,a.bare,Un.kept L,⟨_,x.toInCall.ns,λi y v I G Z=>?_⟩,λy c h=>⟨_,x.cell y c h⟩,a.Ê.fresh (A9 _),λy c h=>?_,λp B=>absurd (show p∈([]:ύ)from B) (by simp),a.Ê.kept L,?_⟩
 .exact name_of_addr x.apart (Df I) (Df G)
 .have d:=d;rcases d with d|d
  .exact UB d
  .exact absurd U (S.nofree _ (Df d))
 .exact Fd (x.above y c (Df h))
 .have hi:i<vs.length:=by
   unfold start at G
   grind
  have W:vs[i]?=some v:=by
   unfold start at G
   grind
  refine AS (λu O T=>?_) (r.get W);have B:ps[i]?=some y:=by
   rw[<-S.pre,List.getElem?_take_of_lt (by lia)];exact I
  have C:ps.Nodup:=by rw[<-S.pre];exact S.nd.sublist (List.take_sublist _ _)
  refine AU u T ?_;rcases S.par y (Af B)with k|k
  .exact .inl ⟨k,ZA C B O k⟩
  .obtain⟨c,e⟩:=UB (n:=s.heap.objs.size+1) k;refine .inr ⟨.inl k,c,e,?_⟩;have q:=x.cell y c e;rw[ZC C B O (by show scope.names.lookup y≠_;rw[k];decide)]at q
   exact q
 .exact a.Ê.fresh (Fd (x.above y c (Df h)))
 .unfold start;show _=N.length
  grind
def WG{CX}{P}{w}{K}{mg}{base}{k}{f}{name qual}{params}{body}{scope}{dV kV doc pm a ct oc}{an od}
 {L} {N ps} {sp} (Z:K.lookup f=some ⟨oc,od,.func (PySem.W.fnOf name qual params body scope dV kV doc pm an a ct),L⟩) (T:PySem.W.codeIn K a qual=true) (S:EF N ps scope)
 (len:∀vs H Q E,sp vs H Q E->vs.length=ps.length)
 (j:∀(A) (outer) (s) (H) (vs) (Q) (E),CK k (A.deeper (envOfC qual scope s.heap.objs.size f a))->sp vs H Q E ->
   ∃t,IT (HC CX P w K mg base N qual scope f a A outer s H E) body t/\t { nx:=λ_ d=>Q .non d,rt:=Q } (start N vs) H) :
 CF P w K mg base CX (k+1) f (PySem.W.fnOf name qual params body scope dV kV doc pm an a ct) ps sp:=by
 refine⟨len,λA outer s H args us vs Q E R z hb r B=>?_⟩;have hl:=len _ _ _ _ B;have X:K.In s.heap:=z.mod.kin.keeps λb o e=>(z.bs b o e).1
 have G:s.heap.NoLimit:=z.mod.nolimit.keeps λb o e=>(z.bs b o e).1
 have i:∀y∈ps.zip us,scope.names.lookup y.1=some .local\/(scope.names.lookup y.1=some .cell/\((cellsFrom (s.heap.objs.size+1) scope.names []).lookup y.1).isSome=true):=λ⟨n,v⟩ hy=>by
  rcases S.par n (K2 hy).1 with q|q
  .exact .inl q
  .exact .inr ⟨q,Jv _ _ _ (.inl q)⟩
 refine codeAny_call_function R.depth (X _ _ Z) U S.co S.gen U (PySem.W.codeRec_of X T) (hb _ _ _ _ ?_);refine wpAny_newFunctionEnv_cells S.kind i λenv he Y x=>?_;subst he;refine⟨G.keeps x.toInCall.keep,codeAny_func ?_⟩;refine AS (λt ht hq=>?_) (j A outer s H vs Q E (R.deeper _) B);have I:AG (HC CX P w K mg base N qual scope f a A outer s H E) [] (start N vs) H Y:=kY S R.hd z hl r x;refine Co (ht [] Y (start N vs) H _ I hq) (λfl C p=>?_) λe C p=>p
 have fin:∀{c:St}{d:Hp}{v:V}{u:Ϟ},AG (HC CX P w K mg base N qual scope f a A outer s H E) [] c d C->BE v u->Q v d->CE outer P w H s Q u C :=
  λ{c d v u} J O q=>⟨v,d,J.os,J.bare,J.base,J.Ê,O,q⟩
 cases fl with
 | ret u =>
   revert p;refine GA λv c d=>ED λJ O q=>?_;exact fin J O q
 | next =>
   revert p;refine EX λc d J q=>?_;exact fin (v:=V.non) (u:=Value.none) J U q
 | brk =>
   revert p;refine EX λ_ _ _ q=>?_;exact False.elim q
 | cont =>
   revert p;refine EX λ_ _ _ q=>?_;exact False.elim q
section
variable {X:Cx}{x:ϥ}{p pos:Pos}{e:Ϧ}{es:ϗ}{t:TA}{id T:String}{r:ϩ V->Hp->VK->Prop}
def WH(r:ϩ V->Hp->VK->Prop)(t:TA):TE:=λd H Q=>t d H λa c=>r a c Q
def LX(O:KU X (.builtin id) r)(k:Gl X x)(E:X.mg x=none)(J:bootBuiltins x=some (.builtin id))(L:PA X (e::es) t)(C:x≠"__name__":=by lk)(c:(x==("__debug__":ϥ))=false:=by lk)
 (he:starEach (e::es) X.env=(false,eval e X.env)::starEach es X.env:=by rfl) (hpl:(backTo pos (starEach es X.env)).any (·.1)=false:=by rfl):PE X (.Call (.Name x p) (e::es) [] pos) (WH r t):=by
 intro a s i H Q I h;exact Ca (Os I k E J (PyProof.Rows.callWith_builtin1 (BH (L pos a s i H _ I h) λG B d=>by obtain⟨v,z,o,j,y⟩:=d;exact O a B i z v G Q o j y) he hpl) C c)
def FQ(L:KU X (.type T) r)(j:Gl X x)(C:X.mg x=none)(G:bootBuiltins x=some (.type T))(J:PA X (e::es) t)(B:x≠"__name__":=by lk)(c:(x==("__debug__":ϥ))=false:=by lk)
 (he:starEach (e::es) X.env=(false,eval e X.env)::starEach es X.env:=by rfl) (hpl:(backTo pos (starEach es X.env)).any (·.1)=false:=by rfl):PE X (.Call (.Name x p) (e::es) [] pos) (WH r t):=by
 intro a s d H Q I h;exact Ca (Os I j C G (C8 (BH (J pos a s d H _ I h) λE z ⟨o,y,k,i,v⟩=>L a z d y o E Q k i v) he hpl) B c)
end
end L2
namespace HT
open PySem PyProof.Rows
section
variable {prog:ϣ}{w:Ϣ}{A:Around}{E:ϊ}{s:ϟ}
noncomputable def DK (n d:Nat):ϑ->Nat|none=>d|some v=>if v<0 then(v+(n:Int)).toNat else min v.toNat n
def ZD(n d):DK n d none=d:=rfl
def QK(n d k:Nat):DK n d (some (k))=min k n:=by show(if (k:Int)<0 then((k:Int)+(n:Int)).toNat else min (k:Int).toNat n)=min k n;rw[Av (by lia),Iv]
def kZ(n d)(hd:d<=n)(o):DK n d o<=n:=by cases o with|none=>exact hd|some v =>show(if v<0 then(v+(n:Int)).toNat else min v.toNat n)<=n;lia
def ZE(v:Int)(n d:Nat):(if v<0 then max (v+(n)) 0 else min v (n))=((DK n d (some v):Nat):Int):=by show(if v<0 then max (v+(n:Int)) 0 else min v (n:Int))=(((if v<0 then(v+(n:Int)).toNat else min v.toNat n):Nat):Int);lia
def l3(lo a)(n:Nat):Builtin.Slice.sliceAdjust lo a 1 (n)=(((DK n 0 lo:Nat):Int),((DK n n a):Int)):=by have c:¬((1:Int)<0):=(by lia);unfold Builtin.Slice.sliceAdjust;simp only[c,G2];refine Prod.ext ?_ ?_;(cases lo with|none=>rfl|some v=>exact ZE v n 0);cases a with|none=>rfl|some v=>exact ZE v n n
def l4(i j:Nat):Builtin.Slice.slicePlaces (i) (j) 1=j-i:=by unfold Builtin.Slice.slicePlaces;lia
def ZF{v}{o}{Q}(p:IsPart v o)(h:Q o s):wpAny (model prog w) A (Builtin.Slice.slicePartIndex v) Q E s:=by cases p with|none=>exact slicePart_none h|int i t=>exact slicePart_int h
def l6{e}{vl vu}{lo d}{n:Nat}{Q}(k:s.heap.IsSliceOf e vl vu .none)(pl:IsPart vl lo)(i:IsPart vu d)
 (h:Q (((DK n 0 lo:Nat):Int),1,DK n n d-DK n 0 lo) s):wpAny (model prog w) A (Builtin.Slice.sliceApplied (.ref e) (pure (n))) Q E s:=by
 refine DN (λo a j c=>?_) (id k);unfold Builtin.Slice.sliceApplied Builtin.Slice.sliceFields;refine A5 (A5 (Ct a c (x:=vl) U (A5 (Ct a c (x:=vu) U (A5 (Ct a c (x:=.none) U (Ak (A5 (slicePart_none ?_)))))))));show wpAny _ _ (if ((1:Int)==0)=true then _ else _) _ _ s;rw[Av (by lk)];refine A5 (ZF pl (A5 (ZF i (A5 (Ak ?_)))));show wpAny _ _ (match Builtin.Slice.sliceAdjust lo d 1 (n:Int)with|(lo,d)=>pure (lo,(1:Int),Builtin.Slice.slicePlaces lo d 1)) _ _ s;rw[l3 lo d n];show wpAny _ _ (pure (((DK n 0 lo:Nat):Int),(1:Int),Builtin.Slice.slicePlaces ((DK n 0 lo:Nat):Int) ((DK n n d:Nat):Int) 1)) _ _ s;rw[l4];exact Ak h
def l7(xs:Array Ϟ)(i k:Nat):((List.range k).filterMap λ(m:Nat)=>xs[((i:Int)+(m)*1).toNat]?).toArray=((xs.toList.drop i).take k).toArray:=by have e:(λ(m:Nat)=>xs[((i:Int)+(m:Int)*1).toNat]?)=λm=>xs[i+m]?:=(by grind);rw[e];have:=pick_run xs i k;rw[List.filterMap_map]at this;have a:((λx=>xs[x]?)∘λx=>i+x)=λm=>xs[i+m]?:=U;rw[a]at this;rw[this]
def l8{t i}{items}{vl vu}{lo c}{Q}(d:IsTup s.heap t items)(p:s.heap.IsSliceOf i vl vu .none)(pl:IsPart vl lo)(y:IsPart vu c)
 (z:¬(DK items.size 0 lo=0/\DK items.size items.size c=items.size))
 (h:Q (.ref s.heap.objs.size) { s with heap:=s.heap.push { cls:=.type "tuple",data:=.seq ((items.toList.drop (DK items.size 0 lo)).take (DK items.size items.size c-DK items.size 0 lo)).toArray } })
 (hsz:items.size<=sizeLine):wpAny (model prog w) A (getItem (.ref t) (.ref i)) Q E s:=by
 have a:sizeOk (.seq ((items.toList.drop (DK items.size 0 lo)).take (DK items.size items.size c-DK items.size 0 lo)).toArray):=by
  show((items.toList.drop (DK items.size 0 lo)).take (DK items.size items.size c-DK items.size 0 lo)).toArray.size<=sizeLine
  grind
 have B:DK items.size items.size c<=items.size:=kZ _ _ (A9 _) c;refine DN (λv o j r=>?_) (id p);have k:s.TypeIs (.ref i) "slice":=⟨v,o,j⟩
 unfold getItem;try with_reducible refine C9 ?_
 first|refine A5 (Ak ?_)|skip
 refine A5 (wpAny_sequenceKey d.typeIs (by lk) ?_);refine A5 (G0 (name:=("__getitem__":ϥ)) d.typeIs Ee
  (Jk Ee d.typeIs entry_tuple_getitem ?_ (args_tuple_getitem _ _)))
 show wpAny _ _ (Builtin.Tuple.tupleItemsOf (.ref t) >>= _) _ _ s;refine A5 (tupleItemsOf_ d (A5 (wpAny_typeOf k ?_)));rw[B1 (by lk)];refine A5 (l6 p pl y ?_);have e:¬((((DK items.size 0 lo:Nat):Int)==0&&(1:Int)==1&&(DK items.size items.size c-DK items.size 0 lo)==items.size)=true):=by
  lia
 show wpAny _ _ (if (((DK items.size 0 lo:Nat):Int)==0&&(1:Int)==1&&(DK items.size items.size c-DK items.size 0 lo)==items.size)=true then _ else _) _ _ s;rw[Av e,l7];first
  | exact A5 (m:=Builtin.Tuple.tupleExact _) (D8 (Ak ⟨_,U,Ak h⟩) a)
  | exact A5 (m:=Builtin.Tuple.tupleExact _) (D8 (A5 (Ak (Ak ⟨_,U,Ak h⟩))) a)
  | exact A5 (A5 (m:=Builtin.Tuple.tupleExact _) (D8 (Ak (Ak ⟨_,U,Ak h⟩)) a))
  | exact A5 (A5 (m:=Builtin.Tuple.tupleExact _) (D8 (Ak ⟨_,U,Ak h⟩) a))
end
end HT
namespace L2
open PySem PySem.Spec PyProof.Rows
abbrev TO:=St->Hp->(ϑ->Hp->Prop)->Prop
def PO(X:Cx)(e:Ϩ Ϧ)(t:TO):Prop :=∀(a:ύ) (s:ϟ) (c:St) (H:Hp) (Q:ϑ->Hp->Prop),AG X a c H s->t c H Q ->wpAny (model X.prog X.w) X.A (evalPart e X.env) (λu i=>∃o d,AG X a c d i/\IsPart u o/\Q o d) X.xe s
def l9:TO:=λ_ H Q=>Q none H
def lg(t:TE):TO:=λc H Q=>t c H λx a=>∃i,x=.int i/\Q (some i) a
def WI:∀{us},AV (ns.map V.int) us->IntsAre us ns:=by induction ns with|nil=>intro us r;rw[Ky]at r;cases r;exact .nil|cons n ns c =>intro us r;rw[Bp]at r;cases r with|cons d a =>obtain⟨t,rfl⟩:=d;exact .cons n t (c a)
section
variable {X:Cx}{e:Ϧ}{te:TE}{lo hi:Ϩ Ϧ}{tl th:TO}{pos p2:Pos}
def Ph:PO X none l9:=by intro a s c H Q I h;rw[Kn];exact Ak ⟨none,H,I,.none,h⟩
def LY(h:PE X e te):PO X (some e) (lg te):=by intro c s r H Q I o;rw[evalPart_some];refine BH (h c s r H _ I o) λu v=>GL λx p j d k=>?_;revert k;refine AS λi a q=>?_;subst a;obtain⟨t,rfl⟩:=d;exact BY (some i) p j (.int i t) q
def SQ(X:Cx)(r:V->ϑ->ϑ->Hp->VK->Prop):Prop :=∀(a:ύ) (s:ϟ) (i:St) (H:Hp) (x:V) (v d vu:Ϟ) (lo hi:ϑ) (c:Ϡ) (Q:VK),AG X a i H s->BE x v->s.heap.IsSliceOf c d vu .none->IsPart d lo->IsPart vu hi->r x lo hi H Q ->∃T j,typeLookup (.type T) "__getitem__"=pure (some (.builtin j))/\s.TypeIs v T/\wpAny (model X.prog X.w) X.A (getItem v (.ref c)) (EP X a i Q) X.xe s
def lj(r:V->ϑ->ϑ->Hp->VK->Prop)(te:TE)(tl th:TO):TE:=λa H Q=>te a H λx d=>tl a d λl c=>th a c λu i=>r x l u i Q
def Nw(S:SQ X r)(he:PE X e te)(P:PO X lo tl)(Z:PO X hi th):PE X (.Subscript e (.Slice lo hi none p2) pos) (lj r te tl th):=by intro a s d H Q I h;refine Subscript_ (BH (he a s d H _ I h) λv Y ⟨x,O,y,k,G⟩=>wpAny_Slice (BH (P a Y d O _ y G) λi C ⟨l,H2,L,R,q2⟩=>BH (Z a C d H2 _ L q2) λvu c=>GL λu j B W J=>?_));rw[Kn];refine Ak ?_;have o:AG X a d j { c with heap:=c.heap.push { cls:=.type "slice",data:=.fields #[i,vu,.none] } }:=B.kept (t':=c.toks) λb ob q=>A7 _ q;obtain⟨T,id,E,p,z⟩:=S a { c with heap:=c.heap.push { cls:=.type "slice",data:=.fields #[i,vu,.none] } } d j x v i vu l u c.heap.objs.size Q o k (Heap.IsSliceOf.new ..) R W J;show wpAny (model X.prog X.w) X.A (subscriptTail e (.Slice lo hi none p2) v (.ref c.heap.objs.size)) (EP X a d Q) X.xe { c with heap:=c.heap.push { cls:=.type "slice",data:=.fields #[i,vu,.none] } };exact tail_any (ops:=[.ref c.heap.objs.size,v]) p E z (by with_unfolding_all rfl)
def DV(xs:ϩ V)(lo hi:ϑ):ϩ V:=(xs.drop (HT.DK xs.length 0 lo)).take (HT.DK xs.length xs.length hi-HT.DK xs.length 0 lo)
def ZG(xs)(lo hi):(DV xs lo hi).length<=xs.length:=by unfold DV;rw[Ao,Cu];lia
def SR(K:ϡ):V->ϑ->ϑ->Hp->VK->Prop:=λx lo hi H Q=>∃a c,x=.ref a/\BP K H a c /\¬(HT.DK c.length 0 lo=0/\HT.DK c.length c.length hi=c.length)/\∀p,H p=none->Q (.ref p) (upd H p (.tup (DV c lo hi)))
def ll:SQ X (SR X.K):=by
 refine λy s R H x v P vu lo hi L Q I E G B C=>IK λa d i J z q=>?_;subst i;cases E;refine DN (λj r k p=>?_) (I.tuple J);have c:j.toArray.size=d.length:=by rw[B5];exact r.length.symm
 refine BY ("tuple") _ Ee.lookup k.typeIs (HT.l8 k G B C (by rw[c];exact z) ?_ (by rw[c];exact p));rw[c];refine BY (.ref s.heap.objs.size) _ (I.laid (t':=s.toks) (o:=.tup (DV d lo hi)) (λb O q=>A7 _ q) (A9 _) ?_) U (q _ (I.Ê.fresh (A9 _)));exact⟨Aw (ZG d lo hi) p,_,(r.drop (HT.DK d.length 0 lo)).take (HT.DK d.length d.length hi-HT.DK d.length 0 lo),IsTup.new _ _⟩
end
noncomputable def Ov (n:Nat) (i:Int):Ϩ Nat:=if 0<=i then(if i<n then some i.toNat else none)else if -(n:Int)<=i then some (i+n).toNat else none
def DP{a:Type}(xs:ϩ a)(i:Int):Ϩ a:=(Ov xs.length i).bind λj=>xs[j]?
def ZH(h:Ov n i=some j):seqIndex? i n=some j/\j<n/\-(n)<=i/\i<n:=by unfold Ov at h;by_cases c:0<=i;rw[B1 c]at h;by_cases a:i<n;rw[B1 a]at h;have e:=B0 h;exact⟨by rw[seqIndex_of c a,e],by lia,by lia,a⟩;rw[Av a]at h;cases h;rw[Av c]at h;by_cases a:-(n:Int)<=i;rw[B1 a]at h;have e:=B0 h;exact⟨by rw[seqIndex_neg (by lia) a,e],by lia,a,by lia⟩;rw[Av a]at h;cases h
def WJ{k:Type}{xs:ϩ k}{i}{v}(h:DP xs i=some v):∃j,seqIndex? i xs.length=some j/\xs[j]?=some v/\j<xs.length/\-(xs.length:Int)<=i/\i<xs.length:=by unfold DP at h;cases e:Ov xs.length i with|none=>rw[e]at h;cases h|some j =>rw[e]at h;refine FY (λd a o c=>?_) (ZH e);exact MW j (MX d h a o c)
def FR{a:Type}{xs:ϩ a}{j:Nat}{v}(h:xs[j]?=some v):DP xs (j)=some v:=by grind[List.getElem?_eq_some_iff.mp,Ov,DP]
def lp(b:Ϧ):Prop:=∀o i,subscripted b false o i=operate [o,i] (getItem o i)
def QL(X:Cx)(r:R2):Prop :=∀(d a:Ϧ) (c:ύ) (s:ϟ) (e:St) (H:Hp) (x y:V) (v u:Ϟ) (Q:VK),AG X c e H s->BE x v->BE y u->r x y H Q ->subscripted a false v u=operate [v,u] (getItem v u)->wpAny (model X.prog X.w) X.A (subscriptTail d a v u) (EP X c e Q) X.xe s
def Qh(X:Cx)(i:String)(r:V->ϩ V->Hp->VK->Prop):Prop :=∀(a:ύ) (s:ϟ) (e:St) (H:Hp) (x:V) (d:ϩ V) (v:Ϟ) (c:Ϗ) (Q:VK),AG X a e H s->BE x v->AV d c->r x d H Q ->wpAny (model X.prog X.w) X.A (call (.builtin i) (v::c)) (EP X a e Q) X.xe s
section
variable {X:Cx}{a b:Ϧ}{ta tb:TE}{pos:Pos}
def BZ(j:QL X r)(C:PE X a ta)(d:PE X b tb)(o:lp b):PE X (.Subscript a b pos) (Uy r ta tb):=by intro c s z H Q I h;exact Subscript_ (QH C d I h λv u e x y B i k p q=>j a b c e z B x y v u Q i k p q (o _ _))
def QM(K:ϡ):R2:=λx y H Q=>∃p c i v,x=.ref p/\y=.int i/\AC K H p c/\DP c i=some v/\Q v H
def QN(K:ϡ):R2:=λx y H Q=>∃p c i v,x=.ref p/\y=.int i/\BP K H p c/\DP c i=some v/\Q v H
def SS:R2:=λx y H Q=>∃z i c,x=.str z/\y=.int i/\z.length<=sizeLine/\DP z.cps.toList i=some c/\Q (.str ⟨#[c]⟩) H
def lr:QL X (QM X.K):=by
 intro o k c s R H x y v u Q I rx ry h P;revert h;refine HX λp xs i z=>HP λe d W he q=>?_;subst e;subst d;cases rx;obtain⟨t,rfl⟩:=ry;refine DN (λC r G hz=>?_) (I.list W);refine OW (λj E T h3 Y Z=>?_) (WJ he);refine AS (λw O B=>?_) (r.get T);have hl:=r.length;have hn:=RH;have fin:EP X c R Q w s:=⟨z,H,I,B,q⟩;by_cases L:0<=i;have J:i.toNat=j:=(by rw[seqIndex_of L Z]at E;exact B0 E);exact item_listR G.isList L (by lia) (by rw[J];simpa using O) fin P
 .have J:(i+(C.toArray.size:Int)).toNat=j:=by rw[seqIndex_neg (by lia) Y]at E;grind
  exact subscriptTail_builtinR (x:=w) G.isList.typeIs slot_list_getitem.lookup
   (wpAny_getItem_list_neg (Q:=λr S=>r=w/\EP X c R Q r S) G.isList (by lia) (by rw[B5]<;>lia) (by lia) (by rw[J];simpa using O) ⟨U,fin⟩) P
def ZI:QL X (QN X.K):=by
 intro e d c s B H x y v u Q I P S h R;obtain⟨p,xs,i,z,rfl,rfl,G,T,q⟩:=h;cases P;obtain⟨t,rfl⟩:=S;obtain⟨J,r,o,Z⟩:=I.tuple G;obtain⟨j,L,E,h3,W,Y⟩:=WJ T;obtain⟨w,O,k⟩:=r.get E;have hn:=RH;have fin:EP X c B Q w s:=⟨z,H,I,k,q⟩
 exact subscriptTail_builtinR (x:=w) o.typeIs slot_tuple_getitem.lookup
  (getItem_tuple (j:=j) (Q:=λr C=>r=w/\EP X c B Q r C) o (by lia) (by lia) (by rw[B5,<-r.length];exact L) (by simpa using O) ⟨U,fin⟩) R
def Qi:QL X SS:=by
 intro o k r s Z H x y v u Q I L P h O;revert h;refine Qb λz i c d e W S q=>?_;subst d;subst e;obtain⟨t,rfl⟩:=L;obtain⟨T,rfl⟩:=P;refine OW (λj p B Y C E=>?_) (WJ S);have J:z.cps.toList.length=z.length:=by simp[Str.length]
 rw[J]at p C E
 have hn:=RH;exact tail_any (Ic s z t) slot_str_getitem.lookup (getItem_str (c:=c) (by
  have R:decide (i < -(2^63:Int))=false:=Aj (by lia);have G:decide (i≥2^63)=false:=Aj (by lia);rw[R,G,Bool.or_false]) (by rw[p];simpa using B) ⟨.str ⟨#[c]⟩,H,I.tok _,⟨_,U⟩,q⟩) O
def lu(its:Ϗ)(n j)(u):Obj.mapSeq (·.setIfInBounds j u) { cls:=.type "list",data:=.seq its.toArray n }={ cls:=.type "list",data:=.seq (its.set j u).toArray n }:=by simp[Obj.mapSeq]
def AG.lst{c}{σ}{H}{s}{p}{xs}(I:AG X c σ H s)(h:H p=some (.lst xs)) :
 ∃(its:Ϗ) (n:Nat),AV xs its/\s.heap.get? p=some { cls:=.type "list",data:=.seq its.toArray n }/\xs.length<=sizeLine:=by
 obtain⟨z,its,n,r,e⟩:=I.Ê p _ h;exact BY its n r e z
def AG.lstUpd{c}{σ}{H}{s}{p}{xs ys}{its its':Ϗ}{n d}{f}(I:AG X c σ H s)(h:H p=some (.lst xs))
 (k:s.heap.get? p=some { cls:=.type "list",data:=.seq its.toArray n }) (i:f { cls:=.type "list",data:=.seq its.toArray n }={ cls:=.type "list",data:=.seq its'.toArray d }) (r:AV ys its') (hz:ys.length<=sizeLine) (t) :
 AG X c σ (upd H p (.lst ys)) { s with heap:=s.heap.update p f,toks:=t }:=by
 have e:(s.heap.update p f).get? p=some { cls:=.type "list",data:=.seq its'.toArray d }:=by
  rw[Cc f k (by rw[i]<;>rfl),i]
 refine I.write (x:=p) (e:=p) (by rw[h];trivial) (.inl U) (λb u j q=>(Bh _ _ (Cr j)).trans q) ⟨_,e⟩ ?_;exact⟨hz,its',d,r,e⟩
def lx:V->V->V->Hp->(Hp->Prop)->Prop:=λo i v H Q=>∃p c k j,o=.ref p/\i=.int k/\H p=some (.lst c)/\Ov c.length k=some j/\Q (upd H p (.lst (c.set j v)))
def UC:SE X lx:=by
 refine λe s T H o i v ov iv u Q I C Y L=>HX λp R k j=>HP λy d B Z q=>?_;subst y;subst d;cases C;obtain⟨t,rfl⟩:=Y;refine GL (λc n r P O=>?_) (I.lst B);refine FY (λz h2 S J=>?_) (ZH Z);have hl:=r.length;have hn:=RH;have I':AG X e T (upd H p (.lst (R.set j v))) { s with heap:=s.heap.update p (Obj.mapSeq (·.setIfInBounds j u)) } :=
  I.lstUpd B P (lu c n j u) (r.set L j) (by rw[Es];exact O) s.toks
 by_cases E:0<=k;have G:k.toNat=j:=(by rw[seqIndex_of E J]at z;exact B0 z);grind[PySem.W.ki_setAt,List.size_toArray];have G:(k+(c.toArray.size:Int)).toNat=j:=(by rw[seqIndex_neg (by lia) S]at z;grind);grind[PySem.W.ki_setBack,List.size_toArray]
def lz(lo c)(n):(sliceBounds lo c none n).1=((HT.DK n 0 lo:Nat):Int)/\(sliceBounds lo c none n).2.1=((HT.DK n n c:Nat):Int)/\(sliceBounds lo c none n).2.2=1:=by refine⟨?_,?_,U⟩;(cases lo with|none=>simp[sliceBounds,HT.DK]|some i =>simp only[sliceBounds,HT.DK,Option.getD_none,show(1:Int) > 0 by lk,Iw];lia);cases c with|none=>simp[sliceBounds,HT.DK]|some i =>simp only[sliceBounds,HT.DK,Option.getD_none,show(1:Int) > 0 by lk,Iw];lia
def lB(its:Ϗ)(lo c):slicePick its.toArray lo c none=((its.drop (HT.DK its.length 0 lo)).take (HT.DK its.length its.length c-HT.DK its.length 0 lo)).toArray:=by refine ED (λe d i=>?_) (lz lo c its.toArray.size);unfold slicePick;rw[e,d,i];simp only[sliceRange_one,pick_run,B5]<;>rfl
def SU(K:ϡ):V->ϑ->ϑ->Hp->VK->Prop:=λx d e H Q=>∃a c,x=.ref a/\AC K H a c/\∀p,H p=none->Q (.ref p) (upd H p (.lst (DV c d e)))
def lC:SQ X (SU X.K):=by refine λp s R H x v P vu i j L Q I E G B C=>GL λa c d J q=>?_;subst d;cases E;refine DN (λy r k z=>?_) (I.list J);have e:=r.length;refine BY ("list") _ slot_list_getitem.lookup k.isList.typeIs (J8 k.isList G B C .none (by simp) ?_ (by rw[B5]<;>lia));rw[lB,<-e];refine BY (.ref s.heap.objs.size) _ (I.laid (t':=s.toks) (o:=.lst (DV c i j)) (λb O q=>A7 _ q) (A9 _) ?_) U (q _ (I.Ê.fresh (A9 _)));exact⟨Aw (ZG c i j) z,_,0,(r.drop (HT.DK c.length 0 i)).take (HT.DK c.length c.length j-HT.DK c.length 0 i),Bc _ U⟩
def O6:V->Bool
 |.non=>true|.bl _=>true
 |.int _=>true|.str _=>true
 |_=>false
noncomputable def Ow:V->V->Bool
 |.non,.non=>true|.bl a,.bl b=>a==b
 |.bl a,.int b=>(if a then 1 else 0)==b|.int a,.bl b=>a==(if b then 1 else 0)
 |.int a,.int b=>a==b|.str a,.str b=>a==b
 |_,_=>false
def lD{u}(i:BE y u)(c:BE x v)(j:O6 y=true)(e:O6 x=true):SeqAt.EqAt A s u v (Ow y x):=by cases y with|non =>(cases i;cases x with|non=>cases c;exact SeqAt.EqAt.same _|bl b=>cases c;exact SeqAt.EqAt.none_bool b|int b=>(obtain⟨t,rfl⟩:=c;exact SeqAt.EqAt.none_int b t)|str b=>(obtain⟨t,rfl⟩:=c;exact SeqAt.EqAt.none_str b t)|_=>exact absurd (show false=true from e) Bg)|bl a =>(cases i;cases x with|non=>cases c;exact SeqAt.EqAt.bool_none a|bl b=>cases c;exact SeqAt.EqAt.bool_bool a b|int b=>(obtain⟨t,rfl⟩:=c;exact SeqAt.EqAt.bool_int a b t)|str b=>(obtain⟨t,rfl⟩:=c;exact SeqAt.EqAt.bool_str a b t)|_=>exact absurd (show false=true from e) Bg)|int a =>(obtain⟨d,rfl⟩:=i;cases x with|non=>cases c;exact SeqAt.EqAt.int_none a d|bl b=>cases c;exact SeqAt.EqAt.int_bool a d b|int b=>(obtain⟨t,rfl⟩:=c;exact SeqAt.EqAt.int_int a d b t)|str b=>(obtain⟨t,rfl⟩:=c;exact SeqAt.EqAt.int_str a d b t)|_=>exact absurd (show false=true from e) Bg)|str a =>(obtain⟨d,rfl⟩:=i;cases x with|non=>cases c;exact SeqAt.EqAt.str_none a d|bl b=>cases c;exact SeqAt.EqAt.str_bool a d b|int b=>(obtain⟨t,rfl⟩:=c;exact SeqAt.EqAt.str_int a d b t)|str b=>(obtain⟨t,rfl⟩:=c;exact SeqAt.EqAt.str_str a d b t)|_=>exact absurd (show false=true from e) Bg)|_=>exact absurd (show false=true from j) Bg
def ME(x:V)(u:Ϟ):Bool:=match u with
 | .none=>Ow .non x
 | .bool b=>Ow (.bl b) x
 | .int i _=>Ow (.int i) x
 | .str z _=>Ow (.str z) x
 | _=>false
def ZJ{u}(r:BE y u)(f:O6 y=true):ME x u=Ow y x:=by cases y with|non=>cases r;rfl|bl b=>cases r;rfl|int i=>(obtain⟨t,rfl⟩:=r;rfl)|str z=>(obtain⟨t,rfl⟩:=r;rfl)|_=>exact absurd (show false=true from f) Bg
def UD(h:AV xs us)(f:xs.all O6=true):us.any (ME x)=xs.any λy=>Ow y x:=by induction h with|nil=>rfl|cons r t c =>rw[Ja,Ar]at f;rw[Eu,Eu,ZJ r f.1,c f.2]
theorem SV(e:BE x v)(d:O6 x=true):∀{xs} {us},AV xs us->xs.all O6=true->∀u∈us,SeqAt.EqAt A s u v (ME x u)|_,_,.nil,_=>λu c=>by cases c|y::xs,u::us,.cons r t,f=>λi c=>by rw[Ja,Ar]at f;rcases Al.mp c with rfl|c;rw[ZJ r f.1];exact lD r e f.1 d;exact SV e d t f.2 i c
def MF(x:V)(xs:ϩ V):Bool:=xs.any λy=>Ow y x
def UE(K:ϡ)(d:Bool):R2:=λx y H Q=>∃p c,y=.ref p/\(AC K H p c\/BP K H p c)/\O6 x=true/\c.all O6=true/\Q (.bl (if d then !MF x c else MF x c)) H
def lE:FG X (compareOp .In) (UE X.K false):=by refine λo s G H x y v u Q I z C=>Q9 λp E d e k fs q=>?_;subst d;cases C;rcases e with e|e;refine DN (λc r j B=>?_) (I.list e);refine SeqAt.in_listAt (ME x) j.isList (λw i=>SV z k r fs w (by simpa using i)) ⟨.bl _,H,I,U,?_⟩;rw[show c.toArray.any (ME x)=c.any (ME x) by simp,UD r fs];exact q;refine DN (λc r j B=>?_) (I.tuple e);refine SeqAt.in_tupleAt (ME x) j (λw i=>SV z k r fs w (by simpa using i)) ⟨.bl _,H,I,U,?_⟩;rw[show c.toArray.any (ME x)=c.any (ME x) by simp,UD r fs];exact q
def lF:FG X (compareOp .NotIn) (UE X.K true):=by refine λo s G H x y v u Q I z C=>Q9 λp E d e k fs q=>?_;subst d;cases C;rcases e with e|e;refine DN (λc r j B=>?_) (I.list e);refine SeqAt.notIn_listAt (ME x) j.isList (λw i=>SV z k r fs w (by simpa using i)) ⟨.bl _,H,I,U,?_⟩;rw[show c.toArray.any (ME x)=c.any (ME x) by simp,UD r fs];exact q;refine DN (λc r j B=>?_) (I.tuple e);refine SeqAt.notIn_tupleAt (ME x) j (λw i=>SV z k r fs w (by simpa using i)) ⟨.bl _,H,I,U,?_⟩;rw[show c.toArray.any (ME x)=c.any (ME x) by simp,UD r fs];exact q
def lG:KU X (.builtin "len") (λxs H Q=>∃p ys,xs=[.ref p]/\(AC X.K H p ys\/BP X.K H p ys)/\Q (.int ys.length) H):=by rintro k s y H xs B Q I r ⟨p,ys,rfl,d,q⟩;obtain⟨u,rfl,v⟩:=LW r;cases v;have z:=RH;rcases d with d|d;(.obtain⟨i,e,j,o⟩:=I.list d;have c:=e.length;exact Calls.call_len_list j.isList (by simp only[B5]<;>lia) ⟨.int ys.length,H,I.tok _,⟨s.toks+1,by rw[B5,c]⟩,q⟩);obtain⟨i,e,j,o⟩:=I.tuple d;have c:=e.length;exact len_tuple j (by simp only[B5]<;>lia) ⟨.int ys.length,H,I.tok _,⟨s.toks+1,by rw[B5,c]⟩,q⟩
def RI:KU X (.builtin "len") (λxs H Q=>∃z,xs=[.str z]/\z.length<=sizeLine/\Q (.int z.length) H):=by rintro c s e H xs d Q I r ⟨z,rfl,j,q⟩;obtain⟨u,rfl,t,rfl⟩:=LW r;have i:=RH;exact len_str (by lia) ⟨.int z.length,H,I.tok _,⟨_,U⟩,q⟩
def lH:KU X (.type "list") (λxs H Q=>∃p ys,xs=[.ref p]/\(AC X.K H p ys\/BP X.K H p ys)/\∀l,H l=none->Q (.ref l) (upd H l (.lst ys))):=by
 rintro B s O H xs P Q I r ⟨p,ys,rfl,v,q⟩;obtain⟨u,rfl,L⟩:=LW r;cases L;have fin:∀(c:Ϗ),AV ys c->ys.length<=sizeLine->∀(d:Ϥ) (j:Nat),(∀b J,s.heap.get? b=some J->d.get? b=some J) ->d.get? s.heap.objs.size=some { cls:=.type "list",dict:=none,data:=.seq c.toArray j,slots:=#[] }->EP X B O Q (.ref s.heap.objs.size) { s with heap:=d }:=λc i z d j k e =>
  ⟨.ref s.heap.objs.size,_,I.laid (t':=s.toks) k (A9 _) (show KF X.prog X.w _ d _ (.lst ys)from⟨z,c,j,i,e⟩),U,q _ (I.Ê.fresh (A9 _))⟩
 rcases v with v|v;(.obtain⟨c,i,E,z⟩:=I.list v;have y:=i.length;obtain⟨o,C,G,n,hd⟩:=E.isList;exact call_list_seq p (.inl U) C G hd (λd j k e=>fin c i z d j k e) (by simp only[B5]<;>lia));obtain⟨c,i,E,z⟩:=I.tuple v;have y:=i.length;obtain⟨o,C,G,n,hd⟩:=E;exact call_list_seq p (.inr U) C G hd (λd j k e=>fin c i z d j k e) (by simp only[B5]<;>lia)
def ZK(K:ϡ)(T:String)(x:V)(H:Hp):Prop:=match x with
 | .str _=>T="str"
 | .int _=>T="int"
 | .ref p=>(T="list"/\∃d,AC K H p d)\/(T="tuple"/\∃o,K.lookup p=some o/\o.cls=.type "tuple"/\o.dict=none) \/
    (T="dict"/\((∃c,H p=some (.dK c))\/∃c,H p=some (.dT c)))\/(T="set"/\∃S n,H p=some (.set S n))
 | _=>False
def lI(I:AG X E σ H s)(r:BE x v)(j:ZK X.K T x H) :
 s.TypeIs v T/\∀a,v=.ref a->∃B,s.heap.get? a=some B/\B.dict=none:=by
 cases x with
 | str z =>
   obtain⟨t,rfl⟩:=r;cases (j);exact⟨Ic s z t,λ_ e=>nomatch e⟩
 | int i =>
   obtain⟨t,rfl⟩:=r;cases (j);exact⟨Jw s i t,λ_ e=>nomatch e⟩
 | ref p =>
   cases r;rcases j with⟨rfl,O,G⟩|⟨rfl,o,d,L,hd⟩|⟨rfl,d⟩|⟨rfl,S,n,d⟩
   .refine DN (λJ _ C _=>?_) (I.list G);refine⟨C.isList.typeIs,λa e=>?_⟩;cases e;revert C;refine IK λo n e c hd _=>?_;exact AU o e hd
   .refine⟨⟨o,I.ď p o d,L⟩,λa e=>?_⟩;cases e;exact AU o (I.ď _ o d) hd
   .have z:∃o,s.heap.get? p=some o/\o.ExactDict:=by
     rcases d with⟨k,d⟩|⟨k,d⟩
     .obtain⟨_,_,_,_,o,_,_,e,ex,_⟩:=I.Ê p _ d;exact AU o e ex
     .obtain⟨_,_,_,_,o,_,_,e,ex,_⟩:=I.Ê p _ d;exact AU o e ex
    revert z;refine AS λo e ex=>?_;refine⟨⟨o,e,ex.1⟩,λa y=>?_⟩;cases y;exact AU o e ex.2.1
   .refine VT (I.Ê p _ d) λo _ _ _=>ED λe ex _=>?_;refine⟨⟨o,e,ex.1⟩,λa y=>?_⟩;cases y;exact AU o e ex.2.1
 | _=>exact False.elim j
def WK(K:ϡ)(T:String)(r:V->ϩ V->Hp->VK->Prop)(to:TE)(t:TA):TE:=λd H Q=>to d H λx c=>ZK K T x c/\t d c λi e=>r x i e Q
variable {o e:Ϧ}{es:ϗ}{to:TE}{t:TA}{name:ϥ}{apos cpos:Pos}{T id:String}{r:V->ϩ V->Hp->VK->Prop}
def lJ(pa:PlainAttrs T)(slot:Slot T name id)(k:typeOf (.builtin id)=pure (.type "method_descriptor"))(hm:Qh X id r)(P:PE X o to)(ha:PA X (e::es) t)
 (d:attributeBase o name X.env (eval o X.env)=eval o X.env:=by rfl)
 (j:((backTo cpos (starEach (e::es) X.env)).all (λx=>!x.1)&&(backToKw cpos (keywordEach [] X.env)).all (λx=>x.1.isSome)
   && decide ((e::es).length+([]:Ϝ).length+(if ([]:Ϝ).isEmpty then 0 else 1)<30))=true:=by rfl)
 (i:(apos.endLine==cpos.line)=true:=by rfl) (Y:starEach (e::es) X.env=(false,eval e X.env)::starEach es X.env:=by rfl) (hplain:(backTo cpos (starEach es X.env)).any (·.1)=false:=by rfl) :
 PE X (.Call (.Attribute o name apos) (e::es) [] cpos) (WK X.K T r to t):=by
 intro c s p H Q I h;refine wpAny_Call_method_late d j i U (BH (P c s p H _ I h) λv S=>IK λx R B z W J=>?_);obtain⟨L,C⟩:=lI B z W;refine Nm T id (IR pa slot k L C ?_);have hA:=ha cpos c S p R _ B J;rw[Y]at hA⊢
 exact Calls.callWith_builtin (by show(false||(backTo cpos (starEach es X.env)).any (·.1))=false;rw[hplain]<;>rfl) (Calls.evalArgs_plain (BH hA λus G y=>by obtain⟨E,H2,O,Z,q2⟩:=y;exact hm c G p H2 x E v us Q O z Z q2))
end
def UF(X:Cx)(i:String)(r:V->ϩ V->Hp->VK->Prop):Prop :=∀(a:ύ) (s:ϟ) (e:St) (H:Hp) (x:V) (d:ϩ V) (v:Ϟ) (c:Ϗ) (Q:VK),AG X a e H s->BE x v->AV d c->r x d H Q ->wpAny (model X.prog X.w) X.A (call (.builtin i) (v::c)) (EP X a e Q) X.xe s
def AV.one(h:AV [x] us):∃u,us=[u]/\BE x u:=by cases h with|cons r t =>cases t;exact⟨_,U,r⟩
theorem AV.eraseIdx:∀{xs} {us} (i),AV xs us->AV (xs.eraseIdx i) (us.eraseIdx i)
 |_,_,_,.nil=>.nil|_,_,0,.cons _ t=>t
 |_,_,i+1,.cons r t=>.cons r (AV.eraseIdx i t)
theorem AV.rep(h:AV xs us):∀k:Nat,AV (List.replicate k xs).flatten (List.replicate k us).flatten|0=>.nil|k+1=>by rw[Dh,Dh,Dc,Dc];exact AV.append h (AV.rep h k)
theorem ZL{a:Type}:∀(l:ϩ a) (i),(l.eraseIdx i).length<=l.length
 |[],_=>A9 _|_::_,0=>Ed _
 |_::r,i+1=>Nat.succ_le_succ (ZL r i)
theorem ZM(its:Ϗ):∀(k) (a),List.foldl (λd i=>d++i) a.toArray (List.replicate k its.toArray)=(a++(List.replicate k its).flatten).toArray|0,a=>by simp|k+1,a=>by have e:a.toArray++its.toArray=(a++its).toArray:=(by simp);have c:(a++its)++(List.replicate k its).flatten=a++(List.replicate (k+1) its).flatten:=(by rw[Dh,Dc,B4]);rw[<-c,<-ZM its k (a++its),<-e,Dh,Ft]
section
variable {X:Cx}{pins:ύ}{σ:St}{H:Hp}{s:ϟ}{l b:Ϡ}{xs ys zs:ϩ V}
def AG.Ź{its its':Ϗ}{n}{f}{t'}(I:AG X pins σ H s)(d:H l=some (.lst xs))
 (e:s.heap.get? l=some { cls:=.type "list",data:=.seq its.toArray n }) (a:f its.toArray=its'.toArray) (c:AV ys its') (hz:ys.length<=sizeLine) :
 AG X pins σ (upd H l (.lst ys)) { s with heap:=s.heap.update l (Obj.mapSeq f),toks:=t' }:=by
 have q:=PySem.IsL.update e f;rw[a]at q
 refine I.write (x:=l) (e:=l) (by rw[d];exact trivial) (.inl U) (λk u j i=>(Bh s.heap (Obj.mapSeq f) (Cr j)).trans i) ⟨_,q⟩ ?_;exact⟨hz,its',_,c,q⟩
def AG.zR(I:AG X pins σ H s)(a:AV ys its)(hz:ys.length<=sizeLine) :
 AG X pins σ (upd H s.heap.objs.size (.lst ys)) { s with heap:=s.heap.push { cls:=.type "list",data:=.seq its.toArray },toks:=t' } :=
 I.laid (λ_ _ q=>A7 _ q) (A9 _) ⟨hz,its,0,a,Bc _ U⟩
def AG.fresh(I:AG X pins σ H s):H s.heap.objs.size=none:=I.Ê.fresh (A9 _)
def AG.ň(I:AG X pins σ H s)(a:H l=some (.lst xs)):xs.length<=sizeLine/\∃(its:Ϗ) (n:Nat),AV xs its/\xs.length=its.length/\s.heap.get? l=some { cls:=.type "list",data:=.seq its.toArray n }:=by obtain⟨z,its,n,r,e⟩:=I.Ê l _ a;exact⟨z,its,n,r,r.length,e⟩
def ZN{n}(h:n<=sizeLine):Builtin.List.listTooLong n=false:=by unfold Builtin.List.listTooLong;exact Aj (by lia)
end
section
variable {X:Cx}
def Pj:V->ϩ V->Hp->VK->Prop:=λx c H Q=>∃l a y,x=.ref l/\c=[y]/\H l=some (.lst a)/\a.length<sizeLine/\Q .non (upd H l (.lst (a++[y])))
def KW:UF X "list.append" Pj:=by rintro d s E H x o v G Q I j i ⟨l,C,y,rfl,rfl,c,p,q⟩;cases j;obtain⟨u,rfl,k⟩:=i.one;obtain⟨z,a,n,r,B,e⟩:=I.ň c;refine Em F.slot_list_append ⟨_,e,U⟩ F.entry_list_append (F.args_list_append_2 _ _) (PySem.list_append l a.toArray n u (by rw[B5];lia)) ⟨e,.non,_,I.Ź (its':=a++[u]) c e (by simp) (r.append (.cons k .nil)) ?_,U,q⟩;grind
def Pl:V->ϩ V->Hp->VK->Prop:=λx d H Q=>∃l b a c,x=.ref l/\d=[.ref b]/\H l=some (.lst a)/\H b=some (.lst c)/\a.length+c.length<=sizeLine/\Q .non (upd H l (.lst (a++c)))
def ZO:UF X "list.extend" Pl:=by
 refine λp s W H x P v Y Q I E y=>HX λl b T L=>FZ λk j o hB R q=>?_;subst k;subst j;cases E;refine AS (λu i J=>?_) y.one;subst i;cases J;obtain⟨z,c,n,r,S,e⟩:=I.ň o;obtain⟨O,a,n2,G,ģ,B⟩:=I.ň hB;have C:c.toArray.size+a.toArray.size<=sizeLine:=by rw[B5,B5];lia
 have d:¬(!c.toArray.isEmpty&&Builtin.List.listTooLong (c.toArray.size+a.toArray.size))=true:=by simp_all[ZN,Bool.and_false,Bg]
 refine Em F.slot_list_extend ⟨_,e,U⟩ F.entry_list_extend (F.args_list_extend_2 _ _)
  (AutoSeq1.list_extend_list_list_0 l c.toArray n b a.toArray n2 d (by rw[B5];lia) (by lia)) ⟨e,B,?_⟩
 refine BY .non _ (I.Ź (its':=c++a) o e (by simp) (r.append G) ?_) U q;rw[Ag];lia
def QO:V->ϩ V->Hp->VK->Prop:=λx c H Q=>∃l a i k y,x=.ref l/\c=[.int i]/\H l=some (.lst a)/\-(2^63)<=i/\i<2^63/\seqIndex? i a.length=some k/\a[k]?=some y/\Q y (upd H l (.lst (a.eraseIdx k)))
def ZP:UF X "list.pop" QO:=by
 refine λp s T H x S v W Q I R G=>EK λl P i k y=>MV λd c o E B C O q=>?_;subst d;subst c;cases R;obtain⟨u,rfl,t,rfl⟩:=G.one;obtain⟨z,a,n,r,L,e⟩:=I.ň o;refine AS (λw J j=>?_) (r.get O);refine Em F.slot_list_pop ⟨_,e,U⟩ F.entry_list_pop (F.args_list_pop_2 _ _)
  (MeetsSeq.list_pop_at l a.toArray n i t k w (fitsIndex_both E B) (by rw[B5,<-L];exact C) (by rw[<-Ew];exact J) (by rw[B5];lia)) ⟨e,?_⟩
 refine BY y _ (I.Ź (its':=a.eraseIdx k) o e ?_ (r.eraseIdx k) ?_) j q;grind;have:=ZL P k;lia
def WL:R2:=λx y H Q=>∃l b a c,x=.ref l/\y=.ref b/\H l=some (.lst a)/\H b=some (.lst c)/\a.length+c.length<=sizeLine/\∀p,H p=none->Q (.ref p) (upd H p (.lst (a++c)))
def SW:FG X (binaryOp .Add) WL:=by
 refine λj s S H x y v u Q I p B=>HX λl b R G=>FZ λi d o hB L q=>?_;subst i;subst d;cases p;cases B;obtain⟨z,c,n,r,O,e⟩:=I.ň o;obtain⟨J,a,n2,C,ģ,k⟩:=I.ň hB;refine PySem.P.add_list e k ?_ (by rw[B5,B5];lia);have E:c.toArray++a.toArray=(c++a).toArray:=by simp
 rw[E];exact BY (.ref _) _ (I.zR (t':=s.toks) (r.append C) (by rw[Ag];lia)) U (q _ I.fresh)
def WM:R2:=λx y H Q=>∃l k a,x=.ref l/\y=.int k/\H l=some (.lst a)/\-(2^63)<=k/\k<2^63/\a.length*k.toNat<=sizeLine /\∀p,H p=none->Q (.ref p) (upd H p (.lst (List.replicate k.toNat a).flatten))
def ZQ{a:Type}(xs:ϩ a)(k):(List.replicate k xs).flatten.length=k*xs.length:=by simp_all
def SX:FG X (binaryOp .Mult) WM:=by
 refine λL s σ H x y v u Q I Z ry=>GA λl k xs=>MU λi C Y S P J q=>?_;subst i;subst C;cases Z;obtain⟨t,rfl⟩:=ry;obtain⟨z,c,n,r,W,e⟩:=I.ň Y;have o:c.toArray.size*k.toNat<=sizeLine:=by rw[B5,<-W];exact J
 have j:¬c.toArray.size*k.toNat > (2^63-1)/8:=by have:(sizeLine:Nat)<=(2^63-1)/8:=(by lk);lia
 have B:¬(!Builtin.List.listFitsIndex k)=true:=by rw[fitsIndex_both S P];exact Bg
 have d:¬Builtin.List.listTooLong (c.toArray.size*k.toNat)=true:=by rw[ZN o];exact Bg
 have p:List.foldl (λG E=>G++E) #[] (List.replicate (if c.toArray.isEmpty=true then 0 else k.toNat) c.toArray)=(List.replicate k.toNat c).flatten.toArray:=by
  have R:∀m:Nat,List.foldl (λG E=>G++E) #[] (List.replicate m c.toArray)=(List.replicate m c).flatten.toArray:=λm=>by
   grind[ZM,List.nil_append]
  rw[R];cases c with
  | nil=>simp
  | cons a r'=>rw[Av (by simp)]
 refine wpAny_binaryOp_repeat_ref (T:="list") (U:="int") (by lk) ⟨_,e,U⟩ (λO=>Jw O k t) noFill_list_mul F.fills_int_mul F.slot_int_rmul repeat_list F.slot_int_index.lookup
  (Em F.slot_int_rmul (Jw s k t) F.entry_int_rmul (F.args_int_rmul_2 _ _) (int___rmul___int_list k t l c.toArray n)
    ⟨e,U,⟨_,e,U⟩,Em F.slot_list_mul ⟨_,e,U⟩ F.entry_list_mul (F.args_list_mul_2 _ _) (AutoListH.list___mul___list_int_3 l c.toArray n k t B j d) ⟨e,?_⟩⟩)
 rw[p];exact BY (.ref _) _ (I.zR (t':=s.toks) (r.rep k.toNat) (by rw[ZQ,Nat.mul_comm];exact J)) U (q _ I.fresh)
end
end L2
namespace Att
open PySem PySem.W PySem.Calls PyProof.Rows
def lK:∀(ns) (vs),WellAll P h vs (ns.map WData.int)->IntsAre vs ns:=by intro ns;induction ns with|nil =>intro vs w;rw[Ky]at w;cases w;exact .nil|cons n ns c =>intro vs w;rw[Bp]at w;cases w with|cons a b =>cases a;exact .cons _ _ (c _ b)
def lL{l:OpenLaw}{n}(B:l.most=some n){P}{h}{args}{vals}
 (zW:l.row.toRowW.claim.pre args=true) (j:WellAll P h vals args) :
 ∃a vs ns,vals=[Value.ref a]/\args=[WData.list (ns.map WData.int)]/\h.get? a=some { cls:=.type "list",data:=.seq vs.toArray }/\IntsAre vs ns/\ns.length<=n:=by
 have k:=(pre_splitW zW).1;have o:l.pre.holds [] { args:=args }=true:=(pre_splitW zW).2;obtain⟨d,r,rfl,v,s⟩:=hasAllW_cons k;obtain rfl:=hasAllW_nil s;obtain⟨G,rfl,z⟩:=hasW_list v;obtain⟨ns,rfl⟩:=items_int z;have c:ns.length<=n:=by
  unfold OpenLaw.pre at o;have i:(WTm.not (.lt (.lit (.int (n:Int))) (.len (.arg 0)))).holds [] { args:=[.list (ns.map .int)] }=true:=by
   have i:=(holds_andW o).1;rw[B]at i
   exact i
  have E:=condW_of i (w_not (w_lt w_lit (w_len_list (w_arg U))))
  grind
 cases j with
 | cons p C =>
   cases C;cases p with
   | list y e=>exact⟨_,_,ns,U,U,y,lK ns _ e,c⟩
def lM(l:OpenLaw)(args):l.row.toRowW.claim.post args (.bool true) args=true :=
 postW_of (r:=l.row.toRowW) (X:=(true==true))
  (show WShape.has [] (.bool true) .bool=true by first|rfl|decide|simp[WShape.has,WShape.arms,WShape.armsAll])
  (show(WTm.eq .res (.lit (.bool true))).value [] { args:=args,res:=some (.bool true),after:=args }=some (.bool (true==true))from w_eq_bool (w_res U) w_lit) U
def lN{l:OpenLaw}{n}{q}{e}{L}{YP}{d}
 (X:l.most=some n) (E:d.params.defaults=[])
 (call:∀(w) (Ã c) (mg H) (k) (o) (pm B doc) (a) (vs) (ns),
   Ground q e [] L w Ã mg H c.heap->YP w c.heap ->
   c.heap.get? k=some o->o.data=.func (docDef d.name d.params d.body d.scope pm B doc)->c.heap.CodeRec B d.name->mg d.name=some (.ref k) ->
   c.heap.get? a=some { cls:=.type "list",data:=.seq vs.toArray }->IntsAre vs ns->ns.length<=n->c.gens=#[] ->
   codeAny (model l.prog w) callerA (.call (.ref k) ⟨[.ref a],[]⟩) (λr z=>r=.ok (.ret (.bool true))/\OldK c.heap z.heap/\z.os=c.os/\AllBare z.gens) c) :
 WalkO q e L YP l.row.toRowW d [] (λf vs=>PySem.call f vs):=by
 intro w Ã c mg H G Y k o pm B doc dV kV S hd J hD I P args vals as zW zY T C aa;obtain rfl:dV=.none:=Dflts.none hD E;obtain rfl:kV=.none:=Dflts.noKw hD;refine Qb (λa vs ns p y j i v=>?_) (lL X zW C);subst p;subst y;refine enter_call (Ec (call w Ã c mg H k o pm B doc a vs ns G Y S (fd_plain hd) J I j i v P) λr z Q=>?_);revert Q;refine FY λs O W R=>?_;subst s;exact GC (.inl ⟨.bool true,.bool true,[],U,λ_=>U,.bool true,lM l _,λ_=>⟨List.Pairwise.nil,λ_ Z=>(nomatch Z)⟩⟩) O W R
end Att
namespace L2
open PySem PySem.Spec PyProof.Rows
theorem ZR:∀{vs} {ns},IntsAre vs ns->AV (ns.map V.int) vs|_,_,.nil=>.nil|_,_,.cons n t h=>.cons ⟨t,U⟩ (ZR h)
def Pm(H:Hp):Prop:=∀b,H b=none\/∃o a,H b=some (.frz o (.lst a))
def lO{P}{w}{K}{mg mb}{CX}{k}{fa a}{fd}{x}{sp}{s₁}{vs}{ns}
 (KX:K.In s₁.heap) (G:s₁.heap.Ns mainGlobals mg) (B:s₁.heap.Ns builtinsNs mb) (X:∀x:ϥ,x≠"__name__"->mb x=bootBuiltins x) (I:s₁.heap.NoLimit) (hg:s₁.gens=#[])
 (R:s₁.heap.get? a=some { cls:=.type "list",data:=.seq vs.toArray }) (hi:IntsAre vs ns) (hl:ns.length<=sizeLine) (hr:CK k callerA)
 (F:∀base:Ϥ,K.In base->base.Ns mainGlobals mg->CF P w K mg base CX k fa fd [x] sp) (y:∀(s) (u),BindsTo s fd ⟨[u],[]⟩ [(x,u)])
 (Z:∀H:Hp,Pm H->AC K H a (ns.map V.int)->sp [.ref a] H (λv _=>v=.bl true) λ_ _ _=>False)
 (hCX:∀H e i,CX [] H s₁ (λ_ _ _=>False) e i->False) :
 codeAny (model P w) callerA (.call (.ref fa) ⟨[.ref a],[]⟩) (λr i=>r=.ok (.ret (.bool true))/\OldK s₁.heap i.heap/\i.os=s₁.os/\AllBare i.gens) s₁:=by
 have rv:=ZR hi;have p:∀H:Hp,Pm H->AC K H a (ns.map V.int)->FO P w H s₁.heap->(∀b,H b≠none->b=a)->(H a≠none->K.lookup a=none) ->
  codeAny (model P w) callerA (.call (.ref fa) ⟨[.ref a],[]⟩) (λr i=>r=.ok (.ret (.bool true))/\OldK s₁.heap i.heap/\i.os=s₁.os/\AllBare i.gens) s₁:=by
  intro H hO hS J hA hK;have c:∀{b:Ϡ}{o:Obj},s₁.heap.get? b=some o->H b=none->(KQ s₁.heap H).get? b=some o:=λe n=>jM e n
  have Y:∀{b:Ϡ}{o:Obj}{O:Array DictEntry}{Q:Nat},s₁.heap.get? b=some o->o.data=.dict O Q->H b=none:=λ{b o O Q} e d=>by
   cases q:H b with
   | none=>rfl
   | some u =>
     have W:b=a:=hA b (by rw[q];simp);subst W;rw[R]at e;cases e
     have d':=d;cases d'
  have j:∀{b:Ϡ}{m:ϋ},s₁.heap.Ns b m->(KQ s₁.heap H).Ns b m:=λ{b m} ⟨o,O,Q,e,d,r⟩=>⟨o,O,Q,c e (Y e d),d,r⟩
  have L:K.In (KQ s₁.heap H):=λb o e=>c (KX b o e) (by
   cases q:H b with
   | none=>rfl
   | some u =>
     have W:b=a:=hA b (by rw[q];simp);subst W;rw[hK (by rw[q];simp)]at e;cases e)
  have hM:Mod K mg (KQ s₁.heap H):=⟨L,j G,⟨mb,j B,X⟩,let ⟨mc,h1,h2⟩:=I;⟨mc,j h1,h2⟩⟩
  have e0:MB P w K mg (KQ s₁.heap H) callerA [] s₁ H:=⟨U,hM,λb o e=>jN e,El (jL _ _),trivial,λb B=>absurd (show b∈([]:ϖ)from B) (by simp),J,.of_eq hg⟩
  refine Ec ((F _ L (j G)).run callerA [] s₁ H ⟨[.ref a],[]⟩ [.ref a] [.ref a] _ _ hr e0 (y s₁ (.ref a)) (.cons U .nil) (Z H hO hS)) λr i h=>?_;cases r with
  | error e=>exact(hCX H e i h).elim
  | ok fl =>
    cases fl with
    | next=>exact False.elim h
    | brk=>exact False.elim h
    | cont=>exact False.elim h
    | ret u =>
      revert h;refine Qa λv H' os C un E r' q=>?_;have q':=q;subst q';obtain rfl:u=Value.bool true:=r';refine GC U (OldK.of_keep λb o e=>?_) os C;cases q:H b with
      | none=>exact un.keep b o e q (by intro z;exact absurd (show b∈([]:ϖ)from z) (by simp)) (by simp)
      | some u =>
        rcases hO b with z|⟨ob,xs,z⟩
        .rw[q]at z;cases z
        .obtain⟨e1,_⟩:=J b _ z;obtain⟨e2,_⟩:=E b _ (un.Ŋ b ob _ z);rw[e]at e1;cases e1
         exact e2
 cases T:K.lookup a with
 | some o =>
   have e:=KX a o T;rw[R]at e
   cases e;refine p (λ_=>none) (λ_=>.inl U) (.inr ⟨_,vs.toArray,_,T,U,U,U,by rw[B5,hi.length];exact hl,by simpa using rv⟩) (λb u z=>by have S:(none:Ϩ HO)=some u:=z;cases S) (λb z=>absurd U z) λz=>absurd U z
 | none =>
   refine p (λb=>if b=a then some (.frz { cls:=.type "list",data:=.seq vs.toArray } (.lst (ns.map V.int)))else none) (λb=>?_) (.inl (.inr ⟨{ cls:=.type "list",data:=.seq vs.toArray },B1 U⟩)) (λb u z=>?_) (λb z=>?_) λ_=>T
   .grind
   .by_cases B:b=a
    .have S:=(B1 B).symm.trans z;cases S;subst B;exact⟨R,by rw[A3];exact hl,vs,_,rv,R⟩
    lia
   lia
def lP{l:PySem.W.OpenLaw}{n k}{q}{i}{Q}{YP}{d}{K:Params->ϡ}{CX:Ϣ->Ou}{sp:Ϣ->Sp}{x}
 (Z:l.most=some n) (E:n<=sizeLine) (C:d.params.defaults=[]) (X:CK k callerA)
 (S:∀(w) (h),YP w h->(K w.params).In h)
 (F:∀(w) (mg) (y) (h),(K w.params).In h->h.Ns mainGlobals mg->mg d.name=some (.ref y) ->
   ∃B:FuncData,(∀(s) (u),BindsTo s B ⟨[u],[]⟩ [(x,u)]) /\
    ∀base:Ϥ,(K w.params).In base->base.Ns mainGlobals mg->CF l.prog w (K w.params) mg base (CX w) k y B [x] (sp w))
 (J:∀(w) (H) (a) (ns:ϓ),ns.length<=n->Pm H->AC (K w.params) H a (ns.map V.int)->sp w [.ref a] H (λv _=>v=.bl true) λ_ _ _=>False)
 (hCX:∀(w) (H) (s) (e) (z),CX w [] H s (λ_ _ _=>False) e z->False) :
 PySem.W.WalkO q i Q YP l.row.toRowW d [] (λf vs=>PySem.call f vs):=by
 refine Att.lN Z C λw Ã r mg mb y o pm cd doc a vs ns G Y ho hd aa I p j c P=>?_;have L:=S w _ Y;refine AS (λB O R=>?_) (F w mg y _ L G.T.g I);exact lO L G.T.g G.T.b G.T.builtins G.T.nolimit P p j (Aw c E) X R O (λH hO hS=>J w H a ns c hO hS) λH e z=>hCX w H r e z
def O7{l:PySem.W.OpenLaw}{n k}{q}{c}{C}{YP}{d}{K:Params->ϡ}{CX}{sp:ϡ->Sp}{x}
 (J:l.most=some n) (o:n<=sizeLine) (j:d.params.defaults=[]) (G:CK k callerA)
 (E:∀(w) (h),YP w h->(K w.params).In h)
 (F:∀(w) (mg) (y) (h),(K w.params).In h->h.Ns mainGlobals mg->mg d.name=some (.ref y) ->
   ∃r:FuncData,(∀(s) (u),BindsTo s r ⟨[u],[]⟩ [(x,u)]) /\
    ∀base:Ϥ,(K w.params).In base->base.Ns mainGlobals mg->CF l.prog w (K w.params) mg base CX k y r [x] (sp (K w.params)))
 (p:∀(K) (H) (a) (ns:ϓ),ns.length<=n->Pm H->AC K H a (ns.map V.int)->sp K [.ref a] H (λv _=>v=.bl true) λ_ _ _=>False)
 (hCX:∀(H) (s) (e) (i),CX [] H s (λ_ _ _=>False) e i->False) :
 PySem.W.WalkO q c C YP l.row.toRowW d [] (λf vs=>PySem.call f vs) :=
 lP (K:=K) (CX:=λ_=>CX) (sp:=λw=>sp (K w.params)) J o j G E F (λw H a ns B z I=>p (K w.params) H a ns B z I) λ_ H s e i=>hCX H s e i
abbrev IW:Ou:=λ_ _ _ _ _ _=>False
abbrev E0:XK:=λ_ _ _=>False
def SY:SN IW X E0:=λ_ _ _ _ _ _ _ h=>h.elim
structure Po(K:ϡ)(x qual:ϥ)(st:ϧ)(f:Ϡ)(fd:FuncData):Prop where
 ex:∃(oc:Ϟ) (od:ϒ) (kV doc pm:Ϟ) (an:ϒ) (cdv ct:Ϟ) (osl:Array ϐ),
  fd=PySem.W.fnOf x qual (BU st) (JQ st) (AN st) .none kV doc pm an cdv ct/\K.lookup f=some ⟨oc,od,.func fd,osl⟩/\PySem.W.codeIn K cdv qual=true
 kp:PySem.W.keepIn K (.ref f)=true
section
variable {P:ϣ}{w:Ϣ}{K:ϡ}{mg:ϋ}{base:Ϥ}
def Po.ok{x qual}{st}{f}{j}{N ps}{k}{sp}(F:Po K x qual st f j)(S:EF N ps (AN st))(len:∀vs H Q E,sp vs H Q E->vs.length=ps.length)
 (c:∀(a) (A) (outer) (s) (H) (vs) (Q) (E),CK k (A.deeper (envOfC qual (AN st) s.heap.objs.size f a))->sp vs H Q E ->
   ∃t,IT (HC IW P w K mg base N qual (AN st) f a A outer s H E).nox (JQ st) t/\t { nx:=λ_ r=>Q .non r,rt:=Q } (start N vs) H):CF P w K mg base IW (k+1) f j ps sp:=by
 refine Sl F.ex λy B kV doc pm=>HX λz a ct v=>ED λd o i=>?_;subst d;refine WG o i S len λA outer s H vs Q E p e=>?_;refine AS (λt h q=>?_) (c a A outer s H vs Q E p e);exact AU t h.nox q
end
def UG(a:CK k A):A.units+1<cLine:=Fw (Nat.add_le_add_left (by decide:1<=64) _) a.units
section
variable {X:Cx}
def pv(i)(hN:X.N[i]?=some x:=by rfl)(d:Sy X.env.scope x:=by first|exact Or.inl U|exact Or.inr NM|exact Or.inr W1)(hd:(x==("__debug__":ϥ))=false:=by lk)(a:(x==("__classdict__":ϥ))=false:=by lk):PE X (.Name x c) (P5 i):=jP hN d hd a
end
def AK{A B:Prop}(h:B):if false=true then A else B:=by rw[Av Bg];exact h
def BB{A B:Prop}(h:A):if true=true then A else B:=by rw[B1 U];exact h
def CG{c A B:Prop}[Decidable c](d:c->A)(a:¬c->B):if c then A else B:=by lia
def AA(H a:Hp):Prop:=∀b o,H b=some o->a b=some o
def AA.refl(H):AA H H:=λ_ _ h=>h
def AA.trans{H e d}(a:AA H e)(b:AA e d):AA H d:=λc o h=>b c o (a c o h)
theorem AA.free{H H'}(e:AA H H'){l}(h:H' l=Option.none):H l=Option.none:=by cases q:H l with|none=>rfl|some o =>rw[e l o q]at h;cases h
def AA.seq{K}{H c}{a}{xs}(e:AA H c)(h:AC K H a xs):AC K c a xs:=by rcases h with(h|⟨o,h⟩)|h;exact .inl (.inl (e _ _ h));exact .inl (.inr ⟨o,e _ _ h⟩);exact .inr h
end L2
set_option maxHeartbeats 4000000
namespace L2
open PySem PySem.Spec PyProof.Rows
structure D(K:ϡ)(mg:ϋ)(x:ϥ)(st:ϧ)(ps:ώ)(f:Ϡ)(fd:FuncData):Prop where
 fn:Po K x x st f fd
 ba:∀us:Ϗ,us.length=ps.length->bindArgs fd ⟨us,[]⟩=pure (ps.zip us)
 mg:mg x=some (.ref f)
section
variable {X:Cx}{k j:Nat}{f:Ϡ}{fd:FuncData}{ps:ώ}{sp:Sp}{x:ϥ}{st:ϧ}{p pos:Pos}{e:Ϧ}{es:ϗ}{t:TA}
def BG(d:D X.K X.mg x st ps f fd)(F:CF X.prog X.w X.K X.mg X.base IW j f fd ps sp)(i:CK k X.A)(o:Gl X x)(c:PA X (e::es) t)(hjk:j<=k:=by lk)(a:(x==("__debug__":ϥ))=false:=by lk)
 (he:starEach (e::es) X.env=(false,eval e X.env)::starEach es X.env:=by rfl) (hpl:(backTo pos (starEach es X.env)).any (·.1)=false:=by rfl) :
 PE X (.Call (.Name x p) (e::es) [] pos) (Zw sp [] E0 t) :=
 kS (F.mono hjk) i o d.mg d.fn.kp (.all d.ba) .nil SY c a he hpl
end
def QP:bootBuiltins "len"=some (.builtin "len"):=PySem.boot_len
def WN:bootBuiltins "sum"=some (.builtin "sum"):=by room
def UH:bootBuiltins "all"=some (.builtin "all"):=by room
def Pp:bootBuiltins "int"=some (.type "int"):=by room
def JS:bootBuiltins "str"=some (.type "str"):=by room
def UI:bootBuiltins "list"=some (.type "list"):=by room
def Nx:decide (V.int i=V.int j)=decide (i=j):=by lia
def BM(h:H p=none)(o):AA H (upd H p o):=λb u q=>by rw[BJ (DR q h)];exact q
def DF(s:AA H a)(h:H p=none):AA H (upd a p o):=λb u q=>by rw[BJ (DR q h)];exact s b u q
def EY(s:AA H H1)(h:H1 p=none):AA H (upd H1 p o):=DF s (s.free h)
def lQ{zs:ϓ}{i:Int}(e:0<=i)(d:i<(zs.length:Int)):∃z,z∈zs/\DP (zs.map V.int) i=some (.int z):=by
 have a:i.toNat<zs.length:=by lia
 have c:i=((i.toNat:Nat):Int):=by lia
 refine AU (zs[i.toNat]) (Dn a) ?_;have q:DP (zs.map V.int) ((i.toNat:Nat):Int)=some (.int zs[i.toNat]):=FR (by rw[An,A6 a]<;>rfl);rw[<-c]at q
 exact q
def lR{zs:ϓ}{i}(e:0<=i)(d:i<(zs.length:Int)):DP (zs.map V.int) i=some (.int (zs.getD i.toNat 0)):=by
 have a:i.toNat<zs.length:=by lia
 have c:i=((i.toNat:Nat):Int):=by lia
 have q:DP (zs.map V.int) ((i.toNat:Nat):Int)=some (.int zs[i.toNat]):=FR (by rw[An,A6 a]<;>rfl);rw[<-c]at q
 rw[q,Bf,A6 a]<;>rfl
def Ox{zs:ϓ}{i:Nat}{y}(h:(zs.map V.int)[i]?=some y):∃z,y=.int z/\zs[i]?=some z:=by rw[An]at h;cases e:zs[i]? with|none=>rw[e]at h;cases h|some z=>rw[e]at h;exact⟨z,(B0 h).symm,U⟩
def lS(zs:ϓ)(n:Nat):DV (zs.map V.int) none (some (n:Int))=(zs.take n).map V.int:=by unfold DV;rw[HT.ZD,HT.QK,Kd,A3,Jx,<-Gf];congr 1;by_cases h:n<=zs.length;rw[E9 h];rw[Nat.min_eq_right (by lia),Ai (A9 _),Ai (by lia)]
def DG(h:n<=100000):n<=sizeLine:=Aw h (by lk)
def KY(h:n<=100000):n<sizeLine:=Fw h (by lk)
def WO(t:TS):TS:=λD d H=>∃M:St->Hp->Prop,t { D with nx:=M } d H/\∀a c,M a c->D.nx a c
def Ny{X}{st}{t}(h:PS X st t):PS X st (WO t):=by rintro a s k H D I ⟨M,i,e⟩;refine BH (h a s k H _ I i) λf o q=>?_;cases f with|next=>(obtain⟨c,d,j,m⟩:=q;exact⟨c,d,j,e c d m⟩)|ret v=>exact q|brk=>exact q|cont=>exact q
section
variable {X:Cx}{pins:ύ}{σ:St}{H:Hp}{s:ϟ}{h':Ϥ}
def AG.Ŝ{t'}{ch:ϖ}{l}{o}(I:AG X pins σ H s)(k:∀b u,b∉ch->s.heap.get? b=some u->h'.get? b=some u)(j:∀b∈ch,EB X pins H b)
 (y:s.heap.objs.size<=l) (new:KF X.prog X.w (upd H l o) h' l o):AG X pins σ (upd H l o) { s with heap:=h',toks:=t' }:=by
 have d:=I.Ê.fresh y;have E:∀b u,H b=some u->b∉ch:=λb u e z=>by rw[(j b z).1]at e;cases e
 refine I.step (g':=s.gens) (d':=s.drawn) (ch:=ch) (λb i=>?_) (λb u _ _ a e _=>k b u a e) (λb u _ _ a e _=>⟨u.slots,k b u a e⟩)
  (λb u _ e n=>?_) (λb u a e=>⟨u,k b u a e⟩) (λb B e=>?_) (λb u B e=>?_) (λb T e=>⟨#[],?_⟩) (λm O=>?_) (λb u e=>?_) I.bare
 .refine FZ (λS C W R Q J=>?_) (j b i);exact GC R C Q J
 .rw[BJ (Bn (Bs (As e) y))];exact n
 .rw[BJ (DR e d)];exact e
 .rw[BJ (DR e d)];exact e
 .rw[BJ (DR e d),e];simp
 .revert O;refine Oq λp L P G r=>?_;exact JH p L P (LG (k _ p (λz=>(j _ z).2.1 U) G) r)
 .by_cases i:b=l
  .simp_all[AM,new]
  .rw[BJ i]at e
   refine(I.Ê b u e).Ũ (λc v a q=>k c v ?_ q) (λc q=>by rw[BJ (DR q d)];exact q) λc B q=>by rw[BJ (DR q d)];exact q
   grind
end
def RJ(K:ϡ)(a:Ϡ):It :=⟨λi H=>∃c x,AC K H a c/\c[i]?=some x,λi H v d=>∃t x,v=.ref t/\H t=none/\(∀c,AC K H a c->c[i]?=some x)/\d=upd H t (.tup [.int i,x]),λi H=>∃c,AC K H a c/\c.length<=i⟩
def lT{P:ϣ}{w:Ϣ}{K:ϡ}{es:ϗ}{k1:Nat}{tp:Pos}(a e y:Ϡ)(O:e≠y) :
 LS P w K (.Tuple es k1 tp) (RJ K a) [e,y] e (λi h=>(∃j,IsEnum h e y (i:Nat) j)/\h.IsListIter y a i) where
 mem:=by simp
 obj:=λi h st b B=>by
  obtain⟨⟨j,J⟩,o,e2,c,d⟩:=st;have z:b=e\/b=y:=by simpa using B
  rcases z with rfl|rfl
  .refine AU _ J (λv z=>?_);have z':Data.fields _=Data.cell v:=z;cases z'
  .exact AU o e2 (λv z=>by rw[d]at z;cases z)
 keep:=λi h h' st k=>⟨let ⟨j,J⟩:=st.1;⟨j,k e (by simp) _ J⟩,st.2.at λo e=>k y (by simp) o e⟩
 item:=by
  intro X hP hw hK hc i G s σ H E I S st hg;subst hP hw hK;revert hg;refine EX λxs x Y hx=>?_;refine DN (λag rv p hz=>?_) (I.list Y);refine AS (λu hu ru=>?_) (rv.get hx);obtain⟨⟨j,T⟩,C⟩:=st;have Q:=As T;refine wpAny_pyNext_enum_item T C p.isList (x:=u) (by simpa using hu) O λZ aa R ac ai af=>⟨_,U,wpAny_letOwnedTupleGo_enum aa λL ah r=>?_⟩
  replace r:Heap.SameBut e Z L:=r
  have ae:L.get? s.heap.objs.size=some { cls:=.type "tuple",data:=.seq #[.int i s.toks,u] }:=(r.2 _ (E4 Q)).trans ac;have kk:∀b o,b∉[e,y]->s.heap.get? b=some o->L.get? b=some o:=λb o B q=>by
   have Z:b≠e:=λz=>B (by simp[z])
   have L:b≠y:=λz=>B (by simp[z])
   exact(r.2 b Z).trans (af b o Z L q)
  have hn:=I.Ê.fresh (A9 _);have I2:AG X G σ (upd H s.heap.objs.size (.tup [.int i,x])) { s with heap:=L,toks:=s.toks+1 } :=
   I.Ŝ kk S (A9 _) ⟨C5 U,[.int i s.toks,u],.cons ⟨_,U⟩ (.cons ru .nil),⟨_,ae,U,0,U⟩⟩
  refine MY (.ref s.heap.objs.size) _ I2 U ⟨_,x,U,hn,λys hy=>by rw[I.Ĩ hy Y];exact hx,U⟩ ⟨⟨u,?_⟩,R.extBut r.extBut (Cr O)⟩ (λb B=>?_)
  .have J:((i+1:Nat):Int)=(i:Int)+1:=by lia
   rw[J];exact ah
  .rw[BJ]
   .exact(S b B).1
   .have z:b=e\/b=y:=by simpa using B
    revert C;refine AS λoi ab _=>?_;rcases z with rfl|rfl
    .exact Bn Q
    .exact Bn (As ab)
 done:=by
  intro X hP hw hK hc i G s σ H E I S st hg;subst hP hw hK;revert hg;refine AS λxs Y hx=>?_;refine DN (λag rv p hz=>?_) (I.list Y);refine FZ (λf0 f1 f2 f3 f4 f5=>?_) (S y (by simp));obtain⟨⟨j,T⟩,C⟩:=st;have hl:=rv.length;exact wpAny_pyNext_enum_end (I.ok.hd hc) T C p.isList (by simp;lia) λh' eb=>⟨U,I.turned (t':=s.toks) (λb o B e=>eb b o B e) f0 f1 f3 f4 f5⟩
 self:=λ_ _ _ _ _ st h=>let ⟨⟨_,J⟩,_⟩:=st;wpAny_pyIter_enum J h
def lU:bootBuiltins "enumerate"=some (.type "enumerate"):=by room
section
variable {X:Cx}{es:ϗ}{k1:Nat}{tp:Pos}
def ZS(K:ϡ)(i:TA):TI:=λj H R=>i j H λd c=>∃a,d=[.ref a]/\(∃e,AC K c a e)/\R (RJ K a) c
def lV{a}{o}{p i}(B:Gl X "enumerate")(T:X.mg "enumerate"=none)(Y:PA X [a] o)(Q:starEach [a] X.env=(false,eval a X.env)::starEach [] X.env:=by rfl) :
 PI X (.Tuple es k1 tp) (.Call (.Name "enumerate" p) [a] [] i) (ZS X.K o):=by
 intro e s S H R I h;refine Ca (Os I B T lU (C8 (BH (Y i e s S H _ I h) λus c ⟨vs,O,j,v,J⟩=>?_) Q (by rfl)));obtain⟨l,rfl,⟨xs,E⟩,q⟩:=J;obtain⟨u,rfl,W⟩:=LW v;cases W;obtain⟨G,rv,P,hz⟩:=j.list E;refine call_enumerate_list P.isList λZ r k L C=>wpAny_pyIter_enum r ⟨c.heap.objs.size+1,[c.heap.objs.size+1,c.heap.objs.size],_,_,O,U,j.kept (t':=c.toks) C,lT l _ c.heap.objs.size (Nat.succ_ne_self _),⟨⟨.none,r⟩,k⟩,λb y=>?_,q⟩
 have z:b=c.heap.objs.size+1\/b=c.heap.objs.size:=by simpa using y
 have d:c.heap.objs.size<=b:=by rcases z with rfl|rfl<;>lia
 exact j.ŷ d (j.Ê.fresh d)
end
def SZ{K}{a}{xs}{g:TG}{tb:TS}{D:GP}{c}{H}(Pv:Nat->St->Hp->Prop)(E:Pv 0 c H)(G:∀i c H,i<=xs.length->Pv i c H->AC K H a xs)
 (I:∀i x t c H,xs[i]?=some x->Pv i c H->H t=none->g (.ref t) c (upd H t (.tup [.int i,x])) λj B=>tb { D with nx:=Pv (i+1),ct:=Pv (i+1),bk:=D.nx } j B) (hd:∀c H,Pv xs.length c H->D.nx c H) :
 ∃W:Nat->Nat->St->Hp->Prop,(∃m,W 0 m c H)/\∀i m c H,W i m c H ->
  ((RJ K a).stop i H/\D.nx c H)\/((RJ K a).go i H/\∃N:St->Hp->Prop,(∀d k,N d k->∃C,C<m/\W (i+1) C d k)/\∀x k,(RJ K a).yld i H x k->g x c k λj B=>tb { D with nx:=N,ct:=N,bk:=D.nx } j B):=by
 refine AU (λi m c H=>m=xs.length-i/\i<=xs.length/\Pv i c H) ⟨xs.length,by simp,B8 _,E⟩ ?_;refine λi m c H=>ED λs J p=>?_;subst s;have q:=G i c H J p;by_cases o:i<xs.length
 .refine .inr ⟨⟨xs,xs[i],q,by simp[o]⟩,Pv (i+1),λd k P=>⟨xs.length-(i+1),by lia,U,o,P⟩,λv k y=>?_⟩;revert y;refine IK λt x r L O z=>?_;subst r;subst z;exact I i x t c _ (O xs q) p L
 .have e:i=xs.length:=by lia
  subst e;exact .inl ⟨⟨xs,q,A9 _⟩,hd c H p⟩
mutual
inductive JT (K:ϡ) (H:Hp):V->PyData->Prop
 | non:JT K H .non .none
 | bl (b:Bool):JT K H (.bl b) (.bool b)
 | int (i:Int):JT K H (.int i) (.int i)
 | str (x:ϥ):PyData.canLay0 (.str x)=true->JT K H (.str x) (.str x)
 | lst {a xs ds}:AC K H a xs->HZ K H xs ds->JT K H (.ref a) (.list ds)
 | tup {a xs ds}:BP K H a xs->HZ K H xs ds->JT K H (.ref a) (.tuple ds)
inductive HZ (K:ϡ) (H:Hp):ϩ V->ϩ PyData->Prop
 | nil:HZ K H [] []
 | cons {x xs d ds}:JT K H x d->HZ K H xs ds->HZ K H (x::xs) (d::ds)
end
section
variable {X:Cx}{pins:ύ}{σ:St}{H:Hp}{s:ϟ}
mutual
theorem T1(I:AG X pins σ H s):∀(d) (v) (u),JT X.K H v d->BE v u->∃as,Reads s.heap u d as
 |.none,v,u,h,r=>by cases h;cases r;exact⟨_,.none⟩|.bool b,v,u,h,r=>by cases h;cases r;exact⟨_,.bool b⟩
 |.int i,v,u,h,r=>by cases h;obtain⟨t,rfl⟩:=r;exact⟨_,.int i t⟩
 |.str x,v,u,h,r=>by cases h;obtain⟨t,rfl⟩:=r;exact⟨_,.str x t⟩
 |.list k,v,u,h,r=>by cases h with|lst a y =>cases r;obtain⟨j,p,⟨o,n,e,c,_,d⟩,_⟩:=I.list a;obtain⟨as,q⟩:=WQ I k _ _ y p;exact⟨_,.list e c d (by simpa using q)⟩
 |.tuple k,v,u,h,r=>by cases h with|tup a y =>cases r;obtain⟨j,p,⟨o,e,c,n,d⟩,_⟩:=I.tuple a;obtain⟨as,q⟩:=WQ I k _ _ y p;exact⟨_,.tuple e c d (by simpa using q)⟩
 |.dict _,v,u,h,r=>by cases h
theorem WQ(I:AG X pins σ H s):∀(a:ϩ PyData) (xs:ϩ V) (us:Ϗ),HZ X.K H xs a->AV xs us->∃as,ReadsAll s.heap us a as|[],xs,us,h,r=>by cases h;cases r;exact⟨_,.nil⟩|d::a,xs,us,h,r=>by cases h with|cons j e =>cases r with|cons k c =>obtain⟨p,i⟩:=T1 I d _ _ j k;obtain⟨v,o⟩:=WQ I a _ _ e c;exact⟨_,.cons i o⟩
end
mutual
theorem RK{K:ϡ}:∀(d) (v),JT K H v d->d.canLay0=true
 |.none,v,h=>rfl|.bool b,v,h=>rfl
 |.int i,v,h=>rfl|.str x,v,h=>by cases h with|str _ q=>exact q
 |.list a,v,h=>by cases h with|lst _ q=>exact WR a _ q
 |.tuple a,v,h=>by cases h with|tup _ q=>exact WR a _ q
 |.dict _,v,h=>by cases h
theorem WR{K}:∀(a) (xs),HZ K H xs a->PyData.canLayAll0 a=true|[],xs,h=>rfl|d::a,xs,h=>by cases h with|cons e c =>show(PyData.canLay0 d&&PyData.canLayAll0 a)=true;rw[RK d _ e,WR a _ c];rfl
end
def Nz(K:ϡ)(a:Bool):R2:=λx y H Q=>∃d e,JT K H x d/\JT K H y e/\min d.depth e.depth<=64/\Q (.bl (if a then !PyData.eqv d e else PyData.eqv d e)) H
def lW(z:X.A.units+64<cLine):FG X (compareOp .Eq) (Nz X.K false):=by intro a s B H x y v u Q I o p h;obtain⟨d,e,hd,c,r,q⟩:=h;obtain⟨i,j⟩:=T1 I d _ _ hd o;obtain⟨bs,k⟩:=T1 I e _ _ c p;exact PySem.SeqAt.eqOverData X.prog X.w X.A X.xe s v u d e i bs _ j k (RK d _ hd) (RK e _ c) (by lia) ⟨.bl _,H,I,U,q⟩
def lX(z:X.A.units+64<cLine):FG X (compareOp .NotEq) (Nz X.K true):=by intro a s B H x y v u Q I o p h;obtain⟨d,e,hd,c,r,q⟩:=h;obtain⟨i,j⟩:=T1 I d _ _ hd o;obtain⟨bs,k⟩:=T1 I e _ _ c p;exact PySem.SeqAt.neOverData X.prog X.w X.A X.xe s v u d e i bs _ j k (RK d _ hd) (RK e _ c) (by lia) ⟨.bl _,H,I,U,q⟩
end
mutual
def nb:PyData->Bool
 |.none|.int _|.str _=>true|.bool _|.dict _=>false
 |.list a|.tuple a=>Oy a
def Oy:ϩ PyData->Bool|[]=>true|x::xs=>nb x&&Oy xs
end
mutual
theorem WS:∀(d e:PyData),nb d=true->nb e=true->(PyData.eqv d e=true↔d=e)
 |.none,e,_,h=>by cases e<;>first|(simp[PyData.eqv];done)|cases h
 |.int i,e,_,h=>by cases e<;>first|(simp[PyData.eqv];done)|cases h
 |.str i,e,_,h=>by cases e<;>first|(simp[PyData.eqv];done)|cases h
 |.bool _,_,h,_=>by cases h|.dict _,_,h,_=>by cases h
 |.list c,e,j,h=>by cases e with|list a =>have q:=WT c a j h;show PyData.eqvAll c a=true↔_;rw[q];exact⟨λz=>by rw[z],λz=>PyData.list.inj z⟩|none=>simp[PyData.eqv]|int _=>simp[PyData.eqv]|str _=>simp[PyData.eqv]|tuple _=>simp[PyData.eqv]|bool _=>cases h|dict _=>cases h
 |.tuple c,e,j,h=>by cases e with|tuple a =>have q:=WT c a j h;show PyData.eqvAll c a=true↔_;rw[q];exact⟨λz=>by rw[z],λz=>PyData.tuple.inj z⟩|none=>simp[PyData.eqv]|int _=>simp[PyData.eqv]|str _=>simp[PyData.eqv]|list _=>simp[PyData.eqv]|bool _=>cases h|dict _=>cases h
theorem WT:∀(xs ys:ϩ PyData),Oy xs=true->Oy ys=true->(PyData.eqvAll xs ys=true↔xs=ys)
 |[],[],_,_=>by simp[PyData.eqvAll]|[],_::_,_,_=>by simp[PyData.eqvAll]
 |_::_,[],_,_=>by simp[PyData.eqvAll]|x::xs,y::ys,e,c=>by have a:nb x=true/\Oy xs=true:=(by have:(nb x&&Oy xs)=true:=e;simpa using this);have b:nb y=true/\Oy ys=true:=(by have:(nb y&&Oy ys)=true:=c;simpa using this);have d:=WS x y a.1 b.1;have i:=WT xs ys a.2 b.2;show(PyData.eqv x y&&PyData.eqvAll xs ys)=true↔_;rw[Ar,d,i];simp
end
def eqv_refl(h:nb d=true):PyData.eqv d d=true:=(WS d d h h).mpr U
def lY(h:nb d=true)(h':nb e=true)(n:d≠e):PyData.eqv d e=false:=by cases q:PyData.eqv d e with|false=>rfl|true=>exact absurd ((WS d e h h').mp q) n
abbrev Pq(zs:ϓ):PyData:=.list (zs.map .int)
theorem UJ:∀zs:ϓ,Oy (zs.map .int)=true|[]=>rfl|z::zs=>by show(nb (.int z)&&Oy (zs.map .int))=true;rw[UJ zs];rfl
theorem ZT:∀zs:ϓ,PyData.depthAll (zs.map .int)=0|[]=>rfl|z::zs=>by show max (PyData.depth (.int z)) (PyData.depthAll (zs.map .int))=0;rw[ZT zs];rfl
theorem WU{K:ϡ}{H:Hp}:∀zs:ϓ,HZ K H (zs.map V.int) (zs.map .int)|[]=>.nil|z::zs=>.cons (.int z) (WU zs)
def ZU{K:ϡ}{H:Hp}{a:Ϡ}{zs:ϓ}(h:AC K H a (zs.map V.int)):JT K H (.ref a) (Pq zs):=.lst h (WU zs)
def lZ(zs:ϓ)(e:PyData):min (Pq zs).depth e.depth<=64:=by
 have q:(Pq zs).depth=1:=by show PyData.depthAll (zs.map .int)+1=1;rw[ZT]
 lia
def ma(h:Pq xs=Pq ys):xs=ys:=by have q:=PyData.list.inj h;exact(List.map_inj_right (f:=PyData.int) (λa b z=>PyData.int.inj z)).mp q
def ml(xs ys:ϓ):PyData.eqv (Pq xs) (Pq ys)=decide (xs=ys):=by by_cases h:xs=ys;subst h;rw[Ab U];exact eqv_refl (UJ xs);rw[Aj h];exact lY (UJ xs) (UJ ys) λz=>h (ma z)
end L2
namespace L2
open PySem PySem.Spec PyProof.Rows
section
variable {prog:ϣ}{w:Ϣ}{A:Around}{R:ϛ}{s:ϟ}
theorem mr (I:Nat->ϟ->Prop) (j:∀n s,I n s->wpAny (model prog w) A (pyNext z) (λr o=>match r with
 | none=>R (.ok .next) o
 | some v=>wpAny (model prog w) A (letOwnedTupleGo target z v) (λ_ d=>wpAny (model prog w) A (assign target env v) (λ_ E =>
    wpAny (model prog w) A (forIn k true λc r=>if r=true then do let ok <- isTrue c env (eval c env);pure (ForInStep.yield ok)else pure (ForInStep.yield r)) (λok B =>
     if ok=true then wpAny (model prog w) A (eval e env) (λx C =>
      wpAny (model prog w) A (call (.builtin "list.append") [i,x]) (λ_ J=>∃m,m<n/\I m J) (λ_ _=>False) C) (λ_ _=>False) B
     else ∃m,m<n/\I m B) (λ_ _=>False) E) (λ_ _=>False) d) (λ_ _=>False) o) (λ_ _=>False) s) (n) (h:I n s) :
 codeAny (model prog w) A (.compLoop (.ListComp e [⟨target,iter,k,0⟩] scope y) 0 z i env) R s:=by
 refine codeAny_loop U I (λn s Q=>?_) n h;show wpAny _ A ((compTurn (.ListComp e [⟨target,iter,k,0⟩] scope y) 0 z i env).onRaise (λx=>do noteFrame x env;theTreesLotGoes x)) _ _ s;refine wpAny_noted ?_;rw[compTurn_list];refine A5 (Ds (A5 (Co (j n s Q) (λr o G=>?_) λ_ _ a=>False.elim a)));cases r with
 | none=>exact Ak G
 | some v =>
   refine A5 (Co G (λ_ d p=>A5 (Co p (λ_ E L=>A5 (Co L (λok B H=>?_) λ_ _ a=>False.elim a)) λ_ _ a=>False.elim a)) λ_ _ a=>False.elim a);cases ok with
   | false=>exact Ak ⟨U,H⟩
   | true =>
     exact A5 (A5 (Co H (λx C O=>A5 (Co O (λ_ J P=>Ak (Ak ⟨U,P⟩)) λ_ _ a=>False.elim a)) λ_ _ a=>False.elim a))
end
noncomputable def LZ (env:Env):ϩ (ϥ×NameKind)->ϙ->ϙ|[],a=>a|(n,k)::r,a=>if (k==.free)=true then LZ env r ((n,(env.cells.lookup n).getD 0)::a)else LZ env r a
theorem WV(P:ϥ->ϝ):∀(names) (a),(∀x∈names,x.2=.free->∃c,env.cells.lookup x.1=some c)->(∀n c,(n,c)∈a->P n c) ->(∀n c,env.cells.lookup n=some c->P n c)->∀n c,(n,c)∈LZ env names a->P n c|[],a,_,d,_,n,c,h=>d n c h|(m,k)::r,a,o,d,j,n,c,h=>by unfold LZ at h;split at h;(.rename_i z;refine WV P r _ (λx p=>o x (Ac _ p)) (λv y i=>?_) j n c h;rcases Al.mp i with e|i;obtain⟨B,s⟩:=o (m,k) Aa (eq_of_beq z);injection e with e1 e2;subst e1 e2;rw[s];exact j _ _ s;exact d v y i);exact WV P r a (λx p=>o x (Ac _ p)) d j n c h
theorem WW:∀(names) (a) (x),x∈a->x∈LZ env names a|[],_,_,h=>h|(m,k)::r,a,x,h=>by unfold LZ;split;exact WW r _ x (Ac _ h);exact WW r _ x h
theorem WX:∀(names) (a) (x),(x,NameKind.free)∈names->∃c,(x,c)∈LZ env names a|[],_,_,h=>nomatch h|(m,k)::r,a,x,h=>by unfold LZ;rcases Al.mp h with e|h;injection e with e1 e2;subst e1 e2;rw[B1 (by lk)];exact⟨_,WW r _ _ Aa⟩;split;exact WX r _ x h;exact WX r _ x h
def mu(i:∀x∈scope.names,x.2=.free->∃c,env.cells.lookup x.1=some c):closureFor scope env=pure (LZ env scope.names []):=by
 have v:∀(names:ϩ (ϥ×NameKind)) (d:ϙ),(∀x∈names,x.2=.free->∃c,env.cells.lookup x.1=some c) ->(forIn names d λ(x:ϥ×NameKind) (r:ϙ)=>(match x with
    | (name,kind)=>if (kind==NameKind.free)=true then do
        let a <- cellOf env name
        pure (ForInStep.yield ((name,a)::r))
     else pure (ForInStep.yield r):Sem (ForInStep ϙ)))=pure (LZ env names d):=by
  intro names;induction names with
  | nil=>intro d _;rw[F5];rfl
  | cons x r p =>
    intro d i;obtain⟨n,k⟩:=x;rw[Fu];unfold LZ;by_cases j:(k==NameKind.free)=true
    .obtain⟨c,e⟩:=i (n,k) Aa (eq_of_beq j);simp only[j,Iw];have s:cellOf env n=pure c:=by unfold cellOf;rw[e]
     rw[s,e];simp only[pure_bind,Option.getD_some];exact p _ λx o=>i x (Ac _ o)
    .simp only[j,G2];exact p _ λx o=>i x (Ac _ o)
 simp only[closureFor];grind
theorem RL:∀(names) (n) (a),cellsFrom n names a=cellsFrom n names []++a|[],_,_=>rfl|(m,k)::r,n,a=>by unfold cellsFrom;split;rw[RL r (n+1) ((m,n)::a),RL r (n+1) [(m,n)],B4];rfl;exact RL r n a
theorem WY:∀(names) (n) (a) (x),x∈cellsFrom n names a->(x.1,NameKind.cell)∈names\/x∈a|[],_,_,_,h=>.inr h|(m,k)::r,n,a,x,h=>by unfold cellsFrom at h;split at h;(.rename_i c;rcases WY r _ _ x h with q|q;exact .inl (Ac _ q);rcases Al.mp q with e|q;rw[e,eq_of_beq c];exact .inl Aa;exact .inr q);rcases WY r _ _ x h with q|q;exact .inl (Ac _ q);exact .inr q
theorem UK{a:Type}(x):∀(l r:ϩ (ϥ×a)),(l++r).lookup x=(l.lookup x).or (r.lookup x)|[],r=>by simp|(k,v)::l,r=>by rw[Ga,Fe,Fe];cases c:x==k with|true=>rfl|false=>exact UK x l r
theorem ZV{i:Type}:∀{l:ϩ (ϥ×i)}{c},(x,c)∈l->∃d,l.lookup x=some d|(k,v)::l,c,h=>by rw[Fe];cases a:x==k with|true=>exact⟨v,U⟩|false =>rcases Al.mp h with e|h;injection e with e1 e2;subst e1;rw[Jl]at a;cases a;exact ZV h
theorem UL(h:(relabel scope env).names.lookup x=some k):∃k0,scope.names.lookup x=some k0/\(k=k0\/(k=.cell/\k0=.free)):=by
 have j:∀names:ϩ (ϥ×NameKind),(names.map λ(n,k)=>if (k==NameKind.free&&env.scope.kind==.function&&env.kindOf n==some .cell)then(n,NameKind.cell)else(n,k)).lookup x=some k ->∃k0,names.lookup x=some k0/\(k=k0\/(k=.cell/\k0=.free)):=by
  intro names;induction names with
  | nil=>intro h;cases h
  | cons y r i =>
    obtain⟨n,a⟩:=y;intro h
    replace h:List.lookup x ((if (a==NameKind.free&&env.scope.kind==.function&&env.kindOf n==some .cell)=true then(n,NameKind.cell)else(n,a))::(r.map λ(n,k)=>if (k==NameKind.free&&env.scope.kind==.function&&env.kindOf n==some .cell)then(n,NameKind.cell)else(n,k)))=some k:=h
    by_cases d:(a==NameKind.free&&env.scope.kind==.function&&env.kindOf n==some .cell)=true
    .rw[B1 d]at h
     rw[Fe]at h⊢
     cases c:x==n with
     | true =>
       rw[c]at h
       have e:=B0 h;simp only[Ar]at d;exact⟨a,U,.inr ⟨e.symm,eq_of_beq d.1.1⟩⟩
     | false=>rw[c]at h;exact i h
    .rw[Av d]at h
     rw[Fe]at h⊢
     cases c:x==n with
     | true =>
       rw[c]at h
       have e:=B0 h;exact⟨a,U,.inl e.symm⟩
     | false=>rw[c]at h;exact i h
 exact j _ h
def ZW(scope:Scope)(env:Env)(C:Ϡ)(cells:ϙ):Env :={ scope:=relabel scope env,locals:=C,globals:=env.globals,cells:=cells,qual:=env.qual,func:=none,code:=env.code,frame:=env.frame,builtins:=env.builtins }
noncomputable def IX (X:Cx) (N':ώ) (scope:Scope) (C:Ϡ) (cells:ϙ) (Ã:ϟ) (H₀:Hp) (ex:ϖ):Cx :={ X with N:=N',Ã:=Ã,H₀:=H₀,env:=ZW scope X.env C cells,outer:=X.stack,stack:=X.stack,ex:=ex,fn:=λx=>scope.names.lookup x==some .cell,pn:=[],xe:=λ_ _=>False }
noncomputable def RM (ms:ϔ) (k:Nat) (a:St):St:=ms.foldl (λa i=>a.set i none) a++List.replicate k none
theorem ZX(ms:ϔ):∀a:St,(ms.foldl (λa i=>a.set i none) a).length=a.length:=by induction ms with|nil=>intro a;rfl|cons m ms c=>intro a;rw[Ft,c,Es]
def mv(ms:ϔ):∀(c:St) (i) (v),(ms.foldl (λc i=>c.set i none) c)[i]?=some (some v)->c[i]?=some (some v)/\i∉ms:=by induction ms with|nil=>intro c i v h;exact⟨h,by simp⟩|cons m ms d =>intro c i v h;rw[Ft]at h;obtain⟨a,j⟩:=d _ i v h;by_cases e:m=i;(.subst e;rw[F1]at a;split at a;(.split at a<;>cases a);exact absurd U ‹_›);rw[Gh e]at a;exact⟨a,by simp only[Al,not_or];exact⟨λz=>e z.symm,j⟩⟩
structure DU(X:Cx)(N':ώ)(scope:Scope)(ms:ϔ)(k:Nat):Prop where
 kind:scope.kind=.function
 uniq:∀x∈scope.names,scope.names.lookup x.1=some x.2
 free:∀x∈scope.names,x.2=.free->X.env.kindOf x.1=some .cell\/X.env.kindOf x.1=some .free
 len:N'.length=X.N.length+k
 pre:∀i:Nat,i<X.N.length->N'[i]?=X.N[i]?
 vis:∀i:Nat,i<X.N.length->i∉ms->∀x k',N'[i]?=some x->scope.names.lookup x=some k'->k'=.local\/k'=.cell\/k'=.free->k'=.free
section
variable {X:Cx}{pins:ύ}{σ:St}{H:Hp}{s:ϟ}
def mw (d:Q { scope:=scope,locals:=s.heap.objs.size,globals:=globals,cells:=cellsFrom (s.heap.objs.size+1) scope.names c,qual:=qual,func:=none,code:=env.code,frame:=env.frame,builtins:=env.builtins }
 { s with heap:=pushCells (s.heap.push { cls:=.type "dict",data:=.dict #[] }) scope.names }) :
 wpAny M A (newFunctionEnv scope globals c [] qual none .none (some env)) Q E s:=by
 simp only[newFunctionEnv,Ks,Iw];refine A5 (wpAny_alloc (A5 (wpAny_layCells _ (λname kind cells=>by cases a:kind==NameKind.cell<;>simp[a]) _ _ _ _ ?_)));rw[show({ s with heap:=s.heap.push { cls:=.type "dict",data:=.dict #[] } }:ϟ).heap.objs.size=s.heap.objs.size+1 from Ck ..,F5];exact A5 (Ak (Ak d))
def mx(I:AG X pins σ H s)(B:DU X N' scope ms k)(hex:∀b∈ex,EB X pins H b/\b<s.heap.objs.size) :
 AG (IX X N' scope s.heap.objs.size (cellsFrom (s.heap.objs.size+1) scope.names (LZ X.env scope.names [])) s H ex) [] (RM ms k σ) H
  { s with heap:=pushCells (s.heap.push { cls:=.type "dict",data:=.dict #[] }) scope.names }:=by
 have C:=λx a O=>I.ok.has x.1 (B.free x a O)
 have keep:∀b o,s.heap.get? b=some o->(pushCells (s.heap.push { cls:=.type "dict",data:=.dict #[] }) scope.names).get? b=some o:=λb o e=>K3 _ _ b o (A7 _ e)
 have j:=cellsFrom_ok scope.names (s.heap.push { cls:=.type "dict",data:=.dict #[] }) (s.heap.objs.size+1) [] ⟨λ_ _ hm=>(nomatch hm),List.Pairwise.nil⟩ (by rw[Ck];exact A9 _);rw[Ck]at j
 have ae:=WV (λn c=>X.env.cells.lookup n=some c) scope.names [] C (λ_ _ h=>nomatch h) λ_ _ h=>h
 have aa:∀n (c:Ϡ),X.env.cells.lookup n=some c->@LT.lt Nat instLTNat c s.heap.objs.size:=λn c e=>by obtain⟨v,q⟩:=I.cell n c e;exact q.lt
 have look:∀x c,(cellsFrom (s.heap.objs.size+1) scope.names (LZ X.env scope.names [])).lookup x=some c ->
  ((x,c)∈cellsFrom (s.heap.objs.size+1) scope.names []/\s.heap.objs.size+1<=c)\/(X.env.cells.lookup x=some c/\@LT.lt Nat instLTNat c s.heap.objs.size):=λx c e=>by
  rw[RL,UK]at e
  cases q:(cellsFrom (s.heap.objs.size+1) scope.names []).lookup x with
  | some R =>
    rw[q]at e
    have e':=B0 e;subst e';exact .inl ⟨mem_of_lookup q,(j.empty x R (mem_of_lookup q)).2⟩
  | none =>
    rw[q]at e
    have Q:=ae x c (mem_of_lookup e);exact .inr ⟨Q,aa x c Q⟩
 have d:∀x,scope.names.lookup x=some .cell\/scope.names.lookup x=some .free->∃c,(cellsFrom (s.heap.objs.size+1) scope.names (LZ X.env scope.names [])).lookup x=some c:=λx a=>by
  rw[RL,UK];cases q:(cellsFrom (s.heap.objs.size+1) scope.names []).lookup x with
  | some R=>exact⟨R,U⟩
  | none =>
    rcases a with a|a
    .obtain⟨c,e⟩:=UB (n:=s.heap.objs.size+1) a;rw[q]at e;cases e
    .obtain⟨c,hc⟩:=WX (env:=X.env) scope.names [] x (Df a);exact ZV hc
 have Ir:=I.lt;refine⟨⟨I.ok.mod,B.kind,I.ok.glob,I.ok.blt,A9 _,λx y c a hy=>?_,λx a=>?_,λx c hf a=>?_,I.ok.hd,I.ok.frames,.inl U,λb G=>?_,I.bs,Aw I.ok.zX I.sz,λb o e G=>?_,λb G ab=>?_,I.stack,I.Ś⟩,
  rfl,I.bare,Un.kept keep,⟨λ_=>none,?_,λi x v h1 h2 J=>?_⟩,λx c a=>?_,?_,λx c a=>?_,λp hp=>absurd (show p∈([]:ύ)from hp) (by simp),I.Ê.kept keep,?_⟩
 .rcases look x c a with⟨m1,l1⟩|⟨m1,l1⟩
  .rcases look y c hy with⟨m2,l2⟩|⟨m2,l2⟩
   .exact name_of_addr j.apart m1 m2
   .lia
  .rcases look y c hy with⟨m2,l2⟩|⟨m2,l2⟩
   .lia
   .exact I.ok.inj x y c m1 m2
 .have a:=a;rcases a with a|a
  .obtain⟨k0,e,z|⟨_,z⟩⟩:=UL a
   .exact d x (.inl (by rw[e,<-z]))
   .exact d x (.inr (by rw[e,z]))
  .obtain⟨k0,e,z|⟨z,_⟩⟩:=UL a
   .exact d x (.inr (by rw[e,<-z]))
   .cases z
 .show s.heap.objs.size<=c;have hf:=hf;have Z:=eq_of_beq hf;have a:(cellsFrom (s.heap.objs.size+1) scope.names (LZ X.env scope.names [])).lookup x=some c:=a;rw[RL,UK]at a
  obtain⟨R,e⟩:=UB (n:=s.heap.objs.size+1) Z;rw[e]at a
  have z:=B0 a;subst z;exact Nat.le_of_succ_le (j.empty x R (mem_of_lookup e)).2
 .obtain⟨_,L⟩:=hex b G;refine⟨Bn L,λx c a z=>?_⟩;subst z;have ah:@LT.lt Nat instLTNat c s.heap.objs.size:=L;rcases look x c a with⟨_,l1⟩|⟨m1,_⟩
  .lia
  .obtain⟨⟨_,_,_,_,f4,_⟩,_⟩:=hex c G;exact f4 x c m1 U
 .obtain⟨⟨_,_,_,f3,_,_⟩,_⟩:=hex b G;rcases f3 with z|z
  .exact I.ok.š b o e z
  .have h1:@LT.lt Nat instLTNat b X.base.objs.size:=As e;have h2:=I.ok.zX
   lia
 .obtain⟨⟨_,f1,f2,_,_,_⟩,_⟩:=hex b G;rcases Al.mp (I.zx b ab)with z|z
  .exact f1 z
  .exact f2 z
 .exact(Heap.Ns.new s.heap (.type "dict")).keeps (K3 _ _)
 .have T:i<X.N.length:=by
   by_cases T:i<X.N.length
   .exact T
   simp_all[RM,none,ZX,I.len,Cb,List.getElem?_replicate]
  have ac:(ms.foldl (λσ i=>σ.set i none) σ)[i]?=some (some v):=by
   unfold RM at h2
   grind
  obtain⟨h4,h5⟩:=mv ms σ i v ac;have S:=h1;have af:X.N[i]?=some x:=by rw[<-B.pre i T];exact S
  have J:(relabel scope X.env).names.lookup x=some .local\/(relabel scope X.env).names.lookup x=some .cell\/(relabel scope X.env).names.lookup x=some .free:=J;have fr:scope.names.lookup x=some .free:=by
   have go:∀P,(relabel scope X.env).names.lookup x=some P->P=.local\/P=.cell\/P=.free->scope.names.lookup x=some .free:=λP e O=>by
    obtain⟨k0,Y,z|⟨_,z⟩⟩:=UL e
    .have:=B.vis i T h5 x k0 S Y (z ▸ O);rw[Y,this]
    .rw[Y,z]
   grind
  have O:=B.free (x,.free) (Df fr) U;refine AS (λm hn hl=>?_) I.loc;refine AS (λu r l=>?_) (hl i x v af h4 (.inr O));refine AU u r (.inr ⟨?_,?_⟩)
  .rcases J with J|J
   .grind[UL]
   .exact J
  .rcases l with⟨ag,_⟩|⟨_,c,hc,E⟩
   .lia
   .refine AU c ?_ (E.keeps keep);obtain⟨c2,Q⟩:=d x (.inr fr);have W:=Q;rcases look x c2 W with⟨m1,_⟩|⟨m1,_⟩
    .exfalso;rcases WY scope.names _ _ _ m1 with q|q
     .have:=B.uniq _ q;rw[fr]at this
      cases this
     .cases q
    .rw[hc]at m1
     have z:=B0 m1;rw[z];exact Q
 .rcases look x c a with⟨m1,_⟩|⟨m1,_⟩
  .exact⟨none,(j.empty x c m1).1⟩
  .obtain⟨v,q⟩:=I.cell x c m1;exact⟨v,q.keeps keep⟩
 .exact I.Ê.fresh (A9 _)
 .rcases look x c a with⟨_,l1⟩|⟨m1,_⟩
  .exact I.Ê.fresh (by lia)
  .exact I.å x c m1
 .show(RM ms k σ).length=N'.length
  grind[RM,List.length_append,ZX,List.length_replicate,I.len,B.len]
end
def my:TT:=λ_ H Q=>Q true H
def Qj(J:It)(g:TG)(s:TT)(z:TE)(D:Ϡ)(Q:VK)(j:St)(H0:Hp):Prop:=∃W:Nat->Nat->St->Hp->Prop,(∃m,W 0 m j (upd H0 D (.lst []))) /\
 ∀i m c e,W i m c e->(J.stop i e/\Q (.ref D) e)\/(J.go i e/\∀x p,J.yld i e x p->g x c p λa y=>s a y λb r =>
  if b=true then z a r λv o=>∃k,o D=some (.lst k)/\k.length<sizeLine/\∃d,d<m/\W (i+1) d a (upd o D (.lst (k++[v])))
  else ∃d,d<m/\W (i+1) d a r)
def Me(d:TI)(g:TG)(i:TT)(e:TE)(ms:ϔ)(k:Nat):TE:=λc H Q=>d c H λJ a=>∀D,a D=none->Qj J g i e D Q (RM ms k c) a
def QQ(X:Cx)(e:ϗ)(t:TT):Prop :=∀(a:ύ) (s:ϟ) (d:St) (H:Hp) (Q:Bool->Hp->Prop),AG X a d H s->t d H Q ->wpAny (model X.prog X.w) X.A (forIn e true λc r=>if r=true then do let ok <- isTrue c X.env (eval c X.env);pure (ForInStep.yield ok)else pure (ForInStep.yield r)) (TP X a d Q) X.xe s
noncomputable abbrev NB (X:Cx) (N':ώ) (scope:Scope) (a:ϟ) (n:Nat) (c:Hp) (d:ϖ):Cx:=IX X N' scope a.heap.objs.size (cellsFrom (a.heap.objs.size+1) scope.names (LZ X.env scope.names [])) a (upd c n (.lst [])) d
structure T3(c:Cx->Prop)(P:ϣ)(w:Ϣ)(K:ϡ)(tg:Ϧ)(J:It)(fp:ϖ)(it:Ϡ)(tn:Nat->Ϥ->Prop):Prop where
 mem:it∈fp
 obj:∀i h,tn i h->∀b∈fp,∃o,h.get? b=some o/\∀v,o.data≠.cell v
 keep:∀i h h',tn i h->(∀b∈fp,∀o,h.get? b=some o->h'.get? b=some o)->tn i h'
 item:∀(X:Cx),X.prog=P->X.w=w->X.K=K->c X->∀(i:Nat) (pins:ύ) (s:ϟ) (σ:St) (H:Hp) (E:ϊ),AG X pins σ H s->(∀b∈fp,EB X pins H b)->tn i s.heap->J.go i H ->
  wpAny (model P w) X.A (pyNext (.ref it)) (λr s1=>∃u,r=some u /\
   wpAny (model P w) X.A (letOwnedTupleGo tg (.ref it) u) (λ_ s2=>∃x H',AG X pins σ H' s2/\BE x u/\J.yld i H x H'/\tn (i+1) s2.heap/\∀b∈fp,H' b=none) E s1) E s
 done:∀(X:Cx),X.prog=P->X.w=w->X.K=K->c X->∀(i:Nat) (pins:ύ) (s:ϟ) (σ:St) (H:Hp) (E:ϊ),AG X pins σ H s->(∀b∈fp,EB X pins H b)->tn i s.heap->J.stop i H ->
  wpAny (model P w) X.A (pyNext (.ref it)) (λr s1=>r=none/\AG X pins σ H s1) E s
 self:∀(A:Around) (i:Nat) (s:ϟ) (Q:ϊ) (E:ϊ),tn i s.heap->Q (.ref it) s->wpAny (model P w) A (pyIter (.ref it)) Q E s
def WZ(c:Cx->Prop)(X:Cx)(y iter:Ϧ)(r:TI):Prop :=∀(a:ύ) (s:ϟ) (e:St) (H:Hp) (R:It->Hp->Prop),AG X a e H s->r e H R ->wpAny (model X.prog X.w) X.A (eval iter X.env) (λv z=>wpAny (model X.prog X.w) X.A (pyIter v) (λd k=>∃(o:Ϡ) (j:ϖ) (p:Nat->Ϥ->Prop) (J:It) (i:Hp),d=.ref o/\AG X a e i k/\T3 c X.prog X.w X.K y J j o p/\p 0 k.heap/\(∀b∈j,EB X a i b)/\R J i) X.xe z) X.xe s
section
variable {X:Cx}
def EU:QQ X [] my:=λa s c H Q I h=>wpAny_tests_nil ⟨H,I,h⟩
def UM(h:PT X c t):QQ X [c] t:=λa s e H Q I d=>wpAny_tests_one (h a s e H Q I d)
def PI.g(h:PI X p iter d):WZ (·.calm=true) X p iter d:=λa s r H R I q=>BH (h a s r H R I q) λv G k=>BH k λc E ⟨z,j,B,J,C,e,o,T,i,y,r3⟩=>⟨z,j,B,J,C,e,o,⟨T.mem,T.obj,T.keep,T.item,T.done,T.self⟩,i,y,r3⟩
def ZY (Z:∀C cells Ã H₀ ex,c (IX X N' scope C cells Ã H₀ ex)) (hi:WZ c X target iter wi) (B:DU X N' scope ms k) (hg:∀C cells Ã H₀ ex,PG (IX X N' scope C cells Ã H₀ ex) target g) (hc:∀C cells Ã H₀ ex,QQ (IX X N' scope C cells Ã H₀ ex) ax tc) (he:∀C cells Ã H₀ ex,PE (IX X N' scope C cells Ã H₀ ex) an te) (hs:∀x,foldedSetIterable iter X.env x=pure x) (I:AG X j σ H s) (hw:Me wi g tc te ms k σ H Qv) (aj:∀(D) (G) (Y) (C) (m),AG X j σ G Y->Y.heap.Ns C m->G C=none->C≠X.env.locals->X.Ã.heap.objs.size<=C ->
 (∀x c,X.env.cells.lookup x=some c->c≠C)->(∀p∈X.pn++j,p.1≠C)->Qv (.ref D) G->compPost (model X.prog X.w) X.A X.xe use Q (.ref D) C (.ok .next) Y) :
 wpAny (model X.prog X.w) X.A (comprehension (.ListComp an [⟨target,iter,ax,0⟩] scope aC) scope X.env p (newList []) false (eval iter X.env) use) Q X.xe s:=by
 have af:=λx hx hk=>I.ok.has x.1 (B.free x hx hk)
 refine wpAny_comprehension_free (use:=use) U hs (mu af) B.kind (λx hx hl=>by rw[B.uniq x hx,hl]) (BH (hi j s σ H _ I hw) λv s1 h1=>BH h1 λaP a h2=>?_);revert h2;refine EK λit R tn J H2=>FZ λao I2 T ar f2 h2=>?_;subst ao;refine D8 ?_;have I3:AG X j σ (upd H2 a.heap.objs.size (.lst [])) { a with heap:=a.heap.push { cls:=.type "list",data:=.seq ([]:Ϗ).toArray } }:=I2.zR (t':=a.toks) .nil (B8 _);obtain⟨W,⟨m0,w0⟩,aw⟩:=h2 a.heap.objs.size I2.fresh;have P:∀b∈R,EB X j (upd H2 a.heap.objs.size (.lst [])) b/\b<(a.heap.push { cls:=.type "list",data:=.seq ([]:Ϗ).toArray }).objs.size:=λb E=>by
  refine AS (λo e _=>?_) (T.obj _ _ ar b E);have aA:=As e;obtain⟨f0,fr⟩:=f2 b E;refine⟨⟨by rw[BJ (Bn aA)];exact f0,fr⟩,?_⟩
  grind[Heap.size_push,Nat.lt_succ_of_lt]
 generalize ay:({ a with heap:=a.heap.push { cls:=.type "list",data:=.seq ([]:Ϗ).toArray } }:ϟ)=O at I3;have av:a.heap.push { cls:=.type "list",data:=.seq ([]:Ϗ).toArray }=O.heap:=by rw[<-ay]
 rw[av]at P
 refine mw ?_;have I4:=mx I3 B P;have ae:tn 0 (pushCells (O.heap.push { cls:=.type "dict",data:=.dict #[] }) scope.names):=T.keep _ _ _ ar λb E o e=>K3 _ _ b o (A7 _ (by rw[<-av];exact A7 _ e))
 have aL:=λb E=>(P b E).1.1
 generalize aG:({ O with heap:=pushCells (O.heap.push { cls:=.type "dict",data:=.dict #[] }) scope.names }:ϟ)=s4 at I4;have aH:pushCells (O.heap.push { cls:=.type "dict",data:=.dict #[] }) scope.names=s4.heap:=by rw[<-aG]
 rw[aH]at ae
 have S:∀{G:Hp}{au:ύ},au=[]->(∀b∈R,G b=none)->∀b∈R,EB (NB X N' scope O a.heap.objs.size H2 R) au G b:=λhp hn b E=>by
  obtain⟨x1,x2⟩:=I4.ok.exf b E;exact IR (hn b E) x1 (I4.ok.ţ b E) (.inl E) x2 (λp am=>by rw[hp]at am;exact absurd (show p∈([]:ύ)from am) (by simp))
 have ac:∀ak:Ϟ,ak=.ref it->codeAny (model X.prog X.w) X.A (.compLoop (.ListComp an [⟨target,iter,ax,0⟩] scope aC) 0 ak (.ref a.heap.objs.size) (ZW scope X.env O.heap.objs.size (cellsFrom (O.heap.objs.size+1) scope.names (LZ X.env scope.names []))))
  (compPost (model X.prog X.w) X.A X.xe use Q (.ref a.heap.objs.size) O.heap.objs.size) s4:=by
  rintro ak rfl;refine mr (λn Y=>∃i L G,AG (NB X N' scope O a.heap.objs.size H2 R) [] L G Y/\tn i Y.heap/\(∀b∈R,G b=none)/\W i n L G) ?_ m0 ⟨0,_,_,I4,ae,aL,w0⟩;refine λn s5=>GA λi aa H5=>FY λI5 al ap w5=>?_;rcases aw i n aa H5 w5 with⟨aq,q⟩|⟨go,step⟩
  .refine BH (T.done (NB X N' scope O a.heap.objs.size H2 R) U U U (Z _ _ _ _ _) i [] s5 aa H5 (λ_ _=>False) I5 (S U ap) al aq) λr s6 aI=>?_;obtain⟨hr,I6⟩:=aI;subst hr;have I7:AG X j σ H5 s6:=I3.call' I6.os I6.base I6.Ê I6.bare λb E=>by
    obtain⟨⟨_,f1,_,f3,f4,f5⟩,_⟩:=P b E;exact GC f3 f1 f4 f5
   refine AS (λm hn _=>?_) I6.loc;refine aj _ H5 s6 _ m I7 hn I6.free (E4 I3.lt) I3.sz (λx c e z=>?_) (λp hp z=>?_) q
   .obtain⟨v,hv⟩:=I3.cell x c e;have:=hv.lt;rw[z]at this
    exact Cy _ this
   .have:=As (I3.pin p hp).1;rw[z]at this
    exact Cy _ this
  .refine BH (T.item (NB X N' scope O a.heap.objs.size H2 R) U U U (Z _ _ _ _ _) i [] s5 aa H5 (λ_ _=>False) I5 (S U ap) al go) λr s6=>AS λu hr h6=>?_;subst hr;refine BH h6 λ_ s7=>Q9 λx H7 I7 r7 y7 ag aB=>?_;refine BH (hg _ _ _ _ _ _ s7 aa H7 x u _ (I7.pinned (S U aB) (T.obj _ _ ag)) r7 (step x H7 y7)) λ_ s8 ⟨ai,H8,I8,q8⟩=>BH (hc _ _ _ _ _ _ s8 ai H8 _ I8 q8) λb s9=>AS λH9 I9 q9=>?_;have again:∀{L:St}{G:Hp}{Y:ϟ},AG (NB X N' scope O a.heap.objs.size H2 R) ([]++SI R s7.heap) L G Y ->
    (∃m',m'<n/\W (i+1) m' L G)->∃m,m<n/\∃i ab ah,AG (NB X N' scope O a.heap.objs.size H2 R) [] ab ah Y/\tn i Y.heap/\(∀b∈R,ah b=none)/\W i m ab ah:=λ{L G Y} I' ⟨m',hm,w'⟩=>by
    refine⟨m',hm,i+1,L,G,I'.ġ,T.keep _ _ _ ag λb E o e=>(I'.pin (b,o) (Bm _ (Bm _ (Ux E e)))).1,λb E=>?_,w'⟩;refine AS (λo e d=>?_) (T.obj _ _ ag b E);exact(I'.pin (b,o) (Bm _ (Bm _ (Ux E e)))).2.1
   cases b with
   | false =>
     rw[Av Bg]at q9⊢
     exact again I9 q9
   | true =>
     rw[B1 U]at q9⊢
     refine BH (he _ _ _ _ _ _ s9 ai H9 _ I9 q9) λy az ⟨vy,as,aD,aE,ys,aF,hz,aM⟩=>BH (KW _ az ai as (.ref a.heap.objs.size) [vy] (.ref a.heap.objs.size) [y] (λ_ G=>G=upd as a.heap.objs.size (.lst (ys++[vy]))) aD U (.cons aE .nil) ⟨_,ys,vy,U,U,aF,hz,U⟩) λ_ aO=>GL λ_ aN aK _ aJ=>?_;subst aJ;exact again aK aM
 exact codeAny_compStart_list (ac _ U) (T.self _ 0 s4 _ _ ae (ac _ U))
def mz(a:X.calm=true)(P:PI X target iter p)(B:DU X N' scope ms k)(v:∀C cells Ã H₀ ex,PG (IX X N' scope C cells Ã H₀ ex) target g)(hc:∀C cells Ã H₀ ex,QQ (IX X N' scope C cells Ã H₀ ex) d z)(he:∀C cells Ã H₀ ex,PE (IX X N' scope C cells Ã H₀ ex) c J)(O:∀x,foldedSetIterable iter X.env x=pure x:=by intro _;rfl) :
 PE X (.ListComp c [⟨target,iter,d,0⟩] scope S) (Me p g z J ms k):=by
 intro i s σ H Q I h;rw[eval_ListComp];exact ZY (use:=none) (Qv:=Q) (λ_ _ _ _ _=>a) P.g B v hc he O I h λD Y j C m G R y E W T L q=>⟨m,R,λh' Z=>⟨.ref D,Y,G.turned (t':=j.toks) (λb o r e=>(Z.2 b r).trans e) y E (.inr W) T L,U,q⟩⟩
def mB(hN:X.N.Nodup)(hx:X.N[i]?=some x)(hl:P4 X.env.scope x)(d:∀C cells Ã H₀ ex,c (IX X N' scope C cells Ã H₀ ex))(hi:WZ c X target iter W)(B:DU X N' scope ms k)(Y:∀C cells Ã H₀ ex,PG (IX X N' scope C cells Ã H₀ ex) target g)(hc:∀C cells Ã H₀ ex,QQ (IX X N' scope C cells Ã H₀ ex) j tc)(he:∀C cells Ã H₀ ex,PE (IX X N' scope C cells Ã H₀ ex) a te)(S:swapsWith (.ListComp a [⟨target,iter,j,0⟩] scope z) (some (.Name x G)) p.line X.env=pure true:=by rfl)(hs:∀x,foldedSetIterable iter X.env x=pure x:=by intro _;rfl)(hf:X.fn x=true\/X.env.scope.names.lookup x=some .local:=by first|exact .inl U|exact .inr U|assumption) :
 PS X (.Assign [.Name x G] (.ListComp a [⟨target,iter,j,0⟩] scope z) p) (O4 (Me W g tc te ms k) (Qe i)):=by
 intro r s σ H D I h;rw[exec_Assign_Name_used _ _ _ _ S];refine A5 (Ds (A5 ?_));show wpAny _ X.A (do let _ <- comprehension (.ListComp a [⟨target,iter,j,0⟩] scope z) scope X.env _ (newList []) false (eval iter X.env) (some (assign (.Name x G) X.env))) _ _ s;refine A5 (Co (ZY (use:=some (assign (.Name x G) X.env)) (Q:=λ_ E=>∃y J,AG X r y J E/\D.nx y J) d hi B Y hc he hs I h λDa J E C m I' hn Z f1 f3 f4 f5 q=>?_)
  (λ_ E hq=>Ak (Ak hq)) λ_ _ e=>e)
 show wpAny _ X.A (assign (.Name x G) X.env (.ref Da)) _ _ E;refine wpAny_assign_Name (Zf I' hN hx hl (v:=.ref Da) U (λL R ⟨b,sb,T⟩=>?_) hf);have P:C≠b:=by
  grind
 refine⟨m,hn.sameBut sb P,λh' O=>⟨_,J,R.turned (t':=L.toks) (λb o T e=>(O.2 b T).trans e) Z f1 (.inr f3) f4 f5,q⟩⟩
def Pt(hN:X.N.Nodup)(I:X.N[i]?=some x)(E:P4 X.env.scope x)(a:X.calm=true)(H:PI X target iter p)(B:DU X N' scope ms k)(s:∀C cells Ã H₀ ex,PG (IX X N' scope C cells Ã H₀ ex) target g)(J:∀C cells Ã H₀ ex,QQ (IX X N' scope C cells Ã H₀ ex) e v)(he:∀C cells Ã H₀ ex,PE (IX X N' scope C cells Ã H₀ ex) c z)(j:swapsWith (.ListComp c [⟨target,iter,e,0⟩] scope o) (some (.Name x r)) d.line X.env=pure true:=by rfl)(G:∀x,foldedSetIterable iter X.env x=pure x:=by intro _;rfl)(y:X.fn x=true\/X.env.scope.names.lookup x=some .local:=by first|exact .inl U|exact .inr U|assumption) :
 PS X (.Assign [.Name x r] (.ListComp c [⟨target,iter,e,0⟩] scope o) d) (O4 (Me p g v z ms k) (Qe i)) :=
 mB hN I E (λ_ _ _ _ _=>a) H.g B s J he j G y
end
noncomputable def QR (N:ώ) (a:ϥ->Ϩ NameKind) (N':ώ) (scope:Scope) (ms:ϔ) (k:Nat):Bool :=
 scope.kind==.function&&(scope.names.all λx=>scope.names.lookup x.1==some x.2)&&(scope.names.all λx=>!(x.2==.free)||a x.1==some .cell||a x.1==some .free) &&
 N'.length==N.length+k&&(N'.take N.length==N) &&
 (List.range N.length).all λi=>ms.contains i||(match N'[i]? with|none=>true|some x=>match scope.names.lookup x with|some .local=>false|some .cell=>false|_=>true)
def DU.of(h:QR X.N X.env.kindOf N' scope ms k=true):DU X N' scope ms k:=by unfold QR at h;simp only[Ar]at h;obtain⟨⟨⟨⟨⟨j,c⟩,y⟩,e⟩,o⟩,B⟩:=h;have r:=eq_of_beq o;refine⟨eq_of_beq j,λx a=>eq_of_beq (Bw.mp c x a),λx a d=>?_,eq_of_beq e,λi p=>?_,λi p z x s C v d=>?_⟩;grind;grind;grind
section
variable {K:ϡ}{a:Ϡ}{xs:ϩ V}{g:TG}{tc:TT}{te:TE}{D:Ϡ}{σ:St}{H:Hp}{Q:VK}
def Pu(D:Ϡ)(n i:Nat)(j:Nat->ϩ V->St->Hp->Prop)(d:St):VK:=λv e=>∃c,e D=some (.lst c)/\c.length<sizeLine/\∃ m',m'<n-i/\(m'=n-(i+1)/\i+1<=n/\∃ ys',j (i+1) ys' d (upd e D (.lst (c++[v]))))
def Qk(n i:Nat)(d:Nat->ϩ V->St->Hp->Prop)(c:St)(e:Hp):Prop:=∃ m',m'<n-i/\(m'=n-(i+1)/\i+1<=n/\∃ ys',d (i+1) ys' c e)
def EI(c:i<n)(h:H6 D=some (.lst ys))(hz:ys.length<=100000)(p:Pv (i+1) (ys++[v]) σ2 (upd H6 D (.lst (ys++[v])))):Pu D n i Pv σ2 v H6 :=⟨ys,h,KY hz,n-(i+1),by lia,U,c,_,p⟩
def RO(c:i<n)(p:Pv (i+1) ys σ2 d):Qk n i Pv σ2 d:=⟨n-(i+1),by lia,U,c,_,p⟩
def GN(Pv)(k:Pv 0 [] σ (upd H D (.lst [])))(r:∀i ys σ H,i<=xs.length->Pv i ys σ H->AC K H a xs)
 (s:∀i x ys σ H,xs[i]?=some x->i<xs.length->Pv i ys σ H->g x σ H λc o=>tc c o λb j=>if b=true then te c j (Pu D xs.length i Pv c)else Qk xs.length i Pv c j)
 (hd:∀ys σ H,Pv xs.length ys σ H->Q (.ref D) H) :
 Qj (RG K a) g tc te D Q σ H:=by
 refine AU (λi m σ H=>m=xs.length-i/\i<=xs.length/\∃ys,Pv i ys σ H) ⟨xs.length,by simp,B8 _,[],k⟩ ?_;rintro i m σ H ⟨rfl,v,ys,p⟩;have q:=r i ys σ H v p;by_cases d:i<xs.length
 .refine .inr ⟨⟨xs,xs[i],q,by simp[d]⟩,λx z y=>?_⟩;obtain⟨rfl,y⟩:=y;exact s i x ys σ _ (y xs q) d p
 .have e:i=xs.length:=by lia
  subst e;exact .inl ⟨⟨xs,q,A9 _⟩,hd ys σ H p⟩
def mC(d:Nat->ϩ V->St->Hp->Prop)(o:d 0 [] σ (upd H D (.lst [])))(s:∀i ys σ H,i<=xs.length->d i ys σ H->BP K H a xs)
 (v:∀i x ys σ H,xs[i]?=some x->i<xs.length->d i ys σ H->g x σ H λc r=>tc c r λb k=>if b=true then te c k (Pu D xs.length i d c)else Qk xs.length i d c k)
 (hd:∀ys σ H,d xs.length ys σ H->Q (.ref D) H) :
 Qj (Wp K a) g tc te D Q σ H:=by
 refine⟨λi m σ H=>m=xs.length-i/\i<=xs.length/\∃ys,d i ys σ H,⟨xs.length,by simp,B8 _,[],o⟩,?_⟩;rintro i m σ H ⟨rfl,z,ys,p⟩;have q:=s i ys σ H z p;by_cases j:i<xs.length
 .refine .inr ⟨⟨xs,xs[i],q,by simp[j]⟩,λx B y=>?_⟩;obtain⟨e,y⟩:=y;subst e;exact v i x ys σ _ (y xs q) j p
 .have e:i=xs.length:=by lia
  subst e;exact .inl ⟨⟨xs,q,A9 _⟩,hd ys σ H p⟩
def mD(Pv)(r:Pv 0 [] σ (upd H D (.lst [])))(z:∀i ys σ H,i<=xs.length->Pv i ys σ H->AC K H a xs)
 (B:∀i x t ys σ H,xs[i]?=some x->i<xs.length->Pv i ys σ H->H t=none->g (.ref t) σ (upd H t (.tup [.int i,x])) λc s=>tc c s λb o=>if b=true then te c o (Pu D xs.length i Pv c)else Qk xs.length i Pv c o)
 (hd:∀ys σ H,Pv xs.length ys σ H->Q (.ref D) H) :
 Qj (RJ K a) g tc te D Q σ H:=by
 refine AU (λi m σ H=>m=xs.length-i/\i<=xs.length/\∃ys,Pv i ys σ H) ⟨xs.length,by simp,B8 _,[],r⟩ ?_;rintro i m σ H ⟨rfl,C,ys,p⟩;have q:=z i ys σ H C p;by_cases d:i<xs.length
 .refine .inr ⟨⟨xs,xs[i],q,by simp[d]⟩,λv I y=>?_⟩;revert y;refine IK λt x j G E k=>?_;subst j;subst k;exact B i x t ys σ _ (E xs q) d p G
 .have e:i=xs.length:=by lia
  subst e;exact .inl ⟨⟨xs,q,A9 _⟩,hd ys σ H p⟩
def ZZ{lo}{n:Nat}(Pv)(k:Pv 0 [] σ (upd H D (.lst [])))
 (r:∀i ys σ H,i<n->Pv i ys σ H->g (.int (lo+i)) σ H λc o=>tc c o λb j=>if b=true then te c j (Pu D n i Pv c)else Qk n i Pv c j)
 (hd:∀ys σ H,Pv n ys σ H->Q (.ref D) H) :
 Qj (Qf lo n) g tc te D Q σ H:=by
 refine AU (λi m σ H=>m=n-i/\i<=n/\∃ys,Pv i ys σ H) ⟨n,by simp,B8 _,[],k⟩ ?_;rintro i m σ H ⟨rfl,s,ys,p⟩;by_cases d:i<n
 .refine .inr ⟨d,λx v y=>?_⟩;obtain⟨e,y⟩:=y;subst e y;exact r i ys σ _ d p
 .have e:i=n:=by lia
  subst e;exact .inl ⟨A9 _,hd ys σ H p⟩
end
section
variable {X:Cx}
def mE(G:X.calm=true):KU X (.builtin "sum") (λxs H Q=>∃p ns,xs=[.ref p]/\AC X.K H p (ns.map V.int)/\Q (.int (List.sum ns)) H):=by rintro d s P H xs R Q I r ⟨p,ns,rfl,v,q⟩;obtain⟨u,rfl,E⟩:=LW r;cases E;obtain⟨a,z,B,O⟩:=I.list v;have i:=WI z;obtain⟨c,e⟩:=(i.allInts).items;have C:=i.numsOf;refine sum_intListG (I.ok.hd G) (by rw[<-e];exact B.isList) λJ L k o=>⟨.int (List.sum ns),H,I.kept o,⟨k,?_⟩,q⟩;have y:a.toArray.toList=(intItems c).toList:=(by rw[e]);have j:numsOf a=numsOf (intItems c).toList:=(by rw[<-y]);rw[nums_intItems]at j;rw[preSum_eq,Ai (by simp),<-C,j]
end
def mF(its:Ϗ):slicePick its.toArray none none (some (-1))=its.reverse.toArray:=by
 unfold slicePick;have e:sliceBounds none none (some (-1)) its.toArray.size=((its.length:Int)-1,-1,-1):=by simp[sliceBounds]
 rw[e];congr 1;apply Kz;intro i;have o:sliceRange ((its.length:Int)-1) (-1) (-1)=(List.range its.length).map λk=>its.length-1-k:=by
  unfold sliceRange;have p:(if (-1:Int) > 0 then(if (its.length:Int)-1 < -1 then((-1)-((its.length:Int)-1)+(-1)-1)/(-1)else 0)
   else(if (its.length:Int)-1 > -1 then((its.length:Int)-1-(-1)-(-1)-1)/(-(-1))else 0))=(its.length:Int):=by
   rw[Av (by lk)];split
   .rw[show(-(-1):Int)=1 from U,L1]
    lia
   .lia
  simp only[p,Iv];apply Fm;intro k c;have:=Dx.mp c;lia
 rw[o];have a:(List.filterMap (λx=>its.toArray[x]?) ((List.range its.length).map λk=>its.length-1-k))=its.reverse:=by
  have j:∀n,n<=its.length->List.filterMap (λx=>its.toArray[x]?) ((List.range n).map λk=>its.length-1-k)=its.reverse.take n:=by
   intro n;induction n with
   | zero=>intro _;rfl
   | succ n d =>
     intro s;rw[List.range_succ,Ae,Ex,d (by lia),List.map_singleton];have r:its.toArray[its.length-1-n]?=some its[its.length-1-n]:=by
      rw[G8];exact A6 (by lia)
     rw[Fn,r,List.filterMap_nil];rw[Am,List.getElem?_reverse (by lia),A6 (by lia)];rfl
  rw[j its.length (A9 _),Ai (by simp)]
 rw[a]
theorem AV.rev:∀{xs:ϩ V}{us:Ϗ},AV xs us->AV xs.reverse us.reverse|_,_,.nil=>.nil|_,_,.cons r t=>by rw[G3,G3];exact AV.append (AV.rev t) (.cons r .nil)
section
variable {X:Cx}{e st:Ϧ}{te tst:TE}{pos p2:Pos}
def T4(K:ϡ)(te tst:TE):TE:=λi H Q=>te i H λx j=>tst i j λy c=>∃a d,x=.ref a/\y=.int (-1)/\AC K c a d/\∀p,c p=none->Q (.ref p) (upd c p (.lst d.reverse))
def mG(he:PE X e te)(hs:PE X st tst):PE X (.Subscript e (.Slice none none (some st) p2) pos) (T4 X.K te tst):=by intro c s k H Q I h;refine Subscript_ (BH (he c s k H _ I h) λv Z=>GL λx W E C P=>?_);refine wpAny_Slice ?_;rw[Kn,evalPart_some];refine Ak (Ak (BH (hs c Z k W _ E P) λvs d=>GL λy G J r3 S=>?_));revert S;refine IK λa Y i j L q=>?_;subst i;subst j;cases C;obtain⟨t,rfl⟩:=r3;have p:AG X c k G { d with heap:=d.heap.push { cls:=.type "slice",data:=.fields #[.none,.none,.int (-1) t] } }:=J.kept (t':=d.toks) λb R q=>A7 _ q;refine DN (λO B r T=>?_) (p.list L);have z:=B.length;show wpAny (model X.prog X.w) X.A (subscriptTail e (.Slice none none (some st) p2) (.ref a) (.ref d.heap.objs.size)) (EP X c k Q) X.xe { d with heap:=d.heap.push { cls:=.type "slice",data:=.fields #[.none,.none,.int (-1) t] } };refine tail_any (ops:=[.ref a,.ref d.heap.objs.size]) r.isList.typeIs slot_list_getitem.lookup ?_ (by with_unfolding_all rfl);refine J8 r.isList (Heap.IsSliceOf.new ..) .none .none (.int (-1) t) (by lk) ?_ (by rw[B5];lia);rw[mF];refine BY (.ref _) _ (p.laid (t':=d.toks) (o:=.lst Y.reverse) (λb R q=>A7 _ q) (A9 _) ?_) U (q _ (p.Ê.fresh (A9 _)));exact⟨by rw[Gw];exact T,_,0,B.rev,Bc _ U⟩
end
section
variable {X:Cx}(K:ϡ) (hK:X.K=K)
include hK
theorem DE:QL X (QM K):=by subst hK;exact lr
theorem JU:QL X (QN K):=by subst hK;exact ZI
theorem NQ:SQ X (SU K):=by subst hK;exact lC
theorem mH:SQ X (SR K):=by subst hK;exact ll
theorem UN:FG X (compareOp .In) (UE K false):=by subst hK;exact lE
theorem aU:FG X (compareOp .NotIn) (UE K true):=by subst hK;exact lF
theorem FT(a:X.A.units+64<cLine):FG X (compareOp .Eq) (Nz K false):=by subst hK;exact lW a
theorem GQ(a:X.A.units+64<cLine):FG X (compareOp .NotEq) (Nz K true):=by subst hK;exact lX a
def T5(K:ϡ):ϩ V->Hp->VK->Prop:=λc H Q=>∃p a,c=[.ref p]/\(AC K H p a\/BP K H p a)/\Q (.int a.length) H
theorem mI:KU X (.builtin "len") (T5 K):=by subst hK;exact lG
def mJ(K:ϡ):ϩ V->Hp->VK->Prop:=λc H Q=>∃p a,c=[.ref p]/\(AC K H p a\/BP K H p a)/\∀l,H l=none->Q (.ref l) (upd H l (.lst a))
theorem X0:KU X (.type "list") (mJ K):=by subst hK;exact lH
def X1(K:ϡ):ϩ V->Hp->VK->Prop:=λc H Q=>∃p a,c=[.ref p]/\AC K H p (a.map V.int)/\Q (.int (List.sum a)) H
theorem QS(a:X.calm=true):KU X (.builtin "sum") (X1 K):=by subst hK;exact mE a
theorem EV(a:PE X l c):PI X d l (Zk K c):=by subst hK;exact km a
theorem mK(a:PE X l c):PI X d l (SH K c):=by subst hK;exact ko a
theorem RP(i:Gl X "enumerate")(a:X.mg "enumerate"=none)(d:PA X [e] j)(k:starEach [e] X.env=(false,eval e X.env)::starEach [] X.env:=by rfl) :
 PI X (.Tuple o k1 r) (.Call (.Name "enumerate" p) [e] [] c) (ZS K j):=by subst hK;exact lV i a d k
theorem ES(e:X.calm=true)(h:QF X c t)(i:(assignEach c X.env).length=n:=by rfl)(a:(assignEach c X.env).findIdx? (·.1)=none:=by rfl) :
 PG X (.Tuple c k d) (QG K n t):=by subst hK;exact kc e h i a
theorem mL{e st:Ϧ}{d a:TE}{c i:Pos}(he:PE X e d)(j:PE X st a):PE X (.Subscript e (.Slice none none (some st) i) c) (T4 K d a):=by subst hK;exact mG he j
theorem mM{o e}{i}{to}{t}{name}{apos a}{T id}{r}(y:PlainAttrs T)(slot:Slot T name id)(k:typeOf (.builtin id)=pure (.type "method_descriptor"))(p:Qh X id r)(s:PE X o to)(v:PA X (e::i) t)
 (d:attributeBase o name X.env (eval o X.env)=eval o X.env:=by rfl)
 (j:((backTo a (starEach (e::i) X.env)).all (λx=>!x.1)&&(backToKw a (keywordEach [] X.env)).all (λx=>x.1.isSome)
   && decide ((e::i).length+([]:Ϝ).length+(if ([]:Ϝ).isEmpty then 0 else 1)<30))=true:=by rfl)
 (c:(apos.endLine==a.line)=true:=by rfl) (z:starEach (e::i) X.env=(false,eval e X.env)::starEach i X.env:=by rfl) (hplain:(backTo a (starEach i X.env)).any (·.1)=false:=by rfl) :
 PE X (.Call (.Attribute o name apos) (e::i) [] a) (WK K T r to t):=by subst hK;exact lJ y slot k p s v d j c z hplain
end
def EG(K:ϡ){X:Cx}{o e:Ϧ}{j:ϗ}{to:TE}{t:TA}{name:ϥ}{c a:Pos}{T p:String}{r:V->ϩ V->Hp->VK->Prop}(C:PlainAttrs T)(slot:Slot T name p)(s:typeOf (.builtin p)=pure (.type "method_descriptor"))(z:Qh X p r)(v:PE X o to)(B:PA X (e::j) t)(hK:X.K=K)(d:attributeBase o name X.env (eval o X.env)=eval o X.env)(k:((backTo a (starEach (e::j) X.env)).all (λx=>!x.1)&&(backToKw a (keywordEach [] X.env)).all (λx=>x.1.isSome)&&decide ((e::j).length+([]:Ϝ).length+(if ([]:Ϝ).isEmpty then 0 else 1)<30))=true)(i:(c.endLine==a.line)=true)(y:starEach (e::j) X.env=(false,eval e X.env)::starEach j X.env)(hplain:(backTo a (starEach j X.env)).any (·.1)=false):PE X (.Call (.Attribute o name c) (e::j) [] a) (WK K T r to t):=mM K hK C slot s z v B d k i y hplain
end L2
namespace Mt
open PySem
noncomputable def has (t o:Int):Bool:=decide (∀k:Nat,k<7->o/2^k%2<=t/2^k%2)
theorem mO(n k):((n)/2^k%2)=((n/2^k%2:Nat):Int):=by lia
theorem mP(t o)(a:o<128):(t &&& o)=o↔∀k:Nat,k<7->o/2^k%2<=t/2^k%2:=by constructor;intro h k _;have e:(t &&& o).testBit k=o.testBit k:=(by rw[h]);grind;intro h;apply Nat.eq_of_testBit_eq;intro k;rw[Nat.testBit_and,G4,G4];by_cases c:o/2^k%2=1;by_cases d:k<7;grind;have e:o/2^k=0:=(by apply Nat.div_eq_of_lt;exact Bs a (Aw (show 128<=2^7 by lk) (Nat.pow_le_pow_right (by lk) (by lia))));rw[e]at c;cases c;rw[Aj c,Bool.and_false]
def mQ(d:0<=t)(c:0<=o)(e:o<128):decide (Builtin.bitAnd t o=o)=has t o:=by obtain⟨a,rfl⟩:=Bx d;obtain⟨b,rfl⟩:=Bx c;rw[PyProof.Rows.bitAnd_pp d c];grind[has,Int.toNat_natCast,mP,mO]
theorem bU(t:Int):has t t=true:=Ab λ_ _=>Dj _
open L2
def LJ(cs:ϓ)(t:Int):Ϩ Nat:=cs.findIdx? λc=>has c t
noncomputable def Pw:Ϩ Nat->V|none=>.non|some i=>.int i
def c6{cs}(h:cs[i]?=some c)(k:has c t=true)(d:∀(j) a,j<i->cs[j]?=some a->has a t=false):LJ cs t=some i:=by obtain⟨o,e⟩:=Ap.mp h;unfold LJ;rw[Cd];grind
def mR{cs}(i:∀(j) d,j<cs.length->cs[j]?=some d->has d t=false):LJ cs t=none:=by unfold LJ;rw[Fi];intro c k;obtain⟨j,a,e⟩:=C7 k;exact i j c a (by rw[A6 a,e])
def mS(h:has t o=true):o/1%2<=t/1%2/\o/2%2<=t/2%2/\o/4%2<=t/4%2/\o/8%2<=t/8%2/\o/16%2<=t/16%2/\o/32%2<=t/32%2/\o/64%2<=t/64%2:=by have h:∀k:Nat,k<7->o/2^k%2<=t/2^k%2:=Ax h;exact⟨h 0 (by lk),h 1 (by lk),h 2 (by lk),h 3 (by lk),h 4 (by lk),h 5 (by lk),h 6 (by lk)⟩
def mT:∀c:Fin 128,(c.val:Int)=(c.val:Int)/1%2+2*((c.val:Int)/2%2)+4*((c.val:Int)/4%2)+8*((c.val:Int)/8%2)+16*((c.val:Int)/16%2)+32*((c.val:Int)/32%2)+64*((c.val:Int)/64%2):=by room
def c7{c:Int}(h:0<=c/\c<128):c=c/1%2+2*(c/2%2)+4*(c/4%2)+8*(c/8%2)+16*(c/16%2)+32*(c/32%2)+64*(c/64%2):=by
 have q:=mT ⟨c.toNat,by lia⟩;have e:((c.toNat:Nat):Int)=c:=by lia
 simpa only[e]using q
end Mt
namespace L2
open PySem PySem.Spec PyProof.Rows
section
variable {X:Cx}{k:Nat}{f:Ϡ}{fd:FuncData}{ps:ώ}{sp:Sp}
theorem UO:∀{xs} {us} {j:Nat}{u},AV xs us->us[j]?=some u->∃v,xs[j]?=some v/\BE v u
 |_,_,_,_,.nil,e=>by simp at e|_,_,0,_,.cons r _,e=>by simp at e;subst e;exact⟨_,U,r⟩
 |_,_,j+1,u,.cons _ t,e=>by obtain⟨v,c,a⟩:=UO (j:=j) (u:=u) t (by simpa using e);exact⟨v,by simpa using c,a⟩
end
section
variable {X:Cx}(K:ϡ) (hK:X.K=K)
include hK
end
section
variable {X:Cx}(K:ϡ) (hK:X.K=K)
include hK
end
end L2
namespace Mt
open PySem L2
def NC(cs:ϓ):Prop:=∀(j k:Nat) c d,j<k->cs[j]?=some c->cs[k]?=some d->has c d=false
end Mt
namespace L2
open PySem PySem.Spec PyProof.Rows
def sg(c:Nat):ϥ:=⟨#[c]⟩
def RQ(x:ϥ):It:=⟨λi _=>i<x.cps.size,λi H v a=>a=H/\∃c,x.cps[i]?=some c/\v=.str (sg c),λi _=>x.cps.size<=i⟩
def mU{P:ϣ}{w:Ϣ}{K:ϡ}{tg:Ϧ}{Z:String}(a:Ϡ)(x:ϥ)(t:Tok)(y:Z="str_ascii_iterator"\/Z="str_iterator") :
 LS P w K tg (RQ x) [a] a (λi h=>h.IsStrIter a Z x t i) where
 mem:=by simp
 obj:=λi h st b j=>by
  obtain rfl:b=a:=by simpa using j
  revert st;refine DN λo e c d=>?_;exact AU o e (λv z=>by rw[d]at z;cases z)
 keep:=λi h p st k=>by
  revert st;refine AS λo e r=>?_;exact AU o (k a (by simp) o e) r
 item:=by
  intro X hP hw hK J i B s σ H E I T st L;subst hP hw hK;refine FZ (λO S f2 f3 f4 Y=>?_) (T a (by simp));have W:∀(Q:ϐ->ϟ->Prop),(∀v p R,SignAt x i v->p.IsStrIter a Z x t (i+1)->(∀b o,b∉[a]->s.heap.get? b=some o->p.get? b=some o)->Q (some v) { s with heap:=p,toks:=R }) ->
   wpAny (model X.prog X.w) X.A (pyNext (.ref a)) Q E s:=by
   intro Q hQ;rcases y with rfl|rfl
   .exact(Walks.strAscii (prog:=X.prog) (w:=X.w) (I.ok.hd J) a x t).item i s Q E L st hQ
   .exact(Walks.strWide (prog:=X.prog) (w:=X.w) (I.ok.hd J) a x t).item i s Q E L st hQ
  refine W _ λv p R hv G kk=>?_;revert hv;refine EX λc u aa C=>?_;subst C;have I1:AG X B σ H { s with heap:=p,toks:=R }:=I.turned (λb o j e=>kk b o (by simpa using j) e) O S f3 f4 Y;refine DN (λo e c' d=>?_) (id G);exact AU _ U (SG (s:={ s with heap:=p,toks:=R }) e c' d (by rcases y with rfl|rfl<;>decide) ⟨.str (sg c),H,I1,⟨u,U⟩,⟨U,c,aa,U⟩,G,λb j=>(T b j).1⟩)
 done:=by
  intro X hP hw hK J i B s σ H E I T st L;subst hP hw hK;refine FZ (λO S f2 f3 f4 Y=>?_) (T a (by simp));have hi:x.cps.size<=i:=L;rcases y with rfl|rfl
  .exact wpAny_pyNext_ascii_end (I.ok.hd J) st (by simpa using hi) λp eb=>⟨U,I.turned (t':=s.toks) (λb o j e=>eb b o j e) O S f3 f4 Y⟩
  .exact wpAny_pyNext_wide_end (I.ok.hd J) st (by simpa using hi) λp eb=>⟨U,I.turned (t':=s.toks) (λb o j e=>eb b o j e) O S f3 f4 Y⟩
 self:=λA i s Q E st h=>by
  rcases y with rfl|rfl
  .exact wpAny_pyIter_striter_ascii st h
  .exact wpAny_pyIter_striter_wide st h
section
variable {X:Cx}{tg:Ϧ}
def X2(a:TE):TI:=λd H R=>a d H λv c=>∃x,v=.str x/\R (RQ x) c
def RR{l}{p}(G:PE X l p):PI X tg l (X2 p):=by intro a s r H R I h;refine BH (G a s r H _ I h) λv c=>GL λy E k z C=>?_;revert C;refine AS λx d q=>?_;subst d;obtain⟨t,rfl⟩:=z;have fin:∀(j:String) (i:j="str_ascii_iterator"\/j="str_iterator"),Uw X a r tg R (.ref c.heap.objs.size) { c with heap:=c.heap.push { cls:=.type j,data:=.fields #[.str x t,.int 0 0] } }:=(by intro j i;refine DC c.heap.objs.size [c.heap.objs.size] _ _ E (IR U (k.kept (t':=c.toks) λb o e=>A7 _ e) (mU _ x t i) ⟨_,Bc _ U,U,U⟩ (λb B=>?_) q);obtain rfl:b=c.heap.objs.size:=(by simpa using B);exact k.ŷ (A9 _) (k.Ê.fresh (A9 _)));refine wpAny_pyIter_strU ?_;unfold strIterType;split;exact fin _ (.inl U);exact fin _ (.inr U)
end
def mV{x}{g:TG}{tb:TS}{D:GP}{a}{H}(Pv:Nat->St->Hp->Prop)(B:Pv 0 a H)
 (C:∀i c a H,x.cps[i]?=some c->i<x.cps.size->Pv i a H->g (.str (sg c)) a H λk s=>tb { D with nx:=Pv (i+1),ct:=Pv (i+1),bk:=D.nx } k s) (hd:∀a H,Pv x.cps.size a H->D.nx a H) :
 ∃W:Nat->Nat->St->Hp->Prop,(∃m,W 0 m a H)/\∀i m a H,W i m a H ->
  ((RQ x).stop i H/\D.nx a H)\/((RQ x).go i H/\∃N:St->Hp->Prop,(∀j o,N j o->∃z,z<m/\W (i+1) z j o)/\∀v o,(RQ x).yld i H v o->g v a o λk s=>tb { D with nx:=N,ct:=N,bk:=D.nx } k s):=by
 refine AU (λi m a H=>m=x.cps.size-i/\i<=x.cps.size/\Pv i a H) ⟨x.cps.size,by simp,B8 _,B⟩ ?_;refine λi m a H=>ED λr I p=>?_;subst r;by_cases d:i<x.cps.size
 .refine .inr ⟨d,Pv (i+1),λj o E=>⟨x.cps.size-(i+1),by lia,U,d,E⟩,λv o y=>?_⟩;obtain⟨rfl,c,G,rfl⟩:=y;exact C i c a _ G d p
 .have e:i=x.cps.size:=by lia
  subst e;exact .inl ⟨A9 _,hd a H p⟩
def T6{x}{g}{tc}{o}{D}{a}{H}{Q}(Pv)(r:Pv 0 [] a (upd H D (.lst [])))
 (z:∀i c ys a H,x.cps[i]?=some c->i<x.cps.size->Pv i ys a H->g (.str (sg c)) a H λd s=>tc d s λb k=>if b=true then o d k (Pu D x.cps.size i Pv d)else Qk x.cps.size i Pv d k)
 (hd:∀ys a H,Pv x.cps.size ys a H->Q (.ref D) H):Qj (RQ x) g tc o D Q a H:=by
 refine AU (λi m a H=>m=x.cps.size-i/\i<=x.cps.size/\∃ys,Pv i ys a H) ⟨x.cps.size,by simp,B8 _,[],r⟩ ?_;rintro i m a H ⟨rfl,C,ys,p⟩;by_cases j:i<x.cps.size
 .refine .inr ⟨j,λv E y=>?_⟩;obtain⟨rfl,c,B,rfl⟩:=y;exact z i c ys a _ B j p
 .have e:i=x.cps.size:=by lia
  subst e;exact .inl ⟨A9 _,hd ys a H p⟩
section
variable {X:Cx}
theorem c8:∀{ys} {us},AV (ys.map V.str) us->StrsAre us ys|[],_,r=>by cases r;exact .nil|y::ys,_,r=>by cases r with|cons c a =>obtain⟨t,rfl⟩:=c;exact .cons y t (c8 a)
def c9(K:ϡ):V->ϩ V->Hp->VK->Prop:=λx c H Q=>∃(z:ϥ) (p:Ϡ) (a:ώ),x=.str z/\c=[.ref p]/\AC K H p (a.map V.str)/\(a.map (·.length)).sum+a.length*z.length<=16777216/\Q (.str (Txt.join z a)) H
def mW:Qh X "str.join" (c9 X.K):=by refine λe s O H x L v P Q I C y=>Qb λz p R c d j i q=>?_;subst c;subst d;obtain⟨t,rfl⟩:=C;refine AS (λu a E=>?_) (LW y);subst a;cases E;refine DN (λo r B J=>?_) (I.list j);exact join_list B.isList (by simpa using c8 r) i λG k=>⟨.str _,H,I.tok _,⟨_,U⟩,q⟩
def T7(K:ϡ):ϩ V->Hp->VK->Prop:=λa H Q=>∃(p:Ϡ) (bs:ϩ Bool),a=[.ref p]/\AC K H p (bs.map V.bl)/\Q (.bl (bs.all id)) H
def mX(hc:X.calm=true):KU X (.builtin "all") (T7 X.K):=by refine λO s σ H xs us Q I r=>GL λp bs c S q=>?_;subst c;refine AS (λu d ru=>?_) (LW r);subst d;cases ru;refine DN (λa J L hz=>?_) (I.list S);have T:a.length=bs.length:=(by rw[<-J.length,A3]);refine AS (λol j B=>?_) (id L.isList);have C:=As j;refine call_all_walk (F0 L.isList ⟨s.heap.objs.size,_,_,_,_,_,λi=>bs.getD i false,U,Walks.list (A:=X.A.in1) (I.ok.hd hc) s.heap.objs.size p (Bn C) a.toArray,⟨⟨_,Bc _ U,U,U⟩,ol,A7 _ j,B⟩,λi v P Y E' Z z=>?_,λh' tk R=>?_⟩);have E:a[i]?=some v:=(by simpa using Z);refine AS (λy k W=>?_) (UO J E);rw[An]at k;(cases e:bs[i]? with|none=>rw[e]at k;cases k|some b =>rw[e]at k;have G:=B0 k;subst G;cases W;have z:Y (bs.getD i false) P:=z;rw[Bf,e]at z;exact Ci z);have e:(List.range a.toArray.size).all (λi=>bs.getD i false)=bs.all id:=(by rw[B5,T,Di,Bw,Bw];grind[List.getElem_of_mem,List.mem_range.mpr,List.getD_eq_getElem?_getD,List.getElem?_eq_getElem,List.mem_range.mp,List.getElem_mem]);rw[e];exact BY (.bl _) H (I.kept (λb o e=>R b o (by simp;exact Bn (As e)) (A7 _ e))) U q
end
section
variable {X:Cx}(K:ϡ) (hK:X.K=K)
include hK
theorem Px(a:X.calm=true):KU X (.builtin "all") (T7 K):=by subst hK;exact mX a
theorem MG:Qh X "str.join" (c9 K):=by subst hK;exact mW
end
end L2
namespace Cs
open PySem L2
structure BS where
 s:ϥ
 w:Int
 t:Int
 n:Int
abbrev FU(r:BS):ϩ V:=[.str r.s,.int r.w,.int r.t,.int r.n]
def FL(H:Hp)(v:V)(r:BS):Prop:=∃a,v=.ref a/\H a=some (.tup (FU r))
def FL.same(h:FL H v r)(s:AA H c):FL c v r:=let ⟨a,e,h⟩:=h;⟨a,e,s _ _ h⟩
def EO(h:Paired (FL H) xs rs)(s:AA H a):Paired (FL a) xs rs:=Paired.Æ h λ_ _ z=>z.same s
def RS(h:Paired (FL H) xs rs)(c:H l=some ys)(d:∀z,ys≠.tup z):Paired (FL (upd H l o)) xs rs :=Paired.Æ h λx p ⟨t,e,a⟩=>⟨t,e,by rw[BJ (HB a c λz=>d _ z.symm)];exact a⟩
def MH(h:Paired (FL H) xs rs):xs.length=rs.length:=B2 h
theorem FD{j a:Type}{F:j->a->Prop}:∀{xs} {ys} {i:Nat}{x},Paired F xs ys->xs[i]?=some x->∃y,ys[i]?=some y/\F x y
 |_,_,_,_,.nil,e=>by simp at e|_,_,0,_,.cons r _,e=>by simp at e;subst e;exact⟨_,U,r⟩
 |_,_,i+1,x,.cons _ t,e=>by obtain⟨p,d,c⟩:=FD (i:=i) (x:=x) t (by simpa using e);exact AU p (by simpa using d) c
theorem Ql{j a:Type}{F:j->a->Prop}:∀{xs} {ys} {i:Nat}{y},Paired F xs ys->ys[i]?=some y->∃x,xs[i]?=some x/\F x y
 |_,_,_,_,.nil,e=>by simp at e|_,_,0,_,.cons r _,e=>by simp at e;subst e;exact⟨_,U,r⟩
 |_,_,i+1,x,.cons _ t,e=>by obtain⟨p,d,c⟩:=Ql (i:=i) (y:=x) t (by simpa using e);exact⟨p,by simpa using d,c⟩
def KZ(K:ϡ)(H:Hp)(l:Ϡ)(rs:ϩ BS):Prop:=∃a,AC K H l a/\Paired (FL H) a rs
def KZ.same(h:KZ K H l rs)(s:AA H a):KZ K a l rs:=let ⟨xs,h1,h2⟩:=h;⟨xs,s.seq h1,EO h2 s⟩
noncomputable def CV (rs:ϩ BS) (x:ϥ):Ϩ Nat:=rs.findIdx? λr=>decide (r.s=x)
def cH(h:rs[i]?=some r)(k:r.s=x)(c:∀(j) a,j<i->rs[j]?=some a->a.s≠x):CV rs x=some i:=by obtain⟨d,e⟩:=Ap.mp h;unfold CV;rw[Cd];grind
def X3(c:∀(j) r,j<rs.length->rs[j]?=some r->r.s≠x):CV rs x=none:=by unfold CV;rw[Fi];intro r d;obtain⟨j,a,e⟩:=C7 d;exact Aj (c j r a (by rw[A6 a,e]))
def UP(h:CV rs x=some i):i<rs.length:=by unfold CV at h;obtain⟨a,_⟩:=Cd.mp h;exact a
def FI:decide (V.str x=V.str y)=decide (x=y):=by lia
def BQ:ϔ:="abcdefghijklmnopqrstuvwxyz.,-'".toList.map Char.toNat
theorem cJ:∀c∈BQ,PyData.canLay0 (.str (sg c))=true:=by room
noncomputable def UQ (rs:ϩ BS) (x:ϥ):Bool:=!decide (x="")&&x.cps.toList.all λc=>(CV rs (sg c)).isSome
noncomputable def Py (rs:ϩ BS) (x:ϥ):Int:=match CV rs x with
 | some i=>match rs[i]? with
   | some r=>r.w
   | none=>0
 | none=>0
noncomputable def KH (rs:ϩ BS) (x:ϥ):Int:=List.sum (x.cps.toList.map λc=>Py rs (sg c))
def mY(h:CV rs x=some k)(a):Py rs x=rs[k].w:=by unfold Py;grind
def mZ(o):(!decide (Mt.Pw o=V.non))=o.isSome:=by cases o with|none=>rfl|some i=>rfl
def all_map{a:Type}(f)(l:ϩ a):(l.map f).all id=l.all f:=by rw[Jy];rfl
def UR(zs:ϓ)(lo a):∃ms:ϓ,DV (zs.map V.int) lo a=ms.map V.int/\ms.length<=zs.length:=by unfold DV;rw[<-Jc,<-Gf];exact⟨_,U,by rw[Ao,Cu];lia⟩
end Cs
namespace L2
open PySem PySem.Spec PyProof.Rows
section
variable {X:Cx}
def Pz:V->ϩ V->Hp->VK->Prop:=λx c H Q=>∃(l:Ϡ) (a:ϓ) (z:Int),x=.ref l/\c=[.int z]/\H l=some (.lst (a.map V.int))/\z∈a/\Q .non (upd H l (.lst ((a.erase z).map V.int)))
theorem cK:∀(l:ϓ) (n:Nat),(l.eraseIdx n).map V.int=(l.map V.int).eraseIdx n
 |[],_=>rfl|_::_,0=>rfl
 |a::l,n+1=>by show V.int a::(l.eraseIdx n).map V.int=V.int a::(l.map V.int).eraseIdx n;rw[cK l n]
def T8(z:Int):Ϟ->Bool|.int i _=>i==z|_=>false
def n0:UF X "list.remove" Pz:=by
 intro R s σ H x vs v us Q I rx T h;revert h;refine Qb λl c z o C P W q=>?_;subst o;subst C;cases rx;refine AS (λu k J=>?_) T.one;subst k;obtain⟨t,rfl⟩:=J;obtain⟨L,a,n,r,O,e⟩:=I.ň P;rw[A3]at O;have at_:∀(m:Nat) (j:m<a.length),∃d,a[m]=.int (c[m]'(by lia)) d:=λm j=>by obtain⟨u,S,J⟩:=r.get (i:=m) (x:=.int (c[m]'(by lia))) (by rw[An,A6 (by lia)];rfl);rw[A6 j]at S;obtain⟨d,rfl⟩:=J;exact⟨d,B0 S⟩
 have hj:c.idxOf z<c.length:=List.idxOf_lt_length_of_mem W;refine Em F.slot_list_remove ⟨_,e,U⟩ F.entry_list_remove (F.args_list_remove_2 _ _)
  (MeetsSeq.list_remove l a.toArray n (.int z t) (T8 z) (λy Z=>?_) (c.idxOf z) (by rw[B5];lia) ?_ (λm j E=>?_) (by rw[B5,<-O];rw[A3]at L;exact L)) ⟨e,?_⟩
 obtain⟨m,j,ey⟩:=C7 (show y∈a by simpa using Z);obtain⟨d,B⟩:=at_ m j;rw[<-ey,B];exact MeetsSeq.EqGives.int _ _ _ _;obtain⟨d,B⟩:=at_ (c.idxOf z) (by lia);show T8 z a[c.idxOf z]=true;rw[B];show(c[c.idxOf z]==z)=true;rw[List.getElem_idxOf hj];exact Jl z;have G:m<a.length:=(by simpa using j);obtain⟨d,B⟩:=at_ m G;show T8 z a[m]=false;rw[B];show(c[m]==z)=false;have:=List.not_of_lt_findIdx (p:=(·== z)) (xs:=c) (i:=m) E;cases h:(c[m]==z)with|false=>rfl|true=>exact absurd h (by simpa using this)
 have Y:(c.erase z).map V.int=(c.map V.int).eraseIdx (c.idxOf z):=(by rw[List.erase_eq_eraseIdx_of_idxOf U,cK]);rw[Y]at q;refine BY .non _ (I.Ź (its':=a.eraseIdx (c.idxOf z)) P e ?_ (r.eraseIdx _) ?_) U q;show a.toArray.eraseIdxIfInBounds _=(a.eraseIdx _).toArray;rw[List.eraseIdxIfInBounds_toArray];have:=List.length_eraseIdx_le (c.map V.int) (c.idxOf z);lia
end
end L2
namespace Mt
open PySem L2
def n5(a:0<=t/\t<128)(c:0<=o/\o<128)(h:has t o=true):o<=t:=by refine MU (λB E C p v r z=>?_) (mS h);have b:=c7 a;have d:=c7 c;clear h a c;rw[b,d];clear b d;generalize t/1%2=s at *;generalize t/2%2=y at *;generalize t/4%2=e at *;generalize t/8%2=i at *;generalize t/16%2=j at *;generalize t/32%2=G at *;generalize t/64%2=k at *;lia
theorem cL:∀{ls:ϓ},ls≠[]->∃m∈ls,∀o∈ls,m<=o
 |[],h=>absurd U h|[a],_=>⟨a,Aa,λo c=>by rw[Ah.mp c];exact Dj _⟩
 |a::b::r,_=>by
  obtain⟨m,e,d⟩:=cL (ls:=b::r) (by simp);by_cases h:a<=m
  .exact⟨a,Aa,λo c=>by
    rcases Al.mp c with rfl|c
    .exact Dj _
    .exact Int.le_trans h (d o c)⟩
  .exact⟨m,Ac _ e,λo c=>by
    rcases Al.mp c with rfl|c
    .lia
    .exact d o c⟩
noncomputable def under (ls:ϓ) (c:Int):ϓ:=ls.filter λo=>!decide (o=c)&&has c o
def n6(a:ls≠[])(j:∀c∈ls,0<=c/\c<128):∃c∈ls,under ls c=[]:=by refine AS (λm d k=>?_) (cL a);refine AU m d ?_;unfold under;rw[Jz];intro o i h;rw[Ar]at h;have r:=n5 (j m d) (j o i) h.2;have p:=k o i;have e:o=m:=(by lia);rw[Ab e]at h;exact absurd h.1 (by lk)
def n7(h:under ls c=[])(a:o∈ls)(d:o≠c):has c o=false:=by unfold under at h;rw[Jz]at h;have:=h o a;rw[Aj d]at this;cases q:has c o with|false=>rfl|true=>rw[q]at this;exact absurd U this
def n8(h:NC rs)(s:∀r∈rs,has r c=false):NC (rs++[c]):=by intro j k x y d i a;by_cases p:k<rs.length;rw[Cv p]at a;rw[Cv (by lia)]at i;exact h j k x y d i a;have o:k=rs.length:=(by have:=(Ap.mp a).1;rw[Ag]at this;have:k<rs.length+1:=this;lia);subst o;rw[Cb (A9 _),En]at a;have e:c=y:=(by simpa using a);subst e;rw[Cv d]at i;exact s x (Af i)
def nc(h:NC rs)(d:rs[i]?=some c):LJ rs c=some i:=c6 d (bU c) λj k e a=>h j i k c e a d
def DW:ϑ->V|none=>.non|some i=>.int i
end Mt
namespace L2
open PySem PySem.Spec PyProof.Rows
section
variable {κ:Type} [DecidableEq κ]
noncomputable def DX (a:ϩ (κ×V)) (k:κ):Ϩ V:=(a.find? λc=>decide (c.1=k)).map (·.2)
noncomputable def GH (a:ϩ (κ×V)) (k:κ) (v:V):ϩ (κ×V) :=if (a.any λc=>decide (c.1=k))=true then a.map (λc=>if c.1=k then(c.1,v)else c)else a++[(k,v)]
def O8{p:κ×V}{r}{k}(e:p.1=k):DX (p::r) k=some p.2:=by simp[DX,Et,e]
def O9{p:κ×V}{r}{k}(e:¬p.1=k):DX (p::r) k=DX r k:=by simp[DX,Et,e]
theorem US(k):∀a:ϩ (κ×V),(a.any λc=>decide (c.1=k))=(DX a k).isSome|[]=>rfl|p::r=>by rw[Eu];by_cases e:p.1=k;simp only[O8 e,Ab e,Bool.true_or,Ks];rw[O9 e,Aj e,Bool.false_or];exact US k r
theorem cM(k j)(y):∀a:ϩ (κ×V),DX (a.map λc=>if c.1=k then(c.1,y)else c) j=(DX a j).map λx=>if j=k then y else x|[]=>rfl|p::r=>by have d:=cM k j y r;rw[Bp];by_cases h:p.1=k;rw[B1 h];by_cases e:p.1=j;rw[O8 (p:=(p.1,y)) e,O8 e,Gn,B1 (e.symm.trans h)];rw[O9 (p:=(p.1,y)) e,O9 e,d];rw[Av h];by_cases e:p.1=j;rw[O8 (p:=p) e,O8 e,Gn,Av (λz=>h (e.trans z))];rw[O9 (p:=p) e,O9 e,d]
theorem cO(k j)(y):∀a:ϩ (κ×V),DX a k=none->DX (a++[(k,y)]) j=if j=k then some y else DX a j|[],_=>by by_cases e:k=j;rw[B1 e.symm];exact O8 (p:=(k,y)) e;rw[Av (λz=>e z.symm)];exact O9 (p:=(k,y)) e|p::r,c=>by rw[Ga];have d:¬p.1=k:=λz=>(by rw[O8 z]at c;cases c);rw[O9 d]at c;have i:=cO k j y r c;by_cases e:p.1=j;rw[O8 e,O8 e,Av (λz=>d (e.trans z))];rw[O9 e,O9 e,i]
def cP(c:ϩ (κ×V))(k j)(y):DX (GH c k y) j=if j=k then some y else DX c j:=by unfold GH;by_cases a:(c.any λd=>decide (d.1=k))=true;(.rw[B1 a,cM];rw[US]at a;by_cases e:j=k;(.simp_all[Dt.mp,Gn]);simp_all);rw[Av a];refine cO k j y c ?_;rw[US]at a;simp_all
def X4(a:ϩ (κ×V))(k)(v):(GH a k v).length<=a.length+1:=by unfold GH;grind
def FE.ĩ{u}(r:FE o u):o.isSome=u.isSome:=by
 cases o with
 |none=>cases u with
   | none=>rfl
   | some _=>exact(show False from r).elim
 |some _=>cases u with
   | none=>exact(show False from r).elim
   | some _=>rfl
def KV.val{a:ϩ (κ×V)}{vs}(r:KV a vs)(k):FE (DX a k) (valueAt vs k):=by unfold KV at r;induction r with|nil=>exact True.intro|@cons p q o qs h t i =>obtain⟨d,j⟩:=h;by_cases e:p.1=k;have c:=d.symm.trans e;have b:valueAt (q::qs) k=some q.2:=(by simp[valueAt,Et,c]);rw[O8 e,b];exact j;have c:¬q.1=k:=λz=>e (d.trans z);have b:valueAt (q::qs) k=valueAt qs k:=(by simp[valueAt,Et,c]);rw[O9 e,b];exact i
def KV.any{a:ϩ (κ×V)}{vs}(r:KV a vs)(k):(a.any λc=>decide (c.1=k))=vs.any λc=>decide (c.1=k):=by unfold KV at r;induction r with|nil=>rfl|cons h t d=>rw[Eu,Eu,d,h.1]
def KV.repl(r:KV c vs)(k:κ){u}(i:BE y u) :
 KV (c.map λa=>if a.1=k then(a.1,y)else a) (vs.map λa=>if a.1=k then(a.1,u)else a):=by
 unfold KV at r⊢;induction r with
 | nil=>exact .nil
 | @cons p q e qs h t d =>
   rw[Bp,Bp];refine .cons ?_ d
   lia
def KV.put(r:KV a vs)(k:κ){u}(c:BE y u):KV (GH a k y) (stored vs k u):=by unfold GH stored;rw[r.any k];by_cases e:(vs.any λd=>decide (d.1=k))=true;rw[B1 e,B1 e];exact r.repl k c;rw[Av e,Av e];exact Bz r ⟨U,c⟩
def KV.length{a:ϩ (κ×V)}{vs}(r:KV a vs):a.length=vs.length:=B2 r
end
def UT{u}(r:BE (kV k) u):(Nq P w).is k u=true:=by cases k with|inl i=>(obtain⟨t,e⟩:=(show ∃t,u=Value.int i t from r);subst e;exact jJ P w i t)|inr x=>obtain⟨t,e⟩:=(show ∃t,u=Value.str x t from r);subst e;exact jK P w x t
theorem cQ:∀{a} {us},AV (a.map kV) us->ItemsAre (Nq P w) a us|[],_,r=>by rw[Ky]at r;cases r;exact .nil|k::a,_,r=>by rw[Bp]at r;cases r with|cons h t=>exact .cons (UT h) (cQ t)
abbrev KT(H:Hp):ϩ (ϩ GO×V)->ϩ (ϩ GO×Ϡ×Ϟ)->Prop:=Paired λp q=>p.1=q.1/\H q.2.1=some (.tup (p.1.map kV))/\BE p.2 q.2.2
def KT.val{H}{a}{xs}(r:KT H a xs)(k):FE (DX a k) ((atKey xs k).map (·.2)):=by induction r with|nil=>exact True.intro|@cons p q o qs h t j =>obtain⟨d,_,i⟩:=h;by_cases e:p.1=k;have c:=d.symm.trans e;have b:atKey (q::qs) k=some q.2:=(by simp[atKey,Et,c]);rw[O8 e,b];exact i;have c:¬q.1=k:=λz=>e (d.trans z);have b:atKey (q::qs) k=atKey qs k:=(by simp[atKey,Et,c]);rw[O9 e,b];exact j
def KT.repl(r:KT H a xs)(k){u}(o:BE y u) :
 KT H (a.map λc=>if c.1=k then(c.1,y)else c) (xs.map (putAt k u)):=by
 induction r with
 | nil=>exact .nil
 | @cons p q e qs h t d =>
   rw[Bp,Bp];refine .cons ?_ d;revert h;refine ED λj i s=>?_;unfold putAt
   lia
def KT.put(r:KT H a xs)(k){u}(i:H b=some (.tup (k.map kV)))(c:BE y u) :
 KT H (GH a k y) (storedH xs k b u):=by
 have e:(a.any λd=>decide (d.1=k))=(atKey xs k).isSome:=by
  rw[US,(r.val k).ĩ,L3]
 unfold GH storedH;rw[e];by_cases q:(atKey xs k).isSome=true
 .rw[B1 q,B1 q];exact r.repl k c
 .rw[Av q,Av q];exact Bz r ⟨U,i,c⟩
def KT.keeps(r:KT H a xs)(c:∀b ys,H b=some (.tup ys)->H' b=some (.tup ys)):KT H' a xs :=Paired.Æ r λ_ _ z=>⟨z.1,c _ _ z.2.1,z.2.2⟩
section
variable {P:ϣ}{w:Ϣ}{H:Hp}{h:Ϥ}{a:Ϡ}
def cR{u}(ok:FO P w H h)(e:Rd H a u):KF P w H h a u:=e.ok ok
def UU(ok:FO P w H h)(e:Rd H a (.dK c)):c.length<=sizeLine/\(a==sysModules)=false/\∃vs,KV c vs/\h.DictOf (Nq P w) a vs :=show KF P w H h a (.dK c)from cR ok e
def ng(ok:FO P w H h)(e:H a=some (.dK c)):c.length<=sizeLine/\(a==sysModules)=false/\∃vs,KV c vs/\h.DictOf (Nq P w) a vs:=UU ok (.inl e)
theorem UV(ok:FO P w H h)(e:H a=some (.tup (d.map kV))):(tupleKind (Nq P w)).is h d a:=by obtain⟨_,c,r,o,j,i,n,k⟩:=(show KF P w H h a (.tup (d.map kV))from ok a _ e);exact LH o c.toArray n j i k (by simpa using cQ r)
def UW(ok:FO P w H h)(e:Rd H a (.dT c)):c.length<=sizeLine/\(a==sysModules)=false /\∃xs,KT H c xs/\h.DictOfH (tupleKind (Nq P w)) a xs:=by
 obtain⟨z,y,xs,r,o,v,C,k,i,B,j,s⟩:=(cR ok e)
 refine⟨z,y,xs,r,o,v,C,k,i,B,j,λx d=>?_,s⟩;have all:∀{l:ϩ (ϩ GO×V)}{m:ϩ (ϩ GO×Ϡ×Ϟ)},KT H l m->∀x∈m,(tupleKind (Nq P w)).is h x.1 x.2.1:=by
  intro l m q;induction q with
  | nil=>intro x d;exact nomatch d
  | @cons p q E qs G t I =>
    grind[List.mem_cons.mp,UV]
 exact all r x d
def nh(ok:FO P w H h)(e:H a=some (.dT c)):c.length<=sizeLine/\(a==sysModules)=false /\∃xs,KT H c xs/\h.DictOfH (tupleKind (Nq P w)) a xs:=UW ok (.inl e)
end
def JV(H:Hp)(a:Ϡ)(y:V)(r:Ϩ V):Prop :=(∃c k,Rd H a (.dK c)/\y=kV k/\r=DX c k)\/∃c k b,Rd H a (.dT c)/\y=.ref b/\H b=some (.tup (k.map kV))/\r=DX c k
def Oa(H:Hp)(a:Ϡ)(y v:V)(d:Hp):Prop :=(∃c k,H a=some (.dK c)/\y=kV k/\c.length<sizeLine/\d=upd H a (.dK (GH c k v))) \/∃c k b,H a=some (.dT c)/\y=.ref b/\H b=some (.tup (k.map kV))/\c.length<sizeLine/\d=upd H a (.dT (GH c k v))
def JV.t{H}{a b}{c}{k}(e:H a=some (.dT c))(d:H b=some (.tup (k.map kV))):JV H a (.ref b) (DX c k):=.inr ⟨c,k,b,.inl e,U,d,U⟩
def Oa.t{H}{a b}{c}{k}{v}(e:H a=some (.dT c))(i:H b=some (.tup (k.map kV)))(d:c.length<sizeLine) :
 Oa H a (.ref b) v (upd H a (.dT (GH c k v))):=.inr ⟨c,k,b,e,U,i,d,U⟩
section
variable {X:Cx}{pins:ύ}{σ:St}{H:Hp}{s:ϟ}{a:Ϡ}{y v:V}{u r:Ϟ}{o:Ϩ V}{A:Around}{E:ϊ}
def AG.big(I:AG X pins σ H s):sysModules<s.heap.objs.size:=by have h:=(I.mod.glob.keeps I.bk).lt;exact Ff (by lk) h
def nj(W:A.units+1<cLine)(I:AG X pins σ H s)(g:JV H a y (some v))(O:BE y u)(h:∀i L,AG X pins σ H L->BE v i->Q i L) :
 wpAny (model X.prog X.w) A (getItem (.ref a) u) Q E s:=by
 rcases g with⟨j,k,e,J,l⟩|⟨j,k,b,e,J,R,l⟩
 .subst J;obtain⟨z,hd,P,d,G⟩:=UU I.Ê e;obtain⟨i,C,c⟩:=FE.some_of (v:=v) (o:=valueAt P k) (by rw[l];exact d.val k);exact wpAny_getItem_of (UT O) G.mapOf C (h i _ (I.tok _) c)
 .subst J;cases (O);obtain⟨z,hd,T,d,G⟩:=UW I.Ê e;obtain⟨i,C,c⟩:=FE.some_of (v:=v) (o:=(atKey T k).map (·.2)) (by rw[l];exact d.val k);obtain⟨p,S,B⟩:=Az.mp C;refine wpAny_getItem_heap (Ie W) (UV I.Ê R) G S ?_;rw[B];exact h i _ (I.tok _) c
def X5(G:A.units+1<cLine)(I:AG X pins σ H s)(g:JV H a y o)(B:BE y u)(h:∀p,AG X pins σ H p->Q (.bool o.isSome) p) :
 wpAny (model X.prog X.w) A (compareOp .In u (.ref a)) Q E s:=by
 rcases g with⟨d,k,e,j,l⟩|⟨d,k,b,e,j,C,l⟩
 .subst j;obtain⟨z,hd,J,c,i⟩:=UU I.Ê e;refine wpAny_in_of (UT B) hd i.mapOf ?_;rw[<-(c.val k).ĩ,<-l];exact h _ (I.tok _)
 .subst j;cases (show u=Value.ref b from B);obtain⟨z,hd,L,c,i⟩:=UW I.Ê e;refine wpAny_in_heap (Ie G) (UV I.Ê C) hd i ?_;have q:=(c.val k).ĩ;rw[L3]at q
  rw[<-q,<-l];exact h _ (I.tok _)
def cS(I:AG X pins σ H s)(j:Sx (H a))(i:Heap.SameBut a s.heap h')(he:∃q,h'.get? a=some q)(new:KF X.prog X.w (upd H a c) h' a c) :
 AG X pins σ (upd H a c) { s with heap:=h',toks:=t' } :=
 I.write (x:=a) (e:=a) j (.inl U) (λb q d z=>(i.2 b d).trans z) he new
def nk(z:c.length<=sizeLine)(hd:(a==sysModules)=false)(d:KV c vs)(dd:h'.DictOf (Nq P w) a vs) :
 KF P w e h' a (.dK c):=⟨z,hd,vs,d,dd⟩
def nr(hu:A.units+1<cLine)(I:AG X pins σ H s)(g:Oa H a y v H')(Y:BE y u)(W:BE v r)(h:∀P,AG X pins σ H' P->Q () P) :
 wpAny (model X.prog X.w) A (setItem (.ref a) u r) Q E s:=by
 rcases g with⟨d,k,e,O,l,B⟩|⟨d,k,b,e,O,T,l,B⟩
 .subst O B;obtain⟨z,hd,vs,i,L⟩:=ng I.Ê e;have C:vs.length<=sizeLine:=by rw[<-i.length];exact z
  have G:(GH d k v).length<=sizeLine:=by have:=X4 d k v;lia
  refine wpAny_setItem_pairs (hsz:=C) (UT Y) L λS j J=>h _ ?_
  have he:∃q,S.get? a=some q:=let ⟨q,_,_,p,_⟩:=j;⟨q,p⟩
  exact cS I (by rw[e];exact True.intro) J he (nk G hd (i.put k W) j)
 .subst O B;cases (Y);obtain⟨z,hd,xs,i,L⟩:=nh I.Ê e;have C:xs.length<=sizeLine:=by rw[<-B2 i];exact z
  have G:(GH d k v).length<=sizeLine:=by have:=X4 d k v;lia
  refine wpAny_setItem_heap (hsz:=C) (Ie hu) (UV I.Ê T) L λS j J=>h _ ?_
  revert j;refine GA λq es ep=>FZ λp Z h3 h4 _ h5=>?_;refine cS I (by rw[e];exact True.intro) J ⟨q,p⟩ ⟨G,hd,_,(i.put k T W).keeps λc ys R=>?_,q,es,ep,p,Z,h3,h4,h5⟩;rw[BJ (HB R e (λz=>nomatch z))];exact R
end
def T9(i:Ϧ):Prop:=∀c a,subscripted i false c a=operate [c,a] (getItem c a)
def nu{prog}{w}{A}{E}{s}{env}{value a}{v}{T id}{Q}
 (z:typeLookup (.type T) "__getitem__"=pure (some (.builtin id))) (B:T9 a)
 (h:wpAny (model prog w) A (eval value env) (λo j=>wpAny (model prog w) A (eval a env) (λi c=>c.TypeIs o T/\wpAny (model prog w) A (getItem o i) Q E c) E j) E s) :
 wpAny (model prog w) A (eval (.Subscript value a v) env) Q E s:=by
 refine Subscript_ (Co h (λo j k=>Co k (λi c d=>?_) λ_ _ x=>x) λ_ _ x=>x);obtain⟨y,d⟩:=d;unfold subscriptTail;refine A5 ?_;rw[getitemInPython_of_ne y.not_modules];refine A5 (Gp y z ?_);have fin:wpAny (model prog w) A (subscripted a false o i) (λr e=>wpAny (model prog w) A (letTemporaryGo value o r >>= λ_=>pure r) Q E e) E c:=by
  rw[B o i];exact wpAny_operating (Co d (λr e p=>A5 (wpAny_letTemporaryGo (Ak p))) λ_ _ x=>x)
 first
  | exact Ak (A5 fin)
  | exact A5 (Ak (A5 fin))
  | exact A5 fin
def nv(I:AG X i σ H s)(g:JV H a y o):s.TypeIs (.ref a) "dict":=by rcases g with⟨c,k,e,_,_⟩|⟨c,k,b,e,_,_,_⟩;obtain⟨_,_,j,_,d⟩:=UU I.Ê e;exact d.typeIs;obtain⟨_,_,p,_,d⟩:=UW I.Ê e;exact d.typeIs
def ny(e j:TE):TE:=λd H Q=>e d H λx i=>j d i λy c=>∃a v,x=.ref a/\JV c a y (some v)/\Q v c
def X6(j e:TE):TE:=λd H Q=>j d H λy i=>e d i λx c=>∃a o,x=.ref a/\JV c a y o/\Q (.bl o.isSome) c
def nz(j o e:TE):TS:=λD c H=>e c H λv k=>j c k λx i=>o c i λy p=>∃a d,x=.ref a/\Oa p a y v d/\D.nx c d
section
variable {X:Cx}{o i e value:Ϧ}{pos pos' tpos:Pos}{td ty tv:TE}
def nC(J:X.A.units+1<cLine)(C:PE X o td)(R:PE X i ty)(O:T9 i):PE X (.Subscript o i pos) (ny td ty):=by intro c s p H Q I h;refine nu PySem.F.slot_dict_getitem.lookup O (BH (C c s p H _ I h) λu G ⟨x,E,r,L,B⟩=>BH (R c G p E _ r B) λiv Y j=>?_);obtain⟨y,S,k,P,a,v,ex,g,T⟩:=j;subst ex;obtain rfl:u=Value.ref a:=L;exact⟨nv k g,nj J k g P λW Z z d=>⟨v,S,z,d,T⟩⟩
def cT(E:X.A.units+1<cLine)(O:PE X i ty)(z:PE X o td):PC X .In i o (X6 ty td):=by intro c s j H Q I h;refine BH (O c s j H _ I h) λW C ⟨y,B,k,L,r⟩=>BH (z c C j B _ k r) λu S d=>?_;obtain⟨x,P,v,G,a,J,ex,g,R⟩:=d;subst ex;obtain rfl:u=Value.ref a:=G;exact X5 E v g L λT p=>⟨.bl J.isSome,P,p,U,R⟩
def nD(R:X.A.units+1<cLine)(O:PE X o td)(Y:PE X i ty)(hv:PE X value tv)(T:swapsWith value (some (.Subscript o i pos')) pos.line X.env=pure false) :
 PS X (.Assign [.Subscript o i pos'] value pos) (nz td ty tv):=by
 intro c s d H D I h;refine wpAny_Assign_Subscript (BH (hv c s d H _ I h) λr Q ⟨v,P,p,L,E⟩=>BH (O c Q d P _ p E) λu C ⟨x,Z,J,S,q2⟩=>BH (Y c C d Z _ J q2) λiv s3 j=>?_) T;obtain⟨y,H3,z,W,a,B,ex,g,G⟩:=j;subst ex;obtain rfl:u=Value.ref a:=S;exact nr R z g W L λs4 k=>⟨d,B,k,G⟩
end
def nE(h:Ϥ)(a:sysModules<h.objs.size):KF P w H (h.push { cls:=.type "dict",data:=.dict #[] }) h.objs.size (.dT []) :=⟨B8 _,Ef.mpr (Cr (Bn a)),[],.nil,_,#[],0,Bc _ U,⟨U,U,U⟩,U,U,F6⟩
def nF:TE:=λ_ H Q=>∀p,H p=none->Q (.ref p) (upd H p (.dT []))
section
variable {X:Cx}{pos:Pos}
def nG:PE X (.Dict [] [] pos) nF:=λc s d H Q I h =>wpAny_Dict_empty ⟨.ref s.heap.objs.size,_,I.laid (a:=s.heap.objs.size) (o:=.dT []) (t':=s.toks) (λ_ _ q=>A7 _ q) (A9 _) (nE s.heap I.big),U,h _ (I.Ê.fresh (A9 _))⟩
end
structure M1(X:Cx)(o:Ϧ)(m:ϥ)(apos:Pos)(e:Ϧ)(cpos:Pos):Prop where
 base:attributeBase o m X.env (eval o X.env)=eval o X.env
 Ĕ:((backTo cpos (starEach [e] X.env)).all (λx=>!x.1)&&(backToKw cpos (keywordEach [] X.env)).all (λx=>x.1.isSome)
  && decide (([e]:ϗ).length+([]:Ϝ).length+(if ([]:Ϝ).isEmpty then 0 else 1)<30))=true
 line:(apos.endLine==cpos.line)=true
 trees:backTo cpos (starEach [e] X.env)=[(false,eval e X.env)]
structure M2(X:Cx)(o:Ϧ)(m:ϥ)(apos:Pos)(e f:Ϧ)(cpos:Pos):Prop where
 base:attributeBase o m X.env (eval o X.env)=eval o X.env
 Ĕ:((backTo cpos (starEach [e,f] X.env)).all (λx=>!x.1)&&(backToKw cpos (keywordEach [] X.env)).all (λx=>x.1.isSome)
  && decide (([e,f]:ϗ).length+([]:Ϝ).length+(if ([]:Ϝ).isEmpty then 0 else 1)<30))=true
 line:(apos.endLine==cpos.line)=true
 trees:backTo cpos (starEach [e,f] X.env)=[(false,eval e X.env),(false,eval f X.env)]
end L2
namespace Cs
open PySem L2
noncomputable def IY (rs:ϩ BS) (ws:ώ):Int:=List.sum (ws.map λx=>KH rs x)
def nH(h:CV rs x=some k):∃r,rs[k]?=some r/\r.s=x:=by unfold CV at h;obtain⟨c,a,_⟩:=Cd.mp h;grind
end Cs
namespace L2
open PySem
def nI:bootBuiltins "min"=some (.builtin "min"):=by room
open PySem.Spec PyProof.Rows
def Oz(g:Nat->Int)(n:Nat)(m:Int):Prop:=(∃i,i<n/\g i=m)/\∀i,i<n->m<=g i
def Oz.one:Oz g 1 (g 0):=⟨⟨0,by lia,U⟩,λi a=>by
 have e:i=0:=by lia
 subst e;exact Dj _⟩
def Oz.yes(h:Oz g n m)(a:g n<m):Oz g (n+1) (g n):=⟨⟨n,by lia,U⟩,λi c=>by
 by_cases e:i=n
 .subst e;exact Dj _
 .have:=h.2 i (by lia)
  lia⟩
def Oz.no(h:Oz g n m)(c:¬g n<m):Oz g (n+1) m:=⟨by obtain⟨i,a,e⟩:=h.1;exact⟨i,by lia,e⟩,λi a=>by
 by_cases e:i=n
 .subst e;lia
 .exact h.2 i (by lia)⟩
def Ta(g:Nat->Int)(j:Nat)(a:Array Ϟ):Prop:=(j=0/\a=#[])\/∃m t,a=#[.int m t,.int m t]/\Oz g j m
def QT(g:Nat->Int)(n:Nat)(d v:Ϟ):Prop:=(n=0/\v=d)\/∃m t,v=.int m t/\Oz g n m
def cU(a:Array Ϟ)(c:Nat):Obj:={ cls:=.type "list",dict:=none,data:=.seq a c,slots:=#[] }
section
variable {P:ϣ}{w:Ϣ}{A:Around}{R:ϛ}{it:Ϡ}{fp wr:ϖ}{n:Nat}{Pr:Nat->Ϟ->Prop}{St:Nat->Ϥ->Prop}
theorem nJ(W:Walks P w A.in1 it fp wr n Pr St)(g)(B)(hB:B∉fp)(d)(s)(j)(c)(st:St n s.heap)(y:s.heap.get? B=some (cU j c))(C:Ta g n j)
 (q:∀v h' i,QT g n d v->(∀b o,b∉wr->b≠B->s.heap.get? b=some o->h'.get? b=some o)->R (.ok (.ret v)) { s with heap:=h',toks:=i }) :
 codeAny (model P w) A (.builtin "min.loop" ⟨[.ref it,.none,.ref B],[(("default":ϥ),d)]⟩) R s:=by
 have r:=λh=>hB (W.sub _ h)
 refine Gq F.entry_min_loop ?_;rw[F7 Eh _];refine A5 (m:=seqItems? (.ref B)) (Dy y U ?_);rcases C with⟨rfl,rfl⟩|⟨m,t,rfl,z⟩
 .exact A5 (m:=tryCatch (pyNext (.ref it)) _) (G5 (W.done s _ _ st λh' i k=>A5 (m:=rule _) (Jt (Ak (q d h' i (.inl ⟨U,U⟩) λb o a _ e=>k b o a e)))))
 .refine A5 (m:=tryCatch (pyNext (.ref it)) _) (G5 (W.done s _ _ st λh' i k=>?_));exact A5 (m:=updateSeq B (λ_=>#[])) (Ea (k B _ r y) U (A5 (F8 (Ak (q _ _ i (.inr ⟨m,t,U,z⟩) λb o a p e=>(Bh _ _ (Cr p)).trans (k b o a e))))))
def nK(W:Walks P w A.in1 it fp wr n Pr St)(g)(hg:∀(i) (v),Pr i v->∃t,v=Value.int (g i) t)(B)(hB:B∉fp)(d) :
 ∀(k j) (s) (J) (c),n-j=k->j<=n->St j s.heap->s.heap.get? B=some (cU J c)->Ta g j J ->
 (∀v h' tk,QT g n d v->(∀b o,b∉wr->b≠B->s.heap.get? b=some o->h'.get? b=some o)->R (.ok (.ret v)) { s with heap:=h',toks:=tk }) ->
 codeAny (model P w) A (.builtin "min.loop" ⟨[.ref it,.none,.ref B],[(("default":ϥ),d)]⟩) R s:=by
 have X:=λh=>hB (W.sub _ h)
 have O:(toString "min"++toString ".loop":String)="min.loop":=by lk
 have ab:=CmpOf.ints_lt (prog:=P) (w:=w) (A:=A.in1) g hg;intro k;induction k with
 | zero =>
   intro j s J c hk hj st ho hh q;have e:j=n:=by lia
   grind[nJ]
 | succ k ih =>
   intro j s J c hk hj st ho hh q;have z:j<n:=by lia
   refine Gq F.entry_min_loop ?_;rw[F7 Eh _];refine A5 (m:=seqItems? (.ref B)) (Dy ho U ?_);rcases hh with⟨rfl,rfl⟩|⟨m,t,rfl,hl⟩
   .refine A5 (m:=tryCatch (pyNext (.ref it)) _) (G5 (W.item 0 s _ _ z st λv h' tk hP I r=>?_));have y:=r B _ X ho;obtain⟨t,rfl⟩:=hg 0 v hP;refine A5 (m:=updateSeq B (λ_=>#[.int (g 0) t,.int (g 0) t])) (Ea y U ?_);rw[O];refine Ak ⟨Fq Eh _,ih 1 _ _ _ (by lia) z (W.frame _ _ _ I λb S o e=>?_) (Cc _ y U) (.inr ⟨g 0,t,U,.one⟩) λv T G H C=>?_⟩
    .grind[Heap.get?_update_other]
    .exact q v T G H λb o a p e=>C b o a p ((Bh _ _ (Cr p)).trans (r b o a e))
   .refine A5 (m:=tryCatch (pyNext (.ref it)) _) (G5 (W.item j s _ _ z st λv h' tk hP I r=>?_));have y:=r B _ X ho;obtain⟨L,rfl⟩:=hg j v hP;have aa:∀(Y:ϟ) (Q:ϊ) (E:ϊ),Q (.bool (decide (g j<m))) Y->wpAny (model P w) A.in1 (richCompare .Lt (.int (g j) L) (.int m t)) Q E Y:=λY Q E h =>
     richCompare_gives (op:=.Lt) (Jw Y _ L) (Jw Y _ t) F.slot_int_lt F.entry_int_lt (F.args_int_lt_2 _ _) (gives_int_lt _ _ L t) (λx=>nomatch x) h
    refine A5 (m:=tryCatch (holding [_,_] (richCompare .Lt (.int (g j) L) (.int m t) >>= _)) _) (G5 (C9 (A5 (aa _ _ _ (A5 (C9 (Ci (A5 (F8 (Ak ?_))))))))));by_cases Z:g j<m
    .rw[Ab Z];simp only[Iw];refine A5 (m:=updateSeq B (λ_=>#[.int (g j) L,.int (g j) L])) (Ea y U (A5 (F8 ?_)));rw[O];refine Ak ⟨Fq Eh _,ih (j+1) _ _ _ (by lia) z (W.frame _ _ _ I λb S o e=>?_) (Cc _ y U) (.inr ⟨g j,L,U,hl.yes Z⟩) λv T G H C=>?_⟩
     .exact(Bh _ _ (λh:B=b=>hB (h ▸ S))).trans e
     .exact q v T G H λb o a p e=>C b o a p ((Bh _ _ (Cr p)).trans (r b o a e))
    .rw[Aj Z];simp only[E6,G2];refine A5 (F8 ?_);rw[O];exact Ak ⟨Fq Eh _,ih (j+1) _ _ _ (by lia) z I y (.inr ⟨m,t,U,hl.no Z⟩) λv T G H C=>q v T G H λb o a p e=>C b o a p (r b o a e)⟩
end
section
variable {P:ϣ}{w:Ϣ}{A:Around}{E:ϊ}{s:ϟ}
def nL(a d):argsOk "min" ⟨[a],[(("default":ϥ),d)]⟩:=by unfold argsOk;kernel_rfl
def nM{id}{f}{xs}{c}{Q}(k1:builtinKind id=none)(k2:plainId id=true)(k3:entryFor table id=some f)(i:argsOk id ⟨xs,c⟩)
 (k5:wpAny (model P w) A.in1 (f ⟨xs,c⟩) (λz a=>match z with
   | .done y=>(match (Except.ok y:Result)with|.ok (.ret v)=>Q v a|.ok _=>False|.error e=>E e a)
   | .again y=>y.quiet=true/\codeAny (model P w) A y (λr a=>match r with|.ok (.ret v)=>Q v a|.ok _=>False|.error e=>E e a) a) E s) :
 wpAny (model P w) A (call (.builtin id) xs c) Q E s:=by
 refine F4 (F9 k2 k3 ?_);simp only[checkBuiltinCall,k1];cases e:Manifest.signature? id with
 | none=>exact Ak k5
 | some sg =>
   have d:Bind.checkArgs id sg ⟨xs,c⟩=pure ():=by simpa only[argsOk,e]using i
   simp only[d];exact Ak k5
def nN(C:A.handled=none)(k:s.heap.IsList l its)(z:∀(i) (v),its[i]?=some v->∃t,v=Value.int (g i) t)(q:∀v h' c,QT g its.size d v->(∀b o,s.heap.get? b=some o->h'.get? b=some o)->Q v { s with heap:=h',toks:=c }) :
 wpAny (model P w) A (call (.builtin "min") [.ref l] [(("default":ϥ),d)]) Q E s:=by
 have r:(toString "min"++toString ".loop":String)="min.loop":=by lk
 have a:l<s.heap.objs.size:=by obtain⟨_,e,_⟩:=k;exact As e
 refine nM F.kind_min F.plain_min F.entry_min (nL _ _) (A5 (m:=Builtin.Builtins.bindParams "min" ["key","default"] 0 ⟨[],[(("default":ϥ),d)]⟩) (wpAny_of_eq (U) (A5 (Ak (A5 (m:=pyIter (.ref l)) (F0 k (A5 (D8 ?_))))))));rw[r];have j:(s.heap.push { cls:=.type "list_iterator",data:=.fields #[.ref l,.int 0 0] }).objs.size=s.heap.objs.size+1:=Ck ..;refine Ak ⟨Fq Eh _,nK (Walks.list (prog:=P) (w:=w) (A:=A.in1) C s.heap.objs.size l (Bn a) its) g z _ ?_ d its.size 0 _ #[] 0 U (B8 _) ?_ (Bc _ U) (.inl ⟨U,U⟩) λv h' c y B=>?_⟩
 .grind
 .exact⟨⟨_,A7 _ (Bc _ U),U,U⟩,(k.push _).push _⟩
 .refine q v h' c y λb o e=>B b o ?_ ?_ (A7 _ (A7 _ e))
  .intro p;rcases Al.mp p with G|p
   .exact absurd (G ▸ As e) (Cy _)
   .cases p
  .rw[j];exact Bn (Iy (As e))
end
def PB:ϓ->ϑ|[]=>none|x::r=>some (r.foldl (λa b=>if b<a then b else a) x)
theorem cV:∀(r:ϓ) (x),(r.foldl (λa b=>if b<a then b else a) x=x\/r.foldl (λa b=>if b<a then b else a) x∈r)/\r.foldl (λa b=>if b<a then b else a) x<=x/\∀y∈r,r.foldl (λa b=>if b<a then b else a) x<=y|[],x=>⟨.inl U,Dj _,λ_ h=>nomatch h⟩|z::r,x=>by refine ED (λc k j=>?_) (cV r (if z<x then z else x));rw[Ft];have i:(if z<x then z else x)=x\/(if z<x then z else x)=z:=(by split<;>simp);refine IQ ?_ (by lia) (λy d=>?_);rcases c with c|c;rcases i with e|e;exact .inl (c.trans e);exact .inr (by rw[c,e];exact Aa);exact .inr (Ac _ c);rcases Al.mp d with rfl|d;lia;exact j y d
def HQ:PB xs=some m↔m∈xs/\∀y∈xs,m<=y:=by cases xs with|nil=>exact⟨λh=>(by cases h),λh=>absurd h.1 Bl⟩|cons x r =>obtain⟨p,s,v⟩:=cV r x;have d:r.foldl (λa b=>if b<a then b else a) x∈x::r:=(by grind);have c:∀y∈x::r,r.foldl (λa b=>if b<a then b else a) x<=y:=λy o=>(by grind);constructor;intro h;cases h;exact⟨d,c⟩;intro ⟨e,i⟩;have j:=i _ d;have k:=c _ e;show some _=some m;grind
section
variable {X:Cx}
def X7(K:ϡ):V->Hp->VK->Prop:=λv H Q=>∃a c,v=.ref a/\AC K H a (c.map V.int)/\Q (Mt.DW (PB c)) H
def nO:bootBuiltins "min"=some (.builtin "min"):=by room
def nP:bootBuiltins "max"=some (.builtin "max"):=by room
def nQ(hc:X.calm=true)(hg:Gl X "min")(hm:X.mg "min"=none)(he:PE X e te)(h1:backTo o (starEach [e] X.env)=(false,eval e X.env)::backTo o (starEach [] X.env):=by rfl)(h2:(backTo o (starEach [e] X.env)).any (·.1)=false:=by rfl)(h3:starEach [e] X.env=(false,eval e X.env)::starEach [] X.env:=by rfl) :
 PE X (.Call (.Name "min" p) [e] [⟨some "default",.Constant .none p0 p2,aa⟩] o) (λG H Q=>te G H λv C=>X7 X.K v C Q):=by
 intro r s G H Q I h;refine Ca (Os I hg hm nO (callWith_kw (BH ((AD he AI h3) o r s G H (λJ C=>match J with|[v]=>X7 X.K v C Q|_=>False) I h) λus s1 ⟨J,C,I1,S,B⟩=>?_) h1 h2) (by lk) (by lk));match J,S,B with
 | [],_,B=>exact B.elim
 | _::_::_,_,B=>exact B.elim
 | [v],S,B =>
 refine AS (λu c ru=>?_) (LW S);subst c;refine BH ((kX QB kW) o r s1 G C (λzs P=>zs=[.non]/\P=C) I1 ⟨U,U⟩) λws s2=>IK λzs P W rz e1 e2=>?_;subst e1 e2;refine AS (λw' c L=>?_) (LW rz);subst c;cases L;revert B;refine GL λa E k hq q=>?_;subst k;cases ru;refine DN (λT Z pl hz=>?_) (W.list hq);have hi:=WI Z;have at_:∀(i:Nat) (v:Ϟ),T.toArray[i]?=some v->∃t,v=Value.int (E.getD i 0) t:=λi v e=>by
  rw[G8]at e
  refine AS (λx h4 h5=>?_) (UO Z e);refine AS (λz c h6=>?_) (Ox h4);subst c;rw[Bf,h6];exact h5
 refine nN (g:=λi=>E.getD i 0) (d:=.none) (W.ok.hd hc) pl.isList at_ λv h' tk Y hk=>?_;rw[B5,hi.length]at Y
 have val:∃R,BE R v/\R=Mt.DW (PB E):=by
  rcases Y with⟨e,rfl⟩|⟨m,t,rfl,⟨i,ab,e⟩,hl⟩
  .have:E=[]:=Cq.mp e;subst this;exact AU .non U U
  .refine AU (.int m) ⟨t,U⟩ ?_;have:PB E=some m:=HQ.mpr ⟨?_,λy hy=>?_⟩
   .rw[this];rfl
   .grind
   .obtain⟨j,hj,rfl⟩:=C7 hy
    grind
 revert val;refine AS λR O k=>?_;subst k;exact BY _ P (W.kept hk) O q
noncomputable def Tb:ϓ->ϑ|[]=>none|x::r=>some (r.foldl (λa b=>if b > a then b else a) x)
theorem cW:∀(r:ϓ) (x),(r.foldl (λa b=>if b > a then b else a) x=x\/r.foldl (λa b=>if b > a then b else a) x∈r)/\x<=r.foldl (λa b=>if b > a then b else a) x/\∀y∈r,y<=r.foldl (λa b=>if b > a then b else a) x|[],x=>⟨.inl U,Dj _,λ_ h=>nomatch h⟩|z::r,x=>by refine ED (λc k j=>?_) (cW r (if z > x then z else x));rw[Ft];have i:(if z > x then z else x)=x\/(if z > x then z else x)=z:=(by split<;>simp);refine IQ ?_ (by lia) (λy d=>?_);rcases c with c|c;rcases i with e|e;exact .inl (c.trans e);exact .inr (by rw[c,e];exact Aa);exact .inr (Ac _ c);rcases Al.mp d with rfl|d;lia;exact j y d
def HR:Tb xs=some m↔m∈xs/\∀y∈xs,y<=m:=by cases xs with|nil=>exact⟨λh=>(by cases h),λh=>absurd h.1 Bl⟩|cons x r =>obtain⟨p,s,v⟩:=cW r x;have d:r.foldl (λa b=>if b > a then b else a) x∈x::r:=(by grind);have c:∀y∈x::r,y<=r.foldl (λa b=>if b > a then b else a) x:=λy o=>(by grind);constructor;intro h;cases h;exact⟨d,c⟩;intro ⟨e,i⟩;have j:=i _ d;have k:=c _ e;show some _=some m;grind
def nR(hc:X.calm=true):KU X (.builtin "max") (λxs H Q=>∃p ns m,xs=[.ref p]/\AC X.K H p (ns.map V.int)/\Tb ns=some m/\Q (.int m) H):=by refine λC s σ H xs us Q I r=>GA λp ns m=>FY λd J B q=>?_;subst d;refine AS (λu c ru=>?_) (LW r);subst c;cases ru;refine DN (λO R T hz=>?_) (I.list J);have E:=WI R;obtain⟨xs,e⟩:=E.allInts.items;have o:ns=xs.toList.map (·.1):=(by rw[<-E.numsOf,<-nums_intItems,<-e]);obtain⟨W,y⟩:=HR.mp B;have z:0<xs.size:=(by grind);have a:=T.isList;rw[e]at a;refine max_intList (I.ok.hd hc) a z λv h' tk Z G=>?_;obtain⟨t,rfl⟩:=intItems_at Z;obtain⟨g1,L⟩:=argBest_gt (numAt xs) (xs.size-1);have Y:numAt xs (argBest (λi j=>decide (numAt xs i > numAt xs j)) (xs.size-1))=m:=(by have a1:numAt xs (argBest (λi j=>decide (numAt xs i > numAt xs j)) (xs.size-1))∈ns:=(by rw[o,numAt_eq];exact getD_mem (by rw[A3,Au];lia));have a2:=y _ a1;have k:=W;rw[o]at k;refine AS (λj hj S=>?_) (mem_getD k);rw[A3,Au]at hj;have P:=L j (by lia);rw[numAt_eq,S]at P;lia);rw[Y];exact BY (.int m) H (I.kept G) ⟨t,U⟩ q
end
section
variable {X:Cx}(K:ϡ) (hK:X.K=K)
include hK
theorem nS(y:X.calm=true)(i:Gl X "min")(s:X.mg "min"=none)(he:PE X e te)(j:backTo a (starEach [e] X.env)=(false,eval e X.env)::backTo a (starEach [] X.env):=by rfl)(d:(backTo a (starEach [e] X.env)).any (·.1)=false:=by rfl)(o:starEach [e] X.env=(false,eval e X.env)::starEach [] X.env:=by rfl) :
 PE X (.Call (.Name "min" p) [e] [⟨some "default",.Constant .none B z,c⟩] a) (λr H Q=>te r H λv k=>X7 K v k Q):=by subst hK;exact nQ y i s he j d o
theorem nT(a:X.calm=true):KU X (.builtin "max") (λxs H Q=>∃p ns m,xs=[.ref p]/\AC K H p (ns.map V.int)/\Tb ns=some m/\Q (.int m) H):=by subst hK;exact nR a
end
section
variable {X:Cx}{a b:Ϧ}{rest:ϗ}{pos:Pos}{ta tb:TE}(K:ϡ) (hK:X.K=K)
include hK
end
def X8{ws:ώ}{i:Nat}{y}(h:(ws.map V.str)[i]?=some y):∃x,y=.str x/\ws[i]?=some x:=by rw[An]at h;cases e:ws[i]? with|none=>rw[e]at h;cases h|some z=>rw[e]at h;exact⟨z,(B0 h).symm,U⟩
def cX{d:Type}(f)(xs:ϩ d)(a b:Nat)(h:b<=xs.length):DV (xs.map f) (some (a)) (some (b))=((xs.take b).drop a).map f:=by unfold DV;rw[HT.QK,HT.QK,A3,E9 h,<-Jc,<-Gf,List.drop_take];by_cases c:a<=xs.length;rw[E9 c];rw[Nat.min_eq_right (by lia),K0 (A9 _),K0 (by lia)];simp
end L2
namespace Ln
open PySem L2
def misfit(sp m lo a:Int):Int:=if m*a<sp then sp-m*a else if 0<sp-m*lo then 0 else sp-m*lo
noncomputable def FV (sp m lo a d:Int) (c:Bool):ϑ:=if c=true/\0<=sp-m*a then some 0 else if misfit sp m lo d=0 then some ((sp-m*a)*(sp-m*a))else none
def X9(e:c=true)(d:0<=sp-m*a):FV sp m lo a i c=some 0:=B1 ⟨e,d⟩
def cY(h:m*lo<=m*a):misfit sp m lo a=0↔m*lo<=sp/\sp<=m*a:=by grind[misfit]
def nU(h:¬(c=true/\0<=sp-m*a))(d:misfit sp m lo e=0):FV sp m lo a e c=some ((sp-m*a)*(sp-m*a)):=by unfold FV;rw[Av h,B1 d]
def nV(h:¬(c=true/\0<=sp-m*a))(d:¬misfit sp m lo e=0):FV sp m lo a e c=none:=by unfold FV;rw[Av h,Av d]
def nW{m a:Int}(d:0<=m)(i:m<=1000)(e:0<=a)(c:a<=1000):0<=m*a/\m*a<=1000000:=by refine⟨Ig d e,?_⟩;have j:=Ek c d;lia
def cZ(zs:ϓ)(ms lo a d:Int)(c:Bool):ϑ:=FV (ms-List.sum zs) ((zs.length:Int)-1) lo a d c
theorem UX:∀{zs:ϓ}{B},0<=B->(∀z∈zs,0<=z/\z<=B)->0<=List.sum zs/\List.sum zs<=zs.length*B|[],B,_,_=>⟨Dj _,by simp⟩|z::zs,B,c,h=>by obtain⟨j,d⟩:=UX (zs:=zs) c λy a=>h y (Ac _ a);obtain⟨k,i⟩:=h z Aa;rw[Du,Bb];refine⟨by lia,?_⟩;have e:(((zs.length+1:Nat):Int))*B=zs.length*B+B:=(by rw[Fv,Int.add_mul];show _+1*B=_;rw[Int.one_mul]);lia
abbrev UY(ws:ώ):PyData:=.list (ws.map PyData.str)
theorem UZ:∀{ws:ώ},(∀x∈ws,PyData.canLay0 (.str x)=true)->HZ K H (ws.map V.str) (ws.map PyData.str)|[],_=>.nil|x::ws,h=>.cons (.str _ (h x Aa)) (UZ λy a=>h y (Ac _ a))
def nX(ws:ώ)(e:PyData)(h:PyData.depthAll (ws.map PyData.str)=0):min (PyData.list (ws.map PyData.str)).depth e.depth<=64:=by have q:(PyData.list (ws.map PyData.str)).depth=PyData.depthAll (ws.map PyData.str)+1:=U;lia
theorem d6:∀ws:ώ,PyData.depthAll (ws.map PyData.str)=0|[]=>rfl|x::ws=>by show max (PyData.str x).depth (PyData.depthAll (ws.map PyData.str))=0;rw[d6 ws];rfl
def nY(ws)(e:PyData):min (UY ws).depth e.depth<=64:=nX ws e (d6 ws)
end Ln
namespace L2
open PySem PySem.Spec PyProof.Rows
def ML(lo st:Int)(n:Nat):It:=⟨λi _=>i<n,λi H x a=>a=H/\x=.int (lo+i*st),λi _=>n<=i⟩
def nZ{P:ϣ}{w:Ϣ}{K:ϡ}{tg:Ϧ}(c:Ϡ)(lo st:Int)(n:Nat):LS P w K tg (ML lo st n) [c] c (λi h=>IsRangeIter h c (lo+(i:Nat)*st) ((n:Int)-(i:Nat)) st) where
 mem:=by simp
 obj:=λi h q b d=>by
  have e:b=c:=by simpa using d
  subst e;exact⟨_,q,λv z=>by
   have Y:Data.fields _=Data.cell v:=z;cases Y⟩
 keep:=λi h j q k=>k c (by simp) _ q
 item:=by
  intro X O C hK Q i a s S H E I p q r;subst O C hK;refine FZ (λy B f2 L J G=>?_) (p c (by simp));refine(Walks.range (prog:=X.prog) (w:=X.w) (I.ok.hd Q) c lo st n).item i s _ _ r q λv j R hv T kk=>?_;obtain⟨t,rfl⟩:=hv;have Z:AG X a S H { s with heap:=j,toks:=R }:=I.turned (λb o d e=>kk b o (by simpa using d) e) y B L J G;exact AU _ U (SG (s:={ s with heap:=j,toks:=R }) (n:="range_iterator") T U U (by lk) ⟨.int (lo+i*st),H,Z,⟨t,U⟩,⟨U,U⟩,T,λb d=>(p b d).1⟩)
 done:=by
  intro X O C hK Q i a s S H E I p q r;subst O C hK;refine FZ (λy B f2 L J G=>?_) (p c (by simp));exact wpAny_pyNext_range_end (I.ok.hd Q) q (by have:n<=i:=r;lia) λj eb=>⟨U,I.turned (t':=s.toks) (λb o d e=>eb b o d e) y B L J G⟩
 self:=λ_ _ _ _ _ q h=>wpAny_pyIter_rangeiter q h
section
variable {X:Cx}{tg:Ϧ}
def GR(a b c:Int):Nat:=(Builtin.Range.rangeSize a b c).toNat
def d7(a b c)(h:c≠0):0<=Builtin.Range.rangeSize a b c:=by unfold Builtin.Range.rangeSize;split;split;have:=Gr (show 0<=b-a-1 by lia) (show 0<=c by lia);lia;lia;split;have:=Gr (show 0<=a-b-1 by lia) (show 0<=-c by lia);lia;lia
def d8(n:Nat):GR ((n)-1) (-1) (-1)=n:=by unfold GR Builtin.Range.rangeSize;lia
def o6(d:TA):TI:=λe H R=>d e H λa c=>∃i j k:Int,a=[.int i,.int j,.int k]/\(-1000000<=i/\i<=1000000/\-1000000<=j/\j<=1000000)/\(k≠0/\-1000<=k/\k<=1000)/\R (ML i k (GR i j k)) c
def o7(v:-1000000<=i)(p:i<=1000000)(z:-1000000<=j)(s:j<=1000000)(a:k≠0)(o:-1000<=k)(y:k<=1000):Builtin.Range.small i j k=true:=by have d:=d7 i j k a;have c:Builtin.Range.rangeSize i j k<=2000001:=(by unfold Builtin.Range.rangeSize;split;split;have:=Jm (b:=k) (show 0<=j-i-1 by lia);lia;lia;split;have:=Jm (b:=-k) (show 0<=i-j-1 by lia);lia;lia);unfold Builtin.Range.small;generalize Builtin.Range.rangeSize i j k=r at d c⊢;have e:(if k > 0 then Builtin.Range.rangeFitsLong (j+(k-1))else Builtin.Range.rangeFitsLong (j+(k+1)))=true:=(by split<;>simp only[Builtin.Range.rangeFitsLong,Ar,L4]<;>lia);rw[e];simp only[Builtin.Range.rangeFitsLong,Ar,Fg,L4,and_true];lia
def o9{u}(I:AG X a σ H s)(d:Builtin.Range.small i j k=true)(z:k≠0)(q:R (ML i k (GR i j k)) H):wpAny (model X.prog X.w) X.A (pyIter (.ref s.heap.objs.size)) (Uw X a σ tg R) E { s with heap:=s.heap.push { cls:=.type "range",data:=.fields #[.int i t,.int j u,.int k v] },toks:=p }:=by refine wpAny_pyIter_range (IsRange.new ..) d ?_;generalize y:s.heap.push { cls:=.type "range",data:=.fields #[.int i t,.int j u,.int k v] }=g;have c:AG X a σ H { s with heap:=g,toks:=p }:=I.kept λb o e=>(by rw[<-y];exact A7 _ e);refine DC g.objs.size [g.objs.size] _ _ H (IR U (c.kept (t':=p) λb o e=>A7 _ e) (nZ _ i k (GR i j k)) ?_ (λb r=>?_) q);have C:i+((0:Nat):Int)*k=i:=(by simp);have B:((GR i j k:Nat):Int)-((0:Nat):Int)=Builtin.Range.rangeSize i j k:=(by have:=d7 i j k z;unfold GR;lia);show IsRangeIter _ _ (i+((0:Nat):Int)*k) (((GR i j k:Nat):Int)-((0:Nat):Int)) k;rw[C,B];exact Bc _ U;have e:b=g.objs.size:=(by simpa using r);subst e;exact c.ŷ (A9 _) (c.Ê.fresh (A9 _))
def d9(L:Gl X "range")(hm:X.mg "range"=none)(ha:PA X [a,b,c] T)(Y:starEach [a,b,c] X.env=[(false,eval a X.env),(false,eval b X.env),(false,eval c X.env)]:=by rfl)(o:starEach [b,c] X.env=[(false,eval b X.env),(false,eval c X.env)]:=by rfl) :
 PI X tg (.Call (.Name "range" p) [a,b,c] [] y) (o6 T):=by
 intro e s Z H R I h;refine Call_ (Os I L hm boot_range (C8 (BH (ha y e s Z H _ I h) λus s1 ⟨vs,H1,G,E,P⟩=>?_) (by rw[Y,o]) (by rw[o];rfl)));obtain⟨i,j,k,rfl,⟨Q,C,W,O⟩,⟨v,h6,S⟩,q⟩:=P;cases E with
 | cons r d =>
   cases d with
   | cons B d =>
     cases d with
     | cons z d =>
       cases d;obtain⟨t,rfl⟩:=r;obtain⟨t',rfl⟩:=B;obtain⟨J,rfl⟩:=z;exact call_range_3 v (o9 G (o7 Q C W O v h6 S) v q) (Or.inl (Ju (by lia)))
end
def oa{lo st}{n}{g:TG}{tb:TS}{D:GP}{a}{H}(Pv:Nat->St->Hp->Prop)(v:Pv 0 a H)
 (z:∀i a H,i<n->Pv i a H->g (.int (lo+i*st)) a H λj r=>tb { D with nx:=Pv (i+1),ct:=Pv (i+1),bk:=D.nx } j r) (hd:∀a H,Pv n a H->D.nx a H) :
 ∃W:Nat->Nat->St->Hp->Prop,(∃m,W 0 m a H)/\∀i m a H,W i m a H ->
  ((ML lo st n).stop i H/\D.nx a H)\/((ML lo st n).go i H/\∃N:St->Hp->Prop,(∀d k,N d k->∃s,s<m/\W (i+1) s d k)/\∀x k,(ML lo st n).yld i H x k->g x a k λj r=>tb { D with nx:=N,ct:=N,bk:=D.nx } j r):=by
 refine AU (λi m a H=>m=n-i/\i<=n/\Pv i a H) ⟨n,by simp,B8 _,v⟩ ?_;refine λi m a H=>ED λo C p=>?_;subst o;by_cases c:i<n
 .refine .inr ⟨c,Pv (i+1),λd k B=>⟨n-(i+1),by lia,U,c,B⟩,λx k y=>?_⟩;obtain⟨e,y⟩:=y;subst e y;exact z i a _ c p
 .have e:i=n:=by lia
  subst e;exact .inl ⟨A9 _,hd a H p⟩
end L2
namespace Br
open PySem L2
structure Mf where
 zs:ϓ
 ms:Int
 lo:Int
 ý:Int
 hi:Int
abbrev Mf.n(p:Mf):Nat:=p.zs.length
def Mh(zs:ϓ)(i j:Nat):ϓ:=(zs.take j).drop i
def da(h:j<=zs.length):(Mh zs i j).length=j-i:=by unfold Mh;rw[Cu,Ao,E9 h]
def dc(a:i<=j)(h:zs[j]?=some z):Mh zs i (j+1)=Mh zs i j++[z]:=by obtain⟨d,e⟩:=Ap.mp h;unfold Mh;rw[Am,h,List.drop_append];have c:i-(zs.take j).length=0:=(by rw[Ao];lia);rw[c];rfl
def og(zs)(i):Mh zs i i=[]:=by unfold Mh;rw[Ke,Ao];lia
def lc(p:Mf)(i j:Nat):ϑ:=Ln.cZ (Mh p.zs i j) p.ms p.lo p.ý p.hi (decide (j=p.n))
def IZ:ϑ->ϑ->ϑ|some a,some b=>some (a+b)|_,_=>none
def PD(p:Mf)(f:Nat->ϑ)(i m:Nat):ϓ:=(List.range m).filterMap λk=>IZ (lc p i (i+1+k)) (f (i+1+k))
def MM(p:Mf)(f:Nat->ϑ)(i:Nat):ϑ:=PB (PD p f i (p.n-i))
def RT{a:Type}(g:Nat->Ϩ a)(m):(List.range (m+1)).filterMap g=(List.range m).filterMap g++(g m).toList:=by rw[List.range_succ,Ex];congr 1
def Tc(p)(f)(i m):PD p f i (m+1)=PD p f i m++(IZ (lc p i (i+1+m)) (f (i+1+m))).toList:=RT _ m
def oh(h:∀k,k<m->f (i+1+k)=g (i+1+k)):PD p f i m=PD p g i m:=by induction m with|zero=>rfl|succ m a=>rw[Tc,Tc,a λk c=>h k (by lia),h m (by lia)]
def Xa{p}{f g}{i}(h:∀k,k<p.n-i->f (i+1+k)=g (i+1+k)):MM p f i=MM p g i:=Bt PB (oh h)
structure JJ(p:Mf)(f:Nat->ϑ)(k:Nat):Prop where
 last:f p.n=some 0
 rest:∀i,k<=i->i<p.n->f i=MM p f i
def JJ.uniq{p}{f g}{k}(c:JJ p f k)(o:JJ p g k):∀d i,p.n-i=d->k<=i->i<=p.n->f i=g i:=by intro d;induction d using Nat.strongRecOn with|ind d r =>intro i hd a v;by_cases e:i=p.n;subst e;rw[c.last,o.last];rw[c.rest i a (by lia),o.rest i a (by lia)];exact Xa λj s=>r (p.n-(i+1+j)) (by lia) (i+1+j) U (by lia) (by lia)
def Mi(p:Mf)(a:ϩ (ϩ GO×V))(D:Nat->Nat->Prop):Prop:=∀i j:Nat,i<j->j<=p.n->(D i j->DX a [.inl (i:Int),.inl (j:Int)]=(lc p i j).map V.int)/\(¬D i j->DX a [.inl (i:Int),.inl (j:Int)]=none)
def V0(p:Mf)(a:ϩ (ϩ GO×V)):Prop:=∀i j:Nat,i<j->j<=p.n->DX a [.inl (i:Int),.inl (j:Int)]=(lc p i j).map V.int
theorem Mi.all(h:Mi p c λa _=>a<p.n):V0 p c:=λi j d e=>(h i j d e).1 (by lia)
def Mi.nil(p):Mi p [] λa _=>a<0:=λi j _ _=>⟨λh=>absurd h (E3 _),λ_=>U⟩
def Mi.iff{p}{a}{D E}(h:Mi p a D)(e:∀i j,i<j->j<=p.n->(D i j↔E i j)):Mi p a E:=λi j c d=>by
 have o:=h i j c d;have k:=e i j c d;exact⟨λz=>o.1 (k.mpr z),λz=>o.2 λy=>z (k.mp y)⟩
def PF{i j a b:Nat}:([Sum.inl (i),Sum.inl (j)]:ϩ GO)=[Sum.inl (a:Int),Sum.inl (b)]↔i=a/\j=b:=by constructor;intro h;have c:=Cz h;have d:=Sum.inl.inj c.1;have e:=Sum.inl.inj (Cz c.2).1;lia;rintro⟨rfl,rfl⟩;rfl
def Mi.put{p}{d}{i k}{c}(h:Mi p d λa b=>a<i\/(a=i/\b<i+1+k))(s:lc p i (i+1+k)=some c) :
 Mi p (GH d [.inl (i),.inl ((i+1+k:Nat):Int)] (.int c)) λa b=>a<i\/(a=i/\b<i+1+(k+1)):=λa b j r=>by
 have o:=h a b j r;by_cases e:a=i/\b=i+1+k
 .obtain⟨rfl,rfl⟩:=e;refine⟨λ_=>?_,λz=>absurd (.inr ⟨U,by lia⟩) z⟩;rw[cP,B1 U,s];rfl
 .have ne:¬([Sum.inl (a:Int),Sum.inl (b:Int)]:ϩ GO)=[Sum.inl (i:Int),Sum.inl ((i+1+k:Nat):Int)]:=λz=>e (PF.mp z)
  rw[cP,Av ne];exact⟨λz=>o.1 (by lia),λz=>o.2 (by lia)⟩
def Mi.skip(h:Mi p c λa b=>a<i\/(a=i/\b<i+1+k))(r:lc p i (i+1+k)=none) :
 Mi p c λa b=>a<i\/(a=i/\b<i+1+(k+1)):=λa b j o=>by
 have d:=h a b j o;by_cases e:a=i/\b=i+1+k
 .obtain⟨rfl,rfl⟩:=e;refine⟨λ_=>?_,λz=>absurd (.inr ⟨U,by lia⟩) z⟩;rw[d.2 (by lia),r];rfl
 .exact⟨λz=>d.1 (by lia),λz=>d.2 (by lia)⟩
def oj(hz:p.zs[i+k]?=some z):Ln.FV (p.ms-List.sum (Mh p.zs i (i+k))-z) (k) p.lo p.ý p.hi (decide (i+1+k=p.n))=lc p i (i+1+k):=by obtain⟨d,_⟩:=Ap.mp hz;unfold lc Ln.cZ;have e:i+1+k=i+k+1:=(by lia);rw[e,da (by lia),dc (by lia) hz,Gs];have c:(((i+k+1-i:Nat):Int))-1=k:=(by lia);rw[c];have a:p.ms-(List.sum (Mh p.zs i (i+k))+List.sum [z])=p.ms-List.sum (Mh p.zs i (i+k))-z:=(by rw[Du,List.sum_nil];lia);rw[a]
noncomputable def IB (p:Mf) (f:Nat->ϑ) (i m:Nat):ϩ (Int×Nat):=(List.range m).filterMap λk=>(IZ (lc p i (i+1+k)) (f (i+1+k))).map λc=>(c,i+1+k)
noncomputable def ends (p:Mf) (f:Nat->ϑ) (i m:Nat):ϔ:=(List.range m).filterMap λk=>(IZ (lc p i (i+1+k)) (f (i+1+k))).map λ_=>i+1+k
def V1{a:Type}(g:Nat->Ϩ a)(m):((List.range m).filterMap g).length<=m:=by have:=Jd g (List.range m);rwa [List.length_range]at this
def om(p)(f)(i m):(IB p f i m).map (·.1)=PD p f i m:=by induction m with|zero=>rfl|succ m a =>unfold IB PD at a⊢;rw[RT,RT,Ae,a];congr 1;cases IZ (lc p i (i+1+m)) (f (i+1+m))<;>rfl
def de(p)(f)(i m):(IB p f i m).map (·.2)=ends p f i m:=by induction m with|zero=>rfl|succ m a =>unfold IB ends at a⊢;rw[RT,RT,Ae,a];congr 1;cases IZ (lc p i (i+1+m)) (f (i+1+m))<;>rfl
def dh(h:x∈IB p f i m):i<x.2/\x.2<=i+m/\∃a b,lc p i x.2=some a/\f x.2=some b/\x.1=a+b:=by unfold IB at h;refine AS (λk j e=>?_) (E5.mp h);have j:=Dx.mp j;cases c:lc p i (i+1+k)with|none=>rw[c]at e;cases e|some a =>cases d:f (i+1+k)with|none=>rw[c,d]at e;cases e|some b =>rw[c,d]at e;have e:=B0 e;subst e;exact⟨by show i<i+1+k;lia,by show i+1+k<=i+m;lia,a,b,c,d,U⟩
def RU(H:Hp)(v:V)(x:Int×Nat):Prop:=∃a,v=.ref a/\H a=some (.tup [.int x.1,.int (x.2:Int)])
def di(h:Paired (RU H) xs ys)(s:AA H c):Paired (RU c) xs ys:=Paired.Æ h λ_ _ ⟨a,e,z⟩=>⟨a,e,s _ _ z⟩
def oo(h:Paired (RU H) xs zs)(c:H l=some ys)(d:∀z,ys≠.tup z):Paired (RU (upd H l o)) xs zs :=Paired.Æ h λx p ⟨t,e,a⟩=>⟨t,e,by rw[BJ (HB a c λz=>d _ z.symm)];exact a⟩
def dj{tb:ϩ ϑ}{i j}{v}(a:i<tb.length):(tb.set i v).getD j none=if j=i then v else tb.getD j none:=by rw[Bf,Bf,F1];by_cases e:i=j;subst e;rw[B1 U,B1 U,B1 a];rfl;rw[Av e,Av (λz=>e z.symm)]
def JJ.set{p}{tb:ϩ ϑ}{i}(h:JJ p (λj=>tb.getD j none) (i+1))(r:tb.length=p.n+1)(s:i<p.n):JJ p (λj=>(tb.set i (MM p (λj=>tb.getD j none) i)).getD j none) i:=by have e:∀j,i<j->(tb.set i (MM p (λj=>tb.getD j none) i)).getD j none=tb.getD j none:=λj d=>(by rw[dj (by lia),Av (by lia)]);refine⟨?_,λj d o=>?_⟩;show(tb.set i _).getD p.n none=some 0;rw[e p.n (by lia)];exact h.last;show(tb.set i _).getD j none=_;by_cases c:j=i;subst c;rw[dj (by lia),B1 U];exact Xa λk a=>(e (j+1+k) (by lia)).symm;rw[e j (by lia),h.rest j (by lia) o];exact Xa λk a=>(e (j+1+k) (by lia)).symm
def JW(p:Mf)(f:Nat->ϑ)(i e:Nat):Prop:=i<e/\e<=p.n/\∃a b,lc p i e=some a/\f e=some b/\f i=some (a+b)
def Qm(p:Mf)(f:Nat->ϑ)(i e:Nat):Prop:=JW p f i e/\∀a,JW p f i a->a<=e
def Qm.uniq{p}{f}{i e a}(h:Qm p f i e)(h':Qm p f i a):e=a:=Nat.le_antisymm (h'.2 e h.1) (h.2 a h'.1)
def oq(z:JJ p f k)(y:k<=i)(C:i<p.n)(B:f i≠none):∃e,JW p f i e:=by have d:=z.rest i y C;cases o:MM p f i with|none=>rw[o]at d;exact absurd d B|some m =>rw[o]at d;obtain⟨s,_⟩:=HQ.mp o;unfold PD at s;obtain⟨j,v,e⟩:=E5.mp s;have v:=Dx.mp v;cases c:lc p i (i+1+j)with|none=>rw[c]at e;cases e|some a =>cases r:f (i+1+j)with|none=>rw[c,r]at e;cases e|some b =>rw[c,r]at e;have e:=B0 e;exact⟨i+1+j,by lia,by lia,a,b,c,r,by rw[d,e]⟩
inductive DO (p:Mf) (f:Nat->ϑ):Nat->ϔ->Prop
 | done:DO p f p.n []
 | step {i e:Nat}{bs:ϔ}:i<p.n->Qm p f i e->DO p f e bs->DO p f i (e::bs)
def DO.uniq{p}{f}{i}{bs}(h:DO p f i bs):∀{cs},DO p f i cs->bs=cs:=by induction h with|done =>(intro cs h;cases h with|done=>rfl|step a _ _=>exact absurd a (Cy _))|step a j _ d =>intro cs h;cases h with|done=>exact absurd a (Cy _)|step o c k =>have e:=j.uniq c;subst e;rw[d k]
def JW.congr(h:∀i,i<=p.n->f i=g i)(r:i<=p.n)(x:JW p f i e):JW p g i e:=by obtain⟨j,c,a,b,o,d,k⟩:=x;exact⟨j,c,a,b,o,by rw[<-h e c];exact d,by rw[<-h i r];exact k⟩
def Qm.congr(h:∀i,i<=p.n->f i=g i)(a:i<=p.n)(x:Qm p f i e):Qm p g i e :=⟨x.1.congr h a,λd y=>x.2 d (y.congr (λj c=>(h j c).symm) a)⟩
def DO.congr(h:∀i,i<=p.n->f i=g i)(x:DO p f i bs):DO p g i bs:=by induction x with|done=>exact .done|step a d _ c=>exact .step a (d.congr h (Fd a)) c
def DO.mem(x:DO p f i bs):∀e∈bs,e<=p.n:=by induction x with|done=>intro e h;cases h|step j c _ a =>intro d h;rcases Al.mp h with rfl|h;exact c.1.2.1;exact a d h
theorem DO.len(x:DO p f i bs):bs.length+i<=p.n:=by induction x with|done=>simp|step d a _ c =>have:=a.1.1;rw[Bb];lia
def ot:(x∈IB p f i (p.n-i)/\f i=some x.1)->JW p f i x.2:=by rintro⟨j,e⟩;obtain⟨m1,m2,a,b,c,k,d⟩:=dh j;exact⟨m1,by lia,a,b,c,k,by rw[e,d]⟩
def ou(h:JW p f i e):∃c,(c,e)∈IB p f i (p.n-i)/\f i=some c:=by
 obtain⟨s,r,a,b,o,j,k⟩:=h;refine⟨a+b,?_,k⟩;unfold IB;refine E5.mpr ⟨e-i-1,Dx.mpr (by lia),?_⟩;have d:i+1+(e-i-1)=e:=by lia
 rw[d,o,j];rfl
end Br
namespace L2
open PySem PySem.Spec PyProof.Rows
section
variable {X:Cx}{pins:ύ}{σ:St}{H:Hp}{s:ϟ}{h':Ϥ}
def AG.zM{t'}{ch:ϖ}(I:AG X pins σ H s)(k:∀b u,b∉ch->s.heap.get? b=some u->h'.get? b=some u)(d:∀b∈ch,EB X pins H b):AG X pins σ H { s with heap:=h',toks:=t' }:=by
 have p:∀b u,H b=some u->b∉ch:=λb u e z=>by rw[(d b z).1]at e;cases e
 refine I.step (g':=s.gens) (d':=s.drawn) (ch:=ch) (λb j=>?_) (λb u _ _ a e _=>k b u a e) (λb u _ _ a e _=>⟨u.slots,k b u a e⟩)
  (λ_ _ _ _ n=>n) (λb u a e=>⟨u,k b u a e⟩) (λ_ _ e=>e) (λ_ _ _ e=>e) (λb P e=>⟨#[],by rw[e];simp⟩) (λm E=>?_) (λb u e=>?_) I.bare
 refine FZ (λO o Q L J B=>?_) (d b j);exact GC L o J B;revert E;refine Oq λi C G y r=>?_;exact JH i C G (LG (k _ i (λz=>(d _ z).2.1 U) y) r);refine(I.Ê b u e).Ũ (λc v a q=>k c v ?_ q) (λ_ q=>q) λ_ _ q=>q;grind
end
def Xb(K:ϡ)(a b:Ϡ):It :=⟨λi H=>∃d c x y,AC K H a d/\AC K H b c/\d[i]?=some x/\c[i]?=some y,λi H v e=>∃t x y,v=.ref t/\H t=none/\(∀d,AC K H a d->d[i]?=some x)/\(∀c,AC K H b c->c[i]?=some y)/\e=upd H t (.tup [x,y]),λi H=>∃d c,AC K H a d/\AC K H b c/\(d.length<=i\/c.length<=i)⟩
def ox{P:ϣ}{w:Ϣ}{K:ϡ}{es:ϗ}{k1:Nat}{tp:Pos}(a b z TI TO G C:Ϡ)(D:ZipApart z TI TO G C a b) :
 LS P w K (.Tuple es k1 tp) (Xb K a b) [z,TO,G,C,TI] z (λi h=>IsZip h z TI TO .none/\IsPair h TI (.ref G) (.ref C)/\(∃u v,IsPair h TO u v)/\h.IsListIter G a i/\h.IsListIter C b i) where
 mem:=by simp
 obj:=λi h st c j=>by
  obtain⟨e1,e2,⟨u,v,e3⟩,⟨o4,e4,c4,d4⟩,⟨o5,e5,c5,d5⟩⟩:=st;simp only[Al,Bl,Dd]at j;rcases j with rfl|rfl|rfl|rfl|rfl
  .refine AU _ e1 (λv q=>?_);have q':Data.fields _=Data.cell v:=q;cases q'
  .refine AU _ e3 (λv q=>?_);have q':Data.seq _ _=Data.cell v:=q;cases q'
  .exact AU o4 e4 (λv q=>by rw[d4]at q;cases q)
  .exact AU o5 e5 (λv q=>by rw[d5]at q;cases q)
  .refine AU _ e2 (λv q=>?_);have q':Data.seq _ _=Data.cell v:=q;cases q'
 keep:=λi h h' st k=>by
  obtain⟨e1,e2,⟨u,v,e3⟩,e4,e5⟩:=st;exact MX (k z (by simp) _ e1) (k TI (by simp) _ e2) ⟨u,v,k TO (by simp) _ e3⟩ (e4.at λo e=>k G (by simp) o e) (e5.at λo e=>k C (by simp) o e)
 item:=by
  intro X hP hw hK j i r s σ H E I hf st hg;subst hP hw hK;revert hg;refine HX λxs ys x y=>FY λR Q hx hy=>?_;refine DN (λap rx px ah=>?_) (I.list R);refine DN (λai ry py ao=>?_) (I.list Q);refine AS (λux ak aj=>?_) (rx.get hx);refine AS (λuy af ag=>?_) (ry.get hy);obtain⟨Y,B,⟨u,v,O⟩,L,J⟩:=st;have ae:z<s.heap.objs.size:=As Y;refine wpAny_pyNext_zip_item D Y B O L J px.isList py.isList (x:=ux) (y:=uy) (by simpa using ak) (by simpa using af) λh1 aq Z ab aa am ar ac=>⟨_,U,?_⟩
  refine wpAny_letOwnedTupleGo_zip aq λh2 al p=>?_
  replace p:Heap.SameBut z h1 h2:=p
  have an:h2.get? s.heap.objs.size=some { cls:=.type "tuple",data:=.seq #[ux,uy] }:=(p.2 _ (E4 ae)).trans am;have kk:∀c o,c∉[z,TO,G,C]->s.heap.get? c=some o->h2.get? c=some o:=λc o j q=>by
   have n1:c≠z:=λe=>j (by simp[e])
   have n2:c≠TO:=λe=>j (by simp[e])
   have n3:c≠G:=λe=>j (by simp[e])
   have n4:c≠C:=λe=>j (by simp[e])
   exact(p.2 c n1).trans (ac c o n1 n2 n3 n4 q)
  have hn:H s.heap.objs.size=none:=I.Ê.fresh (A9 _);have S:∀c∈[z,TO,G,C],EB X r H c:=λc j=>hf c (by
   simp only[Al,Bl,Dd]at j⊢;rcases j with e|e|e|e<;>simp[e])
  have I2:AG X r σ (upd H s.heap.objs.size (.tup [x,y])) { s with heap:=h2,toks:=s.toks } :=
   I.Ŝ kk S (A9 _) ⟨C5 U,[ux,uy],.cons aj (.cons ag .nil),⟨_,an,U,0,U⟩⟩
  have T:IsPair h2 TI (.ref G) (.ref C):=(p.2 _ D.TIz).trans (ac TI _ D.TIz D.TITO D.TIi1 D.TIi2 B);refine⟨.ref s.heap.objs.size,_,I2,U,⟨_,x,y,U,hn,λzs h=>by rw[I.Ĩ h R];exact hx,λzs h=>by rw[I.Ĩ h Q];exact hy,U⟩,
   ⟨al,T,⟨ux,uy,(p.2 _ D.TOz).trans Z⟩,ab.extBut p.extBut D.i1z,aa.extBut p.extBut D.i2z⟩,λc j=>?_⟩
  rw[BJ]
  .exact(hf c j).1
  .have lt:∀d o,s.heap.get? d=some o->d≠s.heap.objs.size:=λd o e=>Bn (As e)
   revert L;refine AS λo4 e4 _=>?_;revert J;refine AS λo5 e5 _=>?_;simp only[Al,Bl,Dd]at j;rcases j with rfl|rfl|rfl|rfl|rfl
   .exact lt _ _ Y
   .exact lt _ _ O
   .exact lt _ _ e4
   .exact lt _ _ e5
   .exact lt _ _ B
 done:=by
  intro X hP hw hK j i r s σ H E I hf st hg;subst hP hw hK;revert hg;refine GL λxs ys R Q hx=>?_;refine DN (λap rx px ah=>?_) (I.list R);refine DN (λai ry py ao=>?_) (I.list Q);obtain⟨Y,B,⟨u,v,O⟩,L,J⟩:=st;have as:=rx.length;have au:=ry.length;refine wpAny_pyNext_zip_end (I.ok.hd j) D Y B O L J px.isList py.isList ?_ λh' eb=>⟨U,?_⟩
  .rcases hx with h|h
   .exact .inl (by simp;lia)
   .exact .inr (by simp;lia)
  .have S:∀c∈[z,TO,G,C],EB X r H c:=λc j=>hf c (by
    simp only[Al,Bl,Dd]at j⊢;rcases j with e|e|e|e<;>simp[e])
   exact I.zM (t':=s.toks) (λc o j q=>eb c o (λe=>j (by simp[e])) (λe=>j (by simp[e])) (λe=>j (by simp[e])) (λe=>j (by simp[e])) q) S
 self:=λ_ _ _ _ _ st h=>Jn st.1 h
def dm:bootBuiltins "zip"=some (.type "zip"):=by room
section
variable {X:Cx}{es:ϗ}{k1:Nat}{tp:Pos}
def Td(K:ϡ)(j:TA):TI:=λk H R=>j k H λd c=>∃a b,d=[.ref a,.ref b]/\(∃i,AC K c a i)/\(∃e,AC K c b e)/\R (Xb K a b) c
def oy{a b}{P}{p v}(Z:Gl X "zip")(hm:X.mg "zip"=none)(ha:PA X [a,b] P)(hs:starEach [a,b] X.env=[(false,eval a X.env),(false,eval b X.env)]:=by rfl)(r:starEach [b] X.env=[(false,eval b X.env)]:=by rfl) :
 PI X (.Tuple es k1 tp) (.Call (.Name "zip" p) [a,b] [] v) (Td X.K P):=by
 intro o s σ H R I h;refine Ca (Os I Z hm dm (C8 (BH (ha v o s σ H _ I h) λus d ⟨vs,H1,k,Y,q1⟩=>?_) (by rw[hs,r]) (by rw[r];rfl)));obtain⟨S,T,rfl,⟨xs,C⟩,⟨ys,G⟩,q⟩:=q1;refine GL (λu1 u2 j L J=>?_) (Wv Y);subst j;cases L;cases J;refine DN (λaa rx O ac=>?_) (k.list C);refine DN (λaf ry W ae=>?_) (k.list G);have a1:S<d.heap.objs.size:=by obtain⟨_,e,_⟩:=O.isList;exact As e
 have a2:T<d.heap.objs.size:=by obtain⟨_,e,_⟩:=W.isList;exact As e
 refine call_zip_2 O.isList W.isList λh' Q z E y B ab hk=>Jn Q ⟨d.heap.objs.size+4,[d.heap.objs.size+4,d.heap.objs.size+3,d.heap.objs.size,d.heap.objs.size+1,d.heap.objs.size+2],_,_,H1,U,k.kept (t':=d.toks) hk,ox S T _ _ _ _ _ (zipApart_new a1 a2),⟨Q,z,⟨_,_,E⟩,y,B⟩,λc hc=>?_,q⟩
 have i:d.heap.objs.size<=c:=by
  grind
 exact k.ŷ i (k.Ê.fresh i)
end
def dq{K}{a b}{xs ys}{g}{tc}{C}{D}{c}{H}{Q}(I:ys.length<=xs.length)(Pv)(E:Pv 0 [] c (upd H D (.lst [])))(J:∀i zs c H,i<=ys.length->Pv i zs c H->AC K H a xs/\AC K H b ys)
 (O:∀i x y t zs c H,xs[i]?=some x->ys[i]?=some y->i<ys.length->Pv i zs c H->H t=none->g (.ref t) c (upd H t (.tup [x,y])) λd G=>tc d G λb B=>if b=true then C d B (Pu D ys.length i Pv d)else Qk ys.length i Pv d B)
 (hd:∀zs c H,Pv ys.length zs c H->Q (.ref D) H) :
 Qj (Xb K a b) g tc C D Q c H:=by
 refine AU (λi m c H=>m=ys.length-i/\i<=ys.length/\∃zs,Pv i zs c H) ⟨ys.length,by simp,B8 _,[],E⟩ ?_;rintro i m c H ⟨rfl,P,zs,p⟩;obtain⟨s,z⟩:=J i zs c H P p;by_cases j:i<ys.length
 .have r:i<xs.length:=by lia
  refine .inr ⟨⟨xs,ys,xs[i],ys[i],s,z,by simp[r],by simp[j]⟩,λv T y=>?_⟩;revert y;refine Qb λt x y k S R L o=>?_;subst k;subst o;exact O i x y t zs c _ (R xs s) (L ys z) j p S
 .have e:i=ys.length:=by lia
  subst e;exact .inl ⟨⟨xs,ys,s,z,.inr (A9 _)⟩,hd zs c H p⟩
section
variable {X:Cx}(K:ϡ) (hK:X.K=K)
include hK
theorem dr(o:Gl X "zip")(d:X.mg "zip"=none)(i:PA X [a,b] j)(k:starEach [a,b] X.env=[(false,eval a X.env),(false,eval b X.env)]:=by rfl)(c:starEach [b] X.env=[(false,eval b X.env)]:=by rfl) :
 PI X (.Tuple r k1 s) (.Call (.Name "zip" p) [a,b] [] e) (Td K j):=by subst hK;exact oy o d i k c
end
end L2
namespace Lns
open PySem L2
def ND(no:Ϡ)(H:Hp)(v:V)(ws:ώ):Prop:=∃p,v=.ref p/\p≠no/\H p=some (.lst (ws.map V.str))
def ND.same(h:ND no H v ws)(s:AA H a):ND no a v ws:=let ⟨p,e,n,h⟩:=h;⟨p,e,n,s _ _ h⟩
def Xc(h:Paired (ND no H) xs ls):Paired (ND no (upd H no o)) xs ls :=Paired.Æ h λ_ _ ⟨p,e,n,z⟩=>⟨p,e,n,by rw[BJ n];exact z⟩
def dt(h:Paired (ND no H) xs ls):xs.length=ls.length:=B2 h
def oz(x):("":ϥ)++x=x:=by show(⟨(#[]:Array Nat)++x.cps⟩:ϥ)=x;rw[Array.empty_append]
theorem Te(x):x++("":ϥ)=x:=by show(⟨x.cps++(#[]:Array Nat)⟩:ϥ)=x;rw[Kt]
def AE(ws:ώ):ϥ:=Txt.join " " ws
noncomputable def BW:ϩ ώ->ϥ|[]=>""|l::r=>AE l++"/"++BW r
def du(l):BW [l]=AE l++"/":=Te _
def oA:∀ls:ϩ ώ,Txt.join "" (ls.map λl=>AE l++"/")=BW ls:=by intro ls;unfold Txt.join;rw[C6];induction ls with|nil=>rfl|cons l r a =>cases r with|nil=>exact(du l).symm|cons c r =>grind[AE,Str.join,BW,Te]
def NC(ls:ϩ ώ):Prop:=ls.length<=100/\∀l∈ls,l.length<=100/\∀x∈l,x.length<=100
theorem QU{c:Type}(f)(B):∀l:ϩ c,(∀x∈l,f x<=B)->(l.map f).sum<=l.length*B|[],_=>by simp|x::l,h=>by have e:=h x Aa;have d:=QU f B l λy a=>h y (Ac _ a);rw[Bp,Du,Bb,L5];lia
def PH{a:Type}(f)(B N)(l:ϩ a)(h:∀x∈l,f x<=B)(c:l.length<=N):(l.map f).sum<=N*B :=Aw (QU f B l h) (Nat.mul_le_mul_right _ c)
def V2{l:ώ}(d:l.length<=100)(c:∀x∈l,x.length<=100):(l.map (·.length)).sum+l.length*(" ":ϥ).length<=16777216:=by
 have a:=PH (λx:ϥ=>x.length) 100 100 l c d;have e:(" ":ϥ).length=1:=by lk
 lia
def dv(d:l.length<=100)(c:∀x∈l,x.length<=100):(AE l).length<=10100:=by have a:=PH (λx:ϥ=>x.length) 100 100 l c d;have a:=a;have b:=Eo " " l;have e:(" ":ϥ).length=1:=(by lk);unfold AE Txt.join;rw[C6];lia
def oB(h:NC ls):((ls.map λl=>AE l++"/").map (·.length)).sum+(ls.map λl=>AE l++"/").length*("":ϥ).length<=16777216:=by
 rw[D7,A3];have a:=PH ((λx:ϥ=>x.length)∘λl=>AE l++"/") 10101 100 ls (λl c=>by
  obtain⟨i,d⟩:=h.2 l c;have:=dv i d;show(AE l++"/").length<=10101;rw[Ba];have e:("/":ϥ).length=1:=by lk
  have e:=e
  lia) h.1
 have e:("":ϥ).length=0:=by lk
 lia
def dw{d:Type}(f:d->V)(a)(c):DV ((a++[c]).map f) none (some (-1))=a.map f:=by have e:((a++[c]).map f).length=a.length+1:=(by rw[A3,Ag];rfl);have j:HT.DK (a.length+1) 0 none=0:=U;have i:HT.DK (a.length+1) (a.length+1) (some (-1))=a.length:=(by unfold HT.DK;simp;lia);unfold DV;grind
end Lns
namespace L2
open PySem PySem.Spec PyProof.Rows PySem.Builtin PySem.Builtin.Str
section
variable {X:Cx}
theorem dy:∀(a) (xs),AV (xs.map V.str) (strsFrom a xs)|_,[]=>.nil|a,x::r=>.cons ⟨a,U⟩ (dy (a+1) r)
def oC(x y):(partsBetween x (occurrences x y 0 x.length (x.length+1)) y.length).length<=x.length+2:=by unfold partsBetween;have:=StrLaws.occ_length_le x y 0 x.length (x.length+1);grind
def Xd(x y):(Txt.split x y).length<=x.length+2:=by have:=oC x y;unfold Txt.split;grind
def QV:V->ϩ V->Hp->VK->Prop:=λx a H Q=>∃z y,x=.str z/\a=[.str y]/\1<=y.length/\z.length<=90000/\∀D,H D=none->Q (.ref D) (upd H D (.lst ((Txt.split z y).map V.str)))
def V3:Qh X "str.split" QV:=by
 refine λp s G H O E v L Q I B z=>Q9 λx y c d r J q=>?_;subst c;subst d;obtain⟨t,rfl⟩:=B;obtain⟨C,rfl,u,rfl⟩:=LW z;have o:(y.length==0)=false:=by rw[Ef];lia
 have a:=q s.heap.objs.size I.fresh;have j:(Txt.split x y).length<=sizeLine:=Aw (Xd x y) (DG (by lia));cases i:(decide (x.length<y.length)||decide (strKind x<strKind y))
 .cases k:(occurrences x y 0 x.length (x.length+1)).isEmpty;have e:Txt.split x y=partsBetween x (occurrences x y 0 x.length (x.length+1)) y.length:=(by unfold Txt.split;lia);rw[e]at a j;exact Em Jo (Ic _ _ _) Iz (Ih _ _) (meets_str_split_sep x y t u i o k (DG (by lia)) j) ⟨.ref _,_,I.zR (dy _ _) (by rw[A3];exact j),U,a⟩
  .have e:Txt.split x y=[x]:=(by unfold Txt.split;lia);rw[e]at a
   exact Em Jo (Ic _ _ _) Iz (Ih _ _) (meets_str_split_not_found x y t u i o k)
    ⟨.ref _,_,I.zR (t':=s.toks) (its:=[.str x t]) (ys:=[.str x]) (.cons ⟨t,U⟩ .nil) (by show 1<=sizeLine;exact DG (by lia)),U,a⟩
 .have e:Txt.split x y=[x]:=(by unfold Txt.split;rw[B1 i]);rw[e]at a
  exact Em Jo (Ic _ _ _) Iz (Ih _ _) (meets_str_split_cannot_occur x y t u i)
   ⟨.ref _,_,I.zR (t':=s.toks) (its:=[.str x t]) (ys:=[.str x]) (.cons ⟨t,U⟩ .nil) (by show 1<=sizeLine;exact DG (by lia)),U,a⟩
end
end L2
namespace Lns
open PySem L2
def QW{x y:ϥ}(h:x.cps.toList=y.cps.toList):x=y:=Str.ext' (Array.toList_inj.mp h)
def IC(x y:ϥ):(x++y).cps.toList=x.cps.toList++y.cps.toList:=by rw[Str.cps_append,Gx]
theorem dz{c:Nat}:∀{a b r s:ϔ},c∉a->c∉b->a++c::r=b++c::s->a=b/\r=s
 |[],[],_,_,_,_,h=>⟨U,(Cz h).2⟩|[],y::b,_,_,_,e,h=>absurd ((Cz h).1 ▸ Aa) e
 |x::a,[],_,_,d,_,h=>absurd ((Cz h).1 ▸ Aa) d|x::a,y::b,_,_,d,e,h=>by obtain⟨k,i⟩:=Cz h;obtain⟨o,j⟩:=dz (λz=>d (Ac _ z)) (λz=>e (Ac _ z)) i;exact⟨by rw[k,o],j⟩
def dA{c:Nat}{a b r:ϔ}(d:c∉a)(h:a=b++c::r):False:=d (h ▸ Bm _ Aa)
theorem dC(c:Nat):∀(ps qs:ώ),ps≠[]->qs≠[]->(∀p∈ps,c∉p.cps.toList)->(∀p∈qs,c∉p.cps.toList)->Str.join ⟨#[c]⟩ ps=Str.join ⟨#[c]⟩ qs->ps=qs
 |[],_,h,_,_,_,_=>absurd U h|_,[],_,h,_,_,_=>absurd U h
 |[p],[q],_,_,_,_,h=>by have h:p=q:=h;rw[h]|[p],q::q2::qs,_,_,a,_,h=>by have h:p=q++⟨#[c]⟩++Str.join ⟨#[c]⟩ (q2::qs):=h;have h:=Bt (λz:ϥ=>z.cps.toList) h;simp only[IC,B4]at h;exact(dA (a p Aa) h).elim
 |p::p2::ps,[q],_,_,_,d,h=>by have h:p++⟨#[c]⟩++Str.join ⟨#[c]⟩ (p2::ps)=q:=h;have h:=Bt (λz:ϥ=>z.cps.toList) h;simp only[IC,B4]at h;exact(dA (d q Aa) h.symm).elim|p::p2::ps,q::q2::qs,_,_,a,d,h=>by have h:p++⟨#[c]⟩++Str.join ⟨#[c]⟩ (p2::ps)=q++⟨#[c]⟩++Str.join ⟨#[c]⟩ (q2::qs):=h;have h:=Bt (λz:ϥ=>z.cps.toList) h;simp only[IC,B4]at h;obtain⟨k,j⟩:=dz (a p Aa) (d q Aa) h;have i:=dC c (p2::ps) (q2::qs) (by simp) (by simp) (λx e=>a x (Ac _ e)) (λx e=>d x (Ac _ e)) (QW j);rw[QW k,i]
def oE(x y:ϥ):Txt.split x y≠[]:=by unfold Txt.split;split;simp;split;simp;rw[G1];refine Sk (StrLaws.partsFrom_ne x y.length 0 (Builtin.Str.occurrences x y 0 x.length (x.length+1))) λp r e=>?_;rw[e];simp
def Xe(c:Nat)(a:ps≠[])(d:∀p∈ps,c∉p.cps.toList):Txt.split (Str.join ⟨#[c]⟩ ps) ⟨#[c]⟩=ps :=dC c _ _ (oE _ _) a (StrLaws.split_free _ c) d (StrLaws.join_split _ _)
def Tf(ws:ώ):AE ws=Str.join ⟨#[32]⟩ ws:=by unfold AE Txt.join;rw[C6];rfl
def Tg{d:Type}(c:ϩ d)(a):DP (c++[a]) (-1)=some a:=by have h:Ov (c.length+1) (-1)=some c.length:=(by unfold Ov;grind);unfold DP;grind
def OA(H0:Hp)(no:Ϡ)(H:Hp)(v:V)(ws:ώ):Prop:=∃p,v=.ref p/\p≠no/\H0 p=none/\H p=some (.lst (ws.map V.str))
def OA.n(h:Paired (OA H0 no H) xs ls):Paired (ND no H) xs ls:=Paired.Æ h λ_ _ ⟨p,e,n,_,z⟩=>⟨p,e,n,z⟩
def oF(h:Paired (OA H0 no H) xs ls)(s:AA H a):Paired (OA H0 no a) xs ls:=Paired.Æ h λ_ _ ⟨p,e,n,f,z⟩=>⟨p,e,n,f,s _ _ z⟩
def oG(h:Paired (OA H0 no H) xs ls):Paired (OA H0 no (upd H no o)) xs ls :=Paired.Æ h λ_ _ ⟨p,e,n,f,z⟩=>⟨p,e,n,f,by rw[BJ n];exact z⟩
def dD(h:Paired (OA H0 no H) xs ls):xs.length=ls.length:=B2 h
def Th{j e:Type}{F:j->e->Prop}{a c}{b d}(x:Paired F a b)(h:Paired F c d):Paired F (a++c) (b++d):=by induction x with|nil=>exact h|cons r _ i=>exact .cons r i
def Lx(c:Nat):Bool:=!decide (c=32)&&!decide (c=47)
noncomputable def GS (rs:ϩ Cs.BS):Bool->ϔ->Bool|_,[]=>true|p,c::r=>if Lx c=true then(Cs.CV rs (sg c)).isSome&&GS rs true r else p&&GS rs false r
noncomputable def V4 (rs:ϩ Cs.BS) (a:ϔ) (i:Nat):Bool :=
 match a[i]? with
 | none=>false
 | some c=>if Lx c=true then(Cs.CV rs (sg c)).isSome else decide (0<i)&&(match a[i-1]? with|none=>false|some d=>Lx d)
theorem V5:∀{y} {p},GS rs p y=true->∀(i) c,y[i]?=some c ->if Lx c=true then(Cs.CV rs (sg c)).isSome=true else(i=0/\p=true)\/∃j d,i=j+1/\y[j]?=some d/\Lx d=true
 |[],_,_,i,c,h=>by simp at h|k::r,p,ok,0,c,h=>by have h:k=c:=(by simpa using h);subst h;unfold GS at ok;by_cases o:Lx k=true;rw[B1 o]at ok⊢;exact(Dw.mp ok).1;rw[Av o]at ok⊢;exact .inl ⟨U,(Dw.mp ok).1⟩
 |k::r,p,ok,i+1,c,h=>by have h:r[i]?=some c:=(by simpa using h);unfold GS at ok;by_cases o:Lx k=true;rw[B1 o]at ok;have a:=V5 (Dw.mp ok).2 i c h;by_cases s:Lx c=true;rw[B1 s]at a⊢;exact a;rw[Av s]at a⊢;rcases a with⟨rfl,_⟩|⟨j,d,rfl,v,hd⟩;exact .inr ⟨0,k,U,U,o⟩;exact .inr ⟨j+1,d,U,by simpa using v,hd⟩;rw[Av o]at ok;have a:=V5 (Dw.mp ok).2 i c h;by_cases s:Lx c=true;rw[B1 s]at a⊢;exact a;rw[Av s]at a⊢;rcases a with⟨_,e⟩|⟨j,d,rfl,v,hd⟩;cases e;exact .inr ⟨j+1,d,U,by simpa using v,hd⟩
def oH(ok:GS rs false a=true)(c:i<a.length):V4 rs a i=true:=by have h:=V5 ok i a[i] (A6 c);unfold V4;grind
theorem Xf:∀{w:ϔ}{p:Bool}(r:ϔ),(∀c∈w,Lx c=true/\(Cs.CV rs (sg c)).isSome=true)->GS rs p (w++r)=GS rs (p||!w.isEmpty) r|[],p,r,_=>by simp|c::w,p,r,h=>by obtain⟨i,e⟩:=h c Aa;have a:=Xf (w:=w) (p:=true) r λd hd=>h d (Ac _ hd);show GS rs p (c::(w++r))=_;(conv=>lhs;unfold GS);rw[B1 i,e,a];simp
def Ob(rs:ϩ Cs.BS)(x:ϥ):Prop:=1<=x.length/\∀c∈x.cps.toList,Lx c=true/\(Cs.CV rs (sg c)).isSome=true
def Ob.ne(h:Ob rs x):(!x.cps.toList.isEmpty)=true:=by have a:=h.1;unfold Str.length at a;grind
theorem dE(r:ϔ):∀{l:ώ}{p:Bool},l≠[]->(∀x∈l,Ob rs x)->GS rs p ((AE l).cps.toList++r)=GS rs true r
 |[],_,h,_=>absurd U h|[x],p,_,h=>by have a:=h x Aa;rw[Tf];show GS rs p (x.cps.toList++r)=_;rw[Xf r a.2,a.ne];simp
 |x::y::l,p,_,h=>by have a:=h x Aa;have c:=dE r (l:=y::l) (p:=false) (by simp) λz d=>h z (Ac _ d);rw[Tf]at c⊢;have e:(Str.join ⟨#[32]⟩ (x::y::l)).cps.toList++r=x.cps.toList++(32::((Str.join ⟨#[32]⟩ (y::l)).cps.toList++r)):=(by show(x++⟨#[32]⟩++Str.join ⟨#[32]⟩ (y::l)).cps.toList++r=_;rw[IC,IC,B4,B4];rfl);rw[e,Xf _ a.2,a.ne];(conv=>lhs;unfold GS);rw[Av (by lk),c];simp
theorem V6:∀{ls:ϩ ώ}{p:Bool},(∀l∈ls,l≠[]/\∀x∈l,Ob rs x)->GS rs p (BW ls).cps.toList=true|[],_,_=>rfl|l::r,p,h=>by obtain⟨d,c⟩:=h l Aa;have a:=V6 (ls:=r) (p:=false) λz i=>h z (Ac _ i);have e:(BW (l::r)).cps.toList=(AE l).cps.toList++(47::(BW r).cps.toList):=(by show(AE l++"/"++BW r).cps.toList=_;rw[IC,IC,B4];rfl);rw[e,dE _ d c];unfold GS;rw[Av (by lk),a];rfl
theorem dF:∀(ls:ϩ ώ),ls≠[]->∃a,(BW ls).cps.toList=a++[47]
 |[],h=>absurd U h| [l],_=>⟨(AE l).cps.toList,by
    rw[du,IC];rfl⟩
 |l::l2::r,_=>by obtain⟨a,e⟩:=dF (l2::r) (by simp);refine⟨(AE l++"/").cps.toList++a,?_⟩;show(AE l++"/"++BW (l2::r)).cps.toList=_;rw[IC,e,B4]
end Lns
namespace L2
open PySem PySem.Spec PyProof.Rows
section
variable {M:Model}{A:Around}{E:ϊ}{s:ϟ}
def Ti(S:ϖ)(ch:ϖ)(h h':Ϥ):Prop:=∀b o,h.get? b=some o->b∉ch->(b∉S->h'.get? b=some o)/\∃a,h'.get? b=some { o with slots:=a }
def oI(o:Obj)(f):(o.mapFields f).dict=o.dict:=by obtain⟨c,d,a,e⟩:=o;cases a<;>rfl
def Nh(P:Ϥ->Ϟ->Prop)(h:Ϥ)(e:Ϡ)(cls:Ϟ)(d:ϒ):Prop :=∃a c hd,h.get? e=some a/\a.cls=cls/\a.dict=d/\a.data=.fields c/\(c[1]?=some hd/\c[2]?=some .none)/\P h hd
def HE(F:ϝ)(e:Ϡ)(x:Ϟ)(h:Ϥ)(hd:Ϟ):Prop:=∃T c a,hd=.ref T/\F T/\T≠e/\h.get? T=some c/\c.data=.fields a/\a[3]?=some x
def dG(ū:A.frames=some (env::outer))(I:s.heap.FunFrames base (env::outer))(P:env.frame=some L)(he:s.heap.get? e=some H)(hd:H.data=.fields vs)(hsz:1<vs.size)(C:vs[2]?=some .none)(h:∀h',s.heap.objs.size<=h'.objs.size->Ti ((env::outer).filterMap (·.frame)) [e] s.heap h'->Nh (HE (λb=>s.heap.objs.size<=b) e (rawInt L)) h' e H.cls H.dict->Q () { s with heap:=h' }) :
 wpAny M A (do let a <- frameOf env;let pl <- entryPlaceOf L hadNext;let b <- EntryCells.newEntry k a .none (rawInt L) .none pl;setField (.ref e) 1 b) Q E s:=by
 have v:e∉(env::outer).filterMap (·.frame):=λT=>by
  obtain⟨_,o,Y,J⟩:=I.mem T
  grind
 refine A5 (wpAny_frameOf_fun ū I P λc d=>A5 (wpAny_entryPlaceOf λpl B=>?_));unfold EntryCells.newEntry newFields;refine A5 (D8 ?_ (B.sizeOk5 _ _ _ _ _));have i:=(d.2.1 e v).trans he;have j:=A7 (h:=c) { cls:=.type "traceback",dict:=none,data:=.fields ([k,.ref L,.none,rawInt L,.none]++(if pl.isEmpty then List.replicate 6 Value.none else pl)).toArray } i;refine Kf j hd hsz ?_;have y:=E4 (As i);have p:=Obj.data_mapFields hd (·.setIfInBounds 1 (Value.ref c.objs.size));have r:=(Bh (c.push { cls:=.type "traceback",dict:=none,data:=.fields ([k,.ref L,.none,rawInt L,.none]++(if pl.isEmpty then List.replicate 6 Value.none else pl)).toArray })
  (Obj.mapFields (·.setIfInBounds 1 (Value.ref c.objs.size))) (Cr y)).trans (Bc c U)
 have z:=d.1;refine h _ ?_ ?_ ?_
 .simp_all
 .intro b o G S;have X:=λq=>S (Ah.mpr q)
  have keep:∀o,c.get? b=some o->((c.push { cls:=.type "traceback",dict:=none,data:=.fields ([k,.ref L,.none,rawInt L,.none]++(if pl.isEmpty then List.replicate 6 Value.none else pl)).toArray }).update e (Obj.mapFields (·.setIfInBounds 1 (Value.ref c.objs.size)))).get? b=some o:=λo G=>by
   simp_all[Bh,Cr,A7]
  refine⟨λW=>keep o ((d.2.1 b W).trans G),?_⟩;obtain⟨O,R⟩:=d.2.2 b o G;exact⟨O,keep _ R⟩
 .exact⟨_,_,.ref c.objs.size,Cc (Obj.mapFields (·.setIfInBounds 1 (Value.ref c.objs.size))) j (Obj.isFreed_of_fields p),Obj.cls_mapFields _ _,oI _ _,p,⟨by simp[hsz],by rw[Array.getElem?_setIfInBounds_ne (by lk)];exact C⟩,c.objs.size,_,_,U,El z.symm,y,r,U,by simp⟩
def Nh.mono(x:Nh P h e cls i)(f:∀hd,P h hd->P' h hd):Nh P' h e cls i :=
 let ⟨oe,vs,hd,a,b,c,d,g,p⟩:=x
 ⟨oe,vs,hd,a,b,c,d,g,f hd p⟩
def HE.mono{hd}(t:HE F e x h hd)(f:∀b,F b->F' b):HE F' e x h hd :=
 let ⟨T,oT,ts,a,b,c⟩:=t
 ⟨T,oT,ts,a,f T b,c⟩
def Tj(F:ϝ)(e L:Ϡ)(h:Ϥ)(hd:Ϟ):Prop:=hd=.none\/∃x,HE F e x h hd
def QX(F:ϝ)(h:Ϥ)(ch:ϖ):Prop:=∀b∈ch,F b/\∃o a,h.get? b=some o/\o.data=.fields a
def oJ(S ch)(h):Ti S ch h h:=λ_ o e _=>⟨λ_=>e,o.slots,e⟩
def oK(ū:A.frames=some (env::outer))(hl:s.heap.FunFrames base (env::outer))(W:env.frame=some L)(Z:∀b,s.heap.objs.size<=b->F b)(R:F e)(H:Nh (Tj F e L) s.heap e cls dx)(h:∀h' ch,QX F s.heap ch->s.heap.objs.size<=h'.objs.size->Ti ((env::outer).filterMap (·.frame)) ch s.heap h'->Nh (HE F e (rawInt L)) h' e cls dx->Q () { s with heap:=h' }) :
 wpAny M A (noteFrame (.ref e) env) Q E s:=by
 revert H;refine GA λoe P hd=>FZ λJ I B i z hp=>?_;subst I;subst B;have C:=(Fb.mp z.1).1;unfold noteFrame;simp only[W];refine A5 (Ct J i z.1 ?_);rcases hp with rfl|⟨x,T,oT,ts,rfl,S,G,O,j,v⟩
 .rw[Av (by lk)];exact dG ū hl W J i C z.2 λh' X r H=>h h' [e] (λb c=>by rw[Ah.mp c];exact⟨R,_,_,J,i⟩) X r (H.mono λhd t=>t.mono Z)
 by_cases p:(x==rawInt L)=true
 .rw[B1 (by simp)];refine A5 (Ct O j v ?_);rw[B1 p];have v:ts[3]?=some (rawInt L):=by rw[v,eq_of_beq p]
  exact Ak (h s.heap [] (λb c=>nomatch c) (A9 _) (oJ _ _ _) ⟨oe,P,_,J,U,U,i,z,T,oT,ts,U,S,G,O,j,v⟩)
 .rw[B1 (by simp)];refine A5 (Ct O j v ?_);rw[Av p];refine A5 (Kf O j (Fb.mp v).1 ?_);have a:∀b,b≠T->(s.heap.update T (Obj.mapFields (·.setIfInBounds 3 Value.none))).get? b=s.heap.get? b:=λb c=>Bh _ _ (Cr c)
  have d:∀b o,s.heap.get? b=some o->(∀P,o.data≠.fields P)->b≠T:=λb o c y q=>by
   grind
  have k:(s.heap.update T (Obj.mapFields (·.setIfInBounds 3 Value.none))).objs.size=s.heap.objs.size:=G6 ..;refine dG (s:={ s with heap:=s.heap.update T (Obj.mapFields (·.setIfInBounds 3 Value.none)) }) ū (hl.of_keeps λb o c y=>⟨o,(a b (d b o c y)).trans c,U⟩) W ((a e (Cr G)).trans J) i C z.2 λh' X r H=>h h' [e,T] (λb c=>?_) (Aw (El k.symm) X) (λb o c hn=>?_) (H.mono λhd t=>t.mono λb c=>Z b (Aw (El k.symm) c))
  .grind
  .have Y:b≠T:=λq=>hn (by rw[q];exact Ac _ Aa)
   exact r b o ((a b Y).trans c) λq=>hn (by rw[Ah.mp q];exact Aa)
def oM(H:F e)(J:Nh (HE F e x) s.heap e cls O)(h:∀h' ch,QX F s.heap ch->s.heap.objs.size<=h'.objs.size->Ti S ch s.heap h'->Nh (HE F e (fr.elim .none λf=>rawInt f)) h' e cls O->Q () { s with heap:=h' }) :
 wpAny M A (setFlight (.ref e) fr) Q E s:=by
 obtain⟨G,C,hd,B,rfl,rfl,d,z,T,P,R,rfl,j,p,v,c,I⟩:=J;unfold setFlight;refine A5 (Ct B d z.1 ?_);rw[B1 (by simp)];have i:=(Fb.mp I).1;refine Kf v c i (h _ [T] (λb r=>by rw[Ah.mp r];exact⟨j,_,_,v,c⟩) (El (G6 ..).symm) (λb o r L=>?_) ?_)
 .have y:T≠b:=λq=>L (by rw[q];exact Aa)
  have k:=(Bh s.heap (Obj.mapFields (·.setIfInBounds 3 (fr.elim Value.none λf=>rawInt f))) y).trans r;exact⟨λ_=>k,o.slots,k⟩
 .have a:=Obj.data_mapFields c (·.setIfInBounds 3 (fr.elim Value.none λf=>rawInt f));exact⟨G,C,_,(Bh _ _ p).trans B,U,U,d,z,T,_,_,U,j,p,Cc _ v (Obj.isFreed_of_fields a),a,by simp[i]⟩
end
def Oc(X:Cx)(H:Hp)(b:Ϡ):Prop:=X.Ã.heap.objs.size<=b/\H b=none/\∀p∈X.pn,p.1≠b
section
variable {X:Cx}{pins:ύ}{σ:St}{H:Hp}{s:ϟ}
def oN{H}(c:FO P w H h)(k:∀b o,h.get? b=some o->H b≠none->h'.get? b=some o):FO P w H h':=λa o e =>
 (c a o e).Ũ (λb u d q=>k b u q (by
   rcases d with rfl|d
   .rw[e];exact λz=>nomatch z
   .rw[d];exact λz=>nomatch z)) (λ_ q=>q) λ_ _ q=>q
def AG.exc(I:AG X [] σ H s)(r:QX (Oc X H) s.heap ch)(st:Ti (Mw X.stack) ch s.heap h'):AG X [] σ H { s with heap:=h' }:=by
 have j:∀b,H b≠none->b∉ch:=λb a q=>a (r b q).1.2.1;have i:∀b,H b≠none->b∉Mw X.stack:=λb a q=>a (I.Ś b q)
 refine AG.call' (ch:=ch) I U ⟨λb o q _ a d=>(st b o q d).1 a,λb o q _ _ d=>(st b o q d).2,λ_ _ _ q _=>q,λb o q d=>?_,λ_ _ q=>q,λ_ _ _ q=>q,λb G q=>⟨#[],by rw[Kt];exact q⟩⟩
  (oN I.Ê λb o q a=>(st b o q (j b a)).1 (i b a)) I.bare λb a=>?_
 obtain⟨J,z⟩:=(st b o q d).2;exact⟨_,z⟩;obtain⟨⟨y,E,R⟩,o,L,P,hd⟩:=r b a;refine⟨.inr y,λq=>?_,λx c C q=>?_,λp O=>?_⟩;obtain⟨m,⟨B,Q,S,k,e,_⟩,_⟩:=I.loc;lia;obtain⟨v,B,k,e⟩:=I.cell x c C;lia;grind
end
def IL(X:Cx)(E:St->XK)(d:Ϟ)(s:ϟ):Prop:=∃e cls a c H L,d=.ref e/\X.env.frame=some L/\AG X [] c H s/\Oc X H e/\Nh (Tj (Oc X H) e L) s.heap e cls a/\E c cls a H
abbrev Mr(P:ϣ)(w:Ϣ):Ou:=λouter H s E i a=>∃e cls d c,i=.ref e/\a.os=s.os/\AllBare a.gens/\Un (Mw outer) [] H c s.heap a.heap/\FO P w c a.heap /\
 (s.heap.objs.size<=e/\c e=none)/\Nh (HE (λb=>s.heap.objs.size<=b/\c b=none) e .none) a.heap e cls d/\E cls d c
section
variable {X:Cx}{pins:ύ}{σ:St}{H:Hp}{s:ϟ}
def AG.zw(I:AG X pins σ H s):AG X [] σ H s:=⟨I.ok,I.os,I.bare,I.base,I.loc,I.cell,I.free,I.å,λp a=>I.pin p (Ce _ (by rwa [Aq]at a)),I.Ê,I.len⟩
def AG.pnlt(I:AG X pins σ H s)(h:s.heap.objs.size<=b):∀p∈X.pn,p.1≠b:=λp a q=>by
 have:=As (I.pin p (Ce _ a)).1;exact absurd (Bs this h) (by rw[q];exact Cy _)
def AG.fr0(I:AG X pins σ H s)(h:s.heap.objs.size<=b):Oc X H b:=⟨Aw I.sz h,I.Ê.fresh h,I.pnlt h⟩
def Xg(hA:A.frames=some X.stack)(a:X.stack=X.env::X.outer)(h:IL X E j s)(q:∀h' e cls d σ H L,j=.ref e->X.env.frame=some L->AG X [] σ H { s with heap:=h' }->Oc X H e->Nh (HE (Oc X H) e (rawInt L)) h' e cls d->E σ cls d H->Q () { s with heap:=h' }) :
 wpAny M A (noteFrame j X.env) Q N s:=by
 revert h;refine EK λe cls d σ H=>OV λL=>FZ λc k I p z v=>?_;subst c;have o:=I.stack;rw[a]at hA o
 exact oK hA o k (λb r=>I.fr0 r) p z λh' B y C st i=>q h' e cls d σ H L U k (I.exc y (by rw[a];exact st)) p i v
def V7(I:AG X [] σ H s)(he:Oc X H e)(i:Nh (HE (Oc X H) e x) s.heap e cls d)(q:∀h',AG X [] σ H { s with heap:=h' }->Nh (HE (Oc X H) e (fr.elim .none λf=>rawInt f)) h' e cls d->Q () { s with heap:=h' }) :
 wpAny M A (setFlight (.ref e) fr) Q N s :=
 oM (S:=Mw X.stack) he i λh' _ c _ st a=>q h' (I.exc c st) a
def Xh(i:X.stack=X.env::X.outer):PassesOwn M X.A X.env (IL X E):=by intro P s h;have hA:=let ⟨_,_,_,_,_,_,_,_,I,_⟩:=h;I.ok.frames;refine Xg hA i h λj e cls G σ H L d k I p o z=>?_;subst d;obtain⟨R,Q,hd,B,W,C,c,v,T,O,S,rfl,r⟩:=id o;unfold cameBackBy;refine A5 (Ct (s:={ s with heap:=j }) B c v.1 ?_);rw[Av (show ¬((Value.ref T==Value.none)=true)from by simp),k];exact V7 (s:={ s with heap:=j }) (fr:=some L) I p o λJ y a=>⟨e,cls,G,σ,H,L,U,k,y,p,a.mono λhd t=>.inr ⟨_,t⟩,z⟩
def IT.wishTo{E'}{st}{t}(h:IT (X.Ñ E') st t)(c:∀e s,E' e s->X.xe e s):IT X st t:=λpins s σ H D I a =>Co (h pins s σ H D (I.Ñ _) a) (λ_ _ q=>q.Ë) c
end
def dH(sp:Sp)(E:St->XK)(t:TA):TE:=λa H Q=>t a H λc d=>sp c d Q (E a)
section
variable {X:Cx}{k:Nat}{f L:Ϡ}{fd:FuncData}{ps:ώ}{sp:Sp}{E:St->XK}{x:ϥ}{p pos:Pos}{e:Ϧ}{es:ϗ}{t:TA}
def dI(P:X.env.frame=some L)(F:CF X.prog X.w X.K X.mg X.base (Mr X.prog X.w) k f fd ps sp)(T:CK k X.A)(d:MC X.K fd ps [])(I:AG (X.Ñ (IL X E)) a σ H s)(r:AV vs us)(h:sp vs H Q (E σ)):wpAny (model X.prog X.w) X.A (call (.ref f) us) (EP (X.Ñ (IL X E)) a σ Q) (IL X E) s:=by have S:(us++[]).length=ps.length:=(by rw[Aq,<-r.length];exact F.len _ _ _ _ h);have j:=d s us I.ď S;rw[Aq]at j;refine F4 (Ec (F.run X.A X.stack s H ⟨us,[]⟩ us vs Q (E σ) T I.env0 j r h) λr C c=>?_);cases r with|error Z =>(have c:=c;obtain⟨e,cls,Y,B,rfl,O,i,un,v,⟨y,G⟩,W,R⟩:=c;have o:=I.Ë;have J:AG X a σ B C:=o.call' (ch:=[]) O un v i λb z=>absurd z (by simp);exact DC e cls Y σ B (MW L (IR U P J.zw ⟨Aw o.sz y,G,o.pnlt y⟩ (W.mono λhd t=>.inr ⟨_,t.mono λb d=>⟨Aw o.sz d.1,d.2,o.pnlt d.1⟩⟩) R)))|ok fl =>cases fl with|ret u=>exact I.after c|next=>exact False.elim c|brk=>exact False.elim c|cont=>exact False.elim c
def oO(y:X.env.frame=some L)(F:CF X.prog X.w X.K X.mg X.base (Mr X.prog X.w) k f fd ps sp)(z:CK k X.A)(o:Gl X x)(C:X.mg x=some (.ref f))(v:PySem.W.keepIn X.K (.ref f)=true)(j:MC X.K fd ps [])
 (G:PA (X.Ñ (IL X E)) (e::es) t) (d:(x==("__debug__":ϥ))=false:=by lk) (he:starEach (e::es) X.env=(false,eval e X.env)::starEach es X.env:=by rfl) (hpl:(backTo pos (starEach es X.env)).any (·.1)=false:=by rfl) :
 PE (X.Ñ (IL X E)) (.Call (.Name x p) (e::es) [] pos) (dH sp E t):=by
 intro a s B H Q I h;exact Ca (Qd I o C (Do (h₀:=X.base) I.ok.mod.kin v (BH (G pos a s B H _ I h) λR P c=>by obtain⟨J,O,i,r,q⟩:=c;exact⟨i.ď,dI y F z j i r q⟩) he hpl) d)
end
section
variable {P:ϣ}{w:Ϣ}{K:ϡ}{mg:ϋ}{base:Ϥ}
noncomputable abbrev oP (P:ϣ) (w:Ϣ) (K:ϡ) (mg:ϋ) (base:Ϥ) (N:ώ) (qual:ϥ) (scope:Scope) (f:Ϡ) (a:Ϟ) (A:Around) (outer:Ϛ) (s:ϟ) (H:Hp) (E:XK):Cx :=
 (HC (Mr P w) P w K mg base N qual scope f a A outer s H E).Ñ (IL (HC (Mr P w) P w K mg base N qual scope f a A outer s H E) λ_=>E)
def oQ{N}{qual}{scope}{f}{c}{A}{outer}{s}{H}{E} :
 ∀d a,IL (HC (Mr P w) P w K mg base N qual scope f c A outer s H E) (λ_=>E) d a->(HC (Mr P w) P w K mg base N qual scope f c A outer s H E).xe d a:=by
 intro d a h;show wpAny (model P w) (A.deeper (envOfC qual scope s.heap.objs.size f c)) (leaving (envOfC qual scope s.heap.objs.size f c) d) _ _ a;unfold leaving;refine A5 (Xg (X:=HC (Mr P w) P w K mg base N qual scope f c A outer s H E) (let ⟨_,_,_,_,_,_,_,_,I,_⟩:=h;I.ok.frames) U h λr e cls B J y L k G I o z v=>?_);subst k;exact V7 (s:={ a with heap:=r }) (fr:=none) I o z λC i j=>⟨e,cls,B,y,U,i.os,i.bare,i.base,i.Ê,⟨o.1,o.2.1⟩,j.mono λhd t=>t.mono λb p=>⟨p.1,p.2.1⟩,v⟩
def Po.okX{x qual}{st}{f}{j}{N ps}{k}{sp}(F:Po K x qual st f j)(S:EF N ps (AN st))(len:∀vs H Q E,sp vs H Q E->vs.length=ps.length)
 (c:∀(a) (A) (outer) (s) (H) (vs) (Q) (E),CK k (A.deeper (envOfC qual (AN st) s.heap.objs.size f a))->sp vs H Q E ->
   ∃t,IT (oP P w K mg base N qual (AN st) f a A outer s H E) (JQ st) t/\t { nx:=λ_ r=>Q .non r,rt:=Q } (start N vs) H):CF P w K mg base (Mr P w) (k+1) f j ps sp:=by
 refine Sl F.ex λy B kV doc pm=>HX λz a ct v=>ED λd o i=>?_;subst d;refine WG o i S len λA outer s H vs Q E p e=>?_;refine AS (λt h q=>?_) (c a A outer s H vs Q E p e);exact AU t (h.wishTo oQ) q
end
open PySem.W PySem.Calls
noncomputable abbrev Od:Ϗ:=[.type "ValueError",.type "Exception",.type "BaseException",.type "object"]
section
variable {prog:ϣ}{w:Ϣ}{A:Around}{R:ϛ}{h:Ϥ}{g:Array GenState}{d:Drawn}{t:Nat}{os:OsState}
variable {nm q:ϥ}{C N:Ϡ}{bs bm:Ϗ}{hdct:Bool}{sn:ώ}{sub:Ϗ}{ab:Bool}{col:Ϩ Bool}{dd:ϒ}{k0 k1 k2 k3 k5:ϐ}
noncomputable abbrev LK (C:Ϡ) (t:Ϡ) (a:ϒ):Obj:={ cls:=.ref C,dict:=a,data:=.fields #[.ref t,.none,.none,.none,.bool false,.none] }
def oR{E}{f}{mN}{rest}{Q}(T:OwnTail h Od bm)(j:h.get? C=some (excClassObj nm q C N bs bm hdct sn sub ab col dd k0 k1 k2 k3 k5 "ValueError.__new__"))(L:h.Ns N mN)
 (G:mN "__init__"=some (.ref f)) (I:∀self,Looks (model prog w) h (bindSpecial (.ref f) self) (.ref f,[self])) (i:rest.length<=sizeLine)
 (J:codeAny (model prog w) A (.call (.ref f) ⟨.ref (h.objs.size+1)::rest,[]⟩) (λr y=>match r with|.ok (.ret v)=>v=.none/\Q (.done (.ret (.ref (h.objs.size+1)))) y|.ok _=>False|.error x=>E x y)
   ⟨(h.push { cls:=.type "tuple",data:=.seq rest.toArray }).push (LK C h.objs.size none),g,d,t,os⟩) :
 wpAny (model prog w) A (Builtin.«type.__call__» ⟨.ref C::rest,[]⟩) Q E ⟨h,g,d,t,os⟩:=by
 have F:=Fc;have p:Od.contains (.type "ValueError")=true:=by lk
 repeat (first|with_reducible refine Cj j ?_|with_reducible refine wpAny_madeBy_exc j ?_|wp_step)
 refine Il (Fy _ F.quiet) (wpAny_check_new_subU F p T j (codeAny_exc_new_subU F p F T j ?_ i));show wpAny _ _ _ _ _ _;have a:=A7 { cls:=.ref C,data:=.fields #[.ref h.objs.size,.none,.none,.none,.bool false,.none] }
  (A7 { cls:=.type "tuple",data:=.seq rest.toArray } j)
 have c:((h.push { cls:=.type "tuple",data:=.seq rest.toArray }).push { cls:=.ref C,data:=.fields #[.ref h.objs.size,.none,.none,.none,.bool false,.none] }).Ns N mN :=
  let ⟨o,es,ep,e,r⟩:=L;⟨o,es,ep,A7 _ (A7 _ e),r⟩
 have s:((h.push { cls:=.type "tuple",data:=.seq rest.toArray }).push
  { cls:=.ref C,data:=.fields #[.ref h.objs.size,.none,.none,.none,.bool false,.none] }).get? (h.objs.size+1)=some
  { cls:=.ref C,data:=.fields #[.ref h.objs.size,.none,.none,.none,.bool false,.none] }:=by heap_get
 have B:(Value.ref C::bm).contains (.ref C)=true:=by simp
 have k:=T.keeps (h':=(h.push { cls:=.type "tuple",data:=.seq rest.toArray }).push { cls:=.ref C,data:=.fields #[.ref h.objs.size,.none,.none,.none,.bool false,.none] })
  λb o e=>A7 _ (A7 _ e)
 have H:=(I (.ref (h.objs.size+1))).keeps (h':=(h.push { cls:=.type "tuple",data:=.seq rest.toArray }).push { cls:=.ref C,data:=.fields #[.ref h.objs.size,.none,.none,.none,.bool false,.none] })
  λb o e=>A7 _ (A7 _ e)
 unfold isInstance;repeat (first|with_reducible refine Cj s ?_|(with_reducible refine Eg a ?_;rw[B])|wp_step)
 show wpAny _ _ (typeLookup (.ref C) _) _ _ _;refine wpAny_typeLookup_tail a c k F.mroIs F.init.lookup ?_;rw[G];refine C9 (A5 (H.here (A5 (F4 (Ec J λr y z=>?_)))));rcases r with e|(v|_|_|_)<;>first|exact z|exact z.elim|skip
 obtain⟨rfl,z⟩:=z;exact Ak (Ak z)
def oS{f}{mN}{rest}(T:OwnTail h Od bm)(c:h.get? C=some (excClassObj nm q C N bs bm hdct sn sub ab col dd k0 k1 k2 k3 k5 "ValueError.__new__"))(o:h.Ns N mN)
 (i:mN "__init__"=some (.ref f)) (j:∀self,Looks (model prog w) h (bindSpecial (.ref f) self) (.ref f,[self])) (a:rest.length<=sizeLine)
 (k:codeAny (model prog w) (A.under (.builtin "type.__call__" ⟨.ref C::rest,[]⟩)) (.call (.ref f) ⟨.ref (h.objs.size+1)::rest,[]⟩) (InitBack (h.objs.size+1) R)
   ⟨(h.push { cls:=.type "tuple",data:=.seq rest.toArray }).push (LK C h.objs.size none),g,d,t,os⟩) :
 codeAny (model prog w) A (.call (.ref C) ⟨rest,[]⟩) R ⟨h,g,d,t,os⟩:=by
 have s:=tc_lookup;have B:=PySem.tc_bind (.ref C);have y:(⟨h,g,d,t,os⟩:ϟ).TypeIs (.ref C) "type":=⟨_,c,U⟩
 refine codeAny_of_tree ?_;show wpAny _ _ (callAny (.ref C) _) _ _ _;repeat (any_goals (first|assumption|with_reducible refine Cj c ?_|wp_step))
 refine⟨U,Jp (Fy _ (by room)) entry_typeCall (Im c ?_)⟩;exact oR T c o i j a (Ec k λr p z=>by
  rcases r with e|(v|_|_|_)<;>first|exact z|exact z.elim)
end
def oU{K}{h}{N}{mg}{n}{v}(X:K.In h)(G:h.Ns N mg)(e:nsIn K N n=some (some v)):mg n=some v:=by revert G;refine GA λo s z=>FY λj hd _ i=>?_;unfold nsIn at e;split at e;(.rename_i c d a p r q;have:=X _ _ q;rw[j]at this;cases this;cases hd;split at e;(.rename_i y k;cases e;rw[<-i];unfold nsFind findBy;rw[<-Kq,k];rfl);split at e<;>cases e);cases e
noncomputable def Ly (K:ϡ) (C:Ϡ) (a:ϒ):Bool:=match K.lookup C with
 | some ⟨.type "type",_,.cls c,sl⟩=>(match c.mro,sl.toList with
   | .ref d::bm,[_,_,_,_,some (.builtin n),_]=>d==C&&n=="ValueError.__new__"&&!c.hasDel&&tailIn K Od bm&&nsOkIn K c.ns&&nsIn K c.ns "__init__"==some (a.map Value.ref)
   | _,_=>false)
 | _=>false
def QY{K}{h}{C}{a}(X:K.In h)(q:Ly K C a=true) :
 ∃bm N nm i bs hd sn sub ab col dd k0 k1 k2 k3 k5 p,h.get? C=some (excClassObj nm i C N bs bm hd sn sub ab col dd k0 k1 k2 k3 k5 "ValueError.__new__")/\h.Ns N p/\p "__init__"=a.map Value.ref/\OwnTail h Od bm:=by
 unfold Ly at q;split at q
 .rename_i dd B o z;split at q
  .rename_i H bm k0 k1 k2 k3 n k5 s r;simp only[Ar,C3,J0]at q;obtain⟨⟨⟨⟨⟨rfl,rfl⟩,c⟩,v⟩,e⟩,d⟩:=q;obtain⟨nm,bs,y,j,i,hd,sn,sub,ab,col,E⟩:=B;dsimp only at s c e d;subst s c;have k:o=#[k0,k1,k2,k3,some (.builtin "ValueError.__new__"),k5]:=by
    obtain⟨l⟩:=o;simp only at r;rw[r]
   subst k;have G:h.Ns j (h.nsMap j):=.of_isNs (isNs_of_in X e);refine⟨bm,j,nm,i,bs,hd,sn,sub,ab,col,dd,k0,k1,k2,k3,k5,_,X _ _ z,G,?_,tail_of_in X v⟩;cases a with
   | none=>exact ns_none_of X G d
   | some f=>exact oU X G d
  .cases q
 .cases q
def dJ{K}{h h'}{C}{a}(X:K.In h)(d:K.In h')(q:Ly K C a=true):h'.get? C=h.get? C:=by unfold Ly at q;split at q;(.rename_i c;rw[X _ _ c,d _ _ c]);cases q
abbrev XO(e C:Ϡ)(a:ϒ):HO:=.ext λh=>∃t,h.get? e=some (LK C t a)
structure dM(K:ϡ)(C f:Ϡ):Prop where
 cls:Ly K C (some f)=true
 fn:PySem.W.isFn K (.ref f)=true
 kp:PySem.W.keepIn K (.ref C)=true
section
variable {X:Cx}{CX:Ou}{k:Nat}{f C:Ϡ}{fd:FuncData}{ps:ώ}{sp:Sp}{x m:ϥ}{p pos apos:Pos}{e o:Ϧ}{es:ϗ}{ta:TE}{t:TA}{pins:ύ}{σ:St}{H:Hp}{s:ϟ}
def AG.exmade{vs:Ϗ}(I:AG X pins σ H s):AG X pins σ (upd H (s.heap.objs.size+1) (XO (s.heap.objs.size+1) C none))
 { s with heap:=(s.heap.push { cls:=.type "tuple",data:=.seq vs.toArray }).push (LK C s.heap.objs.size none) }:=by
 have a:((s.heap.push { cls:=.type "tuple",data:=.seq vs.toArray }).push (LK C s.heap.objs.size none)).get? (s.heap.objs.size+1)=some (LK C s.heap.objs.size none):=by
  have:=Bc (s.heap.push { cls:=.type "tuple",data:=.seq vs.toArray }) (o:=LK C s.heap.objs.size none) U
  rwa [Ck]at this
 refine I.laid (t':=s.toks) (λb u q=>A7 _ (A7 _ q)) (Ed _) ⟨⟨_,a⟩,⟨_,a⟩,?_⟩
 grind
def oV{Q}{us}{vs}(M:dM X.K C f)(F:CF X.prog X.w X.K X.mg X.base IW k f fd ps sp)(Y:CK (k+1) X.A)(L:MC X.K fd ps [])(I:AG X pins σ H s)(r:AV vs us)(E:vs.length<=10)
 (P:sp (.ref (s.heap.objs.size+1)::vs) (upd H (s.heap.objs.size+1) (XO (s.heap.objs.size+1) C none)) (λv H2=>v=.non/\Q (.ref (s.heap.objs.size+1)) H2) E0) :
 wpAny (model X.prog X.w) X.A (call (.ref C) us) (EP X pins σ Q) X.xe s:=by
 have y:=AG.exmade (C:=C) (vs:=us) I;have G:AV (V.ref (s.heap.objs.size+1)::vs) (Value.ref (s.heap.objs.size+1)::us):=.cons U r;have W:(Value.ref (s.heap.objs.size+1)::us++[]).length=ps.length:=by
  have e:=G.length
  grind[F.len,List.append_nil]
 obtain⟨bm,N,nm,qn,bs,hd,sn,sub,ab,aa,dd,k0,k1,k2,k3,k5,mN,J,Z,B,T⟩:=QY I.ď M.cls;have j:us.length<=sizeLine:=DG (by have:=r.length;lia);have c:=L { s with heap:=(s.heap.push { cls:=.type "tuple",data:=.seq us.toArray }).push (LK C s.heap.objs.size none) } (Value.ref (s.heap.objs.size+1)::us) y.ď W;rw[Aq]at c
 obtain⟨z,g,d,tk,os⟩:=s;refine F4 (oS T J Z B (λself=>bind_fn I.ď self (C3.mp M.fn)) j (Ec (F.run _ X.stack _ _ ⟨Value.ref (z.objs.size+1)::us,[]⟩ (Value.ref (z.objs.size+1)::us) _ _ E0 (Y.make C us [])
  (y.env0.make C us []) c G P) λr s' a=>?_))
 cases r with
 | error e=>exact False.elim a
 | ok fl =>
   cases fl with
   | ret u =>
     refine IK (λv H' O S i R=>?_) (y.after a);subst i;exact⟨S,⟨V.ref (z.objs.size+1),H',O,U,R⟩⟩
   | next=>exact False.elim a
   | brk=>exact False.elim a
   | cont=>exact False.elim a
end
open Builtin Builtin.ObjectAttr
theorem oW{h:Ϥ}{o}{b}(a:b<h.objs.size):(h.push o).get? b=h.get? b:=by simp_all[Heap.push,Array.getElem?_push,Bn,Heap.get?]
noncomputable def Tn:Ϗ->Bool
 |[]=>false|.ref c::r=>Tn r
 |v::r=>(v::r)==Od
theorem Xi(self):∀{l},Tn l=true->refuseLoop self "__setattr__" l=pure ()/\l.contains (.type "object")=true|[],e=>by cases e|v::r,e=>by cases v with|ref c =>have a:=Xi self (l:=r) e;rw[refuseLoop_ref,Ii,a.2];exact⟨a.1,Fg _⟩|_ =>have d:=C3.mp (show((_::r)==Od)=true from e);rw[d];exact⟨PySem.F.store_ValueError.passes self,by lk⟩
section
variable {prog:ϣ}{w:Ϣ}{A:Around}{K:ϡ}{C x:Ϡ}{s:ϟ}{R:ϛ}
def oX (X:K.In s.heap) (I:PySem.W.InstAt s.heap x r C y) (k:clsIn K C=some d) (c:Tn d.mro=true) (p:findIn K (.ref C) name=some none) (h:wpAny (model prog w) A.in1 (storeInOwnDict (.ref x) (.ref C) (.str name i) name v false)
 (λfin a=>match fin with|.done f=>R (.ok f) a|.again j=>j.quiet=true/\codeAny (model prog w) A j R a) (λe a=>R (.error e) a) s) :
 codeAny (model prog w) A (.call (.builtin "object.__setattr__") ⟨[.ref x,.str name i,v],[]⟩) R s:=by
 have SF:=PySem.F.store_object;have ne:d.mro.isEmpty=false:=by cases q:d.mro with|nil=>rw[q]at c;cases c|cons _ _=>rfl
 have sub:Looks (model prog w) s.heap (isInstance (.ref x) (.type "object")) true:=I.type.andThen (looks_mroIn X (by unfold mroIn;rw[k,Option.bind_some,Av (by rw[ne];decide),(Xi (.ref x) c).2]));refine F9 SF.slot.plain SF.entry (@check_slot (model prog w) _ _ s "object.__setattr__" "object" "__setattr__" (.ref x) [.str name i,v] [] _ SF.kind SF.split sub (SF.args (.ref x) (.str name i) v) ?_);have o:Looks (model prog w) s.heap (mroOf (.ref C)) d.mro:=(looks_clsIn X k).andThen .now;rw[osa_eq,refuse_eq];refine A5 (A5 (I.type.here (A5 (o.here ?_))));rw[(Xi (.ref x) c).1];exact Ak (A5 (I.type.here (A5 ((looks_findIn X p).here (A5 (Ak h))))))
structure XF(K:ϡ)(C:Ϡ)(f:ϥ):Prop where
 cd:∃cd,clsIn K C=some cd/\Tn cd.mro=true/\cd.hasDict=true
 sa:findIn K (.ref C) "__setattr__"=some (some (.builtin "object.__setattr__"))
 no:findIn K (.ref C) f=some none
def oY(X:K.In s.heap)(p:s.heap.get? x=some (LK C t none))(F:XF K C name)(h:∀h' k,s.heap.objs.size<=h'.objs.size->(∀b o,b≠x->s.heap.get? b=some o->h'.get? b=some o)->h'.get? x=some (LK C t (some s.heap.objs.size))->h'.Ns1 s.heap.objs.size (λy=>if y=name then some v else none)->Q () { s with heap:=h',toks:=k }) :
 wpAny (model prog w) A (setAttr (.ref x) name v) Q E s:=by
 obtain⟨⟨cd,S,ht,hd⟩,B,r⟩:=F;have J:PySem.W.InstAt s.heap x (LK C t none) C none:=⟨p,U,U,True.intro⟩
 refine set_plain X J B (oX (s:={ s with toks:=s.toks+1 }) X J S ht r ?_);have c:=Bn (As p);refine A5 (Ak (A5 (A5 (wpAny_loadPart (s:={ s with toks:=s.toks+1 }) p (A5 (Kr (s:={ s with toks:=s.toks+1 }) (looks_clsIn X S) ?_))))));rw[hd];show wpAny _ _ (do
  let d <- alloc { cls:=Value.type "dict",data:=Data.dict #[] }
  update x λo=>{ o with dict:=some d }
  dictMade (.ref C) x d) _ _ _
 refine A5 (wpAny_alloc (A5 ?_));have i:=A7 (h:=s.heap) emptyDict p;refine wpAny_update (o:=LK C t none) (s:={ s with heap:=s.heap.push emptyDict,toks:=s.toks+1 }) i ?_;show wpAny _ _ (pure (some s.heap.objs.size)) _ _ _;refine Ak ?_;have e1:(s.heap.push emptyDict).get? s.heap.objs.size=some emptyDict:=Bc s.heap U;have T:((s.heap.push emptyDict).update x λo=>{ o with dict:=some s.heap.objs.size }).get? s.heap.objs.size=some emptyDict:=(Bh _ _ c).trans e1;have Y:((s.heap.push emptyDict).update x λo=>{ o with dict:=some s.heap.objs.size }).get? x=some (LK C t (some s.heap.objs.size)):=Cc _ i U;have Z:((s.heap.push emptyDict).update x λo=>{ o with dict:=some s.heap.objs.size }).Ns1 s.heap.objs.size (λ_=>none):=Heap.Ns1.of_empty ⟨emptyDict,#[],_,T,U,(λe he=>absurd he (by simp)),λ_=>U⟩;have O:∀b o,b≠x->s.heap.get? b=some o->((s.heap.push emptyDict).update x λo=>{ o with dict:=some s.heap.objs.size }).get? b=some o:=λb o z q=>(Bh _ _ (Cr z)).trans (A7 _ q)
 have z1:((s.heap.push emptyDict).update x λo=>{ o with dict:=some s.heap.objs.size }).objs.size=s.heap.objs.size+1:=by rw[G6,Ck]
 generalize ((s.heap.push emptyDict).update x λo=>{ o with dict:=some s.heap.objs.size })=P at T Y Z O z1⊢;refine A5 (Ak (A5 (wpAny_nsSet1 (s:={ s with heap:=P,toks:=s.toks+1 }) Z λh' j a=>?_)));obtain⟨oD,ab,aa,I,G,H⟩:=j.count (Kx (ns:=[]) name v (λy hy=>absurd U hy));refine A5 (wpAny_lookBehind I (by rw[G];exact pastItsLine_dict (Aw H (Aw (DG (show 1<=100000 by lk)) (Ed _)))) (Ak (h h' _ ?_ (λb o z q=>?_) ?_ j)))
 .rw[a.1];show s.heap.objs.size<=P.objs.size
  lia
 .have L:=Bn (As q);exact(a.2 b L).trans (O b o z q)
 .exact(a.2 x c).trans Y
end
section
variable {X:Cx}{pins:ύ}{σ:St}{H:Hp}{s:ϟ}
def AG.exset{e C t}{y}{u}{f}{h'}{k}(I:AG X pins σ H s)(he:H e=some (XO e C none))(O:BE y u)
 (k1:∀b o,b≠e->s.heap.get? b=some o->h'.get? b=some o) (d:h'.get? e=some (LK C t (some s.heap.objs.size))) (Q:h'.Ns1 s.heap.objs.size (λz=>if z=f then some u else none)) :
 AG X pins σ (upd (upd H s.heap.objs.size (.xd [(f,y)])) e (XO e C (some s.heap.objs.size))) { s with heap:=h',toks:=k }:=by
 refine Oq (λp L P c r=>?_) (id Q);have ū:=(Heap.get?_some_iff.mp c).2;have B:=Bc s.heap ū;have i:=Bn (I.Ê.lt he);have J:=I.laid (a:=s.heap.objs.size) (o:=.xd [(f,y)]) (h':=s.heap.push p) (t':=s.toks) (λb u q=>A7 _ q) (A9 _) ⟨_,⟨p,L,P,B,r⟩,λg=>by
  show FE (List.lookup g [(f,y)]) (if g=f then some u else none);by_cases q:g=f
  .rw[B1 q,q];simp;exact O
  .rw[Av q];have:List.lookup g [(f,y)]=none:=by simp[q]
   rw[this];exact True.intro⟩
 refine J.write (x:=e) (e:=e) (h':=h') (o:=XO e C (some s.heap.objs.size)) (t':=k) (by rw[BJ i,he];exact True.intro) (.inl U) (λb v G q=>?_) ⟨_,d⟩ ⟨⟨_,d⟩,⟨_,d⟩,?_⟩
 .by_cases j:b=s.heap.objs.size
  .subst j;rw[B]at q
   cases q;exact c
  .refine k1 b v G ?_;have E:=As q
   grind[Heap.size_push,Nat.lt_of_le_of_ne,Nat.lt_succ_iff.mp,oW]
 grind
def oZ(K:ϡ)(j d:TE)(f:ϥ):TS:=λD σ H=>d σ H λy i=>j σ i λx a=>∃e C,x=.ref e/\a e=some (XO e C none)/\XF K C f/\∀c,a c=none->D.nx σ (upd (upd a c (.xd [(f,y)])) e (XO e C (some c)))
def pf(S:PE X o B)(W:PE X a z)(P:swapsWith a (some (.Attribute o f c)) i.line X.env=pure false):PS X (.Assign [.Attribute o f c] a i) (oZ X.K B z f):=by intro pins s σ H D I h;refine G7 (BH (W pins s σ H _ I h) λu G ⟨y,E,v,O,q⟩=>BH (S pins G σ E _ v q) λJ s2 j=>?_) P;obtain⟨x,H2,d,L,e,C,ex,p,F,Y⟩:=j;subst ex;obtain rfl:J=Value.ref e:=L;obtain⟨⟨t,R⟩,_⟩:=d.Ê e _ p;exact oY d.ď R F λZ k _ r Q T=>⟨σ,_,d.exset p O r Q T,Y _ d.fresh⟩
end
structure BI(K:ϡ)(CB:Ϡ):Prop where
 reads:readsIn K CB (.type "type")=true
 find:findCls K (.ref CB) (.type "type") "__init__"=some (.val (.builtin "ValueError.__init__"))
 ga:specialIn K (.ref CB) "__getattribute__"=some (some (.builtin "type.__getattribute__"))
section
variable {X:Cx}{pins:ύ}{σ:St}{H:Hp}{s:ϟ}
def pj{u}(I:AG X pins σ H s)(he:H e=some (XO e C k))(i:Ly X.K C init=true)(q:Q .non H) :
 wpAny (model X.prog X.w) X.A (call (.builtin "ValueError.__init__") [.ref e,u]) (EP X pins σ Q) X.xe s:=by
 obtain⟨⟨t0,c⟩,_⟩:=I.Ê e _ he;obtain⟨bm,N,O,P,bs,hd,sn,sub,ab,J,dd,Y,L,k2,S,k5,mN,i,hn,G,T⟩:=QY I.ď i;have F:=Fc;obtain⟨a,g,d,p,W⟩:=s;refine F4 (F9 F.init.plain F.initEntry (wpAny_check_init_subU F T i c U ?_))
 wp_walk
 have c:=c;have j:((a.push { cls:=Value.type "tuple",data:=Data.seq #[u] }).update e (Obj.mapFields λx=>x.setIfInBounds 0 (Value.ref a.objs.size))).get? e=some (LK C a.objs.size k) :=
  Cc _ (A7 _ c) U
 have r:=(I.kept (h':=a.push { cls:=Value.type "tuple",data:=Data.seq #[u] }) (t':=p) (λb u q=>A7 _ q)).write (x:=e) (e:=e) (o:=XO e C k) (h':=(a.push { cls:=Value.type "tuple",data:=Data.seq #[u] }).update e (Obj.mapFields λx=>x.setIfInBounds 0 (Value.ref a.objs.size))) (t':=p)
  (by rw[he];exact True.intro) (.inl U) (λb v y q=>(Bh _ _ (Cr y)).trans q) ⟨_,j⟩ ⟨⟨_,j⟩,⟨_,j⟩,λZ R ⟨t,z⟩ E=>⟨t,E _ z⟩⟩
 have B:upd H e (XO e C k)=H:=by
  grind[AM,BJ]
 rw[B]at r
 exact⟨.non,H,r,U,q⟩
def pz(K:ϡ)(t:TA):TE:=λσ H Q=>t σ H λd c=>∃e C i a x,d=[.ref e,.str x]/\c e=some (XO e C i)/\Ly K C a=true/\Q .non c
def pA (F:BI X.K L) (J:Gl X x) (P:X.mg x=some (.ref L)) (S:PA X (e::d) t) (p:(x==("__debug__":ϥ))=false:=by lk) (j:starEach (e::d) X.env=(false,eval e X.env)::starEach d X.env:=by rfl) (hpl:(backTo a (starEach d X.env)).any (·.1)=false:=by rfl) (G:eval (.Call (.Attribute (.Name x v) "__init__" c) (e::d) [] a) X.env=(do
 let y <- eval (.Name x v) X.env
 standAt c.atName
 let (f,first) <- holding [y] (getMethod y "__init__" pl)
 callWith a f first (backTo a (starEach (e::d) X.env)) (backToKw a (keywordEach [] X.env))):=by rfl) :
 PE X (.Call (.Attribute (.Name x v) "__init__" c) (e::d) [] a) (pz X.K t):=by
 intro pins s σ H Q I h;refine Ey (pl:=pl) (Qd I J P (method_cls I.ď F.ga (cls_value I.ď F.reads F.find U ?_)) p) G;have hA:=S a pins { s with toks:=s.toks+1 } σ H _ (I.tok _) h;rw[j]at hA⊢
 refine Calls.callWith_builtin (by show(false||(backTo a (starEach d X.env)).any (·.1))=false;rw[hpl]<;>rfl) (Calls.evalArgs_plain (BH hA λus Y o=>?_));obtain⟨T,Z,O,i,ex,C,dx,r,z,k,R,B,q⟩:=o;subst k;cases i with
 | cons E i =>
   cases i with
   | cons i r3 =>
     cases r3;obtain rfl:=(E)
     exact pj O R B q
def Xj(a:TE):TE:=λσ H Q=>a σ H λv c=>∃i:Int,v=.int i/\i.natAbs<=1000000000/\∀x:ϥ,x.length<=2000->Q (.str x) c
def dN(h:n<=1000000000):n.log2<1920:=by by_cases a:n=0;subst a;decide;have c:n<2^30:=Fw h (by lk);exact Ff ((Kg a).mpr c) (by lk)
def pC(C:PE X a o):PE X (.FormattedValue a (-1) none B) (Xj o):=by intro pins s σ H Q I h;refine Ij (BH (C pins s σ H _ I h) λv G c=>?_);obtain⟨y,p,j,z,i,E,d,q⟩:=c;subst E;obtain⟨t,rfl⟩:=z;have r:(Str.ofString (toString i)).length<=2000:=(by have e:=Ik (k:=1920) (by lk) (dN d);rw[G9];lia);exact wpAny_formatField_int (dN d) ⟨.str _,p,j.tok _,⟨_,U⟩,q _ r⟩
def pD(j i:TE):TE:=λσ H Q=>j σ H λa k=>∃c:ϥ,a=.str c/\c.length<=2000/\i σ k λb e=>∃d:ϥ,b=.str d/\d.length<=2000/\∀x,Q (.str x) e
def pE(o k r:TE):TE:=λσ H Q=>o σ H λa p=>∃d:ϥ,a=.str d/\d.length<=2000/\k σ p λb j=>∃i:ϥ,b=.str i/\i.length<=2000/\r σ j λc v=>∃e:ϥ,c=.str e/\e.length<=2000/\∀x,Q (.str x) v
end
def zZ(H:Hp)(e:Ϡ):Hp:=λb=>if b=e then none else H b
theorem V8{H}{e}:zZ H e e=none:=by unfold zZ;rw[B1 U]
theorem V9(h:b≠e):zZ H e b=H b:=by unfold zZ;rw[Av h]
section
variable {M:Model}{A:Around}{E:ϊ}{env:Env}
variable {nm q:ϥ}{C N:Ϡ}{bs bm:Ϗ}{hdct:Bool}{sn:ώ}{sub:Ϗ}{ab:Bool}{col:Ϩ Bool}{dd:ϒ}{k0 k1 k2 k3 k5:ϐ}{newId:String}
def dO{s}{x}{Q}(c:bm.contains (.type "BaseException")=true)(B:A.handled=none)
 (h:wpAny M A x (λv a=>∃e t p,v=.ref e/\a.heap.get? C=some (excClassObj nm q C N bs bm hdct sn sub ab col dd k0 k1 k2 k3 k5 newId)/\a.heap.get? e=some (LK C t p)/\E (.ref e) a) E s) :
 wpAny M A (raiseStmt env (some x) none) Q E s:=by
 have o:(Value.ref C::bm).contains (.type "BaseException")=true:=by rw[Ii,c,Fg]
 unfold raiseStmt;refine A5 (Co h (λv a i=>?_) λ_ _ x=>x);revert i;refine GA λe t p=>FY λj r k y=>?_;subst j;obtain⟨z,g,d,G,H⟩:=a;have k:z.get? e=some { cls:=.ref C,dict:=p,data:=.fields #[.ref t,.none,.none,.none,.bool false,.none] }:=k;repeat (first|with_reducible refine Cj k ?_|with_reducible refine Cj r ?_|(with_reducible refine Eg r ?_;rw[o])|wp_step)
 exact wpAny_raiseNew_none B y
end
section
variable {prog:ϣ}{w:Ϣ}{A:Around}{E:ϊ}{h:Ϥ}{g:Array GenState}{d:Drawn}{t:Nat}{os:OsState}
variable {nm q:ϥ}{C N:Ϡ}{bs bm:Ϗ}{hdct:Bool}{sn:ώ}{sub:Ϗ}{ab:Bool}{col:Ϩ Bool}{dd:ϒ}{k0 k1 k2 k3 k5:ϐ}
def pG(T:OwnTail h Od bm){mN}{rest}{Q}
 (p:h.get? C=some (excClassObj nm q C N bs bm hdct sn sub ab col dd k0 k1 k2 k3 k5 "ValueError.__new__")) (H:h.Ns N mN) (y:mN "__init__"=none) (k:rest.length<=sizeLine)
 (G:∀h' z,(∀b o,h.get? b=some o->h'.get? b=some o)->h'.get? (h.objs.size+1)=some (LK C z none)->Q (.done (.ret (.ref (h.objs.size+1)))) ⟨h',g,d,t,os⟩) :
 wpAny (model prog w) A (Builtin.«type.__call__» ⟨.ref C::rest,[]⟩) Q E ⟨h,g,d,t,os⟩:=by
 have F:=Fc;have s:Od.contains (.type "ValueError")=true:=by lk
 repeat (first|with_reducible refine Cj p ?_|with_reducible refine wpAny_madeBy_exc p ?_|wp_step)
 refine Il (Fy _ F.quiet) (wpAny_check_new_subU F s T p (codeAny_exc_new_subU F s F T p ?_ k));show wpAny _ _ _ _ _ _;have a:=A7 { cls:=.ref C,data:=.fields #[.ref h.objs.size,.none,.none,.none,.bool false,.none] }
  (A7 { cls:=.type "tuple",data:=.seq rest.toArray } p)
 have j:((h.push { cls:=.type "tuple",data:=.seq rest.toArray }).push { cls:=.ref C,data:=.fields #[.ref h.objs.size,.none,.none,.none,.bool false,.none] }).Ns N mN :=
  let ⟨o,es,ep,e,r⟩:=H;⟨o,es,ep,A7 _ (A7 _ e),r⟩
 have c:((h.push { cls:=.type "tuple",data:=.seq rest.toArray }).push
  { cls:=.ref C,data:=.fields #[.ref h.objs.size,.none,.none,.none,.bool false,.none] }).get? (h.objs.size+1)=some
  { cls:=.ref C,data:=.fields #[.ref h.objs.size,.none,.none,.none,.bool false,.none] }:=by heap_get
 have v:(Value.ref C::bm).contains (.ref C)=true:=by simp
 have i:=T.keeps (h':=(h.push { cls:=.type "tuple",data:=.seq rest.toArray }).push { cls:=.ref C,data:=.fields #[.ref h.objs.size,.none,.none,.none,.bool false,.none] })
  λb o e=>A7 _ (A7 _ e)
 unfold isInstance;repeat (first|with_reducible refine Cj c ?_|(with_reducible refine Eg a ?_;rw[v])|wp_step)
 show wpAny _ _ (typeLookup (.ref C) _) _ _ _;refine wpAny_typeLookup_tail a j i F.mroIs F.init.lookup ?_;rw[y];refine C9 (A5 (wpAny_of_eq (F.init.bind _) (A5 (F4 (F9 F.init.plain F.initEntry (wpAny_check_init_subU F i a c U ?_))))))
 wp_walk
 refine G _ (h.objs.size+2) (λb o B=>?_) ?_
 .rw[Bh _ _ (E4 (Iy (As B)))]
  grind[Heap.get?_push_of_some]
 .rw[Cc _ (A7 _ c) U];simp only[Ck];rfl
def pH(T:OwnTail h Od bm){mN}{rest}{Q}
 (c:h.get? C=some (excClassObj nm q C N bs bm hdct sn sub ab col dd k0 k1 k2 k3 k5 "ValueError.__new__")) (r:h.Ns N mN) (i:mN "__init__"=none) (a:rest.length<=sizeLine)
 (k:∀h' e,(∀b o,h.get? b=some o->h'.get? b=some o)->h'.get? (h.objs.size+1)=some (LK C e none)->Q (.ref (h.objs.size+1)) ⟨h',g,d,t,os⟩) :
 wpAny (model prog w) A (call (.ref C) rest) Q E ⟨h,g,d,t,os⟩:=by
 have v:=tc_lookup;have s:=PySem.tc_bind (.ref C);have y:(⟨h,g,d,t,os⟩:ϟ).TypeIs (.ref C) "type":=⟨_,c,U⟩
 refine F4 (codeAny_of_tree ?_);show wpAny _ _ (callAny (.ref C) _) _ _ _;repeat (any_goals (first|assumption|with_reducible refine Cj c ?_|wp_step))
 exact⟨U,Jp (Fy _ (by room)) entry_typeCall (Im c (pG T c r i a λh' e j p=>k h' e j p))⟩
end
section
variable {X:Cx}{pins:ύ}{σ:St}{H:Hp}{s:ϟ}
def AG.zZ{e:Ϡ}{d:Ϥ->Prop}(I:AG X pins σ H s)(he:H e=some (.ext d)):AG X pins σ (zZ H e) s:=by have k:∀b,H b=none->L2.zZ H e b=none:=λb h=>(by by_cases q:b=e;rw[q,V8];rw[V9 q];exact h);have j:∀b o,H b=some o->(∀d,o≠.ext d)->L2.zZ H e b=some o:=λb o h C=>(by rw[V9 (λq=>?_)];exact h;rw[q,he]at h;cases h;exact C _ U);refine⟨I.ok,I.os,I.bare,⟨I.base.keep,I.base.slot,λb o q n E=>k b (I.base.free b o q n E),I.base.there,λb r q=>j b _ (I.base.ŝ b r q) (λd z=>nomatch z),λb o u q=>j b _ (I.base.Ŋ b o u q) (λd z=>nomatch z),λb y q=>?_⟩,I.loc,I.cell,k _ I.free,λx c h=>k _ (I.å x c h),λp B=>?_,λb o q=>?_,I.len⟩;obtain⟨i,z⟩:=I.base.Ű b y q;exact⟨i,j b _ z (λd w=>nomatch w)⟩;refine ED (λa b c=>?_) (I.pin p B);exact IQ a (k _ b) c;have v:b≠e:=λz=>(by rw[z,V8]at q;cases q);rw[V9 v]at q;exact(I.Ê b o q).Ũ (λ_ _ _ z=>z) (λc z=>j c _ z (λd w=>nomatch w)) λc r z=>j c _ z (λd w=>nomatch w)
def pI(C:Ϡ)(sp:Sp)(E:St->XK)(σ:St)(vs:ϩ V)(c:Hp):Prop:=vs.length<=10/\∀e,c e=none->sp (.ref e::vs) (upd c e (XO e C none)) (λv a=>v=.non/\V.ref e=.ref e/\∃d,a e=some (XO e C d)/\E σ (.ref C) d (L2.zZ a e)) E0
def pJ{E}{R:St->ϩ V->Hp->Prop}{k}{f C L}{fd}{ps}{sp}{x}{np a o}{e}{d}{t}(hL:X.env.frame=some L)(aa:X.calm=true)
 (M:dM X.K C f) (F:CF X.prog X.w X.K X.mg X.base IW k f fd ps sp) (hr:CK (k+1) X.A) (hg:Gl X x) (hm:X.mg x=some (.ref C)) (hb:MC X.K fd ps []) (hR:∀σ vs P,R σ vs P->pI C sp E σ vs P)
 (ha:PA (X.Ñ (IL X E)) (e::d) t) (Y:(x==("__debug__":ϥ))=false:=by lk) (he:starEach (e::d) X.env=(false,eval e X.env)::starEach d X.env:=by rfl) (hpl:(backTo a (starEach d X.env)).any (·.1)=false:=by rfl) :
 PS (X.Ñ (IL X E)) (.Raise (some (.Call (.Name x np) (e::d) [] a)) none o) (λ_ σ H=>t σ H (R σ)):=by
 intro pins s σ H D I h;obtain⟨S,N,nm,qn,bs,hd,sn,sub,ab,O,dd,k0,k1,k2,k3,k5,mN,hC,hn,ae,T⟩:=QY I.ď M.cls;have c:S.contains (.type "BaseException")=true:=T.hasType (by lk);rw[arm_exec_Raise];refine A5 (Ds (dO (C:=C) (nm:=nm) (q:=qn) (N:=N) (bs:=bs) (bm:=S) (hdct:=hd) (sn:=sn) (sub:=sub) (ab:=ab) (col:=O) (dd:=dd) (k0:=k0) (k1:=k1) (k2:=k2) (k3:=k3) (k5:=k5) (newId:="ValueError.__new__") c (I.ok.hd aa) ?_));show wpAny _ _ (do let v <- eval (.Call (.Name x np) (e::d) [] a) X.env;standAt o;pure v) _ _ _;refine A5 (Co (Ca (Qd I hg hm (Do (h₀:=X.base) I.ok.mod.kin M.kp (BH (ha a pins s σ H _ I h) λus i ⟨vs,P,j,r,q0⟩=>⟨j.ď,?_⟩) he hpl) Y)) (λv ac G=>A5 (Ds (Ak G))) λ_ _ z=>z);obtain⟨hl,q⟩:=hR σ vs P q0;refine BH (oV (X:=X.Ñ (IL X E)) (Q:=λv H2=>v=.ref (i.heap.objs.size+1)/\∃B,H2 (i.heap.objs.size+1)=some (XO (i.heap.objs.size+1) C B)/\E σ (.ref C) B (L2.zZ H2 (i.heap.objs.size+1))) M F hr hb j r hl ?_) λv s2 ⟨y,H2,I2,ry,ey,B,J,Z⟩=>?_
 .exact q (i.heap.objs.size+1) (j.Ê.fresh (Ed _))
 .subst ey;obtain rfl:v=Value.ref (i.heap.objs.size+1):=ry;obtain⟨⟨t2,p⟩,_⟩:=I2.Ê _ _ J;exact⟨_,t2,B,U,(dJ I.ď I2.ď M.cls).trans hC,p,_,.ref C,B,σ,_,L,U,hL,(I2.Ë.zw).zZ J,⟨Aw j.sz (Ed _),V8,j.Ë.pnlt (Ed _)⟩,⟨_,_,.none,p,U,U,U,⟨U,U⟩,.inl U⟩,Z⟩
def dP(C:Ϡ)(E:St->XK)(t:TA):TS:=λ_ σ H=>t σ H λa c=>a.length<=10/\E σ (.ref C) none c
structure Xk(K:ϡ)(C:Ϡ):Prop where
 cls:Ly K C none=true
 kp:PySem.W.keepIn K (.ref C)=true
def pK(hL:X.env.frame=some L)(P:X.calm=true)(M:Xk X.K C)(hg:Gl X x)(hm:X.mg x=some (.ref C))(ha:PA (X.Ñ (IL X E)) (e::i) t)(G:(x==("__debug__":ϥ))=false:=by lk)(he:starEach (e::i) X.env=(false,eval e X.env)::starEach i X.env:=by rfl)(hpl:(backTo a (starEach i X.env)).any (·.1)=false:=by rfl) :
 PS (X.Ñ (IL X E)) (.Raise (some (.Call (.Name x np) (e::i) [] a)) none O) (dP C E t):=by
 intro pins s σ H D I h;obtain⟨B,N,S,qn,bs,hd,sn,sub,Y,p,dd,k0,k1,k2,k3,k5,mN,hC,hn,ai,T⟩:=QY I.ď M.cls;have c:B.contains (.type "BaseException")=true:=T.hasType (by lk);rw[arm_exec_Raise];refine A5 (Ds (dO (C:=C) (nm:=S) (q:=qn) (N:=N) (bs:=bs) (bm:=B) (hdct:=hd) (sn:=sn) (sub:=sub) (ab:=Y) (col:=p) (dd:=dd) (k0:=k0) (k1:=k1) (k2:=k2) (k3:=k3) (k5:=k5) (newId:="ValueError.__new__") c (I.ok.hd P) ?_));show wpAny _ _ (do let v <- eval (.Call (.Name x np) (e::i) [] a) X.env;standAt O;pure v) _ _ _;refine A5 (Co (Ca (Qd I hg hm (Do (h₀:=X.base) I.ok.mod.kin M.kp (BH (ha a pins s σ H _ I h) λus s1 ⟨vs,H1,y,r,hl,q⟩=>⟨y.ď,?_⟩) he hpl) G)) (λv ac k=>A5 (Ds (Ak k))) λ_ _ z=>z);obtain⟨am,N2,ak,af,ae,ah,aj,Z,an,aa,al,j0,j1,j2,j3,j5,ag,J,R,o,T2⟩:=QY y.ď M.cls;have Q:us.length<=sizeLine:=DG (by have:=r.length;lia);obtain⟨hp,g,d,tk,os⟩:=s1;refine pH T2 J R o Q λh' t2 hk j=>?_;have I2:=y.kept (t':=tk) hk;exact⟨_,t2,none,U,(dJ I.ď I2.ď M.cls).trans hC,j,_,.ref C,none,σ,H1,L,U,hL,I2.Ë.zw,y.Ë.fr0 (Ed _),⟨_,_,.none,j,U,U,U,⟨U,U⟩,.inl U⟩,q⟩
end
section
variable {X:Cx}{pins:ύ}{σ:St}{H:Hp}{s:ϟ}
noncomputable abbrev Cx.ñ (X:Cx) (e:Ϡ):Cx:={ X with A:=X.A.mark (some (.ref e)),calm:=false,xe:=λ_ _=>False }
def AG.ñ(I:AG X pins σ H s)(e):AG (X.ñ e) pins σ H s :=⟨⟨I.ok.mod,I.ok.kind,I.ok.glob,I.ok.blt,I.ok.above,I.ok.inj,I.ok.has,I.ok.cab,(λz=>nomatch z),I.ok.frames,I.ok.stk,I.ok.exf,I.ok.bs,I.ok.zX,I.ok.š,I.ok.ţ,I.ok.Đ,I.ok.frf⟩,I.os,I.bare,I.base,I.loc,I.cell,I.free,I.å,I.pin,I.Ê,I.len⟩
def AG.Ĺ(hA:A.frames=some X.stack)(hd:c=true->A.handled=none)(I:AG (X.ñ e) pins σ H s):AG { X with A:=A,calm:=c,xe:=xe } pins σ H s :=
 ⟨⟨I.ok.mod,I.ok.kind,I.ok.glob,I.ok.blt,I.ok.above,I.ok.inj,I.ok.has,I.ok.cab,hd,hA,I.ok.stk,I.ok.exf,I.ok.bs,I.ok.zX,I.ok.š,I.ok.ţ,I.ok.Đ,I.ok.frf⟩,I.os,I.bare,I.base,I.loc,I.cell,I.free,I.å,I.pin,I.Ê,I.len⟩
end
theorem pM{K}{h}{C}{a}{nm q}{N}{bs bm}{hdct}{sn}{sub}{ab}{col}{dd}{k0 k1 k2 k3 k5}{newId}
 (X:K.In h) (c:Ly K C a=true) (i:h.get? C=some (excClassObj nm q C N bs bm hdct sn sub ab col dd k0 k1 k2 k3 k5 newId)) (v):mroIn K C v=some ((Value.ref C::bm).contains v):=by
 unfold Ly at c;split at c
 .rename_i d;have e:=X _ _ d;rw[i]at e
  cases e;unfold mroIn clsIn;rw[d];rfl
 .cases c
section
variable {M:Model}{A:Around}{E:ϊ}{h:Ϥ}{g:Array GenState}{d:Drawn}{t:Nat}{os:OsState}
def pN{K}{e C B}{k}{init initB}{b}{Q}(X:K.In h)(z:Ly K C init=true)(hB:Ly K B initB=true)(he:h.get? e=some k)(a:k.cls=.ref C)
 (hm:mroIn K C (.ref B)=some b) (I:Q b ⟨h,g,d,t,os⟩):wpAny M A (excMatches (.ref e) (.ref B)) Q E ⟨h,g,d,t,os⟩:=by
 obtain⟨O,N,nm,qn,bs,hd,sn,sub,ab,S,dd,k0,Y,k2,k3,k5,mN,r,_,_,T⟩:=QY X z;obtain⟨i,Z,J,H,v,y,G,o,P,p,L,j0,j1,j2,j3,j5,R,s,_,_,W⟩:=QY X hB;have c:(Value.ref C::O).contains (.ref B)=b:=by
  grind[pM,Option.some.inj]
 have j:(Value.ref B::i).contains (.type "BaseException")=true:=by rw[Ii,W.hasType (show Od.contains (.type "BaseException")=true by lk),Fg]
 have f:=tc_notTuple;unfold excMatches;repeat (first|(with_reducible refine Cj he ?_;rw[a])|with_reducible refine Cj s ?_|with_reducible refine Cj r ?_|(with_reducible refine Eg s ?_;rw[j])|(with_reducible refine Eg r ?_;rw[c])|wp_step)
 cases b<;>(wp_walk;exact I)
end
abbrev RV:=GP->St->Ϟ->ϒ->Hp->Prop
def RW(X:Cx)(i:ϩ ExceptHandler)(d:RV):Prop:=∀(e:Ϡ) (cls:Ϟ) (a:ϒ) (c:St) (H:Hp) (s:ϟ) (D:GP),AG X [] c H s->Oc X H e->Nh (HE (Oc X H) e .none) s.heap e cls a->d D c cls a H ->wpAny (model X.prog X.w) X.A (handleBy (.ref e) X.env i) (SP X [] D) X.xe s
def pO:RV:=λ_ _ _ _ _=>False
def dQ:RW X [] pO:=λ_ _ _ _ _ _ _ _ _ _ h=>h.elim
section
variable {X:Cx}{σ:St}{H:Hp}{s:ϟ}
noncomputable abbrev Cx.pinned (X:Cx) (pn:ύ):Cx:={ X with pn:=pn }
def AG.heldP{a}(I:AG X a σ H s):AG (X.pinned (X.pn++a)) [] σ H s :=⟨⟨I.ok.mod,I.ok.kind,I.ok.glob,I.ok.blt,I.ok.above,I.ok.inj,I.ok.has,I.ok.cab,I.ok.hd,I.ok.frames,I.ok.stk,I.ok.exf,I.ok.bs,I.ok.zX,I.ok.š,I.ok.ţ,I.ok.Đ,I.ok.frf⟩,I.os,I.bare,I.base,I.loc,I.cell,I.free,I.å,λp c=>I.pin p (by rwa [Aq]at c),I.Ê,I.len⟩
def AG.â{a}(I:AG (X.pinned (X.pn++a)) [] σ H s):AG X a σ H s :=⟨⟨I.ok.mod,I.ok.kind,I.ok.glob,I.ok.blt,I.ok.above,I.ok.inj,I.ok.has,I.ok.cab,I.ok.hd,I.ok.frames,I.ok.stk,I.ok.exf,I.ok.bs,I.ok.zX,I.ok.š,I.ok.ţ,I.ok.Đ,I.ok.frf⟩,I.os,I.bare,I.base,I.loc,I.cell,I.free,I.å,λp c=>I.pin p (by rw[Aq];exact c),I.Ê,I.len⟩
def SP.â{c}{D}{f}{e}(h:SP (X.pinned (X.pn++c)) [] D f e):SP X c D f e:=by cases f with|next=>(obtain⟨a,d,I,q⟩:=h;exact⟨a,d,I.â,q⟩)|brk=>(obtain⟨a,d,I,q⟩:=h;exact⟨a,d,I.â,q⟩)|cont=>(obtain⟨a,d,I,q⟩:=h;exact⟨a,d,I.â,q⟩)|ret u=>obtain⟨v,a,d,I,r,q⟩:=h;exact⟨v,a,d,I.â,r,q⟩
def dR{body}{h₀}{r}{o}{tb:GP->TS}{th}(i:X.stack=X.env::X.outer)(B:∀D pn,IT ((X.pinned pn).Ñ (IL (X.pinned pn) (th D))) body (tb D))(Q:∀pn,RW (X.pinned pn) (h₀::r) th) :
 PS X (.Try body (h₀::r) [] [] o) (λD σ H=>tb D D σ H):=by
 intro a s σ H D I h;have y:=I.heldP;refine wpAny_Try_except (Co (B D (X.pn++a) [] s σ H D (y.Ñ _) h) (λf p q=>?_) λY p q=>?_)
 .cases f with
  | next =>
    revert q;refine EX λk S G q=>?_;exact Fs ⟨k,S,G.Ë.â,q⟩
  | ret v=>exact SP.â (SP.Ë q)
  | brk=>exact SP.â (SP.Ë q)
  | cont=>exact SP.â (SP.Ë q)
 .refine Xg (X:=X.pinned (X.pn++a)) y.ok.frames i q λE e cls T j P L d Z C z R O=>?_;subst d;exact V7 (s:={ p with heap:=E }) (fr:=none) C z R λW J c=>BH (Q (X.pn++a) e cls T j P _ D J z c O) λf s3 q=>SP.â q
end
structure XG(K:ϡ)(C:Ϡ):Prop where
 ga:findIn K (.ref C) "__getattribute__"=some (some (.builtin "BaseException.__getattribute__"))
 gt:findIn K (.ref C) "__getattr__"=some none
 be:mroIn K C (.type "BaseException")=some true
 ob:mroIn K C (.type "object")=some true
 cc:findIn K (.ref C) "__class__"=some (some (.builtin "object.__class__"))
 hd:∃cd,clsIn K C=some cd/\cd.hasDict=true
section
variable {X:Cx}{pins:ύ}{σ:St}{H:Hp}{s:ϟ}
variable {K:ϡ}(hK:X.K=K)
include hK
end
structure CL(K:ϡ)(mg:ϋ)(x:ϥ)(C:Ϡ):Prop where
 mg:mg x=some (.ref C)
 is:isClsIn K C=true
 ty:typeIn K (.ref C)=some (.type "type")
noncomputable def PJ (K:ϡ) (C:Ϡ):Bool :=
 findIn K (.ref C) "__getattribute__"==some (some (.builtin "BaseException.__getattribute__"))&&findIn K (.ref C) "__getattr__"==some none&&mroIn K C (.type "BaseException")==some true&&mroIn K C (.type "object")==some true &&
 findIn K (.ref C) "__class__"==some (some (.builtin "object.__class__"))&&(clsIn K C).any (·.hasDict)&&PySem.W.keepIn K (.ref C)&&typeIn K (.ref C)==some (.type "type")&&mroIn K C (.type "ValueError")==some true
structure XQ(K:ϡ)(C:Ϡ):Prop where
 g:XG K C
 kp:PySem.W.keepIn K (.ref C)=true
 ty:typeIn K (.ref C)=some (.type "type")
 ve:mroIn K C (.type "ValueError")=some true
def dS{K}{C}(h:PJ K C=true):XQ K C:=by simp only[PJ,Ar,C3]at h;obtain⟨⟨⟨⟨⟨⟨⟨⟨k,i⟩,r⟩,j⟩,p⟩,a⟩,o⟩,e⟩,c⟩:=h;obtain⟨d,s,hd⟩:=any_some a;exact⟨⟨k,i,r,j,p,d,s,hd⟩,o,e,c⟩
noncomputable def QZ (K:ϡ) (C f:Ϡ) (fld:ϥ):Bool :=(clsIn K C).any (λa=>Tn a.mro&&a.hasDict)&&findIn K (.ref C) "__setattr__"==some (some (.builtin "object.__setattr__"))&&findIn K (.ref C) fld==some none&&PySem.W.isFn K (.ref f)
def pP{K}{C f}{fld}(h:QZ K C f fld=true):XF K C fld/\PySem.W.isFn K (.ref f)=true:=by simp only[QZ,Ar,C3]at h;obtain⟨⟨⟨e,c⟩,i⟩,d⟩:=h;obtain⟨a,j,hd⟩:=any_some e;rw[Ar]at hd;exact⟨⟨⟨a,j,hd.1,hd.2⟩,c,i⟩,d⟩
structure CI(K:ϡ)(mg:ϋ)(x qual:ϥ)(st:ϧ)(ps:ώ)(C f:Ϡ)(fd:FuncData)(fld:ϥ):Prop where
 mg:mg x=some (.ref C)
 cls:Ly K C (some f)=true
 q:XQ K C
 xf:XF K C fld
 fn:PySem.W.isFn K (.ref f)=true
 fi:Po K "__init__" qual st f fd
 ba:∀us:Ϗ,us.length=ps.length->bindArgs fd ⟨us,[]⟩=pure (ps.zip us)
structure CN(K:ϡ)(mg:ϋ)(x:ϥ)(C:Ϡ):Prop where
 mg:mg x=some (.ref C)
 cls:Ly K C none=true
 q:XQ K C
def Va(C:Ϡ)(fld:ϥ):Sp:=λc H Q _=>∃(e:Ϡ) (i:Int),c=[.ref e,.int i]/\H e=some (XO e C none)/\i.natAbs<=1000000000/\∀a,H a=none->Q .non (upd (upd H a (.xd [(fld,.int i)])) e (XO e C (some a)))
def pQ(C:Ϡ)(fld:ϥ)(E:St->XK)(t:TA):TS:=λ_ d H=>t d H λe c=>∃i:Int,e=[.int i]/\i.natAbs<=1000000000/\∀a,c a=none->E d (.ref C) (some a) (upd c a (.xd [(fld,.int i)]))
section
variable {X:Cx}{k j:Nat}{f C:Ϡ}{fd:FuncData}{ps:ώ}{sp:Sp}{x qual fld:ϥ}{st:ϧ}{p np cpos pos:Pos}{e:Ϧ}{es:ϗ}{t:TA}{E:St->XK}{L:Ϡ}
theorem pR(he:H1 a=none)(i:c≠a):zZ (upd (upd (upd H1 a o) c y) a d) a=upd H1 c y:=by grind[V8,BJ,V9,AM]
def pS(d:CI X.K X.mg x qual st ps C f fd fld)(F:CF X.prog X.w X.K X.mg X.base IW j f fd ps (Va C fld))(H:CK k X.A)(B:Gl X x)(G:X.env.frame=some L)(c:X.calm=true)(J:PA (X.Ñ (IL X E)) (e::es) t)(hjk:j+1<=k:=by lk)(s:(x==("__debug__":ϥ))=false:=by lk)
 (he:starEach (e::es) X.env=(false,eval e X.env)::starEach es X.env:=by rfl) (hpl:(backTo cpos (starEach es X.env)).any (·.1)=false:=by rfl) :
 PS (X.Ñ (IL X E)) (.Raise (some (.Call (.Name x np) (e::es) [] cpos)) none pos) (pQ C fld E t):=by
 refine pJ (R:=λv o r=>∃i:Int,o=[.int i]/\i.natAbs<=1000000000/\∀a,r a=none->E v (.ref C) (some a) (upd r a (.xd [(fld,.int i)]))) G c ⟨d.cls,d.fn,d.q.kp⟩ F (H.mono hjk) B d.mg (.all d.ba) (λv o r P=>?_) J s he hpl;revert o;refine Oo λi I q=>?_;refine⟨by show 1<=10;decide,λO z=>⟨O,i,U,AM,I,λa y=>⟨U,U,some a,AM,?_⟩⟩⟩
 grind[AM,BJ,pR]
def dU(d:CN X.K X.mg x C)(o:Gl X x)(r:X.env.frame=some L)(a:X.calm=true)(i:PA (X.Ñ (IL X E)) (e::es) t)(c:(x==("__debug__":ϥ))=false:=by lk)
 (he:starEach (e::es) X.env=(false,eval e X.env)::starEach es X.env:=by rfl) (hpl:(backTo cpos (starEach es X.env)).any (·.1)=false:=by rfl) :
 PS (X.Ñ (IL X E)) (.Raise (some (.Call (.Name x np) (e::es) [] cpos)) none pos) (dP C E t):=pK r a ⟨d.cls,d.q.kp⟩ o d.mg i c he hpl
def Vb(d:D X.K X.mg x st ps f fd)(F:CF X.prog X.w X.K X.mg X.base (Mr X.prog X.w) j f fd ps sp)(i:CK k X.A)(o:Gl X x)(r:X.env.frame=some L)(c:PA (X.Ñ (IL X E)) (e::es) t)(hjk:j<=k:=by lk)(a:(x==("__debug__":ϥ))=false:=by lk)
 (he:starEach (e::es) X.env=(false,eval e X.env)::starEach es X.env:=by rfl) (hpl:(backTo pos (starEach es X.env)).any (·.1)=false:=by rfl) :
 PE (X.Ñ (IL X E)) (.Call (.Name x p) (e::es) [] pos) (dH sp E t):=oO r (F.mono hjk) i o d.mg d.fn.kp (.all d.ba) c a he hpl
end
def pT:bootBuiltins "any"=some (.builtin "any"):=by room
def To(K:ϡ):ϩ V->Hp->VK->Prop:=λa H Q=>∃(p:Ϡ) (bs:ϩ Bool),a=[.ref p]/\AC K H p (bs.map V.bl)/\Q (.bl (bs.any id)) H
def pU(Z:X.calm=true):KU X (.builtin "any") (To X.K):=by rintro J s σ H xs us Q I r ⟨p,bs,rfl,P,q⟩;obtain⟨u,rfl,Y⟩:=LW r;cases Y;obtain⟨a,E,G,hz⟩:=I.list P;have R:a.length=bs.length:=(by rw[<-E.length,A3]);obtain⟨ol,c,k⟩:=id G.isList;have z:=As c;refine call_any_walk (F0 G.isList ⟨s.heap.objs.size,_,_,_,_,_,λi=>bs.getD i false,U,Walks.list (A:=X.A.in1) (I.ok.hd Z) s.heap.objs.size p (Bn z) a.toArray,⟨⟨_,Bc _ U,U,U⟩,ol,A7 _ c,k⟩,λi v L T E' W j=>?_,λh' tk O=>?_⟩);have B:a[i]?=some v:=(by simpa using W);obtain⟨y,d,S⟩:=UO E B;rw[An]at d;(cases e:bs[i]? with|none=>rw[e]at d;cases d|some b =>rw[e]at d;have C:=B0 d;subst C;cases S;have j:T (bs.getD i false) L:=j;rw[Bf,e]at j;exact Ci j);have e:(List.range a.toArray.size).any (λi=>bs.getD i false)=bs.any id:=(by rw[B5,R,Di,Fh,Fh];grind[List.mem_range.mp,List.getD_eq_getElem?_getD,List.getElem?_eq_getElem,List.getElem_mem,List.getElem_of_mem,List.mem_range.mpr]);rw[e];exact⟨.bl _,H,I.kept (λb o e=>O b o (by simp;exact Bn (As e)) (A7 _ e)),U,q⟩
def Xl(K)(hK:X.K=K)(a:X.calm=true):KU X (.builtin "any") (To K):=by subst hK;exact pU a
def Tp(K:ϡ)(B:Ϡ)(e:TS)(d:RV):RV:=λD c cls i H=>∃C a b,cls=.ref C/\Ly K C a=true/\mroIn K C (.ref B)=some b /\(if b=true then e D c H else d D c cls i H)
section
variable {X:Cx}
def pV{B:Ϡ}{k:ϒ}{x:ϥ}{Z y:Pos}{i:ϧ}{ñ:ϩ ϧ}{rest:ϩ ExceptHandler}{S:TS}{P:RV}(hg:Gl X x)(hm:X.mg x=some (.ref B))(hB:Ly X.K B k=true)
 (hsuite:∀e,IT (X.ñ e) (i::ñ) S) (o:RW X rest P) (E:(x==("__debug__":ϥ))=false:=by lk) :
 RW X (.ExceptHandler (some (.Name x Z)) none (i::ñ) y::rest) (Tp X.K B S P):=by
 refine λe cls dx Q H s D I R G=>GA λC L b=>FY λr T J O=>?_;subst r;refine QA (id G) λoe vs hd=>FZ λho hc aa Y h1 hT=>?_;refine wpAny_handleBy_cons (codeAny_handlers_test (Qd (X:=X.ñ e) (I.ñ e) hg hm ?_ E)) (by intro q;cases q);obtain⟨hp,g,d,tk,os⟩:=s;refine pN I.ď T hB ho hc J ?_;cases b with
 | false=>exact o e (.ref C) dx Q H _ D I R G O
 | true =>
   refine codeAny_handlers_suite ?_;refine V7 (s:=⟨hp,g,d,tk,os⟩) (fr:=none) I R G λh2 I2 W=>?_;refine Co (hsuite e [] _ Q _ D (I2.ñ e) O) (λf s3 q=>?_) λ_ _ z=>z.elim
   cases f with
   | next =>
     revert q;refine EX λa p j q=>?_;exact Nn a p (j.Ĺ (X:=X) (A:=X.A) (c:=X.calm) (xe:=X.xe) I.ok.frames I.ok.hd) q
   | brk =>
     revert q;refine EX λa p j q=>?_;exact Nn a p (j.Ĺ (X:=X) (A:=X.A) (c:=X.calm) (xe:=X.xe) I.ok.frames I.ok.hd) q
   | cont =>
     revert q;refine EX λa p j q=>?_;exact Nn a p (j.Ĺ (X:=X) (A:=X.A) (c:=X.calm) (xe:=X.xe) I.ok.frames I.ok.hd) q
   | ret u =>
     revert q;refine GA λv a p=>ED λj r5 q=>?_;exact Qc v a p (j.Ĺ (X:=X) (A:=X.A) (c:=X.calm) (xe:=X.xe) I.ok.frames I.ok.hd) r5 q
end
def dW{X:Cx}(K:ϡ)(hK:X.K=K){B:Ϡ}{c:ϒ}{x:ϥ}{p i:Pos}{a:ϧ}{ñ:ϩ ϧ}{rest:ϩ ExceptHandler}{o:TS}{k:RV}(r:Gl X x)(s:X.mg x=some (.ref B))(hB:Ly K B c=true)
 (hsuite:∀e,IT (X.ñ e) (a::ñ) o) (d:RW X rest k) (j:(x==("__debug__":ϥ))=false:=by lk) :
 RW X (.ExceptHandler (some (.Name x p)) none (a::ñ) i::rest) (Tp K B o k):=by subst hK;exact pV r s hB hsuite d j
end L2
namespace Cs
open PySem L2
def pW:∀c,c<128->(!(Builtin.Str.occurrences "abcdefghijklmnopqrstuvwxyz.,-'" (sg c) 0 ("abcdefghijklmnopqrstuvwxyz.,-'":ϥ).length 1).isEmpty)=decide (c∈BQ):=by room
def PL(n:Nat)(x:ϥ):Prop:=x.length<=n/\∀c∈x.cps.toList,c<128
noncomputable def OB (x:ϥ):Bool:=match x.cps.toList with
 | [c]=>decide (c∈BQ)
 | _=>false
noncomputable def RX (r:BS):Bool:=OB r.s&&decide (1<=r.w/\r.w<=99)&&decide (0<=r.t/\r.t<=127)&&decide (0<=r.n/\r.n<=40)
noncomputable def Vc (a:ϩ BS) (r:BS):Bool:=RX r&&(CV a r.s).isNone&&!decide (r.t∈a.map λx=>x.t)
def dX(rs:ϩ BS)(k:Nat):Prop:=∀i r,i<k->rs[i]?=some r->Vc (rs.take i) r=true
theorem dY{d:Type}[DecidableEq d]:∀{xs ys:ϩ d},xs.Nodup->(∀x∈xs,x∈ys)->xs.length<=ys.length|[],_,_,_=>B8 _|x::xs,ys,h,i=>by obtain⟨p,o⟩:=C2.mp h;have j:=i x Aa;have k:=dY (xs:=xs) (ys:=ys.erase x) o λy c=>(by have a:y≠x:=λe=>p (by rw[<-e];exact c);exact(List.mem_erase_of_ne a).mpr (i y (Ac _ c)));rw[Je j]at k;have:=K1 j;rw[Bb];lia
end Cs
namespace L2
open PySem PySem.Spec PyProof.Rows
section
variable {X:Cx}
def R1:V->ϩ V->Hp->VK->Prop:=λx c H Q=>∃(l:Ϡ) (a:ϓ) (z:Int),x=.ref l/\c=[.int z]/\H l=some (.lst (a.map V.int))/\Q (.int (a.count z:Nat)) H
theorem dZ(z):∀(ns:ϓ) (its),AV (ns.map V.int) its->its.countP (T8 z)=ns.count z|[],_,h=>by cases h;rfl|n::ns,_,h=>by cases h with|cons r t =>obtain⟨a,rfl⟩:=r;rw[List.countP_cons,List.count_cons,dZ z ns _ t];rfl
def pX:Qh X "list.count" R1:=by
 refine λp s W H x T v Y Q I O E=>GA λl k z=>FY λc d L q=>?_;subst c;subst d;cases O;obtain⟨u,rfl,t,rfl⟩:=E.one;obtain⟨S,a,n,r,G,e⟩:=I.ň L;rw[A3]at G;have at_:∀(m:Nat) (o:m<a.length),∃j,a[m]=.int (k[m]'(by lia)) j:=λm o=>by obtain⟨u,B,P⟩:=r.get (i:=m) (x:=.int (k[m]'(by lia))) (by rw[An,A6 (by lia)];rfl);rw[A6 o]at B;obtain⟨j,rfl⟩:=P;exact⟨j,B0 B⟩
 refine Em F.slot_list_count ⟨_,e,U⟩ F.entry_list_count (F.args_list_count_2 _ _)
  (MeetsSeq.list_count l a.toArray n (.int z t) (T8 z) (λy J=>?_)) ⟨e,?_⟩
 obtain⟨m,o,R⟩:=C7 (by simpa using J);obtain⟨j,C⟩:=at_ m o;rw[<-R,C];exact MeetsSeq.EqGives.int _ _ _ _;rw[show a.toArray.toList=a from U,dZ z k a r];exact BY (.int (k.count z:Nat)) H (I.tok _) ⟨_,U⟩ q
end
end L2
namespace Lan
open PySem L2
abbrev Mx:=ϥ×Int
def JK(H:Hp)(v:V)(m:Mx):Prop:=∃a,v=.ref a/\H a=some (.tup [.str m.1,.int m.2])
def e6(h:Paired (JK H) xs ms)(s:AA H c):Paired (JK c) xs ms:=Paired.Æ h λ_ _ ⟨a,e,z⟩=>⟨a,e,s _ _ z⟩
def Xm(h:Paired (JK H) xs ms)(c:H p=some (.lst ys)):Paired (JK (upd H p o)) xs ms :=Paired.Æ h λ_ _ ⟨a,e,z⟩=>⟨a,e,by rw[BJ (HB z c (λq=>by cases q))];exact z⟩
theorem e8(h:JK H v m):∀n:Nat,Paired (JK H) (List.replicate n v) (List.replicate n m)|0=>.nil|n+1=>.cons h (e8 h n)
def R3(H0:Hp)(no:Ϡ)(H:Hp)(v:V)(ms:ϩ Mx):Prop:=∃p a,v=.ref p/\p≠no/\H0 p=none/\H p=some (.lst a)/\Paired (JK H) a ms
def pY(h:Paired (R3 H0 no H) zs ls)(s:AA H c):Paired (R3 H0 no c) zs ls :=Paired.Æ h λ_ _ ⟨p,a,e,n,f,z,m⟩=>⟨p,a,e,n,f,s _ _ z,e6 m s⟩
def pZ(h:Paired (R3 H0 no H) zs ls)(c:H no=some (.lst ys)):Paired (R3 H0 no (upd H no o)) zs ls :=Paired.Æ h λ_ _ ⟨p,a,e,n,f,z,m⟩=>⟨p,a,e,n,f,by rw[BJ n];exact z,Xm m c⟩
def q3(h:Paired (R3 H0 no H) zs ls)(c:H p=none):V.ref p∉zs:=by intro d;obtain⟨i,j,e⟩:=C7 d;obtain⟨_,_,k,o,a,_,_,z,_⟩:=Cs.FD h (A6 j);rw[e]at a;cases a;rw[c]at z;cases z
end Lan
namespace L2
open PySem PySem.Spec PyProof.Rows
def R4(h:Ϥ)(z TI TO:Ϡ):Prop :=∃(a:Ϟ) (c:Bool),(a=.none\/∃T:Ϡ,a=rawInt T)/\h.get? z=some { cls:=.type "zip",dict:=none,data:=.fields #[a,.bool c,.bool false,.ref TI,.ref TO],slots:=#[] }
section
variable {prog:ϣ}{w:Ϣ}{A:Around}{E:ϊ}{s:ϟ}
def q7(h:Q (s.heap.get? a) s):wpAny (model prog w) A (loadIfAlive a) Q E s:=by intro d p c;unfold loadIfAlive;simp_all
def ef{z TI TO}{Q}(hz:R4 s.heap z TI TO)
 (h:∀b h',(∃e c,h'.get? z=some { cls:=.type "zip",dict:=none,data:=.fields #[e,.bool c,.bool false,.ref TI,.ref TO],slots:=#[] })->(b=false->R4 h' z TI TO)->Heap.SameBut z s.heap h'->Q b { s with heap:=h' }) :
 wpAny (model prog w) A (Builtin.SmallTypes.ownedTupleIsFree (.ref z)) Q E s:=by
 revert hz;refine EX λe c i hz=>?_;unfold Builtin.SmallTypes.ownedTupleIsFree;refine A5 (Ct hz U (x:=e) U ?_);rcases i with rfl|⟨T,rfl⟩
 .exact Ak (h true s.heap ⟨_,_,hz⟩ (λz=>nomatch z) ⟨U,λ_ _=>U⟩)
 .show wpAny _ _ (loadIfAlive (Int.toNat (T:Int)) >>= _) _ _ _;refine A5 (q7 ?_);cases s.heap.get? (Int.toNat (T:Int))with
  | none=>exact Ak (h true s.heap ⟨_,_,hz⟩ (λz=>nomatch z) ⟨U,λ_ _=>U⟩)
  | some o =>
    show wpAny _ _ (field (.ref z) 1 >>= _) _ _ _;refine A5 (Ct hz U (x:=.bool c) U ?_);cases c with
    | true =>
      rw[Av (by lk)];exact A5 (Ak (Ak (h false s.heap ⟨_,_,hz⟩ (λ_=>⟨_,_,.inr ⟨T,U⟩,hz⟩) ⟨U,λ_ _=>U⟩)))
    | false =>
      rw[B1 (by lk)];exact A5 (Dq hz (by simp) λh' a d=>Ak (h false h' ⟨_,_,a⟩ (λ_=>⟨_,_,.inr ⟨T,U⟩,a⟩) d))
def qc{z TI TO i1 i2 l1 l2}{k1 k2}{xs ys}{x y a b}{Q:ϊ}(D:ZipApart z TI TO i1 i2 l1 l2)
 (hz:R4 s.heap z TI TO) (hTI:IsPair s.heap TI (.ref i1) (.ref i2)) (hTO:IsPair s.heap TO a b)
 (h1:s.heap.IsListIter i1 l1 k1) (h2:s.heap.IsListIter i2 l2 k2) (Ĝ:s.heap.IsList l1 xs) (ģ:s.heap.IsList l2 ys) (hx:xs[k1]?=some x) (hy:ys[k2]?=some y)
 (hQ:∀h',R4 h' z TI TO->(∃u v,IsPair h' TO u v)->h'.IsListIter i1 l1 (k1+1)->h'.IsListIter i2 l2 (k2+1)->IsPair h' s.heap.objs.size x y->h'.objs.size=s.heap.objs.size+1 ->
   (∀c o,c≠z->c≠TO->c≠i1->c≠i2->s.heap.get? c=some o->h'.get? c=some o)->Q (.ref s.heap.objs.size) { s with heap:=h' }) :
 wpAny (model prog w) A (Builtin.«zip.__next__» ⟨[.ref z],[]⟩) (λfin s'=>∃v,fin=.done (.ret v)/\Q v s') E s:=by
 refine EX (λf0 f1 hf am=>?_) (id hz);show wpAny _ _ (field (.ref z) 2 >>= _) _ _ _;refine A5 (Ct am U (x:=.bool false) U ?_);show wpAny _ _ (field (.ref z) 3 >>= _) _ _ _;refine A5 (Ct am U (x:=.ref TI) U (A5 (Dy hTI U ?_)));show wpAny _ _ (Builtin.SmallTypes.ownedTupleIsFree (.ref z) >>= _) _ _ _;refine A5 (ef hz λfr as aa ap j=>?_);cases fr with
 | true =>
   revert aa;refine JG λav aw aa=>?_;simp only[Iw];refine A5 (Jt (A5 (Ct aa U (x:=.ref TO) U (A5 (Dq aa (by simp) λan af H=>?_)))));have k:Heap.SameBut z s.heap an:=⟨H.1.trans j.1,λc hc=>(H.2 c hc).trans (j.2 c hc)⟩
   clear H;refine A5 ?_;simp only[List.zipIdx_cons,List.zipIdx_nil,Fu,F5];refine A5 (A5 (Jf ?_));show wpAny _ _ (Builtin.SmallTypes.nextOf (.ref i1) >>= _) _ _ _;refine A5 (De (h1.extBut k.extBut D.i1z) (Ĝ.extBut k.extBut D.l1z) hx λac P d=>Ak ?_);have T:IsPair ac TO a b:=d.extBut _ _ D.TOi1 (k.extBut _ _ D.TOz hTO);refine A5 (Dy T U (A5 (Gj T λao I p=>?_)))
   replace I:IsPair ao TO x b:=I
   refine A5 (F8 (Ak (A5 (A5 (Jf ?_)))));show wpAny _ _ (Builtin.SmallTypes.nextOf (.ref i2) >>= _) _ _ _;refine A5 (De (((h2.extBut k.extBut D.i2z).extBut d.extBut D.i12.symm).extBut p.extBut D.TOi2.symm)
    (((ģ.extBut k.extBut D.l2z).extBut d.extBut D.l2i1).extBut p.extBut D.l2TO) hy λG L i=>Ak ?_)
   have R:=i.extBut _ _ D.TOi2 I;refine A5 (Dy R U (A5 (Gj R λC r B=>?_)))
   replace r:IsPair C TO x y:=r
   refine A5 (F8 (Ak (Ak (A5 (Dy r U (A5 (wpAny_newTuple ?_)))))));have W:C.objs.size=s.heap.objs.size:=by rw[B.1,i.1,p.1,d.1,k.1]
   have Y:=B.extBut _ _ D.TOz.symm (i.extBut _ _ D.i2z.symm (p.extBut _ _ D.TOz.symm (d.extBut _ _ D.i1z.symm af)));have ak:∀c o,c≠z->c≠TO->c≠i1->c≠i2->s.heap.get? c=some o->C.get? c=some o:=λc o Z c2 c3 c4 e =>
    B.extBut _ _ c2 (i.extBut _ _ c4 (p.extBut _ _ c2 (d.extBut _ _ c3 (k.extBut _ _ Z e))))
   have ag:=((P.extBut p.extBut D.TOi1.symm).extBut i.extBut D.i12).extBut B.extBut D.TOi1.symm;have ah:=L.extBut B.extBut D.TOi2.symm;have ab:=As Y;show wpAny _ _ (Builtin.SmallTypes.ownedTupleHandOut (.ref z) (.ref C.objs.size) >>= _) _ _ _;refine A5 ?_;unfold Builtin.SmallTypes.ownedTupleHandOut;refine A5 (Dq (A7 { cls:=.type "tuple",data:=.seq #[x,y] } Y) (by simp) λau ai J=>?_);refine Dq ai (by simp) λS ae O=>?_;have up:∀c o,c≠z->C.get? c=some o->S.get? c=some o:=λc o Z e=>O.extBut _ _ Z (J.extBut _ _ Z (A7 _ e))
   have X:=O.extBut _ _ (E4 ab) (J.extBut _ _ (E4 ab) (Bc _ U));have al:S.objs.size=C.objs.size+1:=by rw[O.1,J.1,Ck]
   have aq:R4 S z TI TO:=⟨_,_,.inr ⟨_,U⟩,ae⟩
   rw[W]at X al
   refine Ak ⟨_,U,?_⟩;show Q (.ref C.objs.size) _;rw[W];exact hQ S aq ⟨_,_,up _ _ D.TOz r⟩ (ag.at λo e=>up _ o D.i1z e) (ah.at λo e=>up _ o D.i2z e) X al λc o Z c2 c3 c4 e=>up c o Z (ak c o Z c2 c3 c4 e)
 | false =>
   have aj:=ap U;simp only[E6,G2];simp only[Fu,F5,<-Kv];refine A5 (A5 (A5 (C9 ?_)));show wpAny _ _ (Builtin.SmallTypes.nextOf (.ref i1) >>= _) _ _ _;refine A5 (De (h1.extBut j.extBut D.i1z) (Ĝ.extBut j.extBut D.l1z) hx λac P d=>Ak (Ak (A5 (A5 (C9 ?_)))));show wpAny _ _ (Builtin.SmallTypes.nextOf (.ref i2) >>= _) _ _ _;refine A5 (De ((h2.extBut j.extBut D.i2z).extBut d.extBut D.i12.symm) ((ģ.extBut j.extBut D.l2z).extBut d.extBut D.l2i1) hy λG L i=>Ak (Ak (Ak ?_)));show wpAny _ _ (newTuple [x,y] >>= _) _ _ _;refine A5 (wpAny_newTuple ?_);have W:G.objs.size=s.heap.objs.size:=by rw[i.1,d.1,j.1]
   refine Ak ⟨_,U,?_⟩;show Q (.ref G.objs.size) _;have up:∀c o,c≠z->c≠i1->c≠i2->s.heap.get? c=some o->G.get? c=some o:=λc o Z c3 c4 e=>i.extBut _ _ c4 (d.extBut _ _ c3 (j.extBut _ _ Z e))
   revert aj;refine EX λg0 g1 hg ar=>?_;have p1:=A7 { cls:=.type "tuple",data:=.seq #[x,y] } (i.extBut _ _ D.i2z.symm (d.extBut _ _ D.i1z.symm ar));have p2:IsPair (G.push { cls:=.type "tuple",data:=.seq #[x,y] }) G.objs.size x y:=Bc _ U;rw[W]at p2⊢
   refine hQ _ ⟨g0,g1,hg,p1⟩ ⟨a,b,A7 _ (up _ _ D.TOz D.TOi1 D.TOi2 hTO)⟩ (((P.extBut i.extBut D.i12)).at λo e=>A7 _ e) (L.at λo e=>A7 _ e) p2 (by rw[Ck,W]) λc o Z c2 c3 c4 e=>A7 _ (up c o Z c3 c4 e)
def qd{z TI TO i1 i2 l1 l2}{k1 k2}{xs ys}{a b}{Q}(hh:A.handled=none)(D:ZipApart z TI TO i1 i2 l1 l2)
 (hz:R4 s.heap z TI TO) (hTI:IsPair s.heap TI (.ref i1) (.ref i2)) (hTO:IsPair s.heap TO a b)
 (h1:s.heap.IsListIter i1 l1 k1) (h2:s.heap.IsListIter i2 l2 k2) (Ĝ:s.heap.IsList l1 xs) (ģ:s.heap.IsList l2 ys) (P:xs[k1]?=none\/ys[k2]?=none)
 (hE:∀h' e,(∀c o,c≠z->c≠TO->c≠i1->c≠i2->s.heap.get? c=some o->h'.get? c=some o)->(∃o,h'.get? e=some o/\o.cls=.type "StopIteration")->E (.ref e) { s with heap:=h' }) :
 wpAny (model prog w) A (Builtin.«zip.__next__» ⟨[.ref z],[]⟩) Q E s:=by
 refine EX (λf0 f1 hf ab=>?_) (id hz);show wpAny _ _ (field (.ref z) 2 >>= _) _ _ _;refine A5 (Ct ab U (x:=.bool false) U ?_);show wpAny _ _ (field (.ref z) 3 >>= _) _ _ _;refine A5 (Ct ab U (x:=.ref TI) U (A5 (Dy hTI U ?_)));show wpAny _ _ (Builtin.SmallTypes.ownedTupleIsFree (.ref z) >>= _) _ _ _;refine A5 (ef hz λfr af O ag i=>?_);cases fr with
 | true =>
   revert O;refine JG λai ah O=>?_;simp only[Iw];refine A5 (Jt (A5 (Ct O U (x:=.ref TO) U (A5 (Dq O (by simp) λaa J p=>?_)))));have j:Heap.SameBut z s.heap aa:=⟨p.1.trans i.1,λc hc=>(p.2 c hc).trans (i.2 c hc)⟩
   clear p;refine A5 ?_;simp only[List.zipIdx_cons,List.zipIdx_nil,Fu,F5];refine A5 (A5 (Jf ?_));show wpAny _ _ (Builtin.SmallTypes.nextOf (.ref i1) >>= _) _ _ _;cases X:xs[k1]? with
   | none =>
     refine A5 (Ez hh (h1.extBut j.extBut D.i1z) (Ĝ.extBut j.extBut D.l1z) X λB e d Y=>?_);revert Y;refine AS λoe v G=>?_;have C:=d _ _ D.i1z.symm J;have T:e≠z:=λx=>by subst x;rw[C]at v;cases v;simp at G
     refine Dq C (by simp) λS _ k=>hE S e (λc o L _ W _ x=>k.extBut _ _ L (d _ _ W (j.extBut _ _ L x))) ⟨oe,k.extBut _ _ T v,G⟩
   | some x =>
     have hy:ys[k2]?=none:=by rcases P with h|h;rw[X]at h;cases h;exact h
     refine A5 (De (h1.extBut j.extBut D.i1z) (Ĝ.extBut j.extBut D.l1z) X λB Z d=>Ak ?_);have y:=d.extBut _ _ D.TOi1 (j.extBut _ _ D.TOz hTO);refine A5 (Dy y U (A5 (Gj y λS ae k=>A5 (F8 (Ak (A5 (A5 (Jf ?_))))))));show wpAny _ _ (Builtin.SmallTypes.nextOf (.ref i2) >>= _) _ _ _;refine A5 (Ez hh (((h2.extBut j.extBut D.i2z).extBut d.extBut D.i12.symm).extBut k.extBut D.TOi2.symm)
      (((ģ.extBut j.extBut D.l2z).extBut d.extBut D.l2i1).extBut k.extBut D.l2TO) hy λR e r Y=>?_)
     revert Y;refine AS λoe v G=>?_;have I:=r _ _ D.i2z.symm (k.extBut _ _ D.TOz.symm (d.extBut _ _ D.i1z.symm J));have T:e≠z:=λx=>by subst x;rw[I]at v;cases v;simp at G
     refine Dq I (by simp) λac _ H=>hE ac e (λc o L c2 W c4 x=>H.extBut _ _ L (r _ _ c4 (k.extBut _ _ c2 (d.extBut _ _ W (j.extBut _ _ L x))))) ⟨oe,H.extBut _ _ T v,G⟩
 | false =>
   simp only[E6,G2];simp only[Fu,F5,<-Kv];refine A5 (A5 (A5 (C9 ?_)));show wpAny _ _ (Builtin.SmallTypes.nextOf (.ref i1) >>= _) _ _ _;cases X:xs[k1]? with
   | none =>
     exact A5 (Ez hh (h1.extBut i.extBut D.i1z) (Ĝ.extBut i.extBut D.l1z) X λB e d Y=>hE B e (λc o L _ W _ x=>d _ _ W (i.extBut _ _ L x)) Y)
   | some x =>
     have hy:ys[k2]?=none:=by rcases P with h|h;rw[X]at h;cases h;exact h
     refine A5 (De (h1.extBut i.extBut D.i1z) (Ĝ.extBut i.extBut D.l1z) X λB Z d=>Ak (Ak (A5 (A5 (C9 ?_)))));show wpAny _ _ (Builtin.SmallTypes.nextOf (.ref i2) >>= _) _ _ _;exact A5 (Ez hh ((h2.extBut i.extBut D.i2z).extBut d.extBut D.i12.symm) ((ģ.extBut i.extBut D.l2z).extBut d.extBut D.l2i1) hy λR e r Y=>hE R e (λc o L _ W c4 x=>r _ _ c4 (d.extBut _ _ W (i.extBut _ _ L x))) Y)
end
section
variable {X:Cx}(K:ϡ) (hK:X.K=K)
include hK
end
section
variable {prog:ϣ}{w:Ϣ}{A:Around}{E:ϊ}{s:ϟ}
theorem eg(o:t≠r):∀(n i) (s) (Q),s.heap.IsListIter r t i->s.heap.IsList t items->i+n<=items.size ->(∀h',h'.IsListIter r t (i+n)->Heap.SameBut r s.heap h'->Q ((items.toList.drop i).take n) { s with heap:=h' })->wpAny (model prog w) A (draw (.ref r) n) Q E s|0,i,s,Q,e,_,_,v=>by show wpAny _ _ (pure []) Q E s;exact Ak (by simpa using v s.heap e (Heap.SameBut.refl ..))|n+1,i,s,Q,e,z,B,v=>by have k:i<items.size:=(by lia);show wpAny _ _ (pyNext (.ref r) >>= _) Q E s;refine A5 (wpAny_pyNext_list_item e z (x:=items[i]) (by simp[k]) λy c a=>?_);refine A5 (C9 (eg o n (i+1) _ _ c (z.extBut a.extBut o) (by lia) λp d j=>Ak ?_));have hd:items.toList.drop i=items[i]::items.toList.drop (i+1):=(by simp[Fj,k]);have:=v p (by rw[show i+(n+1)=i+1+n by lia];exact d) (a.trans j);rw[hd,List.take_succ_cons]at this;exact this
def qh(C:A.handled=none)(k:s.heap.IsList t items)(z:∀h',Heap.ExtBut s.heap.objs.size s.heap h'->Q items.toList { s with heap:=h' }):wpAny (model prog w) A (unpackItems (.ref t) items.size none) Q E s:=by have j:t≠s.heap.objs.size:=(by obtain⟨o,B,_⟩:=k;exact Bn (As B));unfold unpackItems;refine A5 ?_;unfold notIterableAtAll;refine A5 (Gp k.typeIs slot_list_iter.lookup (Ak ?_));simp only[E6,G2];refine A5 (C9 (F0 k (A5 (C9 (eg j items.size 0 _ _ ⟨_,Bc _ U,U,U⟩ (k.push _) (by lia) λv c a=>?_)))));have r:List.take items.size (List.drop 0 items.toList)=items.toList:=(by grind[List.drop_zero,List.take_of_length_le]);rw[r,Av (by simp)];have i:=(k.push _).extBut a.extBut j;refine A5 (C9 (wpAny_pyNext_list_end C c i (by simp) λp d=>?_));simp only[Option.isSome_none,E6,G2];refine Ak (z p λb o y e=>d b o y (a.extBut b o y (A7 _ e)))
def qj{j}(e:A.handled=none)(i:s.heap.IsList t items)(k:(assignEach a env).length=items.size)(c:(assignEach a env).findIdx? (·.1)=none)(h:∀h',Heap.ExtBut s.heap.objs.size s.heap h'->wpAny (model prog w) A (assignInOrder ((assignEach a env).map (·.2)) items.toList) Q E { s with heap:=h' }) :
 wpAny (model prog w) A (assign (.Tuple a j d) env (.ref t)) Q E s:=by
 rw[assign_Tuple];refine A5 (Ds ?_);unfold unpack;rw[k,c];exact A5 (C9 (qh e i h))
end
section
variable {X:Cx}{pos:Pos}
def Tq(K:ϡ)(n:Nat)(t:QE):TG:=λv d H Q=>∃a c,v=.ref a/\AC K H a c/\c.length=n/\t c d H Q
def qk(S:X.calm=true)(h:QF X j t)(R:(assignEach j X.env).length=n:=by rfl)(i:(assignEach j X.env).findIdx? (·.1)=none:=by rfl):PG X (.Tuple j k pos) (Tq X.K n t):=by refine λc s y H v u Q I r=>IK λa O d E L J=>?_;subst d;cases r;refine DN (λG p z T=>?_) (I.list E);refine qj (I.ok.hd S) z.isList (by simp[R,<-L,p.length]) i λC P=>?_;have B:AG X c y H { s with heap:=C }:=I.kept (t':=s.toks) λb o e=>P b o (Bn (As e)) e;exact h c _ y H O _ Q B (by simpa using p) J
def eh(K)(hK:X.K=K)(d:X.calm=true)(h:QF X c t)(e:(assignEach c X.env).length=n:=by rfl)(a:(assignEach c X.env).findIdx? (·.1)=none:=by rfl) :
 PG X (.Tuple c k pos) (Tq K n t):=by subst hK;exact qk d h e a
end
structure FS(ns:ώ)(fs:ϩ (ϥ×V))(vals:ϩ (Ϩ V)):Prop where
 lk:∀m,fs.lookup m=(ns.idxOf? m).bind λi=>(vals[i]?).join
 ln:vals.length=ns.length
 nd:(fs.map (·.1)).Nodup
 sb:∀x∈fs.map (·.1),x∈ns
 fw:ns.length<1000
theorem ew(f)(v):∀fs:ϩ (ϥ×V),(f∈fs.map (·.1)->(EN f v fs).map (·.1)=fs.map (·.1))/\(f∉fs.map (·.1)->(EN f v fs).map (·.1)=fs.map (·.1)++[f])|[]=>⟨λh=>by simp at h,λ_=>U⟩|(k,x)::r=>by obtain⟨c,d⟩:=ew f v r;rw[show EN f v ((k,x)::r)=(if k=f then(k,v)::r else(k,x)::EN f v r)from U];by_cases a:k=f;rw[B1 a];exact⟨λ_=>U,λh=>absurd (by rw[<-a];simp) h⟩;rw[Av a];refine⟨λh=>?_,λh=>?_⟩;rw[Bp]at h;rcases Al.mp h with h|h;exact absurd h.symm a;rw[Bp,c h,Bp];rw[Bp,d λz=>h (by rw[Bp];exact Ac _ z),Bp];rfl
def FS.nil(h:ns.length<1000):FS ns [] (List.replicate ns.length none):=by refine⟨λm=>?_,By,F6,(λx a=>nomatch a),h⟩;cases e:ns.idxOf? m with|none=>rfl|some i =>grind
theorem FS.len{ns}{fs}{vals}(h:FS ns fs vals):fs.length<1000:=by have a:=Cs.dY h.nd h.sb;have c:=h.fw;rw[A3]at a;lia
def FS.get{fs}{vals}(h:FS ns fs vals)(c:ns.idxOf? m=some i)(a:vals[i]?=some (some v)):fs.lookup m=some v:=by rw[h.lk m,c];show(vals[i]?).join=_;rw[a];rfl
def FS.no{fs}{vals}(h:FS ns fs vals)(a:ns.idxOf? m=none):fs.lookup m=none:=by rw[h.lk m,a];rfl
def ez{ns:ώ}{f}{i}(h:ns.idxOf? f=some i):ns[i]?=some f:=by unfold List.idxOf? at h;obtain⟨a,e,_⟩:=Cd.mp h;rw[A6 a,C3.mp e]
def FS.put{ns}{fs}{vals}{f}{i}(y)(h:FS ns fs vals)(r:ns.idxOf? f=some i):FS ns (EN f y fs) (vals.set i (some y)):=by have c:=ez r;have o:i<vals.length:=(by have:=(Ap.mp c).1;rw[h.ln];exact this);obtain⟨p,s⟩:=ew f y fs;refine⟨λm=>?_,by rw[Es];exact h.ln,?_,?_,h.fw⟩;rw[Wx];by_cases e:m=f;rw[B1 e,e,r];show _=((vals.set i (some y))[i]?).join;rw[F1,B1 U,B1 o];rfl;rw[Av e,h.lk m];(cases B:ns.idxOf? m with|none=>rfl|some j =>have C:=ez B;have k:i≠j:=λz=>(by rw[z,C]at c;exact e (B0 c));show(vals[j]?).join=((vals.set i (some y))[j]?).join;rw[F1,Av k]);by_cases e:f∈fs.map (·.1);rw[p e];exact h.nd;rw[s e,F3];refine⟨h.nd,by simp,λa E b v=>?_⟩;rw[Ah.mp v];exact λz=>e (z ▸ E);intro x d;by_cases e:f∈fs.map (·.1);rw[p e]at d;exact h.sb x d;rw[s e]at d;rcases Be.mp d with d|d;exact h.sb x d;rw[Ah.mp d];exact Af c
def JA(C:Ϡ)(ns:ώ)(H:Hp)(a:Ϡ)(vals:ϩ (Ϩ V)):Prop:=∃c fs,H a=some (.ins C c fs)/\FS ns fs vals
def JA.same{vals}(h:JA C ns H a vals)(s:AA H c):JA C ns c a vals:=let ⟨dx,fs,e,f⟩:=h;⟨dx,fs,s _ _ e,f⟩
def Xn(C:Ϡ)(ns:ώ)(d:TE)(i:Nat):TE:=λe H Q=>d e H λx c=>∃a vals v,x=.ref a/\JA C ns c a vals/\vals[i]?=some (some v)/\Q v c
def Xo(C:Ϡ)(ns:ώ)(o j:TE)(i:Nat):TS:=λD c H=>j c H λy k=>o c k λx e=>∃a vals,x=.ref a/\JA C ns e a vals /\∀d,JA C ns d a (vals.set i (some y))->(∀b,b≠a->d b=e b)->D.nx c d
def eA(C:Ϡ)(ns:ώ)(sp:Sp)(E:XK)(j:TE)(t:TA):TE:=λd H Q=>j d H λx c=>∃a vals,x=.ref a/\JA C ns c a vals/\t d c λi e=>sp (x::i) e Q E
structure DM(K:ϡ)(x qual:ϥ)(st:ϧ)(ps:ώ)(C f:Ϡ)(fd:FuncData):Prop where
 fn:Po K x qual st f fd
 ba:∀us:Ϗ,us.length=ps.length->bindArgs fd ⟨us,[]⟩=pure (ps.zip us)
 me:SK K C x f
section
variable {X:Cx}{K:ϡ}(hK:X.K=K) {ns:ώ}{C:Ϡ}{o e value:Ϧ}{es:ϗ}{f:ϥ}{i:Nat}{pos pos' apos:Pos}{ta tv:TE}{t:TA}{k j:Nat}{g:Ϡ}{fd:FuncData}{ps:ώ}{sp:Sp}{m qual:ϥ}{st:ϧ}
include hK
theorem Tr(c:NP K C)(n:Pg K C f)(G:ns.idxOf? f=some i)(he:PE X o ta)(r:attributeBase o f X.env (eval o X.env)=eval o X.env:=by rfl):PE X (.Attribute o f pos) (Xn C ns ta i):=by subst hK;intro d s J H Q I h;refine kP r (BH (he d s J H _ I h) λu T p=>?_);obtain⟨x,B,y,E,a,vals,v,ex,⟨Y,fs,P,F⟩,L,q⟩:=p;subst ex;obtain rfl:u=Value.ref a:=E;exact kN y P c n (F.get G L) λS R z O=>⟨v,B,z,O,q⟩
theorem eB(c:NP K C)(n:Pg K C f)(R:ns.idxOf? f=some i)(S:PE X o ta)(T:PE X value tv)(Q:swapsWith value (some (.Attribute o f pos')) pos.line X.env=pure false:=by rfl):PS X (.Assign [.Attribute o f pos'] value pos) (Xo C ns ta tv i):=by subst hK;intro d s p H D I h;refine G7 (BH (T d s p H _ I h) λu J ⟨y,G,z,P,q⟩=>BH (S d J p G _ z q) λL s2 r=>?_) Q;obtain⟨x,H2,E,O,a,vals,ex,⟨Z,fs,Y,F⟩,q2⟩:=r;subst ex;obtain rfl:L=Value.ref a:=O;exact kO E Y c n F.len P λs3 B=>⟨p,_,B,q2 _ ⟨Z,_,AM,F.put y R⟩ λb v=>BJ v⟩
theorem KI (c:NP K C) (d:DM K m qual st ps C g fd) (F:CF X.prog X.w X.K X.mg X.base IW j g fd ps sp) (R:CK k X.A) (Y:ns.idxOf? m=none) (he:PE X o ta) (Z:PA X (e::es) t) (hjk:j<=k:=by lk) (y:starEach (e::es) X.env=(false,eval e X.env)::starEach es X.env:=by rfl) (hpl:(backTo pos (starEach es X.env)).any (·.1)=false:=by rfl) (O:eval (.Call (.Attribute o m apos) (e::es) [] pos) X.env=(do
 let G <- eval o X.env
 standAt apos.atName
 let (f,first) <- holding [G] (getMethod G m pl)
 callWith pos f first (backTo pos (starEach (e::es) X.env)) (backToKw pos (keywordEach [] X.env))):=by rfl) :
 PE X (.Call (.Attribute o m apos) (e::es) [] pos) (eA C ns sp E0 ta t):=by
 subst hK;intro p s J H Q I h;refine Ey (pl:=pl) (BH (he p s J H _ I h) λu S v=>?_) O;obtain⟨x,P,z,T,a,vals,ex,⟨dx,fs,ea,FF⟩,q⟩:=v;subst ex;obtain rfl:u=Value.ref a:=T;exact WA z ea c d.me (FF.no Y) (Do (first:=[.ref a]) (h₀:=X.base) I.ok.mod.kin d.me.kp (BH (Z pos p S J P _ z q) λL s2 v=>by obtain⟨B,H2,E,r,q2⟩:=v;exact⟨E.ď,WE (us:=.ref a::L) (vs:=.ref a::B) (F.mono hjk) R (.all d.ba) .nil SY E (.cons U r) (by rw[Aq];exact q2)⟩) y hpl)
theorem FM (c:NP K C) (d:DM K m qual st ps C g fd) (F:CF X.prog X.w X.K X.mg X.base IW j g fd ps sp) (B:CK k X.A) (G:ns.idxOf? m=none) (he:PE X o ta) (hjk:j<=k:=by lk) (z:eval (.Call (.Attribute o m apos) [] [] pos) X.env=(do
 let y <- eval o X.env
 standAt apos.atName
 let (f,first) <- holding [y] (getMethod y m pl)
 callWith pos f first (backTo pos (starEach [] X.env)) (backToKw pos (keywordEach [] X.env))):=by rfl) :
 PE X (.Call (.Attribute o m apos) [] [] pos) (eA C ns sp E0 ta O5):=by
 subst hK;intro p s J H Q I h;refine Ey (pl:=pl) (BH (he p s J H _ I h) λu R v=>?_) z;obtain⟨x,P,r,E,a,vals,ex,⟨S,fs,O,L⟩,q⟩:=v;subst ex;obtain rfl:u=Value.ref a:=E;exact WA r O c d.me (L.no G) (PySem.W.callWith_K0 (first:=[.ref a]) r.ď d.me.kp (WE (us:=[.ref a]) (vs:=[.ref a]) (F.mono hjk) B (.all d.ba) .nil SY r (.cons U .nil) q))
end
structure PM(K:ϡ)(x qual:ϥ)(st:ϧ)(f:Ϡ)(fd:FuncData):Prop where
 ex:∃(oc:Ϟ) (od:ϒ) (dV kV doc pm:Ϟ) (an:ϒ) (cdv ct:Ϟ) (osl:Array ϐ),
  fd=PySem.W.fnOf x qual (BU st) (JQ st) (AN st) dV kV doc pm an cdv ct/\K.lookup f=some ⟨oc,od,.func fd,osl⟩/\PySem.W.codeIn K cdv qual=true
 kp:PySem.W.keepIn K (.ref f)=true
section
variable {P:ϣ}{w:Ϣ}{K:ϡ}{mg:ϋ}{base:Ϥ}
def PM.ok{x qual}{st}{f}{j}{N ps}{k}{sp}(F:PM K x qual st f j)(S:EF N ps (AN st))(len:∀vs H Q E,sp vs H Q E->vs.length=ps.length)
 (d:∀(a) (A) (outer) (s) (H) (vs) (Q) (E),CK k (A.deeper (envOfC qual (AN st) s.heap.objs.size f a))->sp vs H Q E ->
   ∃t,IT (HC IW P w K mg base N qual (AN st) f a A outer s H E).nox (JQ st) t/\t { nx:=λ_ r=>Q .non r,rt:=Q } (start N vs) H):CF P w K mg base IW (k+1) f j ps sp:=by
 refine Sl F.ex λy B C kV doc=>EK λpm z a ct v=>ED λc o i=>?_;subst c;refine WG o i S len λA outer s H vs Q E p e=>?_;refine AS (λt h q=>?_) (d a A outer s H vs Q E p e);exact AU t h.nox q
def Ts{P:Ϗ->Prop}(h:∀a (t),t.length=n->P (a::t))(us)(e:us.length=n+1):P us:=by cases us with|nil=>cases e|cons a t=>exact h a t (Nat.succ.inj e)
def ql{P:Ϗ->Prop}(h:P [])(us)(e:us.length=0):P us:=by cases us with|nil=>exact h|cons a t=>cases e
def eC{P:Ϗ->Prop}(h:∀a,P [a])(us)(e:us.length=1):P us:=Ts (n:=0) (λa t c=>ql (P:=λt=>P (a::t)) (h a) t c) us e
def us2{P:Ϗ->Prop}(h:∀a b,P [a,b])(us)(e:us.length=2):P us:=Ts (n:=1) (λa t c=>eC (P:=λt=>P (a::t)) (h a) t c) us e
def eD{P:Ϗ->Prop}(h:∀a b c,P [a,b,c])(us)(e:us.length=3):P us:=Ts (n:=2) (λa t d=>us2 (P:=λt=>P (a::t)) (h a) t d) us e
def Xp{P:Ϗ->Prop}(h:∀a b c d,P [a,b,c,d])(us)(e:us.length=4):P us:=Ts (n:=3) (λa t i=>eD (P:=λt=>P (a::t)) (h a) t i) us e
def eE{P:Ϗ->Prop}(h:∀a b c d e,P [a,b,c,d,e])(us)(e:us.length=5):P us:=Ts (n:=4) (λa t i=>Xp (P:=λt=>P (a::t)) (h a) t i) us e
def eF{us a:Ϗ}{n}(h:(us++a).length=n):us.length=n-a.length:=by rw[Ag]at h;lia
structure DI(K:ϡ)(mg:ϋ)(x qual:ϥ)(st:ϧ)(ps:ώ)(C f:Ϡ)(fd:FuncData):Prop where
 mg:mg x=some (.ref C)
 cl:NP K C
 mkr:Mk K C f
 fn:PM K "__init__" qual st f fd
 b0:MC K fd ps []
 b1:MC K fd ps [.none]
end
section
variable {X:Cx}{k j:Nat}{C f:Ϡ}{fd:FuncData}{ps:ώ}{sp:Sp}{x qual:ϥ}{st:ϧ}{p pos:Pos}{e:Ϧ}{es:ϗ}{t:TA}
def R5(d:DI X.K X.mg x qual st ps C f fd)(F:CF X.prog X.w X.K X.mg X.base IW j f fd ps sp)(i:CK k X.A)(o:Gl X x)(c:PA X (e::es) t)(hjk:j+1<=k:=by lk)(a:(x==("__debug__":ϥ))=false:=by lk)
 (he:starEach (e::es) X.env=(false,eval e X.env)::starEach es X.env:=by rfl) (hpl:(backTo pos (starEach es X.env)).any (·.1)=false:=by rfl) :
 PE X (.Call (.Name x p) (e::es) [] pos) (WD C sp [.non] E0 t) :=
 Zx d.mkr (F.mono (A9 j)) (i.mono hjk) o d.mg d.b1 (.cons U .nil) SY c a he hpl
end
def Xq(K:ϡ):R2:=λx y H Q=>QN K x y H Q\/SS x y H Q
def qm(K)(hK:X.K=K):QL X (Xq K):=by subst hK;intro c a d s k H x y v u Q I e j h i;rcases h with h|h;exact ZI c a d s k H x y v u Q I e j h i;exact Qi c a d s k H x y v u Q I e j h i
end L2
namespace Mc
open PySem L2
abbrev Mx:=Lan.Mx
abbrev HG:=Ϩ Mx
structure Cf where
 rs:ϩ Cs.BS
 keys:ϥ
 cast:Int
structure Ms where
 lanes:ϩ (ϩ Mx)
 line:ϩ HG
 Á:ϩ HG
 ä:Int
 bar:ϩ Mx
 texts:ώ
 at_:Nat
 done:Int
 Ä:Int
def JL(c:Cf)(m:Ms):Ϩ Nat:=c.keys.cps.toList[m.at_]?
noncomputable def HH (c:Cf) (m:Ms):ϥ:=match JL c m with
 | some k=>sg k
 | none=>""
def RY(ls:ϩ (ϩ Mx))(k:Nat):Bool:=match ls[k]? with
 | some l=>l.isEmpty
 | none=>true
def Lz(c:Cf)(m:Ms):Bool:=match Cs.CV c.rs (HH c m)with
 | some k=>RY m.lanes k
 | none=>false
def R6(c:Cf)(m:Ms):Bool:=Lz c m&&m.Á.isEmpty&&m.bar.isEmpty
noncomputable def R7 (c:Cf) (m:Ms):Bool:=(JL c m).isNone&&m.line.isEmpty&&m.Á.isEmpty&&m.bar.isEmpty
def NR(ls:ϩ (ϩ Mx))(k:Nat)(x:Mx):ϩ (ϩ Mx):=match ls[k]? with
 | some l=>ls.set k (l++[x])
 | none=>ls
noncomputable def ß (c:Cf) (m:Ms):Ms:=match m.bar with
 | []=>m
 | x::r=>match Mt.LJ (c.rs.map λr=>r.t) x.2 with
   | some k=>{ m with bar:=r,lanes:=NR m.lanes k x }
   | none=>m
def Mj:HG->ϥ|none=>" "|some x=>x.1
def IM(l:ϩ HG):ϥ:=Txt.join "" (l.map Mj)
noncomputable def DA (l:ϩ HG):ϩ Mx:=l.filterMap id
noncomputable def é (m:Ms):Ms:=if m.Á.isEmpty=true then m else
 if m.ä-1<=0 then { m with ä:=m.ä-1,texts:=m.texts++[IM m.Á],bar:=m.bar++DA m.Á,Á:=[] }else { m with ä:=m.ä-1 }
noncomputable def send (c:Cf) (m:Ms):Ms:=if m.Á.isEmpty=true then { m with Á:=m.line,ä:=c.cast,line:=[],at_:=m.at_+1 }else m
def take(m:Ms)(p:HG):Ms:={ m with line:=m.line++[p],at_:=m.at_+1 }
noncomputable def pick (m:Ms) (k:Nat):Ms:=match m.lanes[k]? with
 | some (x::r)=>take { m with lanes:=m.lanes.set k r } (some x)
 | _=>m
noncomputable def Ð (c:Cf) (m:Ms):Ms:=match JL c m with
 | none=>m
 | some k=>if k=47 then send c m else if k=32 then take m none else if Lz c m=true then { m with Ä:=m.Ä+1 }else match Cs.CV c.rs (sg k)with
   | some j=>pick m j
   | none=>m
def tick(c:Cf)(m:Ms):Ms:=let m1:=Ð c (é (ß c m));{ m1 with done:=m1.done+1 }
def JM(c:Cf)(m:Ms):Bool:=R7 c m||R6 c m
def OD(c:Cf)(x:Mx):Prop:=PyData.canLay0 (.str x.1)=true/\x.1.length<=1/\0<=x.2/\x.2<128/\∃k,Mt.LJ (c.rs.map λr=>r.t) x.2=some k/\k<c.rs.length
noncomputable def Oe (m:Ms):Nat:=(m.lanes.map List.length).sum+m.line.length+m.Á.length+m.bar.length
structure OE(c:Cf):Prop where
 Ĕ:c.rs.length<=30
 short:c.keys.length<=90000
 known:∀k∈c.keys.cps.toList,k=47\/k=32\/((Cs.CV c.rs (sg k)).isSome=true/\k≠47/\k≠32)
 ends:c.keys.cps.toList=[]\/∃a,c.keys.cps.toList=a++[47]
 zJ:Cs.CV c.rs (sg 47)=none/\Cs.CV c.rs (sg 32)=none/\Cs.CV c.rs ""=none
 cast1:1<=c.cast
 th:∀r∈c.rs,0<=r.t/\r.t<128
 lay:PyData.canLay0 (.str c.keys)=true
structure Ok(c:Cf)(m:Ms):Prop where
 cf:OE c
 ln:m.lanes.length=c.rs.length
 lm:∀l∈m.lanes,∀x∈l,OD c x
 im:∀x,some x∈m.line->OD c x
 hm:∀x,some x∈m.Á->OD c x
 bm:∀x∈m.bar,OD c x
 le:m.at_<=c.keys.cps.toList.length
 en:m.at_=c.keys.cps.toList.length->m.line=[]
 sz:Oe m<=2000+m.at_
 tx:m.texts.length+(if m.Á.isEmpty=true then 0 else 1)<=m.at_
 tl:∀t∈m.texts,PyData.canLay0 (.str t)=true
 tg:m.Á≠[]->1<=m.ä
def Vd(h:Ok c m):m.at_<=90000:=by have d:=h.le;have a:=h.cf.short;have e:c.keys.cps.toList.length=c.keys.length:=Au;lia
def Xr(ls:ϩ (ϩ Mx))(k)(l c)(h:ls[k]?=some l):((ls.set k c).map List.length).sum+l.length=(ls.map List.length).sum+c.length:=by induction ls generalizing k with|nil=>simp at h|cons a r d =>cases k with|zero =>grind|succ j =>grind
def qo{ls:ϩ (ϩ Mx)}{k:Nat}{l}(h:ls[k]?=some l):l.length<=(ls.map List.length).sum:=by have:=Xr ls k l [] h;grind
def Xs(l):(DA l).length<=l.length:=Jd _ _
def qp(h:x∈DA l):some x∈l:=by obtain⟨y,a,e⟩:=E5.mp h;have e:=e;rw[<-e];exact a
def Ok.ß(h:Ok c m):Ok c (ß c m):=by
 unfold Mc.ß;cases i:m.bar with
 |nil=>exact h|cons x r =>
  have B:=h.bm x (by rw[i];exact Aa);obtain⟨_,_,_,_,k,v,j⟩:=B;show Ok c (match Mt.LJ (c.rs.map λr=>r.t) x.2 with
   | some k=>{ m with bar:=r,lanes:=NR m.lanes k x }
   | none=>m)
  rw[v];have d:k<m.lanes.length:=(by rw[h.ln];exact j);have p:m.lanes[k]?=some m.lanes[k]:=A6 d;have o:NR m.lanes k x=m.lanes.set k (m.lanes[k]++[x]):=(by unfold NR;rw[p]);refine⟨h.cf,?_,?_,h.im,h.hm,?_,h.le,h.en,?_,h.tx,h.tl,h.tg⟩;show(NR m.lanes k x).length=_;rw[o,Es];exact h.ln;intro l e y a;have e:l∈NR m.lanes k x:=e;rw[o]at e;rcases Fk e with e|e;exact h.lm l e y a;rw[e]at a;rcases Be.mp a with a|a;exact h.lm _ (Dn d) y a;rw[Ah.mp a];exact h.bm x (by rw[i];exact Aa);intro y a;exact h.bm y (by rw[i];exact Ac _ a);have s:=h.sz;have z:=Xr m.lanes k _ (m.lanes[k]++[x]) p;rw[Ag]at z;unfold Oe at s⊢;rw[i]at s;show((NR m.lanes k x).map List.length).sum+m.line.length+m.Á.length+r.length<=2000+m.at_;rw[o];have E:[x].length=1:=U;have C:(x::r).length=r.length+1:=U;lia
def eG(x)(xs):Txt.join "" (x::xs)=x++Txt.join "" xs:=by unfold Txt.join;rw[C6,C6];cases xs with|nil=>exact(Lns.Te x).symm|cons y r =>grind[Str.join,Lns.Te]
def Tt(d:PyData.canLay0 (.str x)=true)(a:PyData.canLay0 (.str y)=true):PyData.canLay0 (.str (x++y))=true:=by have d:(x.cps.all λc=>decide (c<0x110000))=true:=d;have a:(y.cps.all λc=>decide (c<0x110000))=true:=a;show((x++y).cps.all λc=>decide (c<0x110000))=true;have e:(x++y).cps.toList=x.cps.toList++y.cps.toList:=Gx;rw[<-Gb]at d a⊢;rw[e,List.all_append,d,a];rfl
def qq(h:∀x,some x∈l->OD c x):PyData.canLay0 (.str (IM l))=true:=by
 unfold IM;induction l with
 |nil=>decide +kernel|cons p r d =>
  have e:Txt.join "" ((p::r).map Mj)=Mj p++Txt.join "" (r.map Mj):=eG _ _;rw[e];have a:PyData.canLay0 (.str (Mj p))=true:=by
   cases p with
   | none=>decide +kernel
   | some x=>exact(h x Aa).1
  exact Tt a (d λx i=>h x (Ac _ i))
def Ok.é(h:Ok c m):Ok c (é m):=by unfold Mc.é;split;exact h;rename_i i;have e:m.Á≠[]:=λz=>i (by rw[z];rfl);have d:=h.tg e;split;refine⟨h.cf,h.ln,h.lm,h.im,(λx a=>by cases a),?_,h.le,h.en,?_,?_,?_,λz=>absurd U z⟩;intro x a;rcases Be.mp a with a|a;exact h.bm x a;exact h.hm x (qp a);have k:=h.sz;have o:=Xs m.Á;unfold Oe at k⊢;show(m.lanes.map List.length).sum+m.line.length+0+(m.bar++DA m.Á).length<=2000+m.at_;rw[Ag];lia;have j:=h.tx;rw[Av i]at j;show(m.texts++[IM m.Á]).length+0<=m.at_;rw[Ag];show m.texts.length+1+0<=_;lia;intro t d;rcases Be.mp d with d|d;exact h.tl t d;rw[Ah.mp d];exact qq h.hm;rename_i p;exact⟨h.cf,h.ln,h.lm,h.im,h.hm,h.bm,h.le,h.en,h.sz,h.tx,h.tl,λ_=>by show 1<=m.ä-1;lia⟩
def Xu(h:JL c m=some k):m.at_<c.keys.cps.toList.length:=(Ap.mp h).1
def qu(h:OE c)(d:JL c m=some k)(e:m.at_+1=c.keys.cps.toList.length):k=47:=by unfold JL at d;rcases h.ends with z|⟨a,z⟩;rw[z]at e;cases e;rw[z]at e d;rw[Ag]at e;have e:m.at_+1=a.length+1:=e;rw[Cb (by lia),show m.at_-a.length=0 by lia]at d;exact(B0 d).symm
def Ok.send(h:Ok c m)(i:m.at_<c.keys.cps.toList.length):Ok c (send c m):=by unfold Mc.send;split;(.rename_i a;have o:m.Á=[]:=Jq.mp a;refine⟨h.cf,h.ln,h.lm,(λx k=>by cases k),h.im,h.bm,i,λ_=>U,?_,?_,h.tl,λ_=>h.cf.cast1⟩;have d:=h.sz;unfold Oe at d⊢;rw[o]at d;have e:([]:ϩ HG).length=0:=U;show(m.lanes.map List.length).sum+0+m.line.length+m.bar.length<=2000+(m.at_+1);lia;have j:=h.tx;rw[B1 a]at j;show m.texts.length+(if m.line.isEmpty=true then 0 else 1)<=m.at_+1;split<;>lia);exact h
def Ok.take(h:Ok c m)(i:JL c m=some k)(d:k≠47)(j:∀x,p=some x->OD c x)(r:Oe m+1<=2000+(m.at_+1)):Ok c (take m p):=by have o:=Xu i;refine⟨h.cf,h.ln,h.lm,?_,h.hm,h.bm,o,?_,?_,?_,h.tl,h.tg⟩;intro x a;rcases Be.mp a with a|a;exact h.im x a;exact j x (Ah.mp a).symm;intro e;exact absurd (qu h.cf i e) d;unfold Oe at r⊢;show(m.lanes.map List.length).sum+(m.line++[p]).length+m.Á.length+m.bar.length<=2000+(m.at_+1);rw[Ag];show(m.lanes.map List.length).sum+(m.line.length+1)+m.Á.length+m.bar.length<=2000+(m.at_+1);lia;have:=h.tx;show m.texts.length+(if m.Á.isEmpty=true then 0 else 1)<=m.at_+1;lia
def Ok.pick(h:Ok c m)(v:JL c m=some k)(i:k≠47):Ok c (pick m j):=by unfold Mc.pick;split;(.rename_i x r p;have z:=Xr m.lanes j _ r p;have B:(x::r).length=r.length+1:=U;have s:Ok c { m with lanes:=m.lanes.set j r }:=(by refine⟨h.cf,by show(m.lanes.set j r).length=_;rw[Es];exact h.ln,?_,h.im,h.hm,h.bm,h.le,h.en,?_,h.tx,h.tl,h.tg⟩;intro l a y d;rcases Fk a with a|a;exact h.lm l a y d;rw[a]at d;exact h.lm _ (Af p) y (Ac _ d);have o:=h.sz;unfold Oe at o⊢;show((m.lanes.set j r).map List.length).sum+m.line.length+m.Á.length+m.bar.length<=2000+m.at_;lia);refine s.take v i (λy e=>?_) ?_;cases e;exact h.lm _ (Af p) x Aa;have o:=h.sz;unfold Oe at o⊢;show((m.lanes.set j r).map List.length).sum+m.line.length+m.Á.length+m.bar.length+1<=2000+(m.at_+1);lia);exact h
def Ok.Ð(h:Ok c m):Ok c (Ð c m):=by unfold Mc.Ð;split;exact h;rename_i k d;split;exact h.send (Xu d);rename_i a;split;exact h.take d a (λx e=>by cases e) (by have:=h.sz;lia);split;exact⟨h.cf,h.ln,h.lm,h.im,h.hm,h.bm,h.le,h.en,h.sz,h.tx,h.tl,h.tg⟩;split;exact h.pick d a;exact h
theorem Ok.tick(h:Ok c m):Ok c (tick c m):=by have g:=h.ß.é.Ð;exact⟨g.cf,g.ln,g.lm,g.im,g.hm,g.bm,g.le,g.en,g.sz,g.tx,g.tl,g.tg⟩
def wt(c:Cf)(k:Nat):Nat:=if k=47 then 1+c.cast.toNat else if k=32 then 1 else 2
noncomputable def left (c:Cf) (m:Ms):Nat:=((c.keys.cps.toList.drop m.at_).map (wt c)).sum
noncomputable def CT (c:Cf) (m:Ms):Nat:=left c m+(DA m.line).length+(DA m.Á).length+(if m.Á.isEmpty=true then 0 else m.ä.toNat)+m.bar.length
def qw(h:JL c m=some k):left c m=wt c k+((c.keys.cps.toList.drop (m.at_+1)).map (wt c)).sum:=by unfold left;have a:=Xu h;rw[Fj a];have e:c.keys.cps.toList[m.at_]=k:=(by unfold JL at h;rw[A6 a]at h;exact B0 h);rw[e];rfl
def qy(h:Ok c m):CT c (ß c m)+(if m.bar.isEmpty=true then 0 else 1)=CT c m:=by
 unfold Mc.ß;cases a:m.bar with
 |nil=>rfl|cons x r =>
  obtain⟨_,_,_,_,k,d,_⟩:=h.bm x (by rw[a];exact Aa);show CT c (match Mt.LJ (c.rs.map λr=>r.t) x.2 with
   | some k=>{ m with bar:=r,lanes:=NR m.lanes k x }
   | none=>m)+1=CT c m
  grind[CT,left,DA]
def qz(h:Ok c m):CT c (é m)+(if m.Á.isEmpty=true then 0 else 1)=CT c m:=by unfold Mc.é;split;rfl;rename_i d;have a:m.Á≠[]:=λz=>d (by rw[z];rfl);have e:=h.tg a;grind[CT,left,DA,List.length_append]
def eI(h:Ok c m)(p:JL c m=some k)(o:k≠47)(i:k≠32)(a:Lz c m=false):∃j,Cs.CV c.rs (sg k)=some j/\∃x r,m.lanes[j]?=some (x::r):=by have v:=Af p;rcases h.cf.known k v with z|z|⟨z,_,_⟩;exact absurd z o;exact absurd z i;obtain⟨j,d⟩:=Dt.mp z;refine AU j d ?_;have e:j<m.lanes.length:=(by rw[h.ln];exact Cs.UP d);have s:=A6 e;unfold Lz HH at a;rw[p]at a;have a:=a;rw[d]at a;have a:RY m.lanes j=false:=a;unfold RY at a;rw[s]at a;have a:=a;rw[s];cases y:m.lanes[j]with|nil=>rw[y]at a;cases a|cons x r=>exact⟨x,r,U⟩
def Ve(c:Cf)(m:Ms):Bool:=match JL c m with
 | none=>false
 | some k=>if k=47 then m.Á.isEmpty else if k=32 then true else !Lz c m
def eJ(l)(p):(DA (l++[p])).length=(DA l).length+(match p with|none=>0|some _=>1):=by unfold DA;rw[Ex,Ag];cases p<;>rfl
def qB(h:Ok c m):CT c (Ð c m)+(if Ve c m=true then 1 else 0)<=CT c m:=by
 unfold Mc.Ð Ve;cases o:JL c m with
 |none=>exact A9 _|some k =>
  have i:=qw o;have G:=h.cf.cast1;show CT c (if k=47 then Mc.send c m else if k=32 then Mc.take m none else if Lz c m=true then { m with Ä:=m.Ä+1 }else match Cs.CV c.rs (sg k)with
   | some j=>Mc.pick m j
   | none=>m)+(if (if k=47 then m.Á.isEmpty else if k=32 then true else !Lz c m)=true then 1 else 0)<=CT c m
  by_cases a:k=47;(.rw[B1 a,B1 a];unfold Mc.send;cases p:m.Á.isEmpty with|false=>exact A9 _|true =>have y:=Jq.mp p;rw[B1 U,B1 U];have e:wt c k=1+c.cast.toNat:=(by unfold wt;rw[B1 a]);have E:(if m.line.isEmpty=true then 0 else c.cast.toNat)<=c.cast.toNat:=(by split<;>lia);have C:CT c m=wt c k+((c.keys.cps.toList.drop (m.at_+1)).map (wt c)).sum+(DA m.line).length+0+0+m.bar.length:=(by unfold CT;rw[i,B1 p,y];rfl);rw[C];show((c.keys.cps.toList.drop (m.at_+1)).map (wt c)).sum+0+(DA m.line).length+(if m.line.isEmpty=true then 0 else c.cast.toNat)+m.bar.length+1<=_;lia);rw[Av a,Av a];by_cases d:k=32;rw[B1 d,B1 d,B1 U];unfold CT;rw[i];have e:wt c k=1:=(by unfold wt;rw[Av a,B1 d]);have s:(DA (m.line++[none])).length=(DA m.line).length+0:=eJ m.line none;show((c.keys.cps.toList.drop (m.at_+1)).map (wt c)).sum+(DA (m.line++[none])).length+(DA m.Á).length+(if m.Á.isEmpty=true then 0 else m.ä.toNat)+m.bar.length+1<=_;lia;rw[Av d,Av d];have e:wt c k=2:=(by unfold wt;rw[Av a,Av d]);cases hla:Lz c m with|true=>exact A9 _|false =>rw[Av (by lk),B1 (by lk)];obtain⟨j,B,x,r,v⟩:=eI h o a d hla;rw[B];show CT c (Mc.pick m j)+1<=_;have z:Mc.pick m j=Mc.take { m with lanes:=m.lanes.set j r } (some x):=(by unfold Mc.pick;rw[v]);rw[z];unfold CT;rw[i];have s:(DA (m.line++[some x])).length=(DA m.line).length+1:=eJ m.line (some x);show((c.keys.cps.toList.drop (m.at_+1)).map (wt c)).sum+(DA (m.line++[some x])).length+(DA m.Á).length+(if m.Á.isEmpty=true then 0 else m.ä.toNat)+m.bar.length+1<=_;lia
def Xv(c)(m):(Mc.ß c m).at_=m.at_/\(Mc.ß c m).line=m.line/\(Mc.ß c m).Á=m.Á/\(Mc.ß c m).ä=m.ä/\(Mc.ß c m).texts=m.texts/\(Mc.ß c m).done=m.done/\(Mc.ß c m).Ä=m.Ä:=by unfold Mc.ß;split;exact DY U U U U U U U;split<;>exact⟨U,U,U,U,U,U,U⟩
def Xw(m):(Mc.é m).at_=m.at_/\(Mc.é m).line=m.line/\(Mc.é m).lanes=m.lanes/\(Mc.é m).done=m.done/\(Mc.é m).Ä=m.Ä:=by unfold Mc.é;split;exact⟨U,U,U,U,U⟩;split<;>exact⟨U,U,U,U,U⟩
theorem R8(h:Ok c m)(a:JM c m=false):CT c (tick c m)<CT c m:=by
 have o:=qy h;have i:=qz h.ß;have p:=qB h.ß.é;have y:CT c (tick c m)=CT c (Mc.Ð c (Mc.é (Mc.ß c m))):=U;rw[y];refine MU (λE P B Q I O C=>?_) (Xv c m);refine HP (λG H J R L=>?_) (Xw (Mc.ß c m));by_cases d:m.bar.isEmpty=true
 .by_cases e:m.Á.isEmpty=true
  .have r:Mc.ß c m=m:=(by unfold Mc.ß;rw[Jq.mp d]);have s:Mc.é m=m:=(by unfold Mc.é;rw[B1 e]);rw[r,s]at p⊢
   have v:Ve c m=true:=by
    unfold JM R7 R6 at a;rw[d,e,Jg,Jg,Jg,Jg,Kh]at a
    unfold Ve;cases j:JL c m with
    | none =>
      have z:m.at_=c.keys.cps.toList.length:=by
       have o:=h.le;have i:=List.getElem?_eq_none_iff.mp j
       lia
      rw[j,h.en z]at a
      exact absurd a.1 (by lk)
    | some k =>
      lia
   rw[B1 v]at p;lia
  rw[B,Av e]at i;lia
 rw[Av d]at o;lia
def CZ(c:Cf):Nat->Ms->Ms|0,m=>m|n+1,m=>if JM c m=true then m else CZ c n (tick c m)
def fin(c:Cf)(m:Ms):Ms:=CZ c (CT c m) m
theorem PN(h:JM c m=true):∀n,CZ c n m=m|0=>rfl|n+1=>by show(if JM c m=true then m else CZ c n (tick c m))=m;rw[B1 h]
def R9(h:JM c m=false)(n):CZ c (n+1) m=CZ c n (tick c m):=by grind[JM,CZ,tick]
def Xx(O:Ok c m)(h:CT c m=0):JM c m=true:=by grind[JM,R8]
theorem eK:∀(n k) {m},Ok c m->CT c m<=n->CT c m<=k->CZ c n m=CZ c k m|0,k,m,O,h,_=>by rw[PN (Xx O (by lia)),PN (Xx O (by lia))]|n+1,k,m,O,i,e=>by cases a:JM c m with|true=>rw[PN a,PN a]|false =>have d:=R8 O a;obtain⟨j,rfl⟩:∃j,k=j+1:=⟨k-1,by lia⟩;rw[R9 a,R9 a];exact eK n j O.tick (by lia) (by lia)
theorem eL:∀(n) {m},Ok c m->CT c m<=n->JM c (CZ c n m)=true/\Ok c (CZ c n m)|0,m,O,h=>show JM c m=true/\Ok c m from⟨Xx O (by lia),O⟩|n+1,m,O,h=>by cases a:JM c m with|true =>rw[PN a];exact⟨a,O⟩|false =>have d:=R8 O a;rw[R9 a];exact eL n O.tick (by lia)
def qE(h:JM c m=true):fin c m=m:=PN h _
def qH(O:Ok c m)(h:JM c m=false):fin c (tick c m)=fin c m:=by have d:=R8 O h;unfold fin;obtain⟨j,a⟩:∃j,CT c m=j+1:=⟨CT c m-1,by lia⟩;rw[a,R9 h];exact eK _ _ O.tick (A9 _) (by lia)
def qJ(O:Ok c m):JM c (fin c m)=true/\Ok c (fin c m):=eL _ O (A9 _)
def NF(H:Hp)(v:V):HG->Prop|none=>v=.str " "|some x=>Lan.JK H v x
def FW(H:Hp)(a:Ϡ)(ms:ϩ Mx):Prop:=∃c,H a=some (.lst c)/\Paired (Lan.JK H) c ms
def Ra(H:Hp)(a:Ϡ)(ps:ϩ HG):Prop:=∃c,H a=some (.lst c)/\Paired (NF H) c ps
structure DL where
 L:Ϡ
 c:Ϡ
 l:Ϡ
 h:Ϡ
 b:Ϡ
 t:Ϡ
 ls:ϖ
def DL.all(A:DL):ϖ:=A.L::A.c::A.l::A.h::A.b::A.t::A.ls
def BK(S:ϝ)(H c:Hp):Prop:=∀b o,H b=some o->(S b\/∃a,o=.tup a)->c b=some o
def BK.of_same(s:AA H a):BK S H a:=λb o h _=>s b o h
def BK.lst(h:H a=some (.lst ys)):BK (λb=>b≠a) H (upd H a o):=λb u c d=>by
 rcases d with d|⟨i,e⟩
 .rw[BJ d];exact c
 .subst e;rw[BJ (HB c h λz=>by cases z)];exact c
def BK.fld{fs}(h:H p=some (.ins C i fs))(k:∀b,b≠p->H' b=H b):BK (λb=>b≠p) H H':=λb u a c=>by
 rcases c with c|⟨d,e⟩
 .rw[k b c];exact a
 .subst e;rw[k b (HB a h λz=>by cases z)];exact a
def BK.trans(a:BK S H e)(b:BK S e d):BK S H d:=λx o h c=>b x o (a x o h c) c
def BK.mono(a:BK S H c)(h:∀b,S' b->S b):BK S' H c:=λx o e d=>a x o e (d.imp (h x) id)
def Tu(k:BK S H c)(h:Lan.JK H v x):Lan.JK c v x:=let ⟨a,e,z⟩:=h;⟨a,e,k _ _ z (.inr ⟨_,U⟩)⟩
def Xy(k:BK S H a)(h:NF H v x):NF a v x:=by cases x with|none=>exact h|some x=>exact Tu k h
def Xz(k:BK S H a)(h:Paired (Lan.JK H) xs ms):Paired (Lan.JK a) xs ms:=Paired.Æ h λ_ _ z=>Tu k z
def eM(k:BK S H a)(h:Paired (NF H) xs ms):Paired (NF a) xs ms:=Paired.Æ h λ_ _ z=>Xy k z
def Qn(k:BK S H c)(h:Paired (Cs.FL H) xs rs):Paired (Cs.FL c) xs rs:=Paired.Æ h λ_ _ ⟨a,e,z⟩=>⟨a,e,k _ _ z (.inr ⟨_,U⟩)⟩
def FW.keep(k:BK S H c)(d:S a)(h:FW H a ms):FW c a ms:=let ⟨xs,e,z⟩:=h;⟨xs,k _ _ e (.inl d),Xz k z⟩
def Ra.keep(k:BK S H c)(d:S a)(h:Ra H a ms):Ra c a ms:=let ⟨xs,e,z⟩:=h;⟨xs,k _ _ e (.inl d),eM k z⟩
def Rb(k:BK S H i)(c:∀a∈ls,S a)(h:Paired (FW H) ls ms):Paired (FW i) ls ms:=by induction h with|nil=>exact .nil|cons r _ e=>exact .cons (r.keep k (c _ Aa)) (e λa d=>c a (Ac _ d))
theorem eN(k:BK (λb=>b≠p) H v)(s:FW v p d):∀{ls} {ms} (i),Paired (FW H) ls ms->ls.Nodup->ls[i]?=some p->Paired (FW v) ls (ms.set i d)
 |_,_,_,.nil,_,h=>by simp at h|_,_,0,.cons r t,o,h=>by have h:_=p:=B0 h;subst h;obtain⟨c,_⟩:=C2.mp o;exact .cons s (Rb k (λa y e=>c (e ▸ y)) t)
 |_,_,i+1,.cons r t,o,h=>by obtain⟨c,j⟩:=C2.mp o;exact .cons (r.keep k λe=>c (e ▸ Af h)) (eN k s i t j h)
structure HS(c:Cf)(H:Hp)(A:DL)(m:Ms):Prop where
 rows:∃xs,H A.c=some (.lst xs)/\Paired (Cs.FL H) xs c.rs
 zB:H A.L=some (.lst (A.ls.map V.ref))
 zK:Paired (FW H) A.ls m.lanes
 lin:Ra H A.l m.line
 het:Ra H A.h m.Á
 bar:FW H A.b m.bar
 txt:H A.t=some (.lst (m.texts.map V.str))
def HS.keep(h:HS c H A m)(k:BK S H o)(d:∀a∈A.all,S a):HS c o A m:=by unfold DL.all at d;obtain⟨j,e,p⟩:=h.rows;exact⟨⟨j,k _ _ e (.inl (d _ (by simp))),Qn k p⟩,k _ _ h.zB (.inl (d _ (by simp))),Rb k (λa i=>d a (by simp[i])) h.zK,h.lin.keep k (d _ (by simp)),h.het.keep k (d _ (by simp)),h.bar.keep k (d _ (by simp)),k _ _ h.txt (.inl (d _ (by simp)))⟩
def HS.is(h:HS c H A m):∀a∈A.all,∃xs,H a=some (.lst xs):=by intro a d;obtain⟨xs,o,_⟩:=h.rows;obtain⟨y,j,_⟩:=h.lin;obtain⟨v,p,_⟩:=h.het;obtain⟨s,r,_⟩:=h.bar;unfold DL.all at d;simp only[Al]at d;rcases d with rfl|rfl|rfl|rfl|rfl|rfl|d;exact⟨_,h.zB⟩;exact⟨_,o⟩;exact⟨_,j⟩;exact⟨_,p⟩;exact⟨_,r⟩;exact⟨_,h.txt⟩;obtain⟨i,k,e⟩:=C7 d;obtain⟨_,_,xs,ex,_⟩:=Cs.FD h.zK (A6 k);rw[e]at ex;exact⟨xs,ex⟩
noncomputable def vals (c:Cf) (A:DL) (m:Ms):ϩ (Ϩ V):=[some (.ref A.L),some (.ref A.c),some (.str c.keys),some (.int (m.at_:Int)),some (.int c.cast),some (.ref A.l),some (.ref A.h),some (.int m.ä),some (.ref A.b),some (.ref A.t),some (.int m.done),some (.int m.Ä)]
structure ET(C:Ϡ)(ns:ώ)(c:Cf)(H:Hp)(p:Ϡ)(A:DL)(m:Ms):Prop where
 ins:JA C ns H p (vals c A m)
 nd:A.all.Nodup
 li:HS c H A m
structure AY(p:Ϡ)(A:DL)(H:Hp)(A':DL)(H':Hp):Prop where
 fr:∀b o,H b=some o->((b≠p/\b∉A.all)\/∃xs,o=.tup xs)->H' b=some o
 nw:∀b∈A'.all,b∈A.all\/H b=none
 al:∀b o,H b=some o->∃o',H' b=some o'
def AY.of_same(s:AA H a):AY p A H A a:=⟨λb o h _=>s b o h,λb h=>.inl h,λb o h=>⟨o,s b o h⟩⟩
def AY.trans(a:AY p A H k s)(b:AY p k s B y):AY p A H B y:=by refine⟨λx o h i=>?_,λx v=>?_,λx o h=>?_⟩;refine b.fr x o (a.fr x o h i) (i.imp (λ⟨c,j⟩=>⟨c,λz=>?_⟩) id);rcases a.nw x z with z|z;exact j z;rw[h]at z;cases z;rcases b.nw x v with z|z;exact a.nw x z;refine .inr ?_;(cases e:H x with|none=>rfl|some o =>obtain⟨C,d⟩:=a.al x o e;rw[z]at d;cases d);obtain⟨r,c⟩:=a.al x o h;exact b.al x r c
def ET.pne(h:ET C ns c H p A m):∀a∈A.all,a≠p:=λa d=>by
 obtain⟨j,e⟩:=h.li.is a d;refine EX (λk fs i _=>?_) h.ins;exact HB e i λz=>by cases z
def ET.same(h:ET C ns c H p A m)(s:AA H a):ET C ns c a p A m:=⟨h.ins.same s,h.nd,h.li.keep (BK.of_same (S:=λ_=>True) s) λ_ _=>trivial⟩
def ET.fields(i:JA C ns H p vs)(h:JA C ns H' p (vals c A' d))(k:∀b,b≠p->H' b=H b)(l:HS c H A' d)(n:A'.all.Nodup):ET C ns c H' p A' d:=by revert i;refine EX λr fs e _=>?_;refine⟨h,n,l.keep (BK.fld e k) λa j=>?_⟩;obtain⟨o,ex⟩:=l.is a j;exact HB ex e λz=>by cases z
def AY.lst(d:a∈A.all)(h:H a=some (.lst ys)):AY p A H A (upd H a o):=by refine⟨λb u c i=>?_,λb c=>.inl c,λb u c=>?_⟩;exact BK.lst h b u c (i.imp (λz e=>z.2 (e ▸ d)) id);grind[AM,BJ]
def Vf(h:JA C ns H p vs)(c:H a=some (.lst ys)):JA C ns (upd H a o) p vs:=by revert h;refine EX λd fs e F=>?_;exact Nn d fs (by rw[BJ (HB e c λz=>by cases z)];exact e) F
structure qK(A:DL):Prop where
 Lc:A.L≠A.c
 Ll:A.L≠A.l
 Lh:A.L≠A.h
 Lb:A.L≠A.b
 Lt:A.L≠A.t
 cl:A.c≠A.l
 ch:A.c≠A.h
 cb:A.c≠A.b
 ct:A.c≠A.t
 lh:A.l≠A.h
 lb:A.l≠A.b
 lt:A.l≠A.t
 hb:A.h≠A.b
 ht:A.h≠A.t
 bt:A.b≠A.t
 ls:∀q∈A.ls,q≠A.L/\q≠A.c/\q≠A.l/\q≠A.h/\q≠A.b/\q≠A.t
 nd:A.ls.Nodup
def Vg(h:A.all.Nodup):qK A:=by
 unfold DL.all at h;simp only[C2,Al,not_or]at h;obtain⟨⟨C,E,k,r,o,L⟩,⟨c,y,d,z,H⟩,⟨p,s,v,O⟩,⟨j,a,G⟩,⟨B,J⟩,I,n⟩:=h;refine⟨C,E,k,r,o,c,y,d,z,p,s,v,j,a,B,λq i=>⟨?_,?_,?_,?_,?_,?_⟩,n⟩;all_goals
  intro e;rw[e]at i
  contradiction
def ET.zA(h:ET C ns c H p A m)(e:A.ls[k]?=some q)(i:H q=some (.lst ys))(z:Paired (Lan.JK H) xs l) :
 ET C ns c (upd H q (.lst xs)) p A { m with lanes:=m.lanes.set k l }:=by
 have d:=Vg h.nd;have a:BK (λb=>b≠q) H (upd H q (.lst xs)):=BK.lst i;refine FZ (λE n2 r s j y=>?_) (d.ls q (Af e));refine AS (λo B v=>?_) h.li.rows;exact⟨Vf h.ins i,h.nd,⟨⟨o,a _ _ B (.inl n2.symm),Qn a v⟩,a _ _ h.li.zB (.inl E.symm),eN a ⟨xs,AM,Xz a z⟩ k h.li.zK d.nd e,h.li.lin.keep a r.symm,h.li.het.keep a s.symm,h.li.bar.keep a j.symm,a _ _ h.li.txt (.inl y.symm)⟩⟩
def ET.setBar(h:ET C ns c H p A m)(i:H A.b=some (.lst ys))(o:Paired (Lan.JK H) xs l) :
 ET C ns c (upd H A.b (.lst xs)) p A { m with bar:=l }:=by
 have d:=Vg h.nd;have e:BK (λb=>b≠A.b) H (upd H A.b (.lst xs)):=BK.lst i;refine AS (λj r k=>?_) h.li.rows;exact⟨Vf h.ins i,h.nd,⟨⟨j,e _ _ r (.inl d.cb),Qn e k⟩,e _ _ h.li.zB (.inl d.Lb),Rb e (λa s=>(d.ls a s).2.2.2.2.1) h.li.zK,h.li.lin.keep e d.lb,h.li.het.keep e d.hb,⟨xs,AM,Xz e o⟩,e _ _ h.li.txt (.inl d.bt.symm)⟩⟩
def ET.setTxt(h:ET C ns c H p A m)(i:H A.t=some (.lst ys)) :
 ET C ns c (upd H A.t (.lst (l.map V.str))) p A { m with texts:=l }:=by
 have d:=Vg h.nd;have e:BK (λb=>b≠A.t) H (upd H A.t (.lst (l.map V.str))):=BK.lst i;obtain⟨o,j,r⟩:=h.li.rows;exact⟨Vf h.ins i,h.nd,⟨⟨o,e _ _ j (.inl d.ct),Qn e r⟩,e _ _ h.li.zB (.inl d.Lt),Rb e (λa k=>(d.ls a k).2.2.2.2.2) h.li.zK,h.li.lin.keep e d.lt,h.li.het.keep e d.ht,h.li.bar.keep e d.bt,AM⟩⟩
def ET.setLine(h:ET C ns c H p A m)(i:H A.l=some (.lst ys))(o:Paired (NF H) xs l) :
 ET C ns c (upd H A.l (.lst xs)) p A { m with line:=l }:=by
 have d:=Vg h.nd;have e:BK (λb=>b≠A.l) H (upd H A.l (.lst xs)):=BK.lst i;obtain⟨j,r,k⟩:=h.li.rows;exact⟨Vf h.ins i,h.nd,⟨⟨j,e _ _ r (.inl d.cl),Qn e k⟩,e _ _ h.li.zB (.inl d.Ll),Rb e (λa s=>(d.ls a s).2.2.1) h.li.zK,⟨xs,AM,eM e o⟩,h.li.het.keep e d.lh.symm,h.li.bar.keep e d.lb.symm,e _ _ h.li.txt (.inl d.lt.symm)⟩⟩
def Qo(m:Mx):PyData:=.tuple [.str m.1,.int m.2]
def NS:HG->PyData|none=>.str " "|some x=>Qo x
def eO(h:Lan.JK H v x)(a:PyData.canLay0 (.str x.1)=true):JT K H v (Qo x):=by obtain⟨t,rfl,e⟩:=h;exact .tup (BP.of e) (.cons (.str _ a) (.cons (.int _) .nil))
def eP(h:NF H v p)(a:∀x,p=some x->PyData.canLay0 (.str x.1)=true):JT K H v (NS p):=by cases p with|none =>have h:=h;rw[h];exact .str _ (by room)|some x=>exact eO h (a x U)
def qL(h:Paired (Lan.JK H) xs ms)(c:∀m∈ms,PyData.canLay0 (.str m.1)=true):HZ K H xs (ms.map Qo):=by induction h with|nil=>exact .nil|cons h _ a=>exact .cons (eO h (c _ Aa)) (a λx d=>c x (Ac _ d))
def qO(h:Paired (NF H) xs ms)(c:∀x,some x∈ms->PyData.canLay0 (.str x.1)=true):HZ K H xs (ms.map NS):=by induction h with|nil=>exact .nil|cons h _ a=>exact .cons (eP h λx e=>c x (by rw[e];exact Aa)) (a λx d=>c x (Ac _ d))
def FW.den(h:FW H a ms)(c:∀m∈ms,PyData.canLay0 (.str m.1)=true):JT K H (.ref a) (.list (ms.map Qo)):=let ⟨_,e,z⟩:=h;.lst (AC.of e) (qL z c)
def Ra.den(h:Ra H a ms)(c:∀x,some x∈ms->PyData.canLay0 (.str x.1)=true):JT K H (.ref a) (.list (ms.map NS)):=let ⟨_,e,z⟩:=h;.lst (AC.of e) (qO z c)
def MN(h:H a=some (.lst [])):JT K H (.ref a) (.list []):=.lst (AC.of h) .nil
def PP{c:Type}(f)(l:ϩ c):PyData.eqv (.list (l.map f)) (.list [])=l.isEmpty:=by cases l with|nil=>rfl|cons a r=>rfl
def Of(d:PyData):min d.depth (PyData.list []).depth<=64:=by have:(PyData.list []).depth=1:=U;lia
def eQ(h:Cs.CV c.rs (HH c m)=none):Lz c m=false:=by unfold Lz;rw[h]
def qQ(h:Cs.CV c.rs (HH c m)=some k):Lz c m=RY m.lanes k:=by unfold Lz;rw[h]
def qR(h:ls[k]?=some l):RY ls k=l.isEmpty:=by unfold RY;rw[h]
def ET.lane(h:ET C ns c H p A m)(O:Ok c m)(i:k<c.rs.length):∃q l,A.ls[k]?=some q/\m.lanes[k]?=some l/\FW H q l/\DP (A.ls.map V.ref) (k)=some (.ref q):=by
 have e:k<m.lanes.length:=by rw[O.ln];exact i
 refine AS (λq d a=>?_) (Cs.Ql h.li.zK (A6 e));exact CM q _ d (A6 e) a (FR (by rw[An,d];rfl))
def Ok.llay{c}{m}{k:Nat}{l}(O:Ok c m)(h:m.lanes[k]?=some l):∀x∈l,PyData.canLay0 (.str x.1)=true:=λx a=>(O.lm l (Af h) x a).1
def Ok.zY(O:Ok c m):∀x,some x∈m.Á->PyData.canLay0 (.str x.1)=true:=λx a=>(O.hm x a).1
def Ok.ilay(O:Ok c m):∀x,some x∈m.line->PyData.canLay0 (.str x.1)=true:=λx a=>(O.im x a).1
def Ok.blay(O:Ok c m):∀x∈m.bar,PyData.canLay0 (.str x.1)=true:=λx a=>(O.bm x a).1
def AY.zv(h:JA C ns H p vs)(h':JA C ns H' p d)(k:∀b,b≠p->H' b=H b):AY p A H A H':=by obtain⟨s,fs,e,_⟩:=h;obtain⟨i,c,j,_⟩:=h';refine⟨λb o a r=>?_,λb a=>.inl a,λb o a=>?_⟩;grind;grind
def ET.setF(h:ET C ns c H p A m)(i:JA C ns H' p (vals c A a))(k:∀b,b≠p->H' b=H b)(e:a.lanes=m.lanes)(r:a.line=m.line)(j:a.Á=m.Á)(o:a.bar=m.bar)(d:a.texts=m.texts):ET C ns c H' p A a:=by refine ET.fields h.ins i k ⟨h.li.rows,h.li.zB,?_,?_,?_,?_,?_⟩ h.nd;rw[e];exact h.li.zK;rw[r];exact h.li.lin;rw[j];exact h.li.het;rw[o];exact h.li.bar;rw[d];exact h.li.txt
def eR{H}{xs}{ps}{i:Nat}{x}(h:Paired (NF H) xs ps)(a:xs[i]?=some x):∃p,ps[i]?=some p/\NF H x p:=Cs.FD h a
def eS{ps:ϩ HG}{i}{p}(h:ps[i]?=some p):DA (ps.take (i+1))=DA (ps.take i)++p.toList:=by unfold DA;rw[Am,h,Ex];cases p<;>rfl
def eT:∀(xs:ϖ) (i),xs.Nodup->e∉xs->(xs.set i e).Nodup:=by intro xs;induction xs with|nil=>exact λ_ n _=>n|cons x xs c =>intro i n h;have n2:=C2.mp n;have a:e∉xs:=λz=>h (Ac _ z);cases i with|zero=>exact C2.mpr ⟨a,n2.2⟩|succ i =>refine C2.mpr ⟨λz=>?_,c i n2.2 a⟩;rcases Fk z with z|z;exact n2.1 z;exact h (by rw[<-z];exact Aa)
def XA{A:DL}{e}(n:A.all.Nodup)(h:e∉A.all):({ A with h:=e }:DL).all.Nodup:=eT A.all 3 n h
def XB{A:DL}{e}(n:A.all.Nodup)(h:e∉A.all):({ A with h:=A.l,l:=e }:DL).all.Nodup :=
 (List.Perm.cons A.L (List.Perm.cons A.c (List.Perm.swap e A.l _))).nodup_iff.mp (eT A.all 3 n h)
def ET.new(h:ET C ns c H p A m)(he:H e=none):e∉A.all:=λz=>by
 obtain⟨a,ex⟩:=h.li.is e z;rw[he]at ex
 cases ex
def qS{c}{l:ϩ HG}(h:∀x,some x∈l->OD c x)(d:l.length<=100000):((l.map Mj).map (·.length)).sum+(l.map Mj).length*("":ϥ).length<=16777216:=by
 have j:=Lns.PH (λx:ϥ=>x.length) 1 100000 (l.map Mj) (λx i=>by
  obtain⟨p,a,rfl⟩:=Bq.mp i;cases p with
  | none=>exact A9 1
  | some x=>exact(h x a).2.1) (by rw[A3];exact d)
 have e:("":ϥ).length=0:=by lk
 lia
def qV:PyData.eqv (.str " ") (.str " ")=true:=by room
theorem AY.free(s:AY p A H d H')(h:H' b=none):H b=none:=by cases e:H b with|none=>rfl|some o =>obtain⟨c,a⟩:=s.al b o e;rw[h]at a;cases a
def AY.to(s:AY p A H A1 a)(h:∀b∈A'.all,b∈A1.all\/H b=none):AY p A H A' a:=⟨s.fr,λb c=>(h b c).elim (s.nw b) .inr,s.al⟩
def qY{A:DL}{e}{H:Hp}(he:H e=none):∀b∈({ A with h:=e }:DL).all,b∈A.all\/H b=none:=by grind[DL.all,List.mem_cons]
def qZ{A:DL}{e}{H:Hp}(he:H e=none):∀b∈({ A with h:=A.l,l:=e }:DL).all,b∈A.all\/H b=none:=by grind[DL.all,List.mem_cons]
def eU:decide (V.str (sg c)=V.str (sg d))=decide (c=d):=by rw[Cs.FI,C4];refine⟨λh=>?_,λh=>by rw[h]⟩;have h:(#[c]:Array Nat)=#[d]:=Bt Str.cps h;simpa using h
def ra(h:JL c m=some k):HH c m=sg k:=by unfold HH;rw[h]
def rb(h:JL c m=none):HH c m="":=by unfold HH;rw[h]
noncomputable def JX (rs:ϩ Cs.BS):ϩ (ϩ Mx):=rs.map λr=>List.replicate r.n.toNat (r.s,r.t)
def start(rs:ϩ Cs.BS):Ms:=⟨JX rs,[],[],0,[],[],0,0,0⟩
def rf(h:Paired (Lan.R3 H0 no H) zs ms)(s:zs.Nodup):∃ls:ϖ,zs=ls.map V.ref/\Paired (FW H) ls ms/\(no::ls).Nodup/\∀z∈ls,H0 z=none:=by induction h with|nil=>exact⟨[],U,.nil,by simp,λz k=>nomatch k⟩|cons x t B =>revert x;refine Q9 λp o e n f z m=>?_;obtain⟨d,a⟩:=C2.mp s;refine GK (λls j c r C=>?_) (B a);obtain⟨v,i⟩:=C2.mp r;refine IS (p::ls) (by rw[e,j];rfl) (.cons ⟨o,z,m⟩ c) ?_ (λy E=>?_);grind;grind
def CU(p:Ϡ)(H a:Hp):Prop:=∀b o,b≠p->H b=some o->a b=some o
def CU.of_same(s:AA H a):CU p H a:=λb o _ h=>s b o h
def CU.À(k:∀b,b≠p->H' b=H b):CU p H H':=λb o a h=>(k b a).trans h
def CU.trans(a:CU p H e)(b:CU p e d):CU p H d:=λx o c h=>b x o c (a x o c h)
theorem CU.free(o:CU p H H')(i:JA C ns H' p vs)(h:H' b=none):H b=none:=by cases e:H b with|none=>rfl|some x =>have c:b≠p:=λz=>(by obtain⟨d,fs,a,_⟩:=i;rw[z,a]at h;cases h);rw[o b x c e]at h;cases h
def CU.keep(i:JA C ns H p vs)(o:CU p H d):BK (λb=>b≠p) H d:=λb u a c=>by
 obtain⟨k,fs,e,_⟩:=i;rcases c with c|⟨j,z⟩
 .exact o b u c a
 .subst z;exact o b _ (HB a e λz=>by cases z) a
def Tv(i:JA C ns H p vs)(h:H q=some (.lst xs)):q≠p:=by obtain⟨a,fs,e,_⟩:=i;exact HB h e λz=>by cases z
def Rc(i:JA C ns H p vs)(h:H q=none):q≠p:=λe=>by
 obtain⟨c,fs,a,_⟩:=i;rw[e,a]at h
 cases h
def Wd(rs:ϩ Cs.BS)(m:Nat)(x:ϥ):Prop:=1<=x.length/\x.length<=m/\∀c∈x.cps.toList,c∈Cs.BQ/\(Cs.CV rs (sg c)).isSome=true
def Tw:∀c∈Cs.BQ,Lns.Lx c=true/\c<0x110000/\c≠47/\c≠32:=by room
def Wd.zq(h:Wd rs m x):Lns.Ob rs x:=⟨h.1,λc a=>⟨(Tw c (h.2.2 c a).1).1,(h.2.2 c a).2⟩⟩
def Wd.lay(h:Wd rs m x):PyData.canLay0 (.str x)=true:=by show(x.cps.all λc=>decide (c<0x110000))=true;rw[<-Gb,Bw];exact λc a=>Ab (Tw c (h.2.2 c a).1).2.1
def XC(h:JT K H v d):PyData.eqv d d=true:=PySem.SeqAt.eqv_refl d (RK d v h)
def rg(c)(m):(send c m).done=m.done:=by unfold send;split<;>rfl
theorem rh(m)(k):(pick m k).done=m.done:=by unfold pick;split<;>rfl
def ri(c)(m):(Ð c m).done=m.done:=by unfold Ð;split;rfl;split;exact rg c m;split;rfl;grind[rh]
def XD(c)(m):(tick c m).done=m.done+1:=by show(Ð c (é (ß c m))).done+1=_;rw[ri,(Xw (ß c m)).2.2.2.1,(Xv c m).2.2.2.2.2.1]
structure Rows(rs:ϩ Cs.BS):Prop where
 Ĕ:rs.length<=30
 sg:∀r∈rs,∃c∈Cs.BQ,r.s=L2.sg c
 th:∀r∈rs,0<=r.t/\r.t<128
 mn:∀r∈rs,0<=r.n/\r.n<=40
def Rows.none{rs:ϩ Cs.BS}(R:Rows rs){x:ϥ}(h:∀c∈Cs.BQ,L2.sg c≠x):Cs.CV rs x=Option.none:=Cs.X3 λj r _ a=>by
 obtain⟨c,d,e⟩:=R.sg r (Af a);rw[e];exact h c d
def Vh(h:L2.sg c=L2.sg d):c=d:=by have h:(#[c]:Array Nat)=#[d]:=Bt Str.cps h;simpa using h
def Rows.sign(R:Rows rs)(h:(Cs.CV rs (L2.sg k)).isSome=true):k∈Cs.BQ:=by obtain⟨j,d⟩:=Dt.mp h;obtain⟨r,i,e⟩:=Cs.nH d;obtain⟨c,o,a⟩:=R.sg r (Af i);rw[e]at a;rw[Vh a];exact o
def Rows.okC(R:Rows rs)(a:(Lns.BW ls).length<=90000)(p:∀l∈ls,l≠[]/\∀x∈l,Lns.Ob rs x)(hz:1<=z):OE ⟨rs,Lns.BW ls,z⟩:=by have ok:Lns.GS rs false (Lns.BW ls).cps.toList=true:=Lns.V6 p;have r:∀k∈(Lns.BW ls).cps.toList,k=47\/k=32\/((Cs.CV rs (L2.sg k)).isSome=true/\k≠47/\k≠32):=λk a=>(by obtain⟨i,s,e⟩:=C7 a;have h:=Lns.V5 ok i k (by rw[A6 s,e]);by_cases o:k=47;exact .inl o;by_cases j:k=32;exact .inr (.inl j);have p:Lns.Lx k=true:=(by unfold Lns.Lx;rw[Aj o,Aj j];rfl);rw[B1 p]at h;exact .inr (.inr ⟨h,o,j⟩));refine⟨R.Ĕ,a,r,?_,⟨R.none λc d e=>?_,R.none λc d e=>?_,R.none λc d e=>?_⟩,hz,R.th,?_⟩;by_cases e:ls=[];rw[e];exact .inl U;exact .inr (Lns.dF ls e);exact(Tw c d).2.2.1 (Vh e);exact(Tw c d).2.2.2 (Vh e);cases e;show((Lns.BW ls).cps.all λc=>decide (c<0x110000))=true;rw[<-Gb,Bw];intro k a;refine Ab ?_;rcases r k a with h|h|⟨h,_,_⟩;lia;lia;exact(Tw k (R.sign h)).2.1
def eV{cs:ϓ}(h:t∈cs):∃k,Mt.LJ cs t=some k/\k<cs.length:=by cases e:Mt.LJ cs t with|none =>grind[Mt.LJ,List.findIdx?_eq_none_iff,Mt.bU]|some k =>refine⟨k,U,?_⟩;unfold Mt.LJ at e;obtain⟨a,_⟩:=Cd.mp e;exact a
theorem Rows.okM(R:Rows rs)(p:c.rs=rs)(h:r∈rs):OD c (r.s,r.t):=by obtain⟨d,hd,e⟩:=R.sg r h;obtain⟨o,j⟩:=R.th r h;obtain⟨k,i,a⟩:=eV (cs:=c.rs.map λr=>r.t) (t:=r.t) (by rw[p];exact Gy h);refine⟨?_,?_,o,j,k,i,by rw[A3]at a;exact a⟩;grind[Cs.cJ];show r.s.length<=1;rw[e];exact A9 _
def rj(h:∀r∈rs,0<=r.n/\r.n<=40):((JX rs).map List.length).sum<=rs.length*40:=by simp_all[JX,D7,Lns.QU,List.length,List.replicate,By]
def Rows.ok(R:Rows rs)(e:c.rs=rs)(O:OE c):Ok c (start rs):=by have i:=R.Ĕ;refine⟨O,?_,λl d x a=>?_,(λx a=>nomatch a),(λx a=>nomatch a),(λx a=>nomatch a),B8 _,λ_=>U,?_,A9 _,(λx a=>nomatch a),λz=>absurd U z⟩;show(JX rs).length=c.rs.length;unfold JX;rw[A3,e];obtain⟨r,j,rfl⟩:=Bq.mp d;grind[List.eq_of_mem_replicate,R.okM];have h:=rj R.mn;show((JX rs).map List.length).sum+0+0+0<=2000+0;lia
def Re(d:l.length<=n)(c:∀x∈l,Wd rs 5 x):(Lns.AE l).length<=n*6:=by have a:=Lns.PH (λx:ϥ=>x.length) 5 n l (λx i=>(c x i).2.1) d;have a:=a;have b:=Eo " " l;have e:(" ":ϥ).length=1:=(by lk);unfold Lns.AE Txt.join;rw[C6];lia
def AY.list(s:AY p A H A' H')(M:ET C ns c H p A m)(h:H X=some (.lst ys))(n:X∉A.all):H' X=some (.lst ys)/\X∉A'.all:=by refine⟨s.fr X _ h (.inl ⟨Tv M.ins h,n⟩),λz=>?_⟩;rcases s.nw X z with z|z;exact n z;rw[h]at z;cases z
def Rf(e:H p=none)(hd:H d=none)(o:CU p (upd (upd H d (.own p)) p (.ins C d [])) i):AA H i:=λb u a=>by
 have c:=DR a e;exact o b u c (by rw[BJ c,BJ (DR a hd)];exact a)
def RZ(c:H p=none)(hd:H a=none)(h:upd (upd H a (.own p)) p (.ins C a []) b=none):H b=none:=by cases e:H b with|none=>rfl|some u =>rw[BJ (DR e c),BJ (DR e hd),e]at h;cases h
def eW(v:V)(vs):seqIndex? 0 (v::vs).length=some 0:=by have h:decide ((0:Int)<((v::vs).length:Int))=true:=Ab (by rw[Bb];lia);show(if (decide ((0:Int)<=0)&&decide ((0:Int)<((v::vs).length:Int)))=true then some (Int.toNat 0)else none)=some 0;rw[h];rfl
structure Rt(c:Cf):Prop where
 fl:∀(j:Nat) r,c.rs[j]?=some r->Mt.LJ (c.rs.map λr=>r.t) r.t=some j
 pl:∀(j:Nat) r,c.rs[j]?=some r->Cs.CV c.rs r.s=some j
 sg:∀r∈c.rs,∃k∈Cs.BQ,r.s=L2.sg k
 gd:Lns.GS c.rs false c.keys.cps.toList=true
noncomputable def out (m:Ms) (x:Mx):Nat:=(DA m.line).count x+(DA m.Á).count x+m.bar.count x
noncomputable def XH (a:ϩ ϔ):ϔ:=a.flatMap λt=>t++[47]
def cps(t:ϥ):ϔ:=t.cps.toList
def hot(m:Ms):ϔ:=if m.Á.isEmpty=true then []else cps (IM m.Á)++[47]
def XI(c:Cf)(x:Mx):Prop:=∃(j:Nat) (r:Cs.BS),c.rs[j]?=some r/\x=(r.s,r.t)
structure Gd(c:Cf)(m:Ms):Prop where
 ow:∀(j:Nat) l,m.lanes[j]?=some l->∃r,c.rs[j]?=some r/\∀x∈l,x=(r.s,r.t)
 il:∀x∈DA m.line,XI c x
 ih:∀x∈DA m.Á,XI c x
 ib:∀x∈m.bar,XI c x
 ct:∀(j:Nat) r l,c.rs[j]?=some r->m.lanes[j]?=some l->l.length+out m (r.s,r.t)=r.n.toNat
 tx:XH (m.texts.map cps)++hot m++cps (IM m.line)=c.keys.cps.toList.take m.at_
 lm:∀t∈m.texts,∀r∈c.rs,∀k,r.s=L2.sg k->(cps t).count k<=r.n.toNat
 pn:∀t∈m.texts,47∉cps t
def Gd.start(h:∀r∈c.rs,0<=r.n):Gd c (start c.rs):=by have lane:∀(j:Nat) l,(JX c.rs)[j]?=some l->∃r,c.rs[j]?=some r/\l=List.replicate r.n.toNat (r.s,r.t):=λj l d=>(by unfold JX at d;grind);refine⟨λj l d=>?_,(λx a=>nomatch a),(λx a=>nomatch a),(λx a=>nomatch a),λj r l i d=>?_,U,(λt k=>nomatch k),(λt k=>nomatch k)⟩;obtain⟨r,i,rfl⟩:=lane j l d;exact⟨r,i,λx a=>D0 a⟩;obtain⟨o,e,rfl⟩:=lane j l d;rw[i]at e;cases e;rw[By];rfl
end Mc
namespace L2
open PySem PySem.Spec PyProof.Rows PySem.Builtin PySem.Builtin.Str
theorem eX(c):∀{ps},ps≠[]->(∀p∈ps,c∉p.cps.toList)->(Str.join ⟨#[c]⟩ ps).cps.toList.count c+1=ps.length
 |[],h,_=>absurd U h|[p],_,h=>by show List.count c p.cps.toList+1=1;rw[Kw.mpr (h p Aa)]
 |p::p2::ps,_,h=>by have d:=eX c (ps:=p2::ps) (by simp) λx a=>h x (Ac _ a);show List.count c (p++⟨#[c]⟩++Str.join ⟨#[c]⟩ (p2::ps)).cps.toList+1=_;rw[Lns.IC,Lns.IC,L6,L6,Kw.mpr (h p Aa)];have e:List.count c (⟨#[c]⟩:ϥ).cps.toList=1:=(by show List.count c [c]=1;simp);rw[e];show 0+1+_+1=(p2::ps).length+1;lia
def rl(x)(c):(occurrences x ⟨#[c]⟩ 0 x.length (x.length+1)).length=x.cps.toList.count c:=by refine AS (λf i j=>?_) (StrLaws.occ_tight x ⟨#[c]⟩ (A9 1));have d:Str.join ⟨#[c]⟩ (partsBetween x (occurrences x ⟨#[c]⟩ 0 x.length (x.length+1)) 1)=x:=(by rw[<-C6];exact StrLaws.glued_between_self x ⟨#[c]⟩ (x.length+1));have a:partsBetween x (occurrences x ⟨#[c]⟩ 0 x.length (x.length+1)) 1≠[]:=(by rw[G1];refine Sk (StrLaws.partsFrom_ne x 1 0 (occurrences x ⟨#[c]⟩ 0 x.length (x.length+1))) λp r e=>?_;rw[e];simp);have h:=eX c a (by rw[G1];exact StrLaws.parts_free x c _ _ _ i j);rw[d]at h;unfold partsBetween at h;grind
section
variable {X:Cx}
def PQ:V->ϩ V->Hp->VK->Prop:=λx a H Q=>∃(z:ϥ) (c:Nat),x=.str z/\a=[.str (sg c)]/\Q (.int (z.cps.toList.count c:Nat)) H
def rm:Qh X "str.count" PQ:=by rintro a s p H x o v r Q I i d ⟨z,c,rfl,rfl,q⟩;obtain⟨t,rfl⟩:=i;obtain⟨k,rfl,u,rfl⟩:=LW d;have e:=rl z c;have j:Q (.int ((occurrences z (sg c) 0 z.length (z.length+1)).length:Nat)) H:=(by have e:(occurrences z (sg c) 0 z.length (z.length+1)).length=z.cps.toList.count c:=e;rw[e];exact q);exact call_gives F.slot_str_count (Ic _ _ _) F.entry_str_count (F.args_str_count_2 _ _) (gives_str_count z (sg c) t u) ⟨.int _,H,I.tok _,⟨_,U⟩,j⟩
end
end L2
namespace Mc
open PySem L2
def ET.aside(h:ET C ns c H p A m)(j:H X=some (.lst ys))(n:X∉A.all):ET C ns c (upd H X o) p A m:=by
 refine EX (λr fs i F=>?_) h.ins;have d:p≠X:=λe=>by rw[e,j]at i;cases i
 exact⟨⟨r,fs,by rw[BJ d];exact i,F⟩,h.nd,h.li.keep (BK.lst j) λa k e=>n (by rw[<-e];exact k)⟩
def AY.same(s:AY p A i A' d)(h:AA H i)(c:H p=none)(hA:∀b∈A.all,H b=none):AA H d/\∀b∈A'.all,H b=none:=by refine⟨λb o a=>s.fr b o (h b o a) (.inl ⟨λe=>?_,λe=>?_⟩),λb a=>?_⟩;rw[e,c]at a;cases a;rw[hA b e]at a;cases a;rcases s.nw b a with z|z;exact hA b z;exact h.free z
def JY(x s:ϥ):Nat:=(cps x).count (s.cps.toList.headD 0)
noncomputable def CD (rs:ϩ Cs.BS) (x:ϥ):ϩ Cs.BS:=rs.map λr=>⟨r.s,r.w,r.t,(JY x r.s:Int)⟩
noncomputable def GU:ϩ Cs.BS->ϩ (ϩ Mx)->ϓ|r::rs,l::ls=>(r.n-((l.length:Nat):Int))::GU rs ls|_,_=>[]
def ro{rs}{ls}{i:Nat}{r}{l}(c:rs[i]?=some r)(a:ls[i]?=some l):(GU rs ls)[i]?=some (r.n-((l.length:Nat):Int)):=by induction rs generalizing ls i with|nil=>simp at c|cons j rs d =>cases ls with|nil=>simp at a|cons e ls =>cases i with|zero=>cases c;cases a;rfl|succ i=>exact d (ls:=ls) (i:=i) c a
def eY(h:ls.length=rs.length):(GU rs ls).length=rs.length:=by induction rs generalizing ls with|nil=>cases ls<;>rfl|cons d rs a =>cases ls with|nil=>cases h|cons c ls=>exact Bt (·+ 1) (a (Nat.succ.inj h))
def OG(d o:Int)(x:Int×Int):Int×Int:=if x.1<o then(o,d)else x
def LL(d:Int):ϓ->Ϙ->Ϙ|o::os,x::a=>OG d o x::LL d os a|_,a=>a
def XJ(d)(a)(ps):(LL d a ps).length=ps.length:=by induction a generalizing ps with|nil=>cases ps<;>rfl|cons o a c =>cases ps with|nil=>rfl|cons x e=>exact Bt (·+ 1) (c e)
def XM(d)(ps):LL d [] ps=ps:=by cases ps<;>rfl
def rp(d)(a)(ps)(h:a.length<=k):(LL d a ps)[k]?=ps[k]?:=by induction a generalizing ps k with|nil=>rw[XM]|cons o a c =>cases ps with|nil=>rfl|cons x e =>cases k with|zero=>simp at h|succ k=>exact c e (k:=k) (Nat.le_of_succ_le_succ h)
def rq(d)(a)(o)(ps)(h:ps[a.length]?=some x):LL d (a++[o]) ps=(LL d a ps).set a.length (OG d o x):=by induction a generalizing ps with|nil =>(cases ps with|nil=>simp at h|cons y c =>have h:y=x:=B0 h;subst h;show OG d o y::LL d [] c=_;rw[XM];rfl)|cons e a i =>cases ps with|nil=>simp at h|cons y c =>show OG d e y::LL d (a++[o]) c=(OG d e y::LL d a c).set (a.length+1) _;rw[List.set_cons_succ,i c h]
inductive Pk (c:Cf):Ms->Ϙ->Ϙ->Prop
 | stop {m:Ms}{ps:Ϙ}:JM c m=true->Pk c m ps ps
 | go {m:Ms}{ps qs:Ϙ}:JM c m=false->Pk c (tick c m) (LL (tick c m).done (GU c.rs (tick c m).lanes) ps) qs->Pk c m ps qs
def Pk.uniq{qs}(h:Pk c m ps qs)(h':Pk c m ps d):qs=d:=by induction h with|stop e =>(cases h' with|stop _=>rfl|go a _=>rw[e]at a;cases a)|go e _ i =>cases h' with|stop a=>rw[e]at a;cases a|go _ j=>exact i j
structure IE(C:Ϡ)(ns:ώ)(c:Cf)(H0 H:Hp)(p n q f:Ϡ)(A:DL)(m:Ms)(fs:ϩ V)(ps:Ϙ):Prop where
 Ę:ET C ns c H p A m
 sm:AA H0 H
 new:∀b∈A.all,H0 b=none
 pn:H0 p=none
 nn:H0 n=none
 qn:H0 q=none
 fn:H0 f=none
 nq:n≠q
 nf:n≠f
 qf:q≠f
 na:n∉A.all
 qa:q∉A.all
 fa:f∉A.all
 hn:H n=some (.lst ((ps.map λx=>x.1).map V.int))
 hq:H q=some (.lst ((ps.map λx=>x.2).map V.int))
 hf:H f=some (.lst fs)
 rows:Paired (Cs.FL H) fs c.rs
def IE.same{fs}(h:IE C ns c H0 H p n q f A m fs ps)(s:AA H a):IE C ns c H0 a p n q f A m fs ps :=⟨h.Ę.same s,h.sm.trans s,h.new,h.pn,h.nn,h.qn,h.fn,h.nq,h.nf,h.qf,h.na,h.qa,h.fa,s _ _ h.hn,s _ _ h.hq,s _ _ h.hf,Cs.EO h.rows s⟩
def IE.step{fs}(h:IE C ns c H0 H p n q f A m fs ps)(s:AY p A H a d)(M:ET C ns c d p a y):IE C ns c H0 d p n q f a y fs ps:=by obtain⟨r,j⟩:=s.same h.sm h.pn h.new;obtain⟨B,n2⟩:=s.list h.Ę h.hn h.na;obtain⟨k,E⟩:=s.list h.Ę h.hq h.qa;obtain⟨i,z⟩:=s.list h.Ę h.hf h.fa;exact⟨M,r,j,h.pn,h.nn,h.qn,h.fn,h.nq,h.nf,h.qf,n2,E,z,B,k,i,Qn (S:=λb=>b≠p/\b∉A.all) (λb o e v=>s.fr b o e v) h.rows⟩
def IE.setN{fs}(h:IE C ns c H0 H p n q f A m fs ps) :
 ET C ns c (upd H n (.lst vs)) p A m/\AA H0 (upd H n (.lst vs))/\upd H n (.lst vs) q=some (.lst ((ps.map λx=>x.2).map V.int))/\upd H n (.lst vs) f=some (.lst fs)/\Paired (Cs.FL (upd H n (.lst vs))) fs c.rs :=
 ⟨h.Ę.aside h.hn h.na,DF h.sm h.nn,by rw[BJ h.nq.symm];exact h.hq,by rw[BJ h.nf.symm];exact h.hf,Cs.RS h.rows h.hn λz e=>by cases e⟩
def IE.set{fs}{qs}(h:IE C ns c H0 H p n q f A m fs ps)(s:AA (upd H n (.lst ((qs.map λx=>x.1).map V.int))) k) :
 IE C ns c H0 (upd k q (.lst ((qs.map λx=>x.2).map V.int))) p n q f A m fs qs:=by
 obtain⟨o,r,d,j,i⟩:=h.setN (vs:=(qs.map λx=>x.1).map V.int);have a:=s _ _ d;exact⟨(o.same s).aside a h.qa,DF (r.trans s) h.qn,h.new,h.pn,h.nn,h.qn,h.fn,h.nq,h.nf,h.qf,h.na,h.qa,h.fa,by rw[BJ h.nq];exact s _ _ AM,AM,by rw[BJ h.qf.symm];exact s _ _ j,Cs.RS (Cs.EO i s) a λz e=>by cases e⟩
def NG(n:Nat):Ϙ:=List.replicate n (0,0)
def eZ(rs:ϩ Cs.BS)(x:ϥ):Cs.CV rs x=(rs.map λr=>r.s).findIdx? λs=>decide (s=x):=by unfold Cs.CV;rw[L7];rfl
end Mc
namespace L2
open PySem PySem.Spec PyProof.Rows
section
variable {X:Cx}(K:ϡ) (hK:X.K=K)
include hK
end
section
variable {X:Cx}(K:ϡ) (hK:X.K=K)
include hK
end
section
variable {X:Cx}(K:ϡ) (hK:X.K=K)
include hK
end
end L2
namespace Jb
open PySem L2
inductive Mm where
 | ms (n:Int)
 | gp (a b c:Int)
 | st (ws:ώ)
def DS:Nat->Type|0=>Mm|d+1=>Mm ⊕ (Nat×ϩ (DS d))
abbrev St:=Int×ϓ
abbrev BF:=Int×ϓ×ώ
abbrev OH:=ϩ BF×St
noncomputable def bas:Mm->St->OH
 |.ms n,s=>([],(n,s.2))|.gp a b c,s=>([],(s.1,[a,b,c]))
 |.st d,s=>([(s.1,s.2,d)],s)
noncomputable def CS {a:Type}(f:a->St->OH):ϩ a->St->OH|[],s=>([],s)|j::js,s=>((f j s).1++(CS f js (f j s).2).1,(CS f js (f j s).2).2)
noncomputable def LA (f:St->OH):Nat->St->OH|0,s=>([],s)|n+1,s=>if (f s).1=[]then f s else((f s).1++(LA f n (f s).2).1,(LA f n (f s).2).2)
noncomputable def FJ:(d:Nat)->DS d->St->OH
 |0,b,s=>bas b s|_+1,.inl b,s=>bas b s
 |d+1,.inr (n,js),s=>LA (CS (FJ d) js) n s
theorem f6{a:Type}(f:a->St->OH):∀(js) (j) (s),CS f (js++[j]) s=((CS f js s).1++(f j (CS f js s).2).1,(f j (CS f js s).2).2)|[],j,s=>by show((f j s).1++[],(f j s).2)=_;rw[Aq];rfl|k::js,j,s=>by show((f k s).1++(CS f (js++[j]) (f k s).2).1,(CS f (js++[j]) (f k s).2).2)=_;rw[f6 f js j];show(_++(_++_),_)=((_++_)++_,_);rw[B4];rfl
theorem XN{c:Type}(f:c->St->OH):∀(a b) (s),CS f (a++b) s=((CS f a s).1++(CS f b (CS f a s).2).1,(CS f b (CS f a s).2).2)|[],b,s=>rfl|k::a,b,s=>by show((f k s).1++(CS f (a++b) (f k s).2).1,(CS f (a++b) (f k s).2).2)=_;rw[XN f a b];show(_++(_++_),_)=((_++_)++_,_);rw[B4];rfl
noncomputable def NH (ps:ϩ BF):Nat:=(ps.map λp=>p.2.2.length).sum
def HI(ps:ϩ BF):Prop:=ps.length<=60/\NH ps<=400
theorem f7(a b):NH (a++b)=NH a+NH b:=by grind[NH,List.map_append,List.sum_append]
theorem HI.left(h:HI (a++b)):HI a:=by grind[HI,List.length_append,f7]
noncomputable instance (ps:ϩ BF):Decidable (HI ps):=by unfold HI;infer_instance
def BC(no:Ϡ)(H c:Hp):Prop:=∀a o,a≠no->H a=some o->c a=some o
def BC.refl(no)(H):BC no H H:=λ_ _ _ h=>h
def BC.trans(h:BC no d c)(h':BC no c i):BC no d i:=λa o n e=>h' a o n (h a o n e)
def BC.of(h:AA H c):BC no H c:=λa o _ e=>h a o e
def BC.upd(h:BC no H c):BC no H (upd c no o):=λa d n e=>by
 rw[BJ n];exact h a d n e
def BC.tup(h:BC no H H')(a:H no=some (.lst vs))(c:H t=some (.tup xs)):H' t=some (.tup xs):=h t _ (λe=>by rw[e,a]at c;cases c) c
def BC.sqt(h:BC no H d)(c:H no=some (.lst vs))(a:BP K H t xs):BP K d t xs:=by rcases a with a|a;rcases a with a|a;exact .inl (.inl (h.tup c a));obtain⟨o,a⟩:=a;exact .inl (.inr ⟨o,h t _ (λe=>by rw[e,c]at a;cases a) a⟩);exact .inr a
def PR(no:Ϡ)(H:Hp)(v:V):Mm->Prop
 |.ms n=>∃t,v=.ref t/\H t=some (.tup [.str "measure",.int n])|.gp a b c=>∃t,v=.ref t/\H t=some (.tup [.str "gaps",.int a,.int b,.int c])
 |.st d=>∃t p,v=.ref t/\H t=some (.tup [.str "set",.ref p])/\p≠no/\H p=some (.lst (d.map V.str))
def EH(no:Ϡ)(H:Hp):(d:Nat)->V->DS d->Prop
 |0,v,b=>PR no H v b|_+1,v,.inl b=>PR no H v b
 |d+1,v,.inr (n,js)=>n<=1000/\js.length<=1000/\∃t p a,v=.ref t/\H t=some (.tup [.str "times",.int (n:Int),.ref p])/\p≠no/\H p=some (.lst a)/\Paired (EH no H d) a js
def PR.same(h:PR no H v b)(s:BC no H i)(d:H no=some (.lst vs)):PR no i v b:=by cases b with|ms n=>(obtain⟨t,e,z⟩:=h;exact⟨t,e,s.tup d z⟩)|gp a b c=>(obtain⟨t,e,z⟩:=h;exact⟨t,e,s.tup d z⟩)|st j=>obtain⟨t,p,e,z,n,y⟩:=h;exact⟨t,p,e,s.tup d z,n,s _ _ n y⟩
theorem EH.same(s:BC no H o)(a:H no=some (.lst vs)):∀(d) {v} {j},EH no H d v j->EH no o d v j
 |0,_,_,h=>PR.same h s a|_+1,_,.inl _,h=>PR.same h s a
 |d+1,_,.inr (_,_),h=>by obtain⟨c,k,t,p,i,e,z,n,y,w⟩:=h;exact⟨c,k,t,p,i,e,s.tup a z,n,s _ _ n y,Paired.Æ w λ_ _ q=>EH.same s a d q⟩
def EH.view:∀(d) {v} {j},EH no H d v j->(∃b,PR no H v b/\∀s,FJ d j s=bas b s) \/∃(d' n:Nat) (js:ϩ (DS d')),d=d'+1/\n<=1000/\js.length<=1000/\(∃t p xs,v=.ref t/\H t=some (.tup [.str "times",.int (n),.ref p])/\p≠no/\H p=some (.lst xs)/\Paired (EH no H d') xs js)/\∀s,FJ d j s=LA (CS (FJ d') js) n s
 |0,_,b,h=>.inl ⟨b,h,λ_=>U⟩|_+1,_,.inl b,h=>.inl ⟨b,h,λ_=>U⟩
 |d+1,_,.inr (n,js),⟨a,c,h⟩=>.inr ⟨d,n,js,U,a,c,h,λ_=>U⟩
def OI(K:ϡ)(no:Ϡ)(H:Hp)(v:V)(p:BF):Prop:=∃t g w,v=.ref t/\H t=some (.tup [.int p.1,.ref g,.ref w])/\BP K H g (p.2.1.map V.int)/\w≠no/\H w=some (.lst (p.2.2.map V.str))
def OI.same(h:OI K no H v p)(s:BC no H c)(a:H no=some (.lst vs)):OI K no c v p:=by revert h;refine Qb λt g w e z y n x=>?_;exact DZ t g w e (s.tup a z) (s.sqt a y) n (s _ _ n x)
structure Qp(K:ϡ)(q:Ϡ)(H:Hp)(ps:ϩ BF):Prop where
 ex:∃vs,H q=some (.lst vs)/\Paired (OI K q H) vs ps
def Qp.add(a:H q=some (.lst vs))(c:Paired (OI K q H) vs ps)(h:OI K q H v p):Paired (OI K q (upd H q (.lst (vs++[v])))) (vs++[v]) (ps++[p]):=by have s:BC q H (upd H q (.lst (vs++[v]))):=(BC.refl q H).upd;exact Bz (Paired.Æ c λ_ _ z=>z.same s a) (h.same s a)
end Jb
namespace L2
open PySem PySem.Spec PyProof.Rows
section
variable {X:Cx}(K:ϡ) (hK:X.K=K)
include hK
end
abbrev rr:=Nat×Nat×Bool
section
variable {X:Cx}{o i e value:Ϧ}{pos pos' tpos:Pos}{td ty tv:TE}
variable (P:ϣ) (w:Ϣ) (hP:X.prog=P) (hw:X.w=w)
include hP hw
end
end L2
namespace Jb
open PySem L2
structure JB(x:ϥ):Prop where
 l1:1<=x.cps.toList.length
 l2:x.cps.toList.length<=12
 sn:∀c∈x.cps.toList,c∈Cs.BQ
 ne:x≠"end"
def Tz:Mm->Prop
 |.ms n=>1<=n/\n<=2000|.gp a b c=>0<=a/\a<=b/\b<=c/\c<=99
 |.st d=>1<=d.length/\d.length<=200/\∀x∈d,JB x
def LM:(d:Nat)->DS d->Prop
 |0,b=>Tz b|_+1,.inl b=>Tz b
 |d+1,.inr (n,js)=>1<=n/\n<=9/\js≠[]/\js.length<=100/\∀j∈js,LM d j
def GV(N:ϝ)(H:Hp)(v:V):Mm->Prop
 |.ms n=>∃t,v=.ref t/\H t=some (.tup [.str "measure",.int n])|.gp a b c=>∃t,v=.ref t/\H t=some (.tup [.str "gaps",.int a,.int b,.int c])
 |.st d=>∃t p,v=.ref t/\H t=some (.tup [.str "set",.ref p])/\¬N p/\H p=some (.lst (d.map V.str))
def CQ(N:ϝ)(H:Hp):(d:Nat)->V->DS d->Prop
 |0,v,b=>GV N H v b|_+1,v,.inl b=>GV N H v b
 |d+1,v,.inr (n,js)=>n<=1000/\js.length<=1000/\∃t p a,v=.ref t/\H t=some (.tup [.str "times",.int (n:Int),.ref p])/\¬N p/\H p=some (.lst a)/\Paired (CQ N H d) a js
structure DQ(N:ϝ)(H H':Hp):Prop where
 tup:∀a xs,H a=some (.tup xs)->H' a=some (.tup xs)
 lst:∀a xs,¬N a->H a=some (.lst xs)->H' a=some (.lst xs)
def DQ.of{N}{H c}(s:AA H c):DQ N H c:=⟨λa d h=>s _ _ h,λa d _ h=>s _ _ h⟩
def DQ.upd{N:ϝ}{H:Hp}{q:Ϡ}{ys:ϩ V}{o:HO}(c:H q=some (.lst ys))(hN:N q):DQ N H (upd H q o):=by refine⟨λa d h=>?_,λa d n h=>?_⟩;rw[BJ (HB h c (λz=>by cases z))];exact h;rw[BJ (λz=>n (by rw[z];exact hN))];exact h
def DQ.trans{N}{H1 d i}(h:DQ N H1 d)(h':DQ N d i):DQ N H1 i:=⟨λa c e=>h'.tup a c (h.tup a c e),λa c n e=>h'.lst a c n (h.lst a c n e)⟩
section
variable {N M:ϝ}{H H':Hp}
def GV.to(s:DQ N H H')(d:∀p xs,H p=some (.lst xs)->¬N p->¬M p)(h:GV N H v b):GV M H' v b:=by cases b with|ms n=>(obtain⟨t,e,z⟩:=h;exact⟨t,e,s.tup _ _ z⟩)|gp a b c=>(obtain⟨t,e,z⟩:=h;exact⟨t,e,s.tup _ _ z⟩)|st i=>obtain⟨t,p,e,z,n,y⟩:=h;exact⟨t,p,e,s.tup _ _ z,d _ _ y n,s.lst _ _ n y⟩
theorem CQ.to(s:DQ N H H')(a:∀p xs,H p=some (.lst xs)->¬N p->¬M p):∀(d) {v} {j},CQ N H d v j->CQ M H' d v j
 |0,_,_,h=>GV.to s a h|_+1,_,.inl _,h=>GV.to s a h
 |d+1,_,.inr (_,_),h=>by obtain⟨c,i,t,p,xs,e,z,n,y,w⟩:=h;exact⟨c,i,t,p,xs,e,s.tup _ _ z,a _ _ y n,s.lst _ _ n y,Paired.Æ w λ_ _ q=>CQ.to s a d q⟩
def CQ.same(s:DQ N H H')(d){v}{j}(h:CQ N H d v j):CQ N H' d v j:=CQ.to s (λ_ _ _ n=>n) d h
def CQ.weak(w:∀a,M a->N a)(d){v}{j}(h:CQ N H d v j):CQ M H d v j:=CQ.to (DQ.of (AA.refl _)) (λ_ _ _ n z=>n (w _ z)) d h
def CQ.fresh(w:∀a,M a->N a\/H a=none)(d){v}{j}(h:CQ N H d v j):CQ M H d v j:=CQ.to (DQ.of (AA.refl _)) (λp c e n z=>by
 rcases w p z with h|h
 .exact n h
 .rw[e]at h;cases h) d h
def GV.at{q}{v}{b}(h:GV (λa=>a=q) H v b):PR q H v b:=by cases b with|ms n=>exact h|gp a b c=>exact h|st d=>exact h
theorem CQ.at{q}:∀(d) {v} {j},CQ (λa=>a=q) H d v j->EH q H d v j
 |0,_,_,h=>GV.at h|_+1,_,.inl _,h=>GV.at h
 |d+1,_,.inr (_,_),h=>by obtain⟨c,k,t,p,i,e,z,n,y,w⟩:=h;exact⟨c,k,t,p,i,e,z,n,y,Paired.Æ w λ_ _ q=>CQ.at d q⟩
end
theorem f9{K:ϡ}{H:Hp}{a:Type}{F:V->a->Prop}{f:a->PyData}:∀{vs:ϩ V}{js:ϩ a},Paired F vs js->(∀v j,j∈js->F v j->JT K H v (f j))->HZ K H vs (js.map f)|_,_,.nil,_=>.nil|_,_,.cons r t,h=>.cons (h _ _ Aa r) (f9 t λv j c=>h v j (Ac _ c))
end Jb
namespace L2
open PySem PySem.Spec PyProof.Rows
section
variable {X:Cx}
def S1:KU X (.type "int") (λxs H Q=>∃(x:ϥ) (n:Int),xs=[.str x]/\PySem.intText? x=some n/\x.length<=640/\Q (.int n) H):=by refine λc s j H xs i Q I r=>IK λx n a e d q=>?_;subst a;obtain⟨u,rfl,t,rfl⟩:=LW r;exact PySem.W.KIN.call_text e d ⟨.int _,H,I.tok _,⟨_,U⟩,q⟩
def JZ:KU X (.type "str") (λxs H Q=>∃i:Int,xs=[.int i]/\i.natAbs<100000/\Q (.str (Str.ofString (toString i))) H):=by refine λc s k H xs d Q I r=>DN λi a j q=>?_;subst a;obtain⟨u,rfl,t,rfl⟩:=LW r;refine P.str_of_int ?_ ⟨.str _,H,I.tok _,⟨_,U⟩,q⟩;have:i.natAbs.log2<17:=(by rcases Nat.eq_zero_or_pos i.natAbs with e|e;rw[e];decide;exact(Kg (by lia)).mpr (by lia));lia
end
end L2
namespace Cp
open PySem L2 Jb
def PU(c:Nat):Bool:=decide (48<=c)&&decide (c<=57)
noncomputable def IF (x:ϥ):Bool:=!(decide (1<x.cps.toList.length)&&decide (x.cps.toList[0]?=some 48))&&(decide (1<=x.cps.toList.length)&&decide (x.cps.toList.length<=4))&&x.cps.toList.all PU
def IG(x:ϥ):Int:=(PySem.intText? x).getD 0
def TB(h:IF x=true):1<=x.cps.toList.length/\x.cps.toList.length<=4:=by unfold IF at h;lia
def fb(h:IF x=true):PySem.intText? x=some (IG x):=by have a:=TB h;unfold IF at h;simp only[Ar]at h;have hd:PySem.NumText.AllDigits x.cps.toList:=λc d=>(by have:=Bw.mp h.2 c d;unfold PU at this;lia);have e:x.cps.toList.length=x.length:=Au;have:=PySem.intText_digits hd (λz=>by rw[z]at a;exact absurd a.1 (by lk)) (by lia);unfold IG;rw[this];rfl
noncomputable def KJ (x:ϥ):Bool:=decide (x≠"")&&decide (x≠"end")&&x.cps.toList.all λc=>decide (c∈Cs.BQ)
def hd(r:ώ)(k:Nat):ϥ:=(r[k]?).getD ""
def HU(x:ϥ)(lo a:Int):ϑ:=if IF x=true/\lo<=IG x/\IG x<=a then some (IG x)else none
abbrev Rd(a:Type):=Ϩ (a×Nat)
noncomputable def TC (r:ώ):Rd Mm:=(HU (hd r 1) 1 2000).map λn=>(.ms n,2)
noncomputable def Rg (r:ώ):Rd Mm:=match HU (hd r 1) 0 99 with
 | none=>none
 | some c=>match HU (hd r 2) c 99 with
   | none=>none
   | some a=>(HU (hd r 3) a 99).map λd=>(.gp c a d,4)
noncomputable def ER (r:ώ):ώ:=(r.drop 1).takeWhile KJ
def S3(r:ώ):Rd Mm:=if ER r=[]then none else if hd r ((ER r).length+1)="end" then some (.st (ER r),(ER r).length+2)else none
noncomputable def PV (r:ώ):Bool:=decide (hd r 0="measure")||decide (hd r 0="gaps")||decide (hd r 0="set")
def Ni(r:ώ):Rd Mm:=if hd r 0="measure" then TC r else if hd r 0="gaps" then Rg r else if hd r 0="set" then S3 r else none
def Nj(r:ώ):Bool:=decide (r=[])||decide (hd r 0=")")
noncomputable def Og {a:Type}(f:ώ->Rd a):Nat->ώ->Rd (ϩ a)
 |0,_=>none|n+1,r=>if Nj r=true then some ([],0)else match f r with
   | none=>none
   | some (x,k)=>(Og f n (r.drop k)).map λz=>(x::z.1,k+z.2)
noncomputable def Rh {a:Type}(g:ώ->Rd (ϩ a)) (r:ώ):Rd (Nat×ϩ a):=match HU (hd r 0) 1 9 with
 | none=>none
 | some n=>if hd r 1="times"/\hd r 2="(" then(match g (r.drop 3)with
    | none=>none
    | some (js,k)=>if js=[]then none else if hd r (3+k)=")" then some ((n.toNat,js),4+k)else none)
   else none
noncomputable def Mu:(d:Nat)->ώ->Rd (DS d)|0,r=>Ni r|d+1,r=>if PV r=true then(Ni r).map λz=>(Sum.inl z.1,z.2)else(Rh (λr=>Og (Mu d) (r.length+1) r) r).map λz=>(Sum.inr z.1,z.2)
def HJ(d:Nat)(r:ώ):Rd (ϩ (DS d)):=Og (Mu d) (r.length+1) r
def S4(h:hd r k≠""):k<r.length:=by cases e:r[k]? with|none =>unfold hd at h;rw[e]at h;exact absurd U h|some x=>exact(Ap.mp e).1
def OJ(r)(a k):hd (r.drop a) k=hd r (a+k):=by unfold hd;rw[List.getElem?_drop]
def rA:IF ""=false:=by room
def XP(h:HU x lo a=some n):IF x=true/\lo<=n/\n<=a/\n=IG x:=by unfold HU at h;lia
def fc(h:HU x lo a=some n):x≠"":=λz=>by
 have:=(XP h).1;rw[z,rA]at this
 cases this
def rB(h:TC r=some (b,k)):1<=k/\k<=r.length:=by unfold TC at h;obtain⟨n,a,e⟩:=Az.mp h;have:=S4 (fc a);cases e;lia
def rC(h:Rg r=some (b,k)):1<=k/\k<=r.length:=by unfold Rg at h;split at h;cases h;split at h;cases h;obtain⟨n,a,e⟩:=Az.mp h;have:=S4 (fc a);cases e;lia
def rD(h:S3 r=some (b,k)):1<=k/\k<=r.length:=by unfold S3 at h;split at h;cases h;split at h;(.rename_i e;have a:hd r ((ER r).length+1)≠"":=(by rw[e];decide +kernel);have:=S4 a;cases h;lia);cases h
def fe{r}{b}{k}(h:Ni r=some (b,k)):1<=k/\k<=r.length:=by unfold Ni at h;split at h;exact rB h;split at h;exact rC h;split at h;exact rD h;cases h
def rE{a:Type}{g:ώ->Rd (ϩ a)}{r}{x}{k}(h:Rh g r=some (x,k)):1<=k/\k<=r.length:=by unfold Rh at h;split at h;cases h;split at h;split at h;cases h;split at h;cases h;split at h;(.rename_i e;have:=S4 (r:=r) (λz=>absurd (e.symm.trans z) (by room));cases h;lia);cases h;cases h
theorem XR:∀(d) {r} {j} {k},Mu d r=some (j,k)->1<=k/\k<=r.length|0,r,j,k,h=>fe (b:=j) h|d+1,r,j,k,h=>by unfold Mu at h;split at h;obtain⟨z,a,e⟩:=Az.mp h;cases e;exact fe a;obtain⟨z,a,e⟩:=Az.mp h;cases e;exact rE a
theorem fg{c:Type}{f:ώ->Rd c}(a:∀r x k,f r=some (x,k)->1<=k/\k<=r.length):∀(n m) (r),r.length<n->r.length<m->Og f n r=Og f m r
 |0,_,r,h,_=>absurd h (E3 _)|_+1,0,r,_,h=>absurd h (E3 _)
 |n+1,m+1,r,j,d=>by unfold Og;split;rfl;split;rfl;rename_i x k e;have i:=a _ _ _ e;rw[fg a n m (r.drop k) (by rw[Cu];lia) (by rw[Cu];lia)]
theorem XS{d}{r}:HJ d r=if Nj r=true then some ([],0)else match Mu d r with
 | none=>none
 | some (x,k)=>(HJ d (r.drop k)).map λz=>(x::z.1,k+z.2):=by
 have c:HJ d r=Og (Mu d) (r.length+1) r:=U;rw[c];unfold Og;by_cases a:Nj r=true
 .rw[B1 a,B1 a]
 .rw[Av a,Av a];cases e:Mu d r with
  | none=>rfl
  | some z =>
    obtain⟨x,k⟩:=z;have j:=XR d e;have i:Og (Mu d) r.length (r.drop k)=HJ d (r.drop k):=fg (λr x k=>XR d) r.length ((r.drop k).length+1) (r.drop k) (by rw[Cu];lia) (Jj _)
    lia
noncomputable def S5 (ws:ώ):Ϩ (ϩ (DS 4)):=match HJ 4 ws with
 | none=>none
 | some (js,k)=>if k<ws.length then none else some js
abbrev AO(n:Int):ϥ:=Str.ofString (toString n)
noncomputable def NT:Mm->ώ
 |.ms n=>["measure",AO n]|.gp a b c=>["gaps",AO a,AO b,AO c]
 |.st d=>("set":ϥ)::d++[("end":ϥ)]
noncomputable def JC:(d:Nat)->DS d->ώ
 |0,b=>NT b|_+1,.inl b=>NT b
 |d+1,.inr (n,js)=>[AO (n:Int),("times":ϥ),("(":ϥ)]++js.flatMap (JC d)++[(")":ϥ)]
abbrev EJ(d:Nat)(js:ϩ (DS d)):ώ:=js.flatMap (JC d)
def rF:∀n:Fin 2001,IF (AO (n.val:Int))=true:=by room
def Vi(c:0<=n)(a:n<=2000):IF (AO n)=true:=by have:=rF ⟨n.toNat,by lia⟩;rw[show((n.toNat:Nat):Int)=n by lia]at this;exact this
def rG(a:0<=n)(c:n<=2000):IG (AO n)=n:=by unfold IG AO;rw[K5 a (by lia)];rfl
def TF(c:0<=n)(a:n<=2000)(d:lo<=n)(e:n<=i):HU (AO n) lo i=some n:=by unfold HU;rw[rG c a,B1 ⟨Vi c a,d,e⟩]
def rH(h:JB x):KJ x=true:=by unfold KJ;have a:x≠"":=λz=>(by have:=h.l1;rw[z]at this;exact absurd this (by room));rw[Ab a,Ab (p:=x≠("end":ϥ)) h.ne];show(true&&true&&_)=true;rw[Bw.mpr λc d=>Ab (h.sn c d)];rfl
def rJ:KJ "end"=false:=by room
theorem fh:∀{us:ώ}{y:ϥ}{r:ώ},(∀x∈us,p x=true)->p y=false->(us++y::r).takeWhile p=us|[],y,r,_,a=>by show(y::r).takeWhile p=[];rw[Fo,a];rfl|x::us,y,r,h,a=>by show(x::(us++y::r)).takeWhile p=x::us;rw[Fo,h x Aa];show x::(us++y::r).takeWhile p=_;rw[fh (λz c=>h z (Ac _ c)) a]
def fj(g:Tz b)(rest:ώ):Ni (NT b++rest)=some (b,(NT b).length)/\PV (NT b++rest)=true:=by cases b with|ms n =>have h:HU (AO n) 1 2000=some n:=TF (by have:=g.1;lia) g.2 g.1 g.2;refine⟨?_,?_⟩;show(HU (AO n) 1 2000).map _=_;rw[h];rfl;show(decide (("measure":ϥ)=("measure":ϥ))||_||_)=true;rw[Ab U];rfl|gp a b c =>revert g;refine FY λG C H E=>?_;have r:HU (AO a) 0 99=some a:=TF (by lia) (by lia) (by lia) (by lia);have o:HU (AO b) a 99=some b:=TF (by lia) (by lia) (by lia) (by lia);have y:HU (AO c) b 99=some c:=TF (by lia) (by lia) (by lia) (by lia);have m1:¬(("gaps":ϥ)=("measure":ϥ)):=(by room);refine⟨?_,?_⟩;unfold Ni;show(if ("gaps":ϥ)=("measure":ϥ)then _ else if ("gaps":ϥ)=("gaps":ϥ)then Rg _ else _)=_;rw[Av m1,B1 U];unfold Rg;show(match HU (AO a) 0 99 with|none=>none|some k=>match HU (AO b) k 99 with|none=>none|some d=>(HU (AO c) d 99).map λi=>(Mm.gp k d i,4))=_;rw[r];show(match HU (AO b) a 99 with|none=>none|some d=>(HU (AO c) d 99).map λi=>(Mm.gp a d i,4))=_;rw[o];show(HU (AO c) b 99).map _=_;rw[y];rfl;show(_||decide (("gaps":ϥ)=("gaps":ϥ))||_)=true;rw[Ab (U:("gaps":ϥ)=("gaps":ϥ)),Fg];rfl|st e =>have m1:¬(("set":ϥ)=("measure":ϥ)):=(by room);have m2:¬(("set":ϥ)=("gaps":ϥ)):=(by room);have j:NT (.st e)++rest=("set":ϥ)::(e++("end":ϥ)::rest):=(by show(("set":ϥ)::e++[("end":ϥ)])++rest=_;rw[Ga,Ga,B4];rfl);have s:ER (NT (.st e)++rest)=e:=(by unfold ER;rw[j];exact fh (λx B=>rH (g.2.2 x B)) rJ);have v:hd (NT (.st e)++rest) (e.length+1)="end":=(by rw[j];show((e++("end":ϥ)::rest)[e.length]?).getD ""=_;rw[Cb (A9 _),En];rfl);refine⟨?_,?_⟩;unfold Ni;have p:hd (NT (.st e)++rest) 0="set":=U;rw[p,Av m1,Av m2,B1 U];unfold S3;rw[s,Av (λz=>by have:=g.1;rw[z]at this;exact absurd this (by lk)),v,B1 U];show _=some (_,(("set":ϥ)::e++[("end":ϥ)]).length);rw[Ag];rfl;show(_||_||decide (("set":ϥ)=("set":ϥ)))=true;rw[Ab (U:("set":ϥ)=("set":ϥ)),Fg]
def fm(h:IF x=true):x≠"measure"/\x≠"gaps"/\x≠"set"/\x≠")":=by refine⟨?_,?_,?_,?_⟩<;>intro z<;>rw[z]at h<;>revert h<;>decide +kernel
theorem rK:∀(d:Nat) (j:DS d) (rest:ώ),LM d j->Nj (JC d j++rest)=false
 |0,b,rest,g=>by cases b<;>(show(decide (_::_=[])||decide (Str.ofString _=(")":ϥ)))=false;rw[Aj (λz=>nomatch z)];decide +kernel)|_+1,.inl b,rest,g=>by cases b<;>(show(decide (_::_=[])||decide (Str.ofString _=(")":ϥ)))=false;rw[Aj (λz=>nomatch z)];decide +kernel)
 |d+1,.inr (n,js),rest,g=>by have h:=Vi (n:=(n:Int)) (by lia) (by have:=g.2.1;lia);show(decide (_::_=[])||decide (AO (n:Int)=(")":ϥ)))=false;rw[Aj (λz=>nomatch z),Aj (fm h).2.2.2];rfl
mutual
theorem rL:∀(d:Nat) (j:DS d) (rest:ώ),LM d j->Mu d (JC d j++rest)=some (j,(JC d j).length)
 |0,b,rest,g=>(fj (b:=b) g rest).1|_+1,.inl b,rest,g=>by obtain⟨y,p⟩:=fj (b:=b) g rest;unfold Mu;show(if PV (NT b++rest)=true then _ else _)=_;rw[B1 p];show(Ni (NT b++rest)).map _=_;rw[y];rfl
 |d+1,.inr (n,js),rest,g=>by
  obtain⟨J,H,G,I,C⟩:=g;have B:=Vi (n:=(n:Int)) (by lia) (by lia);have a:=fm B;have k:JC (d+1) (.inr (n,js))++rest=AO (n:Int)::("times":ϥ)::("(":ϥ)::(EJ d js++(")":ϥ)::rest):=(by show([AO (n:Int),("times":ϥ),("(":ϥ)]++js.flatMap (JC d)++[(")":ϥ)])++rest=_;rw[B4,B4];rfl);have hB:¬PV (JC (d+1) (.inr (n,js))++rest)=true:=(by rw[k];show ¬((decide (AO (n:Int)=("measure":ϥ))||decide (AO (n:Int)=("gaps":ϥ))||decide (AO (n:Int)=("set":ϥ)))=true);rw[Aj a.1,Aj a.2.1,Aj a.2.2.1];decide);have z:(JC (d+1) (.inr (n,js))).length=4+(EJ d js).length:=by show([AO (n:Int),("times":ϥ),("(":ϥ)]++js.flatMap (JC d)++[(")":ϥ)]).length=_;rw[Ag,Ag];show 3+(EJ d js).length+1=_;lia
  have c:=XT d js ((")":ϥ)::rest) C (by
   show(_||decide ((")":ϥ)=(")":ϥ)))=true;rw[Ab (U:(")":ϥ)=(")":ϥ)),Fg])
  unfold Mu;rw[Av hB];unfold Rh;have s:HU (AO (n:Int)) 1 9=some (n:Int):=TF (by lia) (by lia) (by lia) (by lia);have e:hd (AO (n:Int)::("times":ϥ)::("(":ϥ)::(EJ d js++(")":ϥ)::rest)) (3+(EJ d js).length)=")":=(by rw[Nat.add_comm];show((EJ d js++(")":ϥ)::rest)[(EJ d js).length]?).getD ""=_;rw[Cb (A9 _),En];rfl);rw[k];have o:hd (AO (n:Int)::("times":ϥ)::("(":ϥ)::(EJ d js++(")":ϥ)::rest)) 0=AO (n:Int):=U;have v:hd (AO (n:Int)::("times":ϥ)::("(":ϥ)::(EJ d js++(")":ϥ)::rest)) 1=("times":ϥ):=U;have E:hd (AO (n:Int)::("times":ϥ)::("(":ϥ)::(EJ d js++(")":ϥ)::rest)) 2=("(":ϥ):=U;have i:(λr=>Og (Mu d) (r.length+1) r) ((AO (n:Int)::("times":ϥ)::("(":ϥ)::(EJ d js++(")":ϥ)::rest)).drop 3)=some (js,(EJ d js).length):=c;rw[o,s];dsimp only;rw[B1 ⟨v,E⟩];have i:Og (Mu d) (((AO (n:Int)::("times":ϥ)::("(":ϥ)::(EJ d js++(")":ϥ)::rest)).drop 3).length+1) ((AO (n:Int)::("times":ϥ)::("(":ϥ)::(EJ d js++(")":ϥ)::rest)).drop 3)=some (js,(EJ d js).length):=c;rw[i];dsimp only;rw[Av G,B1 e,z];rfl
theorem XT:∀(d:Nat) (js:ϩ (DS d)) (rest:ώ),(∀j∈js,LM d j)->Nj rest=true->HJ d (EJ d js++rest)=some (js,(EJ d js).length)|d,[],rest,_,c=>by rw[XS];show(if Nj rest=true then _ else _)=_;rw[B1 c];rfl|d,j::js,rest,g,c=>by have e:EJ d (j::js)++rest=JC d j++(EJ d js++rest):=(by show(j::js).flatMap (JC d)++rest=_;rw[J2,B4]);have k:=rL d j (EJ d js++rest) (g j Aa);have i:=XT d js rest (λx o=>g x (Ac _ o)) c;have a:=rK d j (EJ d js++rest) (g j Aa);rw[XS,e,a,k];show(HJ d ((JC d j++(EJ d js++rest)).drop (JC d j).length)).map _=_;rw[List.drop_left,i];show some (j::js,(JC d j).length+(EJ d js).length)=some (j::js,((j::js).flatMap (JC d)).length);rw[J2,Ag]
end
def XU(g:∀j∈js,LM 4 j):S5 (EJ 4 js)=some js:=by have h:=XT 4 js [] g U;rw[Aq]at h;unfold S5;rw[h];show(if (EJ 4 js).length<(EJ 4 js).length then none else some js)=_;rw[Av (Cy _)]
end Cp
namespace Cp
open PySem L2 Jb Lns
def NU(x:ϥ):AE [x]=x:=by rw[Tf];rfl
def LB(y:ϥ)(h:ys≠[]):AE (y::ys)=y++" "++AE ys:=by cases ys with|nil=>exact absurd U h|cons z a =>unfold AE Txt.join;rw[C6,C6];rfl
def XW(a b c:ϥ):a++b++c=a++(b++c):=by apply QW;rw[IC,IC,IC,IC,B4]
theorem Ri:∀{a b:ώ},a≠[]->b≠[]->AE (a++b)=AE a++" "++AE b
 |[],b,h,_=>absurd U h|[x],b,_,c=>by show AE (x::b)=_;rw[LB x c,NU]
 |x::y::a,b,_,c=>by show AE (x::((y::a)++b))=_;rw[LB x (by exact λz=>nomatch z),Ri (a:=y::a) (λz=>nomatch z) c,LB x (ys:=y::a) (λz=>nomatch z)];simp only[Str.append_assoc]
theorem fq:∀{xss:ϩ ώ},(∀xs∈xss,xs≠[])->AE (xss.map AE)=AE xss.flatten
 |[],_=>rfl|[x],h=>by show AE [AE x]=AE (x++[]);rw[NU,Aq]
 |x::y::r,h=>by have d:=h x Aa;have c:=h y (Ac _ Aa);have a:=fq (xss:=y::r) λz e=>h z (Ac _ e);show AE (AE x::(y::r).map AE)=AE (x++(y::r).flatten);rw[LB _ (by exact λz=>nomatch z),a,Ri d];intro z;rw[Dc]at z;exact c (Cg.mp z).1
structure TW(x:ϥ):Prop where
 l1:1<=x.cps.toList.length
 l2:x.cps.toList.length<=12
 as:∀c∈x.cps.toList,c<128/\c≠32
def PX(h:(decide (1<=x.cps.toList.length)&&decide (x.cps.toList.length<=12)&&x.cps.toList.all λc=>decide (c<128)&&decide (c≠32))=true):TW x:=by simp only[Ar,D3,Bw]at h;exact⟨h.1.1,h.1.2,h.2⟩
def S6(e:0<=n)(d:n<=2000):TW (AO n):=by have h:=Vi e d;have a:=TB h;refine⟨a.1,by lia,λc i=>?_⟩;unfold IF at h;simp only[Ar]at h;have:=Bw.mp h.2 c i;unfold PU at this;simp only[Ar,D3]at this;lia
def rM:∀c∈Cs.BQ,c<128/\c≠32:=by room
def rN(h:JB x):TW x:=⟨h.l1,h.l2,λc a=>rM c (h.sn c a)⟩
def fu(g:Tz b):∀x∈NT b,TW x:=λx d=>by
 cases b with
 | ms n =>
   have j:=g.1;have i:=g.2;rcases Al.mp d with e|d
   .rw[e];exact PX (by room)
   .rw[Ah.mp d];exact S6 (by lia) i
 | gp a b c =>
   obtain⟨j,i,p,k⟩:=g;rcases Al.mp d with e|d
   .rw[e];exact PX (by room)
   rcases Al.mp d with e|d
   .rw[e];exact S6 (by lia) (by lia)
   rcases Al.mp d with e|d
   .rw[e];exact S6 (by lia) (by lia)
   .rw[Ah.mp d];exact S6 (by lia) (by lia)
 | st o =>
   rcases Be.mp d with d|d
   .rcases Al.mp d with e|d
    .rw[e];exact PX (by room)
    .exact rN (g.2.2 x d)
   .rw[Ah.mp d];exact PX (by room)
theorem fv:∀(d:Nat) (j:DS d),LM d j->∀x∈JC d j,TW x
 |0,b,g,x,a=>fu (b:=b) g x a|_+1,.inl b,g,x,a=>fu (b:=b) g x a
 |d+1,.inr (n,js),g,x,a=>by have a:x∈[AO (n:Int),("times":ϥ),("(":ϥ)]++js.flatMap (JC d)++[(")":ϥ)]:=a;revert g;refine HP λp o r k c=>?_;rcases Be.mp a with a|a;rcases Be.mp a with a|a;rcases Al.mp a with e|a;rw[e];exact S6 (by lia) (by lia);rcases Al.mp a with e|a;rw[e];exact PX (by room);rw[Ah.mp a];exact PX (by room);refine AS (λj i a=>?_) (List.mem_flatMap.mp a);exact fv d j (c j i) x a;rw[Ah.mp a];exact PX (by room)
def Vj{d:Nat}{js:ϩ (DS d)}(g:∀j∈js,LM d j):∀x∈EJ d js,TW x:=λx a=>by
 obtain⟨j,c,a⟩:=List.mem_flatMap.mp a;exact fv d j (g j c) x a
theorem fx:∀(d:Nat) (j:DS d),JC d j≠[]
 |0,b=>by cases b<;>exact λz=>nomatch z|_+1,.inl b=>by cases b<;>exact λz=>nomatch z
 |_+1,.inr (n,js)=>λz=>nomatch z
def fy(h:EJ d js=[]):js=[]:=by cases js with|nil=>rfl|cons j js =>have h:(j::js).flatMap (JC d)=[]:=h;rw[J2]at h;exact absurd (Cg.mp h).1 (fx d j)
def IM(d:Nat)(js:ϩ (DS d)):ϥ:=AE (EJ d js)
theorem Re:∀{ws:ώ},(∀x∈ws,TW x)->(AE ws).cps.toList.length<=13*ws.length
 |[],_=>by show(AE []).cps.toList.length<=0;decide +kernel|[x],h=>by rw[NU];have:=(h x Aa).l2;show _<=13*1;lia
 |x::y::r,h=>by have e:=(h x Aa).l2;have c:=Re (ws:=y::r) λz a=>h z (Ac _ a);rw[LB x (ys:=y::r) (λz=>nomatch z),IC,IC,Ag,Ag];have d:(" ":ϥ).cps.toList.length=1:=(by room);rw[Bb];lia
def XX(a:ws≠[])(h:∀x∈ws,TW x):Txt.split (AE ws) " "=ws:=by rw[Tf];exact Xe 32 a λp c z=>((h p c).as 32 z).2 U
def rO(d:ws≠[])(h:∀x∈ws,TW x):AE ws≠"":=λz=>by
 have a:(AE ws).cps.toList=[]:=by rw[z];decide +kernel
 cases ws with
 | nil=>exact d U
 | cons x r =>
   have c:=(h x Aa).l1;cases r with
   | nil=>rw[NU]at a;rw[a]at c;exact absurd c (by lk)
   | cons y r =>
     rw[LB x (ys:=y::r) (λz=>nomatch z),IC,IC]at a
     have:=(Cg.mp (Cg.mp a).1).1;rw[this]at c
     exact absurd c (by lk)
end Cp
namespace L2
open PySem PySem.Spec PyProof.Rows
section
variable {X:Cx}
def rP(a:TE):TE:=λd H Q=>a d H λv c=>∃y:ϥ,v=.str y/\(reprText y).length<=2000/\∀x:ϥ,x.length<=2000->Q (.str x) c
def fz(B:PE X a k):PE X (.FormattedValue a 114 none r) (rP k):=by intro c s p H Q I h;refine wpAny_FormattedValue_repr (BH (B c s p H _ I h) λv E d=>?_);obtain⟨y,i,e,o,z,C,j,q⟩:=d;subst C;obtain⟨t,rfl⟩:=o;exact wpAny_pyReprObj_str (wpAny_formatField_str ⟨.str _,i,e.tok _,⟨_,U⟩,q _ j⟩ ⟨.str _,i,(e.tok _).tok _,⟨_,U⟩,q _ j⟩ (DG (by lia))) (DG (by lia))
end
section
variable {X:Cx}
def TH{v}{t}(h:PE X v t){d}{s}{σ}{H}{c}{n}{rest}{k}{R:Hp->Prop}(I:AG X d σ H s)
 (q:t σ H λa e=>∃x:ϥ,a=.str x/\x.length<=2000/\R e) (G:c.length<=n) (E:(n+2000).ble 100000=true)
 (C:∀(x) (i) (e),AG X d σ e i->R e->(c++x).length<=n+2000->Joins (model X.prog X.w) X.A X.xe rest (c++x) k i):Joins (model X.prog X.w) X.A X.xe (eval v X.env::rest) c k s:=by
 refine BH (h d s σ H _ I q) λa i z=>?_;obtain⟨y,e,p,o,x,rfl,l,r⟩:=z;obtain⟨B,rfl⟩:=o;have j:(c++x).length<=n+2000:=by rw[Ba];exact Nat.add_le_add G l
 exact BY x B U (Aw j (DG (C5 E))) (C x i e p r j)
def fA(I:AG X c σ H s)(q:∀x,Q (.str x) H)(e:d.length<=n)(i:n.ble 100000=true) :
 Joins (model X.prog X.w) X.A X.xe (evalEach [] X.env) d (λout a=>out.length<=sizeLine/\EP X c σ Q (.str out a.toks) { a with toks:=a.toks+1 }) s :=
 ⟨Aw e (DG (C5 i)),.str _,H,I.tok _,⟨_,U⟩,q _⟩
def rQ(p:PE X v d)(k:PE X r c):PE X (.JoinedStr [v,r] a) (pD d c):=λ_ _ _ _ _ I h =>K4 (TH p I h (A9 0) U λ_ _ _ s o e=>TH k s o e U λ_ _ _ i y j=>fA i y j U)
def fB(o:PE X p y)(d:PE X z a)(B:PE X e c):PE X (.JoinedStr [p,z,e] C) (pE y a c):=λ_ _ _ _ _ I h =>K4 (TH o I h (A9 0) U λ_ _ _ i k E=>TH d i k E U λ_ _ _ s H G=>TH B s H G U λ_ _ _ j r v=>fA j r v U)
end
end L2
namespace Mc
open PySem L2
theorem fC:∀(c xs:ϔ),c.Nodup->(c.map λk=>xs.count k).sum<=xs.length|[],_,_=>B8 _|k::c,xs,h=>by obtain⟨v,r⟩:=C2.mp h;have i:=fC c (xs.filter λy=>!(y==k)) r;have e:(c.map λj=>(xs.filter λy=>!(y==k)).count j)=c.map λj=>xs.count j:=Fm λj o=>(by refine List.count_filter ?_;have:j≠k:=λe=>v (e ▸ o);simp[this]);rw[e]at i;have z:xs.count k+(xs.filter λy=>!(y==k)).length=xs.length:=(by have d:=List.length_eq_countP_add_countP (λy=>y==k) (l:=xs);rw[List.countP_eq_length_filter (p:=λa=>decide ¬(a==k)=true)]at d;have s:(xs.filter λa=>decide ¬(a==k)=true)=xs.filter λy=>!(y==k):=List.filter_congr λy _=>(by cases y==k<;>rfl);rw[s]at d;exact d.symm);rw[Bp,Du];lia
def rR(sg:∀r∈rs,∃c∈Cs.BQ,r.s=L2.sg c)(pl:∀(j:Nat) r,rs[j]?=some r->Cs.CV rs r.s=some j)(x:ϥ):((JX (CD rs x)).map List.length).sum<=x.length:=by have e:(JX (CD rs x)).map List.length=(rs.map λr=>r.s.cps.toList.headD 0).map λk=>(cps x).count k:=(by unfold JX CD;rw[D7,D7,D7];refine Fm λr _=>?_;show(List.replicate ((JY x r.s:Int)).toNat (r.s,r.t)).length=_;rw[By];rfl);have C:(rs.map λr=>r.s.cps.toList.headD 0).Nodup:=Fl.mpr λi j d o B e=>(by rw[A3]at d o;rw[Ei,Ei]at e;have p:=pl i _ (A6 d);have z:=pl j _ (A6 o);refine AS (λa _ y=>?_) (sg _ (Dn d));refine AS (λb _ v=>?_) (sg _ (Dn o));rw[y,v]at e;have e:a=b:=e;rw[y,e,<-v,z]at p;have:=B0 p;lia);rw[e];have h:=fC _ (cps x) C;have E:(cps x).length=x.length:=Au;lia
def rS(O:OE c)(d:∀r∈c.rs,OD c (r.s,r.t))(j:((JX c.rs).map List.length).sum<=2000):Ok c (start c.rs):=by refine⟨O,?_,λl e x a=>?_,(λx a=>nomatch a),(λx a=>nomatch a),(λx a=>nomatch a),B8 _,λ_=>U,?_,A9 _,(λx a=>nomatch a),λz=>absurd U z⟩;show(JX c.rs).length=c.rs.length;unfold JX;rw[A3];obtain⟨r,i,rfl⟩:=Bq.mp e;rw[D0 a];exact d r i;show((JX c.rs).map List.length).sum+0+0+0<=2000+0;lia
theorem fE:∀{ls:ϩ ώ},(∀l∈ls,l≠[]/\∀x∈l,Wd rs 5 x)->(Lns.BW ls).length<=7*(ls.map List.length).sum|[],_=>Aw (El (show("":ϥ).length=0 by lk)) (B8 _)|l::r,h=>by obtain⟨j,i⟩:=h l Aa;have a:=Re (A9 l.length) i;have b:=fE λl d=>h l (Ac _ d);have c:0<l.length:=Cw.mpr j;show(Lns.AE l++"/"++Lns.BW r).length<=_;rw[Ba,Ba,Bp,Du];have e:("/":ϥ).length=1:=(by lk);lia
end Mc
namespace L2
open PySem PySem.Spec PyProof.Rows
section
variable {X:Cx}(K:ϡ) (hK:X.K=K)
include hK
end
open PySem.W
def Oh(K:ϡ)(x:ϥ):Ϡ:=match nsIn K mainGlobals x with
 | some (some (.ref f))=>f
 | _=>0
def NV(K:ϡ)(C:Ϡ)(x:ϥ):Ϡ:=match findIn K (.ref C) x with
 | some (some (.ref f))=>f
 | _=>0
noncomputable def HK (K:ϡ) (f:Ϡ) (x q:ϥ) (s:ϧ) (dV:Ϟ):FuncData:=match K.lookup f with
 | some ⟨_,_,.func d,_⟩=>fnOf x q (BU s) (JQ s) (AN s) dV d.kwdefaults d.doc d.pyModule d.annotations d.code d.closureTuple
 | _=>fnOf x q (BU s) (JQ s) (AN s) dV .none .none .none none .none .none
def PY(K:ϡ)(f:Ϡ)(d:FuncData):Ϩ Obj:=(K.lookup f).map λo=>⟨o.cls,o.dict,.func d,o.slots⟩
abbrev TR:=ϥ×ϧ×ώ
noncomputable def fF (K:ϡ) (r:TR):Bool:=(nsIn K mainGlobals r.1==some (some (.ref (Oh K r.1))))&&codeIn K (HK K (Oh K r.1) r.1 r.1 r.2.1 .none).code r.1&&keepIn K (.ref (Oh K r.1))
def fG(K:ϡ)(t:ϩ TR):Prop:=(t.map λr=>K.lookup (Oh K r.1))=t.map λr=>PY K (Oh K r.1) (HK K (Oh K r.1) r.1 r.1 r.2.1 .none)
def BA(x q:ϥ)(s:ϧ)(ps:ώ):Prop:=∀(kV doc pm:Ϟ) (d:ϒ) (a ct:Ϟ) (c:Ϗ),c.length=ps.length->bindArgs (fnOf x q (BU s) (JQ s) (AN s) .none kV doc pm d a ct) ⟨c,[]⟩=pure (ps.zip c)
def Vk:ϩ TR->Prop|[]=>True|r::t=>BA r.1 r.1 r.2.1 r.2.2/\Vk t
theorem fH:∀{t} {i:Nat}{x} {s} {ps},Vk t->t[i]?=some (x,s,ps)->BA x x s ps|_::_,0,_,_,_,h,e=>by cases e;exact h.1|_::_,i+1,_,_,_,h,e=>fH (i:=i) h.2 e
def S7{K}{f}{x q}{s}{dV}:∃kV doc pm c a ct,HK K f x q s dV=fnOf x q (BU s) (JQ s) (AN s) dV kV doc pm c a ct:=by unfold HK;split<;>exact⟨_,_,_,_,_,_,U⟩
def XY{K}{f}(h:keepIn K (.ref f)=true):∃o,K.lookup f=some o:=by unfold keepIn at h;grind
def Rj{K}{f}{x q}{s}(e:K.lookup f=PY K f (HK K f x q s .none))(c:codeIn K (HK K f x q s .none).code q=true)(k:keepIn K (.ref f)=true):Po K x q s f (HK K f x q s .none):=by obtain⟨o,d⟩:=XY k;obtain⟨kV,doc,pm,i,a,ct,hd⟩:=S7 (K:=K) (f:=f) (x:=x) (q:=q) (s:=s) (dV:=.none);unfold PY at e;rw[d]at e;rw[hd]at e c⊢;exact⟨⟨_,_,kV,doc,pm,i,a,ct,_,U,d.trans e,c⟩,k⟩
theorem XZ{a c:Type}{f g:a->c}:∀{l:ϩ a}{i:Nat}{x},l.map f=l.map g->l[i]?=some x->f x=g x|_::_,0,_,h,e=>by cases e;exact(Cz h).1|_::_,i+1,_,h,e=>XZ (i:=i) (Cz h).2 e
def Vl{a:Type}{f}{l:ϩ a}{i:Nat}{x}(h:l.all f=true)(e:l[i]?=some x):f x=true:=Bw.mp h x (Af e)
section
variable {K:ϡ}{h:Ϥ}{mg:ϋ}
def Vm(K:ϡ)(t:ϩ TR)(i:Nat):Ϡ:=match t[i]? with
 | some r=>Oh K r.1
 | none=>0
noncomputable def Vn (K:ϡ) (t:ϩ TR) (i:Nat):FuncData:=match t[i]? with
 | some r=>HK K (Oh K r.1) r.1 r.1 r.2.1 .none
 | none=>HK K 0 "" "" (.Pass ⟨0,0,0,0⟩) .none
def rT{t}(X:K.In h)(G:h.Ns mainGlobals mg)(c:t.all (fF K)=true)(e:fG K t)(b:Vk t)(i)(x)(s)(ps)(a:t[i]?=some (x,s,ps)) :
 D K mg x s ps (Vm K t i) (Vn K t i):=by
 have hA:Vm K t i=Oh K x:=by unfold Vm;rw[a]
 have hD:Vn K t i=HK K (Oh K x) x x s .none:=by unfold Vn;rw[a]
 rw[hA,hD];have c:=Vl c a;unfold fF at c;rw[Ar,Ar]at c
 obtain⟨⟨j,k⟩,o⟩:=c;obtain⟨kV,doc,pm,p,d,ct,hd⟩:=S7 (K:=K) (f:=Oh K x) (x:=x) (q:=x) (s:=s) (dV:=.none);refine⟨Rj (XZ e a) k o,?_,mg_of X G (C3.mp j)⟩;rw[hd];exact(fH b a) kV doc pm p d ct
abbrev MR:=ϥ×ϥ×ϧ×ώ
noncomputable def fI (K:ϡ) (C:Ϡ) (r:MR):Bool:=(findIn K (.ref C) r.1==some (some (.ref (NV K C r.1))))&&codeIn K (HK K (NV K C r.1) r.1 r.2.1 r.2.2.1 .none).code r.2.1&&keepIn K (.ref (NV K C r.1))&&isFn K (.ref (NV K C r.1))
def Y0(K:ϡ)(C:Ϡ)(t:ϩ MR):Prop:=(t.map λr=>K.lookup (NV K C r.1))=t.map λr=>PY K (NV K C r.1) (HK K (NV K C r.1) r.1 r.2.1 r.2.2.1 .none)
def TJ:ϩ MR->Prop|[]=>True|r::t=>BA r.1 r.2.1 r.2.2.1 r.2.2.2/\TJ t
theorem fJ:∀{t} {i:Nat}{x q} {s} {ps},TJ t->t[i]?=some (x,q,s,ps)->BA x q s ps|_::_,0,_,_,_,_,h,e=>by cases e;exact h.1|_::_,i+1,_,_,_,_,h,e=>fJ (i:=i) h.2 e
def TK(K:ϡ)(C:Ϡ)(t:ϩ MR)(i:Nat):Ϡ:=match t[i]? with
 | some r=>NV K C r.1
 | none=>0
noncomputable def TN (K:ϡ) (C:Ϡ) (t:ϩ MR) (i:Nat):FuncData:=match t[i]? with
 | some r=>HK K (NV K C r.1) r.1 r.2.1 r.2.2.1 .none
 | none=>HK K 0 "" "" (.Pass ⟨0,0,0,0⟩) .none
def fK{C}{t}(c:t.all (fI K C)=true)(e:Y0 K C t)(b:TJ t)(i)(x q)(s)(ps)(a:t[i]?=some (x,q,s,ps)) :
 DM K x q s ps C (TK K C t i) (TN K C t i):=by
 have hA:TK K C t i=NV K C x:=by unfold TK;rw[a]
 have hD:TN K C t i=HK K (NV K C x) x q s .none:=by unfold TN;rw[a]
 rw[hA,hD];have c:=Vl c a;unfold fI at c;rw[Ar,Ar,Ar]at c
 obtain⟨⟨⟨k,o⟩,j⟩,r⟩:=c;obtain⟨kV,doc,pm,p,d,ct,hd⟩:=S7 (K:=K) (f:=NV K C x) (x:=x) (q:=q) (s:=s) (dV:=.none);refine⟨Rj (XZ e a) o j,?_,C3.mp k,r,j⟩;rw[hd];exact(fJ b a) kV doc pm p d ct
def fL(K:ϡ)(C:Ϡ)(x:ϥ):Bool:=findIn K (.ref C) x==some none
def fN{C}{t:ώ}(c:t.all (fL K C)=true)(i:Nat)(x)(a:t[i]?=some x):Pg K C x:=by have e:=Vl c a;unfold fL at e;exact C3.mp e
def fO(K:ϡ)(x:ϥ):Bool:=nsIn K mainGlobals x==some none
def rV{t:ώ}(X:K.In h)(G:h.Ns mainGlobals mg)(c:t.all (fO K)=true)(i:Nat)(x)(a:t[i]?=some x):mg x=none:=by have e:=Vl c a;unfold fO at e;exact mg_none_of X G (C3.mp e)
noncomputable def fP (K:ϡ) (C f:Ϡ) (x q fld:ϥ) (s:ϧ):Bool:=(nsIn K mainGlobals x==some (some (.ref C)))&&Ly K C (some f)&&PJ K C&&QZ K C f fld&&codeIn K (HK K f "__init__" q s .none).code q&&keepIn K (.ref f)
def rW{C f}{x q fld}{s}{ps}(X:K.In h)(G:h.Ns mainGlobals mg)(c:fP K C f x q fld s=true)(e:K.lookup f=PY K f (HK K f "__init__" q s .none))(b:BA "__init__" q s ps) :
 CI K mg x q s ps C f (HK K f "__init__" q s .none) fld:=by
 unfold fP at c;rw[Ar,Ar,Ar,Ar,Ar]at c
 obtain⟨⟨⟨⟨⟨d,i⟩,j⟩,r⟩,k⟩,p⟩:=c;obtain⟨kV,doc,pm,o,a,ct,hd⟩:=S7 (K:=K) (f:=f) (x:="__init__") (q:=q) (s:=s) (dV:=.none);have W:=pP r;refine⟨mg_of X G (C3.mp d),i,dS j,W.1,W.2,Rj e k p,?_⟩;rw[hd];exact b kV doc pm o a ct
def fQ(K:ϡ)(C:Ϡ)(x:ϥ):Bool:=(nsIn K mainGlobals x==some (some (.ref C)))&&Ly K C none&&PJ K C
def fR(X:K.In h)(G:h.Ns mainGlobals mg)(c:fQ K C x=true):CN K mg x C:=by unfold fQ at c;rw[Ar,Ar]at c;exact⟨mg_of X G (C3.mp c.1.1),c.1.2,dS c.2⟩
def fS(K:ϡ)(C:Ϡ)(x:ϥ):Bool:=(nsIn K mainGlobals x==some (some (.ref C)))&&isClsIn K C&&typeIn K (.ref C)==some (.type "type")
def rX(X:K.In h)(G:h.Ns mainGlobals mg)(c:fS K C x=true):CL K mg x C:=by unfold fS at c;rw[Ar,Ar]at c;exact⟨mg_of X G (C3.mp c.1.1),c.1.2,C3.mp c.2⟩
def ba1(h:∀kV doc pm d c ct a,bindArgs (fnOf x q (BU s) (JQ s) (AN s) .none kV doc pm d c ct) ⟨[a],[]⟩=pure [(e,a)]):BA x q s [e]:=λ_ _ _ _ _ _=>eC (h _ _ _ _ _ _)
def ba2(h:∀kV doc pm d c ct a b,bindArgs (fnOf x q (BU s) (JQ s) (AN s) .none kV doc pm d c ct) ⟨[a,b],[]⟩=pure [(e,a),(i,b)]):BA x q s [e,i]:=λ_ _ _ _ _ _=>us2 (h _ _ _ _ _ _)
def ba3{p3:ϥ}(h:∀kV doc pm e d ct a b c,bindArgs (fnOf x q (BU s) (JQ s) (AN s) .none kV doc pm e d ct) ⟨[a,b,c],[]⟩=pure [(i,a),(j,b),(p3,c)]):BA x q s [i,j,p3]:=λ_ _ _ _ _ _=>eD (h _ _ _ _ _ _)
def ba4{p3 p4:ϥ}(h:∀kV doc pm i e ct a b c d,bindArgs (fnOf x q (BU s) (JQ s) (AN s) .none kV doc pm i e ct) ⟨[a,b,c,d],[]⟩=pure [(j,a),(k,b),(p3,c),(p4,d)]):BA x q s [j,k,p3,p4]:=λ_ _ _ _ _ _=>Xp (h _ _ _ _ _ _)
def ba5{p3 p4 p5:ϥ}(h:∀kV doc pm o i ct a b c d e,bindArgs (fnOf x q (BU s) (JQ s) (AN s) .none kV doc pm o i ct) ⟨[a,b,c,d,e],[]⟩=pure [(k,a),(j,b),(p3,c),(p4,d),(p5,e)]):BA x q s [k,j,p3,p4,p5]:=λ_ _ _ _ _ _=>eE (h _ _ _ _ _ _)
end
noncomputable def fT (K:ϡ) (C f T:Ϡ) (x q:ϥ) (s:ϧ):Bool:=(nsIn K mainGlobals x==some (some (.ref C)))&&plainGet K C Str.empty&&hasDictIn K C&&plainOver K C&&(findIn K (.ref C) "__setattr__"==some (some (.builtin "object.__setattr__"))) &&
 makesIn K C&&(findIn K (.ref C) "__init__"==some (some (.ref f)))&&isFn K (.ref f)&&keepIn K (.ref C)&&codeIn K (HK K f "__init__" q s (.ref T)).code q&&keepIn K (.ref f)
def rY{K}{h}{mg}{C f T}{x q}{s}{ps}(X:K.In h)(G:h.Ns mainGlobals mg)(c:fT K C f T x q s=true)(e:K.lookup f=PY K f (HK K f "__init__" q s (.ref T)))
 (y:∀kV doc pm d a ct,MC K (fnOf "__init__" q (BU s) (JQ s) (AN s) (.ref T) kV doc pm d a ct) ps []) (p:∀kV doc pm d a ct,MC K (fnOf "__init__" q (BU s) (JQ s) (AN s) (.ref T) kV doc pm d a ct) ps [.none]):DI K mg x q s ps C f (HK K f "__init__" q s (.ref T)):=by
 unfold fT at c;simp only[Ar]at c;obtain⟨⟨⟨⟨⟨⟨⟨⟨⟨⟨B,E⟩,H⟩,L⟩,I⟩,J⟩,z⟩,r⟩,v⟩,j⟩,i⟩:=c;obtain⟨o,k⟩:=XY i;obtain⟨kV,doc,pm,d,a,ct,hd⟩:=S7 (K:=K) (f:=f) (x:="__init__") (q:=q) (s:=s) (dV:=.ref T);refine⟨mg_of X G (C3.mp B),⟨E,H,L,C3.mp I⟩,⟨J,C3.mp z,r,v⟩,?_,by rw[hd];exact y kV doc pm d a ct,by rw[hd];exact p kV doc pm d a ct⟩;unfold PY at e;rw[k]at e
 rw[hd]at e j⊢
 exact⟨⟨_,_,_,kV,doc,pm,d,a,ct,_,U,k.trans e,j⟩,i⟩
open PySem.Calls
structure DJ(K:ϡ)(mg:ϋ)(x qual:ϥ)(st:ϧ)(ps:ώ)(C f:Ϡ)(fd:FuncData):Prop where
 mg:mg x=some (.ref C)
 cl:NP K C
 mkr:Mk K C f
 fn:PM K "__init__" qual st f fd
 b0:MC K fd ps []
def rZ(C:Ϡ)(ns:ώ)(sp:Sp)(E:St->XK)(j:TE)(t:TA):TE:=λc H Q=>j c H λx d=>∃a vals,x=.ref a/\JA C ns d a vals/\t c d λi e=>sp (x::i) e Q (E c)
section
variable {X:Cx}{k j:Nat}{C f L:Ϡ}{fd:FuncData}{ps:ώ}{sp:Sp}{E:St->XK}{x qual:ϥ}{st:ϧ}{p pos:Pos}{e:Ϧ}{es:ϗ}{t:TA}
def fU(d:DJ X.K X.mg x qual st ps C f fd)(F:CF X.prog X.w X.K X.mg X.base IW j f fd ps sp)(i:CK k X.A)(o:Gl X x)(c:PA X (e::es) t)(hjk:j+1<=k:=by lk)(a:(x==("__debug__":ϥ))=false:=by lk)
 (he:starEach (e::es) X.env=(false,eval e X.env)::starEach es X.env:=by rfl) (hpl:(backTo pos (starEach es X.env)).any (·.1)=false:=by rfl) :
 PE X (.Call (.Name x p) (e::es) [] pos) (WD C sp [] E0 t) :=
 Zx d.mkr (F.mono (A9 j)) (i.mono hjk) o d.mg d.b0 .nil SY c a he hpl
end
section
variable {X:Cx}{K:ϡ}(hK:X.K=K) {ns:ώ}{C L:Ϡ}{o e:Ϧ}{es:ϗ}{pos apos:Pos}{ta:TE}{t:TA}{k j:Nat}{g:Ϡ}{fd:FuncData}{ps:ώ}{sp:Sp}{m qual:ϥ}{st:ϧ}{E:St->XK}
include hK
theorem fV (c:NP K C) (d:DM K m qual st ps C g fd) (F:CF X.prog X.w X.K X.mg X.base (Mr X.prog X.w) j g fd ps sp) (T:CK k X.A) (R:X.env.frame=some L) (hi:ns.idxOf? m=none) (he:PE (X.Ñ (IL X E)) o ta) (ha:PA (X.Ñ (IL X E)) (e::es) t) (hjk:j<=k:=by lk) (v:starEach (e::es) X.env=(false,eval e X.env)::starEach es X.env:=by rfl) (hpl:(backTo pos (starEach es X.env)).any (·.1)=false:=by rfl) (P:eval (.Call (.Attribute o m apos) (e::es) [] pos) X.env=(do
 let G <- eval o X.env
 standAt apos.atName
 let (f,first) <- holding [G] (getMethod G m pl)
 callWith pos f first (backTo pos (starEach (e::es) X.env)) (backToKw pos (keywordEach [] X.env))):=by rfl) :
 PE (X.Ñ (IL X E)) (.Call (.Attribute o m apos) (e::es) [] pos) (rZ C ns sp E ta t):=by
 subst hK;intro i s J H Q I h;refine Ey (pl:=pl) (BH (he i s J H _ I h) λu Y p=>?_) P;obtain⟨x,S,y,Z,a,vals,ex,⟨dx,fs,ea,FF⟩,q⟩:=p;subst ex;obtain rfl:u=Value.ref a:=Z;exact WA y ea c d.me (FF.no hi) (Do (first:=[.ref a]) (h₀:=X.base) I.ok.mod.kin d.me.kp (BH (ha pos i Y J S _ y q) λO s2 p=>by obtain⟨z,H2,B,r,q2⟩:=p;exact⟨B.ď,dI (us:=.ref a::O) (vs:=.ref a::z) R (F.mono hjk) T (.all d.ba) B (.cons U r) q2⟩) v hpl)
end
noncomputable def fW (K:ϡ) (C f:Ϡ) (x q:ϥ) (s:ϧ):Bool:=(nsIn K mainGlobals x==some (some (.ref C)))&&plainGet K C Str.empty&&hasDictIn K C&&plainOver K C&&(findIn K (.ref C) "__setattr__"==some (some (.builtin "object.__setattr__"))) &&
 makesIn K C&&(findIn K (.ref C) "__init__"==some (some (.ref f)))&&isFn K (.ref f)&&keepIn K (.ref C)&&codeIn K (HK K f "__init__" q s .none).code q&&keepIn K (.ref f)
def sd{K}{h}{mg}{C f}{x q}{s}{ps}(X:K.In h)(G:h.Ns mainGlobals mg)(c:fW K C f x q s=true)(e:K.lookup f=PY K f (HK K f "__init__" q s .none))(b:BA "__init__" q s ps) :
 DJ K mg x q s ps C f (HK K f "__init__" q s .none):=by
 unfold fW at c;simp only[Ar]at c;obtain⟨⟨⟨⟨⟨⟨⟨⟨⟨⟨y,z⟩,B⟩,I⟩,E⟩,H⟩,v⟩,p⟩,r⟩,i⟩,d⟩:=c;obtain⟨o,j⟩:=XY d;obtain⟨kV,doc,pm,k,a,ct,hd⟩:=S7 (K:=K) (f:=f) (x:="__init__") (q:=q) (s:=s) (dV:=.none);refine⟨mg_of X G (C3.mp y),⟨z,B,I,C3.mp E⟩,⟨H,C3.mp v,p,r⟩,?_,.all (by rw[hd];exact b kV doc pm k a ct)⟩;unfold PY at e;rw[j]at e
 rw[hd]at e i⊢
 exact⟨⟨_,_,_,kV,doc,pm,k,a,ct,_,U,j.trans e,i⟩,d⟩
def se:typeLookup (.type "zip") "__len__"=pure none:=by rw[typeLookup_type,builtinLookup_eq_fast];kernel_rfl
def sf:typeLookup (.type "zip") "__length_hint__"=pure none:=by rw[typeLookup_type,builtinLookup_eq_fast];kernel_rfl
def Vo(H:Hp)(t:V)(p:V×V):Prop:=∃r,t=.ref r/\H r=some (.tup [p.1,p.2])
def PZ(z TI TO c d a b:Ϡ)(i:Nat)(h:Ϥ):Prop:=R4 h z TI TO/\IsPair h TI (.ref c) (.ref d)/\(∃u v,IsPair h TO u v)/\h.IsListIter c a i/\h.IsListIter d b i
def PZ.keep{TI TO}(st:PZ z TI TO j d a b i h)(k:∀c∈[z,TO,j,d,TI],∀o,h.get? c=some o->h'.get? c=some o):PZ z TI TO j d a b i h':=by obtain⟨⟨r,s,B,C⟩,y,⟨u,v,E⟩,G,p⟩:=st;exact⟨⟨r,s,B,k z (by simp) _ C⟩,k TI (by simp) _ y,⟨u,v,k TO (by simp) _ E⟩,G.at λo e=>k j (by simp) o e,p.at λo e=>k d (by simp) o e⟩
def PZ.lt{z TI TO e d a b}{i}{h}(st:PZ z TI TO e d a b i h):∀c∈[z,TO,e,d,TI],c<h.objs.size:=by obtain⟨⟨k,o,s,B⟩,r,⟨u,v,C⟩,⟨y,E,_⟩,⟨p,j,_⟩⟩:=st;simp_all[Al,Bl,As]
section
variable {X:Cx}{a b z TI TO i1 i2 D:Ϡ}{xs ys:ϩ V}{A:Around}{R:ϛ}
def sh(hh:A.handled=none)(Dz:ZipApart z TI TO i1 i2 a b)(aF:xs.length=ys.length)(ae:D≠a)(aj:D≠b)(aD:xs.length<=1000) :
 ∀(k i) (d) (s) (σ) (H) (J),xs.length-i=k->i<=xs.length->AG X d σ H s->(∀c∈[z,TO,i1,i2,TI],EB X d H c)->PZ z TI TO i1 i2 a b i s.heap ->
 AC X.K H a xs->AC X.K H b ys->H D=some (.lst J)->Paired (Vo H) J ((xs.zip ys).take i) ->
 (∀H' s' C,AG X d σ H' s'->(∀c o,c≠D->H c=some o->H' c=some o)->H' D=some (.lst C)->Paired (Vo H') C (xs.zip ys)->R (.ok (.ret .none)) s') ->
 codeAny (model X.prog X.w) A (.builtin "list.extend.loop" ⟨[.ref D,.ref z,.none],[]⟩) R s:=by
 intro k;induction k with
 | zero =>
   intro i d s σ H J hk hi I hf st O L hD hp q;have e:i=xs.length:=by lia
   subst e;obtain⟨ax,rx,px,_⟩:=I.list O;obtain⟨aq,ry,py,_⟩:=I.list L;have W:=rx.length;obtain⟨hz,E,⟨u,v,aa⟩,Y,S⟩:=st;refine Gq F.entry_extend_loop ?_;rw[F7 Fp _];show wpAny _ A.in1 (pyNext (.ref z) >>= _) _ _ s;have hT:s.TypeIs (.ref z) "zip":=by obtain⟨_,_,_,e⟩:=hz;exact⟨_,e,U⟩
   refine A5 ?_;unfold pyNext;refine A5 (wpAny_attempt (G0 (name:=("__next__":ϥ)) hT Gu
    (Jk Gu hT F.entry_zip_next (qd hh Dz hz E aa Y S px.isList py.isList (.inl (by simp;lia)) λh' e hk he=>?_) (F.args_zip_next_1 _))))
   obtain⟨o,ho,j⟩:=he;refine A5 (wpAny_isInstance (T:="StopIteration") (b:=true) ⟨o,ho,j⟩ isSubtype_stop (Ak (Ak ?_)));rw[Ai (by rw[List.length_zip];lia)]at hp
   have Z:∀c∈[z,TO,i1,i2],EB X d H c:=λc j=>hf c (by
    simp only[Al,Bl,Dd]at j⊢;rcases j with e|e|e|e<;>simp[e])
   exact q H _ J (I.zM (t':=s.toks) (λc o j e=>hk c o (λz=>j (by simp[z])) (λz=>j (by simp[z])) (λz=>j (by simp[z])) (λz=>j (by simp[z])) e) Z) (λc o _ e=>e) hD hp
 | succ k ih =>
   intro i d s σ H J hk hi I hf st O L hD hp q;have W:i<xs.length:=by lia
   have av:i<ys.length:=by lia
   obtain⟨ax,rx,px,_⟩:=I.list O;obtain⟨aq,ry,py,_⟩:=I.list L;obtain⟨ux,as,ar⟩:=rx.get (A6 W);obtain⟨uy,ao,ap⟩:=ry.get (A6 av);have an:=st.lt;obtain⟨hz,E,⟨u,v,aa⟩,Y,S⟩:=st;refine Gq F.entry_extend_loop ?_;rw[F7 Fp _];show wpAny _ A.in1 (pyNext (.ref z) >>= _) _ _ s;have hT:s.TypeIs (.ref z) "zip":=by obtain⟨_,_,_,e⟩:=hz;exact⟨_,e,U⟩
   refine A5 ?_;unfold pyNext;refine A5 (wpAny_attempt (G0 (name:=("__next__":ϥ)) hT Gu
    (Jk Gu hT F.entry_zip_next (qc Dz hz E aa Y S px.isList py.isList (x:=ux) (y:=uy) (by simpa using as) (by simpa using ao) λh1 ay ac ag af aw aC ai=>Ak ?_) (F.args_zip_next_1 _))))
   have hn:=I.Ê.fresh (A9 _);have Z:∀c∈[z,TO,i1,i2],EB X d H c:=λc j=>hf c (by
    simp only[Al,Bl,Dd]at j⊢;rcases j with e|e|e|e<;>simp[e])
   have I2:AG X d σ (upd H s.heap.objs.size (.tup [xs[i],ys[i]])) { s with heap:=h1,toks:=s.toks } :=
    I.Ŝ (λc o j e=>ai c o (λz=>j (by simp[z])) (λz=>j (by simp[z])) (λz=>j (by simp[z])) (λz=>j (by simp[z])) e) Z (A9 _) ⟨C5 U,[ux,uy],.cons ar (.cons ap .nil),⟨_,aw,U,0,U⟩⟩
   have al:D≠s.heap.objs.size:=λe=>by rw[e,hn]at hD;cases hD
   have B:=BM hn (.tup [xs[i],ys[i]]);have G:=B _ _ hD;have ah:upd H s.heap.objs.size (.tup [xs[i],ys[i]]) s.heap.objs.size=some (.tup [xs[i],ys[i]]):=AM;have ab:∀c∈[z,TO,i1,i2,TI],EB X d (upd H s.heap.objs.size (.tup [xs[i],ys[i]])) c:=λc j=>by
    obtain⟨f0,f⟩:=hf c j;exact⟨by rw[BJ (Bn (an c j))];exact f0,f⟩
   have au:PZ z TI TO i1 i2 a b (i+1) h1:=⟨ay,ai _ _ Dz.TIz Dz.TITO Dz.TIi1 Dz.TIi2 E,ac,ag,af⟩
   have P:=B.seq O;have Q:=B.seq L;generalize upd H s.heap.objs.size (.tup [xs[i],ys[i]])=H2 at I2 B G ah ab P Q;obtain⟨zz,ak,n,r,hl,e⟩:=I2.ň G;have aB:J.length=i:=by
    have:=hp.length
    grind
   have aE:=r.length;show wpAny _ A.in1 (updateSeq D (·.push (.ref s.heap.objs.size)) >>= _) _ _ _;refine A5 (Ea e U (Ak ⟨Fq Fp _,?_⟩) (by rw[B5,Iu];lia) (by show(ak.toArray.push _).size<=sizeLine+1;rw[Array.size_push,B5,Iu];lia));have kD:∀c o,c≠D->H2 c=some o->upd H2 D (.lst (J++[.ref s.heap.objs.size])) c=some o:=λc o j e=>by rw[BJ j];exact e
   have az:∀c∈[z,TO,i1,i2,TI],c≠D:=λc j e=>by
    have:=(ab c j).1;rw[e,G]at this
    cases this
   refine ih (i+1) d _ σ _ (J++[.ref s.heap.objs.size]) (by lia) W (I2.Ź (its':=ak++[.ref s.heap.objs.size]) (ys:=J++[.ref s.heap.objs.size]) (f:=(·.push (.ref s.heap.objs.size))) (t':=s.toks) G e (by simp) (r.append (show AV [V.ref s.heap.objs.size] [Value.ref s.heap.objs.size]from .cons U .nil)) (by rw[Ag,List.length_singleton,Iu];lia)) (λc j=>?_) (au.keep λc j o e=>?_) ?_ ?_ AM ?_ λH' s' C I' k' aA am=>?_
   .obtain⟨f0,f⟩:=ab c j;exact⟨by rw[BJ (az c j)];exact f0,f⟩
   .grind[Heap.get?_update_other]
   .rcases P with h|h
    .exact .inl (h.imp (kD _ _ (Cr ae)) λ⟨o,h⟩=>⟨o,kD _ _ (Cr ae) h⟩)
    .exact .inr h
   .rcases Q with h|h
    .exact .inl (h.imp (kD _ _ (Cr aj)) λ⟨o,h⟩=>⟨o,kD _ _ (Cr aj) h⟩)
    .exact .inr h
   .rw[Am,show(xs.zip ys)[i]?=some (xs[i],ys[i]) by rw[A6 (by rw[List.length_zip];lia),List.getElem_zip]];refine Bz (Paired.Æ hp λt p ⟨r,er,hr⟩=>⟨r,er,kD _ _ (λz=>?_) (B _ _ hr)⟩) ⟨_,U,kD _ _ (Cr al) ah⟩;rw[z,hD]at hr
    cases hr
   .exact q H' s' C I' (λc o j e=>k' c o j (kD c o j (B c o e))) aA am
end
def fX(K:ϡ)(o:TA):TE:=λp H Q=>o p H λk d=>∃a b e i,k=[.ref a,.ref b]/\AC K d a e/\AC K d b i/\e.length=i.length/\e.length<=1000 /\∀D j c,d D=none->AA d c->c D=some (.lst j)->Paired (Vo c) j (e.zip i)->Q (.ref D) c
def si(k:X.calm=true)(hg:Gl X "list")(hm:X.mg "list"=none)(aF:Gl X "zip")(ax:X.mg "zip"=none)(ha:PA X [a,b] ta)(hs:starEach [a,b] X.env=[(false,eval a X.env),(false,eval b X.env)]:=by rfl)(Z:starEach [b] X.env=[(false,eval b X.env)]:=by rfl)(R:starEach [.Call (.Name "zip" p) [a,b] [] y] X.env=(false,eval (.Call (.Name "zip" p) [a,b] [] y) X.env)::starEach [] X.env:=by rfl) :
 PE X (.Call (.Name "list" p2) [.Call (.Name "zip" p) [a,b] [] y] [] S) (fX X.K ta):=by
 intro i s σ H Q I h;refine Ca (Os I hg hm UI (C8 ?_ R (by rfl)));rw[R];show wpAny _ _ (spliced ((false,eval (.Call (.Name "zip" p) [a,b] [] y) X.env)::backTo S (starEach [] X.env))) _ _ s;refine Calls.spliced_cons (Ca (Os I aF ax dm (C8 (BH (ha y i s σ H _ I h) λus d ⟨vs,v,I1,r1,q1⟩=>?_) (by rw[hs,Z]) (by rw[Z];rfl))));revert q1;refine HX λl1 l2 xs ys=>FZ λaf ai ac ay ap q=>?_;subst af;refine GL (λu1 u2 P aD aC=>?_) (Wv r1);subst P;cases aD;cases aC;refine DN (λaL rx px aH=>?_) (I1.list ai);refine DN (λaJ ry py aK=>?_) (I1.list ac);have a1:l1<d.heap.objs.size:=by obtain⟨_,e,_⟩:=px.isList;exact As e
 have a2:l2<d.heap.objs.size:=by obtain⟨_,e,_⟩:=py.isList;exact As e
 refine call_zip_2 px.isList py.isList λj hz am az ar ao W hk=>Calls.spliced_nil ?_
 have I2:AG X i σ v { d with heap:=j }:=I1.kept (t':=d.toks) hk;have Dz:=zipApart_new a1 a2;have aB:∀c,d.heap.objs.size<=c->EB X i v c:=λc ag=>I1.ŷ ag (I1.Ê.fresh ag)
 have st:PZ (d.heap.objs.size+4) (d.heap.objs.size+2) (d.heap.objs.size+3) d.heap.objs.size (d.heap.objs.size+1) l1 l2 0 j:=⟨⟨_,_,.inl U,hz⟩,am,⟨_,_,az⟩,ar,ao⟩
 have G:v j.objs.size=none:=I2.Ê.fresh (A9 _);refine callType_codes (Q₁:=λobj C=>obj=.ref j.objs.size/\C={ d with heap:=j.push { cls:=.type "list",data:=.seq #[] } }) F.called_list (F.typeCall_list_1 _) F.entry_list_init
  (code_list_new _ ⟨U,U⟩) λobj C ah=>?_
 obtain⟨rfl,rfl⟩:=ah;have O:(j.push { cls:=.type "list",data:=.seq #[] }).get? j.objs.size=some { cls:=.type "list",data:=.seq #[] }:=Bc _ U;have I3:AG X i σ (upd v j.objs.size (.lst [])) { d with heap:=j.push { cls:=.type "list",data:=.seq #[] },toks:=d.toks }:=I2.laid (λb u e=>A7 _ e) (A9 _) ⟨DG (B8 _),[],0,.nil,O⟩;have as:=st.lt;have av:PZ (d.heap.objs.size+4) (d.heap.objs.size+2) (d.heap.objs.size+3) d.heap.objs.size (d.heap.objs.size+1) l1 l2 0 (j.push { cls:=.type "list",data:=.seq #[] }):=st.keep λc k o e=>A7 _ e
 have aq:IsZip (j.push { cls:=.type "list",data:=.seq #[] }) (d.heap.objs.size+4) (d.heap.objs.size+2) (d.heap.objs.size+3) .none:=A7 _ hz;have au:j.objs.size≠l1:=by rw[W];exact E4 (Bs a1 (Nat.le_add_right _ _))
 have aE:j.objs.size≠l2:=by rw[W];exact E4 (Bs a2 (Nat.le_add_right _ _))
 have ab:j.objs.size≠d.heap.objs.size+4:=by lia
 generalize aI:j.objs.size=D at *;have aj:upd v D (.lst []) D=some (.lst []):=AM;have L:∀c∈[d.heap.objs.size+4,d.heap.objs.size+3,d.heap.objs.size,d.heap.objs.size+1,d.heap.objs.size+2],c≠D:=λc k=>Bn (as c k)
 have aw:∀c∈[d.heap.objs.size+4,d.heap.objs.size+3,d.heap.objs.size,d.heap.objs.size+1,d.heap.objs.size+2],EB X i (upd v D (.lst [])) c:=λc k=>by
  obtain⟨f0,f⟩:=aB c (by simp only[Al,Bl,Dd]at k;lia);exact⟨by rw[BJ (L c k)];exact f0,f⟩
 have r:AA v (upd v D (.lst [])):=BM G _;generalize aG:upd v D (.lst [])=H3 at *;generalize j.push { cls:=.type "list",data:=.seq #[] }=h3 at *;refine⟨⟨_,O,U⟩,F.args_list_init_2 _ _,?_⟩;show wpAny _ _ (do let old <- Builtin.List.listItems (.ref D);Builtin.List.listUpdate (.ref D) (λ_=>#[]);letGo old.toList.reverse;Builtin.List.listExtendWith (.ref D) (.ref (d.heap.objs.size+4)) .none) _ _ _;refine A5 ?_;unfold Builtin.List.listItems;refine A5 (Dy O U (Ak ?_));show wpAny _ _ (updateSeq D (λ_=>#[]) >>= λ_=>letGo (#[]:Array Ϟ).toList.reverse >>= λ_=>Builtin.List.listExtendWith (.ref D) (.ref (d.heap.objs.size+4)) .none) _ _ _;refine A5 (Ea O U (A5 (F8 ?_)));have I4:=I3.Ź (its:=[]) (its':=[]) (ys:=[]) (f:=λ_=>#[]) (t':=d.toks) aj O U .nil (DG (B8 _));have J:=Cc (Obj.mapSeq (λ_=>(#[]:Array Ϟ))) O U;have E:∀c o,c≠D->h3.get? c=some o->(h3.update D (Obj.mapSeq (λ_=>(#[]:Array Ϟ)))).get? c=some o:=λc o k e=>(Bh _ _ (Cr k)).trans e
 have B:=E _ _ (Cr ab) aq;generalize h3.update D (Obj.mapSeq (λ_=>(#[]:Array Ϟ)))=h4 at *;unfold Builtin.List.listExtendWith;refine A5 (wpAny_typeOf (T:="zip") ⟨_,B,U⟩ ?_);have g1:Builtin.List.listSameRef (.ref D) (.ref (d.heap.objs.size+4))=false:=by simp[Builtin.List.listSameRef,ab]
 have g2:(Value.type "zip"==Value.type "list")=false:=by lk
 have g3:(Value.type "zip"==Value.type "tuple")=false:=by lk
 simp only[g1,g2,g3,Bool.or_false,E6,G2];refine A5 (Jn B ?_);refine A5 (C9 ?_);unfold Builtin.List.listLengthHint;refine A5 (Gp (T:="zip") ⟨_,B,U⟩ se ?_);show wpAny _ _ (specialOf (Value.ref (d.heap.objs.size+4)) ("__length_hint__":ϥ) >>= _) _ _ _;refine A5 (Gp (T:="zip") ⟨_,B,U⟩ sf (Ak ?_));show wpAny _ _ (rule "list.extend.makes-room" >>= λ_=>Builtin.List.listTouch (.ref D) >>= λ_=>again (.builtin "list.extend.loop" ⟨[.ref D,.ref (d.heap.objs.size+4),.none],[]⟩)) _ _ _;refine A5 (Jt ?_);refine A5 ?_;show wpAny _ _ (updateSeq D (·.push .none) >>= λ_=>updateSeq D (·.pop)) _ _ _;refine A5 (Ea J U ?_);have aa:=Cc (Obj.mapSeq (·.push Value.none)) J U;refine Ea (hz:=by seq_fits) aa U ?_;have ae:upd H3 D (.lst []) D=some (.lst []):=AM;have I6:=(I4.Ź (its:=[]) (its':=[.none]) (ys:=[.non]) (f:=(·.push Value.none)) (t':=d.toks) ae J U (.cons U .nil) (DG (by lk))).Ź (its:=[.none]) (its':=[]) (ys:=[]) (f:=(·.pop)) (t':=d.toks) AM aa U .nil (DG (B8 _));have Y:∀c o,c≠D->h4.get? c=some o->((h4.update D (Obj.mapSeq (·.push Value.none))).update D (Obj.mapSeq (·.pop))).get? c=some o :=
  λc o k e=>(Bh _ _ (Cr k)).trans ((Bh _ _ (Cr k)).trans e)
 have eH:upd (upd (upd H3 D (.lst [])) D (.lst [.non])) D (.lst [])=H3:=by
  grind[AM,BJ]
 rw[eH]at I6
 refine Ak ⟨Fq Fp _,sh (A:=X.A.in1) (I.ok.hd k) Dz ay au aE ap xs.length 0 i _ σ H3 [] (Jx _) (B8 _) I6 aw (av.keep λc k o e=>Y c o (L c k) (E c o (L c k) e)) (r.seq ai) (r.seq ac) aj .nil λH' s' al I' k' aA an=>⟨U,.ref D,H',I',U,q D al H' G (λc o e=>?_) aA an⟩⟩;have ak:c≠D:=λz=>by rw[z,G]at e;cases e
 exact k' c o ak (r c o e)
def sj(K)(hK:X.K=K)(z:X.calm=true)(o:Gl X "list")(v:X.mg "list"=none)(i:Gl X "zip")(e:X.mg "zip"=none)(y:PA X [a,b] r)(s:starEach [a,b] X.env=[(false,eval a X.env),(false,eval b X.env)]:=by rfl)(j:starEach [b] X.env=[(false,eval b X.env)]:=by rfl)(d:starEach [.Call (.Name "zip" p) [a,b] [] c] X.env=(false,eval (.Call (.Name "zip" p) [a,b] [] c) X.env)::starEach [] X.env:=by rfl) :
 PE X (.Call (.Name "list" B) [.Call (.Name "zip" p) [a,b] [] c] [] k) (fX K r):=by subst hK;exact si z o v i e y s j d
section
variable {X:Cx}
def sk(a:TE):TE:=λd H Q=>a d H λv c=>∃i:Int,v=.int i/\i.natAbs<=10^40/\((Str.ofString (toString i)).length<=2000->Q (.str (Str.ofString (toString i))) c)
def Y1{a}{d}{r}(L:PE X a r):PE X (.FormattedValue a (-1) none d) (sk r):=by intro c s J H Q I h;refine Ij (BH (L c s J H _ I h) λv P j=>?_);obtain⟨y,B,z,E,i,O,G,q⟩:=j;subst O;obtain⟨t,rfl⟩:=E;have p:i.natAbs.log2<1920:=(by by_cases o:i.natAbs=0;rw[o];decide;exact Ff ((Kg o).mpr (Fw G (show 10^40<2^140 by lk))) (by lk));have C:(Str.ofString (toString i)).length<=2000:=(by have e:=Ik (k:=1920) (by lk) p;rw[G9];lia);exact wpAny_formatField_int p ⟨.str _,B,z.tok _,⟨_,U⟩,q C⟩
def so(r o p:TE):TE:=λj H Q=>r j H λa s=>∃d:ϥ,a=.str d/\d.length<=2000/\o j s λb k=>∃i:ϥ,b=.str i/\i.length<=2000/\p j k λc v=>∃e:ϥ,c=.str e/\e.length<=2000/\Q (.str (d++i++e)) v
def Y2{v}{t}(h:PE X v t){d}{s}{σ}{H}{c}{n}{rest}{k}{R:ϥ->Hp->Prop}(I:AG X d σ H s)
 (q:t σ H λa e=>∃x:ϥ,a=.str x/\x.length<=2000/\R x e) (G:c.length<=n) (E:(n+2000).ble 100000=true)
 (C:∀(x) (i) (e),AG X d σ e i->R x e->(c++x).length<=n+2000->Joins (model X.prog X.w) X.A X.xe rest (c++x) k i):Joins (model X.prog X.w) X.A X.xe (eval v X.env::rest) c k s:=by
 refine BH (h d s σ H _ I q) λa i z=>?_;obtain⟨y,e,p,o,x,rfl,l,r⟩:=z;obtain⟨B,rfl⟩:=o;have j:(c++x).length<=n+2000:=by rw[Ba];exact Nat.add_le_add G l
 exact BY x B U (Aw j (DG (C5 E))) (C x i e p r j)
def sq(I:AG X c σ H s)(q:Q (.str x) H)(e:d=x)(i:d.length<=n)(j:n.ble 100000=true) :
 Joins (model X.prog X.w) X.A X.xe (evalEach [] X.env) d (λout a=>out.length<=sizeLine/\EP X c σ Q (.str out a.toks) { a with toks:=a.toks+1 }) s:=by
 subst e;exact⟨Aw i (DG (C5 j)),.str _,H,I.tok _,⟨_,U⟩,q⟩
def sv(x):Str.empty++x=x:=(show Str.empty=("":ϥ) by lk) ▸ Lns.oz x
def sx(e:PE X i d):PE X (.JoinedStr [i] c) d:=λa s j H Q I h=>wpAny_JoinedStr_one (e a s j H Q I h)
def sy(o:PE X p y)(d:PE X z a)(B:PE X e c):PE X (.JoinedStr [p,z,e] C) (so y a c):=λ_ _ _ _ _ I h =>K4 (Y2 o I h (A9 0) U λ_ _ _ i k E=>Y2 d i k E U λ_ _ _ s H G=>Y2 B s H G U λ_ _ _ j r v=>sq j r (by rw[sv]) v U)
end
def AQ(i)(hN:X.N.Nodup)(d:X.N[i]?=some x:=by exact U)(e:P4 X.env.scope x:=by first|exact .inl U|exact .inr U)(c:X.fn x=true\/X.env.scope.names.lookup x=some .local:=by first|exact .inl U|exact .inr U|assumption):PG X (.Name x a) (Qe i):=Zj hN d e c
def BD(i)(hN:N'.Nodup:=by room)(d:N'[i]?=some x:=by exact U)(e:P4 (IX X N' scope C cells Ã H₀ ex).env.scope x:=by first|exact .inl U|exact .inr U)(c:(IX X N' scope C cells Ã H₀ ex).fn x=true\/(IX X N' scope C cells Ã H₀ ex).env.scope.names.lookup x=some .local:=by first|exact .inl U|exact .inr U|assumption):PG (IX X N' scope C cells Ã H₀ ex) (.Name x a) (Qe i):=Zj hN d e c
def AL(i)(hN:X.N.Nodup)(he:PE X e d)(o:X.N[i]?=some x:=by exact U)(p:P4 X.env.scope x:=by first|exact .inl U|exact .inr U)(k:swapsWith e (some (.Name x a)) c.line X.env=pure false:=by rfl)(j:X.fn x=true\/X.env.scope.names.lookup x=some .local:=by first|exact .inl U|exact .inr U|assumption):PS X (.Assign [.Name x a] e c) (O4 d (Qe i)):=kd hN o p he k j
def CW(N')(ms)(k)(s:PI X target iter e)(j:∀{C cells Ã H₀ ex},PG (IX X N' scope C cells Ã H₀ ex) target g)(y:∀{C cells Ã H₀ ex},QQ (IX X N' scope C cells Ã H₀ ex) d o)(he:∀{C cells Ã H₀ ex},PE (IX X N' scope C cells Ã H₀ ex) c p)(a:X.calm=true:=by exact U)(i:QR X.N X.env.kindOf N' scope ms k=true:=by rfl)(r:∀x,foldedSetIterable iter X.env x=pure x:=by intro _;rfl):PE X (.ListComp c [⟨target,iter,d,0⟩] scope v) (Me e g o p ms k) :=
 mz a s (.of i) (λ_ _ _ _ _=>j) (λ_ _ _ _ _=>y) (λ_ _ _ _ _=>he) r
def Vp{t u}{D}{σ}{H}(h:let a:GP:={ D with nx:=u D };t a σ H):QD t u D σ H:=h
def hideAll{t u}{D}{σ}{H}(h:let a:GP:={ D with nx:=u D };let σ':St:=σ;t a σ' H):QD t u D σ H:=h
def sE{a c:Type}{f:c}{g:a->c}{P:a->Prop}{w:a}(e:f=g w)(h:P w):∃v,f=g v/\P v:=⟨w,e,h⟩
def n2{d c:Type}{p q r:d->c->Prop}{a:d}{b:c}(h:p a b)(i:q a b)(j:r a b):∃a b,p a b/\q a b/\r a b:=⟨a,b,h,i,j⟩
def sF{K:ϡ}{n:Nat}{t:QE}{a:PySem.Addr}{xs:ϩ V}{c:St}{H:Hp}{Q:St->Hp->Prop}(h:BP K H a xs)(e:xs.length=n)(q:t xs c H Q):QG K n t (.ref a) c H Q:=⟨_,_,U,h,e,q⟩
def sG{e d o:Type}{p q r s:e->d->o->Prop}{a:e}{b:d}{c:o}(h:p a b c)(i:q a b c)(j:r a b c)(k:s a b c):∃a b c,p a b c/\q a b c/\r a b c/\s a b c:=⟨a,b,c,h,i,j,k⟩
def Y3{K:ϡ}{p:PySem.Addr}{xs:ϩ V}{i:Int}{v:V}{H:Hp}{Q:VK}(h:AC K H p xs)(e:DP xs i=some v)(q:Q v H):QM K (.ref p) (.int i) H Q:=⟨_,_,_,_,U,U,h,e,q⟩
def Rk(h:Q (σ.set i (some v)) H):Qe i v σ H Q:=h
def Y4(e:upd H p o=H1)(a:H p=none):AA H H1/\H1 p=some o:=e ▸ ⟨BM a _,AM⟩
end L2
local macro_rules | `(tactic| x_fa $H $s $r) => `(tactic| (generalize ee : L2.upd _ _ _ = $H; obtain ⟨$s, $r⟩ := L2.Y4 ee (by assumption); clear ee))
local macro_rules | `(tactic| fin2) => `(tactic| first | (intro v _ _ _; revert v; first | exact GD fun _ _ => rfl | exact KE fun _ _ _ => rfl | exact NY fun _ _ _ _ => rfl | exact Sn fun _ _ _ _ _ => rfl | exact Sq fun _ _ _ _ _ _ => rfl | exact Ss fun _ _ _ _ _ _ _ => rfl) | (intro _ _ _ _ h; repeat (first | (rw [h.1]; rfl) | (rw [h]; rfl) | (obtain ⟨_, h⟩ := h))))
namespace Lw
open PySem L2
set_option maxHeartbeats 4000000
section
local macro_rules | `(tactic| k_go) => `(tactic| exact ⟨rfl, rfl, rfl, by decide +kernel, rfl, by decide +kernel, by decide +kernel⟩)
abbrev sS(i k:Nat)(N:ώ):Prop:=EF N (N.take k) (AN (top i))
abbrev sC(i j k:Nat)(N:ώ):Prop:=EF N (N.take k) (AN (FN (top i) j))
def sH:sS 15 1 ["text"]:=by k_go
def TQ:sS 16 1 ["channel","sign","width","teeth","many"]:=by k_go
def TU:sS 17 2 ["ahead","channel","sign","width","teeth","many"]:=by k_go
def Y5:sS 18 1 ["case","at","channel"]:=by k_go
def Y6:sS 19 2 ["case","sign","number","channel"]:=by k_go
def sI:sS 20 2 ["case","word"]:=by k_go
def sJ:sS 21 2 ["case","word"]:=by k_go
def sP:sS 22 1 ["case"]:=by k_go
def sQ:sS 24 2 ["case","line"]:=by k_go
def Vq:sS 25 3 ["spare","many","gaps","low","ideal","high"]:=by k_go
def fY:sS 26 2 ["one","other"]:=by k_go
def fZ:sS 27 2 ["top","bottom","divisor"]:=by k_go
def Vr:sS 28 4 ["case","line","measure","gaps","many","spare","off"]:=by k_go
def Vs:sS 29 4 ["case","line","measure","gaps","low","ideal","high"]:=by k_go
def TV:sS 31 4 ["spare","many","gaps","last","low","ideal","high","off"]:=by k_go
def Qq:sS 32 4 ["case","words","measure","gaps","widths","costs","start","spare","end","cost"]:=by k_go
def sR:sS 33 4 ["costs","table","start","end"]:=by k_go
def g7:sS 34 3 ["costs","table","start","ends"]:=by k_go
def Y7:sS 35 2 ["costs","many","table","start"]:=by k_go
def Y8:sS 36 2 ["costs","many","reached","end"]:=by k_go
def S8:sS 37 4 ["case","words","measure","gaps","costs","table","breaks","at"]:=by k_go
def sT:sS 38 2 ["words","breaks"]:=by k_go
def sU:sS 42 1 ["word"]:=by k_go
def sV:sS 43 1 ["word"]:=by k_go
def sW:sS 44 2 ["words","at"]:=by k_go
def g9:sS 45 4 ["words","at","low","high","word"]:=by k_go
def sX:sS 46 3 ["words","at","word"]:=by k_go
def sY:sS 47 2 ["words","at"]:=by k_go
def Vt:sS 48 2 ["words","at","low","ideal","high"]:=by k_go
def Y9:sS 49 2 ["words","at","end"]:=by k_go
def Vu:sS 50 3 ["words","at","brackets","many","jobs","end"]:=by k_go
def sZ:sS 51 3 ["words","at","brackets"]:=by k_go
def Vv:sS 52 3 ["words","at","brackets","jobs","job"]:=by k_go
def Vw:sS 53 1 ["text","words","jobs","end"]:=by k_go
def t4:sS 56 1 ["word"]:=by k_go
def Vx:sS 57 1 ["word","teeth","figure"]:=by k_go
def t5:sS 58 1 ["teeth"]:=by k_go
def TX:sS 59 1 ["words","sign","width","teeth","many"]:=by k_go
def S9:sS 60 2 ["at","row","words","sign","width","teeth","many"]:=by k_go
def gc:sS 61 1 ["text","case"]:=by k_go
def TY:sS 62 1 ["channel","sign","width","teeth","many"]:=by k_go
def t6:sS 63 1 ["case"]:=by k_go
def t9:sS 69 2 ["paragraphs","paragraph"]:=by k_go
def TZ:sS 70 5 ["many","jobs","measure","gaps","paragraphs","again","ahead"]:=by k_go
def Sa:sS 71 4 ["jobs","measure","gaps","paragraphs","job"]:=by k_go
def gf:sS 72 1 ["jobs","paragraphs"]:=by k_go
def tf:sS 76 1 ["lines"]:=by k_go
def tj:sS 77 1 ["key"]:=by k_go
def tm:sS 78 3 ["case","keys","at"]:=by k_go
def gg:sS 79 2 ["case","keys","at"]:=by k_go
def tq:sS 81 2 ["teeth","others"]:=by k_go
def Ya:sS 82 2 ["codes","teeth","channel","code"]:=by k_go
def Oi:sS 85 2 ["case","broken","channels","ahead","at","part","channel","lost","sign","width","own","many"]:=by k_go
def tr:sS 90 2 ["case","keys"]:=by k_go
def tD:sS 91 2 ["free","machine"]:=by k_go
def Rl:sS 92 3 ["case","keys","casting","free","machine","needs","peaks","channel","out"]:=by k_go
def Yb:sS 93 3 ["case","keys","casting","needs","peaks"]:=by k_go
def tE:sS 98 1 ["words"]:=by k_go
def tF:sS 99 1 ["word"]:=by k_go
def gh:sS 100 4 ["case","lines","measure","gaps","full"]:=by k_go
def Sb:sS 101 2 ["case","paragraph","measure","gaps","words","word","lines"]:=by k_go
def Yc:sS 102 2 ["case","text","rows","paragraph"]:=by k_go
def Yd:sS 103 1 ["gap","top","bottom"]:=by k_go
def tG:sS 104 1 ["machine"]:=by k_go
def Ye:sS 105 2 ["machine","often","done"]:=by k_go
def tH:sS 108 2 ["_law_script","_law_k"]:=by k_go
def U0:sS 109 2 ["_law_cell_here","_law_many","_law_number","_law_found","_law_k"]:=by k_go
def Yf:sS 110 2 ["_law_code","_law_other"]:=by k_go
def gi:sS 111 1 ["_law_left","_law_code"]:=by k_go
def Rm:sS 112 2 ["_law_cell_here","_law_many","_law_left","_law_number","_law_code","_law_codes_here","_law_k"]:=by k_go
def Q0:sS 113 2 ["_law_script","_law_most","_law_signs","_law_first_here","_law_many","_law_codes_here","_law_some","_law_case_here","_law_k","_law_sign"]:=by k_go
def gk:sS 114 3 ["_law_case_here","_law_cell_here","_law_most","_law_some"]:=by k_go
def OL:sS 115 2 ["_law_script","_law_case_here","_law_found","_law_at","_law_k","_law_some","_law_many","_law_words","_law_gaps"]:=by k_go
def OM:sS 116 3 ["_law_paragraphs_here","_law_twice","_law_left","_law_jobs","_law_k","_law_measure","_law_gaps","_law_words","_law_row"]:=by k_go
def Qr:sS 117 3 ["_law_paragraphs_here","_law_twice","_law_left","_law_found","_law_measure","_law_gaps","_law_k"]:=by k_go
def tI:sS 118 1 ["_law_gap_here"]:=by k_go
def Qs:sS 119 2 ["_law_case_here","_law_paragraphs_here","_law_found","_law_measure","_law_gaps","_law_words","_law_breaks","_law_lines","_law_line"]:=by k_go
def gn:sS 120 3 ["_law_desk","_law_text","_law_rows_here","_law_found"]:=by k_go
def Rn:sS 121 4 ["_law_desk","_law_case_here","_law_rows_here","_law_casting","_law_keys","_law_need","_law_due","_law_k","_law_row","_law_found"]:=by k_go
def tJ:sS 122 1 ["_law_machine"]:=by k_go
def gq:sS 123 2 ["_law_desk","_law_machine","_law_found"]:=by k_go
def U1:sS 124 3 ["_law_desk","_law_machine","_law_cells","_law_cell_here","_law_many","_law_done"]:=by k_go
def U2:sS 125 2 ["_law_case_here","_law_casting","_law_turned_here","_law_word_here","_law_desk","_law_machine"]:=by k_go
def NI:sS 126 1 ["_law_script","_law_case_here","_law_casting","_law_desk","_law_kept","_law_machine","_law_k","_law_paragraphs_here","_law_twice","_law_left","_law_rows_here"]:=by k_go
def tK:sC 7 0 2 ["self","words"]:=by k_go
noncomputable abbrev HV:ώ:=["lying","case","played","struck","casting","line","heated","to_go","hanging","texts","done","waits"]
def tL:sC 88 0 5 ["self","case","keys","casting","broken"]:=by k_go
def tM:sC 88 1 1 ["self"]:=by k_go
def Yg:HV.idxOf? ("next_key":ϥ)=none:=by room
def gr:sC 88 2 1 ["self","channel"]:=by k_go
def gu:HV.idxOf? ("lacks_matrix":ϥ)=none:=by room
def tN:sC 88 3 1 ["self"]:=by k_go
def Yh:HV.idxOf? ("stuck":ϥ)=none:=by room
def tO:sC 88 4 1 ["self"]:=by k_go
def Yi:HV.idxOf? ("resting":ϥ)=none:=by room
def gv:sC 88 5 1 ["self","matrix"]:=by k_go
def tP:HV.idxOf? ("move_bar":ϥ)=none:=by room
def tQ:sC 88 6 1 ["self"]:=by k_go
def tR:HV.idxOf? ("move_caster":ϥ)=none:=by room
def gw:sC 88 7 1 ["self","key"]:=by k_go
def tS:HV.idxOf? ("move_line":ϥ)=none:=by room
def tT:sC 88 8 1 ["self"]:=by k_go
def tU:HV.idxOf? ("send_line":ϥ)=none:=by room
def tV:sC 88 9 2 ["self","part"]:=by k_go
def gx:HV.idxOf? ("take":ϥ)=none:=by room
def tW:sC 88 10 1 ["self"]:=by k_go
def Vy:HV.idxOf? ("tick":ϥ)=none:=by room
def gy:sC 88 11 1 ["self","ahead"]:=by k_go
def Yj:HV.idxOf? ("run":ϥ)=none:=by room
def tX:sC 88 12 1 ["self"]:=by k_go
def tY:HV.idxOf? ("ticks":ϥ)=none:=by room
def tZ:sC 88 13 1 ["self"]:=by k_go
def Vz:HV.idxOf? ("slugs":ϥ)=none:=by room
def u0:sC 88 14 1 ["self"]:=by k_go
def Yk:HV.idxOf? ("waited":ϥ)=none:=by room
def u5:sC 88 16 1 ["self"]:=by k_go
def u6:HV.idxOf? ("numbers_lying":ϥ)=none:=by room
noncomputable abbrev Nk:ώ:=["case","casting","composed","machine"]
def u7:sC 106 0 3 ["self","case_text","casting"]:=by k_go
def u9:sC 106 1 1 ["self"]:=by k_go
def Yl:Nk.idxOf? ("copy_keys":ϥ)=none:=by room
def gz:sC 106 2 2 ["self","row","words"]:=by k_go
def Mn:Nk.idxOf? ("say":ϥ)=none:=by room
def uc:sC 106 3 2 ["self","text"]:=by k_go
def ud:Nk.idxOf? ("take_copy":ϥ)=none:=by room
def ue:sC 106 4 2 ["self","word"]:=by k_go
def uf:Nk.idxOf? ("tell_copy":ϥ)=none:=by room
def ug:sC 106 5 2 ["self","word"]:=by k_go
def uh:Nk.idxOf? ("play":ϥ)=none:=by room
noncomputable abbrev tb:ϩ TR:=("_wall",top 0,["k"])::("is_sign",top 15,["text"])::("is_channel",top 16,["channel"])::("can_stand",top 17,["ahead","channel"])::("look_at_case",top 18,["case"])::("channel_of",top 19,["case","sign"])::("can_set",top 20,["case","word"])::("width_of",top 21,["case","word"])::("codes_of",top 22,["case"])::("body_of",top 24,["case","line"])::("misfit",top 25,["spare","many","gaps"])::("greatest_divisor",top 26,["one","other"])::("lowest_terms",top 27,["top","bottom"])::("full_gap",top 28,["case","line","measure","gaps"])::("last_gap",top 29,["case","line","measure","gaps"])::("cost_of",top 31,["spare","many","gaps","last"])::("costs_of",top 32,["case","words","measure","gaps"])::("can_follow",top 33,["costs","table","start","end"])::("choices",top 34,["costs","table","start"])::("table_of",top 35,["costs","many"])::("most_in_full_lines",top 36,["costs","many"])::("breaks_of",top 37,["case","words","measure","gaps"])::("broken_lines",top 38,["words","breaks"])::("is_number",top 42,["word"])::("is_set_word",top 43,["word"])::("word_at",top 44,["words","at"])::("read_number",top 45,["words","at","low","high"])::("look_for",top 46,["words","at","word"])::("read_measure",top 47,["words","at"])::("read_gaps",top 48,["words","at"])::("read_set",top 49,["words","at"])::("read_times",top 50,["words","at","brackets"])::("read_job",top 51,["words","at","brackets"])::("read_jobs",top 52,["words","at","brackets"])::("read_copy",top 53,["text"])::("is_teeth",top 56,["word"])::("read_teeth",top 57,["word"])::("shown_teeth",top 58,["teeth"])::("is_row",top 59,["words"])::("read_row",top 60,["at","row"])::("read_case",top 61,["text"])::("shown_row",top 62,["channel"])::("shown_case",top 63,["case"])::("add_paragraph",top 69,["paragraphs","paragraph"])::("do_times",top 70,["many","jobs","measure","gaps","paragraphs"])::("do_jobs",top 71,["jobs","measure","gaps","paragraphs"])::("opened_jobs",top 72,["jobs"])::("keys_of",top 76,["lines"])::("is_sign_key",top 77,["key"])::("goes_on",top 78,["case","keys","at"])::("look_at_keys",top 79,["case","keys"])::("has_all",top 81,["teeth","others"])::("falls_at",top 82,["codes","teeth"])::("can_break",top 84,["case","ahead","channel","teeth"])::("channels_of",top 85,["case","broken"])::("free_case",top 90,["case","keys"])::("numbers_out",top 91,["free","machine"])::("needs_and_peaks",top 92,["case","keys","casting"])::("need_of",top 93,["case","keys","casting"])::("is_known",top 98,["words"])::("read_ticks",top 99,["word"])::("gaps_of",top 100,["case","lines","measure","gaps"])::("set_paragraph",top 101,["case","paragraph"])::("set_copy",top 102,["case","text"])::("shown_gap",top 103,["gap"])::("state_of",top 104,["machine"])::("tick_often",top 105,["machine","often"])::("_law_cell",top 108,["_law_script","_law_k"])::("_law_stream",top 109,["_law_cell_here","_law_many"])::("_law_over",top 110,["_law_code","_law_other"])::("_law_first",top 111,["_law_left"])::("_law_codes",top 112,["_law_cell_here","_law_many"])::("_law_case",top 113,["_law_script","_law_most"])::("_law_word",top 114,["_law_case_here","_law_cell_here","_law_most"])::("_law_paragraphs",top 115,["_law_script","_law_case_here"])::("_law_copy",top 116,["_law_paragraphs_here","_law_twice","_law_left"])::("_law_opened",top 117,["_law_paragraphs_here","_law_twice","_law_left"])::("_law_gap",top 118,["_law_gap_here"])::("_law_rows",top 119,["_law_case_here","_law_paragraphs_here"])::("_law_copied",top 120,["_law_desk","_law_text","_law_rows_here"])::("_law_told",top 121,["_law_desk","_law_case_here","_law_rows_here","_law_casting"])::("_law_state",top 122,["_law_machine"])::("_law_shows",top 123,["_law_desk","_law_machine"])::("_law_ticked",top 124,["_law_desk","_law_machine","_law_cells"])::("_law_turned",top 125,["_law_case_here","_law_casting"])::("law",top 126,["_law_script"])::[]
noncomputable abbrev U3:ϩ MR:=("next_key","Machine.next_key",FN (top 88) 1,["self"])::("lacks_matrix","Machine.lacks_matrix",FN (top 88) 2,["self"])::("stuck","Machine.stuck",FN (top 88) 3,["self"])::("resting","Machine.resting",FN (top 88) 4,["self"])::("move_bar","Machine.move_bar",FN (top 88) 5,["self"])::("move_caster","Machine.move_caster",FN (top 88) 6,["self"])::("move_line","Machine.move_line",FN (top 88) 7,["self"])::("send_line","Machine.send_line",FN (top 88) 8,["self"])::("take","Machine.take",FN (top 88) 9,["self","part"])::("tick","Machine.tick",FN (top 88) 10,["self"])::("run","Machine.run",FN (top 88) 11,["self"])::("ticks","Machine.ticks",FN (top 88) 12,["self"])::("slugs","Machine.slugs",FN (top 88) 13,["self"])::("waited","Machine.waited",FN (top 88) 14,["self"])::("channels","Machine.channels",FN (top 88) 15,["self"])::("numbers_lying","Machine.numbers_lying",FN (top 88) 16,["self"])::[]
noncomputable abbrev U4:ϩ MR:=("copy_keys","Desk.copy_keys",FN (top 106) 1,["self"])::("say","Desk.say",FN (top 106) 2,["self","row"])::("take_copy","Desk.take_copy",FN (top 106) 3,["self","text"])::("tell_copy","Desk.tell_copy",FN (top 106) 4,["self","word"])::("play","Desk.play",FN (top 106) 5,["self","word"])::[]
noncomputable abbrev tu:ώ:=["ValueError","all","any","enumerate","int","len","list","max","min","range","str","sum","zip"]
set_option genInjectivity false
set_option genSizeOf false
structure Ad where
 f:Nat->Ϡ
 d:Nat->FuncData
 Ŗ:Nat->Ϡ
 Œ:Nat->FuncData
 Š:Nat->Ϡ
 Ť:Nat->FuncData
 Î:Ϡ
 ċ:Ϡ
 Ć:Ϡ
 ĵ:Ϡ
 ó:Ϡ
 Ç:Ϡ
 Í:Ϡ
 ų:Ϡ
 zF:Ϡ
 ç:Ϡ
 î:Ϡ
 ì:Ϡ
 ă:FuncData
 į:FuncData
 Ą:FuncData
 t_SIGNS:Tok
 zQ:Tok
 ķ:Tok
 Ĥ:Tok
 Ķ:Tok
 ě:Tok
 ř:Tok
 zV:Tok
 zy:Tok
 t_WEDGE:Tok
 ŀ:Tok
noncomputable def cs (a:Ad) (i:Fin 4):Ϡ:=[a.ó,a.Ç,a.ų,a.zF].getD i.1 0
structure Tx(P:ϣ)(w:Ϣ)(base:Ϥ)(K:ϡ)(mg:ϋ)(a:Ad):Prop where
 f:∀i {x s ps},tb[i]?=some (x,s,ps)->D K mg x s ps (a.f i) (a.d i)
 b:∀(i:Nat) {x},tu[i]?=some x->mg x=none
 Â:∀i {x q s ps},U3[i]?=some (x,q,s,ps)->DM K x q s ps a.Î (a.Ŗ i) (a.Œ i)
 ĕ:∀(i:Nat) {x},HV[i]?=some x->Pg K a.Î x
 Machine:DI K mg "Machine" "Machine.__init__" (FN (top 88) 0) ["self","case","keys","casting","broken"] a.Î a.ċ a.ă
 č:∀i {x q s ps},U4[i]?=some (x,q,s,ps)->DM K x q s ps a.Ć (a.Š i) (a.Ť i)
 ũ:∀(i:Nat) {x},Nk[i]?=some x->Pg K a.Ć x
 Û:DJ K mg "Desk" "Desk.__init__" (FN (top 106) 0) ["self","case_text","casting"] a.Ć a.ĵ a.į
 Č:CL K mg "CasterError" a.ó
 È:CI K mg "NoBreak" "NoBreak.__init__" (FN (top 7) 0) ["self","words"] a.Ç a.Í a.Ą "words"
 Ő:CN K mg "NoText" a.ų
 ŵ:CN K mg "NoRow" a.zF
 bi:BI K a.ó
 m:∀i j:Fin 4,PySem.W.mroIn K (cs a i) (.ref (cs a j))=some (Nat.beq j.1 0||Nat.beq i.1 j.1)
 Ħ:mg "FIRST_GAPS"=some (.ref a.ç)
 ğ:∀H,BP K H a.ç [.int 2,.int 4,.int 8]
 Ĉ:mg "COPY_ROWS"=some (.ref a.î)
 ÿ:∀H,BP K H a.î [.str "lines",.str "gaps",.str "keys",.str "need"]
 Ċ:mg "MACHINE_ROWS"=some (.ref a.ì)
 Ā:∀H,BP K H a.ì [.str "start",.str "run",.str "slugs",.str "state",.str "waited"]
 zN:mg "SIGNS"=some (.str "abcdefghijklmnopqrstuvwxyz.,-'" a.t_SIGNS)
 Ŏ:mg "FIGURES"=some (.str "0123456789" a.zQ)
 ü:mg "MOST_BRACKETS"=some (.int 4 a.ķ)
 Ü:mg "NUMBER_OF_TEETH"=some (.int 7 a.Ĥ)
 û:mg "FIRST_MEASURE"=some (.int 100 a.Ķ)
 ò:mg "MOST_PARAGRAPHS"=some (.int 60 a.ě)
 ę:mg "MOST_WORDS"=some (.int 400 a.ř)
 Į:mg "GAP_KEY"=some (.str " " a.zV)
 ê:mg "SEND_KEY"=some (.str "/" a.zy)
 Ū:mg "WEDGE"=some (.str " " a.t_WEDGE)
 ā:mg "MOST_CASTING"=some (.int 20 a.ŀ)
section
variable {P:ϣ}{w:Ϣ}{base:Ϥ}{K:ϡ}{mg:ϋ}{a:Ad}(T:Tx P w base K mg a)
include T
def Tx.ş:=T.f 1 U
def Tx.Ń:=T.f 2 U
def Tx.œ:=T.f 3 U
def Tx.ĝ:=T.f 4 U
def Tx.Ö:=T.f 5 U
def Tx.zC:=T.f 6 U
def Tx.ļ:=T.f 7 U
def Tx.Ī:=T.f 8 U
def Tx.Ş:=T.f 9 U
def Tx.misfit:=T.f 10 U
def Tx.ö:=T.f 11 U
def Tx.ħ:=T.f 12 U
def Tx.Ě:=T.f 13 U
def Tx.ń:=T.f 14 U
def Tx.zD:=T.f 15 U
def Tx.Ŵ:=T.f 16 U
def Tx.Ņ:=T.f 17 U
def Tx.Ţ:=T.f 18 U
def Tx.Ÿ:=T.f 19 U
def Tx.ë:=T.f 20 U
def Tx.ī:=T.f 21 U
def Tx.ù:=T.f 22 U
def Tx.õ:=T.f 23 U
def Tx.Ĵ:=T.f 24 U
def Tx.ĺ:=T.f 25 U
def Tx.Ø:=T.f 26 U
def Tx.þ:=T.f 27 U
def Tx.Ģ:=T.f 28 U
def Tx.ō:=T.f 29 U
def Tx.ź:=T.f 30 U
def Tx.ņ:=T.f 31 U
def Tx.zu:=T.f 32 U
def Tx.Ĭ:=T.f 33 U
def Tx.ŗ:=T.f 34 U
def Tx.zt:=T.f 35 U
def Tx.ł:=T.f 36 U
def Tx.ı:=T.f 37 U
def Tx.is_row:=T.f 38 U
def Tx.Ŷ:=T.f 39 U
def Tx.ŏ:=T.f 40 U
def Tx.ŋ:=T.f 41 U
def Tx.Ė:=T.f 42 U
def Tx.Ē:=T.f 43 U
def Tx.ż:=T.f 44 U
def Tx.Ŧ:=T.f 45 U
def Tx.Ĳ:=T.f 46 U
def Tx.ĸ:=T.f 47 U
def Tx.Ă:=T.f 48 U
def Tx.zL:=T.f 49 U
def Tx.Ġ:=T.f 50 U
def Tx.zE:=T.f 51 U
def Tx.ž:=T.f 52 U
def Tx.zP:=T.f 53 U
def Tx.İ:=T.f 54 U
def Tx.ŕ:=T.f 55 U
def Tx.ĳ:=T.f 56 U
def Tx.ú:=T.f 57 U
def Tx.ś:=T.f 58 U
def Tx.Ŭ:=T.f 59 U
def Tx.Ļ:=T.f 60 U
def Tx.zI:=T.f 61 U
def Tx.ē:=T.f 62 U
def Tx.ů:=T.f 63 U
def Tx.ő:=T.f 64 U
def Tx.zr:=T.f 65 U
def Tx.Ľ:=T.f 66 U
def Tx.Ó:=T.f 67 U
def Tx.è:=T.f 68 U
def Tx.ŭ:=T.f 69 U
def Tx.Ŕ:=T.f 70 U
def Tx.Ō:=T.f 71 U
def Tx.Ž:=T.f 72 U
def Tx.Ż:=T.f 73 U
def Tx.ĉ:=T.f 74 U
def Tx.Ų:=T.f 75 U
def Tx.Ŀ:=T.f 76 U
def Tx.ŧ:=T.f 77 U
def Tx.Ů:=T.f 78 U
def Tx.ľ:=T.f 79 U
def Tx.ĥ:=T.f 80 U
def Tx.ĭ:=T.f 81 U
def Tx.Ď:=T.f 82 U
def Tx.ė:=T.f 83 U
def Tx.Ł:=T.f 84 U
def Tx.law:=T.f 85 U
def Tx.zH:=T.b 1 U
def Tx.b_any:=T.b 2 U
def Tx.Ù:=T.b 3 U
def Tx.Ğ:=T.b 4 U
def Tx.Ň:=T.b 5 U
def Tx.ť:=T.b 6 U
def Tx.b_max:=T.b 7 U
def Tx.b_min:=T.b 8 U
def Tx.É:=T.b 9 U
def Tx.Ô:=T.b 10 U
def Tx.b_sum:=T.b 11 U
def Tx.b_zip:=T.b 12 U
def Tx.Ï:=T.Â 0 U
def Tx.Ì:=T.Â 1 U
def Tx.ã:=T.Â 2 U
def Tx.Õ:=T.Â 3 U
def Tx.ô:=T.Â 4 U
def Tx.æ:=T.Â 5 U
def Tx.í:=T.Â 6 U
def Tx.ï:=T.Â 7 U
def Tx.ø:=T.Â 8 U
def Tx.Ý:=T.Â 9 U
def Tx.ð:=T.Â 10 U
def Tx.đ:=T.Â 11 U
def Tx.Ò:=T.Â 12 U
def Tx.Þ:=T.Â 13 U
def Tx.à:=T.Â 15 U
def Tx.Ú:=T.č 0 U
def Tx.Å:=T.č 1 U
def Tx.ą:=T.č 2 U
def Tx.ć:=T.č 3 U
def Tx.Ř:=T.č 4 U
end
abbrev Tx.F(_:Tx P w base K mg a)(n i:Nat)(sp:Sp):Prop:=CF P w K mg base IW n (a.f i) (a.d i) (tb.getD i ("",top 0,[])).2.2 sp
abbrev Tx.M(_:Tx P w base K mg a)(n i:Nat)(sp:Sp):Prop:=CF P w K mg base IW n (a.Ŗ i) (a.Œ i) (U3.getD i ("","",top 0,[])).2.2.2 sp
abbrev Tx.N(_:Tx P w base K mg a)(n i:Nat)(sp:Sp):Prop:=CF P w K mg base IW n (a.Š i) (a.Ť i) (U4.getD i ("","",top 0,[])).2.2.2 sp
section
variable {X:Cx}{pos:Pos}
def AZ(i:Nat)(hN:X.N[i]?=some x:=by rfl)(c:Sy X.env.scope x:=by first|exact Or.inl U|exact Or.inr NM|exact Or.inr W1)(hd:(x==("__debug__":ϥ))=false:=by lk)(a:(x==("__classdict__":ϥ))=false:=by lk):PA X [.Name x pos] (SM (P5 i) O5):=AD (pv i hN c hd a) AI
def AR(i:Nat)(d:PA X e t)(hN:X.N[i]?=some x:=by rfl)(c:Sy X.env.scope x:=by first|exact Or.inl U|exact Or.inr NM|exact Or.inr W1)(hd:(x==("__debug__":ϥ))=false:=by lk)(a:(x==("__classdict__":ϥ))=false:=by lk):PA X (.Name x pos::e) (SM (P5 i) t):=AD (pv i hN c hd a) d
def AF{e:Ϧ}{a:TE}(he:PE X e a):IT X [.Return (some e) pos] (Sz a):=BV (jY he)
variable {P:ϣ}{w:Ϣ}{base:Ϥ}{K:ϡ}{mg:ϋ}{a:Ad}(T:Tx P w base K mg a)
include T
def ln(he:PE X e j)(hK:X.K=K:=by rfl)(d:X.mg=mg:=by rfl)(k:Gl X "len":=by rfl)(c:starEach [e] X.env=(false,eval e X.env)::starEach [] X.env:=by rfl)(i:(backTo pos (starEach [] X.env)).any (·.1)=false:=by rfl):PE X (.Call (.Name "len" p) [e] [] pos) (WH (T5 K) (SM j O5)):=LX (mI K hK) k (d ▸ T.Ň) QP (AD he AI c) (he:=c) (hpl:=i)
def fM(i:Nat)(he:PE X o d)(hK:X.K=K:=by rfl)(c:HV[i]?=some f:=by rfl)(j:HV.idxOf? f=some i:=by room)(e:attributeBase o f X.env (eval o X.env)=eval o X.env:=by rfl):PE X (.Attribute o f pos) (Xn a.Î HV d i):=Tr hK T.Machine.cl (T.ĕ i c) j he e
def sM(i:Nat)(j:PE X o k)(e:PE X v c)(hK:X.K=K:=by rfl)(d:HV[i]?=some f:=by rfl)(s:HV.idxOf? f=some i:=by room)(r:swapsWith v (some (.Attribute o f p)) pos.line X.env=pure false:=by rfl):PS X (.Assign [.Attribute o f p] v pos) (Xo a.Î HV k c i):=eB hK T.Machine.cl (T.ĕ i d) s j e r
def fD(i:Nat)(he:PE X o d)(hK:X.K=K:=by rfl)(c:Nk[i]?=some f:=by rfl)(j:Nk.idxOf? f=some i:=by room)(e:attributeBase o f X.env (eval o X.env)=eval o X.env:=by rfl):PE X (.Attribute o f pos) (Xn a.Ć Nk d i):=Tr hK T.Û.cl (T.ũ i c) j he e
def sD(i:Nat)(j:PE X o k)(e:PE X v c)(hK:X.K=K:=by rfl)(d:Nk[i]?=some f:=by rfl)(s:Nk.idxOf? f=some i:=by room)(r:swapsWith v (some (.Attribute o f p)) pos.line X.env=pure false:=by rfl):PS X (.Assign [.Attribute o f p] v pos) (Xo a.Ć Nk k c i):=eB hK T.Û.cl (T.ũ i d) s j e r
end
def BX(F:Po K x qual st f c)(S:EF N ps (AN st))(d:∀(a:Ϟ) (A:Around) (outer:Ϛ) (s:ϟ) (H:Hp) (vs:ϩ V) (Q:VK) (E:XK),CK k (A.deeper (PyProof.Rows.envOfC qual (AN st) s.heap.objs.size f a))->sp vs H Q E->∃t,IT (HC IW P w K mg base N qual (AN st) f a A outer s H E).nox (JQ st) t/\t { nx:=λ_ e=>Q .non e,rt:=Q } (start N vs) H)(len:∀vs H Q E,sp vs H Q E->vs.length=ps.length:=by fin2):CF P w K mg base IW (k+1) f c ps sp:=F.ok S len d
abbrev lawLevel:Nat:=40
end
open Br (IB IZ Mh RU Tc V0 V1 de di lc)
open Cp (EJ HJ HU IF IG JC KJ LB Mu NU Ni Nj OJ PU PV PX Rg Rh Ri S3 S4 S5 TB TC TW Vj XP XU XW XX fb fy)
open Cs (BQ BS CV EO FD FI FU IY KH MH OB PL Py RS RX UP UQ UR Vc X3 cH dX)
open Jb (BF CS DS FJ JB LA LM Mm NH OH XN)
open Ln (FV UX UY UZ X9 cY)
open Lns (AE BW GS IC Lx PH QU QW Tg V2 V4 V6 Xc Xe dD dt dw)
open Mc (CD CT CZ Cf DA GU HH JL JM JX JY LL Lz MN Mj Ms NF NG NR NS OE OG Oe Of PN PP Qn Qo R6 R7 R8 R9 RZ Rb Rc Rf Tt Tu Tv Vd XC XD XJ Xs Xy eQ eR eS eU eW eY eZ wt)
open Mt (DW LJ Pw)
set_option maxHeartbeats 4000000
section
variable {P:ϣ}{w:Ϣ}{K:ϡ}{mg:ϋ}{base:Ϥ}{a:Ad}(T:Tx P w base K mg a)
set_option hygiene false
local macro_rules | `(tactic| k_ne) => `(tactic| intro cdv A outer s H vs Q E hr h)
set_option hygiene true
local macro_rules | `(tactic| walk_at "6") => `(tactic| first | decide | lia | omega)
local macro_rules | `(tactic| walk_at "0") => `(tactic| first | assumption | exact AM | exact BM (by assumption) _ _ _ (by walk_at "0"))
local macro_rules | `(tactic| walk_at "5") => `(tactic| first | (with_reducible refine hideAll ?_; intro Dzz σzz) | with_reducible refine Rk ?_ | refine sE rfl ?_ | refine ⟨_, rfl, ?_⟩ | refine n2 rfl rfl ?_ | refine ⟨_, _, rfl, rfl, ?_⟩ | ((with_reducible apply Y3); exact AC.of (by walk_at "0"); assumption) | refine ⟨_, _, _, _, rfl, rfl, AC.of (by walk_at "0"), (by assumption), ?_⟩ | refine And.intro rfl ?_ | refine And.intro (C5 rfl) ?_ | refine And.intro (by walk_at "6") ?_ | refine And.intro ⟨by walk_at "6", by walk_at "6"⟩ ?_ | refine And.intro (.inl ⟨by walk_at "6", by walk_at "6"⟩) ?_ | refine And.intro (.inr ⟨by walk_at "6", by walk_at "6"⟩) ?_ | ((with_reducible apply sF); exact BP.of (by first | exact AM | assumption); exact rfl))
local macro_rules | `(tactic| walk_at "3") => `(tactic| first | walk_at "5" | refine sG rfl (by assumption) rfl ?_ | refine ⟨_, _, _, rfl, (by assumption), rfl, ?_⟩ | refine n2 rfl (by assumption) ?_ | refine ⟨_, _, rfl, (by assumption), ?_⟩)
local macro_rules | `(tactic| walk_at "2") => `(tactic| repeat (walk_at "3"))
local macro_rules | `(tactic| walk) => `(tactic| walk_at "2")
local macro_rules | `(tactic| walk_at "1") => `(tactic| refine ⟨_, _, rfl, ?_⟩)
local macro_rules | `(tactic| x_go) => `(tactic| walk_at "1")
local macro_rules | `(tactic| walk_at "4") => `(tactic| repeat (walk_at "5"))
local macro_rules | `(tactic| z_run) => `(tactic| walk_at "4")
def ui(T:Tx P w base K mg a):CF P w K mg base IW 1 a.Í a.Ą ["self","words"] (Va a.Ç "words"):=by refine T.È.fi.ok tK (λd H Q E h=>?_) (λk A outer s H d Q E v h=>?_);revert d;refine KE λe i _=>?_;rfl;revert d;refine HY λe i j o q=>?_;exact⟨_,(AH (FC (pA T.bi U T.Č.mg (AR 0 (AD (fB BN (pC (pv 1)) BN) AI)))) (BV (pf (pv 0) (pv 1) U))),_,U,_,U,by lk,_,U,i,U,o,λx p=>⟨x,U,p,_,U,by lk,λy=>⟨e,a.Ç,none,some a.Í,y,U,j,T.È.cls,_,U,_,U,e,a.Ç,U,j,T.È.xf,λr c=>q r c⟩⟩⟩
def uj(K:ϡ):Sp:=λc H Q _=>∃(l:Ϡ) (k:Int) (d:ϓ),c=[.ref l,.int k]/\AC K H l (d.map V.int)/\0<=k/\∀z,Q (.int z) H
def Q1:T.F 1 67 (uj K):=by refine BX T.Ó.fn tH ?_;k_ne;revert vs;refine RA λl k j d i q=>?_;refine⟨_,(AH (CC (CA NO (pv 1) (ln T (pv 0)) (BL _)) (AF (BZ (DE K U) (pv 0) (pv 1) (λ_ _=>U))) CJ) (AF AJ)),?_⟩;walk;refine BY l _ U (.inl d) ?_;walk;refine CG (λc=>?_) (λc=>?_);(.have e:=Ax c;rw[A3]at e;walk;exact DH l _ _ _ U U d (lR i e) (q _));exact q _
def uk:Sp:=λi H Q _=>∃c n:Int,i=[.int c,.int n]/\0<=n/\n<=1000 /\∀(e:ϓ) (r:Ϡ) (d:Hp),(e.length:Int)=n->(∀z∈e,0<=z/\z<33554432)->H r=none->AA H d->d r=some (.lst (e.map V.int))->Q (.ref r) d
def VA:T.F 1 68 uk:=by
 refine BX T.è.fn U0 ?_;k_ne;revert vs;refine HY λc n I J q=>?_;refine⟨_,(AH (AL 2 U0.nd (AX DT (AX GM (pv 0) AJ) AJ)) (AH (AL 3 U0.nd (CO AI)) (AH (GZ B6 U (NN U T.É (AZ 1)) (AQ 4 U0.nd) (AH (AL 2 U0.nd (AX GM (AX DT (AX DT (AX DT (AX Nd (pv 2) (pv 2)) (AX Nd AJ (pv 2))) (AX Nd AJ (pv 4))) AJ) AJ)) (@BV _ _ _ (FC (@EG K _ _ _ _ _ _ _ _ _ _ _ _ Ay Bj Bk KW (pv 3) (AD (AX LV (pv 2) AJ) AI) U U U U U U))))) (AF (pv 3))))),?_⟩;walk;intro r d;walk;let Izz:zT:=λi k o=>∃(x:Int) (e:ϓ) (v:Ϩ V),k=[some (.int c),some (.int n),some (.int x),some (.ref r),v]/\0<=x/\x<2147600000/\e.length=i/\(∀z∈e,0<=z/\z<33554432)/\AA H o/\o r=some (.lst (e.map V.int))
 refine Nr (n:=n.toNat) Izz
  ⟨_,[],none,U,by lia,by lia,U,(λz j=>nomatch j),BM d _,AM⟩ ?_ ?_
 (.refine λi k o L E=>?_;revert k;refine Z1 λx e v B s G j y p=>?_;walk;refine⟨.inl ⟨U,_,AC.of p⟩,?_⟩;walk;refine DZ _ _ _ U U p (KY (by rw[A3];lia)) ?_;refine JH _ (e++[((x*x+48271*x+7*(0+(i:Int))+1)%2147483647)/64]) _ (DY U (Eb (x*x+48271*x+7*(0+(i:Int))+1) (show(2147483647:Int)≠0 by lk)) (by lia) (by rw[Ag,G];rfl) (λz C=>?_) (DF y d) ?_);rcases Be.mp C with q|q;exact j z q;rw[Ah.mp q];lia;rw[AM,Ae];rfl);refine λk o E=>?_;revert k;refine Z1 λx e v B s G j y p=>?_;walk;exact q e r o (by lia) j d y p
def gB{o:Int}(i:Nat):o/2^i/2=o/2^(i+1):=by rw[Int.pow_succ,Jr (L8 (Lr (by lk)))]
def um{o:Int}(d:0<=o){i k:Nat}(h:o/2^i<=0)(c:i<=k):o/2^k%2=0:=by obtain⟨j,rfl⟩:=Nat.exists_eq_add_of_le c;have e:o/2^i=0:=Int.le_antisymm h (Gr d (L8 (Lr (by lk))));rw[Int.pow_add,<-Jr (L8 (Lr (by lk))),e,Int.zero_ediv];rfl
def uo{x:Int}:0<=x%2/\x%2<2:=⟨Eb _ (by lk),E7 _ (by lk)⟩
def uq:Sp:=λc H Q _=>∃t o:Int,c=[.int t,.int o]/\0<=t/\0<=o/\o<128/\Q (.bl (Mt.has t o)) H
def ur:T.F 1 69 uq:=by refine BX T.ŭ.fn Yf ?_;k_ne;revert vs;refine Q7 λt o X O Y q=>?_;refine⟨_,(AH (Pb B6 (CA Pf (pv 1) AJ (BL _)) (AH (CC (PW.pt (P9 (CA EE (AX GM (pv 1) AJ) AJ (BL _)) (P7 (CA EE (AX GM (pv 0) AJ) AJ (BL _))))) (AF JI) CJ) (AH (AL 1 Yf.nd (AX LV (pv 1) AJ)) (BV (AL 0 Yf.nd (AX LV (pv 0) AJ)))))) (AF JI)),?_⟩;refine AU (λn J G=>∃i:Nat,n=8-i/\i<=7/\J=[some (.int (t/2^i)),some (.int (o/2^i))]/\G=H/\∀k,k<i->o/2^k%2<=t/2^k%2) ⟨8,0,U,by lk,by rw[Int.pow_zero,L1,L1];rfl,U,λk C=>absurd C (E3 _)⟩ ?_;refine λn J G=>OW λi j R p y I=>?_;subst j;subst p;subst y;walk;refine CG (λc=>?_) (λc=>?_);(.have c:=Ax c;have d:i<7:=Ku R λe=>(by rw[e]at c;lia);refine AU (λv L=>v=[some (.int (t/2^(i+1))),some (.int (o/2^(i+1)))]/\L=G/\∀k,k<i+1->o/2^k%2<=t/2^k%2) (λv L h=>⟨8-(i+1),by lia,i+1,U,d,h⟩) ?_;have B:o/2^i%2<=t/2^i%2->∀k,k<i+1->o/2^k%2<=t/2^k%2:=λh k C=>(by by_cases e:k=i;rw[e];exact h;exact I k (by lia));rw[<-gB,<-gB];generalize hot:o/2^i=Q at *;generalize E:t/2^i=S at *;walk;rw[Nx];refine CG (λr=>?_) (λr=>?_);(.have r:=Ax r;walk;rw[Nx];refine CG (λs=>?_) (λs=>?_);(.have s:=Ax s;walk;have e:Mt.has t o=false:=Aj λh=>(by have:=h i d;rw[hot,E]at this;lia);rw[e]at q;exact q);have s:¬S%2=0:=λz=>s (Ab z);walk;first|exact⟨U,U,B (by lia)⟩|exact B (by lia));have r:¬Q%2=1:=λz=>r (Ab z);(try refine AK ?_);walk;first|exact⟨U,U,B (by lia)⟩|exact B (by lia));have c:=Int.not_lt.mp λz=>c (Ab z);walk;have e:Mt.has t o=true:=Ab λk C=>(by by_cases h:k<i;exact I k h;rw[um O c (Nat.not_lt.mp h)];exact uo.1);rw[e]at q;exact q
def uu(K:ϡ):Sp:=λi H Q _=>∃(l:Ϡ) (d:ϓ),i=[.ref l]/\AC K H l (d.map V.int)/\d≠[]/\(∀c∈d,0<=c/\c<128)/\d.length<=30/\∀c e,AA H e->c∈d->Mt.under d c=[]->Q (.int c) e
def uv:T.F 2 70 (uu K):=by
 refine BX T.Ŕ.fn gi ?_;k_ne;revert vs;refine VU λl r hS af O ah q=>?_;refine⟨_,(AH (GZ B6 U (EV K U (pv 0)) (AQ 1 gi.nd) (BV (CC (CA (FT K U hr.units) (CW ["_law_left","_law_code","_law_other"] [] 1 (EV K U (pv 0)) (BD 2) (UM (PW.pt (P9 (CA My (pv 2) (pv 1) (BL _)) (P7 (FK (BG T.ŭ (ur T) hr U (AR 1 (AZ 2)))))))) (pv 2)) (CO AI) (BL _)) (AF (pv 1)) CJ))) (AF QB)),?_⟩;walk;refine⟨⟨_,hS⟩,?_⟩;let Izz:zT:=λi C Y=>∃(v1:Ϩ V),C=[some (.ref l),v1]/\AA H Y/\∀(j:Nat) c,j<i->r[j]?=some c->Mt.under r c≠[]
 refine Qg (a:=l) (xs:=r.map V.int) Izz
  ⟨_,U,AA.refl _,λj _ h=>absurd h (E3 _)⟩ (λi C Y _ L=>by obtain⟨_,_,v,_⟩:=L;exact v.seq hS) ?_ ?_
 .refine λi y C Y hy L=>?_;revert C;refine Oo λw3 v J=>?_;refine AS (λc d ab=>?_) (Ox hy);subst d;have G:=Af ab;have ac:=v.seq hS;walk;refine⟨⟨_,ac⟩,λD hD=>?_⟩;let Izz:zU:=λi ys C R=>∃(v4:Ϩ V),ys=(Mt.under (r.take i) c).map V.int/\C=[some (.ref l),some (.int c),v4]/\AA Y R/\R D=some (.lst ys)
  refine GN (a:=l) (xs:=r.map V.int) Izz
   ?_ ?_ ?_ ?_
  exact IS none U U (BM hD _) AM;exact λi ys C R _ ⟨_,_,_,p,_⟩=>p.seq ac;(.refine λk y ys C R ag E=>GK λv4 d B p s=>?_;subst d;subst B;refine AS (λo d ae=>?_) (Ox ag);subst d;have Z:=O o (Af ae);have S:=E;rw[A3]at S;have X:r.take (k+1)=r.take k++[o]:=(by rw[Am,ae];rfl);have ai:(Mt.under (r.take k) c).length<=30:=(by have h1:(Mt.under (r.take k) c).length<=(r.take k).length:=K6 _ _;rw[Ao]at h1;lia);have skip:¬((!decide (o=c)&&Mt.has c o)=true)->Mt.under (r.take (k+1)) c=Mt.under (r.take k) c:=λhn=>(by unfold Mt.under;rw[X,Fz,Gc,Av hn,List.filter_nil,Aq]);walk;rw[Nx];refine CG (λh1=>?_) (λh1=>?_);(.walk;refine MY c o U ((O c G).1) Z.1 Z.2 ?_;walk;refine CG (λh2=>?_) (λh2=>?_);(.walk;refine EI E s (by rw[A3];lia) ⟨_,?_,U,DF p hD,AM⟩;unfold Mt.under;rw[X,Fz,Gc,B1 (by rw[Ar];exact⟨h1,h2⟩),List.filter_nil,Ae];rfl);refine RO E ⟨_,?_,U,p,s⟩;rw[skip (by rw[Ar];exact λz=>h2 z.2)]);(try refine AK ?_);refine RO E ⟨_,?_,U,p,s⟩;rw[skip (by rw[Ar];exact λz=>h1 z.1)]);refine λys C R=>GK λv4 d B p s=>?_;subst d;subst B;rw[A3,Ai (A9 _)]at s;walk;intro p7 aa;refine CM (Pq (Mt.under r c)) (Pq []) (ZU (AC.of (BM aa _ _ _ s))) (ZU (AC.of AM)) (lZ _ _) ?_;rw[ml];walk;have I:=EY (o:=.lst []) p aa;by_cases Q:Mt.under r c=[];(.rw[Ab Q];refine BB ?_;walk;exact q c _ (v.trans I) G Q);rw[Aj Q];refine AK ⟨_,U,v.trans I,λj x hj hx=>?_⟩;by_cases z:j=i;subst z;rw[ab]at hx;cases hx;exact Q;exact J j x (by lia) hx
 refine λC Y L=>?_;revert C;refine Oo λw3 v J=>?_;exfalso;refine AS (λc G Q=>?_) (Mt.n6 af O);obtain⟨j,hj,e⟩:=C7 G;exact J j c (by rw[A3];exact hj) (by rw[A6 hj,e]) Q
def uw:Sp:=λi H Q _=>∃(c n:Int),i=[.int c,.int n]/\1<=n/\n<=30 /\∀(r:Ϡ) (d:ϓ) (e:Hp),H r=none->AA H e->e r=some (.lst (d.map V.int))->d.Nodup->(∀c∈d,0<=c/\c<128)->Mt.NC d->1<=d.length->d.length<=30->Q (.ref r) e
def uz:T.F 3 71 uw:=by
 refine BX T.Ō.fn Rm ?_;k_ne;revert vs;refine HY λc n aO aR q=>?_;refine⟨_,(AH (AL 2 Rm.nd (CO AI)) (AH (GZ B6 U (EV K U (BG T.è (VA T) hr U (AR 0 (AD AJ AI)))) (AQ 3 Rm.nd) (AH (AL 4 Rm.nd (AX GM (pv 3) AJ)) (@BV _ _ _ (CC (PW.pt (P9 (CA (aU K U) (pv 4) (pv 2) (by with_unfolding_all rfl)) (P7 (CA NO (ln T (pv 2)) (pv 1) (BL _))))) (@BV _ _ _ (FC (@EG K _ _ _ _ _ _ _ _ _ _ _ _ Ay Bj Bk KW (pv 2) (AZ 4) U U U U U U))) CJ))))
  (AH (AL 5 Rm.nd (CO AI))
  (AH (GZ B6 U (NN U T.É (AD (ln T (pv 2)) AI)) (AQ 6 Rm.nd) (AH (AL 4 Rm.nd (BG T.Ŕ (uv T) hr U (AZ 2)))
  (AH (FC (@EG K _ _ _ _ _ _ _ _ _ _ _ _ Ay Bj Bk KW (pv 5) (AZ 4) U U U U U U))
  (@BV _ _ _ (FC (@EG K _ _ _ _ _ _ _ _ _ _ _ _ Ay PySem.F.slot_list_remove PySem.F.type_list_remove n0 (pv 2) (AZ 4) U U U U U U))))))
  (AF (pv 5)))))),?_⟩
 walk;intro p hp;have aB:=BM hp (.lst []);have aa:upd H p (.lst []) p=some (.lst (([]:ϓ).map V.int)):=AM;generalize upd H p (.lst [])=H1 at aB aa⊢;walk;refine CM c 60 U (by lk) (by lk) (λzs st H2 an aP ap aq as=>?_);have an:zs.length=60:=by lia
 refine HA st U ⟨_,AC.of as⟩ ?_;have aE:=DR aa ap;let Izz:zT:=λi J S=>∃(s:ϓ) (v3 v4:Ϩ V),J=[some (.int c),some (.int n),some (.ref p),v3,v4,none,none]/\AA H S/\S p=some (.lst (s.map V.int))/\S st=some (.lst (zs.map V.int))/\s.Nodup/\(∀c∈s,0<=c/\c<128)/\(s.length:Int)<=n/\(1<=i->1<=s.length)
 refine Qg (a:=st) (xs:=zs.map V.int) Izz
  ⟨[],none,none,U,aB.trans aq,aq _ _ aa,as,F6,(λc h=>nomatch h),by show(0:Int)<=n;lia,λh=>absurd h (by lk)⟩ (by rintro i J S _ ⟨_,_,_,_,_,_,h,_⟩;exact AC.of h) ?_ ?_
 (.refine λi y J S hy ai=>?_;revert J;refine Sm λs v3 v4 E B C I hb ab aH=>?_;refine AS (λz aF aQ=>?_) (Ox hy);subst aF;walk;have aL:0<=z%128/\z%128<128:=⟨Eb _ (by lk),E7 _ (by lk)⟩;have aj:(s.map V.int).all O6=true:=(by rw[Jy];exact Bw.mpr λ_ _=>U);have aG:MF (.int (z%128)) (s.map V.int)=decide ((z%128)∈s):=(by unfold MF;rw[List.any_map,Di,Fh,D3];constructor;refine AS λx hx e=>?_;have e':=eq_of_beq e;rw[<-e'];exact hx;intro h;exact AU (z%128) h (Jl (z%128)));walk;refine MY p _ U (.inl (AC.of B)) U aj ?_;walk;refine CG (λG=>?_) (λG=>?_);(.have G:=G;rw[B1 U]at G;change (!MF (V.int (z%128)) (s.map V.int))=true at G;rw[aG]at G;have az:(z%128)∉s:=(by intro z3;rw[Ab z3]at G;exact absurd G (by lk));walk;refine BY p _ U (.inl (AC.of B)) ?_;rw[A3];walk;refine CG (λO=>?_) (λO=>?_);(.have O:=Ax O;walk;refine⟨.inl ⟨U,_,AC.of B⟩,?_⟩;walk;refine⟨p,_,_,U,U,B,KY (by rw[A3];lia),s++[(z%128)],_,_,U,DF E hp,by rw[AM,Ae];rfl,by rw[BJ aE.symm];exact C,?_,λz2 aK=>?_,by rw[Ag];show((s.length+1:Nat):Int)<=n;lia,λ_=>by rw[Ag];exact Nat.le_add_left _ _⟩;exact F3.mpr ⟨I,by simp,λx hx y hy=>by rw[Ah.mp hy];exact λz3=>az (z3 ▸ hx)⟩;rcases Be.mp aK with q|q;exact hb z2 q;rw[Ah.mp q];exact aL);have O:¬(s.length:Int)<n:=λz3=>O (Ab z3);exact JH s _ _ (DY U E B C I hb (LG ab (λ_=>by lia))));rw[B1 U]at G;change ¬(!MF (V.int (z%128)) (s.map V.int))=true at G;rw[aG]at G;have au:(z%128)∈s:=(by by_cases z3:(z%128)∈s;exact z3;rw[Aj z3]at G;exact absurd U G);(try refine AK ?_);exact JH s _ _ (DY U E B C I hb (LG ab (λ_=>K1 au))))
 .refine λJ S ai=>?_;revert J;refine Sm λcs v3 v4 E B C I hb ab aH=>?_;have Ĝ:1<=cs.length:=aH (by rw[A3,an];decide);have aM:H p=none:=hp;walk;intro X Y;have aC:=E.free Y;have aD:=DR B Y;have aA:=EY (o:=.lst []) E Y;have Z:upd S X (.lst []) p=some (.lst (cs.map V.int)):=BM Y _ _ _ B;have am:upd S X (.lst []) X=some (.lst (([]:ϓ).map V.int)):=AM;generalize upd S X (.lst [])=H4 at aA Z am⊢;walk;refine BY p _ U (.inl (AC.of Z)) ?_;rw[A3];walk;let Izz:zT:=λi J H2=>∃(s Q:ϓ) (v4 v6:Ϩ V),J=[some (.int c),some (.int n),some (.ref p),v3,v4,some (.ref X),v6]/\s.length+i=cs.length/\AA H H2/\H2 p=some (.lst (s.map V.int))/\H2 X=some (.lst (Q.map V.int))/\(Q++s).Perm cs/\Mt.NC Q/\∀r∈Q,∀o∈s,Mt.has r o=false
  refine Nr (lo:=0) (n:=((cs.length:Nat):Int).toNat) Izz
   ⟨cs,[],_,_,U,U,aA,Z,am,List.Perm.refl _,(λj k x y _ hx=>by simp at hx),λr L=>nomatch L⟩ ?_ ?_
  (.refine λi J H2 hi ai=>?_;revert J;refine Z2 λs Q w4 w6 af hs ah ak v al ac=>?_;have aN:∀c∈s,0<=c/\c<128:=λc aJ=>hb c (v.mem_iff.mp (Bm _ aJ));have ay:=v.nodup_iff.mpr I;have aw:=(F3.mp ay).2.1;have ao:=v.length_eq;rw[Ag]at ao;have ar:s≠[]:=λz=>(by rw[z]at af;have:0+i=cs.length:=af;lia);walk;refine Nm p s (IR U (AC.of ah) ar aN (by lia) (λd H5 ae R hu=>?_));have ax:=ae _ _ ak;walk;refine⟨.inl ⟨U,_,AC.of ax⟩,?_⟩;walk;refine DZ X _ _ U U ax (KY (by rw[A3];lia)) ?_;have aI:upd H5 X (.lst (Q.map V.int++[.int d])) p=some (.lst (s.map V.int)):=(by rw[BJ aD];exact ae _ _ ah);walk;refine⟨.inl ⟨U,_,AC.of aI⟩,?_⟩;walk;refine DZ p s d U U aI R ?_;refine LO (s.erase d) (Q++[d]) _ _ (DY U ?_ ?_ AM ?_ ?_ (LG (Mt.n8 al λr L=>ac r L d R) (λr L o ag=>?_)));rw[Je R];lia;exact DF (DF (hs.trans ae) aC) aM;rw[BJ (Cr aD),AM,Ae];rfl;refine List.Perm.trans ?_ v;rw[B4];exact List.Perm.append_left Q (List.perm_cons_erase R).symm;have av:=List.mem_of_mem_erase ag;rcases Be.mp L with h|h;exact ac r h o av;rw[Ah.mp h];exact Mt.n7 hu av λz=>by rw[z]at ag;exact absurd ag (aw.not_mem_erase));refine λJ H2 ai=>?_;revert J;refine Z2 λs Q w4 w6 af hs ah ak v al ac=>?_;have he:s=[]:=Cq.mp (by lia);subst he;rw[Aq]at v;walk;exact q X Q H2 aC hs ak (v.nodup_iff.mpr I) (λz hz=>hb z (v.mem_iff.mp hz)) al (by rw[v.length_eq];exact Ĝ) (by rw[v.length_eq];lia)
structure EW(most:Int)(rs:ϩ BS):Prop where
 l1:1<=rs.length
 l2:rs.length<=30
 sg:∀r∈rs,∃c∈BQ,r.s=L2.sg c
 wd:∀r∈rs,2<=r.w/\r.w<=10
 th:∀r∈rs,0<=r.t/\r.t<128
 mn:∀r∈rs,0<=r.n/\r.n<=most
 nd:(rs.map λr=>r.t).Nodup
 ft:Mt.NC (rs.map λr=>r.t)
 pl:∀(j:Nat) r,rs[j]?=some r->CV rs r.s=some j
def EW.fl(R:EW most rs):∀(j:Nat) r,rs[j]?=some r->LJ (rs.map λr=>r.t) r.t=some j:=λj r c=>Mt.nc R.ft (by rw[An,c];rfl)
def sgn(z:Int):Nat:=BQ.getD z.toNat 0
def uA:∀k:Fin 30,DP ("abcdefghijklmnopqrstuvwxyz.,-'":ϥ).cps.toList (k.val:Int)=some (sgn (k.val:Int))/\sgn (k.val:Int)∈BQ:=by room
def uB{z:Int}(c:0<=z)(d:z<30):DP ("abcdefghijklmnopqrstuvwxyz.,-'":ϥ).cps.toList z=some (sgn z)/\sgn z∈BQ:=by obtain⟨k,rfl⟩:=Bx c;exact uA ⟨k,by lia⟩
def uC:∀j k:Fin 30,sgn (j.val:Int)=sgn (k.val:Int)->j=k:=by room
def uD(d:0<=y/\y<30)(c:0<=z/\z<30)(h:sgn y=sgn z):y=z:=by obtain⟨j,rfl⟩:=Bx d.1;obtain⟨k,rfl⟩:=Bx c.1;have:=uC ⟨j,by lia⟩ ⟨k,by lia⟩ h;have:=Bt Fin.val this;have:j=k:=this;lia
def uE{rs:ϩ BS}{b st:Int}(c:st=1\/st=7\/st=11\/st=13)(v:rs.length<=30)(h:∀(j:Nat) r,rs[j]?=some r->r.s=L2.sg (sgn ((b+st*(j:Int))%30))):∀(j:Nat) r,rs[j]?=some r->CV rs r.s=some j:=λj r k=>by
 refine cH k U λi o y d e=>?_;have p:=(Ap.mp k).1;rw[h i o d,h j r k]at e
 have z:=uD (by lia) (by lia) (Mc.Vh e);rcases c with rfl|rfl|rfl|rfl<;>lia
def Ym{xs:ϓ}{z:Int}(i:0<=z)(d:z<(xs.length:Int)):∃y,DP (xs.map V.int) z=some (.int y)/\y∈xs:=by refine AS (λy c e=>?_) (lQ i d);exact AU y e c
def uF(K:ϡ):Sp:=λj H Q _=>∃(l:Ϡ) (k:ϓ) (c:Int),j=[.ref l,.int c]/\AC K H l (k.map V.int)/\0<=c/\c<=40 /\∀(r:Ϡ) (i:ϩ V) (e:ϩ BS) (d:Hp),H r=none->AA H d->d r=some (.lst i)->Paired (Cs.FL d) i e->EW c e->Q (.ref r) d
def uG:T.F 4 72 (uF K):=by
 refine BX T.Ž.fn Q0 ?_;k_ne;revert vs;refine Q8 λl ns d hS aO aR q=>?_;refine⟨_,(AH (AL 2 Q0.nd BN) (AH (AL 3 Q0.nd (BG T.Ó (Q1 T) hr U (AR 0 (AD AJ AI)))) (AH (AL 4 Q0.nd (AX DT AJ (BZ (DE K U) (CO (AD (AX GM (pv 3) AJ) (AD (AX GM (pv 3) AJ) (AD (AX GM (AX LV (pv 3) AJ) AJ) AI)))) (AX GM (AX LV (pv 3) AJ) AJ) (λ_ _=>U)))) (AH (AL 5 Q0.nd (BG T.Ō (uz T) hr U (AD (BG T.Ó (Q1 T) hr U (AR 0 (AD AJ AI))) (AZ 4)))) (AH (AL 6 Q0.nd (BG T.è (VA T) hr U (AD (BG T.Ó (Q1 T) hr U (AR 0 (AD AJ AI))) (AD (ln T (pv 5)) AI)))) (AH (AL 7 Q0.nd (CO AI)) (AH (GZ B6 U (NN U T.É (AD (ln T (pv 5)) AI)) (AQ 8 Q0.nd) (AH (AL 9 Q0.nd (BZ Qi (pv 2) (AX GM (AX DT (AX LV (pv 3) AJ) (AX Nd (BZ (DE K U) (CO (AD AJ (AD AJ (AD AJ (AD AJ AI))))) (AX GM (AX LV (pv 3) AJ) AJ) (λ_ _=>U)) (pv 8))) AJ) (λ_ _=>U))) (@BV _ _ _ (FC (@EG K _ _ _ _ _ _ _ _ _ _ _ _ Ay Bj Bk KW (pv 7) (AD (FP (AR 9 (AD (AX DT AJ (AX GM (BZ (DE K U) (pv 6) (pv 8) (λ_ _=>U)) AJ)) (AD (BZ (DE K U) (pv 5) (pv 8) (λ_ _=>U)) (AD (AX GM (AX LV (BZ (DE K U) (pv 6) (pv 8) (λ_ _=>U)) AJ) (AX DT (pv 1) AJ)) AI))))) AI) U U U U U U))))) (AF (pv 7))))))))),?_⟩;walk;refine LH l 0 ns U hS (by lk) (λB=>?_);walk;refine λp1 ao=>?_;obtain⟨y,ey,hy⟩:=Ym (xs:=[B%7,B%7,B/7%11]) (z:=B/840%3) (by lia) (by show B/840%3<((3:Nat):Int);lia);have aK:0<=y/\y<=10:=by simp only[Al,Bl,Dd]at hy;rcases hy with rfl|rfl|rfl<;>lia
 obtain⟨k,O,G⟩:=Ym (xs:=[1,7,11,13]) (z:=B/210%4) (by lia) (by show B/210%4<((4:Nat):Int);lia);have G:k=1\/k=7\/k=11\/k=13:=by simpa using G
 have O:∀_:Unit,DP [V.int 1,V.int 7,V.int 11,V.int 13] (B/210%4)=some (.int k):=λ_=>O;walk;clear ey hy;refine LH l 1 ns U ((BM ao _).seq hS) (by lk) (λc1=>?_);walk;refine CM c1 (2+y) U (by lia) (by lia) (λrc cs H2 aH au af aA ay aD aG aE=>?_);have L:=(BM ao _).trans au;walk;refine LH l 2 ns U (L.seq hS) (by lk) (λc2=>?_);walk;refine BY rc _ U (.inl (AC.of af)) ?_;rw[A3];refine CM c2 _ U (by lia) (by lia) (λzs st H3 as av aF S ai=>?_);have as:zs.length=cs.length:=by lia
 walk;intro pc an;have Q:=L.trans S;have ap:=Q.free an;x_fa H4 ag aw;have aI:=ag _ _ ai;walk;refine BY rc _ U (.inl (AC.of ((S.trans ag) _ _ af))) ?_;rw[A3];walk;let Izz:zT:=λi σ H5=>∃(J:ϩ V) (v:ϩ BS) (v8 v9:Ϩ V),σ=[some (.ref l),some (.int d),some (.str "abcdefghijklmnopqrstuvwxyz.,-'"),some (.int B),some (.int (2+y)),some (.ref rc),some (.ref st),some (.ref pc),v8,v9]/\AA H3 H5/\H5 pc=some (.lst J)/\Paired (Cs.FL H5) J v/\(v.map λr=>r.t)=cs.take i/\(∀r∈v,∃c∈BQ,r.s=sg c)/\(∀r∈v,2<=r.w/\r.w<=10)/\(∀r∈v,0<=r.n/\r.n<=d)/\(∀(j:Nat) r,v[j]?=some r->r.s=sg (sgn ((B/7+k*(j:Int))%30)))
 refine Nr (lo:=0) (n:=((cs.length:Nat):Int).toNat) Izz
  ⟨[],[],none,none,U,ag,aw,.nil,U,(λr h=>by cases h),(λr h=>by cases h),(λr h=>by cases h),(λj r h=>by simp at h)⟩ ?_ ?_
 (.refine λi σ H5 hi ax=>?_;revert σ;refine Z3 λJ v v8 v9 aa ah H o ab ae ac Z=>?_;rw[Dv];have aB:i<cs.length:=(by lia);have aM:=MH H;have aj:v.length=i:=(by have:=Bt List.length o;rw[A3,Ao]at this;lia);obtain⟨ci,al⟩:∃x,cs[i]?=some x:=⟨_,A6 aB⟩;obtain⟨p,am⟩:∃x,zs[i]?=some x:=⟨_,A6 (by lia)⟩;have aN:=av p (Af am);have aC:∀_:Unit,DP (cs.map V.int) (i:Int)=some (.int ci):=λ_=>FR (by rw[An,al];rfl);have aZ:∀_:Unit,DP (zs.map V.int) (i:Int)=some (.int p):=λ_=>FR (by rw[An,am];rfl);obtain⟨ec,ak⟩:=uB (z:=(B/7+k*(i:Int))%30) (by lia) (by lia);generalize az:sgn ((B/7+k*(i:Int))%30)=cc at ec ak;have ec:∀_:Unit,DP ("abcdefghijklmnopqrstuvwxyz.,-'":ϥ).cps.toList ((B/7+k*(i:Int))%30)=some cc:=λ_=>ec;walk;refine λp5 aQ=>?_;x_fa H6 E aJ;walk;refine DZ _ _ _ U U (by lk) (ec ()) ?_;have Y:=aa.trans E;have R:=E _ _ ah;have I:=Y _ _ ai;walk;refine⟨.inl ⟨U,_,AC.of R⟩,?_⟩;walk;refine DH st _ _ _ U U (AC.of I) (aZ ()) ?_;walk;refine DH rc _ _ _ U U (AC.of ((S.trans Y) _ _ af)) (aC ()) ?_;walk;refine DH st _ _ _ U U (AC.of I) (aZ ()) ?_;walk;intro t ht;have aP:=Eb (p/16) (show d+1≠0 by lia);have aL:=E7 (p/16) (show 0<d+1 by lia);have C:=BM ht (.tup (FU ⟨sg cc,2+p%9,ci,p/16%(d+1)⟩));have X:=C _ _ R;have aq:upd H6 t (.tup (FU ⟨sg cc,2+p%9,ci,p/16%(d+1)⟩)) t=some (.tup (FU ⟨sg cc,2+p%9,ci,p/16%(d+1)⟩)):=AM;refine⟨pc,_,_,U,U,X,KY (by lia),J++[.ref t],v++[⟨sg cc,2+p%9,ci,p/16%(d+1)⟩],_,_,U,DF (Y.trans C) an,AM,?_,?_,?_,?_,?_,?_⟩;exact Bz (RS (EO H (E.trans C)) X (λz e=>by cases e)) ⟨t,U,by rw[BJ (HB aq X (λe=>by cases e))];exact aq⟩;rw[Ae,o,Am,al];rfl;intro r hr;rcases Be.mp hr with h|h;exact ab r h;rw[Ah.mp h];exact AU cc ak U;intro r hr;rcases Be.mp hr with h|h;exact ae r h;rw[Ah.mp h];show 2<=2+p%9/\2+p%9<=10;lia;intro r hr;rcases Be.mp hr with h|h;exact ac r h;rw[Ah.mp h];show 0<=p/16%(d+1)/\p/16%(d+1)<=d;lia;intro j r hr;by_cases hj:j<v.length;rw[Cv hj]at hr;exact Z j r hr;rw[Cb (by lia)]at hr;have ar:j=i:=(by have:=(Ap.mp hr).1;have:j-v.length<1:=this;lia);rw[ar,aj,En]at hr;cases hr;rw[ar,az]);refine λσ H5 ax=>?_;revert σ;refine Z3 λJ v v8 v9 aa ah H o ab ae ac Z=>?_;rw[Ai (by lia)]at o;have aj:v.length=cs.length:=(by have:=Bt List.length o;rw[A3]at this;exact this);walk;exact q pc J v H5 ap (Q.trans aa) ah H ⟨by lia,by lia,ab,ae,λr hr=>(ay r.t (by rw[<-o];exact Gy hr)),ac,by rw[o];exact aA,by rw[o];exact aD,uE G (by lia) Z⟩
def uH(h:r∈rs):(CV rs r.s).isSome=true:=by unfold CV;rw[Ki,Fh];exact AU r h (Ab U)
theorem gC:∀{ws:ώ},(∀x∈ws,∃c∈BQ,x=sg c/\(CV rs (sg c)).isSome=true)->(Txt.join "" ws).length=ws.length/\∀c∈(Txt.join "" ws).cps.toList,c∈BQ/\(CV rs (sg c)).isSome=true|[],_=>⟨by lk,λc h=>by rw[show(Txt.join "" []).cps.toList=[] by lk]at h;cases h⟩|x::ws,h=>by obtain⟨c,p,rfl,i⟩:=h x Aa;obtain⟨o,k⟩:=gC λy j=>h y (Ac _ j);rw[Mc.eG];refine⟨?_,λd hd=>?_⟩;rw[Ba,o,Bb];show 1+_=_;lia;have e:(sg c++Txt.join "" ws).cps.toList=c::(Txt.join "" ws).cps.toList:=Gx;rw[e]at hd;rcases Al.mp hd with rfl|hd;exact⟨p,i⟩;exact k d hd
theorem gD:∀{ws:ώ},(∀x∈ws,∃c∈BQ,x=sg c)->(ws.map (·.length)).sum=ws.length|[],_=>rfl|x::ws,h=>by obtain⟨c,_,rfl⟩:=h x Aa;rw[Bp,Du,gD λy d=>h y (Ac _ d),Bb];show 1+_=_;lia
def uI(K:ϡ):Sp:=λj H Q _=>∃(i:Ϡ) (c:Int) (e:ϩ V) (d:ϩ BS),j=[.ref i,.int c,.int 5]/\H i=some (.lst e)/\Paired (Cs.FL H) e d/\d≠[]/\d.length<=30/\(∀r∈d,∃c∈BQ,r.s=sg c)/\∀(x:ϥ) H',AA H H'->Mc.Wd d 5 x->Q (.str x) H'
def uJ:T.F 2 73 (uI K):=by
 refine BX T.Ż.fn gk ?_;k_ne;revert vs;refine So λpc c xs rs ao ab ai av al q=>?_;have ay:=MH ab;have au:=Cw.mpr ai;refine⟨_,(AH (AL 3 gk.nd (BG T.è (VA T) hr U (AR 1 (AD (AX DT (pv 2) AJ) AI)))) (@AF _ _ _ _ (@EG K _ _ _ _ _ _ _ _ _ _ _ _ Bi Bu Bv (MG K U) BN (AD (CW ["_law_case_here","_law_cell_here","_law_most","_law_some","_law_number"] [] 1 (EV K U (Nw (NQ K U) (pv 3) Ph (LY (AX DT AJ (AX GM (BZ (DE K U) (pv 3) (pv 2) (λ_ _=>U)) (pv 2)))))) (BD 4) EU (BZ (JU K U) (BZ (DE K U) (pv 0) (AX GM (pv 4) (ln T (pv 0))) (λ_ _=>U)) AJ (λ_ _=>U))) AI) U U U U U U))),?_⟩;walk;refine CM c 6 U (by lk) (by lk) (λzs st H1 aj Q as G X=>?_);have aj:zs.length=6:=by lia
 obtain⟨z5,Y⟩:∃x,zs[5]?=some x:=⟨_,A6 (by lia)⟩;have a5:∀_:Unit,DP (zs.map V.int) (5:Int)=some (.int z5):=λ_=>FR (j:=5) (by rw[An,Y];rfl);have aC:=Q z5 (Af Y);obtain⟨n,hn,ax,aB⟩:∃n:Nat,1+z5%5=(n:Int)/\1<=n/\n<=5:=⟨(1+z5%5).toNat,by lia,by lia,by lia⟩;have L:=G _ _ ao;have ag:=EO ab G;walk;refine DH st _ _ _ U U (AC.of X) (a5 ()) ?_;walk;refine BY st _ U (AC.of X) (λps aA=>?_);rw[hn,lS];x_fa H2 E S;have Z:=E _ _ L;have O:=EO ag E;have ar:(zs.take n).length=n:=by rw[Ao];lia
 refine HA ps U ⟨_,AC.of S⟩ (λD hD=>?_);let Izz:zU:=λi ys σ J=>∃(v:ώ) (v4:Ϩ V),ys=v.map V.str/\σ=[some (.ref pc),some (.int c),some (.int 5),some (.ref st),v4]/\AA H2 J/\J D=some (.lst ys)/\v.length=i/\∀x∈v,∃c∈BQ,x=sg c/\(CV rs (sg c)).isSome=true
 refine GN (a:=ps) (xs:=(zs.take n).map V.int) Izz
  ?_ ?_ ?_ ?_
 exact Nm [] none (IR U U (BM hD _) AM U (λx h=>nomatch h));refine λi ys σ J hi=>IK λ_ _ _ _ hs _=>?_;exact hs.seq (AC.of S);(.refine λi y ys σ J hy ah=>Qa λv v4 e p o I H B=>?_;subst e;subst p;refine AS (λz af an=>?_) (Ox hy);subst af;have az:=Q z (Gk (Af an));rw[A3]at ah;have aq:=Eb z (show(xs.length:Int)≠0 by lia);have aw:=E7 z (show(0:Int)<xs.length by lia);obtain⟨k,hk⟩:=Bx aq;have ae:k<xs.length:=(by lia);obtain⟨r,ak,t,et,ht⟩:=FD O (A6 ae);have R:=Af ak;refine AS (λd am ed=>?_) (al r R);have aa:∀_:Unit,DP xs (k:Int)=some (.ref t):=λ_=>(by rw[<-et];exact FR (A6 ae));have C:=o _ _ Z;have ap:=o _ _ ht;walk;refine BY pc _ U (.inl (AC.of C)) ?_;refine CM _ _ U U (by show(0:Int)<_;lia) ?_;dsimp only;rw[hk];refine DH pc _ _ _ U U (AC.of C) (aa ()) ?_;walk;(try refine⟨t,_,_,_,U,U,BP.of ap,U,?_⟩);refine EI (by rw[A3];exact ah) I (by rw[A3];lia) ⟨v++[r.s],_,?_,U,DF o hD,AM,?_,?_⟩;rw[Ae];rfl;rw[Ag,H];rfl;intro x hx;rcases Be.mp hx with h|h;exact B x h;rw[Ah.mp h];exact HA d am ed (by rw[<-ed];exact uH R));refine λys σ J=>Qa λv v4 e p o I H B=>?_;subst e;subst p;rw[A3,ar]at H;have e0:("":ϥ).length=0:=(by lk);have ac:=gD (ws:=v) λx hx=>(by obtain⟨c,h1,h2,_⟩:=B x hx;exact⟨c,h1,h2⟩);refine DZ _ D v U U (AC.of I) (by rw[ac,e0];lia) ?_;obtain⟨j1,j2⟩:=gC B;exact q _ J (G.trans (E.trans o)) ⟨by lia,by lia,j2⟩
def uK:Sp:=λc H Q _=>∃t o:Int,c=[.int t,.int o]/\0<=t/\0<=o/\o<128/\Q (.bl (Mt.has t o)) H
def uL:T.F 1 51 uK:=by refine BX T.zE.fn tq ?_;k_ne;revert vs;refine Q7 λt o d c e q=>?_;refine AU _ (AF (FH EE (AX Zm (pv 0) (pv 1)) (pv 1) (BL _))) ?_;walk;rw[Nx,Mt.mQ d c e];exact q
def uM(K:ϡ):Sp:=λe H Q _=>∃(l:Ϡ) (t:Int) (cs:ϓ),e=[.ref l,.int t]/\AC K H l (cs.map V.int)/\(∀c∈cs,0<=c)/\0<=t/\t<128/\∀d,AA H d->Q (Pw (LJ cs t)) d
def uN:T.F 2 52 (uM K):=by
 refine BX T.ž.fn Ya ?_;k_ne;revert vs;refine RB λl t cs O Z Q R q=>?_;refine⟨_,(AH (GZ B6 U (RP K U U T.Ù (AZ 0)) (ES K U (n:=2) U (BO (AQ 2 Ya.nd) (BO (AQ 3 Ya.nd) EL))) (BV (CC (FK (BG T.zE (uL T) hr U (AR 3 (AZ 1)))) (AF (pv 2)) CJ))) (AF QB)),?_⟩;walk;refine⟨⟨_,O⟩,?_⟩;let Izz:zT:=λi C G=>∃(I J:Ϩ V),C=[some (.ref l),some (.int t),I,J]/\AA H G/\∀(j:Nat) r,j<i->cs[j]?=some r->Mt.has r t=false
 refine SZ (a:=l) (xs:=cs.map V.int) Izz
  ⟨none,none,U,AA.refl _,λj _ h=>absurd h (E3 _)⟩ (by rintro i C G _ ⟨_,_,_,B,_⟩;exact B.seq O) ?_ ?_
 (.rintro i y p C G X ⟨I,J,rfl,B,E⟩ S;refine AS (λc s k=>?_) (Ox X);subst s;have v:=EY (o:=.tup [.int i,.int c]) B S;walk;x_go;x_go;walk;refine MY _ _ U (Z c (Af k)) Q R ?_;walk;cases e:Mt.has c t with|true =>refine BB ?_;walk;have:=q _ v;rw[Mt.c6 k e E]at this;exact this|false =>refine AK ⟨_,_,U,v,λj r L d=>?_⟩;by_cases z:j=i;subst z;rw[k]at d;cases d;exact e;exact E j r (by lia) d);refine λC G Y=>?_;revert C;refine Rz λI J B E=>?_;have:=q _ B;rw[Mt.mR (λj r L=>E j r (by rw[A3];exact L))]at this;exact this
def uO(K:ϡ):Sp:=λe H Q _=>∃(l:Ϡ) (x:ϥ) (c:ϩ BS),e=[.ref l,.str x]/\Cs.KZ K H l c/\∀d,AA H d->Q (Pw (CV c x)) d
def Sd:T.F 1 5 (uO K):=by
 refine BX T.Ö.fn Y6 ?_;k_ne;obtain⟨l,x,S,rfl,⟨J,O,I⟩,q⟩:=h;refine⟨_,(AH (GZ B6 U (RP K U U T.Ù (AZ 0)) (ES K U (n:=2) U (BO (AQ 2 Y6.nd) (BO (AQ 3 Y6.nd) EL))) (BV (CC (CA EE (BZ (JU K U) (pv 3) AJ (λ_ _=>U)) (pv 1) (BL _)) (AF (pv 2)) CJ))) (AF QB)),?_⟩;walk;try refine⟨⟨_,O⟩,?_⟩
 let Izz:zT:=λi k v=>∃(B C:Ϩ V),k=[some (.ref l),some (.str x),B,C]/\AA H v/\∀(j:Nat) r,j<i->S[j]?=some r->r.s≠x
 refine SZ (a:=l) (xs:=J) Izz
  ⟨none,none,U,AA.refl _,λj _ h=>absurd h (E3 _)⟩ (by rintro i k v _ ⟨_,_,_,d,_⟩;exact d.seq O) ?_ ?_
 (.rintro i y p k v X ⟨B,C,rfl,d,z⟩ E;obtain⟨r,G,t,rfl,R⟩:=FD I X;have c:=EY (o:=.tup [.int i,.ref t]) d E;walk;x_go;x_go;walk;refine DH t _ _ _ U U (BP.of (c _ _ R)) U ?_;walk;rw[FI];by_cases e:r.s=x;(.rw[Ab e];refine BB ?_;walk;have:=q _ c;rw[cH G e z]at this;exact this);rw[Aj e];refine AK ⟨_,_,U,c,λj Z L Q=>?_⟩;grind);refine λk v Y=>?_;revert k;refine Rz λB C d z=>?_;have:=q _ d;rw[X3 (λj r L=>z j r (by rw[MH I];exact L))]at this;exact this
def uP(K:ϡ):Sp:=λd H Q _=>∃(l:Ϡ) (c:ϩ BS),d=[.ref l]/\Cs.KZ K H l c/\c.length<=1000/\∀(r:Ϡ) H',H r=none->AA H H'->H' r=some (.lst ((c.map λx=>x.t).map V.int))->Q (.ref r) H'
def gE:T.F 1 8 (uP K):=by
 refine BX T.Ī.fn sP ?_;k_ne;obtain⟨l,L,rfl,⟨E,R,B⟩,S,q⟩:=h;refine AU _ (AF (CW ["case","sign","width","teeth","many"] [] 4 (EV K U (pv 0)) (ES K U (n:=4) U (BO (BD 1) (BO (BD 2) (BO (BD 3) (BO (BD 4) EL))))) EU (pv 3))) ?_;have I:=MH B;z_run;intro D hD;let Izz:zU:=λi k p j=>∃(z C v G:Ϩ V),k=((L.take i).map λx=>x.t).map V.int/\p=[some (.ref l),z,C,v,G]/\AA H j/\j D=some (.lst k)
 refine GN (a:=l) (xs:=E) Izz
  ?_ ?_ ?_ ?_
 exact EM none none none none U U (BM hD _) AM;exact λi k p j _ ⟨_,_,_,_,_,_,e,_⟩=>e.seq R;(.refine λi y k p j O o=>HX λz C v G=>FY λd c e Q=>?_;subst d;subst c;obtain⟨r,s,t,rfl,J⟩:=FD B O;refine CM _ _ U (BP.of (e _ _ J)) U ?_;x_go;x_go;x_go;x_go;z_run;refine EI o Q ?_ ⟨_,_,_,_,?_,U,DF e hD,AM⟩;grind;rw[Am,s,Ae,Ae];rfl);grind
theorem gF(z):∀zs:ϓ,MF (.int z) (zs.map V.int)=decide (z∈zs)|[]=>rfl|y::zs=>by have c:=gF z zs;unfold MF at c⊢;rw[Bp,Eu,c];have e:Ow (V.int y) (V.int z)=decide (z=y):=(by show(y==z)=_;rw[Di,C3,D3];exact eq_comm);rw[e,<-Bool.decide_or,C4];exact Al.symm
theorem gG:∀zs:ϓ,(zs.map V.int).all O6=true|[]=>rfl|y::zs=>by rw[Bp,Ja,gG zs];rfl
def uQ:Sp:=λc H Q _=>∃x:ϥ,c=[.str x]/\PL 1000 x/\Q (.bl (OB x)) H
def gH:T.F 1 1 uQ:=by refine BX T.ş.fn sH ?_;k_ne;revert vs;refine Oo λx k q=>?_;have o:x.cps.toList.length=x.length:=Au;refine AU _ (AF (GY (FH EE (LX RI U T.Ň QP (AZ 0)) AJ (BL _)) (KG (FH Wu (pv 0) (JR (v:=.str "abcdefghijklmnopqrstuvwxyz.,-'") U T.zN ⟨_,U⟩) (by with_unfolding_all rfl))))) ?_;z_run;refine⟨DG (by have:=k.1;lia),?_⟩;z_run;refine CG (λi=>?_) (λi=>?_);(.have i:=Ax i;have i:=V.int.inj i;obtain⟨c,j⟩:∃c,x.cps.toList=[c]:=List.length_eq_one_iff.mp (by lia);have ex:x=sg c:=QW j;have d:c<128:=k.2 c (by rw[j];exact Ah.mpr U);z_run;unfold OB at q;rw[j]at q;rw[ex];have e:=Cs.pW c d;lia);have i:=λz=>i (Ab (Bt V.int z));have e:OB x=false:=(by unfold OB;grind);rw[e]at q;exact q
def uR(K:ϡ):Sp:=λc H Q _=>∃(t:Ϡ) (r:BS),c=[.ref t]/\H t=some (.tup (FU r))/\PL 1000 r.s/\Q (.bl (RX r)) H
def uS:T.F 2 2 (uR K):=by refine BX T.Ń.fn TQ ?_;k_ne;revert vs;refine HY λt r o p q=>?_;have iff:RX r=true↔OB r.s=true/\(1<=r.w/\r.w<=99)/\(0<=r.t/\r.t<=127)/\(0<=r.n/\r.n<=40):=(by unfold RX;lia);have qt:OB r.s=true/\(1<=r.w/\r.w<=99)/\(0<=r.t/\r.t<=127)/\(0<=r.n/\r.n<=40)->Q (.bl true) H:=λh=>(by rw[iff.mpr h]at q;exact q);have qf:¬(OB r.s=true/\(1<=r.w/\r.w<=99)/\(0<=r.t/\r.t<=127)/\(0<=r.n/\r.n<=40))->Q (.bl false) H:=λh=>(by lia);clear q iff;refine⟨_,(AH (IU (pv 0) (ES K U (n:=4) U (BO (AQ 1 TQ.nd) (BO (AQ 2 TQ.nd) (BO (AQ 3 TQ.nd) (BO (AQ 4 TQ.nd) EL)))))) (AF (GY (BG T.ş (gH T) hr U (AZ 1)) (GY (UA Ng Ng AJ (pv 2) AJ) (GY (UA Ng Ng AJ (pv 3) AJ) (KG (UA Ng Ng AJ (pv 4) AJ))))))),?_⟩;z_run;(try refine⟨_,_,U,BP.of o,U,?_⟩);x_go;x_go;x_go;x_go;z_run;(try refine⟨r.s,U,p,?_⟩);(try refine⟨_,U,?_⟩);cases d:OB r.s with|false =>lia|true =>rw[d]at qt qf;(try refine BB ?_);z_run;refine CG (λk=>?_) (λk=>?_);(.have k:=Ax k;z_run;refine CG (λc=>?_) (λc=>?_);(.have c:=Ax c;z_run;refine CG (λe=>?_) (λe=>?_);(.have e:=Ax e;z_run;refine CG (λj=>?_) (λj=>?_);(.have j:=Ax j;z_run;refine CG (λi=>?_) (λi=>?_);(.have i:=Ax i;z_run;lia);lia);lia);lia);lia);lia
def uT(K:ϡ):Sp:=λe H Q _=>∃(l t:Ϡ) (c:ϩ BS) (r:BS),e=[.ref l,.ref t]/\Cs.KZ K H l c/\c.length<=1000/\H t=some (.tup (FU r))/\PL 1000 r.s/\∀d,AA H d->Q (.bl (Vc c r)) d
def uU:T.F 3 3 (uT K):=by refine BX T.œ.fn TU ?_;k_ne;revert vs;refine VW λl t e r v C y G q=>?_;unfold Vc at q;refine⟨_,(AH (IU (pv 1) (ES K U (n:=4) U (BO (AQ 2 TU.nd) (BO (AQ 3 TU.nd) (BO (AQ 4 TU.nd) (BO (AQ 5 TU.nd) EL)))))) (AF (GY (BG T.Ń (uS T) hr U (AZ 1)) (GY (P6 (Us (BG T.Ö (Sd T) hr U (AR 0 (AZ 2))))) (KG (FH (aU K U) (pv 4) (BG T.Ī (gE T) hr U (AZ 0)) (by with_unfolding_all rfl))))))),?_⟩;z_run;(try refine⟨_,_,U,BP.of y,U,?_⟩);x_go;x_go;x_go;x_go;(try refine And.intro U ?_);refine⟨_,U,t,r,U,y,G,?_⟩;(try refine⟨_,U,?_⟩);cases i:RX r with|false =>rw[i]at q;(try refine AK ?_);exact q H (AA.refl _)|true =>rw[i]at q;(try refine BB ?_);refine⟨_,U,_,U,l,r.s,e,U,v,λB c=>?_⟩;(try refine⟨_,U,?_⟩);cases d:CV e r.s with|some k =>rw[d]at q;(try refine⟨_,U,?_⟩);(try refine AK ?_);exact q B c|none =>rw[d]at q;(try refine⟨_,U,?_⟩);(try refine BB ?_);refine AU _ U ?_;(try refine⟨_,U,?_⟩);refine CM l e U (v.same c) C (λp I E o z=>?_);have j:MF (.int r.t) ((e.map λx=>x.t).map V.int)=decide (r.t∈e.map λx=>x.t):=gF _ _;refine MY p _ U (.inl (AC.of z)) U (gG _) ?_;rw[j];exact q I (c.trans o)
def uV(xs:ϩ V)(n)(h:n<=xs.length):DV xs none (some (n))=xs.take n:=by unfold DV;have c:HT.DK xs.length 0 none=0:=U;rw[HT.QK,c,Kd,E9 h,Jx]
theorem gI{d c:Type}{F:d->c->Prop}:∀(n) {xs} {ys},Paired F xs ys->Paired F (xs.take n) (ys.take n)
 |0,_,_,_=>.nil|_+1,_,_,.nil=>.nil
 |n+1,_,_,.cons r t=>.cons r (gI n t)
def uW(K:ϡ):Sp:=λi H Q _=>∃(l:Ϡ) (d:ϩ V) (c:ϩ BS),i=[.ref l]/\H l=some (.lst d)/\Paired (Cs.FL H) d c/\c.length<=1000/\(∀r∈c,PL 1000 r.s)/\c≠[]/\dX c c.length/\∀e,AA H e->Q .non e
def uX:T.F 4 4 (uW K):=by
 refine BX T.ĝ.fn Y5 ?_;k_ne;revert vs;refine Sm λl e rs J j ae R L E q=>?_;have ac:=MH j;have ab:=Cw.mpr L;refine⟨_,(AH (CC (CA EE (ln T (pv 0)) AJ (BL _)) (BV LI) CJ) (BV (GZ B6 U (RP K U U T.Ù (AZ 0)) (ES K U (n:=2) U (BO (AQ 1 Y5.nd) (BO (AQ 2 Y5.nd) EL))) (BV (CC (KS (FK (BG T.œ (uU T) hr U (AD (Nw (NQ K U) (pv 0) Ph (LY (pv 1))) (AZ 2))))) (BV LI) CJ))))),?_⟩;refine⟨_,U,l,_,U,.inl (AC.of J),And.intro U ⟨_,U,?_⟩⟩;rw[Aj (λh=>by injection h with h;lia)];refine AK ?_;z_run;try refine⟨⟨_,AC.of J⟩,?_⟩
 let Izz:zT:=λi C s=>∃(Q S:Ϩ V),C=[some (.ref l),Q,S]/\AA H s
 refine SZ (a:=l) (xs:=e) Izz
  ⟨none,none,U,AA.refl _⟩ (λi C s _ I=>by obtain⟨_,_,_,B⟩:=I;exact B.seq (AC.of J)) ?_ ?_
 (.rintro i y p C s hy ⟨Q,S,rfl,B⟩ aa;obtain⟨r,k,t,rfl,ht⟩:=FD j hy;have d:=EY (o:=.tup [.int i,.ref t]) B aa;have X:=d _ _ ht;z_run;x_go;x_go;(try refine And.intro U ?_);generalize upd s p (.tup [.int i,.ref t])=H3 at d X⊢;z_run;refine BY l _ U (AC.of (d _ _ J)) (λp4 Z=>?_);have Y:i<=e.length:=(by have:=(Ap.mp hy).1;lia);have v:=(Ap.mp k).1;rw[uV e i Y];have c:=EY (o:=.lst (e.take i)) d Z;have G:upd H3 p4 (.lst (e.take i)) p4=some (.lst (e.take i)):=AM;have z:=c _ _ ht;generalize upd H3 p4 (.lst (e.take i))=H4 at c G z⊢;refine⟨_,U,p4,t,rs.take i,r,U,⟨_,AC.of G,gI i (EO j c)⟩,by rw[Ao];lia,z,R r (Af k),λH5 O=>⟨_,U,?_⟩⟩;rw[E i r v k];exact AK ⟨_,_,U,c.trans O⟩);refine λC s I=>?_;revert C;refine KE λQ S B=>?_;exact q s B
def uY(K:ϡ):Sp:=λi H Q _=>∃(l:Ϡ) (x:ϥ) (d:ϩ BS),i=[.ref l,.str x]/\Cs.KZ K H l d/\x.length<=1000/\(∀c∈x.cps.toList,(CV d (sg c)).isSome=true)/\∀e,AA H e->Q (.int (KH d x)) e
def gJ:T.F 2 7 (uY K):=by
 refine BX T.ļ.fn sJ ?_;k_ne;revert vs;refine Q8 λl x G O hx s q=>?_;refine AU _ (AF (LX (QS K U U) U T.b_sum WN (AD (CW ["case","word","sign"] [] 1 (RR (pv 1)) (BD 2) EU (BZ (JU K U) (BZ (DE K U) (pv 0) (BG T.Ö (Sd T) hr U (AR 0 (AZ 2))) (λ_ _=>U)) AJ (λ_ _=>U))) AI))) ?_;have R:x.cps.size<=1000:=hx;walk;intro D hD;let Izz:zU:=λi B L z=>∃(I:Ϩ V),B=((x.cps.toList.take i).map λc=>Py G (sg c)).map V.int/\L=[some (.ref l),some (.str x),I]/\AA H z/\z D=some (.lst B)
 refine T6 (x:=x) Izz
  ?_ ?_ ?_
 exact IS none U U (BM hD _) AM;(.refine λi c B L z hc J=>GK λI e d r v=>?_;subst e;subst d;have p:x.cps.toList[i]?=some c:=(by simpa using hc);obtain⟨k,E⟩:=Dt.mp (s c (Af p));walk;refine Qc l (sg c) G U (O.same r) (λH3 j=>?_);rw[E];refine AS (λZ hS X=>?_) (O.same (r.trans j));have o:=UP E;obtain⟨y,Y,t,S,Q⟩:=Cs.Ql X (A6 o);have C:DP Z (k:Int)=some (.ref t):=(by rw[<-S];exact FR Y);refine DH l _ _ _ U U hS C ?_;walk;refine DH t _ _ _ U U (BP.of Q) U (EI J (j _ _ v) ?_ ⟨_,?_,U,DF (r.trans j) hD,AM⟩);grind;rw[Am,p,Ae,Ae];show _=_++[V.int (Py G (sg c))];rw[Cs.mY E o]);refine λB L z=>GK λI e d r v=>?_;subst e;subst d;rw[Ai (by simp)]at v;exact BY D _ U (AC.of v) (q _ r)
def uZ(K:ϡ):Sp:=λj H Q _=>∃(l p:Ϡ) (e:ϩ BS) (d:ώ),j=[.ref l,.ref p]/\Cs.KZ K H l e/\AC K H p (d.map V.str)/\d.length<=1000/\(∀x∈d,x.length<=1000/\∀c∈x.cps.toList,(CV e (sg c)).isSome=true)/\∀i,AA H i->Q (.int (IY e d)) i
def gK:T.F 3 9 (uZ K):=by
 refine BX T.Ş.fn sQ ?_;k_ne;revert vs;refine VW λl p G C I E L Q q=>?_;refine AU _ (AF (LX (QS K U U) U T.b_sum WN (AD (CW ["case","line","word"] [] 1 (EV K U (pv 1)) (BD 2) EU (BG T.ļ (gJ T) hr U (AR 0 (AZ 2)))) AI))) ?_;walk;try refine⟨⟨_,E⟩,?_⟩
 intro D hD;let Izz:zU:=λi o v k=>∃(z:Ϩ V),o=((C.take i).map λx=>KH G x).map V.int/\v=[some (.ref l),some (.ref p),z]/\AA H k/\k D=some (.lst o)
 refine GN (a:=p) (xs:=C.map V.str) Izz
  ?_ ?_ ?_ ?_
 exact IS none U U (BM hD _) AM;exact λi o v k _ ⟨_,_,_,e,_⟩=>e.seq E;(.refine λi y o v k R B=>GK λz c d e s=>?_;subst c;subst d;refine AS (λx c r=>?_) (X8 R);subst c;obtain⟨O,J⟩:=Q x (Af r);walk;refine DZ l x G U (I.same e) O J (λS j=>EI B (j _ _ s) ?_ ⟨_,?_,U,DF (e.trans j) hD,AM⟩);grind;rw[Am,r,Ae,Ae];rfl);refine λo v k=>GK λz c d e s=>?_;subst c;subst d;rw[A3,Ai (A9 _)]at s;exact BY D _ U (AC.of s) (q _ e)
def Se{K}(e:AA H c)(h:BP K H b xs):BP K c b xs:=h.imp (λh=>h.imp (e _ _) λ⟨o,h⟩=>⟨o,e _ _ h⟩) id
def va(K:ϡ):Sp:=λj H Q _=>∃(d m e c i:Int) (g:Ϡ),j=[.int d,.int m,.ref g]/\BP K H g [.int e,.int c,.int i]/\0<=m/\m<=1000/\Q (.int (Ln.misfit d m e i)) H
def gL:T.F 1 10 (va K):=by refine BX T.misfit.fn Vq ?_;k_ne;revert vs;refine Su λk m o d p g j e i q=>?_;unfold Ln.misfit at q;refine⟨_,(AH (IU (pv 2) (ES K U (n:=3) U (BO (AQ 3 Vq.nd) (BO (AQ 4 Vq.nd) (BO (AQ 5 Vq.nd) EL))))) (AH (CC (CA Pf (pv 0) (AX Nd (pv 1) (pv 5)) (BL _)) (AF (AX LU (pv 0) (AX Nd (pv 1) (pv 5)))) CJ) (AF (LX (kE U) U T.b_min nI (AD (AX LU (pv 0) (AX Nd (pv 1) (pv 3))) (AD AJ AI)))))),?_⟩;walk;(try refine⟨_,_,U,j,U,?_⟩);x_go;x_go;x_go;walk;refine CG (λc=>?_) (λc=>?_);(.rw[B1 (Ax c)]at q;walk;exact q);rw[Av (λz=>c (Ab z))]at q;walk;exact Nn _ _ U q
def vb:Sp:=λd H Q _=>∃a b:Nat,d=[.int (a:Int),.int (b:Int)]/\∀c,AA H c->Q (.int ((Nat.gcd a b:Nat):Int)) c
def vc:T.F 1 11 vb:=by
 refine BX T.ö.fn fY ?_;k_ne;revert vs;refine KE λx y q=>?_;refine⟨_,(AH (Pb B6 (CA My (pv 1) AJ (BL _)) (BV (ke (i:=0) (j:=1) U fY.nd U U (by lk) U U (AR 1 (AD (AX GM (pv 0) (pv 1)) AI)) U)))
  (AF (pv 0))),?_⟩
 let Izz:zT:=λm s B=>∃u v:Nat,s=[some (.int (u:Int)),some (.int (v:Int))]/\B=H/\Nat.gcd u v=Nat.gcd x y/\v=m;refine AU Izz ⟨y,x,y,U,U,U,U⟩ ?_;refine λm s B O=>?_;revert s;refine HY λu v e r k=>?_;subst e;subst k;z_run;refine CG (λc=>?_) (λc=>?_);(.have C:v≠0:=λz=>(by rw[z]at c;exact absurd c (by lk));let Izz:zS:=λo E=>∃p d:Nat,o=[some (.int (p:Int)),some (.int (d:Int))]/\E=B/\Nat.gcd p d=Nat.gcd x y/\d<v;refine AU Izz (λo E ⟨p,d,I,G,J,L⟩=>⟨d,L,p,d,I,G,J,U⟩) ?_;z_run;refine⟨_,_,U,v,u%v,by rw[Int.natCast_emod];rfl,U,?_,Nat.mod_lt _ (by lia)⟩;rw[Nat.gcd_comm v,<-Nat.gcd_rec v u,Nat.gcd_comm v u];exact r);have C:v=0:=(by lia);z_run;subst C;rw[Nat.gcd_zero_right]at r;have q:=q _ (AA.refl _);rw[<-r]at q;exact q
noncomputable def Oj (c d:Int):Int×Int:=if 0<d then(c/(Nat.gcd c.toNat d.toNat:Nat),d/(Nat.gcd c.toNat d.toNat:Nat))else(0,1)
def vd:Sp:=λd H Q _=>∃u v:Nat,d=[.int (u:Int),.int (v:Int)]/\0<v/\v<=1000000/\∀t c,H t=none->AA H c->c t=some (.tup [.int ((u:Int)/(Nat.gcd u v:Nat)),.int ((v:Int)/(Nat.gcd u v:Nat))])->Q (.ref t) c
def vf:T.F 2 12 vd:=by refine BX T.ħ.fn fZ ?_;k_ne;revert vs;refine HY λx y c j q=>?_;have p:0<Nat.gcd x y:=Nat.gcd_pos_of_pos_right _ c;refine⟨_,(AH (AL 2 fZ.nd (BG T.ö (vc T) hr U (AR 0 (AZ 1)))) (AF (FP (AD (AX LV (pv 0) (pv 2)) (AD (AX LV (pv 1) (pv 2)) AI))))),?_⟩;z_run;refine Nn x y U (λo e=>?_);have k:(0:Int)<((Nat.gcd x y:Nat):Int):=(by lia);have i:Nat.gcd x y<=y:=Nat.gcd_le_right _ c;z_run;intro t d;exact q t _ (e.free d) (EY e d) AM
structure JD(K:ϡ)(H:Hp)(l p g:Ϡ)(m lo ý hi:Int)(rs:ϩ BS)(ws:ώ):Prop where
 case:Cs.KZ K H l rs
 line:AC K H p (ws.map V.str)
 gaps:BP K H g [.int lo,.int ý,.int hi]
 ne:ws≠[]
 Ĕ:ws.length<=100
 ok:∀x∈ws,x.length<=1000/\∀c∈x.cps.toList,(CV rs (sg c)).isSome=true
 lo0:0<=lo
 lohi:lo<=hi
 hi1:hi<=1000
 m0:0<=m
 m1:m<=100000
 b0:0<=IY rs ws
 b1:IY rs ws<=10000000
def JD.same{K}(h:JD K H l p g m lo c e rs ws)(s:AA H d):JD K d l p g m lo c e rs ws :=⟨h.case.same s,s.seq h.line,Se s h.gaps,h.ne,h.Ĕ,h.ok,h.lo0,h.lohi,h.hi1,h.m0,h.m1,h.b0,h.b1⟩
abbrev Ro(m lo c:Int)(rs:ϩ BS)(ws:ώ):Int:=Ln.misfit (m-IY rs ws) ((ws.length:Int)-1) lo c
abbrev Qt(m c:Int)(rs:ϩ BS)(ws:ώ):Prop:=IY rs ws+((ws.length:Int)-1)*c<=m
def Nl(rs:ϩ BS)(m:Int)(l:ώ):Int×Int:=Oj (m-IY rs l) ((l.length:Int)-1)
noncomputable def LC (rs:ϩ BS) (m c:Int) (l:ώ):Int×Int:=if Qt m c rs l then(c,1)else Nl rs m l
def vg(K:ϡ):Sp:=λo H Q _=>∃(l p g:Ϡ) (m j c k:Int) (d:ϩ BS) (e:ώ),o=[.ref l,.ref p,.int m,.ref g]/\JD K H l p g m j c k d e/\Ro m j k d e=0/\∀t i,H t=none->AA H i->i t=some (.tup [.int (Nl d m e).1,.int (Nl d m e).2])->Q (.ref t) i
def Yn:T.F 4 13 (vg K):=by refine BX T.Ě.fn Vr ?_;k_ne;revert h;refine EK λl p g m v=>HX λe H i c=>FY λj G y q=>?_;subst j;have B:=Cw.mpr G.ne;have J:=G.Ĕ;refine⟨_,(AH (AL 4 Vr.nd (AX LU (ln T (pv 1)) AJ)) (AH (AL 5 Vr.nd (AX LU (pv 2) (BG T.Ş (gK T) hr U (AR 0 (AZ 1))))) (AH (AL 6 Vr.nd (BG T.misfit (gL T) hr U (AR 5 (AR 4 (AZ 3))))) (AH (CC (CA Pf (pv 6) AJ (BL _)) (BV LI) CJ) (AH (CC (CA NO (pv 6) AJ (BL _)) (BV LI) CJ) (AF (Pa (CA Pf (pv 4) AJ (BL _)) (BG T.ħ (vf T) hr U (AR 5 (AZ 4))) (FP (AD AJ (AD AJ AI)))))))))),?_⟩;z_run;refine BY p _ U (.inl G.line) ?_;rw[A3];z_run;refine NL l p i c U G.case G.line (by lia) G.ok (λO d=>?_);z_run;refine OX _ _ v e H g U (Se d G.gaps) (by lia) (by lia) ?_;rw[show Ln.misfit (m-IY i c) ((c.length:Int)-1) v H=0 from y];have C:=(cY (sp:=m-IY i c) (Ek G.lohi (by lia))).mp y;have Q:(0:Int)<=((c.length:Int)-1)*v:=Ig (by lia) G.lo0;z_run;unfold Nl Oj at q;refine CG (λk=>?_) (λk=>?_);(.have k:=Ax k;obtain⟨u,E⟩:=Bx (show 0<=m-IY i c by lia);have I:(c.length:Int)-1=((c.length-1:Nat):Int):=(by lia);z_run;rw[B1 k,show(m-IY i c).toNat=u by lia,show((c.length:Int)-1).toNat=c.length-1 by lia,E,I]at q;refine CM u (c.length-1) (by show [V.int (m-IY i c),V.int ((c.length:Int)-1)]=_;rw[E,I]) (by lia) (by lia) (λt L o r s=>q t L (d.free o) (d.trans r) s));rw[Av (λz=>k (Ab z))]at q;z_run;exact λt o=>q t _ (d.free o) (EY d o) AM
def vh(K:ϡ):Sp:=λo H Q _=>∃(l p g:Ϡ) (m j c k:Int) (d:ϩ BS) (e:ώ),o=[.ref l,.ref p,.int m,.ref g]/\JD K H l p g m j c k d e/\j<=c/\c<=k/\(Qt m c d e\/Ro m j k d e=0)/\∀t i,H t=none->AA H i->i t=some (.tup [.int (LC d m c e).1,.int (LC d m c e).2])->Q (.ref t) i
def gM:T.F 5 14 (vh K):=by refine BX T.ń.fn Vs ?_;k_ne;revert h;refine EK λl p g m O=>HX λd J v k=>FZ λi G L C I q=>?_;subst i;have s:=Cw.mpr G.ne;have y:=G.Ĕ;have hi1:=G.hi1;have lo0:=G.lo0;have E:(0:Int)<=((k.length:Int)-1)*d:=Ig (by lia) (by lia);have H:((k.length:Int)-1)*d<=100*1000:=Int.mul_le_mul (by lia) (by lia) (by lia) (by lia);have b0:=G.b0;have b1:=G.b1;unfold LC at q;refine⟨_,(AH (IU (pv 3) (ES K U (n:=3) U (BO (AQ 4 Vs.nd) (BO (AQ 5 Vs.nd) (BO (AQ 6 Vs.nd) EL))))) (AH (CC (CA Ng (AX DT (BG T.Ş (gK T) hr U (AR 0 (AZ 1))) (AX Nd (AX LU (ln T (pv 1)) AJ) (pv 5))) (pv 2) (BL _)) (AF (FP (AR 5 (AD AJ AI)))) CJ) (AF (BG T.Ě (Yn T) hr U (AR 0 (AR 1 (AR 2 (AZ 3)))))))),?_⟩;z_run;(try refine⟨_,_,U,G.gaps,U,?_⟩);x_go;x_go;x_go;z_run;refine NL l p v k U G.case G.line (by lia) G.ok (λQ e=>?_);z_run;refine BY p _ U (.inl (e.seq G.line)) ?_;rw[A3];z_run;refine CG (λc=>?_) (λc=>?_);(.rw[B1 (Ax c)]at q;z_run;exact λt j=>q t _ (e.free j) (EY e j) AM);have c:=λz=>c (Ab z);rw[Av c]at q;z_run;exact DC l p g m O (LO d J v k (GC U (G.same e) (I.resolve_left c) (λt B j o r=>q t B (e.free j) (e.trans o) r)))
def vi(K:ϡ):Sp:=λo H Q _=>∃(e m j c k:Int) (g:Ϡ) (d:Bool),o=[.int e,.int m,.ref g,.bl d]/\BP K H g [.int j,.int c,.int k]/\0<=m/\m<=1000/\-1000000000<=e/\e<=1000000000/\0<=c/\c<=1000/\∀i,AA H i->Q (DW (FV e m j c k d)) i
def vj:T.F 2 15 (vi K):=by refine BX T.zD.fn TV ?_;k_ne;revert h;refine EK λo m y d s=>JG λg e=>MV λp G i j L Q C=>KM λB q=>?_;subst p;obtain⟨O,R⟩:=Ln.nW i j C B;refine⟨_,(AH (IU (pv 2) (ES K U (n:=3) U (BO (AQ 4 TV.nd) (BO (AQ 5 TV.nd) (BO (AQ 6 TV.nd) EL))))) (AH (AL 7 TV.nd (AX LU (pv 0) (AX Nd (pv 1) (pv 5)))) (AH (CC (PW.pt (P9 (FK (pv 3)) (P7 (CA Zr (pv 7) AJ (BL _))))) (AF AJ) CJ) (AF (Pa (CA EE (BG T.misfit (gL T) hr U (AR 0 (AR 1 (AZ 2)))) AJ (BL _)) (AX Nd (pv 7) (pv 7)) QB))))),?_⟩;z_run;(try refine⟨_,_,U,G,U,?_⟩);x_go;x_go;x_go;have rest:∀v:V->Hp->Prop,(∀J,AA H J->v (DW (FV o m y d s e)) J)->¬(e=true/\0<=o-m*d) ->(if Ln.misfit o m y s=0 then v (.int ((o-m*d)*(o-m*d))) H else v .non H):=λv S I=>(by have k:=S H (AA.refl _);split;(.rename_i E;rw[Ln.nU I E]at k;exact k);rename_i E;rw[Ln.nV I E]at k;exact k);cases e with|false =>z_run;(try refine AK ?_);(try refine AK ?_);z_run;refine OX _ _ y d s g U G i j ?_;z_run;have r:=rest _ q (λz=>by cases z.1);refine CG (λc=>?_) (λc=>?_);(.rw[B1 (V.int.inj (Ax c))]at r;z_run;exact r);rw[Av (λz=>c (Ab (Bt V.int z)))]at r;exact r|true =>z_run;(try refine BB ?_);z_run;refine CG (λc=>?_) (λc=>?_);have k:=q H (AA.refl _);rw[X9 U (Ax c)]at k;exact k;z_run;refine OX _ _ y d s g U G i j ?_;z_run;have r:=rest _ q (λz=>c (Ab z.2));refine CG (λc=>?_) (λc=>?_);(.rw[B1 (V.int.inj (Ax c))]at r;z_run;exact r);rw[Av (λz=>c (Ab (Bt V.int z)))]at r;exact r
abbrev DD(rs:ϩ BS)(ws:ώ)(ms lo c d:Int):Br.Mf:=⟨ws.map λx=>KH rs x,ms,lo,c,d⟩
def vk(K:ϡ):Sp:=λy H Q _=>∃(l p g:Ϡ) (k:ϩ BS) (j:ώ) (o v e s:Int),y=[.ref l,.ref p,.int o,.ref g]/\Cs.KZ K H l k/\AC K H p (j.map V.str)/\j.length<=63/\(∀x∈j,x.length<=1000/\∀c∈x.cps.toList,(CV k (sg c)).isSome=true)/\(∀x∈j,0<=KH k x/\KH k x<=100000) /\BP K H g [.int v,.int e,.int s]/\0<=e/\e<=1000/\0<=o/\o<=1000000/\∀(d:Ϡ) (i:ϩ (ϩ GO×V)) (r:Hp),H d=none->AA H r->r d=some (.dT i)->V0 (DD k j o v e s) i->Q (.ref d) r
def vm:T.F 3 16 (vk K):=by
 refine BX T.Ŵ.fn Qq ?_;k_ne;revert h;refine EK λl p g rs O=>HX λms lo ý hi=>MV λag hC hL aJ hw aF hG=>HP λay ar aG aK q=>?_;subst ag;refine⟨_,(AH (Pt (i:=4) Qq.nd U NM U (EV K U (pv 1)) (DU.of (N':=["case","words","measure","gaps","widths","costs","start","spare","end","cost","word"]) (ms:=[]) (k:=1) (by rfl)) (λ_ _ _ _ _=>(BD 10)) (λ_ _ _ _ _=>EU) (λ_ _ _ _ _=>(BG T.ļ (gJ T) hr U (AR 0 (AZ 10)))))
  (AH (AL 5 Qq.nd nG)
  (AH (GZ B6 U (NN U T.É (AD (ln T (pv 1)) AI)) (AQ 6 Qq.nd) (AH (AL 7 Qq.nd (pv 2))
  (BV (GZ B6 U (Wq U T.É (AD (AX DT (pv 6) AJ) (AD (AX DT (ln T (pv 1)) AJ) AI))) (AQ 8 Qq.nd) (AH (AL 7 Qq.nd (AX LU (pv 7) (BZ (DE K U) (pv 4) (AX LU (pv 8) AJ) (λ_ _=>U))))
  (AH (AL 9 Qq.nd (BG T.zD (vj T) hr U (AR 7 (AD (AX LU (AX LU (pv 8) (pv 6)) AJ) (AR 3 (AD (FH EE (pv 8) (ln T (pv 1)) (BL _)) AI))))))
  (BV (CC (Ut (QC (pv 9))) (BV (nD (UG hr) (pv 5) (FP (AR 6 (AZ 8))) (pv 9) U)) CJ))))))))
  (AF (pv 5))))),?_⟩
 generalize J:DD rs O ms lo ý hi=o at q;have ae:o.zs=O.map λx=>KH rs x:=by rw[<-J]
 have ap:o.zs.length=O.length:=by rw[ae,A3]
 have aC:o.n=O.length:=ap;have aD:o.ms=ms:=by rw[<-J]
 have aq:o.lo=lo:=by rw[<-J]
 have au:o.ý=ý:=by rw[<-J]
 have as:o.hi=hi:=by rw[<-J]
 have af:∀z∈o.zs,0<=z/\z<=100000:=λz hz=>by grind
 have ak:∀i j,j<=o.zs.length->0<=List.sum (Mh o.zs i j)/\List.sum (Mh o.zs i j)<=6300000:=λi j hj=>by have h1:=UX (zs:=Mh o.zs i j) (B:=100000) (by lk) λz hz=>af z (Gk (Kj hz));have h2:=Br.da (i:=i) hj;lia
 z_run;try refine⟨⟨_,hL⟩,?_⟩
 intro D hD;let Izz:zU:=λi ys s H2=>∃(av:Ϩ V),ys=((O.take i).map λx=>KH rs x).map V.int/\s=[some (.ref l),some (.ref p),some (.int ms),some (.ref g),none,none,none,none,none,none,av]/\AA H H2/\H2 D=some (.lst ys)
 refine GN (a:=p) (xs:=O.map V.str) Izz
  ?_ ?_ ?_ ?_
 exact IS none U U (BM hD _) AM;exact λi ys s H2 _ ⟨_,_,_,hs,_⟩=>hs.seq hL;(.refine λi y ys s H2 hy aB=>GK λv2 r I hs hh=>?_;subst r;subst I;refine AS (λx r aj=>?_) (X8 hy);subst r;obtain⟨h1,h2⟩:=hw x (Af aj);z_run;refine DZ l x rs U (hC.same hs) h1 h2 (λH3 v=>EI aB (v _ _ hh) ?_ ⟨_,?_,U,DF (hs.trans v) hD,AM⟩);grind;rw[Am,aj,Ae,Ae];rfl)
 .refine λys s H2=>GK λv2 r I G al=>?_;subst r;subst I;rw[A3,Ai (A9 _),<-ae]at al;z_run;intro d hd;have ax:=G.free hd;z_run;refine BY p _ U (.inl ((EY G hd).seq hL)) ?_;rw[A3];refine IS _ U (by lia) (by lia) ?_;let Izz:zT:=λi s H3=>∃(e:ϩ (ϩ GO×V)) (v6 v7 S X:Ϩ V),s=[some (.ref l),some (.ref p),some (.int ms),some (.ref g),some (.ref D),some (.ref d),v6,v7,S,X]/\AA H2 H3/\H3 d=some (.dT e)/\e.length<=i*100/\Br.Mi o e λa _=>a<i
  refine Nr (n:=O.length) Izz
   ⟨[],none,none,none,none,U,BM hd _,AM,B8 _,Br.Mi.nil o⟩ ?_ ?_
  .refine λi s H3 aL ac=>?_;revert s;refine RD λe v6 v7 S X v Y am aa=>?_;z_run;refine BY p _ U (.inl ((G.trans v).seq hL)) ?_;rw[A3];refine⟨_,_,U,U,_,_,U,⟨by lia,by lia,by lia,by lia⟩,?_⟩;let Izz:zT:=λk s H4=>∃(e:ϩ (ϩ GO×V)) (S X:Ϩ V),s=[some (.ref l),some (.ref p),some (.int ms),some (.ref g),some (.ref D),some (.ref d),some (.int (0+(i:Int))),some (.int (ms-List.sum (Mh o.zs i (i+k)))),S,X]/\AA H2 H4/\H4 d=some (.dT e)/\e.length<=i*100+k/\Br.Mi o e λa b=>a<i\/(a=i/\b<i+1+k)
   refine Nr (n:=((O.length:Int)+1-(0+(i:Int)+1)).toNat) Izz
    ⟨e,S,X,?_,v,Y,am,aa.iff λa b az hb=>?_⟩ ?_ ?_
   rw[L9,Br.og];show _=[_,_,_,_,_,_,_,some (V.int (ms-0)),_,_];rw[Int.sub_zero];rfl;(.constructor<;>intro z<;>lia);(.refine λk s H4 hk ac=>?_;revert s;refine Q8 λe S X C R ao E=>?_;have an:i+k<o.zs.length:=(by lia);have Q:=A6 an;have aA:DP (o.zs.map V.int) (0+(i:Int)+1+(k:Int)-1)=some (.int o.zs[i+k]):=(by rw[show 0+(i:Int)+1+(k:Int)-1=((i+k:Nat):Int) by lia];exact FR (by rw[An,Q]<;>rfl));have ai:=af _ (Dn an);have aI:=ak i (i+k) (by lia);have Z:=Br.oj Q;rw[aD,aq,au,as]at Z;generalize o.zs[i+k]=z at Q aA ai Z;have aH:=C _ _ al;have aw:=Se (G.trans C) hG;have e3:0+(i:Int)+1+(k:Int)-(0+(i:Int))-1=(k:Int):=(by lia);have e4:decide (V.int (0+(i:Int)+1+(k:Int))=V.int (O.length:Int))=decide (i+1+k=o.n):=(by rw[Nx,C4];lia);have e5:ms-List.sum (Mh o.zs i (i+k))-z=ms-List.sum (Mh o.zs i (i+(k+1))):=(by rw[show i+(k+1)=i+k+1 by lia,Br.dc (by lia) Q,Gs,Du,List.sum_nil];lia);have ek:([Sum.inl (0+(i:Int)),Sum.inl (0+(i:Int)+1+(k:Int))]:ϩ GO)=[Sum.inl (i:Int),Sum.inl ((i+1+k:Nat):Int)]:=(by lia);z_run;refine BY p _ U (.inl ((G.trans C).seq hL)) ?_;rw[A3];z_run;refine DC _ _ lo ý hi (Nm g _ (DY U aw (by lia) (by lia) (by lia) (by lia) (IQ ay ar (λH5 L=>?_))));rw[e3,e4,Z];cases ah:lc o i (i+1+k)with|none =>z_run;(try refine AK ?_);exact DZ e _ _ (by rw[<-e5];rfl) (C.trans L) (L _ _ R) (by lia) (E.skip ah)|some c =>z_run;(try refine BB ?_);z_run;intro b hb;refine BY d _ U (Oa.t (k:=[Sum.inl (0+(i:Int)),Sum.inl (0+(i:Int)+1+(k:Int))]) (BM hb (.tup [.int (0+(i:Int)),.int (0+(i:Int)+1+(k:Int))]) _ _ (L _ _ R)) AM (KY (by lia))) ?_;rw[ek];have aE:=X4 e [Sum.inl (i:Int),Sum.inl ((i+1+k:Nat):Int)] (V.int c);have ab:(GH e [Sum.inl (i:Int),Sum.inl ((i+1+k:Nat):Int)] (V.int c)).length<=i*100+(k+1):=(by lia);exact DZ _ _ _ (by rw[<-e5];rfl) (DF (EY (C.trans L) hb) hd) AM ab (E.put ah));refine λs H4 ac=>?_;revert s;refine Q8 λe S X C R ao E=>?_;refine DC e _ _ _ _ (MX U C R (by lia) (E.iff λa b az hb=>?_));constructor<;>intro z<;>lia
  refine λs H3 ac=>?_;revert s;refine RD λe v6 v7 S X v Y am aa=>?_;z_run;exact q d e H3 ax (G.trans v) Y (Br.Mi.all (aa.iff λa b _ _=>by rw[aC]))
def vn(K:ϡ):Sp:=λk H Q _=>∃(d t:Ϡ) (c:ϩ (ϩ GO×V)) (tb:ϩ ϑ) (i j:Nat),k=[.ref d,.ref t,.int (i:Int),.int (j:Int)]/\H d=some (.dT c)/\AC K H t (tb.map DW)/\j<tb.length /\∀e,AA H e->Q (.bl ((DX c [.inl (i:Int),.inl (j:Int)]).isSome&&(tb.getD j none).isSome)) e
def vo:T.F 1 17 (vn K):=by refine BX T.Ņ.fn sR ?_;k_ne;revert vs;refine Su λd t p tb i j hd y s q=>?_;refine AU _ (AF (GY (P6 (cT (UG hr) (FP (AR 2 (AZ 3))) (pv 0))) (KG (P6 (QC (BZ (DE K U) (pv 1) (pv 3) (λ_ _=>U))))))) ?_;have e:DP (tb.map DW) (j:Int)=some (DW (tb.getD j none)):=FR (by rw[An,A6 s,Bf,A6 s]<;>rfl);z_run;intro b r;z_run;refine BY d _ U (JV.t (k:=[Sum.inl (i:Int),Sum.inl (j:Int)]) (BM r (.tup [.int (i:Int),.int (j:Int)]) _ _ hd) AM) ?_;have o:=q _ (BM r (.tup [.int (i:Int),.int (j:Int)]));generalize DX p [Sum.inl (i:Int),Sum.inl (j:Int)]=z at o⊢;generalize tb.getD j none=v at o e⊢;cases z with|none =>exact AU _ U (AK o)|some c =>refine AU _ U (BB ⟨_,U,_,U,t,_,_,_,U,U,(BM r _).seq y,e,?_⟩);cases v with|none=>exact o|some B=>exact o
def vp(K:ϡ):Sp:=λp H Q _=>∃(d t:Ϡ) (e:ϩ (ϩ GO×V)) (tb:ϩ ϑ) (c:Br.Mf) (i:Nat),p=[.ref d,.ref t,.int (i:Int)]/\H d=some (.dT e)/\V0 c e/\AC K H t (tb.map DW)/\tb.length=c.n+1/\i<c.n/\c.n<=63 /\∀(r:Ϡ) (o:ϩ V) (k:Hp),H r=none->AA H k->k r=some (.lst o)->Paired (RU k) o (IB c (λj=>tb.getD j none) i (c.n-i))->Q (.ref r) k
def gN:T.F 2 18 (vp K):=by
 refine BX T.Ţ.fn g7 ?_;k_ne;revert vs;refine jk λd t aj tb p i hd ag hT am hi hn q=>?_;refine⟨_,(AH (Pt (i:=3) g7.nd U NM U (Wq U T.É (AD (AX DT (pv 2) AJ) (AD (ln T (pv 1)) AI))) (DU.of (N':=["costs","table","start","ends","end"]) (ms:=[]) (k:=1) (by rfl)) (λ_ _ _ _ _=>(BD 4)) (λ_ _ _ _ _=>(UM (FK (BG T.Ņ (vo T) hr U (AR 0 (AR 1 (AR 2 (AZ 4)))))))) (λ_ _ _ _ _=>(pv 4)))
  (AF (CW ["costs","table","start","ends","end"] [] 1 (EV K U (pv 3)) (BD 4) EU (FP (AD (AX DT (nC (UG hr) (pv 0) (FP (AR 2 (AZ 4))) (λ_ _=>U)) (BZ (DE K U) (pv 1) (pv 4) (λ_ _=>U))) (AZ 4)))))),?_⟩
 have ae:(tb.map DW).length=p.n+1:=by rw[A3,am]
 z_run;refine BY t _ U (.inl hT) ?_;rw[ae];refine BY _ _ U ⟨by lia,by lia,by lia,by lia⟩ (λD hD=>?_);generalize an:(λj=>tb.getD j none)=f at q;have hf:∀j,tb.getD j none=f j:=λj=>by rw[<-an]
 let Izz:zU:=λk s G H2=>∃(R:Ϩ V),s=(Br.ends p f i k).map (λe:Nat=>V.int (e:Int))/\G=[some (.ref d),some (.ref t),some (.int (i:Int)),none,R]/\AA H H2/\H2 D=some (.lst s)
 refine ZZ (n:=(((p.n+1:Nat):Int)-((i:Int)+1)).toNat) Izz
  ?_ ?_ ?_
 exact IS none U U (BM hD _) AM;(.refine λk s G H2 hk=>GK λR E B hs hh=>?_;subst E;subst B;have X:=V1 (λk=>(IZ (lc p i (i+1+k)) (f (i+1+k))).map λ_=>i+1+k) k;have X:(Br.ends p f i k).length<=k:=X;have v:Br.ends p f i (k+1)=Br.ends p f i k++((IZ (lc p i (i+1+k)) (f (i+1+k))).map λ_=>i+1+k).toList:=Br.RT _ k;have ej:(i:Int)+1+(k:Int)=((i+1+k:Nat):Int):=(by lia);rw[ej];z_run;refine OX d t aj tb i (i+1+k) U (hs _ _ hd) (hs.seq hT) (by lia) (λJ r=>?_);rw[ag i (i+1+k) (by lia) (by lia),hf];z_run;cases h1:lc p i (i+1+k)with|none =>rw[h1]at v;refine AK (RO hk ⟨_,?_,U,hs.trans r,r _ _ hh⟩);rw[v];show _=(_++[]).map _;rw[Aq]|some c =>cases h2:f (i+1+k)with|none =>rw[h1,h2]at v;refine AK (RO hk ⟨_,?_,U,hs.trans r,r _ _ hh⟩);rw[v];show _=(_++[]).map _;rw[Aq]|some c2 =>rw[h1,h2]at v;refine BB ?_;z_run;refine EI hk (r _ _ hh) (by rw[A3];lia) ⟨_,?_,U,DF (hs.trans r) hD,AM⟩;rw[v,Ae];rfl)
 .refine λs G H2=>GK λR E B Q Y=>?_;subst E;subst B;have en:(((p.n+1:Nat):Int)-((i:Int)+1)).toNat=p.n-i:=(by lia);rw[en]at Y;have ao:=hD;z_run;(try refine⟨⟨_,AC.of Y⟩,?_⟩);intro D2 O;have X:(Br.ends p f i (p.n-i)).length<=p.n-i:=V1 _ _;have I:(IB p f i (p.n-i)).length=(Br.ends p f i (p.n-i)).length:=(by rw[<-de,A3]);let Izz:zU:=λk s G J=>∃(R:Ϩ V),G=[some (.ref d),some (.ref t),some (.int (i:Int)),some (.ref D),R]/\AA H2 J/\J D2=some (.lst s)/\Paired (RU J) s ((IB p f i (p.n-i)).take k)
  refine GN (a:=D) (xs:=(Br.ends p f i (p.n-i)).map (λe:Nat=>V.int (e:Int))) Izz
   ?_ ?_ ?_ ?_
  exact IS none U (BM O _) AM .nil;exact λk s G J _ ⟨_,_,r,_⟩=>AC.of (r _ _ Y);(.refine λk y s G J hy aa ai=>?_;revert G;refine KN λR r ab C=>?_;have ac:=aa;rw[A3,<-I]at aa;obtain⟨x,hx⟩:∃x,(IB p f i (p.n-i))[k]?=some x:=⟨_,A6 aa⟩;obtain⟨m1,m2,c1,c2,e1,e2,e3⟩:=Br.dh (Af hx);have ah:y=.int ((x.2:Nat):Int):=(by rw[<-de,D7,An,hx]at hy;exact(B0 hy).symm);subst ah;have ak:(IB p f i (p.n-i)).take (k+1)=(IB p f i (p.n-i)).take k++[x]:=(by rw[Am,hx];rfl);have ap:s.length<=63:=(by rw[B2 C,Ao];lia);have L:=Q.trans r;have al:DP (tb.map DW) ((x.2:Nat):Int)=some (.int c2):=(by have af:x.2<tb.length:=(by lia);have e4:=hf x.2;rw[e2,Bf,A6 af]at e4;have e4:tb[x.2]=some c2:=e4;exact FR (by rw[An,A6 af,e4]<;>rfl));z_run;intro b hb;have hg:=JV.t (k:=[Sum.inl (i:Int),Sum.inl ((x.2:Nat):Int)]) (BM hb (.tup [.int (i:Int),.int ((x.2:Nat):Int)]) _ _ (L _ _ hd)) AM;rw[ag i x.2 m1 (by lia),e1]at hg;z_run;refine BY d _ U hg ?_;z_run;refine DH t _ _ _ U U ((EY (o:=.tup [.int (i:Int),.int ((x.2:Nat):Int)]) L hb).seq hT) al ?_;z_run;intro b2 S;have Z:=BM S (.tup [.int (c1+c2),.int ((x.2:Nat):Int)]) _ _ (BM hb (.tup [.int (i:Int),.int ((x.2:Nat):Int)]) _ _ ab);refine EI (ys:=s) ac Z (by lia) ⟨_,U,DF (EY (EY r hb) S) O,AM,?_⟩;rw[ak];refine Bz (Br.oo (di (di C (BM hb _)) (BM S _)) Z (λz e=>by cases e)) ⟨b2,U,?_⟩;rw[BJ (HB AM Z (λe=>by cases e)),AM,e3]);refine λs G J ai=>?_;revert G;refine KN λR r ab C=>?_;rw[A3,<-I,Ai (A9 _)]at C;exact q D2 s J (Q.free O) (Q.trans r) ab C
def Yo(h:k<n):Ov n (k)=some k:=by unfold Ov;grind
def vq(n):(List.replicate n [V.non]).flatten++[V.int 0]=((List.replicate n (none:ϑ))++[some 0]).map DW:=by induction n with|zero=>rfl|succ n c =>rw[Dh,Dc,Dh];show V.non::((List.replicate n [V.non]).flatten++[V.int 0])=DW none::_;rw[c];rfl
def vr(c):Br.JJ c (λj=>((List.replicate c.n (none:ϑ))++[some 0]).getD j none) c.n:=by refine⟨?_,λi e d=>absurd e (Nat.not_le_of_lt d)⟩;show((List.replicate c.n (none:ϑ))++[some 0]).getD c.n none=some 0;rw[Bf,Cb (by rw[By];exact A9 _),By,En];rfl
def map_set{tb:ϩ ϑ}{i}{v}:(tb.map DW).set i (DW v)=(tb.set i v).map DW:=by rw[Gz]
def vt(K:ϡ):Sp:=λk H Q _=>∃(d:Ϡ) (c:ϩ (ϩ GO×V)) (e:Br.Mf),k=[.ref d,.int (e.n:Int)]/\H d=some (.dT c)/\V0 e c/\e.n<=63 /\∀(r:Ϡ) (tb:ϩ ϑ) (i:Hp),H r=none->AA H i->i r=some (.lst (tb.map DW))->tb.length=e.n+1->Br.JJ e (λj=>tb.getD j none) 0->Q (.ref r) i
def vv:T.F 3 19 (vt K):=by
 refine BX T.Ÿ.fn Y7 ?_;k_ne;revert vs;refine Q8 λd aa e hd af hn q=>?_;refine⟨_,(AH (AL 2 Y7.nd (AX SW (AX SX (CO (AD QB AI)) (pv 1)) (CO (AD AJ AI)))) (AH (GZ B6 U (d9 U T.É (AD (AX LU (pv 1) AJ) (AD (Nt Nv AJ) (AD (Nt Nv AJ) AI)))) (AQ 3 Y7.nd) (BV (IU (nS K U U U T.b_min (CW ["costs","many","table","start","cost","end"] [] 2 (EV K U (BG T.Ţ (gN T) hr U (AR 0 (AR 2 (AZ 3))))) (ES K U (n:=2) U (BO (BD 4) (BO (BD 5) EL))) EU (pv 4))) (Uv (pv 2) (pv 3) UC)))) (AF (pv 2)))),?_⟩;z_run;intro p1 L;refine⟨_,U,p1,_,_,U,U,AM,by lia,by lia,DG (by show 1*_<=_;lia),λp2 X=>?_⟩;z_run;intro p3 S;have aj:((List.replicate ((e.n:Int)).toNat [V.non]).flatten).length<=63:=by rw[ZQ];show _*1<=_;lia
 refine NL p2 p3 _ _ U U (by walk_at "0") AM (DG (by show _+1<=_;lia)) (λp4 Y=>?_);rw[show((e.n:Int)).toNat=e.n by lia,vq e.n]at *
 have h0:=(EY (o:=.lst [.int 0]) (EY (o:=.lst (List.replicate e.n [V.non]).flatten) (BM L (.lst [V.non])) X) S).free Y;z_run;refine LH _ _ _ U ⟨by lia,by lia,by lia,by lia⟩ ⟨by lk,by lk,by lk⟩ ?_;refine  oa (lo:=(e.n:Int)-1) (st:=-1) (n:=GR ((e.n:Int)-1) (-1) (-1)) (λc C Q=>∃(tb:ϩ ϑ) (v3:Ϩ V),C=[some (.ref d),some (.int (e.n:Int)),some (.ref p4),v3]/\AA H Q/\Q p4=some (.lst (tb.map DW))/\tb.length=e.n+1/\Br.JJ e (λj=>tb.getD j none) (e.n-c))
  ⟨_,none,U,EY (o:=.lst ((List.replicate e.n (none:ϑ)++[some 0]).map DW)) (EY (o:=.lst [.int 0]) (EY (o:=.lst (List.replicate e.n [V.non]).flatten) (BM L (.lst [V.non])) X) S) Y,AM,by rw[Ag,By];rfl,vr e⟩ ?_ ?_
 .refine λc C Q hc ag=>?_;revert C;refine Q7 λtb v3 E h5 v i=>?_;rw[d8]at hc;have ev:(e.n:Int)-1+(c:Int)*-1=((e.n-(c+1):Nat):Int):=(by lia);rw[ev];have J:e.n-(c+1)<e.n:=(by lia);have i:Br.JJ e (λj=>tb.getD j none) (e.n-(c+1)+1):=(by rw[show e.n-(c+1)+1=e.n-c by lia];exact i);generalize e.n-(c+1)=st at J i⊢;z_run;refine DC d p4 aa tb e (MW st (DY U (E _ _ hd) af (AC.of h5) v J (LG hn (λr xs H6 ai ac R Z=>⟨r,U,⟨_,AC.of R⟩,λD hD=>?_⟩))));have ah:(IB e (λj=>tb.getD j none) st (e.n-st)).length<=e.n-st:=V1 _ _;let Izz:zU:=λk ys C O=>∃(v4 v5:Ϩ V),ys=(((IB e (λj=>tb.getD j none) st (e.n-st)).take k).map λx=>x.1).map V.int/\C=[some (.ref d),some (.int (e.n:Int)),some (.ref p4),some (.int (st:Int)),v4,v5]/\AA H6 O/\O D=some (.lst ys)
  refine GN (a:=r) (xs:=xs) Izz
   ?_ ?_ ?_ ?_
  exact CM none none U U (BM hD _) AM;exact λk ys C O _ ⟨_,_,_,_,p,_⟩=>AC.of (p _ _ R);(.refine λk y ys C O hy ab=>IK λv4 v5 s B p G=>?_;subst s;subst B;obtain⟨x,ae,t,rfl,ht⟩:=FD Z hy;refine CM _ _ U (BP.of (p _ _ ht)) U ?_;x_go;x_go;z_run;refine EI ab G ?_ ⟨_,_,?_,U,DF p hD,AM⟩;grind;rw[Am,ae,Ae,Ae];rfl);refine λys C O=>IK λv4 v5 s B p G=>?_;subst s;subst B;rw[B2 Z,Ai (A9 _),Br.om]at G;have I:=ac.trans p;refine BY D _ U (AC.of G) ?_;z_run;refine⟨p4,_,_,st,U,U,I _ _ h5,Yo (by rw[A3];lia),tb.set st (Br.MM e (λj=>tb.getD j none) st),_,U,DF (E.trans I) h0,?_,by rw[Es];exact v,?_⟩;rw[AM];exact Bt (λz=>some (HO.lst z)) map_set;exact i.set v J
 refine λC Q ag=>?_;revert C;refine Q7 λtb v3 E h5 v i=>?_;rw[d8,En]at i;z_run;exact q p4 tb Q h0 E h5 v i
abbrev FX:Nat->V:=λb=>V.int (b:Int)
def vw(K:ϡ):Sp:=λe H Q _=>∃(d:Ϡ) (c:ϩ (ϩ GO×V)) (n:Nat),e=[.ref d,.int (n:Int)]/\H d=some (.dT c)/\n<=63/\∀(m:Nat) H',m<=n->AA H H'->Q (.int (m:Int)) H'
def vx:T.F 1 20 (vw K):=by
 refine BX T.ë.fn Y8 ?_;k_ne;revert vs;refine RA λd Y n hd hn q=>?_;refine⟨_,(AH (AL 2 Y8.nd (CO (AD AJ AI))) (AH (GZ B6 U (Wq U T.É (AD AJ (AD (AX DT (pv 1) AJ) AI))) (AQ 3 Y8.nd) (@BV _ _ _ (CC (FK (LX (Xl K U U) U T.b_any pT (AD (CW ["costs","many","reached","end","start"] [] 1 (EV K U (pv 2)) (BD 4) EU (P6 (cT (UG hr) (FP (AR 4 (AZ 3))) (pv 0)))) AI))) (@BV _ _ _ (FC (@EG K _ _ _ _ _ _ _ _ _ _ _ _ Ay Bj Bk KW (pv 2) (AZ 3) U U U U U U))) CJ))) (AF (BZ (DE K U) (pv 2) (Nt Nv AJ) (λ_ _=>U))))),?_⟩;z_run;intro B O;have X:=BM O (.lst [V.int 0]);have S:upd H B (.lst [V.int 0]) B=some (.lst (([]++[0]).map FX)):=AM;generalize upd H B (.lst [V.int 0])=H1 at X S⊢;z_run;refine BY _ _ U ⟨by lia,by lia,by lia,by lia⟩ ?_;let Izz:zT:=λi s J=>∃(Z:Ϩ V) (e:ϔ) (m:Nat),s=[some (.ref d),some (.int (n:Int)),some (.ref B),Z]/\AA H J/\J B=some (.lst ((e++[m]).map FX))/\e.length<=i/\m<=i
 refine Nr (lo:=1) (n:=((n:Int)+1-1).toNat) Izz
  ⟨none,[],0,U,X,S,B8 _,B8 _⟩ ?_ ?_
 .refine λi s J hi ac=>?_;revert s;refine Q8 λZ e m v R ab aa=>?_;have ev:(1:Int)+(i:Int)=((i+1:Nat):Int):=(by lia);rw[ev];z_run;refine⟨⟨_,AC.of R⟩,λD hD=>?_⟩;let Izz:zU:=λj Q s I=>∃(v4:Ϩ V) (bs:ϩ Bool),Q=bs.map V.bl/\s=[some (.ref d),some (.int (n:Int)),some (.ref B),some (.int ((i+1:Nat):Int)),v4]/\AA J I/\I D=some (.lst Q)/\bs.length=j
  refine GN (a:=B) (xs:=(e++[m]).map FX) Izz
   ?_ ?_ ?_ ?_
  exact MY none [] U U (BM hD _) AM U;refine λj Q s I hj=>IK λ_ _ _ _ hs _=>?_;exact hs.seq (AC.of R);(.refine λj x Q s I hx G=>Q9 λv4 bs o p r E L=>?_;subst o;subst p;rw[An]at hx;refine AS (λy hy o=>?_) (Az.mp hx);subst o;rw[A3,Ag]at G;have af:j<e.length+1:=G;z_run;intro b hb;have z:=BM hb (.tup [.int (y:Int),.int ((i+1:Nat):Int)]);z_run;refine BY d _ U (JV.t (k:=[Sum.inl (y:Int),Sum.inl ((i+1:Nat):Int)]) (z _ _ ((v.trans r) _ _ hd)) AM) ?_;generalize upd I b (.tup [.int (y:Int),.int ((i+1:Nat):Int)])=H7 at z⊢;exact EI (by rw[A3,Ag];exact G) (z _ _ E) (by rw[A3];lia) ⟨_,bs++[(DX Y [Sum.inl (y:Int),Sum.inl ((i+1:Nat):Int)]).isSome],by rw[Ae];rfl,U,DF (r.trans z) hD,AM,by rw[Ag,L];rfl⟩);refine λQ s I=>Q9 λv4 bs o p r E L=>?_;subst o;subst p;refine⟨D,bs,U,AC.of E,_,U,?_⟩;have h6:=r _ _ R;have C:=v.trans r;refine CG (λc=>?_) (λc=>?_);(.z_run;refine⟨.inl ⟨U,_,AC.of h6⟩,?_⟩;z_run;exact⟨B,_,_,U,U,h6,KY (by rw[A3,Ag];show _+1<=_;lia),_,e++[m],i+1,U,DF C O,by rw[AM,Ae (l₁:=e++[m])];rfl,by rw[Ag];show e.length+1<=i+1;lia,A9 _⟩);exact DZ _ e m U C h6 (by lia) (by lia)
 refine λs J ac=>?_;revert s;refine Q8 λZ e m v R ab aa=>?_;have ae:DP ((e++[m]).map FX) (-1)=some (FX m):=(by rw[Ae];exact Tg (e.map FX) (FX m));exact⟨_,U,_,U,B,_,_,_,U,U,AC.of R,ae,q m J (by lia) v⟩
def vz(C:f i=some c)(he:Br.JW d f i e) :
 ∃m:Nat,Br.Qm d f i m/\Tb ((((IB d f i (d.n-i)).filter λx=>decide (x.1=c)).map λx=>((x.2:Nat):Int)))=some (m):=by
 have mem:∀z:Int,z∈(((IB d f i (d.n-i)).filter λx=>decide (x.1=c)).map λx=>((x.2:Nat):Int))↔∃e:Nat,z=(e:Int)/\Br.JW d f i e:=λz=>by
  constructor
  .intro h;obtain⟨x,G,rfl⟩:=Bq.mp h;obtain⟨k,j⟩:=Gm.mp G;exact⟨x.2,U,Br.ot ⟨k,by rw[C,Ax j]⟩⟩
  .rintro⟨e,rfl,o⟩;obtain⟨B,k,j⟩:=Br.ou o;have E:B=c:=by rw[C]at j;exact(B0 j).symm
   subst E;exact Bq.mpr ⟨(B,e),Gm.mpr ⟨k,Ab U⟩,U⟩
 generalize (((IB d f i (d.n-i)).filter λx=>decide (x.1=c)).map λx=>((x.2:Nat):Int))=s at mem;cases y:Tb s with
 | none =>
   cases s with
   | nil=>exact absurd ((mem e).mpr ⟨e,U,he⟩) Bl
   | cons z r=>cases y
 | some m =>
   obtain⟨k,j⟩:=HR.mp y;obtain⟨H,rfl,o⟩:=(mem m).mp k;exact⟨H,⟨o,λv p=>by
    have:=j (v:Int) ((mem _).mpr ⟨v,U,p⟩)
    lia⟩,U⟩
def vA(K:ϡ)(C:Ϡ):Sp:=λv H Q E=>∃(l p g:Ϡ) (i:ϩ BS) (e:ώ) (k s d o:Int),v=[.ref l,.ref p,.int k,.ref g]/\Cs.KZ K H l i/\AC K H p (e.map V.str)/\e.length<=63/\(∀x∈e,x.length<=1000/\∀c∈x.cps.toList,(CV i (sg c)).isSome=true)/\(∀x∈e,0<=KH i x/\KH i x<=100000) /\BP K H g [.int s,.int d,.int o]/\0<=d/\d<=1000/\0<=k/\k<=1000000/\(∀j dx (m:Nat) f,AA H j->j dx=none->Br.JJ (DD i e k s d o) f 0->f 0=none->E (.ref C) (some dx) (upd j dx (.xd [("words",.int (m:Int))]))) /\∀(r:Ϡ) (bs:ϔ) (f:Nat->ϑ) (j:Hp),H r=none->AA H j->j r=some (.lst (bs.map λb:Nat=>V.int (b:Int)))->Br.JJ (DD i e k s d o) f 0->Br.DO (DD i e k s d o) f 0 bs->Q (.ref r) j
def gO(T:Tx P w base K mg a):CF P w K mg base (Mr P w) 4 (a.f 21) (a.d 21) ["case","words","measure","gaps"] (vA K a.Ç):=by
 refine T.ī.fn.okX S8 (by fin2) (λaP A outer s H vs Q E hr h=>?_);revert h;refine EK λl p g rs ws=>HX λms lo e hi=>MV λak hC hL aH hw aB hG=>FZ λaG aA aC aJ qx q=>?_;subst ak;refine⟨_,(AH (AL 4 S8.nd (BG T.Ŵ (vm T) hr U (AR 0 (AR 1 (AR 2 (AZ 3)))))) (AH (AL 5 S8.nd (BG T.Ÿ (vv T) hr U (AR 4 (AD (ln T (pv 1)) AI)))) (AH (CC (Ut (Us (BZ (DE K U) (pv 5) AJ (λ_ _=>U)))) (BV (pS T.È (ui T) hr U U U (AD (BG T.ë (vx T) hr U (AR 4 (AD (ln T (pv 1)) AI))) AI))) CJ) (AH (AL 6 S8.nd (CO AI)) (AH (AL 7 S8.nd AJ) (AH (Pb (Xh U) (CA NO (pv 7) (ln T (pv 1)) (BL _)) (AH (AL 7 S8.nd (LX (nT K U U) U T.b_max nP (AD (CW ["case","words","measure","gaps","costs","table","breaks","at","cost","end"] [] 2 (EV K U (BG T.Ţ (gN T) hr U (AR 4 (AR 5 (AZ 7))))) (ES K U (n:=2) U (BO (BD 8) (BO (BD 9) EL))) (UM (CA EE (pv 8) (BZ (DE K U) (pv 5) (pv 7) (λ_ _=>U)) (BL _))) (pv 9)) AI))) (@BV _ _ _ (FC (@EG K _ _ _ _ _ _ _ _ _ _ _ _ Ay Bj Bk KW (pv 6) (AZ 7) U U U U U U))))) (AF (pv 6)))))))),?_⟩;have ay:(DD rs ws ms lo e hi).n=ws.length:=A3 _;z_run;refine DC l p g rs ws (LO ms lo e hi (DY U hC hL aH hw aB (IR hG aG aA aC aJ (λd ae H1 aR aq ac ab=>?_))));z_run;refine BY p _ U (.inl (aq.seq hL)) ?_;rw[A3];refine DZ d ae (DD rs ws ms lo e hi) (by rw[ay];rfl) ac ab (by lia) (λr tb H2 aQ Z Y au G=>?_);have C:=aq.trans Z;generalize aF:DD rs ws ms lo e hi=i at q qx ay ab au G;have aj:DP (tb.map DW) 0=some (DW (tb.getD 0 none)):=by have h1:0<tb.length:=(by lia);have h2:DP (tb.map DW) ((0:Nat):Int)=some (DW (tb.getD 0 none)):=FR (by rw[An,A6 h1,Bf,A6 h1]<;>rfl);exact h2
 refine⟨_,U,r,_,_,_,U,U,AC.of Y,aj,?_⟩;cases aw:tb.getD 0 none with|none =>refine AU _ U (BB ?_);z_run;refine BY p _ U (.inl (C.seq hL)) ?_;rw[A3];z_run;refine LH d ae ws.length U (Z _ _ ac) (by lia) (λm H3 aM v=>?_);z_run;exact λdx aE=>qx H3 dx m _ (C.trans v) aE G aw|some c0 =>
 refine AU _ U (AK ?_);z_run;intro br aa;have ah:=C.free aa;let Izz:zT:=λm σ H3=>∃(k:Nat) (bs:ϔ),m=i.n-k/\k<=i.n/\σ=[some (.ref l),some (.ref p),some (.int ms),some (.ref g),some (.ref d),some (.ref r),some (.ref br),some (.int (k:Int))]/\AA H2 H3/\H3 br=some (.lst (bs.map λb:Nat=>V.int (b:Int)))/\bs.length<=k/\tb.getD k none≠none/\∀rest,Br.DO i (λj=>tb.getD j none) k rest->Br.DO i (λj=>tb.getD j none) 0 (bs++rest);refine⟨Izz,⟨_,0,[],U,B8 _,U,BM aa (.lst []),AM,A9 _,by rw[aw];exact λz=>(by cases z),λrest h=>h⟩,?_⟩;refine λm σ H3=>JG λk bs=>MV λo hk ar v am aN ag J=>?_;subst o;subst ar;z_run;refine BY p _ U (.inl ((C.trans v).seq hL)) ?_;rw[A3];z_run;refine CG (λR=>?_) (λR=>?_)
 .have R:=Ax R;have af:k<i.n:=(by lia);have X:k<tb.length:=(by lia);cases I:tb.getD k none with|none=>exact absurd I ag|some c =>
  have aS:DP (tb.map DW) (k:Int)=some (.int c):=FR (by
   rw[Bf,A6 X]at I
   have I:tb[k]=some c:=I;rw[An,A6 X,I]<;>rfl)
  obtain⟨e0,az⟩:=Br.oq G (B8 k) af ag;obtain⟨gm,an,hgo⟩:=vz (f:=λj=>tb.getD j none) I az;refine AU _ (λaT H' h=>h) ?_;z_run;refine DC d r ae tb i (MW k (DY U ((Z.trans v) _ _ ac) ab (AC.of (v _ _ Y)) au af (LG (by lia) (λrc xs H4 aL ap ao al=>⟨rc,U,⟨_,AC.of ao⟩,λD hD=>?_⟩))));have aK:(IB i (λj=>tb.getD j none) k (i.n-k)).length<=i.n-k:=V1 _ _;let Izz:zU:=λj ys σ H5=>∃(v8 v9:Ϩ V),ys=((((IB i (λj=>tb.getD j none) k (i.n-k)).take j).filter λx=>decide (x.1=c)).map λx=>((x.2:Nat):Int)).map V.int/\σ=[some (.ref l),some (.ref p),some (.int ms),some (.ref g),some (.ref d),some (.ref r),some (.ref br),some (.int (k:Int)),v8,v9]/\AA H4 H5/\H5 D=some (.lst ys)
  refine GN (a:=rc) (xs:=xs) Izz
   ?_ ?_ ?_ ?_
  exact CM none none U U (BM hD _) AM;exact λj ys σ H5 _ ⟨_,_,_,_,B,_⟩=>AC.of (B _ _ ao);(.refine λj y ys σ H5 hy ai=>IK λv8 v9 o O B L=>?_;subst o;subst O;obtain⟨x,aI,t,rfl,ht⟩:=FD al hy;have aO:H5 r=some (.lst (tb.map DW)):=((v.trans ap).trans B) _ _ Y;have as:(IB i (λj=>tb.getD j none) k (i.n-k)).take (j+1)=(IB i (λj=>tb.getD j none) k (i.n-k)).take j++[x]:=(by rw[Am,aI];rfl);have aD:=K6 (λx:Int×Nat=>decide (x.1=c)) ((IB i (λj=>tb.getD j none) k (i.n-k)).take j);rw[Ao]at aD;refine CM _ _ U (BP.of (B _ _ ht)) U ?_;x_go;x_go;z_run;rw[Nx];refine CG (λc1=>?_) (λc1=>?_);(.z_run;refine EI ai L (by rw[A3,A3];lia) ⟨_,_,?_,U,DF B hD,AM⟩;rw[as,Fz,Ae,Ae];congr 1;rw[Gc,B1 c1];rfl);refine RO ai ⟨_,_,?_,U,B,L⟩;rw[as,Fz,Gc,Av c1];show _=List.map V.int (List.map _ (_++[]));rw[Aq]);refine λys σ H5=>IK λv8 v9 o O B L=>?_;subst o;subst O;rw[B2 al,Ai (A9 _)]at L;have S:=ap.trans B;have ax:=S _ _ am;refine LH D _ _ U (AC.of L) hgo ?_;z_run;refine⟨.inl ⟨U,_,AC.of ax⟩,?_⟩;z_run;refine DZ br _ _ U U ax (KY (by rw[A3];lia)) ?_;obtain⟨g1,g2,ga,gb,g3,g4,g5⟩:=an.1;refine⟨i.n-gm,by lia,gm,bs++[gm],U,g2,U,DF (v.trans S) aa,by rw[AM,Ae];rfl,by rw[Ag];show _+1<=_;lia,?_,λrest h=>?_⟩;have g4:tb.getD gm none=some gb:=g4;rw[g4];exact λz=>(by cases z);rw[B4];exact J _ (.step af an h)
 have av:k=i.n:=(by have:¬(k:Int)<(ws.length:Int):=λz=>R (Ab z);lia);subst av;z_run;have hb:=J [] .done;rw[Aq]at hb;subst aF;exact q br bs _ H3 ah (C.trans v) am G hb
noncomputable def CH (ws:ώ):Nat->ϔ->ϩ ώ|_,[]=>[]|s,e::r=>(ws.take e).drop s::CH ws e r
theorem gP:∀{bs} {s i a b:Nat},(s::bs)[i]?=some a->bs[i]?=some b->(CH ws s bs)[i]?=some ((ws.take b).drop a)
 |[],_,_,_,_,_,h=>by simp at h|e::r,s,0,a,b,d,c=>by have d:s=a:=B0 d;have c:e=b:=B0 c;subst d;subst c;rfl
 |e::r,s,i+1,a,b,d,c=>gP (bs:=r) (s:=e) (i:=i) d c
theorem Qu(ws):∀(bs) (s),(CH ws s bs).length=bs.length|[],_=>rfl|e::r,s=>Bt (·+ 1) (Qu ws r e)
def vB(K:ϡ):Sp:=λi H Q _=>∃(p b:Ϡ) (c:ώ) (bs:ϔ),i=[.ref p,.ref b]/\AC K H p (c.map V.str)/\H b=some (.lst (bs.map FX))/\c.length<=63/\bs.length<=63/\(∀e∈bs,e<=c.length) /\∀(D:Ϡ) (d:ϩ V) H',H D=none->AA H H'->H' D=some (.lst d)->Paired (Lns.OA H D H') d (CH c 0 bs)->Q (.ref D) H'
def gQ:T.F 1 22 (vB K):=by
 refine BX T.ù.fn sT ?_;k_ne;revert vs;refine So λp b s bs hP hB al aj aa q=>?_;refine AU _ (AF (CW ["words","breaks","start","end"] [] 2 (dr K U U T.b_zip (AD (AX SW (CO (AD AJ AI)) (pv 1)) (AZ 1))) (ES K U (n:=2) U (BO (BD 2) (BO (BD 3) EL))) EU (Nw (NQ K U) (pv 0) (LY (pv 2)) (LY (pv 3))))) ?_;z_run;intro p1 ak;x_fa H1 O ac;z_run;refine NL p1 b _ _ U U ac (O _ _ hB) (DG (by rw[A3];show 1+_<=_;lia)) (λG ae=>?_);have e1:[V.int 0]++bs.map FX=(0::bs).map FX:=U;rw[e1];have c:=EY (o:=.lst ((0::bs).map FX)) O ae;have z:upd H1 G (.lst ((0::bs).map FX)) G=some (.lst ((0::bs).map FX)):=AM;generalize upd H1 G (.lst ((0::bs).map FX))=H2 at c z⊢;z_run;refine CM G b U ⟨_,AC.of z⟩ ⟨_,AC.of (c _ _ hB)⟩ (λD hD=>?_);refine dq (a:=G) (b:=b) (xs:=(0::bs).map FX) (ys:=bs.map FX) (by rw[A3,A3];exact Ed _) (λi B R v=>∃(v2 Y:Ϩ V),R=[some (.ref p),some (.ref b),v2,Y]/\AA H2 v/\v D=some (.lst B)/\Paired (Lns.OA H D v) B ((CH s 0 bs).take i))
  ?_ ?_ ?_ ?_
 exact CM none none U (BM hD _) AM .nil;refine λi B R v hi=>GL λ_ _ _ E _=>?_;exact⟨E.seq (AC.of z),E.seq (AC.of (c _ _ hB))⟩;(.rintro i x y t B R v hx hy hi ⟨v2,Y,rfl,E,hh,hz⟩ ht;rw[An]at hx hy;refine AS (λS af d=>?_) (Az.mp hx);subst d;refine AS (λC L d=>?_) (Az.mp hy);subst d;have ai:=aa C (Af L);have ab:=dD hz;rw[Ao,Qu]at ab;rw[A3]at hi;x_fa H7 k ah;refine CM _ _ U (BP.of ah) U ?_;x_go;x_go;(try refine And.intro U ?_);z_run;refine BY p _ U ((c.trans (E.trans k)).seq hP) (λpn r=>?_);rw[cX V.str s S C (by lia)];have j:=EY (o:=.lst (((s.take C).drop S).map V.str)) k r;have J:pn≠D:=λe=>(by rw[e,k _ _ hh]at r;cases r);have X:upd H7 pn (.lst (((s.take C).drop S).map V.str)) pn=some (.lst (((s.take C).drop S).map V.str)):=AM;have Q:=c.free (E.free (k.free r));generalize upd H7 pn (.lst (((s.take C).drop S).map V.str))=H8 at j X⊢;refine EI (by rw[A3];exact hi) (j _ _ hh) (by lia) ⟨_,_,U,DF (E.trans j) hD,AM,?_⟩;rw[Am,gP (ws:=s) af L];exact Bz (Lns.oG (Lns.oF hz j)) ⟨pn,U,J,Q,by rw[BJ J];exact X⟩);refine λB R v am=>?_;revert R;refine HY λv2 Y ag Z I=>?_;rw[A3,Ai (by rw[Qu];exact A9 _)]at I;exact q D B v (c.free hD) (c.trans ag) Z I
structure Rp(m lo ý hi:Int):Prop where
 lo0:0<=lo
 li:lo<=ý
 ih:ý<=hi
 hi1:hi<=1000
 m0:0<=m
 m1:m<=100000
def vC(c:Br.JJ p f 0)(h:Br.DO p f i bs):f i≠none:=by cases h with|done=>rw[c.last];exact λz=>nomatch z|step _ g _ =>obtain⟨⟨_,_,x,y,_,_,e⟩,_⟩:=g;rw[e];exact λz=>nomatch z
def vD(c:∀r∈rs,2<=r.w/\r.w<=10)(x:ϥ):0<=Py rs x/\Py rs x<=10:=by unfold Py;split;split;(.rename_i r d;have:=c r (Af d);lia);lia;lia
def Yp(d:∀r∈rs,2<=r.w/\r.w<=10)(k:x.length<=5):0<=KH rs x/\KH rs x<=50:=by unfold KH;obtain⟨j,e⟩:=UX (zs:=x.cps.toList.map λc=>Py rs (sg c)) (B:=10) (by lia) λz i=>(by obtain⟨c,_,rfl⟩:=Bq.mp i;exact vD d _);rw[A3,show x.cps.toList.length=x.length from Au]at e;lia
def gR(c:∀r∈rs,2<=r.w/\r.w<=10)(e:∀x∈ws,x.length<=5)(j:ws.length<=14):0<=IY rs ws/\IY rs ws<=700:=by unfold IY;obtain⟨k,d⟩:=UX (zs:=ws.map λx=>KH rs x) (B:=50) (by lia) λz i=>(by obtain⟨x,h,rfl⟩:=Bq.mp i;exact Yp c (e x h));rw[A3]at d;lia
def gS(h:Br.DO p f i bs):i<=p.n/\(bs=[]↔i=p.n):=by cases h with|done=>exact⟨A9 _,Iff.intro (λ_=>U) (λ_=>U)⟩|step c _ _=>exact⟨Fd c,Iff.intro (λz=>nomatch z) (λz=>absurd z (Bn c))⟩
def vE:lc (DD rs ws ms lo md c) i e=FV (ms-IY rs ((ws.take e).drop i)) ((((ws.take e).drop i).length:Int)-1) lo md c (decide (e=(DD rs ws ms lo md c).n)):=by show FV (ms-List.sum (((ws.map λx=>KH rs x).take e).drop i)) (((((ws.map λx=>KH rs x).take e).drop i).length:Int)-1) lo md c _=_;rw[<-Gf,<-Jc,A3];rfl
def vF(h:Br.DO (DD rs ws ms lo md d) f i bs):∀(k:Nat) l,(CH ws i bs)[k]?=some l->l≠[]/\l.length<=ws.length/\(∀x∈l,x∈ws)/\FV (ms-IY rs l) ((l.length:Int)-1) lo md d (decide (k+1=(CH ws i bs).length))≠none:=by
 induction h with
 |done=>exact λk l h=>by cases h|step J p y H =>
  rename_i i e bs;have C:(DD rs ws ms lo md d).n=ws.length:=A3 _;obtain⟨L,r,a,b,I,_⟩:=p.1;rw[C]at r;intro k l c;cases k with
  |succ k =>refine FY (λE G s v=>?_) (H k l c);refine GC E G s ?_;have j:decide (k+1+1=(CH ws i (e::bs)).length)=decide (k+1=(CH ws e bs).length):=C4.mpr (by show k+1+1=(CH ws e bs).length+1↔_;lia);rw[j];exact v|zero =>
   have c:=B0 c;subst c;have o:((ws.take e).drop i).length=e-i:=by rw[Cu,Ao];lia
   refine GC (λz=>by rw[z]at o;have:0=e-i:=o;lia) (by lia) (λx B=>Gk (Kj B)) ?_;have j:decide (0+1=(CH ws i (e::bs)).length)=decide (e=(DD rs ws ms lo md d).n):=C4.mpr (by
    have:=(gS y).2;rw[<-this];show 0+1=(CH ws e bs).length+1↔_;rw[Qu,<-Cq]
    lia)
   rw[j,<-vE,I];exact λz=>nomatch z
def vG(r:p.n=ws.length)(h:Br.DO p f i bs):((CH ws i bs).map List.length).sum+i=p.n:=by induction h with|done=>exact Lq _|step o c _ k =>rename_i i e bs _;refine ED (λj d _=>?_) c.1;show(((ws.take e).drop i).length+((CH ws e bs).map List.length).sum)+i=_;rw[Cu,Ao];lia
theorem gT{c d:Type}(f:c->d)(y:c)(z:d):∀xs:ϩ c,(xs++[y]).zip (xs.map f++[z])=xs.map (λx=>(x,f x))++[(y,z)]|[]=>rfl|x::xs=>Bt ((x,f x)::·) (gT f y z xs)
def vH(j:0<=sp)(i:sp<100000)(d:c<100000):(Oj sp c).1.natAbs<100000/\(Oj sp c).2.natAbs<100000:=by unfold Oj;split;(.rename_i h;have e:∀{z:Int}(g:Nat),0<=z->z<100000->(z/(g:Int)).natAbs<100000:=λ{z} g a b=>(by have o:0<=z/(g:Int):=Gr a (by lia);have k:z/(g:Int)<=z:=Jm _ a;lia);exact⟨e _ j i,e _ (by lia) d⟩);decide
structure Pc(rs:ϩ BS)(p:BF):Prop where
 g:∃lo md hi:Int,p.2.1=[lo,md,hi]/\Rp p.1 lo md hi
 w:1<=p.2.2.length/\p.2.2.length<=7
 ok:∀x∈p.2.2,Mc.Wd rs 5 x
def vI(h:Br.DO p f i bs):∀e∈bs,e<=p.n:=by induction h with|done=>exact λe h=>nomatch h|step _ d k j =>intro e c;rcases Al.mp c with rfl|c;exact d.1.2.1;exact j e c
abbrev HW:=ώ×(Int×Int)
noncomputable def Sf (rs:ϩ BS) (m md:Int) (ls:ϩ ώ):ϩ HW:=ls.dropLast.map (λx=>(x,Nl rs m x))++ls.getLast?.toList.map λx=>(x,LC rs m md x)
def Yq:Sf rs m md (d++[c])=d.map (λx=>(x,Nl rs m x))++[(c,LC rs m md c)]:=by unfold Sf;rw[List.dropLast_concat,List.getLast?_concat];rfl
noncomputable def Mo (rs:ϩ BS) (p:BF):Br.Mf:=DD rs p.2.2 p.1 (p.2.1.getD 0 0) (p.2.1.getD 1 0) (p.2.1.getD 2 0)
noncomputable def EZ (rs:ϩ BS) (p:BF):Ϩ (ϩ HW):=@dite _ (∃bs f,Br.JJ (Mo rs p) f 0/\Br.DO (Mo rs p) f 0 bs) (Classical.propDecidable _) (λh=>some (Sf rs p.1 (p.2.1.getD 1 0) (CH p.2.2 0 h.choose))) λ_=>none
def gU(d:Br.JJ (Mo rs p) f 0)(e:f 0=none):EZ rs p=none:=by unfold EZ;rw[dif_neg];rintro⟨bs,g,c,i⟩;refine vC c i ?_;rw[<-e];exact Br.JJ.uniq c d _ 0 U (A9 _) (B8 _)
def Yr(c:Br.JJ (Mo rs p) f 0)(d:Br.DO (Mo rs p) f 0 bs):EZ rs p=some (Sf rs p.1 (p.2.1.getD 1 0) (CH p.2.2 0 bs)):=by have e:∃bs f,Br.JJ (Mo rs p) f 0/\Br.DO (Mo rs p) f 0 bs:=⟨bs,f,c,d⟩;unfold EZ;rw[dif_pos e];refine AS (λg j h=>?_) e.choose_spec;rw[h.uniq (Br.DO.congr (λi k=>Br.JJ.uniq c j _ i U (B8 _) k) d)]
def vJ(ls:ϩ ώ):(Sf rs m md ls).length<=ls.length:=by cases h:ls.getLast? with|none =>rw[Io.mp h];exact A9 _|some c =>obtain⟨d,rfl⟩:=Iq.mp h;rw[Yq,Ag,Ag,A3];exact A9 _
def gW(h:EZ rs p=some rw):rw.length<=p.2.2.length:=by unfold EZ at h;split at h;(.rename_i e;refine AS (λg _ d=>?_) e.choose_spec;cases h;have i:=d.len;have c:=vJ (rs:=rs) (m:=p.1) (md:=p.2.1.getD 1 0) (CH p.2.2 0 e.choose);rw[Qu]at c;have j:(Mo rs p).n=p.2.2.length:=A3 _;lia);cases h
noncomputable def EC (rs:ϩ BS):ϩ BF->Ϩ (ϩ HW)
 |[]=>some []|p::ps=>match EZ rs p,EC rs ps with
   | some u,some v=>some (u++v)
   | _,_=>none
theorem VB{u:ϩ HW}(c:EZ rs p=some u):∀{ps:ϩ BF}{v:ϩ HW},EC rs ps=some v->EC rs (ps++[p])=some (v++u)|[],v,h=>by cases h;show(match EZ rs p,some []with|some u,some v=>some (u++v)|_,_=>none)=_;rw[c];exact Bt some (Aq u)|x::ps,v,h=>by have h:(match EZ rs x,EC rs ps with|some u,some v=>some (u++v)|_,_=>none)=some v:=h;show(match EZ rs x,EC rs (ps++[p])with|some u,some v=>some (u++v)|_,_=>none)=_;split at h;(.rename_i y z d e;rw[d,VB c e];cases h;exact Bt some (B4 _ _ _).symm);cases h
theorem Ys(c:EZ rs p=none):∀ps:ϩ BF,EC rs (ps++p::r)=none|[]=>by show(match EZ rs p,EC rs r with|some u,some v=>some (u++v)|_,_=>none)=_;rw[c]|x::ps=>by show(match EZ rs x,EC rs (ps++p::r)with|some u,some v=>some (u++v)|_,_=>none)=_;rw[Ys c ps];split;(.rename_i e;cases e);rfl
def gX{c:Type}{ps:ϩ c}{i:Nat}{p:c}(h:ps[i]?=some p):ps=ps.take i++p::ps.drop (i+1):=by
 have e:ps.drop i=p::ps.drop (i+1):=by rw[Fj ((Ap.mp h).1),(Ap.mp h).2]
 rw[<-e,K7]
structure Yt(rs:ϩ BS)(m lo md hi:Int)(ws:ώ)(ini:ϩ ώ)(last:ώ):Prop where
 ln:∀l∈ini++[last],l≠[]/\l.length<=7/\(∀x∈l,Mc.Wd rs 5 x)/\0<=IY rs l/\IY rs l<=700
 off:∀l∈ini,Ro m lo hi rs l=0
 la:Qt m md rs last\/Ro m lo hi rs last=0
 sz:((ini++[last]).map List.length).sum<=7
def gY(E:∀r∈rs,2<=r.w/\r.w<=10)(h:Br.DO (DD rs ws m lo md s) f 0 bs)(R:1<=ws.length/\ws.length<=7)(H:∀x∈ws,Mc.Wd rs 5 x):∃e c,CH ws 0 bs=e++[c]/\Yt rs m lo md s ws e c:=by have O:(DD rs ws m lo md s).n=ws.length:=A3 _;have d:=vF h;have L:=vG O h;have v:bs≠[]:=λz=>(by have:=(gS h).2.mp z;lia);have j:=Qu ws bs 0;generalize CH ws 0 bs=I at d L j;cases o:I.getLast? with|none =>rw[Io.mp o]at j;exact absurd (Cq.mp j.symm) v|some c =>obtain⟨e,rfl⟩:=Iq.mp o;refine⟨e,c,U,λl B=>?_,λl B=>?_,?_,by lia⟩;obtain⟨k,p⟩:=Dl.mp B;refine FY (λQ S G _=>?_) (d k l p);have:=gR E (ws:=l) (λx C=>(H x (G x C)).2.1) (by lia);exact GC Q (by lia) (λx C=>H x (G x C)) this;obtain⟨k,p⟩:=Dl.mp B;have y:=(Ap.mp p).1;obtain⟨_,_,_,i⟩:=d k l (by rw[Cv y];exact p);rw[Aj (by rw[Ag];show ¬k+1=e.length+1;lia)]at i;unfold FV at i;rw[Av (λz=>by cases z.1)]at i;by_cases z:Ln.misfit (m-IY rs l) ((l.length:Int)-1) lo s=0;exact z;rw[Av z]at i;exact absurd U i;obtain⟨_,_,_,i⟩:=d e.length c (by rw[Cb (A9 _),En];rfl);unfold FV at i;by_cases J:0<=(m-IY rs c)-((c.length:Int)-1)*md;exact .inl (by unfold Qt;lia);rw[Av (λz=>J z.2)]at i;by_cases z:Ln.misfit (m-IY rs c) ((c.length:Int)-1) lo s=0;exact .inr z;rw[Av z]at i;exact absurd U i
def U5(h:Mc.Wd rs 5 x):x.length<=1000/\∀c∈x.cps.toList,(CV rs (sg c)).isSome=true:=⟨by have:=h.2.1;lia,λc d=>(h.2.2 c d).2⟩
def vK(h:Mc.Wd rs 5 x):UQ rs x=true:=by unfold UQ;rw[Ar];exact⟨by rw[J0,Ej];intro e;rw[e]at h;exact absurd h.1 (by lk),Bw.mpr λc d=>(h.2.2 c d).2⟩
def gZ(c:∀r∈rs,2<=r.w/\r.w<=10)(h:Mc.Wd rs 5 x):0<=KH rs x/\KH rs x<=100000:=by have:=Yp c h.2.1;lia
def vL(K:ϡ):Sp:=λi H Q _=>∃(p no:Ϡ) (d:ϩ V) (c:ϩ ώ),i=[.ref p]/\AC K H p d/\Paired (Lns.ND no H) d c/\Lns.NC c/\∀e,AA H e->Q (.str (BW c)) e
def Yu:T.F 1 47 (vL K):=by
 refine BX T.ĸ.fn tf ?_;k_ne;revert vs;refine RC λp no J E R G B q=>?_;have Q:=B.1;refine AU _ (@AF _ _ _ _ (@EG K _ _ _ _ _ _ _ _ _ _ _ _ Bi Bu Bv (MG K U) BN (AD (CW ["lines","line"] [] 1 (EV K U (pv 0)) (BD 1) EU (AX IV (@EG K _ _ _ _ _ _ _ _ _ _ _ _ Bi Bu Bv (MG K U) BN (AZ 1) U U U U U U) (JR (v:=.str "/") U T.ê ⟨_,U⟩))) AI) U U U U U U)) ?_;z_run;intro D hD;let Izz:zU:=λi o y k=>∃(s:Ϩ V),o=((E.take i).map λl=>AE l++"/").map V.str/\y=[some (.ref p),s]/\AA H k/\k D=some (.lst o)
 refine GN (a:=p) (xs:=J) Izz
  ?_ ?_ ?_ ?_
 exact IS none U U (BM hD _) AM;refine λi o y k X=>GK λs _ _ j _=>?_;exact j.seq R;(.refine λi x o y k O C=>GK λs d c j r=>?_;subst d;subst c;obtain⟨l,I,L,rfl,_,z⟩:=FD G O;obtain⟨Ĝ,ģ⟩:=B.2 l (Af I);z_run;refine DZ _ L l U U (AC.of (j _ _ z)) (V2 Ĝ ģ) ?_;z_run;refine⟨DG ?_,?_⟩;have e:("/":ϥ).length=1:=(by lk);have S:(Txt.join " " l).length<=10100:=Lns.dv Ĝ ģ;lia;refine EI C r ?_ ⟨_,?_,U,DF j hD,AM⟩;rw[A3,A3,Ao];lia;rw[Am,I,Ae,Ae];rfl);refine λo y k=>GK λs d c j r=>?_;subst d;subst c;rw[dt G,Ai (A9 _)]at r;refine DZ _ D _ U U (AC.of r) (Lns.oB B) ?_;have q:=q _ j;rw[<-(Lns.oA E)]at q;exact q
def vM(h:sg c=sg d):c=d:=by have h:(#[c]:Array Nat)=#[d]:=Bt Str.cps h;simpa using h
def Yv:decide (V.str (sg c)=V.str (sg d))=decide (c=d):=by rw[FI,C4];exact⟨λh=>vM h,λh=>by rw[h]⟩
def vN:Sp:=λd H Q _=>∃c:Nat,d=[.str (sg c)]/\Q (.bl (Lx c)) H
def hH:T.F 1 48 vN:=by refine BX T.Ă.fn tj ?_;k_ne;revert vs;refine GD λc q=>?_;have i:decide (V.str (sg c)=V.str " ")=decide (c=32):=Yv (d:=32);have j:decide (V.str (sg c)=V.str "/")=decide (c=47):=Yv (d:=47);unfold Lx at q;refine AU _ (AF (GY (FH My (pv 0) (JR (v:=.str " ") U T.Į ⟨_,U⟩) (BL _)) (KG (FH My (pv 0) (JR (v:=.str "/") U T.ê ⟨_,U⟩) (BL _))))) ?_;walk;rw[i];cases e:decide (c=32)with|true =>rw[e]at q;exact q|false =>rw[e]at q;refine BB ?_;walk;rw[j];exact q
def vO(K:ϡ):Sp:=λe H Q _=>∃(l:Ϡ) (x:ϥ) (i:Nat) (c:ϩ BS),e=[.ref l,.str x,.int (i:Int)]/\Cs.KZ K H l c/\x.length<=90000/\i<x.cps.toList.length/\∀d,AA H d->Q (.bl (V4 c x.cps.toList i)) d
def vP:T.F 2 49 (vO K):=by refine BX T.zL.fn tm ?_;k_ne;revert vs;refine RC λl x i o E I y q=>?_;have k:x.length<=sizeLine:=DG (by lia);have p:=FR (A6 y);unfold V4 at q;rw[A6 y]at q;generalize x.cps.toList[i]=c at p q;have q:∀B,AA H B->Q (.bl (if Lx c=true then(CV o (sg c)).isSome else decide (0<i)&&(match x.cps.toList[i-1]? with|none=>false|some d=>Lx d))) B:=q;refine⟨_,(AH (CC (FK (BG T.Ă (hH T) hr U (AD (BZ Qi (pv 1) (pv 2) (λ_ _=>U)) AI))) (AF (P6 (QC (BG T.Ö (Sd T) hr U (AR 0 (AD (BZ Qi (pv 1) (pv 2) (λ_ _=>U)) AI)))))) CJ) (AF (GY (FH Pf (pv 2) AJ (BL _)) (KG (BG T.Ă (hH T) hr U (AD (BZ Qi (pv 1) (AX LU (pv 2) AJ) (λ_ _=>U)) AI)))))),?_⟩;walk;refine DZ _ _ _ U U k p ?_;walk;(try refine⟨_,U,?_⟩);cases v:Lx c with|true =>rw[v]at q;refine BB ?_;walk;refine DZ _ _ _ U U k p ?_;walk;refine Qc l (sg c) o U E (λG s=>?_);have e:(!decide (Pw (CV o (sg c))=V.non))=(CV o (sg c)).isSome:=(by cases CV o (sg c)<;>rfl);have q:=q G s;rw[B1 U,<-e]at q;exact q|false =>rw[v]at q;refine AK ?_;walk;have q:=q H (AA.refl _);rw[Av (by lk)]at q;cases i with|zero =>exact AK q|succ j =>have z:j<x.cps.toList.length:=(by lia);have r:DP x.cps.toList (((j+1:Nat):Int)-1)=some x.cps.toList[j]:=(by rw[show(((j+1:Nat):Int)-1)=((j:Nat):Int) by lia];exact FR (A6 z));rw[show j+1-1=j from U,A6 z]at q;have C:decide ((0:Int)<((j+1:Nat):Int))=true:=Ab (by lia);rw[C];refine BB ?_;walk;refine DZ _ _ _ U U k r ?_;walk;have q:=q;rw[show decide (0<j+1)=true from Ab (by lia),Bool.true_and]at q;exact q
def vQ(K:ϡ):Sp:=λe H Q _=>∃(l:Ϡ) (x:ϥ) (c:ϩ BS),e=[.ref l,.str x]/\Cs.KZ K H l c/\x.length<=90000/\GS c false x.cps.toList=true/\(x.cps.toList=[]\/∃a,x.cps.toList=a++[47])/\∀d,AA H d->Q .non d
def vR:T.F 3 50 (vQ K):=by refine BX T.Ġ.fn gg ?_;k_ne;revert vs;refine RB λl x O I Q z c q=>?_;have s:x.length<=sizeLine:=DG (by lia);have G:x.cps.toList.length=x.length:=Au;refine⟨_,(AH (GZ B6 U (NN U T.É (AD (LX RI U T.Ň QP (AZ 1)) AI)) (AQ 2 gg.nd) (BV (CC (KS (FK (BG T.zL (vP T) hr U (AR 0 (AR 1 (AZ 2)))))) (BV LI) CJ))) (BV (CC (PW.pt (P9 (CA My (pv 1) BN (BL _)) (P7 (CA My (BZ Qi (pv 1) (Nt Nv AJ) (λ_ _=>U)) (JR (v:=.str "/") U T.ê ⟨_,U⟩) (BL _))))) (BV LI) CJ))),?_⟩;walk;let Izz:zT:=λi j k=>∃y:Ϩ V,j=[some (.ref l),some (.str x),y]/\AA H k;refine Nr (n:=x.length) Izz ⟨none,U,AA.refl _⟩ ?_ ?_;(.refine λi j k S C=>?_;revert j;refine GD λy d=>?_;walk;refine DH l x i O (by rw[Dv];rfl) (I.same d) Q (by lia) (λR r=>?_);rw[Lns.oH z (by lia)];exact AU _ U (AK ⟨_,U,d.trans r⟩));refine λj k C=>?_;revert j;refine GD λy d=>?_;walk;rcases c with o|⟨E,o⟩;(.have ex:x="":=QW o;subst ex;have B:(!decide (V.str ""=V.str ""))=false:=(by rw[Ab U];rfl);rw[B];(try refine AK ?_);exact q k d);have p:x≠"":=λe=>(by rw[e]at o;have h:=Bt List.length o;rw[Ag]at h;have h:0=E.length+1:=h;lia);have B:(!decide (V.str x=V.str ""))=true:=(by rw[FI,Aj p];rfl);rw[B];(try refine BB ?_);have J:DP x.cps.toList (-1)=some 47:=(by rw[o];exact Tg E 47);walk;refine DZ _ _ _ U U s J ?_;walk;have L:(!decide (V.str ({ cps:=#[47] }:ϥ)=V.str "/"))=false:=(by rw[show("/":ϥ)=({ cps:=#[47] }:ϥ)from U,Ab U];rfl);rw[L];(try refine AK ?_);exact q k d
def AW(x:ϥ):Prop:=x.cps.toList.length<=90000/\∀c∈x.cps.toList,c<128
theorem AW.len(h:AW x):x.length<=90000:=by rw[<-show x.cps.toList.length=x.length from Au];exact h.1
def vS:∀c,c<128->(!(Builtin.Str.occurrences "0123456789" (sg c) 0 ("0123456789":ϥ).length 1).isEmpty)=PU c:=by room
def vT:Sp:=λd H Q _=>∃x:ϥ,d=[.str x]/\AW x/\∀c,AA H c->Q (.bl (IF x)) c
def VC:T.F 1 23 vT:=by
 refine BX T.õ.fn sU ?_;k_ne;revert vs;refine Oo λx Z q=>?_;have hl:x.cps.toList.length=x.length:=Au;have p:x.length<=sizeLine:=DG (by have:=Z.len;lia);have no:∀G,AA H G->IF x=false->Q (.bl false) G:=λG s e=>by rw[<-e];exact q G s
 refine⟨_,(AH (Ny (CC (PW.pt (P9 (CA Pf (LX RI U T.Ň QP (AZ 0)) AJ (BL _)) (P7 (CA EE (BZ Qi (pv 0) AJ (λ_ _=>U)) BN (BL _))))) (AF JI) CJ)) (AF (GY (UA Ng Ng AJ (LX RI U T.Ň QP (AZ 0)) AJ) (KG (LX (Px K U U) U T.zH UH (AD (CW ["word","figure"] [] 1 (RR (pv 0)) (BD 1) EU (FH Wu (pv 1) (JR (v:=.str "0123456789") U T.Ŏ ⟨_,U⟩) (by with_unfolding_all rfl))) AI)))))),?_⟩;let Izz:zS:=λk R=>k=[some (.str x)]/\R=H/\(decide (1<x.cps.toList.length)&&decide (x.cps.toList[0]?=some 48))=false;refine AU Izz ?_ ?_;(.z_run;(try refine⟨p,?_⟩);z_run;by_cases hg:1<x.length;(.rw[Ab (show(1:Int)<(x.length:Int) by lia)];refine BB ?_;have X:DP x.cps.toList 0=some (x.cps.toList[0]'(by lia)):=FR (j:=0) (A6 (by lia));have e1:x.cps.toList[0]?=some (x.cps.toList[0]'(by lia)):=A6 (by lia);generalize x.cps.toList[0]'(by lia)=c at X e1;refine⟨_,U,_,_,_,U,U,p,X,?_⟩;z_run;rw[show decide (V.str ({ cps:=#[c] }:ϥ)=V.str "0")=decide (c=48)from Yv (d:=48)];refine CG (λB=>?_) (λB=>?_);(.have B:=Ax B;z_run;refine no _ (AA.refl _) ?_;unfold IF;lia);refine IQ U U ?_;lia);rw[Aj (show ¬(1:Int)<(x.length:Int) by lia)];refine AK ⟨U,U,?_⟩;lia);refine λk R=>ED λz r o=>?_;subst z;subst r;have Y:IF x=((decide (1<=x.cps.toList.length)&&decide (x.cps.toList.length<=4))&&x.cps.toList.all PU):=by unfold IF;rw[o];rfl
 z_run;try refine⟨p,?_⟩
 z_run;by_cases h1:1<=x.length
 .rw[Ab (by lia)];refine BB ?_;z_run;by_cases h2:x.length<=4
  .rw[Ab (by lia)];refine BB ?_;rw[Ab (by lia),Ab (by lia)]at Y;z_run;intro D hD;let Izz:zU:=λj E k C=>∃(J:Ϩ V),k=[some (.str x),J]/\AA R C/\C D=some (.lst E)/\E=((x.cps.toList.take j).map PU).map V.bl
   refine T6 (x:=x) Izz
    ?_ ?_ ?_
   exact IS none U (BM hD _) AM U;(.refine λj c E k C B I S=>?_;revert k;refine KN λJ O L i=>?_;subst i;have y:x.cps.toList[j]?=some c:=(by rw[Ew];exact B);z_run;rw[vS c (Z.2 c (Af y))];refine EI I L (by rw[A3,A3,Ao];lia) ⟨_,U,DF O hD,AM,?_⟩;rw[Am,y,Ae,Ae];rfl);refine λE k C S=>?_;revert k;refine KN λJ O L i=>?_;subst i;refine BY D _ U (AC.of L) ?_;have e2:((x.cps.toList.take x.cps.size).map PU).all id=IF x:=(by rw[Y,Ai (by rw[Au];exact A9 _),Jy];rfl);rw[e2];exact q _ O
  rw[Aj (by lia)];(try refine AK ?_);refine no _ (AA.refl _) ?_;lia
 rw[Aj (by lia)];(try refine AK ?_);refine AU _ U ?_;(try refine AK ?_);refine no _ (AA.refl _) ?_;lia
def vU:Sp:=λd H Q _=>∃x:ϥ,d=[.str x]/\AW x/\∀c,AA H c->Q (.bl (KJ x)) c
def vV:T.F 2 24 vU:=by
 refine BX T.Ĵ.fn sV ?_;k_ne;revert vs;refine Oo λx R q=>?_;have Z:x.cps.toList.length=x.length:=Au;have S:=R.1;have no:∀z,AA H z->KJ x=false->Q (.bl false) z:=λz s e=>by rw[<-e];exact q z s
 have O:∀y:ϥ,decide (V.str x=V.str y)=decide (x=y):=λy=>FI;refine AU _ (AF (GY (FH My (pv 0) BN (BL _)) (GY (FH My (pv 0) BN (BL _)) (KG (LX (Px K U U) U T.zH UH (AD (CW ["word","sign"] [] 1 (RR (pv 0)) (BD 1) EU (BG T.ş (gH T) hr U (AZ 1))) AI)))))) ?_;z_run;rw[O];by_cases E:x="";(.rw[Ab E];(try refine AK ?_);refine no _ (AA.refl _) ?_;unfold KJ;lia);rw[Aj E];try refine BB ?_
 z_run;rw[O];by_cases B:x="end";(.rw[Ab B];(try refine AK ?_);refine no _ (AA.refl _) ?_;unfold KJ;lia);rw[Aj B];try refine BB ?_
 z_run;intro D hD;let Izz:zU:=λj v o r=>∃(G:Ϩ V),o=[some (.str x),G]/\AA H r/\r D=some (.lst v)/\v=((x.cps.toList.take j).map λc=>decide (c∈BQ)).map V.bl
 refine T6 (x:=x) Izz
  ?_ ?_ ?_
 exact IS none U (BM hD _) AM U;(.refine λj c v o r Y C L=>?_;revert o;refine KN λG J I i=>?_;subst i;have k:x.cps.toList[j]?=some c:=(by rw[Ew];exact Y);z_run;refine⟨⟨C5 U,λd hd=>(Ah.mp hd) ▸ R.2 c (Af k)⟩,EI C I (by rw[A3,A3,Ao];lia) ⟨_,U,DF J hD,AM,?_⟩⟩;rw[Am,k,Ae,Ae];rfl);refine λv o r L=>?_;revert o;refine KN λG J I i=>?_;subst i;refine BY D _ U (AC.of I) ?_;have X:((x.cps.toList.take x.cps.size).map λc=>decide (c∈BQ)).all id=KJ x:=(by unfold KJ;rw[Ab E,Ab (p:=x≠("end":ϥ)) B,Ai (by rw[Au];exact A9 _),Jy];rfl);rw[X];exact q _ J
structure NJ(H:Hp)(wl:Ϡ)(ws:ώ):Prop where
 at_:H wl=some (.lst (ws.map V.str))
 Ĕ:ws.length<=90000
 ok:∀x∈ws,AW x
def NJ.same(h:NJ H c ws)(s:AA H d):NJ d c ws:=⟨s _ _ h.at_,h.Ĕ,h.ok⟩
def vW:AW "":=⟨by room,λc d=>by rw[show("":ϥ).cps.toList=[] by lk]at d;cases d⟩
def NJ.hd(h:NJ H c ws)(k):AW (Cp.hd ws k):=by unfold Cp.hd;cases e:ws[k]? with|none=>exact vW|some x=>exact h.ok x (Af e)
def vX:Sp:=λe H Q _=>∃(d:Ϡ) (c:ώ) (n:Nat),e=[.ref d,.int (n:Int)]/\NJ H d c/\Q (.str (Cp.hd c n)) H
def Yw:T.F 1 25 vX:=by
 refine BX T.ĺ.fn sW ?_;k_ne;revert vs;refine jh λi c n W q=>?_;refine AU _ (AF (Pa (CA NO (pv 1) (ln T (pv 0)) (BL _)) (BZ (DE K U) (pv 0) (pv 1) (λ_ _=>U)) BN)) ?_;z_run;refine BY i _ U (.inl (AC.of W.at_)) ?_;rw[A3];z_run;by_cases h:n<c.length
 .rw[Ab (by lia)];refine BB ?_;have d:DP (c.map V.str) (n:Int)=some (.str (Cp.hd c n)):=FR (by
   unfold Cp.hd;rw[An,A6 h];rfl)
  exact⟨_,U,_,U,i,_,_,_,U,U,AC.of W.at_,d,q⟩
 rw[Aj (by lia)];refine AK ?_;have e:Cp.hd c n="":=(by unfold Cp.hd;rw[K8 (by lia)];rfl);rw[e]at q;exact q
def vY:Sp:=λk H Q _=>∃(d:Ϡ) (c:ώ) (m:Nat) (i j n:Int),k=[.ref d,.int (m:Int),.int i,.int j]/\NJ H d c/\HU (Cp.hd c m) i j=some n/\∀e,AA H e->Q (.int n) e
def U6:T.F 2 26 vY:=by have c:=Yw T;refine BX T.Ø.fn g9 ?_;k_ne;revert vs;refine ji λp d m E C n W z q=>?_;refine FY (λj o v r=>?_) (XP z);have y:=W.hd m;have i:=fb j;rw[<-r]at i;have s:=(TB j).2;have B:(Cp.hd d m).cps.toList.length=(Cp.hd d m).length:=Au;refine⟨_,(AH (AL 4 g9.nd (BG T.ĺ c hr U (AR 0 (AZ 1)))) (AH (CC (PW.pt (Ot (KS (FK (BG T.õ (VC T) hr U (AZ 4)))) (P8 (KS (Zu Ng Ng (pv 2) (FQ S1 U T.Ğ Pp (AZ 4)) (pv 3)))))) (BV LI) CJ) (AF (FQ S1 U T.Ğ Pp (AZ 4))))),?_⟩;z_run;refine Qc p d m U W ?_;z_run;(first|intro k e|refine⟨Cp.hd d m,U,y,?_⟩;intro k e);rw[j];z_run;refine CM (Cp.hd d m) n U i (by lia) ?_;z_run;rw[Ab o];(try refine BB ?_);z_run;rw[Ab v];z_run;(try refine AK ?_);z_run;exact CM (Cp.hd d m) n U i (by lia) (q k e)
def vZ:Sp:=λe H Q _=>∃(d:Ϡ) (c:ώ) (m:Nat) (x:ϥ),e=[.ref d,.int (m:Int),.str x]/\NJ H d c/\Cp.hd c m=x/\Q .non H
def VD:T.F 2 27 vZ:=by have c:=Yw T;refine BX T.þ.fn sX ?_;k_ne;revert vs;refine JP λd e m x W i q=>?_;refine AU _ (BV (CC (CA My (BG T.ĺ c hr U (AR 0 (AZ 1))) (pv 2) (BL _)) (BV LI) CJ)) ?_;z_run;refine Qc d e m U W ?_;rw[i];z_run;refine CG (λz=>absurd z ?_) (λ_=>?_);rw[Ab U];exact Bg;exact q
def hU(H:Hp)(e:Int)(b:Mm)(d:Hp)(v:V):Prop:=∃t c,v=.ref t/\d t=some (.tup [c,.int e])/\Jb.GV (λa=>H a≠none) d c b
def Yx(f:ώ->Cp.Rd Mm):Sp:=λi H Q _=>∃(e:Ϡ) (c:ώ) (n:Nat) (b:Mm) (k:Nat),i=[.ref e,.int (n:Int)]/\NJ H e c/\n<c.length/\f (c.drop n)=some (b,k)/\∀v d,AA H d->hU H ((n+k:Nat):Int) b d v->Q v d
def wb:T.F 3 28 (Yx TC):=by refine BX T.Ģ.fn sY ?_;k_ne;revert vs;refine RD λv z n b k W r i q=>?_;unfold TC at i;refine AS (λm o e=>?_) (Az.mp i);rw[OJ]at o;cases e;refine AU _ (AF (FP (AD (FP (AD BN (AD (BG T.Ø (U6 T) hr U (AR 0 (AD (AX DT (pv 1) AJ) (AD AJ (AD AJ AI))))) AI))) (AD (AX DT (pv 1) AJ) AI)))) ?_;z_run;refine DC v z (n+1) 1 2000 (MW m (GC U W o (λC d=>?_)));z_run;intro j B;x_fa E y s;z_run;intro p c;exact q _ _ (d.trans (EY y c)) ⟨p,.ref j,U,AM,j,U,BM c _ _ _ s⟩
def wc:T.F 3 29 (Yx Rg):=by refine BX T.ō.fn Vt ?_;k_ne;revert vs;refine RD λy j n b k W G d q=>?_;unfold Rg at d;cases s:HU (Cp.hd (j.drop n) 1) 0 99 with|none=>rw[s]at d;cases d|some z =>rw[s]at d;dsimp only at d;cases r:HU (Cp.hd (j.drop n) 2) z 99 with|none=>rw[r]at d;cases d|some c =>rw[r]at d;dsimp only at d;refine AS (λL C e=>?_) (Az.mp d);rw[OJ]at s r C;cases e;refine⟨_,(AH (AL 2 Vt.nd (BG T.Ø (U6 T) hr U (AR 0 (AD (AX DT (pv 1) AJ) (AD AJ (AD AJ AI)))))) (AH (AL 3 Vt.nd (BG T.Ø (U6 T) hr U (AR 0 (AD (AX DT (pv 1) AJ) (AR 2 (AD AJ AI)))))) (AH (AL 4 Vt.nd (BG T.Ø (U6 T) hr U (AR 0 (AD (AX DT (pv 1) AJ) (AR 3 (AD AJ AI)))))) (AF (FP (AD (FP (AD BN (AR 2 (AR 3 (AZ 4))))) (AD (AX DT (pv 1) AJ) AI))))))),?_⟩;z_run;refine DC y j (n+1) 0 99 (MW z (GC U W s (λR i=>?_)));z_run;refine DC y j (n+2) z 99 (MW c (GC U (W.same i) r (λS o=>?_)));z_run;refine DC y j (n+3) c 99 (MW L (GC U (W.same (i.trans o)) C (λO v=>?_)));z_run;intro B J;x_fa Q I H;z_run;intro E p;exact q _ _ ((i.trans (o.trans v)).trans (EY I p)) ⟨E,.ref B,U,AM,B,U,BM p _ _ _ H⟩
def hV:KJ ""=false:=by room
def we(d:∀i,i<k->KJ (Cp.hd r i)=true)(c:KJ (Cp.hd r k)=false):(r.takeWhile KJ)=r.take k/\(r.takeWhile KJ).length=k:=by induction r generalizing k with|nil =>(cases k with|zero=>exact⟨U,U⟩|succ k =>have:=d 0 (Nat.succ_pos _);rw[show Cp.hd [] 0="" from U,hV]at this;cases this)|cons x r e =>cases k with|zero =>have c:KJ x=false:=c;rw[Fo,c];exact⟨U,U⟩|succ k =>have j:KJ x=true:=d 0 (Nat.succ_pos _);obtain⟨o,p⟩:=e (k:=k) (λi s=>d (i+1) (by lia)) c;rw[Fo,j];grind
def wg:T.F 3 30 (Yx S3):=by
 have j:=Yw T;refine BX T.ź.fn Y9 ?_;k_ne;revert vs;refine RD λI d n b k W O p q=>?_;have ab:=W.Ĕ;refine⟨_,(AH (AL 2 Y9.nd (AX DT (pv 1) AJ)) (AH (Pb B6 (FK (BG T.Ĵ (vV T) hr U (AD (BG T.ĺ j hr U (AR 0 (AZ 2))) AI))) (BV (AL 2 Y9.nd (AX DT (pv 2) AJ)))) (AH (CC (CA EE (pv 2) (AX DT (pv 1) AJ) (BL _)) (BV LI) CJ) (AH (FC (BG T.þ (VD T) hr U (AR 0 (AR 2 (AD BN AI))))) (AF (FP (AD (FP (AD BN (AD (Nw (NQ K U) (pv 0) (LY (AX DT (pv 1) AJ)) (LY (pv 2))) AI))) (AD (AX DT (pv 2) AJ) AI)))))))),?_⟩;z_run;let Izz:zT:=λmm σ H3=>∃(e:Nat),mm=d.length+1-(n+1+e)/\n+1+e<=d.length/\σ=[some (.ref I),some (.int (n:Int)),some (.int ((n+1+e:Nat):Int))]/\AA H H3/\∀i,i<e->KJ (Cp.hd d (n+1+i))=true;refine⟨Izz,⟨_,0,U,O,by rfl,AA.refl _,λi L=>absurd L (E3 _)⟩,?_⟩;refine λmm σ H3=>OW λe B X C y s=>?_;subst B;subst C;have W3:=W.same y;z_run;refine⟨I,d,n+1+e,U,W3,Cp.hd d (n+1+e),U,W3.hd _,λH4 Y=>?_⟩;have o:=y.trans Y;refine AU _ U (CG (λc=>?_) (λc=>?_));(.have R:Cp.hd d (n+1+e)≠"":=λz=>(by rw[z,hV]at c;cases c);have aa:=S4 R;refine AU _ (λae H' h=>h) ?_;z_run;refine⟨_,by lia,e+1,U,by lia,by rw[show n+1+(e+1)=n+1+e+1 from U];rfl,o,λi L=>?_⟩;by_cases z:i=e;rw[z];exact c;exact s i (by lia))
 .have c:KJ (Cp.hd d (n+1+e))=false:=by
   cases z:KJ (Cp.hd d (n+1+e))with
   | false=>rfl
   | true=>exact absurd z c
  obtain⟨a1,G⟩:=we (r:=(d.drop n).drop 1) (k:=e) (λi L=>by rw[OJ,OJ,<-Gg];exact s i L) (by rw[OJ,OJ,<-Gg];exact c);have a1:Cp.ER (d.drop n)=((d.drop n).drop 1).take e:=a1;have G:(Cp.ER (d.drop n)).length=e:=G;unfold S3 at p;by_cases z0:Cp.ER (d.drop n)=[];rw[B1 z0]at p;cases p;rw[Av z0]at p;by_cases v:¬Cp.hd (d.drop n) ((Cp.ER (d.drop n)).length+1)="end";rw[Av v]at p;cases p;have v:=J4.mp v;rw[B1 v]at p;have p:=B0 p;have e0:e≠0:=λz=>z0 (Cq.mp (by rw[G,z]));rw[G,OJ,show n+(e+1)=n+1+e by lia]at v;have W4:=W.same o;z_run;refine CG (λz=>?_) (λ_=>?_);exfalso;have z:=Ax z;have z:=V.int.inj z;lia;z_run;refine EM I d (n+1+e) ("end") U W4 v ?_;z_run;refine BY I _ U (AC.of W4.at_) (λp1 Q=>?_);have E:DV (d.map V.str) (some ((n:Int)+1)) (some ((n+1+e:Nat):Int))=(Cp.ER (d.drop n)).map V.str:=(by rw[show(n:Int)+1=((n+1:Nat):Int) by lia,cX V.str d (n+1) (n+1+e) X,a1,Kk,List.drop_take];congr 1;rw[show n+1+e-(n+1)=e by lia]);rw[E];x_fa H5 s5 h5;z_run;intro J ac;x_fa H6 s6 h6;z_run;intro t2 Z;have S:=BM Z (.tup [.ref J,.int (((n+1+e:Nat):Int)+1)]);rw[show b=.st (Cp.ER (d.drop n))from(Bt Prod.fst p).symm]at q;have ek:k=e+2:=(by rw[<-show _=k from Bt Prod.snd p,<-G]);refine q _ _ (o.trans (s5.trans (s6.trans S))) ⟨t2,.ref J,U,?_,J,p1,U,S _ _ h6,λz=>z (o.free Q),S _ _ (s6 _ _ h5)⟩;rw[AM,ek];show some (HO.tup [V.ref J,V.int (((n+1+e:Nat):Int)+1)])=_;rw[show((n+1+e:Nat):Int)+1=((n+(e+2):Nat):Int) by lia]
def U7(d:Nat):Sp:=λr H Q _=>∃(o:Ϡ) (e:ώ) (n:Nat) (i:ϩ (DS d)) (k:Nat),r=[.ref o,.int (n:Int),.int ((4-d:Nat):Int)]/\NJ H o e/\n<=e.length/\d<=4/\HJ d (e.drop n)=some (i,k)/\(∀j∈i,LM d j) /\∀(t c:Ϡ) (p:ϩ V) H',AA H H'->H' t=some (.tup [.ref c,.int ((n+k:Nat):Int)])->H c=none->H' c=some (.lst p)->Paired (Jb.CQ (λa=>a=c\/H a≠none) H' d) p i->Q (.ref t) H'
def hX(d:Nat):Sp:=λo H Q _=>∃(e:Ϡ) (c:ώ) (n:Nat) (j:DS d) (k:Nat),o=[.ref e,.int (n:Int),.int ((4-d:Nat):Int)]/\NJ H e c/\n<c.length/\d<=4/\Mu d (c.drop n)=some (j,k)/\LM d j /\∀(t:Ϡ) (i:V) H',AA H H'->H' t=some (.tup [i,.int ((n+k:Nat):Int)])->Jb.CQ (λa=>H a≠none) H' d i j->Q (.ref t) H'
def hY(d:Nat):Sp:=λo H Q _=>∃(i:Ϡ) (e:ώ) (n:Nat) (m:Nat) (c:ϩ (DS d)) (k:Nat),o=[.ref i,.int (n:Int),.int ((4-(d+1):Nat):Int)]/\NJ H i e/\d+1<=4/\Rh (λr=>HJ d r) (e.drop n)=some ((m,c),k)/\LM (d+1) (Sum.inr (m,c)) /\∀(t:Ϡ) (j:V) H',AA H H'->H' t=some (.tup [j,.int ((n+k:Nat):Int)])->Jb.CQ (λa=>H a≠none) H' (d+1) j (Sum.inr (m,c))->Q (.ref t) H'
def wh(hL:2<=L)(e:T.F L 33 (U7 d)):T.F (L+1) 31 (hY d):=by
 refine BX T.ņ.fn Vu ?_;k_ne;revert vs;refine jj λG i n m js k W ag c gd q=>?_;unfold Rh at c;cases E:HU (Cp.hd (i.drop n) 0) 1 9 with|none=>rw[E]at c;cases c|some mm =>
 rw[E]at c;dsimp only at c;by_cases o:¬(Cp.hd (i.drop n) 1="times"/\Cp.hd (i.drop n) 2="(");rw[Av o]at c;cases c;have o:=J4.mp o;rw[B1 o]at c;cases R:HJ d ((i.drop n).drop 3)with|none=>rw[R]at c;cases c|some z =>
 obtain⟨X,s⟩:=z;rw[R]at c;dsimp only at c;by_cases e4:X=[];rw[B1 e4]at c;cases c;rw[Av e4]at c;by_cases C:¬Cp.hd (i.drop n) (3+s)=")";rw[Av C]at c;cases c;have C:=J4.mp C;rw[B1 C]at c;cases c;have ae:=XP E;have Y:((mm.toNat:Nat):Int)=mm:=by lia
 obtain⟨o,r⟩:=o;rw[OJ]at E o r C;rw[Kk]at R;rw[L9]at E
 have ac:n+2<i.length:=S4 (λz=>absurd (r.symm.trans z) (by room));revert gd;refine HP λg1 g2 g3 g4 g5=>?_;refine⟨_,(AH (AL 3 Vu.nd (BG T.Ø (U6 T) hr U (AR 0 (AR 1 (AD AJ (AD AJ AI)))) (hjk:=by lia)))
  (AH (FC (BG T.þ (VD T) hr U (AR 0 (AD (AX DT (pv 1) AJ) (AD BN AI))) (hjk:=by lia)))
  (AH (FC (BG T.þ (VD T) hr U (AR 0 (AD (AX DT (pv 1) AJ) (AD BN AI))) (hjk:=by lia)))
  (AH (CC (CA EE (pv 2) (JR (v:=.int 4) U T.ü ⟨_,U⟩) (BL _)) (BV LI) CJ)
  (AH (IU (BG T.Ĭ e hr U (AR 0 (AD (AX DT (pv 1) AJ) (AD (AX DT (pv 2) AJ) AI))) (hjk:=by lia)) (ES K U (n:=2) U (BO (AQ 4 Vu.nd) (BO (AQ 5 Vu.nd) EL))))
  (AH (CC (CA EE (ln T (pv 4)) AJ (BL _)) (BV LI) CJ)
  (AH (FC (BG T.þ (VD T) hr U (AR 0 (AR 5 (AD BN AI))) (hjk:=by lia)))
  (AF (FP (AD (FP (AD BN (AR 3 (AZ 4)))) (AD (AX DT (pv 5) AJ) AI))))))))))),?_⟩
 z_run;refine DC G i n 1 9 (MW mm (GC U W E (λH1 j=>?_)));have O:=W.same j;z_run;refine EM G i (n+1) ("times") U O o ?_;z_run;refine EM G i (n+2) ("(") U O r ?_;z_run;refine CG (λz=>?_) (λ_=>?_);exfalso;have z:=V.int.inj (Ax z);lia;z_run;refine DC G i (n+3) js s (DY (by rw[show((4-d:Nat):Int)=((4-(d+1):Nat):Int)+1 by lia];rfl) O (by lia) (by lia) R g5 (λt jl xs H2 B ht I p H=>⟨_,_,U,BP.of ht,U,?_⟩));x_go;x_go;have ab:=B2 H;z_run;refine BY jl _ U (.inl (AC.of p)) ?_;z_run;refine CG (λz=>?_) (λ_=>?_);exfalso;have z:=V.int.inj (Ax z);exact e4 (Cq.mp (by lia));z_run;refine EM G i (n+3+s) (")") U (O.same B) (by rw[Gg];exact C) ?_;z_run;intro Q af;x_fa H3 s3 h3;z_run;intro t2 Z;have S:=BM Z (.tup [.ref Q,.int (((n+3+s:Nat):Int)+1)]);refine q t2 (.ref Q) _ (j.trans (B.trans (s3.trans S))) ?_ ?_;rw[AM];show some (HO.tup [V.ref Q,V.int (((n+3+s:Nat):Int)+1)])=_;rw[show((n+3+s:Nat):Int)+1=((n+(4+s):Nat):Int) by lia];have J:=s3.trans S;have aa:=j.trans B;refine⟨by lia,by lia,Q,jl,xs,U,by rw[Y];exact S _ _ h3,λz=>z (j.free I),J _ _ p,Paired.Æ H λ_ _ z=>Jb.CQ.same (.of J) d (Jb.CQ.weak (λb hb=>.inr λy=>hb (j.free y)) d z)⟩
def hZ{ws:ώ}{n}(h:n<ws.length):DP (ws.map V.str) (n)=some (.str (Cp.hd ws n)):=FR (by
 unfold Cp.hd;rw[An,A6 h];rfl)
def i0(T:Tx P w base K mg a){L d:Nat}(hL:3<=L){spT:Sp}(hT:∀(d':Nat),d=d'+1->∀vs H Q E,hY d' vs H Q E->spT vs H Q E)
 (G_read_times:T.F L 31 spT):T.F (L+1) 32 (hX d):=by
 refine BX T.zu.fn sZ ?_;k_ne;revert vs;refine Z5 λO o n j k W C aa R gd q=>?_;have Z:∀x y:ϥ,decide (V.str x=V.str y)=decide (x=y):=λx y=>FI
 have J:=hZ C;have I:Cp.hd (o.drop n) 0=Cp.hd o n:=by rw[OJ];rfl
 have bas:∀b,Ni (o.drop n)=some (b,k)->(∀{M:ϝ}{B:Hp}{v:V},Jb.GV M B v b->Jb.CQ M B d v j)->∀v B,AA H B->hU H ((n+k:Nat):Int) b B v->Q v B:=λb _ mk v B s ⟨t,v1,e,p,G⟩=>by
  rw[e];exact q t v1 B s p (mk G)
 have view:(∃b,Ni (o.drop n)=some (b,k)/\∀{M:ϝ}{B:Hp}{v:V},Jb.GV M B v b->Jb.CQ M B d v j)\/(PV (o.drop n)=false/\∃d' m Y,∃e:d=d'+1,Rh (λr=>HJ d' r) (o.drop n)=some ((m,Y),k)/\HEq j (Sum.inr (m,Y):DS (d'+1))):=by
  cases d with
  | zero=>exact .inl ⟨j,R,λz=>z⟩
  | succ d' =>
    unfold Mu at R;by_cases c:PV (o.drop n)=true
    .rw[B1 c]at R
     refine AS (λz S e=>?_) (Az.mp R);cases e;exact .inl ⟨z.1,S,λy=>y⟩
    .rw[Av c]at R
     refine AS (λz S e=>?_) (Az.mp R);cases e;exact .inr ⟨J5.mpr c,d',z.1.1,z.1.2,U,S,HEq.rfl⟩
 refine⟨_,(AH (CC (CA EE (BZ (DE K U) (pv 0) (pv 1) (λ_ _=>U)) BN (BL _)) (AF (BG T.Ģ (wb T) hr U (AR 0 (AZ 1)) (hjk:=by lia))) CJ)
  (AH (CC (CA EE (BZ (DE K U) (pv 0) (pv 1) (λ_ _=>U)) BN (BL _)) (AF (BG T.ō (wc T) hr U (AR 0 (AZ 1)) (hjk:=by lia))) CJ)
  (AH (CC (CA EE (BZ (DE K U) (pv 0) (pv 1) (λ_ _=>U)) BN (BL _)) (AF (BG T.ź (wg T) hr U (AR 0 (AZ 1)) (hjk:=by lia))) CJ)
  (AF (BG T.ņ G_read_times hr U (AR 0 (AR 1 (AZ 2))) (hjk:=by lia)))))),?_⟩
 z_run;try refine⟨O,_,_,_,U,U,AC.of W.at_,J,?_⟩
 z_run;rw[Z];by_cases p:Cp.hd o n="measure"
 .rw[Ab p];refine BB ?_;rcases view with⟨b,c,mk⟩|⟨c,_⟩
  .have i:=c;unfold Ni at i;rw[I,B1 p]at i
   z_run;exact DC O o n b k (MX U W C i (bas b c mk))
  .unfold PV at c;rw[I,Ab p]at c
   cases c
 rw[Aj p];refine AK ?_;z_run;try refine⟨O,_,_,_,U,U,AC.of W.at_,J,?_⟩
 z_run;rw[Z];by_cases G:Cp.hd o n="gaps"
 .rw[Ab G];refine BB ?_;rcases view with⟨b,c,mk⟩|⟨c,_⟩
  .have i:=c;unfold Ni at i;rw[I,Av p,B1 G]at i
   z_run;exact DC O o n b k (MX U W C i (bas b c mk))
  .unfold PV at c;rw[I,Aj p,Ab G]at c
   cases c
 rw[Aj G];refine AK ?_;z_run;try refine⟨O,_,_,_,U,U,AC.of W.at_,J,?_⟩
 z_run;rw[Z];by_cases X:Cp.hd o n="set"
 .rw[Ab X];refine BB ?_;rcases view with⟨b,c,mk⟩|⟨c,_⟩
  .have i:=c;unfold Ni at i;rw[I,Av p,Av G,B1 X]at i
   z_run;exact DC O o n b k (MX U W C i (bas b c mk))
  .unfold PV at c;rw[I,Aj p,Aj G,Ab X]at c
   cases c
 rw[Aj X];refine AK ?_;rcases view with⟨b,c,mk⟩|⟨_,d',m,Y,e,S,hj⟩
 .exfalso;unfold Ni at c;rw[I,Av p,Av G,Av X]at c
  cases c
 subst e;cases hj;z_run;exact hT d' U _ _ _ _ ⟨O,o,n,m,Y,k,U,W,aa,S,gd,q⟩
def HL:Nj (ws.drop n)=false↔n<ws.length/\Cp.hd ws n≠")":=by unfold Nj;rw[OJ,L9,Kh,Ej,Ej,Ke];lia
def i3(i:T.F L 32 (hX d)):T.F (L+1) 33 (U7 d):=by
 refine BX T.Ĭ.fn Vv ?_;k_ne;revert vs;refine Z5 λwl o n js k W hn aj hf gd q=>?_;have am:=W.Ĕ;have ev:∀x y:ϥ,decide (V.str x=V.str y)=decide (x=y):=λx y=>FI
 refine⟨_,(AH (AL 3 Vv.nd (CO AI)) (AH (Pb B6 (PW.pt (P9 (CA NO (pv 1) (ln T (pv 0)) (BL _)) (P7 (CA My (BZ (DE K U) (pv 0) (pv 1) (λ_ _=>U)) BN (BL _))))) (AH (IU (BG T.zu i hr U (AR 0 (AR 1 (AZ 2))) (hjk:=by lia)) (ES K U (n:=2) U (BO (AQ 4 Vv.nd) (BO (AQ 1 Vv.nd) EL))))
  (@BV _ _ _ (FC (@EG K _ _ _ _ _ _ _ _ _ _ _ _ Ay Bj Bk KW (pv 3) (AZ 4) U U U U U U)))))
  (AF (FP (AR 3 (AZ 1)))))),?_⟩
 z_run;intro C I;x_fa H1 ai h1;z_run;let Izz:zT:=λmm σ Z=>∃(e:Nat) (Y:ϩ V) (p B:ϩ (DS d)) (k2:Nat) (v4:Ϩ V),mm=o.length-(n+e)/\n+e<=o.length/\σ=[some (.ref wl),some (.int ((n+e:Nat):Int)),some (.int ((4-d:Nat):Int)),some (.ref C),v4]/\AA H Z/\Z C=some (.lst Y)/\Paired (Jb.CQ (λa=>a=C\/H a≠none) Z d) Y p/\p.length<=e/\js=p++B/\k=e+k2/\HJ d (o.drop (n+e))=some (B,k2);refine⟨Izz,⟨_,0,[],[],js,k,none,U,hn,U,ai,h1,.nil,A9 _,U,(Lq _).symm,hf⟩,?_⟩;refine λmm σ Z=>EK λe Y p B k2=>OV λv4=>MV λaf ap ae E s J ao=>ED λR ek ak=>?_;subst af;subst ae;have W3:=W.same E;have c:=Cp.XS (d:=d) (r:=o.drop (n+e));rw[ak]at c;have done:Nj (o.drop (n+e))=true->∀t,Z t=none->Q (.ref t) (upd Z t (.tup [.ref C,.int ((n+e:Nat):Int)])):=λO t ht=>by rw[B1 O]at c;have c:=B0 c;have e1:B=[]:=Bt Prod.fst c;have e2:k2=0:=Bt Prod.snd c;have st:=BM ht (.tup [.ref C,.int ((n+e:Nat):Int)]);refine q t C Y _ (E.trans st) ?_ I (st _ _ s) (Paired.Æ ?_ λ_ _ z=>Jb.CQ.same (.of st) d z);rw[AM,ek,e2];rfl;rw[R,e1,Aq];exact J
 z_run;refine BY wl _ U (.inl (AC.of W3.at_)) ?_;rw[A3];z_run;by_cases G:n+e<o.length
 .rw[Ab (show((n+e:Nat):Int)<(o.length:Int) by lia)];refine BB ?_;have ag:=hZ G;refine⟨_,U,_,U,wl,_,_,_,U,U,AC.of W3.at_,ag,?_⟩;clear ag;z_run;rw[ev];by_cases X:Cp.hd o (n+e)=")"
  .rw[Ab X];refine AK ?_;have O:Nj (o.drop (n+e))=true:=by
    cases z:Nj (o.drop (n+e))with
    | true=>rfl
    | false=>exact absurd X (HL.mp z).2
   z_run;exact λt ht=>done O t ht
  rw[Aj X];refine BB ?_;have O:¬Nj (o.drop (n+e))=true:=λz=>(by rw[HL.mpr ⟨G,X⟩]at z;cases z);rw[Av O]at c;cases hj:Mu d (o.drop (n+e))with|none=>rw[hj]at c;cases c|some z =>obtain⟨j,kj⟩:=z;rw[hj]at c;dsimp only at c;obtain⟨⟨ab,k3⟩,ac,e3⟩:=Az.mp c.symm;have aa:=Cp.XR d hj;rw[Cu]at aa;have e4:B=j::ab:=(Bt Prod.fst e3).symm;have e5:=(Bt Prod.snd e3).symm;have gj:LM d j:=gd j (by rw[R,e4];exact Bm _ Aa);refine AU _ (λaq H' h=>h) ?_;z_run;refine DC wl o (n+e) j kj (DY U W3 G aj hj gj (λt v1 H4 S al ah=>⟨_,_,U,BP.of al,U,?_⟩));x_go;x_go;have v:=S _ _ s;have an:=B2 J;z_run;refine⟨.inl ⟨U,_,AC.of v⟩,?_⟩;z_run;refine DZ C _ _ U U v (KY (by lia)) ?_;have su:Jb.DQ (λa=>a=C\/H a≠none) H4 (upd H4 C (.lst (Y++[v1]))):=Jb.DQ.upd v (.inl U);refine⟨o.length-(n+(e+kj)),by lia,e+kj,Y++[v1],p++[j],ab,k3,_,U,by lia,by rw[<-Gg];rfl,DF (E.trans S) I,AM,Bz (Paired.Æ J λ_ _ z=>Jb.CQ.same ((Jb.DQ.of (N:=λa=>a=C\/H a≠none) S).trans su) d z) (Jb.CQ.same su d (Jb.CQ.weak (λb X=>?_) d ah)),?_,?_,by lia,?_⟩;rcases X with y|y;rw[y,s];exact λz=>(nomatch z);exact λz=>y (E.free z);rw[Ag];show _+1<=_;lia;rw[R,e4,B4];rfl;rw[Kk,Gg]at ac;exact ac
 .rw[Aj (show ¬((n+e:Nat):Int)<(o.length:Int) by lia)];refine AK ?_;have O:Nj (o.drop (n+e))=true:=by
   cases z:Nj (o.drop (n+e))with
   | true=>rfl
   | false=>exact absurd (HL.mp z).1 G
  z_run;exact λt ht=>done O t ht
def i4{P}{w}{K}{mg}{base}:CF P w K mg base CX k f c ps (λ_ _ _ _=>False):=⟨λ_ _ _ _ h=>h.elim,λ_ _ _ _ _ _ _ _ _ _ _ _ _ h=>h.elim⟩
def wj:T.F 17 33 (U7 4):=by have c:∀{L d:Nat},2<=L->T.F L 33 (U7 d)->T.F (L+1+1+1) 33 (U7 (d+1)):=λ{L d} j G =>i3 T (i0 T (by lia) (λi e k H Q E h=>by cases e;exact h) (wh T j G));exact c (by lia) (c (by lia) (c (by lia) (c (by lia) (i3 T (i0 (L:=3) T (by lk) (λi e=>absurd e (by lia)) i4)))))
def MO(x:ϥ):ώ:=if x="" then []else Txt.split x " "
def wm:Sp:=λi H Q _=>∃(x:ϥ) (d:ϩ (DS 4)),i=[.str x]/\x.length<=80000/\(∀y∈MO x,AW y)/\S5 (MO x)=some d/\(∀j∈d,LM 4 j) /\∀(c:Ϡ) (e:ϩ V) H',AA H H'->H c=none->H' c=some (.lst e)->Paired (Jb.CQ (λa=>a=c) H' 4) e d->Q (.ref c) H'
def wo:T.F 18 34 wm:=by refine BX T.ŗ.fn Vw ?_;k_ne;revert vs;refine VU λx Y hx L e J q=>?_;have I:∀y:ϥ,decide (V.str x=V.str y)=decide (x=y):=λy=>FI;have r:(MO x).length<=90000:=(by unfold MO;split;exact B8 _;have:=Xd x " ";lia);unfold S5 at e;cases C:HJ 4 (MO x)with|none=>rw[C]at e;cases e|some z =>obtain⟨Q,k⟩:=z;rw[C]at e;dsimp only at e;by_cases E:k<(MO x).length;rw[B1 E]at e;cases e;rw[Av E]at e;cases e;refine⟨_,(AH (Ny (AL 1 Vw.nd (Pa (CA My (pv 0) BN (BL _)) (@EG K _ _ _ _ _ _ _ _ _ _ _ _ Bi Ep Er V3 (pv 0) (AD BN AI) U U U U U U) (CO AI)))) (AH (IU (BG T.Ĭ (wj T) hr U (AR 1 (AD AJ (AD AJ AI)))) (ES K U (n:=2) U (BO (AQ 2 Vw.nd) (BO (AQ 3 Vw.nd) EL)))) (AH (CC (CA NO (pv 3) (ln T (pv 1)) (BL _)) (BV LI) CJ) (AF (pv 2))))),?_⟩;let Izz:zS:=λB s=>∃d,B=[some (.str x),some (.ref d),none,none]/\AA H s/\s d=some (.lst ((MO x).map V.str));refine AU Izz ?_ ?_;(.z_run;rw[I];by_cases i:x="";(.rw[Ab i];refine AK ?_;z_run;intro d c;refine HA d U (BM c _) ?_;rw[AM];unfold MO;rw[B1 i];rfl);rw[Aj i];refine BB ?_;z_run;(try refine⟨U,?_⟩);z_run;intro d c;refine HA d U (BM c _) ?_;rw[AM];unfold MO;rw[Av i]);refine λB s Z=>?_;revert B;refine Oo λd j c=>?_;have W:NJ s d (MO x):=⟨c,r,L⟩;z_run;refine DC d (MO x) 0 Y k (DY U W (B8 _) (A9 _) C J (λt S R X p G o v O=>⟨_,_,U,BP.of G,U,?_⟩));x_go;x_go;z_run;refine BY d _ U (.inl (AC.of (W.same p).at_)) ?_;rw[A3];z_run;refine CG (λz=>?_) (λ_=>?_);exfalso;have z:=Ax z;lia;z_run;exact q S R X (j.trans p) (j.free o) v (Paired.Æ O λ_ _ z=>Jb.CQ.weak (λ_ y=>.inl y) 4 z)
def i5(x:ϥ):x.length=x.cps.toList.length:=Au.symm
abbrev AO(n:Nat):ϥ:=Str.ofString (toString n)
noncomputable def MS (t:Nat):ϔ:=[48+t/64%2,48+t/32%2,48+t/16%2,48+t/8%2,48+t/4%2,48+t/2%2,48+t%2]
def IP(t:Nat):ϥ:=⟨(MS t).toArray⟩
def wq:∀n:Fin 100,(IF (AO n.val)&&decide ((AO n.val).cps.toList.length<=2)&&(AO n.val).cps.toList.all (λc=>decide (48<=c/\c<=57)))=true:=by room
def U8(d:n<100):IF (AO n)=true/\(AO n).cps.toList.length<=2/\∀c∈(AO n).cps.toList,48<=c/\c<=57:=by have h:=wq ⟨n,d⟩;simp only[Ar,D3,Bw]at h;exact⟨h.1.1,h.1.2,h.2⟩
def i6:∀n,n<100->PySem.intText? (AO n)=some (n:Int)/\(AO n).length<=640:=λn c=>(show ∀n:Fin 100,PySem.intText? (AO n.val)=some (n.val:Int)/\(AO n.val).length<=640 by room) ⟨n,c⟩
def VE(i:n<100):AW (AO n):=by obtain⟨_,j,d⟩:=U8 i;exact⟨by lia,λc e=>by have:=d c e;lia⟩
def wu(h:c=48\/c=49):(!(Builtin.Str.occurrences "01" (sg c) 0 ("01":ϥ).length 1).isEmpty)=true:=by rcases h with rfl|rfl<;>decide +kernel
def Yy(h:c∈(IP t).cps.toList):c=48\/c=49:=by have h:c∈MS t:=h;simp only[MS,Al,Bl,Dd]at h;rcases h with h|h|h|h|h|h|h<;>lia
def wx:Sp:=λd H Q _=>∃t:Nat,d=[.str (IP t)]/\∀c,AA H c->Q (.bl true) c
def wy:T.F 1 35 wx:=by
 refine T.zt.fn.ok t4 (λp G Q E h=>?_) (λJ A outer s G p Q E R h=>?_);revert p;refine GD λt _=>?_;rfl;revert p;refine GD λt q=>?_;have L:(IP t).length=7:=U;have I:(IP t).length<=sizeLine:=DG (by lia);refine AU _ (AF (GY (FH EE (LX RI U T.Ň QP (AZ 0)) (JR (v:=.int 7) U T.Ü ⟨_,U⟩) (BL _)) (KG (LX (Px K U U) U T.zH UH (AD (CW ["word","figure"] [] 1 (RR (pv 0)) (BD 1) EU (FH Wu (pv 1) BN (by with_unfolding_all rfl))) AI))))) ?_;z_run;intro D hD;let Izz:zU:=λj k e i=>∃(y:Ϩ V),e=[some (.str (IP t)),y]/\AA G i/\i D=some (.lst k)/\k=(List.replicate j true).map V.bl
 refine T6 (x:=(IP t)) Izz
  ?_ ?_ ?_
 exact IS none U (BM hD _) AM U;(.refine λj c k e i O r C=>?_;revert e;refine KN λy B z d=>?_;subst d;have o:=Gi.mpr (K9 O);z_run;rw[wu (Yy o)];refine EI r z (by rw[A3,By];have:(IP t).cps.size=(IP t).length:=U;lia) ⟨_,U,DF B hD,AM,?_⟩;rw[List.replicate_succ',Ae];rfl);refine λk e i C=>?_;revert e;refine KN λy B z d=>?_;subst d;refine BY D _ U (AC.of z) ?_;rw[show(List.replicate (IP t).cps.size true).all id=true by rw[Bw];exact λb H=>D0 H];exact q _ B
def wz:∀c,c=48\/c=49->PySem.intText? (sg c)=some ((c-48:Nat):Int):=by intro c h;rcases h with rfl|rfl<;>decide +kernel
noncomputable def Sg (t:Nat) (j:Nat):Nat:=((MS t).take j).foldl (λn c=>n*2+(c-48)) 0
def wA:∀t:Fin 128,Sg t.val 7=t.val:=by room
def wB(h:(MS t)[j]?=some c):Sg t (j+1)=Sg t j*2+(c-48):=by unfold Sg;rw[Am,h,Option.toList_some,List.foldl_append];rfl
def wC:Sp:=λd H Q _=>∃t:Nat,d=[.str (IP t)]/\t<128/\∀c,AA H c->Q (.int (t:Int)) c
def wD:T.F 1 36 wC:=by refine BX T.ł.fn Vx ?_;k_ne;revert vs;refine Oo λt z q=>?_;refine⟨_,(AH (AL 1 Vx.nd AJ) (AH (GZ B6 U (RR (pv 0)) (AQ 2 Vx.nd) (BV (AL 1 Vx.nd (AX DT (AX Nd (pv 1) AJ) (FQ S1 U T.Ğ Pp (AZ 2)))))) (AF (pv 1)))),?_⟩;z_run;let Izz:zT:=λj d i=>∃(r:Ϩ V),d=[some (.str (IP t)),some (.int (Sg t j:Nat)),r]/\AA H i;refine mV (x:=IP t) Izz ⟨none,U,AA.refl _⟩ ?_ ?_;(.refine λj c d i v y s=>?_;revert d;refine GD λr p=>?_;have o:=Gi.mpr (K9 v);have k:(MS t)[j]?=some c:=(by rw[<-Ew]at v;exact v);z_run;refine CM (sg c) _ U (wz c (Yy o)) (by show 1<=640;decide) ?_;z_run;refine AU (some (.str (sg c))) ?_ p;rw[wB k,Fv,Int.natCast_mul];rfl);refine λd i s=>?_;revert d;refine GD λr p=>?_;z_run;have:=wA ⟨t,z⟩;have e:Sg t (IP t).cps.size=t:=this;rw[e];exact q _ p
def IH(r:BS):Prop:=(∃c∈BQ,r.s=sg c)/\1<=r.w/\r.w<=99/\0<=r.t/\r.t<=127/\0<=r.n/\r.n<=40
noncomputable def LD (r:BS):ώ:=[r.s,AO r.w.toNat,IP r.t.toNat,AO r.n.toNat]
def U9(n:Nat)(x:ϥ):Prop:=x.length<=n/\∀c∈x.cps.toList,c<128/\c≠32/\c≠10
def wF:∀d∈BQ,d<128/\d≠32/\d≠10:=by room
def Yz(h:x.cps.toList.length<=n)(d:∀c∈x.cps.toList,48<=c/\c<=57):U9 n x :=⟨by rw[i5];exact h,λc z=>by have:=d c z;lia⟩
def YA(h:IH r):U9 1 r.s/\U9 2 (AO r.w.toNat)/\U9 7 (IP r.t.toNat)/\U9 2 (AO r.n.toNat):=by obtain⟨⟨c,j,i⟩,B,y,E,z,C,G⟩:=h;obtain⟨_,p,v⟩:=U8 (n:=r.w.toNat) (by lia);obtain⟨_,k,o⟩:=U8 (n:=r.n.toNat) (by lia);refine GC ?_ (Yz p v) (Yz (A9 7) λc j=>by have:=Yy j;lia) (Yz k o);rw[i];refine⟨A9 1,λd hd=>?_⟩;have e:(sg c).cps.toList=[c]:=U;rw[e]at hd;rw[Ah.mp hd];exact wF c j
def EA(r:BS):ϥ:=Str.join ⟨#[32]⟩ (LD r)
def wG(r:BS):EA r=r.s++(" ":ϥ)++AO r.w.toNat++(" ":ϥ)++IP r.t.toNat++(" ":ϥ)++AO r.n.toNat:=by unfold EA;show r.s++(" ":ϥ)++(AO r.w.toNat++(" ":ϥ)++(IP r.t.toNat++(" ":ϥ)++AO r.n.toNat))=_;simp only[Str.append_assoc]
def wH(r:BS):(EA r).cps.toList=r.s.cps.toList++[32]++(AO r.w.toNat).cps.toList++[32]++(IP r.t.toNat).cps.toList++[32]++(AO r.n.toNat).cps.toList:=by rw[wG];simp only[IC];rfl
def VF(h:IH r):(EA r).length<=15/\∀c∈(EA r).cps.toList,c<128/\c≠10:=by obtain⟨⟨p,i⟩,⟨o,j⟩,⟨v,d⟩,⟨s,e⟩⟩:=YA h;rw[i5]at p o v s⊢;rw[wH];refine⟨?_,λc k=>?_⟩;simp only[Ag,Bb,List.length_nil];lia;simp only[Be,Ah]at k;rcases k with(((((z|z)|z)|z)|z)|z)|z;exact⟨(i c z).1,(i c z).2.2⟩;rw[z];exact⟨by lk,by lk⟩;exact⟨(j c z).1,(j c z).2.2⟩;rw[z];exact⟨by lk,by lk⟩;exact⟨(d c z).1,(d c z).2.2⟩;rw[z];exact⟨by lk,by lk⟩;exact⟨(e c z).1,(e c z).2.2⟩
def wI(h:IH r):Txt.split (EA r) (" ":ϥ)=LD r:=by refine FY (λe j i d=>?_) (YA h);refine Xe 32 (by simp[LD]) λy c=>?_;simp only[LD,Al,Bl,Dd]at c;rcases c with rfl|rfl|rfl|rfl;exact λz=>(e.2 _ z).2.1 U;exact λz=>(j.2 _ z).2.1 U;exact λz=>(i.2 _ z).2.1 U;exact λz=>(d.2 _ z).2.1 U
def wJ(K:ϡ):Sp:=λd H Q _=>∃(p:Ϡ) (r:BS),d=[.ref p]/\AC K H p ((LD r).map V.str)/\IH r/\∀c,AA H c->Q (.bl true) c
def wK:T.F 2 38 (wJ K):=by refine BX T.is_row.fn TX ?_;k_ne;obtain⟨p,r,rfl,B,⟨⟨c,O,o⟩,G,C,I,E,H,L⟩,q⟩:=h;have i:=B;have k:r.s≠("":ϥ):=λe=>(by rw[o]at e;have:=Bt Str.length e;have this:=this;cases this);refine⟨_,(AH (CC (CA My (ln T (pv 0)) AJ (BL _)) (AF JI) CJ) (AH (IU (pv 0) (eh K U (n:=4) U (BO (AQ 1 TX.nd) (BO (AQ 2 TX.nd) (BO (AQ 3 TX.nd) (BO (AQ 4 TX.nd) EL)))))) (AF (GY (FH My (pv 1) BN (BL _)) (GY (BG T.õ (VC T) hr U (AZ 2)) (GY (BG T.zt (wy T) hr U (AZ 3)) (KG (BG T.õ (VC T) hr U (AZ 4))))))))),?_⟩;z_run;refine BY p _ U (.inl i) ?_;z_run;(try refine AK ?_);refine CM p _ U i U ?_;x_go;x_go;x_go;x_go;(try refine And.intro U ?_);z_run;rw[FI,Aj k];refine BB ?_;z_run;(first|refine⟨_,rfl,VE (n:=r.w.toNat) (by lia),λz j=>?_⟩|refine⟨VE (n:=r.w.toNat) (by lia),λz j=>?_⟩);rw[(U8 (n:=r.w.toNat) (by lia)).1];z_run;(try refine BB ?_);z_run;(try refine⟨r.t.toNat,U,?_⟩);intro J v;z_run;(try refine BB ?_);z_run;(first|refine⟨_,rfl,VE (n:=r.n.toNat) (by lia),λy d=>?_⟩|refine⟨VE (n:=r.n.toNat) (by lia),λy d=>?_⟩);rw[(U8 (n:=r.n.toNat) (by lia)).1];exact q _ (j.trans (v.trans d))
def wL(K:ϡ):Sp:=λd H Q _=>∃(i:Int) (r:BS),d=[.int i,.str (EA r)]/\IH r/\∀p c,AA H c->H p=none->c p=some (.tup (FU r))->Q (.ref p) c
def wM:T.F 3 39 (wL K):=by refine BX T.Ŷ.fn S9 ?_;k_ne;revert vs;refine Rz λi r o q=>?_;have B:=(VF o).1;obtain⟨⟨c,Y,G⟩,O,I,S,L,Q,X⟩:=id o;refine⟨_,(AH (AL 2 S9.nd (@EG K _ _ _ _ _ _ _ _ _ _ _ _ Bi Ep Er V3 (pv 1) (AD BN AI) U U U U U U)) (AH (CC (KS (FK (BG T.is_row (wK T) hr U (AZ 2)))) (BV LI) CJ) (AH (IU (pv 2) (eh K U (n:=4) U (BO (AQ 3 S9.nd) (BO (AQ 4 S9.nd) (BO (AQ 5 S9.nd) (BO (AQ 6 S9.nd) EL)))))) (AF (FP (AR 3 (AD (FQ S1 U T.Ğ Pp (AZ 4)) (AD (BG T.ł (wD T) hr U (AZ 5)) (AD (FQ S1 U T.Ğ Pp (AZ 6)) AI))))))))),?_⟩;(iterate 5 walk_at "5");refine⟨by lia,λD hD=>?_⟩;rw[wI o];x_fa R v j;z_run;refine CM D r U (AC.of j) o (λH k=>?_);have d:=v.trans k;have y:AC K H D [.str r.s,.str (AO r.w.toNat),.str (IP r.t.toNat),.str (AO r.n.toNat)]:=AC.of (k _ _ j);z_run;(try refine AK ?_);refine CM D _ U y U ?_;x_go;x_go;x_go;x_go;(try refine And.intro U ?_);z_run;have E:=i6 r.w.toNat (by lia);have z:=i6 r.n.toNat (by lia);refine CM _ _ U E.1 E.2 ?_;z_run;(try refine⟨r.t.toNat,U,by lia,?_⟩);intro J e;z_run;refine CM _ _ U z.1 z.2 ?_;z_run;intro p C;refine q p _ (d.trans (e.trans (BM C _))) ((d.trans e).free C) ?_;rw[AM,show((r.w.toNat:Nat):Int)=r.w by lia,show((r.t.toNat:Nat):Int)=r.t by lia,show((r.n.toNat:Nat):Int)=r.n by lia]
noncomputable def Q2 (rs:ϩ BS):ϥ:=Txt.join ("\n":ϥ) (rs.map EA)
def i7(rs:ϩ BS):Q2 rs=Str.join ⟨#[10]⟩ (rs.map EA):=by unfold Q2 Txt.join;rw[C6];rfl
def wN(c:rs≠[])(h:∀r∈rs,IH r):Txt.split (Q2 rs) ("\n":ϥ)=rs.map EA:=by rw[i7];refine Xe 10 (λe=>c (Kl.mp e)) λp d=>?_;obtain⟨r,i,rfl⟩:=Bq.mp d;exact λz=>((VF (h r i)).2 _ z).2 U
def wO:∀{ws} {y},y∈ws->(∀c∈y.cps.toList,c∈(Str.join ⟨#[d]⟩ ws).cps.toList)/\y.cps.toList.length<=(Str.join ⟨#[d]⟩ ws).cps.toList.length:=by intro ws;induction ws with|nil=>intro y i;cases i|cons a r k =>intro y i;cases r with|nil=>rw[Ah.mp i];exact⟨λc j=>j,A9 _⟩|cons b r =>have e:(Str.join ⟨#[d]⟩ (a::b::r)).cps.toList=a.cps.toList++[d]++(Str.join ⟨#[d]⟩ (b::r)).cps.toList:=(by show(a++⟨#[d]⟩++Str.join ⟨#[d]⟩ (b::r)).cps.toList=_;rw[IC,IC]);grind
def wQ(c:rs.length<=40)(h:∀r∈rs,IH r):(Q2 rs).length<=2000:=by rw[i7];have a:=PH (λx:ϥ=>x.length) 15 40 (rs.map EA) (λx e=>by obtain⟨r,d,rfl⟩:=Bq.mp e;exact(VF (h r d)).1) (by rw[A3];exact c);have a:=a;have b:=Eo ⟨#[10]⟩ (rs.map EA);have b:(Str.join ⟨#[10]⟩ (rs.map EA)).length<=((rs.map EA).map (·.length)).sum+(rs.map EA).length*1:=b;rw[A3]at b;lia
def YB(rs:ϩ BS):Prop:=rs≠[]/\rs.length<=40/\(∀r∈rs,IH r)/\dX rs rs.length
def wR(K:ϡ):Sp:=λi H Q _=>∃(d:ϩ BS),i=[.str (Q2 d)]/\YB d/\∀D e c,H D=none->AA H c->c D=some (.lst e)->Paired (Cs.FL c) e d->Q (.ref D) c
def wU:T.F 5 40 (wR K):=by
 refine BX T.ŏ.fn gc ?_;k_ne;obtain⟨rs,rfl,⟨E,af,Z,X⟩,q⟩:=h;have ag:=wQ af Z;refine⟨_,(AH (Pt (i:=1) gc.nd U NM U (RP K U U T.Ù (AD (@EG K _ _ _ _ _ _ _ _ _ _ _ _ Bi Ep Er V3 (pv 0) (AD BN AI) U U U U U U) AI)) (DU.of (N':=["text","case","at","row"]) (ms:=[]) (k:=2) (by rfl)) (λ_ _ _ _ _=>(ES K U (n:=2) U (BO (BD 2) (BO (BD 3) EL)))) (λ_ _ _ _ _=>EU) (λ_ _ _ _ _=>(BG T.Ŷ (wM T) hr U (AR 2 (AZ 3)))))
  (AH (FC (BG T.ĝ (uX T) hr U (AZ 1)))
  (AF (pv 1)))),?_⟩
 z_run;intro p1 ah;rw[wN E Z];x_fa H1 L J;refine HA p1 U ⟨_,AC.of J⟩ (λD hD=>?_);let Izz:zU:=λj v S B=>∃(v2 v3:Ϩ V),S=[some (.str (Q2 rs)),none,v2,v3]/\AA H1 B/\B D=some (.lst v)/\Paired (Cs.FL B) v (rs.take j)
 refine mD (a:=p1) (xs:=(rs.map EA).map V.str) Izz
  ?_ ?_ ?_ ?_
 exact CM none none U (BM hD _) AM .nil;refine λj v S B hj=>GL λ_ _ _ R _=>?_;exact R.seq (AC.of J);(.rintro j x t v S B hx aa ⟨v2,v3,rfl,R,O,C⟩ ht;rw[An,An]at hx;refine AS (λy hy p=>?_) (Az.mp hx);subst p;refine AS (λr G p=>?_) (Az.mp hy);subst p;x_fa H7 o ai;have ab:=MH C;rw[Ao]at ab;z_run;x_go;x_go;(try refine And.intro U ?_);z_run;refine BY _ r U (Z r (Af G)) (λpr H8 ac Q I=>?_);have s:=o.trans ac;have H:=s _ _ O;have Y:pr≠D:=λe=>(by rw[e,o _ _ O]at Q;cases Q);refine EI aa H (by lia) ⟨_,_,U,DF (R.trans s) hD,AM,?_⟩;rw[Am,G];exact Bz (RS (EO C s) H (λz e=>by cases e)) ⟨pr,U,by rw[BJ Y];exact I⟩)
 .refine λv S B aj=>?_;revert S;refine HY λv2 v3 R O C=>?_;rw[A3,A3,Ai (A9 _)]at C;z_run;refine JH D v rs (DY U O C (by lia) (λr hr=>?_) E (LG X (λH7 o=>?_)))
  .obtain⟨⟨c,hc,ae⟩,_⟩:=Z r hr;rw[ae];have lt:∀d∈BQ,d<128:=by room
   exact⟨by show 1<=1000;decide,λd hd=>by
    have:d=c:=by simpa[sg]using hd
    rw[this];exact lt c hc⟩
  z_run;exact q D v H7 (L.free hD) (L.trans (R.trans o)) (o _ _ O) (EO C o)
def wV(K:ϡ):Sp:=λc H Q _=>∃(q t:Ϡ) (i:ϩ BF) (p:BF) (d:ϩ V),c=[.ref q,.ref t]/\H q=some (.lst d)/\Paired (Jb.OI K q H) d i/\Jb.OI K q H (.ref t) p/\Jb.HI (i++[p])/\∀e,Jb.BC q H e->e q=some (.lst (d++[.ref t]))->Q .non e
def wW:T.F 1 43 (wV K):=by
 refine BX T.Ē.fn t9 ?_;k_ne;revert vs;refine Z4 λq t ps p o R E hp G qg=>?_;have Q:=B2 E;have ab:=G.left.1;have c:=Jb.Qp.add R E hp;have C:Jb.BC q H (upd H q (.lst (o++[.ref t]))):=(Jb.BC.refl q H).upd;have d:upd H q (.lst (o++[.ref t])) q=some (.lst (o++[.ref t])):=AM;refine⟨_,(AH (FC (@EG K _ _ _ _ _ _ _ _ _ _ _ _ Ay Bj Bk KW (pv 0) (AZ 1) U U U U U U)) (AH (CC (CA Pf (ln T (pv 0)) (JR (v:=.int 60) U T.ò ⟨_,U⟩) (BL _)) (BV LI) CJ) (BV (CC (CA Pf (LX (QS K U U) U T.b_sum WN (AD (CW ["paragraphs","paragraph","measure","gaps","words"] [] 3 (EV K U (pv 0)) (ES K U (n:=3) U (BO (BD 2) (BO (BD 3) (BO (BD 4) EL)))) EU (ln T (pv 4))) AI)) (JR (v:=.int 400) U T.ę ⟨_,U⟩) (BL _)) (BV LI) CJ)))),?_⟩;z_run;refine⟨.inl ⟨U,_,AC.of R⟩,?_⟩;z_run;refine DZ q _ _ U U R (KY (by lia)) ?_;have ģ:(o++[V.ref t]).length=(ps++[p]).length:=by rw[Ag,Ag,Q];rfl
 generalize upd H q (.lst (o++[.ref t]))=H1 at c C d⊢;generalize o++[V.ref t]=ws at c d ģ qg⊢;generalize ps++[p]=qs at c ģ G qg⊢;z_run;refine BY q _ U (.inl (AC.of d)) ?_;rw[ģ];z_run;have aa:=G.1;rw[Aj (show ¬(60:Int)<((qs.length:Nat):Int) by lia)];refine AK ?_;z_run;refine⟨⟨_,AC.of d⟩,λD hD=>?_⟩;let Izz:zU:=λj B k s=>∃(X J Y:Ϩ V),k=[some (.ref q),some (.ref t),X,J,Y]/\AA H1 s/\s D=some (.lst B)/\B=((qs.take j).map λp=>((p.2.2.length:Nat):Int)).map V.int
 refine GN (a:=q) (xs:=ws) Izz
  ?_ ?_ ?_ ?_
 exact LH none none none U (BM hD _) AM U;refine λj B k s hj=>GA λ_ _ _=>ED λ_ i _=>?_;exact AC.of (i _ _ d);(.refine λj y B k s hy S Z=>?_;revert k;refine RA λX J Y i I e=>?_;subst e;obtain⟨r,O,t',g,w',rfl,ht,hg,hn,hw⟩:=FD c hy;have L:qs.take (j+1)=qs.take j++[r]:=(by rw[Am,O];rfl);refine CM _ _ U (BP.of (i _ _ ht)) U ?_;x_go;x_go;x_go;z_run;refine BY w' _ U (.inl (AC.of (i _ _ hw))) ?_;rw[A3];refine EI S I ?_ ⟨_,_,_,U,DF i hD,AM,?_⟩;rw[A3,A3,Ao];lia;rw[L,Ae,Ae];rfl)
 .refine λB k s Z=>?_;revert k;refine RA λX J Y i I e=>?_;subst e;rw[Ai (by lia)]at I
  have z:List.sum (qs.map λp=>((p.2.2.length:Nat):Int))=((NH qs:Nat):Int):=by
   unfold NH;generalize qs=l;induction l with
   | nil=>rfl
   | cons p l ih=>rw[Bp,Bp,Du,Du,ih,Fv]
  refine BY D _ U (AC.of I) ?_;rw[z];z_run;have ac:=G.2;rw[Aj (show ¬(400:Int)<((NH qs:Nat):Int) by lia)];refine AK ?_;z_run;exact qg _ (C.trans (.of i)) (i _ _ d)
def i8(K:ϡ)(H:Hp)(v:V)(x:BF×Ϡ):Prop:=∃t g,v=.ref t/\H t=some (.tup [.int x.1.1,.ref g,.ref x.2])/\BP K H g (x.1.2.1.map V.int)/\H x.2=some (.lst (x.1.2.2.map V.str))
def GW(K:ϡ)(H0:Hp)(q:Ϡ)(H:Hp)(vs:ϩ V)(ps:ϩ BF):Prop:=∃c:ϩ (BF×Ϡ),ps=c.map (·.1)/\Paired (i8 K H) vs c/\(c.map (·.2)).Nodup/\∀x∈c,H0 x.2=none/\x.2≠q
theorem GW.len{K}(h:GW K H0 q H vs ps):vs.length=ps.length:=by revert h;refine DN λe c d _=>?_;subst c;rw[A3];exact B2 d
theorem i9{d c e:Type}{F}{G:d->e->Prop}{f:c->e}:∀{xs:ϩ d}{ys:ϩ c},Paired F xs ys->(∀x y,y∈ys->F x y->G x (f y))->Paired G xs (ys.map f)|_,_,.nil,_=>.nil|_,_,.cons r t,h=>.cons (h _ _ Aa r) (i9 t λx y i=>h x y (Ac _ i))
theorem YC{e c:Type}{F G:e->c->Prop}:∀{xs} {ys},Paired F xs ys->(∀x y,y∈ys->F x y->G x y)->Paired G xs ys|_,_,.nil,_=>.nil|_,_,.cons r t,h=>.cons (h _ _ Aa r) (YC t λx y d=>h x y (Ac _ d))
def GW.at{K}{H0 H}{q}{vs}{ps}(h:GW K H0 q H vs ps):Paired (Jb.OI K q H) vs ps:=by obtain⟨j,rfl,c,_,d⟩:=h;exact i9 c λv x i ⟨t,g,e,z,y,w⟩=>⟨t,g,x.2,e,z,y,(d x i).2,w⟩
def GW.same{K}{H0 H i}{q}{vs us}{ps}(h:GW K H0 q H vs ps)(s:Jb.BC q H i)(c:H q=some (.lst us)):GW K H0 q i vs ps:=by revert h;refine GK λk e j o d=>?_;exact IS k e (YC j λv x p ⟨t,g,e,z,y,w⟩=>⟨t,g,e,s.tup c z,s.sqt c y,s _ _ (d x p).2 w⟩) o d
theorem Ql{d c:Type}{F:d->c->Prop}:∀{xs} {ys},Paired F xs ys->∀y∈ys,∃x,F x y|_,_,.nil,y,h=>nomatch h|_,_,.cons r t,y,h=>by rcases Al.mp h with e|h;rw[e];exact⟨_,r⟩;exact Ql t y h
def GW.add{K}{H0 H r}{q w}{vs us}{ps}{p}{v}(h:GW K H0 q H vs ps)(E:Jb.BC q H0 H)(j:H q=some (.lst us))(c:H w=none)(s:Jb.BC q H r)(I:i8 K r v (p,w)):GW K H0 q r (vs++[v]) (ps++[p]):=by
 have k:w≠q:=λz=>by rw[z,j]at c;cases c
 have Q:H0 w=none:=by
  cases e:H0 w with
  | none=>rfl
  | some o=>rw[E w o k e]at c;cases c
 obtain⟨J,rfl,B,L,G⟩:=h;refine⟨J++[(p,w)],by rw[Ae];rfl,Bz (YC B λv x d ⟨t,g,e,z,y,w⟩=>⟨t,g,e,s.tup j z,s.sqt j y,s _ _ (G x d).2 w⟩) I,?_,λx d=>?_⟩;rw[Ae];refine F3.mpr ⟨L,C2.mpr ⟨Bl,F6⟩,λa O b i z=>?_⟩;obtain⟨x,d,rfl⟩:=Bq.mp O;have i:=Ah.mp i;obtain⟨_,_,_,_,_,_,C⟩:=Ql B x d;rw[z,i,c]at C;cases C;grind
structure JE(K:ϡ)(H0 H:Hp)(jl g q:Ϡ)(d:Nat)(js:ϩ (DS d))(gs:ϓ)(ps:ϩ BF):Prop where
 jb:∃xs,H jl=some (.lst xs)/\Paired (Jb.EH q H d) xs js
 ne:jl≠q
 gp:BP K H g (gs.map V.int)
 pr:∃vs,H q=some (.lst vs)/\GW K H0 q H vs ps
 ft:Jb.HI ps
 Ĕ:js.length<=1000
 sm:Jb.BC q H0 H
def Rq(K:ϡ)(H0 H:Hp)(q:Ϡ)(ps:ϩ BF)(o:OH)(Q:VK):Prop :=Jb.HI (ps++o.1)/\∀(r g:Ϡ) H',Jb.BC q H H'->H r=none->H' r=some (.tup [.int o.2.1,.ref g])->BP K H' g (o.2.2.map V.int)->(∃c,H' q=some (.lst c)/\GW K H0 q H' c (ps++o.1))->Q (.ref r) H'
def Ua(K:ϡ)(H0:Hp)(d:Nat):Sp:=λc H Q _=>∃(k g q:Ϡ) (m:Int) (i:ϩ (DS d)) (j:ϓ) (e:ϩ BF),c=[.ref k,.int m,.ref g,.ref q]/\JE K H0 H k g q d i j e/\Rq K H0 H q e (CS (FJ d) i (m,j)) Q
def ia(K:ϡ)(H0:Hp)(d:Nat):Sp:=λc H Q _=>∃(k g q:Ϡ) (m:Int) (n:Nat) (i:ϩ (DS d)) (j:ϓ) (e:ϩ BF),c=[.int (n:Int),.ref k,.int m,.ref g,.ref q]/\n<=1000/\JE K H0 H k g q d i j e/\Rq K H0 H q e (LA (CS (FJ d) i) n (m,j)) Q
def JE.same{K}(h:JE K H0 H r g q d js C ps)(s:Jb.BC q H H')(j:BP K H' g' (gs'.map V.int))(k:∃vs,H' q=some (.lst vs)/\GW K H0 q H' vs c)(o:Jb.HI c):JE K H0 H' r g' q d js gs' c:=by obtain⟨⟨p,v,y⟩,ne,_,⟨vs,B,_⟩,_,e,i⟩:=h;exact⟨⟨p,s _ _ ne v,Paired.Æ y λ_ _ z=>Jb.EH.same s B d z⟩,ne,j,k,o,e,i.trans s⟩
def wX(h:Jb.BC q H H2)(i:H2 q=some o)(c:H2 r=none):H r=none:=by cases e:H r with|none=>rfl|some j =>have d:r≠q:=λz=>(by rw[z,i]at c;cases c);rw[h r j d e]at c;cases c
def Rq.fin{K:ϡ}(h:Rq K H0 H q ps o Q)(s:Jb.BC q H H2)(J:JE K H0 H2 v i q d js o.2.2 (ps++o.1))(j:H2 r=none):Q (.ref r) (upd H2 r (.tup [.int o.2.1,.ref i])):=by refine AS (λk e p=>?_) J.pr;have c:AA H2 (upd H2 r (.tup [.int o.2.1,.ref i])):=BM j _;exact h.2 r i _ (s.trans (.of c)) (wX s e j) AM (Jb.BC.sqt (.of c) e J.gp) ⟨k,c _ _ e,p.same (.of c) e⟩
def wY(e:T.F L 45 (Ua K H0 d)):T.F (L+1) 44 (ia K H0 d):=by
 refine BX T.ż.fn TZ ?_;k_ne;revert h;refine EK λjl g q m n=>GA λjs gs G=>HP λaa hn J s qg=>?_;subst aa;generalize hf:CS (FJ d) js=f at s qg;refine⟨_,(AH (GZ B6 U (NN U T.É (AZ 0)) (AQ 5 TZ.nd) (AH (AL 6 TZ.nd (ln T (pv 4))) (AH (IU (BG T.Ŧ e hr U (AR 1 (AR 2 (AR 3 (AZ 4)))) (hjk:=by lia)) (ES K U (n:=2) U (BO (AQ 2 TZ.nd) (BO (AQ 3 TZ.nd) EL))))
  (BV (CC (CA EE (ln T (pv 4)) (pv 6) (BL _)) (BV jW) CJ)))))
  (AF (FP (AR 2 (AZ 3))))),?_⟩
 z_run;let Izz:zT:=λi Y H2=>∃(c:ϩ BF) (st:Jb.St) (Q:Ϡ) (v5 v6:Ϩ V),Y=[some (.int (n:Int)),some (.ref jl),some (.int st.1),some (.ref Q),some (.ref q),v5,v6]/\Jb.BC q H H2/\JE K H0 H2 jl Q q d js st.2 (G++c)/\LA f n (m,gs)=(c++(LA f (n-i) st).1,(LA f (n-i) st).2)
 refine Nr (n:=n) Izz
  ⟨[],(m,gs),g,none,none,U,.refl _ _,by rw[Aq];exact J,by rw[Jx];rfl⟩ ?_ ?_
 (.refine λi Y H2 hi ai=>?_;revert Y;refine VY λc st Q v5 v6 E X j=>?_;refine AS (λR ab af=>?_) X.pr;have ģ:=af.len;obtain⟨k,hk⟩:∃k,n-i=k+1:=⟨n-i-1,by lia⟩;have ac:n-(i+1)=k:=(by lia);rw[hk]at j;have ah:CS (FJ d) js (st.1,st.2)=f st:=(by rw[hf]);z_run;refine BY q _ U (.inl (AC.of ab)) ?_;z_run;refine DC jl Q q st.1 js (Nm st.2 (G++c) (IQ U X ?_));rw[ah];have p:LA f (k+1) st=if (f st).1=[]then f st else((f st).1++(LA f k (f st).2).1,(LA f k (f st).2).2):=U;generalize f st=o at p⊢;have y:Jb.HI (G++c++o.1):=(by have z:=s;rw[j]at z;by_cases v:o.1=[];rw[v,Aq];rw[<-B4]at z;exact z.left;rw[p,Av v,show G++(c++(o.1++(LA f k o.2).1))=(G++c++o.1)++(LA f k o.2).1 by simp only[B4]]at z;exact z.left);refine⟨y,λr3 g3 H3 I aj h3 ae S=>?_⟩;have J3:=X.same I ae S y;revert S;refine AS λO ag Z=>?_;have hl3:=Z.len;have B:=E.trans I;refine CM _ _ U (BP.of h3) U ?_;x_go;x_go;z_run;refine BY q _ U (.inl (AC.of ag)) ?_;z_run;by_cases v:o.1=[];(.rw[B1 v]at p;rw[p,v]at j;have e1:V.int ((O.length:Nat):Int)=V.int ((R.length:Nat):Int):=(by rw[hl3,ģ,v,Aq]);rw[Ab e1];refine BB ?_;rw[Aq]at j;rw[j]at s qg;rw[v,Aq]at J3;unfold Zi;dsimp +zetaDelta only;z_run;intro r C;exact Rq.fin (o:=(c,o.2)) ⟨s,qg⟩ B J3 C);rw[Av v]at p;rw[p]at j;have e1:¬V.int ((O.length:Nat):Int)=V.int ((R.length:Nat):Int):=λz=>(by have z:=V.int.inj z;rw[hl3,ģ,Ag (as:=G++c)]at z;have:0<o.1.length:=Cw.mpr v;lia);rw[Aj e1];refine AK ⟨c++o.1,o.2,g3,_,_,U,B,by rw[<-B4];exact J3,?_⟩;rw[ac,j,B4]);refine λY H2 ai=>?_;revert Y;refine VY λc st Q v5 v6 E X j=>?_;rw[En]at j;have j:LA f n (m,gs)=(c++[],st):=j;rw[Aq]at j;rw[j]at s qg;z_run;intro r C;exact Rq.fin ⟨s,qg⟩ E X C
def ic(T:Tx P w base K mg a)(hL:1<=L)(hT:∀(d':Nat),d=d'+1->∀vs H Q E,ia K H0 d' vs H Q E->spT vs H Q E)(C:T.F L 44 spT):T.F (L+1) 45 (Ua K H0 d):=by
 refine BX T.Ŧ.fn Sa ?_;k_ne;revert h;refine EK λjl g q m I=>JG λZ S=>FY λar J as qg=>?_;subst ar;refine AS (λxs hx hj=>?_) J.jb;have an:=B2 hj;refine⟨_,(AH (GZ B6 U (EV K U (pv 0)) (AQ 4 Sa.nd) (BV (CC (CA EE (BZ (JU K U) (pv 4) AJ (λ_ _=>U)) BN (BL _)) (BV (AL 1 Sa.nd (BZ (JU K U) (pv 4) AJ (λ_ _=>U)))) (BV (CC (CA EE (BZ (JU K U) (pv 4) AJ (λ_ _=>U)) BN (BL _)) (BV (AL 2 Sa.nd (Nw (mH K U) (pv 4) (LY AJ) Ph))) (BV (CC (CA EE (BZ (JU K U) (pv 4) AJ (λ_ _=>U)) BN (BL _)) (BV (FC (BG T.Ē (wW T) hr U (AR 3 (AD (FP (AR 1 (AR 2 (AD (FQ (X0 K U) U T.ť UI (AD (BZ (JU K U) (pv 4) AJ (λ_ _=>U)) AI)) AI)))) AI)) (hjk:=by lia)))) (BV (IU (BG T.ż C hr U (AD (BZ (JU K U) (pv 4) AJ (λ_ _=>U)) (AD (BZ (JU K U) (pv 4) AJ (λ_ _=>U)) (AR 1 (AR 2 (AZ 3))))) (hjk:=by lia)) (ES K U (n:=2) U (BO (AQ 1 Sa.nd) (BO (AQ 2 Sa.nd) EL))))))))))))
  (AF (FP (AR 1 (AZ 2))))),?_⟩
 z_run;refine⟨⟨_,AC.of hx⟩,?_⟩;refine Qg (a:=jl) (xs:=xs) (λi σ X=>∃(R:Ϡ) (v4:Ϩ V),σ=[some (.ref jl),some (.int (CS (FJ d) (I.take i) (m,Z)).2.1),some (.ref R),some (.ref q),v4]/\Jb.BC q H X/\JE K H0 X jl R q d I (CS (FJ d) (I.take i) (m,Z)).2.2 (S++(CS (FJ d) (I.take i) (m,Z)).1))
  ⟨g,none,U,.refl _ _,by show JE K H0 H jl g q d I Z (S++[]);rw[Aq];exact J⟩ (λi σ X _ ak=>by obtain⟨_,_,_,hs,_⟩:=ak;exact AC.of (hs _ _ J.ne hx)) ?_ ?_
 (.refine λi y σ X hy ak=>?_;revert σ;refine Rz λR v4 G s=>?_;refine AS (λj ay aC=>?_) (FD hj hy);refine AS (λap c ae=>?_) s.pr;refine AS (λaF aE _=>?_) J.pr;have aD:I.take (i+1)=I.take i++[j]:=(by rw[Am,ay];rfl);have ab:=Jb.f6 (FJ d) (I.take i) j (m,Z);rw[<-aD]at ab;rw[ab];have ah:∃r,S++(CS (FJ d) I (m,Z)).1=S++(CS (FJ d) (I.take (i+1)) (m,Z)).1++r:=(by have e:=XN (FJ d) (I.take (i+1)) (I.drop (i+1)) (m,Z);rw[K7]at e;rw[e];exact⟨_,(B4 ..).symm⟩);rw[ab]at ah;generalize CS (FJ d) (I.take i) (m,Z)=o at ab s ae ah⊢;have B:Jb.HI (S++o.1++(FJ d j o.2).1):=(by obtain⟨r,e⟩:=ah;have z:=as;rw[e]at z;have z:=z.left;rw[show S++(o.1++(FJ d j o.2).1,(FJ d j o.2).2).1=S++o.1++(FJ d j o.2).1 from(B4 ..).symm]at z;exact z);have ai:S++(o.1++(FJ d j o.2).1,(FJ d j o.2).2).1=S++o.1++(FJ d j o.2).1:=(B4 ..).symm;z_run;rcases Jb.EH.view d (Jb.EH.same G aE d aC)with⟨b,hb,eb⟩|⟨d',n,aA,ed,hn,av,⟨t,p,ax,rfl,v,ao,hp,az⟩,ej⟩;(.cases b with|ms k =>revert hb;refine AS λt Y v=>?_;subst Y;have e0:FJ d j o.2=([],(k,o.2.2)):=eb _;rw[e0];refine DH t _ _ _ U U (BP.of v) U ?_;z_run;exact⟨t,_,_,_,U,U,BP.of v,U,R,_,U,G,by show JE K H0 X jl R q d I o.2.2 (S++(o.1++[]));rw[Aq];exact s⟩|gp x1 x2 x3 =>revert hb;refine AS λt Y v=>?_;subst Y;have e0:FJ d j o.2=([],(o.2.1,[x1,x2,x3])):=eb _;rw[e0];refine DH t _ _ _ U U (BP.of v) U ?_;z_run;refine DH t _ _ _ U U (BP.of v) U ?_;z_run;refine CM t _ U (BP.of v) (λz=>absurd z.1 (by show ¬((1:Nat)=0);decide)) (λr aj=>?_);rw[show DV [V.str "gaps",V.int x1,V.int x2,V.int x3] (some 1) none=[V.int x1,V.int x2,V.int x3]from U];have sr:AA X (upd X r (.tup [.int x1,.int x2,.int x3])):=BM aj _;refine BY r _ U (G.trans (.of sr)) ?_;show JE K H0 _ jl r q d I [x1,x2,x3] (S++(o.1++[]));rw[Aq];exact s.same (.of sr) (gs':=[x1,x2,x3]) (BP.of AM) ⟨ap,sr _ _ c,ae.same (.of sr) c⟩ s.ft|st ws =>revert hb;refine IK λt p al v ao hp=>?_;subst al;have e0:FJ d j o.2=([(o.2.1,o.2.2,ws)],o.2):=eb _;rw[e0]at ai B⊢;refine DH t _ _ _ U U (BP.of v) U ?_;z_run;refine DH t _ _ _ U U (BP.of v) U ?_;z_run;refine DH t _ _ _ U U (BP.of v) U ?_;z_run;refine DH t _ _ _ U U (BP.of v) U ?_;z_run;refine BY p _ U (.inl (AC.of hp)) (λw hw=>?_);have sw:AA X (upd X w (.lst (ws.map V.str))):=BM hw _;have ag:upd X w (.lst (ws.map V.str)) w=some (.lst (ws.map V.str)):=AM;have aq:w≠q:=λz=>(by rw[z,c]at hw;cases hw);generalize upd X w (.lst (ws.map V.str))=H3 at sw ag⊢;z_run;intro t2 aB;have ac:AA H3 (upd H3 t2 (.tup [.int o.2.1,.ref R,.ref w])):=BM aB _;have af:upd H3 t2 (.tup [.int o.2.1,.ref R,.ref w]) t2=some (.tup [.int o.2.1,.ref R,.ref w]):=AM;generalize upd H3 t2 (.tup [.int o.2.1,.ref R,.ref w])=H4 at ac af⊢;have s4:=sw.trans ac;have aa:=s4 _ _ c;z_run;refine DC q t2 (S++o.1) (o.2.1,o.2.2,ws) ap (IR U aa (Paired.Æ ae.at λ_ _ z=>z.same (.of s4) c) ⟨t2,R,w,U,af,Jb.BC.sqt (.of s4) c s.gp,aq,ac _ _ ag⟩ B (λH5 O h5=>⟨R,_,U,(G.trans (.of s4)).trans O,?_⟩));rw[ai];exact s.same (Jb.BC.trans (.of s4) O) (Jb.BC.sqt O aa (Jb.BC.sqt (.of s4) c s.gp)) ⟨_,h5,ae.add s.sm c hw (Jb.BC.trans (.of s4) O) ⟨t2,R,U,O.tup aa af,Jb.BC.sqt O aa (Jb.BC.sqt (.of s4) c s.gp),O _ _ aq (ac _ _ ag)⟩⟩ B);refine DH t _ _ _ U U (BP.of v) U ?_;z_run;refine DH t _ _ _ U U (BP.of v) U ?_;z_run;refine DH t _ _ _ U U (BP.of v) U ?_;z_run;refine DH t _ _ _ U U (BP.of v) U ?_;z_run;refine DH t _ _ _ U U (BP.of v) U ?_;z_run;refine hT d' ed _ _ _ _ ⟨p,R,q,o.2.1,n,aA,o.2.2,S++o.1,U,hn,⟨⟨ax,hp,az⟩,ao,s.gp,s.pr,s.ft,av,s.sm⟩,?_⟩;rw[show((o.2.1,o.2.2):Jb.St)=o.2 from U,<-ej o.2];refine⟨B,λr3 g3 H3 am aG h3 aw au=>⟨_,_,U,BP.of h3,U,?_⟩⟩;x_go;x_go;refine⟨U,g3,_,U,G.trans am,?_⟩;rw[ai];exact s.same am aw au B);refine λσ X ak=>?_;revert σ;refine Rz λR v4 G s=>?_;rw[an,Ai (A9 _)]at s;rw[an,Ai (A9 _)];z_run;intro r aj;exact Rq.fin ⟨as,qg⟩ G s aj
def wZ:T.F 10 45 (Ua K H0 4):=by have c:∀{L d:Nat},1<=L->T.F L 45 (Ua K H0 d)->T.F (L+1+1) 45 (Ua K H0 (d+1)):=λ{L d} k G =>ic T (by lia) (λi e j H Q E h=>by cases e;exact h) (wY T G);exact c (by lia) (c (by lia) (c (by lia) (c (by lia) (ic (L:=1) T (by lk) (λi e=>absurd e (by lia)) i4))))
noncomputable def FA (js:ϩ (DS 4)):OH:=CS (FJ 4) js (100,[2,4,8])
def x4(K:ϡ):Sp:=λd H Q _=>∃(j:Ϡ) (N:ϝ) (c:ϩ (DS 4)) (i:ϩ V),d=[.ref j]/\H j=some (.lst i)/\Paired (Jb.CQ N H 4) i c/\c.length<=1000/\Jb.HI (FA c).1/\∀(q:Ϡ) H',H q=none->AA H H'->(∃e,H' q=some (.lst e)/\GW K H q H' e (FA c).1)->Q (.ref q) H'
def x5:T.F 11 46 (x4 K):=by refine BX T.Ĳ.fn gf ?_;k_ne;revert vs;refine VW λJ no L I k Y R E qg=>?_;have c:=(λG=>wZ (H0:=G) T) H;refine⟨_,(AH (AL 1 gf.nd (CO AI)) (AH (FC (BG T.Ŧ c hr U (AR 0 (AD (JR (v:=.int 100) U T.û ⟨_,U⟩) (AD (JR (v:=.ref a.ç) U T.Ħ U) (AZ 1)))))) (AF (pv 1)))),?_⟩;z_run;intro q i;have j:AA H (upd H q (.lst [])):=BM i _;have d:upd H q (.lst []) q=some (.lst []):=AM;have B:J≠q:=λz=>(by rw[z,i]at k;cases k);have y:Paired (Jb.EH q (upd H q (.lst [])) 4) I L:=(by exact Paired.Æ Y λ_ _ z=>Jb.CQ.at 4 (Jb.CQ.same (Jb.DQ.of j) 4 (Jb.CQ.fresh (λa Z=>.inr (by rw[Z];exact i)) 4 z)));generalize upd H q (.lst [])=Q at j d y⊢;have C:∀{p:Hp},Jb.BC q Q p->AA H p:=λ{p} s b o e=>s b o (λz=>by rw[z,i]at e;cases e) (j _ _ e);z_run;refine DC J a.ç q 100 L (Nm [2,4,8] [] (IQ U ⟨⟨I,j _ _ k,y⟩,B,T.ğ _,⟨[],d,[],U,.nil,F6,λx k=>(nomatch k)⟩,⟨by lk,by lk⟩,R,.of j⟩ ?_));refine⟨E,λr g p X O h1 h2 S=>?_⟩;z_run;exact qg q p i (C X) S
abbrev MA(a:Ad)(c:Cf)(H:Hp)(p:Ϡ)(A:Mc.DL)(m:Ms):Prop:=Mc.ET a.Î HV c H p A m
abbrev IA(a:Ad)(H:Hp)(p:Ϡ)(vs:ϩ (Ϩ V)):Prop:=JA a.Î HV H p vs
def x6(a:Ad):Sp:=λd H Q _=>∃(p:Ϡ) (A:Mc.DL) (c:Cf) (m:Ms),d=[.ref p]/\MA a c H p A m/\Mc.Ok c m/\Q (.str (HH c m)) H
def YD:T.M 1 0 (x6 a):=by refine BX T.Ï.fn tM ?_;k_ne;revert vs;refine JP λp A c m M O q=>?_;have I:=M.ins;have j:c.keys.cps.toList.length=c.keys.length:=Au;have i:=O.cf.short;have d:c.keys.length<=sizeLine:=DG (by lia);refine AU _ (AF (Pa (CA NO (fM T 3 (pv 0)) (LX RI U T.Ň QP (AD (fM T 2 (pv 0)) AI)) (BL _)) (BZ Qi (fM T 2 (pv 0)) (fM T 3 (pv 0)) (λ_ _=>U)) BN)) ?_;walk;unfold HH JL at q;by_cases e:m.at_<c.keys.cps.toList.length;(.rw[Ab (by lia)];refine BB ?_;walk;refine DZ _ _ _ U U d (FR (A6 e)) ?_;rw[A6 e]at q;exact q);rw[Aj (by lia)];refine AK ?_;rw[K8 (by lia)]at q;exact q
def Ub(a:Ad)(f:Cf->Ms->V):Sp:=λe H Q _=>∃(p:Ϡ) (A:Mc.DL) (c:Cf) (m:Ms),e=[.ref p]/\MA a c H p A m/\Mc.Ok c m/\∀d,AA H d->Q (f c m) d
def ie:T.M 2 1 (Ub a λc m=>.bl (Lz c m)):=by refine BX T.Ì.fn gr ?_;k_ne;revert vs;refine JP λp A c m M O q=>?_;have I:=M.ins;refine⟨_,(AH (AL 1 gr.nd (BG T.Ö (Sd T) hr U (AD (fM T 1 (pv 0)) (AD (FM (K:=K) U T.Machine.cl T.Ï (YD T) hr Yg (pv 0)) AI)))) (AF (GY (P6 (QC (pv 1))) (KG (FH (FT K U hr.units) (BZ (DE K U) (fM T 0 (pv 0)) (pv 1) (λ_ _=>U)) (CO AI) (BL _)))))),?_⟩;walk;refine EM p A c m U M O ?_;walk;refine AS (λC o j=>?_) M.li.rows;refine Qc A.c _ c.rs U ⟨C,AC.of o,j⟩ (λB d=>?_);have q:∀y,AA H y->Q (.bl (Lz c m)) y:=q;cases r:CV c.rs (HH c m)with|none =>rw[eQ r]at q;walk;exact q B d|some k =>rw[Mc.qQ r]at q;refine IK (λJ l R v E z=>?_) (M.lane O (UP r));rw[Mc.qR v]at q;have M1:=M.same d;refine⟨_,U,true,U,BB ⟨_,U,_,_,_,U,M1.ins,U,_,U,A.L,_,(k:Int),_,U,U,AC.of M1.li.zB,z,And.intro (B8 _) λe G=>?_⟩⟩;have i:=BM G (.lst []);have s:=Mc.FW.keep (Mc.BK.of_same (S:=λ_=>True) (d.trans i)) trivial E;refine CM _ _ (s.den (O.llay v)) (MN AM) (Of _) ?_;have q:=q _ (d.trans i);rw[<-PP Qo l]at q;exact q
def YE:T.M 3 2 (Ub a λc m=>.bl (R6 c m)):=by refine BX T.ã.fn tN ?_;k_ne;revert vs;refine JP λp A c m M O q=>?_;have q:∀y,AA H y->Q (.bl (Lz c m&&m.Á.isEmpty&&m.bar.isEmpty)) y:=q;have I:=M.ins;refine AU _ (AF (GY (FM (K:=K) U T.Machine.cl T.Ì (ie T) hr gu (pv 0)) (GY (FH (FT K U hr.units) (fM T 6 (pv 0)) (CO AI) (BL _)) (KG (FH (FT K U hr.units) (fM T 8 (pv 0)) (CO AI) (BL _)))))) ?_;walk;refine EM p A c m U M O (λr i=>?_);have B:=(M.same i).ins;refine AU _ U ?_;cases s:Lz c m with|false =>rw[s]at q;exact AK (q r i)|true =>rw[s]at q;refine BB ?_;walk;refine λe o=>?_;have k:=BM o (.lst []);have d:=i.trans k;have M2:=M.same d;refine CM _ _ (M2.li.het.den O.zY) (MN AM) (Of _) ?_;rw[PP NS m.Á];generalize upd r e (.lst [])=z at k d M2⊢;have C:=M2.ins;refine AU _ U ?_;cases v:m.Á.isEmpty with|false =>rw[v]at q;exact AK (q z d)|true =>rw[v]at q;refine BB ?_;walk;refine λe o=>?_;have j:=BM o (.lst []);refine CM _ _ ((M2.same j).li.bar.den O.blay) (MN AM) (Of _) ?_;have q:=q _ (d.trans j);rw[<-PP Qo m.bar]at q;exact q
def YF:T.M 3 3 (Ub a λc m=>.bl (R7 c m)):=by
 refine BX T.Õ.fn tO ?_;k_ne;revert vs;refine JP λp A c m M O q=>?_;have q:∀C,AA H C->Q (.bl ((JL c m).isNone&&m.line.isEmpty&&m.Á.isEmpty&&m.bar.isEmpty)) C:=q;have I:=M.ins;refine AU _ (AF (GY (FH EE (FM (K:=K) U T.Machine.cl T.Ï (YD T) hr Yg (pv 0)) BN (BL _)) (GY (FH (FT K U hr.units) (fM T 5 (pv 0)) (CO AI) (BL _)) (GY (FH (FT K U hr.units) (fM T 6 (pv 0)) (CO AI) (BL _)) (KG (FH (FT K U hr.units) (fM T 8 (pv 0)) (CO AI) (BL _))))))) ?_;walk;refine EM p A c m U M O ?_;walk;have G:decide (V.str (HH c m)=V.str "")=(JL c m).isNone:=by
  rw[FI];unfold HH;cases JL c m with
  | none=>exact Ab U
  | some k=>exact Aj λe=>by cases e
 rw[G];cases y:(JL c m).isNone with|false =>rw[y]at q;exact AK (q H (AA.refl _))|true =>rw[y]at q;refine BB ?_;walk;refine λe r=>?_;have i:=BM r (.lst []);have M2:=M.same i;refine CM _ _ (M2.li.lin.den O.ilay) (MN AM) (Of _) ?_;rw[PP NS m.line];generalize upd H e (.lst [])=B at i M2⊢;have L:=M2.ins;refine AU _ U ?_;cases z:m.line.isEmpty with|false =>rw[z]at q;exact AK (q B i)|true =>rw[z]at q;refine BB ?_;walk;refine λe r=>?_;have d:=EY (o:=.lst []) i r;have s:=M.same d;refine CM _ _ (s.li.het.den O.zY) (MN AM) (Of _) ?_;rw[PP NS m.Á];generalize upd B e (.lst [])=E at d s⊢;have J:=s.ins;refine AU _ U ?_;cases v:m.Á.isEmpty with|false =>rw[v]at q;exact AK (q E d)|true =>rw[v]at q;refine BB ?_;walk;refine λe r=>?_;have j:=EY (o:=.lst []) d r;refine CM _ _ ((M.same j).li.bar.den O.blay) (MN AM) (Of _) ?_;have q:=q _ j;rw[<-PP Qo m.bar]at q;exact q
theorem Th{i e:Type}{F:i->e->Prop}:∀{xs d} {ys c},Paired F xs ys->Paired F d c->Paired F (xs++d) (ys++c)|_,_,_,_,.nil,h=>h|_,_,_,_,.cons r t,h=>.cons r (Th t h)
def VG(a:Ad)(f:Cf->Ms->Ms):Sp:=λi H Q _=>∃(p:Ϡ) (A:Mc.DL) (c:Cf) (m:Ms),i=[.ref p]/\MA a c H p A m/\Mc.Ok c m/\∀e d,MA a c d p e (f c m)->Mc.AY p A H e d->Q .non d
def x8:T.M 3 4 (VG a Mc.ß):=by
 have i:=uN T;have d:=gE T;refine BX T.ô.fn gv ?_;k_ne;revert vs;refine JP λp A c m M O q=>?_;have I:=M.ins;refine⟨_,(@BV _ _ _ (CC (CA (GQ K U hr.units) (fM T 8 (pv 0)) (CO AI) (BL _)) (AH (AL 1 gv.nd (@EG K _ _ _ _ _ _ _ _ _ _ _ _ Ay Ka Kb ZP (fM T 8 (pv 0)) (AD AJ AI) U U U U U U)) (@BV _ _ _ (FC (@EG K _ _ _ _ _ _ _ _ _ _ _ _ Ay Bj Bk KW (BZ (DE K U) (fM T 0 (pv 0)) (BG T.ž i hr U (AD (BG T.Ī d hr U (AD (fM T 1 (pv 0)) AI)) (AD (BZ (JU K U) (pv 1) AJ (λ_ _=>U)) AI))) (λ_ _=>U)) (AZ 1) U U U U U U)))) CJ)),?_⟩;walk;refine λe he=>?_;have B:=BM he (.lst []);have M1:=M.same B;refine CM _ _ (M1.li.bar.den O.blay) (MN AM) (Of _) ?_;rw[PP Qo m.bar];generalize upd H e (.lst [])=S at B M1⊢;have I1:=M1.ins;refine AU _ U ?_;unfold Mc.ß at q;cases hb:m.bar with
 |nil =>rw[hb]at q;refine AK ?_;exact q A S M1 (Mc.AY.of_same B)|cons x r =>
  rw[hb]at q
  obtain⟨o1,o2,o3,o4,k,hk,as⟩:=O.bm x (by rw[hb];exact Aa);have q:∀A' R,MA a c R p A' (match LJ (c.rs.map λr=>r.t) x.2 with
   | some k=>{ m with bar:=r,lanes:=NR m.lanes k x }
   | none=>m)->Mc.AY p A H A' R->Q .non R:=q
  rw[hk]at q;refine BB ?_;walk;refine AS (λbs s aa=>?_) M1.li.bar;rw[hb]at aa
  obtain⟨v,vs,rfl,hv,aj⟩:∃v vs,bs=v::vs/\Lan.JK S v x/\Paired (Lan.JK S) vs r:=by
   cases aa with
   | cons h1 h2=>exact⟨_,_,U,h1,h2⟩
  refine⟨.inl ⟨U,_,AC.of s⟩,?_⟩;walk;refine DC A.b _ 0 0 v (DY U U s (by lk) (by lk) (eW _ _) (LG U ?_));have M2:MA a c (upd S A.b (.lst vs)) p A { m with bar:=r }:=M1.setBar s aj;have C:Mc.AY p A H A (upd S A.b (.lst vs)):=(Mc.AY.of_same B).trans (Mc.AY.lst (by unfold Mc.DL.all;simp) s);have ab:=Tu (Mc.BK.lst (o:=.lst vs) s) hv;have ak:((v::vs).eraseIdx 0)=vs:=U;rw[ak];generalize upd S A.b (.lst vs)=H2 at M2 C ab⊢;have I2:=M2.ins;revert ab;refine AS λt ae ht=>?_;subst ae;walk;refine AS (λws ai ah=>?_) M2.li.rows;have ap:=O.cf.Ĕ;refine CM A.c c.rs U ⟨ws,AC.of ai,ah⟩ (by lia) (λpr H3 ar G al=>?_);have M3:=M2.same G;have ac:=G _ _ ht;walk;refine DH t _ _ _ U U (BP.of ac) U ?_;refine JH pr x.2 _ (IR U (AC.of al) ?_ o3 o4 (λH4 J=>?_));intro y hy;refine AS (λr' ag X=>?_) (Bq.mp hy);subst X;exact(O.cf.th r' ag).1;rw[hk];have M4:=M3.same J;have ao:=J _ _ ac;have af:=C.trans (Mc.AY.of_same (G.trans J));have aq:m.lanes.length=c.rs.length:=O.ln;have j:k<m.lanes.length:=(by lia);refine AS (λlq E an=>?_) (Cs.Ql M4.li.zK (A6 j));revert an;refine AS λys z Z=>?_;have am:DP (A.ls.map V.ref) (k:Int)=some (.ref lq):=FR (by rw[An,E];rfl);refine DH A.L _ (k:Int) _ U U (AC.of M4.li.zB) am ?_;refine⟨.inl ⟨U,_,AC.of z⟩,?_⟩;refine AU _ U ?_;have Y:ys.length<=100000:=(by have h1:=B2 Z;have h2:=Mc.qo (A6 j);have h3:=O.sz;have h4:=Vd O;unfold Oe at h3;lia);refine DZ lq ys _ U U z (KY Y) ?_;have ea:NR m.lanes k x=m.lanes.set k (m.lanes[k]++[x]):=(by unfold NR;rw[A6 j]);have M5:MA a c (upd H4 lq (.lst (ys++[.ref t]))) p A { m with bar:=r,lanes:=m.lanes.set k (m.lanes[k]++[x]) }:=M4.zA E z (Bz Z ⟨t,U,ao⟩);have q:∀A' R,MA a c R p A' { m with bar:=r,lanes:=NR m.lanes k x }->Mc.AY p A H A' R->Q .non R:=q;rw[ea]at q;have q:=q A _ M5 (af.trans (Mc.AY.lst (by unfold Mc.DL.all;simp[Af E]) z));exact q
def x9:T.M 2 5 (VG a λ_ m=>Mc.é m):=by
 refine BX T.æ.fn tQ ?_;k_ne;revert vs;refine JP λp A c m M O q=>?_;have q:∀A' H',MA a c H' p A' (Mc.é m)->Mc.AY p A H A' H'->Q .non H':=q;have I:=M.ins;refine⟨_,(AH (CC (CA (FT K U hr.units) (fM T 6 (pv 0)) (CO AI) (BL _)) (BV k4) CJ) (AH (sM T 7 (pv 0) (AX LU (fM T 7 (pv 0)) AJ)) (@BV _ _ _ (CC (CA Ng (fM T 7 (pv 0)) AJ (BL _)) (AH (FC (@EG K _ _ _ _ _ _ _ _ _ _ _ _ Ay Bj Bk KW (fM T 9 (pv 0)) (AD (@EG K _ _ _ _ _ _ _ _ _ _ _ _ Bi Bu Bv (MG K U) BN (AD (CW ["self","part"] [] 1 (EV K U (fM T 6 (pv 0))) (BD 1) EU (BZ (qm K U) (pv 1) AJ (λ_ _=>U))) AI) U U U U U U) AI) U U U U U U)) (AH (FC (@EG K _ _ _ _ _ _ _ _ _ _ _ _ Ay Jh Ji ZO (fM T 8 (pv 0)) (AD (CW ["self","part"] [] 1 (EV K U (fM T 6 (pv 0))) (BD 1) (UM (CA (GQ K U hr.units) (pv 1) (JR (v:=.str " ") U T.Ū ⟨_,U⟩) (BL _))) (pv 1)) AI) U U U U U U)) (BV (sM T 6 (pv 0) (CO AI))))) CJ)))),?_⟩;walk;refine λe he=>?_;have Z:=BM he (.lst []);have M1:=M.same Z;refine CM _ _ (M1.li.het.den O.zY) (MN AM) (Of _) ?_;rw[PP NS m.Á];generalize upd H e (.lst [])=H1 at Z M1⊢;have I1:=M1.ins;refine AU _ U ?_;unfold Mc.é at q;cases hh:m.Á.isEmpty with
 |true =>rw[B1 hh]at q;refine BB ?_;exact q A H1 M1 (Mc.AY.of_same Z)|false =>
  rw[Av (by rw[hh];decide)]at q;refine AK ?_;walk;refine λH2 I2 k2=>?_;have I2:IA a H2 p (Mc.vals c A { m with ä:=m.ä-1 }):=I2;have M2:=M1.setF I2 k2 U U U U U;have ar:=(Mc.AY.of_same (p:=p) (A:=A) Z).trans (Mc.AY.zv I1 I2 k2);have aB:m.Á≠[]:=λz=>(by rw[z]at hh;cases hh);have O2:∀x,some x∈m.Á->Mc.OD c x:=O.hm;walk;by_cases ht:m.ä-1<=0
  .rw[B1 ht]at q;rw[Ab ht];refine BB ?_;walk;have aw:=O.sz;have aD:=Vd O;unfold Oe at aw;refine AS (λhv ak Y=>?_) M2.li.het;have Y:Paired (NF H2) hv m.Á:=Y;have av:=B2 Y;refine⟨.inl ⟨U,_,AC.of M2.li.txt⟩,?_⟩;walk;refine⟨⟨_,AC.of ak⟩,λD hD=>?_⟩;let Izz:zU:=λi k σ H3=>∃(v2:Ϩ V),k=((m.Á.take i).map Mj).map V.str/\σ=[some (.ref p),v2]/\AA H2 H3/\H3 D=some (.lst k)
   refine GN (a:=A.h) (xs:=hv) Izz
    ?_ ?_ ?_ ?_
   exact IS none U U (BM hD _) AM;refine λi k σ H3 hi=>GK λv2 _ _ C _=>?_;exact C.seq (AC.of ak);(.refine λi y k σ H3 hy J=>GK λv2 j d C G=>?_;subst j;subst d;refine AS (λpt E ah=>?_) (eR Y hy);have ab:=Xy (Mc.BK.of_same (S:=λ_=>True) C) ah;have r:(((m.Á.take i).map Mj).map V.str).length<=100000:=(by grind);have as:(((m.Á.take (i+1)).map Mj).map V.str)=(((m.Á.take i).map Mj).map V.str)++[V.str (Mj pt)]:=(by rw[Am,E,Ae,Ae];rfl);walk;cases pt with|none =>have e:y=.str " ":=ab;subst e;refine .inr ⟨_,_,32,U,U,DG (by lk),U,?_⟩;exact EI J G r ⟨_,as.symm,U,DF C hD,AM⟩|some x =>revert ab;refine AS λt j ax=>?_;subst j;refine .inl ⟨t,_,_,_,U,U,BP.of ax,U,?_⟩;exact EI J G r ⟨_,as.symm,U,DF C hD,AM⟩)
   .refine λk σ H3=>GK λv2 j d aj G=>?_;subst j;subst d;rw[av,Ai (A9 _)]at G;have M3:=M2.same aj;refine DZ _ D _ U U (AC.of G) (Mc.qS O2 (by lia)) ?_;have aE:=O.tx;refine DZ A.t _ _ U U M3.li.txt (KY (by rw[A3];show m.texts.length<=_;lia)) ?_;have et:(m.texts.map V.str)++[V.str (Txt.join "" (m.Á.map Mj))]=(m.texts++[Mc.IM m.Á]).map V.str:=(by rw[Ae];rfl);have M4:MA a c (upd H3 A.t (.lst ((m.texts.map V.str)++[V.str (Txt.join "" (m.Á.map Mj))]))) p A { m with ä:=m.ä-1,texts:=m.texts++[Mc.IM m.Á] }:=(by rw[et];exact M3.setTxt M3.li.txt);have ai:Mc.AY p A H A (upd H3 A.t (.lst ((m.texts.map V.str)++[V.str (Txt.join "" (m.Á.map Mj))]))):=(ar.trans (Mc.AY.of_same aj)).trans (Mc.AY.lst (by unfold Mc.DL.all;simp) M3.li.txt);generalize upd H3 A.t (.lst ((m.texts.map V.str)++[V.str (Txt.join "" (m.Á.map Mj))]))=H4 at M4 ai⊢;have I4:=M4.ins;refine AS (λhw am L=>?_) M4.li.het;have L:Paired (NF H4) hw m.Á:=L;have az:=B2 L;refine AS (λbv aa ao=>?_) M4.li.bar;have aq:=B2 ao;have aq:bv.length=m.bar.length:=aq;walk;refine⟨.inl ⟨U,_,AC.of aa⟩,?_⟩;walk;refine⟨⟨_,AC.of am⟩,λD2 al=>?_⟩;let Izz:zU:=λi k σ R=>∃(v2:Ϩ V),Paired (Lan.JK R) k (DA (m.Á.take i))/\σ=[some (.ref p),v2]/\AA H4 R/\R D2=some (.lst k)
    refine GN (a:=A.h) (xs:=hw) Izz
     ?_ ?_ ?_ ?_
    exact IS none .nil U (BM al _) AM;refine λi k σ R hi=>GK λv2 _ _ C _=>?_;exact C.seq (AC.of am);(.refine λi y k σ R hy J=>GK λv2 o d C s=>?_;subst d;refine AS (λpt E ah=>?_) (eR L hy);have ac:=Xy (Mc.BK.of_same (S:=λ_=>True) C) ah;have ap:=Af E;have r:k.length<=100000:=(by have h1:=B2 o;have h2:=Xs (m.Á.take i);rw[Ao]at h2;lia);walk;refine CM _ _ (Mc.eP ac (λx e=>O.zY x (e ▸ ap))) (.str _ (by room)) (by show min _ 0<=64;lia) ?_;refine AU _ U ?_;cases pt with|none =>have e:(if true=true then !PyData.eqv (NS none) (.str " ")else PyData.eqv (NS none) (.str " "))=false:=(by show(!PyData.eqv (.str " ") (.str " "))=false;rw[Mc.qV];rfl);rw[e];refine AK ?_;refine RO J ⟨_,?_,U,C,s⟩;rw[eS E,Option.toList_none,Aq];exact o|some x =>have e:(if true=true then !PyData.eqv (NS (some x)) (.str " ")else PyData.eqv (NS (some x)) (.str " "))=true:=U;rw[e];refine BB ?_;walk;refine EI J s r ⟨_,?_,U,DF C al,AM⟩;rw[eS E];exact Bz (Lan.Xm o s) (Tu (Mc.BK.lst s) ac));refine λk σ R=>GK λv2 o d B s=>?_;subst d;rw[az,Ai (A9 _)]at o;have M5:=M4.same B;have aF:=B2 o;have aC:=Xs m.Á;refine NL A.b D2 bv k U U (B _ _ aa) s (DG (by lia)) ?_;have aA:=Lan.e6 ao B;have M6:MA a c (upd R A.b (.lst (bv++k))) p A { m with ä:=m.ä-1,texts:=m.texts++[Mc.IM m.Á],bar:=m.bar++DA m.Á }:=M5.setBar (B _ _ aa) (Th aA o);have ae:Mc.AY p A H A (upd R A.b (.lst (bv++k))):=(ai.trans (Mc.AY.of_same B)).trans (Mc.AY.lst (by unfold Mc.DL.all;simp) (B _ _ aa));generalize upd R A.b (.lst (bv++k))=H6 at M6 ae⊢;walk;refine λe7 af=>?_;have ag:=BM af (.lst []);have X:=M6.same ag;have I7:=X.ins;have an:upd H6 e7 (.lst []) e7=some (.lst []):=AM;have au:=M6.new af;generalize upd H6 e7 (.lst [])=H7 at ag X I7 an⊢;walk;refine λH8 I8 k8=>?_;have I8:IA a H8 p (Mc.vals c { A with h:=e7 } { m with ä:=m.ä-1,texts:=m.texts++[Mc.IM m.Á],bar:=m.bar++DA m.Á,Á:=[] }):=I8;have ay:=(ae.trans (Mc.AY.of_same ag)).trans (Mc.AY.zv I7 I8 k8);exact q _ H8 (Mc.ET.fields I7 I8 k8 ⟨X.li.rows,X.li.zB,X.li.zK,X.li.lin,⟨[],an,.nil⟩,X.li.bar,X.li.txt⟩ (Mc.XA X.nd au)) (ay.to (Mc.qY (ae.free af)))
  rw[Av ht]at q;rw[Aj ht];refine AK ?_;exact q A H2 M2 ar
def xa:T.M 1 7 (VG a Mc.send):=by refine BX T.ï.fn tT ?_;k_ne;revert vs;refine JP λp A c m M O q=>?_;have I:=M.ins;refine⟨_,(BV (CC (CA (FT K U hr.units) (fM T 6 (pv 0)) (CO AI) (BL _)) (AH (sM T 6 (pv 0) (fM T 5 (pv 0))) (AH (sM T 7 (pv 0) (fM T 4 (pv 0))) (AH (sM T 5 (pv 0) (CO AI)) (BV (sM T 3 (pv 0) (AX DT (fM T 3 (pv 0)) AJ)))))) CJ)),?_⟩;walk;refine λe he=>?_;have i:=BM he (.lst []);have M1:=M.same i;refine CM _ _ (M1.li.het.den O.zY) (MN AM) (Of _) ?_;rw[PP NS m.Á];generalize upd H e (.lst [])=H1 at i M1⊢;have X:=M1.ins;refine AU _ U ?_;unfold Mc.send at q;cases hh:m.Á.isEmpty with|false =>rw[Av (by rw[hh];decide)]at q;exact AK (q A H1 M1 (Mc.AY.of_same i))|true =>rw[B1 hh]at q;refine BB ?_;walk;refine λH2 I2 k2=>?_;walk;refine λQ Y k3=>?_;walk;refine λo j=>?_;have d:=BM j (.lst []);have E:upd Q o (.lst []) o=some (.lst []):=AM;have J:=Y.same d;have R:=d;generalize upd Q o (.lst [])=H4 at d E J R⊢;walk;refine λH5 I5 k5=>?_;walk;refine λG k k6=>?_;have k:IA a G p (Mc.vals c { A with h:=A.l,l:=o } { m with Á:=m.line,ä:=c.cast,line:=[],at_:=m.at_+1 }):=(by have e:((m.at_:Int)+1)=((m.at_+1:Nat):Int):=(by lia);have k:IA a G p [some (.ref A.L),some (.ref A.c),some (.str c.keys),some (.int ((m.at_:Int)+1)),some (.int c.cast),some (.ref o),some (.ref A.l),some (.int c.cast),some (.ref A.b),some (.ref A.t),some (.int m.done),some (.int m.Ä)]:=k;rw[e]at k;exact k);have B:=λb y=>(k3 b y).trans (k2 b y);have s:=λb y=>(k6 b y).trans (k5 b y);have Z:Mc.HS c Q A m:=M1.li.keep (by obtain⟨_,_,z,_⟩:=X;exact Mc.BK.fld z B) (M1.pne);have r:=Z.keep (Mc.BK.of_same (S:=λ_=>True) d) λ_ _=>trivial;have C:o∉A.all:=λz=>(by obtain⟨xs,ex⟩:=Z.is o z;rw[j]at ex;cases ex);have v:=(Mc.AY.of_same (p:=p) (A:=A) i).trans (Mc.AY.zv X Y B);exact q _ G (Mc.ET.fields J k s ⟨r.rows,r.zB,r.zK,⟨[],E,.nil⟩,r.lin,r.bar,r.txt⟩ (Mc.XB M.nd C)) (((v.trans (Mc.AY.of_same d)).trans (Mc.AY.zv J k s)).to (Mc.qZ (v.free j)))
def xb(a:Ad):Sp:=λi H Q _=>∃(p:Ϡ) (A:Mc.DL) (c:Cf) (m:Ms) (v:V) (pt:Mc.HG),i=[.ref p,v]/\MA a c H p A m/\NF H v pt/\m.line.length<=99999/\∀e d,MA a c d p e (Mc.take m pt)->Mc.AY p A H e d->Q .non d
def ig:T.M 1 8 (xb a):=by refine BX T.ø.fn tV ?_;k_ne;revert vs;refine Su λp A c m v pt M o z q=>?_;have I:=M.ins;refine AS (λj Ĝ ģ=>?_) M.li.lin;have s:=B2 ģ;refine⟨_,(AH (FC (@EG K _ _ _ _ _ _ _ _ _ _ _ _ Ay Bj Bk KW (fM T 5 (pv 0)) (AZ 1) U U U U U U)) (BV (sM T 3 (pv 0) (AX DT (fM T 3 (pv 0)) AJ)))),?_⟩;walk;refine⟨.inl ⟨U,_,AC.of Ĝ⟩,?_⟩;walk;refine DZ A.l j v U U Ĝ (KY (by lia)) ?_;have M2:MA a c (upd H A.l (.lst (j++[v]))) p A { m with line:=m.line++[pt] }:=M.setLine Ĝ (Bz ģ o);have i:Mc.AY p A H A (upd H A.l (.lst (j++[v]))):=Mc.AY.lst (by unfold Mc.DL.all;simp) Ĝ;generalize upd H A.l (.lst (j++[v]))=B at M2 i⊢;have y:=M2.ins;walk;refine λk d r=>?_;have d:IA a k p (Mc.vals c A (Mc.take m pt)):=(by have e:((m.at_:Int)+1)=((m.at_+1:Nat):Int):=(by lia);have d:IA a k p [some (.ref A.L),some (.ref A.c),some (.str c.keys),some (.int ((m.at_:Int)+1)),some (.int c.cast),some (.ref A.l),some (.ref A.h),some (.int m.ä),some (.ref A.b),some (.ref A.t),some (.int m.done),some (.int m.Ä)]:=d;rw[e]at d;exact d);exact q A k (M2.setF d r U U U U U) (i.trans (Mc.AY.zv y d r))
def xc:T.M 3 6 (VG a Mc.Ð):=by
 refine BX T.í.fn gw ?_;k_ne;revert vs;refine JP λp A c m M O q=>?_;have I:=M.ins;have ag:=O.sz;have aj:=Vd O;unfold Oe at ag;refine⟨_,(AH (AL 1 gw.nd (FM (K:=K) U T.Machine.cl T.Ï (YD T) hr Yg (pv 0))) (@BV _ _ _ (CC (CA EE (pv 1) (JR (v:=.str "/") U T.ê ⟨_,U⟩) (BL _)) (BV (FC (FM (K:=K) U T.Machine.cl T.ï (xa T) hr tU (pv 0)))) (@BV _ _ _ (CC (CA EE (pv 1) (JR (v:=.str " ") U T.Į ⟨_,U⟩) (BL _)) (BV (FC (KI (K:=K) U T.Machine.cl T.ø (ig T) hr gx (pv 0) (AD (JR (v:=.str " ") U T.Ū ⟨_,U⟩) AI)))) (@BV _ _ _ (CC (FK (FM (K:=K) U T.Machine.cl T.Ì (ie T) hr gu (pv 0))) (BV (sM T 11 (pv 0) (AX DT (fM T 11 (pv 0)) AJ))) (@BV _ _ _ (CC (CA My (pv 1) BN (BL _)) (@BV _ _ _ (FC (KI (K:=K) U T.Machine.cl T.ø (ig T) hr gx (pv 0) (AD (@EG K _ _ _ _ _ _ _ _ _ _ _ _ Ay Ka Kb ZP (BZ (DE K U) (fM T 0 (pv 0)) (BG T.Ö (Sd T) hr U (AD (fM T 1 (pv 0)) (AZ 1))) (λ_ _=>U)) (AD AJ AI) U U U U U U) AI)))) CJ))))))))),?_⟩;walk;refine EM p A c m U M O ?_;unfold Mc.Ð at q;walk;cases R:JL c m with
 |none =>rw[R]at q;have es:=Mc.rb R;have hla:Lz c m=false:=eQ (by rw[es];exact O.cf.zJ.2.2);rw[es,show decide (V.str ""=V.str "/")=false from by rw[FI];decide +kernel];refine AK ?_;walk;refine EM p A c m U M O (λH1 e=>⟨_,U,?_⟩);rw[hla];refine AK ?_;walk;(try rw[show(!decide (V.str ""=V.str ""))=false from by rw[Ab U];rfl]);(try refine AK ?_);exact q A H1 (M.same e) (Mc.AY.of_same e)|some k =>
  rw[R]at q
  have q:∀(E:Mc.DL) (z:Hp),MA a c z p E (if k=47 then Mc.send c m else if k=32 then Mc.take m none else if Lz c m=true then { m with Ä:=m.Ä+1 }else match CV c.rs (sg k)with
   | some j=>Mc.pick m j
   | none=>m)->Mc.AY p A H E z->Q V.non z:=q
  have aa:decide (V.str (sg k)=V.str "/")=decide (k=47):=eU (d:=47);have Z:decide (V.str (sg k)=V.str " ")=decide (k=32):=eU (d:=32);rw[Mc.ra R,aa];by_cases y:k=47;(.rw[B1 y]at q;rw[Ab y];refine BB ?_;walk;exact EM p A c m U M O q)
  .rw[Av y]at q;rw[Aj y];refine AK ?_;walk;rw[Z];by_cases s:k=32;(.rw[B1 s]at q;rw[Ab s];refine BB ?_;walk;exact OX p A c m _ none U M U (by lia) q)
   .rw[Av s]at q;rw[Aj s];refine AK ?_;walk;refine EM p A c m U M O (λH1 e=>?_);have M1:=M.same e;have I1:=M1.ins;refine AU _ U ?_;cases hla:Lz c m with
    |true =>rw[B1 hla]at q;refine BB ?_;walk;refine λB Y k2=>?_;have Y:IA a B p (Mc.vals c A { m with Ä:=m.Ä+1 }):=Y;exact q A B (M1.setF Y k2 U U U U U) ((Mc.AY.of_same e).trans (Mc.AY.zv I1 Y k2))|false =>
     rw[Av (by rw[hla];decide)]at q;refine AK ?_;obtain⟨j,hj,x,r,hx⟩:=Mc.eI O R y s hla;rw[hj]at q;have q:∀(E:Mc.DL) (z:Hp),MA a c z p E (Mc.pick m j)->Mc.AY p A H E z->Q V.non z:=q;have ep:Mc.pick m j=Mc.take { m with lanes:=m.lanes.set j r } (some x):=(by unfold Mc.pick;rw[hx]);rw[ep]at q
     walk;refine AS (λws ah ac=>?_) M1.li.rows;refine Qc A.c _ c.rs U ⟨ws,AC.of ah,ac⟩ (λB X=>?_);rw[hj];have M2:=M1.same X;have ak:=UP hj;obtain⟨J,C,ys,i,ae⟩:=Cs.Ql M2.li.zK hx;obtain⟨v,vs,rfl,hv,ai⟩:∃v vs,ys=v::vs/\Lan.JK B v x/\Paired (Lan.JK B) vs r:=by
      cases ae with
      | cons h1 h2=>exact⟨_,_,U,h1,h2⟩
     have ab:DP (A.ls.map V.ref) (j:Int)=some (.ref J):=FR (by rw[An,C];rfl);refine NL A.L _ (j:Int) _ U U (AC.of M2.li.zB) ab (.inl ⟨U,_,AC.of i⟩) ?_;walk;refine DC J _ 0 0 v (DY U U i (by lk) (by lk) (eW _ _) (LG U ?_));have M3:MA a c (upd B J (.lst vs)) p A { m with lanes:=m.lanes.set j r }:=M2.zA C i ai;have G:Mc.AY p A H A (upd B J (.lst vs)):=(Mc.AY.of_same (e.trans X)).trans (Mc.AY.lst (by unfold Mc.DL.all;simp[Af C]) i);have S:=Tu (Mc.BK.lst (o:=.lst vs) i) hv;have af:((v::vs).eraseIdx 0)=vs:=U;rw[af];generalize upd B J (.lst vs)=H3 at M3 G S⊢;exact OX p A c _ v (some x) U M3 S (by show m.line.length<=99999;lia) (λE z M' s'=>q E z M' (G.trans s'))
def xg(a:Ad):Sp:=λi H Q _=>∃(p:Ϡ) (A:Mc.DL) (c:Cf) (m:Ms),i=[.ref p]/\MA a c H p A m/\Mc.Ok c m/\(JM c m=true->∀d,AA H d->Q (.bl false) d)/\(JM c m=false->∀e d,MA a c d p e (Mc.tick c m)->Mc.AY p A H e d->Q (.bl true) d)
def VH:T.M 4 9 (xg a):=by refine BX T.Ý.fn tW ?_;k_ne;revert vs;refine RC λp A c m M O qf qt=>?_;have I:=M.ins;unfold JM at qf qt;refine⟨_,(AH (CC (PW.pt (Ot (FK (FM (K:=K) U T.Machine.cl T.Õ (YF T) hr Yi (pv 0))) (P8 (FK (FM (K:=K) U T.Machine.cl T.ã (YE T) hr Yh (pv 0)))))) (AF JI) CJ) (AH (FC (FM (K:=K) U T.Machine.cl T.ô (x8 T) hr tP (pv 0))) (AH (FC (FM (K:=K) U T.Machine.cl T.æ (x9 T) hr tR (pv 0))) (AH (FC (FM (K:=K) U T.Machine.cl T.í (xc T) hr tS (pv 0))) (AH (sM T 10 (pv 0) (AX DT (fM T 10 (pv 0)) AJ)) (AF JI)))))),?_⟩;walk;refine EM p A c m U M O (λH i=>?_);have M1:=M.same i;have X:=M1.ins;refine AU _ U ?_;cases e:R7 c m with|true =>refine BB ?_;exact qf (by rw[e];rfl) H i|false =>refine AK ?_;walk;refine EM p A c m U M1 O (λJ o=>?_);have d:=i.trans o;have M2:=M.same d;have I2:=M2.ins;refine AU _ U ?_;cases j:R6 c m with|true =>refine BB ?_;exact qf (by rw[e,j];rfl) J d|false =>refine AK ?_;walk;refine EM p A c m U M2 O (λL Y v Q=>?_);have I3:=v.ins;walk;refine EM p L c _ U v O.ß (λG H4 B C=>?_);have S:=B.ins;walk;refine EM p G c _ U B O.ß.é (λy Z s R=>?_);have E:=s.ins;walk;refine λr k z=>?_;have k:IA a r p (Mc.vals c y (Mc.tick c m)):=k;exact qt (by rw[e,j];rfl) y r (s.setF k z U U U U U) (((((Mc.AY.of_same d).trans Q).trans C).trans R).trans (Mc.AY.zv E k z))
def xh(a:Ad):Sp:=λi H Q _=>∃(p:Ϡ) (A:Mc.DL) (c:Cf) (m:Ms),i=[.ref p]/\MA a c H p A m/\Mc.Ok c m/\∀e d,MA a c d p e (Mc.fin c m)->Mc.AY p A H e d->Q (.int ((Mc.fin c m).done-m.done)) d
def YG:T.M 5 10 (xh a):=by refine BX T.ð.fn gy ?_;k_ne;revert vs;refine JP λp A c m M O q=>?_;have I:=M.ins;refine⟨_,(AH (AL 1 gy.nd (fM T 10 (pv 0))) (AH (Pb B6 (FK (FM (K:=K) U T.Machine.cl T.Ý (VH T) hr Vy (pv 0))) (BV jV)) (AF (AX LU (fM T 10 (pv 0)) (pv 1))))),?_⟩;walk;let Izz:zT:=λn z y=>∃i m1,z=[some (.ref p),some (.int m.done)]/\MA a c y p i m1/\Mc.Ok c m1/\Mc.AY p A H i y/\Mc.fin c m1=Mc.fin c m/\CT c m1=n;refine AU Izz ⟨_,A,m,U,M,O,Mc.AY.of_same (AA.refl _),U,U⟩ ?_;refine λn z y L=>?_;revert z;refine VU λi m1 M1 s d C j=>?_;subst j;have G:=M1.ins;refine AU _ U ?_;refine BY _ _ U G ?_;refine DH p i c m1 U M1 s (λr B k=>?_) (λr J B M2 v=>?_);(.refine AU _ U ?_;refine AK ?_;have M2:=M1.same k;have Q:=M2.ins;walk;have e:=Mc.qE r;rw[C]at e;rw[e]at q;exact q i B M2 (d.trans (Mc.AY.of_same k)));refine AU _ U ?_;refine BB ?_;let Izz:zS:=λo E=>o=[some (.ref p),some (.int m.done)]/\E=B;refine AU Izz ?_ ⟨U,U⟩;rintro o E ⟨rfl,rfl⟩;exact⟨_,R8 s r,J,_,U,M2,s.tick,d.trans v,(Mc.qH s r).trans C,U⟩
def xi:T.M 1 11 (Ub a λc m=>.int m.done):=by refine BX T.đ.fn tX ?_;k_ne;revert vs;refine JP λp A c m M O q=>?_;have I:=M.ins;refine AU _ (AF (fM T 10 (pv 0))) ?_;walk;exact q H (AA.refl _)
def YH:T.M 1 13 (Ub a λc m=>.int m.Ä):=by refine BX T.Þ.fn u0 ?_;k_ne;revert vs;refine JP λp A c m M O q=>?_;have I:=M.ins;refine AU _ (AF (fM T 11 (pv 0))) ?_;walk;exact q H (AA.refl _)
def ij(a:Ad)(F:Cf->Ms->Hp->Hp->ϝ):Sp:=λe H Q _=>∃(p:Ϡ) (A:Mc.DL) (c:Cf) (m:Ms),e=[.ref p]/\MA a c H p A m/\Mc.Ok c m/\∀r d,H r=none->AA H d->F c m H d r->Q (.ref r) d
def VI:T.M 1 12 (ij a λc m H d r=>d r=some (.lst (m.texts.map V.str))):=by refine BX T.Ò.fn tZ ?_;k_ne;revert vs;refine JP λp A c m M O q=>?_;have I:=M.ins;refine AU _ (AF (FQ (X0 K U) U T.ť UI (AD (fM T 9 (pv 0)) AI))) ?_;walk;exact BY A.t _ U (.inl (AC.of M.li.txt)) (λr hr=>q r _ hr (BM hr _) AM)
def ik:Sp:=λ_ _ _ _=>False
def xj:CF P w K mg base CX k f c ps ik:=⟨λ_ _ _ _ h=>h.elim,λ_ _ _ _ _ _ _ _ _ _ _ _ _ h=>h.elim⟩
def xk:Sp:=λj H Q _=>∃(c:Ϡ) (i:ϩ V) (d:ϩ BS),j=[.ref c,.non]/\H c=some (.lst i)/\Paired (Cs.FL H) i d/\d.length<=100/\(∀r∈d,0<=r.n/\r.n<=1000) /\(∀(D:Ϡ) (e:ϖ) H',H D=none->AA H H'->H' D=some (.lst (e.map V.ref))->Paired (Mc.FW H') e (JX d)->(D::e).Nodup->(∀z∈e,H z=none)->Q (.ref D) H')
def xl:T.F 2 54 xk:=by
 have d:T.F 1 53 ik:=xj;refine BX T.İ.fn Oi ?_;k_ne;revert vs;refine RB λc xs rs hc af az an q=>?_;have ar:=MH af;refine⟨_,(AH (Pt (i:=2) Oi.nd U NM U (EV K U (pv 0)) (DU.of (N':=["case","broken","channels","ahead","at","part","channel","lost","sign","width","own","many","teeth"]) (ms:=[8,9,11]) (k:=1) (by rfl)) (λ_ _ _ _ _=>(ES K U (n:=4) U (BO (BD 8) (BO (BD 9) (BO (BD 12) (BO (BD 11) EL)))))) (λ_ _ _ _ _=>EU) (λ_ _ _ _ _=>(AX SX (CO (AD (FP (AR 8 (AZ 12))) AI)) (pv 11))))
  (AH (AL 3 Oi.nd (CO AI))
  (AH (GZ B6 U (RP K U U T.Ù (AD (Pa (Ut (Us (pv 1))) (CO AI) (pv 1)) AI)) (ES K U (n:=2) U (BO (AQ 4 Oi.nd) (BO (AQ 5 Oi.nd) EL))) (AH (IU (pv 5) (ES K U (n:=2) U (BO (AQ 6 Oi.nd) (BO (AQ 7 Oi.nd) EL))))
  (AH (CC (KS (FK (BG T.zP d hr U (AR 0 (AR 3 (AR 6 (AZ 7))))))) (BV LI) CJ)
  (AH (IU (BZ (DE K U) (pv 0) (pv 6) (λ_ _=>U)) (ES K U (n:=4) U (BO (AQ 8 Oi.nd) (BO (AQ 9 Oi.nd) (BO (AQ 10 Oi.nd) (BO (AQ 11 Oi.nd) EL))))))
  (AH (IU (FP (AR 8 (AD (AX LU (pv 10) (pv 7)) AI))) (Uv (BZ (DE K U) (pv 2) (pv 6) (λ_ _=>U)) (@EG K _ _ _ _ _ _ _ _ _ _ _ _ Ay PySem.F.slot_list_count PySem.F.type_list_count pX (pv 3) (AZ 6) U U U U U U) UC))
  (@BV _ _ _ (FC (@EG K _ _ _ _ _ _ _ _ _ _ _ _ Ay Bj Bk KW (pv 3) (AZ 6) U U U U U U))))))))
  (AF (pv 2))))),?_⟩
 walk;refine⟨⟨_,AC.of hc⟩,λD hD=>?_⟩;let Izz:zU:=λj zs E Z=>∃(w8 w9 X aa:Ϩ V),E=[some (.ref c),some .non,none,none,none,none,none,none,w8,w9,none,X,aa]/\AA H Z/\Z D=some (.lst zs)/\Paired (Lan.R3 H D Z) zs ((JX rs).take j)/\zs.Nodup
 refine GN (a:=c) (xs:=xs) Izz
  ?_ ?_ ?_ ?_
 exact DH none none none none U (BM hD _) AM .nil F6;refine λj zs E Z hj=>HX λ_ _ _ _=>ED λ_ hs _=>?_;exact hs.seq (AC.of hc)
 .refine λj y zs E Z hy ao av=>?_;revert E;refine RC λw8 w9 X aa B G z R=>?_;obtain⟨r,al,t,rfl,ht⟩:=FD af hy;have aC:=an r (Af al);have ap:=B2 z;rw[Ao]at ap;refine CM _ _ U (BP.of (B _ _ ht)) U ?_;x_go;x_go;x_go;x_go;try refine And.intro U ?_
  walk;intro pt aA;x_fa H3 v aq;walk;intro p1 aB;x_fa H4 p au;walk;refine JH p1 _ _ (DY U U au (by lia) (by lia) (DG (by show 1*r.n.toNat<=_;lia)) (λp2 Y=>?_));have as:(List.replicate r.n.toNat [V.ref pt]).flatten=List.replicate r.n.toNat (V.ref pt):=by
   generalize r.n.toNat=n;induction n with
   | zero=>rfl
   | succ n ih=>rw[Dh,Dc,ih];rfl
  rw[as];x_fa H5 ac ax;have C:=v.trans (p.trans ac);have Q:=C _ _ G;have ag:p2≠D:=λe=>(by rw[e,(v.trans p) _ _ G]at Y;cases Y);have I:=v.free (p.free Y);refine EI ao Q (by lia) ⟨_,_,_,_,U,DF (B.trans C) hD,AM,?_,?_⟩;have e0:(JX rs)[j]?=some (List.replicate r.n.toNat (r.s,r.t)):=(by unfold JX;rw[An,al];rfl);rw[Am,e0];refine Bz (Lan.pZ (Lan.pY z C) Q) ⟨p2,_,U,ag,B.free I,by rw[BJ ag];exact ax,Lan.Xm (Lan.e8 ⟨pt,U,(p.trans ac) _ _ aq⟩ _) Q⟩;rw[F3];refine IQ R (by simp) (λx hx y hy=>?_);rw[Ah.mp hy];exact λe=>Lan.q3 z I (e ▸ hx)
 .refine λzs E Z av=>?_;revert E;refine RC λw8 w9 X aa B G z R=>?_;rw[ar,Ai (by unfold JX;rw[A3];exact A9 _)]at z;refine GK (λls aj aw ay ū=>?_) (Mc.rf z R);subst aj;walk;intro ph am;have v:=EY (o:=.lst []) B am;have J:=BM am (.lst []);generalize upd Z ph (.lst [])=H3 at v J⊢;walk;intro pe ak;have p:=EY (o:=.lst []) J ak;have L:=EY (o:=.lst []) v ak;have O:upd H3 pe (.lst []) pe=some (.lst []):=AM;generalize upd H3 pe (.lst [])=H4 at p L O⊢;refine HA pe U ⟨_,AC.of O⟩ ?_;let Izz:zT:=λi E H5=>∃(v4 v5 v6 v7 v8 v9 ai ab:Ϩ V),E=[some (.ref c),some .non,some (.ref D),some (.ref ph),v4,v5,v6,v7,v8,v9,ai,ab]/\H5=H4
  refine SZ (a:=pe) (xs:=[]) Izz
   ⟨none,none,none,none,none,none,none,none,U,U⟩ (by rintro i E H5 _ ⟨_,_,_,_,_,_,_,_,_,e⟩;exact by rw[e];exact AC.of O) ?_ ?_
  rintro i y tp E H5 hy _ _;cases hy;refine λE H5=>EK λv4 v5 v6 v7 v8=>GA λv9 ai ab=>KM λah ae=>?_;subst ah;subst ae;exact AU _ U (q D ls H5 hD L (p _ _ G) (Rb (Mc.BK.of_same (S:=λ_=>True) p) (λ_ _=>trivial) aw) ay ū)
def Va(a:Ad):Sp:=λj H Q _=>∃(p i k:Ϡ) (c:Cf) (e:ϩ V),j=[.ref p,.ref i,.str c.keys,.int c.cast,.non]/\H p=some (.ins a.Î k [])/\H i=some (.lst e)/\Paired (Cs.FL H) e c.rs/\OE c/\GS c.rs false c.keys.cps.toList=true/\(∀r∈c.rs,0<=r.n/\r.n<=1000) /\∀A d,MA a c d p A (Mc.start c.rs)->Mc.CU p H d->(∀b∈A.all,H b=none)->Q .non d
def Rr(T:Tx P w base K mg a):CF P w K mg base IW 4 a.ċ a.ă ["self","case","keys","casting","broken"] (Va a):=by refine T.Machine.fn.ok tL (by fin2) (λba A outer s H vs Q E hr h=>?_);revert vs;refine Z6 λp pc dx c xs hp hc ar OC aW aR q=>?_;have a2:=OC.Ĕ;have I0:IA a H p (List.replicate HV.length none):=⟨dx,[],hp,FS.nil (by lk)⟩;refine⟨_,(AH (FC (BG T.Ġ (vR T) hr U (AR 1 (AZ 2)))) (AH (sM T 0 (pv 0) (BG T.İ (xl T) hr U (AR 1 (AZ 4)))) (AH (sM T 1 (pv 0) (FQ (X0 K U) U T.ť UI (AZ 1))) (AH (sM T 2 (pv 0) (pv 2)) (AH (sM T 3 (pv 0) AJ) (AH (sM T 4 (pv 0) (pv 3)) (AH (sM T 5 (pv 0) (CO AI)) (AH (sM T 6 (pv 0) (CO AI)) (AH (sM T 7 (pv 0) AJ) (AH (sM T 8 (pv 0) (CO AI)) (AH (sM T 9 (pv 0) (CO AI)) (AH (sM T 10 (pv 0) AJ) (BV (sM T 11 (pv 0) AJ)))))))))))))),?_⟩;walk;refine JH pc _ c.rs (IR U ⟨xs,AC.of hc,ar⟩ OC.short aW OC.ends (λH1 B=>?_));walk;refine JH pc xs c.rs (IR U (B _ _ hc) (EO ar B) (by lia) aR (λD ls H2 hD aD y aI a0 ū=>?_));have I2:=I0.same (B.trans aD);walk;refine λH3 I3 k3=>?_;have o3:=(Mc.CU.of_same (p:=p) (B.trans aD)).trans (Mc.CU.À k3);walk;refine BY pc xs U (.inl (AC.of (o3 _ _ (Tv I0 hc) hc))) (λe4 aa=>?_);have aw:=BM aa (.lst xs);have I:upd H3 e4 (.lst xs) e4=some (.lst xs):=AM;have I4:=I3.same aw;generalize upd H3 e4 (.lst xs)=H4 at aw I I4⊢;walk;refine λH5 I5 k5=>?_;have o5:=(Mc.CU.of_same (p:=p) aw).trans (Mc.CU.À k5);walk;refine λH6 I6 k6=>?_;walk;refine λH7 I7 k7=>?_;walk;refine λH8 I8 k8=>?_;have o8:=((Mc.CU.À k6).trans (Mc.CU.À k7)).trans (Mc.CU.À k8);walk;refine λe9 G=>?_;have az:=BM G (.lst []);have ae:upd H8 e9 (.lst []) e9=some (.lst []):=AM;have I9:=I8.same az;generalize upd H8 e9 (.lst [])=H9 at az ae I9⊢;walk;refine λaH au ab=>?_;have L:=(Mc.CU.of_same (p:=p) az).trans (Mc.CU.À ab);walk;refine λai r=>?_;have ac:=BM r (.lst []);have C:upd aH ai (.lst []) ai=some (.lst []):=AM;have aY:=au.same ac;generalize upd aH ai (.lst [])=a3 at ac C aY⊢;walk;refine λa8 a5 aj=>?_;walk;refine λaO ax ah=>?_;have v:=((Mc.CU.of_same (p:=p) ac).trans (Mc.CU.À aj)).trans (Mc.CU.À ah);walk;refine λag k=>?_;have Y:=BM k (.lst []);have Z:upd aO ag (.lst []) ag=some (.lst []):=AM;have aZ:=ax.same Y;generalize upd aO ag (.lst [])=a7 at Y Z aZ⊢;walk;refine λaC ap av=>?_;have O:=(Mc.CU.of_same (p:=p) Y).trans (Mc.CU.À av);walk;refine λaf j=>?_;have X:=BM j (.lst []);have al:upd aC af (.lst []) af=some (.lst []):=AM;have aX:=ap.same X;generalize upd aC af (.lst [])=a6 at X al aX⊢;walk;refine λa' bb aN=>?_;walk;refine λa4 a9 aK=>?_;walk;refine λaV ay aM=>?_;have aE:=(((Mc.CU.of_same (p:=p) X).trans (Mc.CU.À aN)).trans (Mc.CU.À aK)).trans (Mc.CU.À aM);have ay:=ay;have aJ:=(o3.trans o5).trans o8;have ak:=aJ.trans L;have ao:=ak.trans v;have an:=ao.trans O;have am:=an.trans aE;have aG:=aE;have aP:=O.trans aG;have aL:=v.trans aP;have f5:=o8.trans (L.trans aL);have f2:=(Mc.CU.À k3).trans (o5.trans f5);have J:=Tv I2 y;have aQ:=λz hz=>Rc (I0.same B) (ū z hz);have n4:=Rc I3 aa;have n9:=Rc I8 G;have aq:=Rc au r;have aF:=Rc ax k;have aS:=Rb (Mc.CU.keep I2 f2) aQ aI;have S:∀z∈ls,∃ws,H2 z=some (.lst ws):=λz hz=>(by obtain⟨i,hi,e⟩:=C7 hz;obtain⟨_,_,ws,hw,_⟩:=FD aI (A6 hi);rw[e]at hw;exact⟨ws,hw⟩);have d:∀{x e:Ϡ}{Hk:Hp}{ws:ϩ V},Hk x=some (.lst ws)->Hk e=none->x≠e:=λh1 h2 z=>(by rw[z,h2]at h1;cases h1);obtain⟨aT,a1⟩:=C2.mp a0;have g3:=Mc.CU.À k3;have g8:=(g3.trans o5).trans o8;have as:=g8.trans L;have aA:=as.trans v;have aB:=aA.trans O;have R:∀{e:Ϡ}{Hk:Hp},Mc.CU p H2 Hk->Hk e=none->e∉ls:=λo h hz=>(by obtain⟨ws,hw⟩:=S _ hz;rw[o _ _ (aQ _ hz) hw]at h;cases h);refine q ⟨D,e4,e9,ai,ag,af,ls⟩ aV ⟨ay,?_,⟨⟨xs,((Mc.CU.À k5).trans f5) _ _ n4 I,?_⟩,f2 _ _ J y,aS,⟨[],((Mc.CU.À ab).trans aL) _ _ n9 ae,.nil⟩,⟨[],(((Mc.CU.À aj).trans (Mc.CU.À ah)).trans aP) _ _ aq C,.nil⟩,⟨[],((Mc.CU.À av).trans aG) _ _ aF Z,.nil⟩,(((Mc.CU.À aN).trans (Mc.CU.À aK)).trans (Mc.CU.À aM)) _ _ (Rc ap j) al⟩⟩ am ?_;unfold Mc.DL.all;simp only[C2,Al,not_or];exact⟨⟨d (g3 _ _ J y) aa,d (g8 _ _ J y) G,d (as _ _ J y) r,d (aA _ _ J y) k,d (aB _ _ J y) j,aT⟩,⟨d (((Mc.CU.À k5).trans o8) _ _ n4 I) G,d ((((Mc.CU.À k5).trans o8).trans L) _ _ n4 I) r,d (((((Mc.CU.À k5).trans o8).trans L).trans v) _ _ n4 I) k,d ((((((Mc.CU.À k5).trans o8).trans L).trans v).trans O) _ _ n4 I) j,R g3 aa⟩,⟨d ((Mc.CU.À ab) _ _ n9 ae) r,d (((Mc.CU.À ab).trans v) _ _ n9 ae) k,d ((((Mc.CU.À ab).trans v).trans O) _ _ n9 ae) j,R g8 G⟩,⟨d (((Mc.CU.À aj).trans (Mc.CU.À ah)) _ _ aq C) k,d ((((Mc.CU.À aj).trans (Mc.CU.À ah)).trans O) _ _ aq C) j,R as r⟩,⟨d ((Mc.CU.À av) _ _ aF Z) j,R aA k⟩,R aB j,a1⟩;exact Qn (Mc.CU.keep I0 am) ar;unfold Mc.DL.all;intro b hb;simp only[Al]at hb;rcases hb with rfl|rfl|rfl|rfl|rfl|rfl|hb;exact B.free hD;exact o3.free I3 aa;exact aJ.free I8 G;exact ak.free au r;exact ao.free ax k;exact an.free ap j;exact B.free (ū b hb)
def xm:T.M 1 15 (ij a λc m H H' r=>H' r=some (.lst ((m.lanes.map λl=>((l.length:Nat):Int)).map V.int))):=by
 refine BX T.à.fn u5 ?_;k_ne;revert vs;refine JP λp A c m M O q=>?_;have I:=M.ins;have R:=B2 M.li.zK;have X:=O.ln;have Q:=O.cf.Ĕ;refine AU _ (AF (CW ["self","matrices"] [] 1 (EV K U (fM T 0 (pv 0))) (BD 1) EU (ln T (pv 1)))) ?_;walk;refine⟨⟨_,AC.of M.li.zB⟩,λD hD=>?_⟩;let Izz:zU:=λi o C k=>∃(G:Ϩ V),o=((m.lanes.take i).map λl=>((l.length:Nat):Int)).map V.int/\C=[some (.ref p),G]/\AA H k/\k D=some (.lst o)
 refine GN (a:=A.L) (xs:=A.ls.map V.ref) Izz
  ?_ ?_ ?_ ?_
 exact IS none U U (BM hD _) AM;refine λi o C k hi=>GK λ_ _ _ j _=>?_;exact j.seq (AC.of M.li.zB);(.refine λi y o C k E B=>GK λG e d j Z=>?_;subst e;subst d;rw[An]at E;refine AS (λS s d=>?_) (Az.mp E);subst d;obtain⟨l,Y,J,z,v⟩:=FD M.li.zK s;walk;refine BY S J U (.inl (AC.of (j _ _ z))) ?_;rw[B2 v];refine EI B Z ?_ ⟨_,?_,U,DF j hD,AM⟩;grind;rw[Am,Y,Ae,Ae];rfl);grind
def xn(K:ϡ):Sp:=λi H Q _=>∃(l:Ϡ) (x:ϥ) (d:ϩ BS),i=[.ref l,.str x]/\Cs.KZ K H l d/\d.length<=30/\(∀r∈d,∃c∈BQ,r.s=sg c)/\∀(r:Ϡ) (e:ϩ V) H',H r=none->AA H H'->H' r=some (.lst e)->Paired (Cs.FL H') e (CD d x)->Q (.ref r) H'
def xo:T.F 1 55 (xn K):=by
 refine BX T.ŕ.fn tr ?_;k_ne;obtain⟨l,x,rs,rfl,⟨xs,hS,hp⟩,aa,Q,q⟩:=h;refine AU _ (@AF _ _ _ _ (CW ["case","keys","sign","width","teeth","many"] [] 4 (EV K U (pv 0)) (ES K U (n:=4) U (BO (BD 2) (BO (BD 3) (BO (BD 4) (BO (BD 5) EL))))) EU (FP (AR 2 (AR 3 (AR 4 (AD (@EG K _ _ _ _ _ _ _ _ _ _ _ _ Bi PySem.F.slot_str_count PySem.F.type_str_count rm (pv 1) (AZ 2) U U U U U U) AI))))))) ?_;walk;intro D hD;let Izz:zU:=λi C B j=>∃(O S J X:Ϩ V),B=[some (.ref l),some (.str x),O,S,J,X]/\AA H j/\j D=some (.lst C)/\Paired (Cs.FL j) C (CD (rs.take i) x)
 refine GN (a:=l) (xs:=xs) Izz
  ?_ ?_ ?_ ?_
 exact EM none none none none U (BM hD _) AM .nil;exact λi C B j _ ⟨_,_,_,_,_,v,_⟩=>v.seq hS;(.refine λi y C B j hy Y Z=>?_;revert B;refine JP λO S J X v R c=>?_;obtain⟨r,I,t,rfl,ht⟩:=FD hp hy;refine AS (λd hd ed=>?_) (Q r (Af I));have E:=MH c;refine CM _ _ U (BP.of (v _ _ ht)) U ?_;x_go;x_go;x_go;x_go;walk;refine CM _ d U (by rw[<-ed]) (C5 U) (λG L=>?_);have k:=BM L (.tup (FU ⟨r.s,r.w,r.t,(JY x r.s:Int)⟩));have p:upd j G (.tup (FU ⟨r.s,r.w,r.t,(JY x r.s:Int)⟩)) G=some (.tup (FU ⟨r.s,r.w,r.t,(JY x r.s:Int)⟩)):=AM;have en:x.cps.toList.count d=JY x r.s:=(by rw[ed];rfl);rw[en];show Pu _ _ _ _ _ _ (upd j G (.tup (FU ⟨r.s,r.w,r.t,(JY x r.s:Int)⟩)));generalize upd j G (.tup (FU ⟨r.s,r.w,r.t,(JY x r.s:Int)⟩))=H3 at k p⊢;have o:=k _ _ R;unfold CD at E;rw[A3,Ao]at E;refine EI Y o (by lia) ⟨_,_,_,_,U,DF (v.trans k) hD,AM,?_⟩;unfold CD;rw[Am,I,Ae];exact Bz (RS (EO c k) o (λz e=>by cases e)) ⟨G,U,by rw[BJ (HB p o (λe=>by cases e))];exact p⟩);refine λC B j Z=>?_;revert B;refine JP λO S J X v R c=>?_;rw[MH hp,Ai (A9 _)]at c;exact q D C j hD v R c
def xp(a:Ad):Sp:=λe H Q _=>∃(l p:Ϡ) (A:Mc.DL) (c:Cf) (m:Ms) (d:ϩ V),e=[.ref l,.ref p]/\MA a c H p A m/\Mc.Ok c m/\H l=some (.lst d)/\Paired (Cs.FL H) d c.rs/\(∀r∈c.rs,0<=r.n/\r.n<=100000)/\∀(r:Ϡ) H',H r=none->AA H H'->H' r=some (.lst ((GU c.rs m.lanes).map V.int))->Q (.ref r) H'
def xq:T.F 2 56 (xp a):=by
 refine BX T.ĳ.fn tD ?_;k_ne;revert vs;refine Z7 λl p A c m xs M O hl hp hn q=>?_;have s:=O.ln;have ae:=O.cf.Ĕ;have I:=M.ins;refine AU _ (AF (CW ["free","machine","channel","lying"] [] 2 (dr K U U T.b_zip (AR 0 (AD (FM (K:=K) U T.Machine.cl T.à (xm T) hr u6 (pv 1)) AI))) (ES K U (n:=2) U (BO (BD 2) (BO (BD 3) EL))) EU (AX LU (BZ (JU K U) (pv 2) AJ (λ_ _=>U)) (pv 3)))) ?_;walk;refine EM p A c m U M O (λr H1 af j G=>?_);have Ĝ:=j _ _ hl;have J:=EO hp j;have ag:=eY (rs:=c.rs) (ls:=m.lanes) s;have e:(m.lanes.map λl=>((l.length:Nat):Int)).length=m.lanes.length:=A3 _;refine CM l r U ⟨_,AC.of Ĝ⟩ ⟨_,AC.of G⟩ (λD hD=>?_);have S:=j.free hD;refine dq (a:=l) (b:=r) (xs:=xs) (ys:=(m.lanes.map λl=>((l.length:Nat):Int)).map V.int) (by rw[A3,e,s,MH hp];exact A9 _) (λi B H v=>∃(Y R:Ϩ V),B=((GU c.rs m.lanes).take i).map V.int/\H=[some (.ref l),some (.ref p),Y,R]/\AA H1 v/\v D=some (.lst B))
  ?_ ?_ ?_ ?_
 exact CM none none U U (BM hD _) AM;refine λi B H v Z=>IK λ_ _ _ _ E _=>?_;exact⟨E.seq (AC.of Ĝ),E.seq (AC.of G)⟩;(.rintro i x y t B H v hx hy Z ⟨Y,R,rfl,rfl,E,hh⟩ ht;obtain⟨r0,k,t0,rfl,ab⟩:=FD J hx;rw[An,An]at hy;refine AS (λy0 ac d=>?_) (Az.mp hy);subst d;refine AS (λl0 Q d=>?_) (Az.mp ac);subst d;have ah:=hn r0 (Af k);rw[A3,e]at Z;x_fa H7 o aa;have L:=o _ _ (E _ _ ab);refine CM _ _ U (BP.of aa) U ?_;x_go;x_go;(try refine And.intro U ?_);refine AU _ U ?_;refine DH t0 _ _ _ U U (BP.of L) U ?_;walk;refine EI (by rw[A3,e];exact Z) (o _ _ hh) (by rw[A3,Ao];lia) ⟨_,_,?_,U,DF (E.trans o) hD,AM⟩;rw[Am,Mc.ro k Q,Ae];rfl);refine λB H v=>IK λY R d C X z=>?_;subst d;subst C;rw[A3,e,s,Ai (by lia)]at z;exact q D v S (j.trans X) z
def ip(n):(List.replicate n [V.int 0]).flatten=((NG n).map λx=>x.1).map V.int/\(List.replicate n [V.int 0]).flatten=((NG n).map λx=>x.2).map V.int:=by unfold NG;induction n with|zero=>exact⟨U,U⟩|succ n c =>grind
abbrev NA(a:Ad)(c:Cf)(H0 H:Hp)(p n q f:Ϡ)(A:Mc.DL)(m:Ms)(fs:ϩ V)(ps:Ϙ):Prop:=Mc.IE a.Î HV c H0 H p n q f A m fs ps
def xr(K:ϡ):Sp:=λi H Q _=>∃(l:Ϡ) (x:ϥ) (z:Int) (e:ϩ V) (d:ϩ BS),i=[.ref l,.str x,.int z]/\H l=some (.lst e)/\Paired (Cs.FL H) e d/\d.length<=30/\(∀r∈d,∃c∈BQ,r.s=sg c)/\Mc.Ok ⟨CD d x,x,z⟩ (Mc.start (CD d x))/\GS (CD d x) false x.cps.toList=true/\(∀r∈CD d x,0<=r.n/\r.n<=1000) /\∀(t n q:Ϡ) (qs:Ϙ) H',H t=none->H n=none->H q=none->n≠q->AA H H'->H' t=some (.tup [.ref n,.ref q])->H' n=some (.lst ((qs.map λx=>x.1).map V.int))->H' q=some (.lst ((qs.map λx=>x.2).map V.int))->Mc.Pk ⟨CD d x,x,z⟩ (Mc.start (CD d x)) (NG d.length) qs->Q (.ref t) H'
def xt:T.F 6 57 (xr K):=by
 refine BX T.ú.fn Rl ?_;k_ne;revert vs;refine VZ λl x z xs R hl hp a1 aZ OS az hn q=>?_;have aC:=MH hp;have a0:(CD R x).length=R.length:=A3 _;refine⟨_,(AH (AL 3 Rl.nd (BG T.ŕ (xo T) hr U (AR 0 (AZ 1)))) (AH (AL 4 Rl.nd (R5 T.Machine (Rr T) hr U (AR 3 (AR 1 (AZ 2))))) (AH (AL 5 Rl.nd (AX SX (CO (AD AJ AI)) (ln T (pv 0)))) (AH (AL 6 Rl.nd (AX SX (CO (AD AJ AI)) (ln T (pv 0)))) (AH (Pb B6 (FK (FM (K:=K) U T.Machine.cl T.Ý (VH T) hr Vy (pv 4))) (BV (GZ B6 U (RP K U U T.Ù (AD (BG T.ĳ (xq T) hr U (AR 3 (AZ 4))) AI)) (ES K U (n:=2) U (BO (AQ 7 Rl.nd) (BO (AQ 8 Rl.nd) EL))) (BV (CC (CA Pf (pv 8) (BZ (DE K U) (pv 5) (pv 7) (λ_ _=>U)) (BL _)) (AH (IU (pv 8) (Uv (pv 5) (pv 7) UC)) (BV (IU (FM (K:=K) U T.Machine.cl T.đ (xi T) hr tY (pv 4)) (Uv (pv 6) (pv 7) UC)))) CJ))))) (AF (FP (AR 5 (AZ 6))))))))),?_⟩;walk;refine DZ l x R U ⟨xs,AC.of hl,hp⟩ a1 aZ (λf fs H1 a9 S X an=>?_);generalize bf:CD R x=s at OS az hn an a0 q;walk;refine λp0 a8 ae L ba=>⟨p0,f,a8,⟨s,x,z⟩,fs,U,AM,?_,?_,OS.cf,az,hn,λA0 H7 M0 ah fr0=>⟨U,?_⟩⟩;rw[BJ (DR X ae),BJ (DR X L)];exact X;exact EO an λb u hb=>by rw[BJ (DR hb ae),BJ (DR hb L)];exact hb
 have E:=Rf ae L ah;have Z:∀b∈A0.all,H1 b=none:=λb hb=>RZ ae L (fr0 b hb);have as:=E _ _ (S _ _ hl);walk;refine λe1 bc=>?_;x_fa H8 Q aT;walk;refine BY l _ U (.inl (AC.of (Q _ _ as))) ?_;rw[aC];refine JH e1 _ _ (DY U U aT (by lia) (by lia) (DG (by show 1*_<=_;lia)) (λJ aw=>?_));have aK:((R.length:Int)).toNat=R.length:=by lia
 rw[aK,(ip R.length).1];x_fa H9 aQ au;have p:=Q.trans aQ;walk;refine λe2 bg=>?_;x_fa be d ak;walk;refine BY l _ U (.inl (AC.of ((p.trans d) _ _ as))) ?_;rw[aC];refine JH e2 _ _ (DY U U ak (by lia) (by lia) (DG (by show 1*_<=_;lia)) (λqA af=>?_));rw[aK,(ip R.length).2];x_fa aW ac al;have j:=p.trans (d.trans ac);have ar:=E _ _ X;have N0:NA a ⟨s,x,z⟩ H aW p0 J qA f A0 (Mc.start s) fs (NG R.length):=by refine⟨M0.same j,S.trans (E.trans j),λb hb=>S.free (Z b hb),S.free ae,S.free (E.free (Q.free aw)),S.free (E.free (p.free (d.free af))),a9,?_,?_,?_,?_,?_,?_,(d.trans ac) _ _ au,al,j _ _ ar,EO an (E.trans j)⟩;exact DR (d _ _ au) af;exact(DR (Q _ _ ar) aw).symm;exact(DR ((p.trans d) _ _ ar) af).symm;exact(M0.same Q).new aw;exact(M0.same (p.trans d)).new af;exact λhb=>by rw[Z f hb]at X;cases X
 clear j p ac al d ak aQ au Q aT as Z E ah M0 fr0;let Izz:zT:=λn σ aF=>∃(A1:Mc.DL) (m1:Ms) (B:Ϙ) (v7 v8:Ϩ V),σ=[some (.ref l),some (.str x),some (.int z),some (.ref f),some (.ref p0),some (.ref J),some (.ref qA),v7,v8]/\NA a ⟨s,x,z⟩ H aF p0 J qA f A1 m1 fs B/\Mc.Ok ⟨s,x,z⟩ m1/\B.length=R.length/\(∀qs,Mc.Pk ⟨s,x,z⟩ m1 B qs->Mc.Pk ⟨s,x,z⟩ (Mc.start s) (NG R.length) qs)/\CT ⟨s,x,z⟩ m1=n;refine⟨Izz,⟨_,A0,Mc.start s,NG R.length,none,none,U,N0,OS,By,λqs h=>h,U⟩,?_⟩;refine λn σ aF a7=>?_;revert σ;refine Z4 λA1 m1 B v7 v8 N1 O1 a4 aR aq=>?_;subst aq;have I1:=N1.Ę.ins;refine⟨_,U,_,_,U,I1,p0,A1,_,m1,U,N1.Ę,O1,λhs a' aG=>?_,λhs A2 a' M2 a5=>?_⟩;(.refine AU _ U (AK ?_);have v:=N1.same aG;walk;exact λt ht=>q t J qA B _ (v.sm.free ht) v.nn v.qn v.nq (EY v.sm ht) AM (BM ht _ _ _ v.hn) (BM ht _ _ _ v.hq) (aR B (.stop hs)))
 .refine AU _ U (BB ?_);have v:=N1.step a5 M2;have O2:=O1.tick;have ay:=R8 O1 hs;have hgo:=λqs h=>aR qs (.go hs h);have aD:=eY (rs:=s) (ls:=(Mc.tick ⟨s,x,z⟩ m1).lanes) O2.ln;generalize Mc.tick ⟨s,x,z⟩ m1=m2 at v O2 ay hgo aD;generalize a2:GU s m2.lanes=G at hgo aD;let Izz:zS:=λaS H'=>∃(v7 v8:Ϩ V),aS=[some (.ref l),some (.str x),some (.int z),some (.ref f),some (.ref p0),some (.ref J),some (.ref qA),v7,v8]/\NA a ⟨s,x,z⟩ H H' p0 J qA f A2 m2 fs (LL m2.done G B);refine AU Izz ?_ ?_;refine λaS H'=>EX λw7 w8 ax N3=>?_;subst ax;exact⟨_,ay,A2,m2,_,w7,w8,U,N3,O2,by rw[XJ];exact a4,hgo,U⟩;have I2:=v.Ę.ins;walk;refine DC f p0 A2 ⟨s,x,z⟩ m2 (MW fs (DY U v.Ę O2 v.hf v.rows (λr hr=>by have:=hn r hr;lia) (λr aX ag aE I=>?_)));have I:aX r=some (.lst (G.map V.int)):=(by rw[<-a2];exact I);have aV:r≠J:=λe=>(by rw[e,v.hn]at ag;cases ag);have a3:r≠qA:=λe=>(by rw[e,v.hq]at ag;cases ag);refine HA r U ⟨_,AC.of I⟩ ?_;let Izz:zT:=λi σ C=>∃(v7 v8:Ϩ V),σ=[some (.ref l),some (.str x),some (.int z),some (.ref f),some (.ref p0),some (.ref J),some (.ref qA),v7,v8]/\NA a ⟨s,x,z⟩ H C p0 J qA f A2 m2 fs (LL m2.done (G.take i) B)/\C r=some (.lst (G.map V.int))
  refine SZ (a:=r) (xs:=G.map V.int) Izz
   ⟨_,_,U,by rw[List.take_zero,Mc.XM];exact v.same aE,I⟩ (by rintro i σ C _ ⟨_,_,_,_,h⟩;exact AC.of h) ?_ ?_
  (.rintro i y tp σ C hy ⟨w7,w8,rfl,N5,aI⟩ a6;refine AS (λo aO aH=>?_) (Ox hy);subst aO;have bh:i<G.length:=(Ap.mp aH).1;have aP:(G.take i).length=i:=(by rw[Ao];lia);have aJ:=XJ m2.done (G.take i) B;obtain⟨Y,aM⟩:∃Y,B[i]?=some Y:=⟨_,A6 (by lia)⟩;have av:(LL m2.done (G.take i) B)[i]?=some Y:=(by rw[Mc.rp _ _ _ (by lia)];exact aM);have aa:LL m2.done (G.take (i+1)) B=(LL m2.done (G.take i) B).set i (OG m2.done o Y):=(by rw[Am,aH];have:=Mc.rq m2.done (G.take i) o B (x:=Y) (by rw[aP];exact aM);rw[aP]at this;exact this);have ao:=BM a6 (.tup [.int i,.int o]);have aY:upd C tp (.tup [.int i,.int o]) tp=some (.tup [.int i,.int o]):=AM;have N6:=N5.same ao;have ap:=ao _ _ aI;generalize upd C tp (.tup [.int i,.int o])=am at ao aY N6 ap⊢;generalize LL m2.done (G.take i) B=O at av aa aJ N6;walk;x_go;x_go;have aA:i<O.length:=(by lia);have aj:DP ((O.map λx=>x.1).map V.int) (i:Int)=some (.int Y.1):=FR (by rw[An,An,av];rfl);have aL:=N6.hn;have bj:=N6.hq;walk;(try refine⟨J,_,_,_,U,U,AC.of aL,aj,?_⟩);clear aj;walk;refine CG (λc=>?_) (λc=>?_);(.have c:Y.1<o:=Ax c;have e1:OG m2.done o Y=(o,m2.done):=B1 c;rw[e1]at aa;have en:((O.map λx=>x.1).map V.int).set i (V.int o)=((O.set i (o,m2.done)).map λx=>x.1).map V.int:=(by rw[Gz,Gz]);have eq:((O.map λx=>x.2).map V.int).set i (V.int m2.done)=((O.set i (o,m2.done)).map λx=>x.2).map V.int:=(by rw[Gz,Gz]);walk;refine DH J _ _ i U U aL (Yo (by rw[A3,A3];exact aA)) ?_;rw[en];obtain⟨M7,_,aN,_,_⟩:=N6.setN (vs:=((O.set i (o,m2.done)).map λx=>x.1).map V.int);have aB:upd am J (.lst (((O.set i (o,m2.done)).map λx=>x.1).map V.int)) r=some (.lst (G.map V.int)):=(by rw[BJ aV];exact ap);have ai:=λ{H8:Hp}(s8:AA (upd am J (.lst (((O.set i (o,m2.done)).map λx=>x.1).map V.int))) H8)=>N6.set (qs:=O.set i (o,m2.done)) s8;generalize upd am J (.lst (((O.set i (o,m2.done)).map λx=>x.1).map V.int))=bd at M7 aN aB ai⊢;have I7:=M7.ins;walk;refine EM p0 A2 _ m2 U M7 O2 (λbb ab=>?_);walk;refine DH qA _ _ i U U (ab _ _ aN) (Yo (by rw[A3,A3];exact aA)) ?_;rw[eq];refine BY _ _ U (by rw[aa];exact ai ab) (by rw[BJ a3];exact ab _ _ aB));have c:¬Y.1<o:=λh=>c (Ab h);have e1:OG m2.done o Y=Y:=Av c;have e2:O.set i Y=O:=(by apply Kz;intro k;rw[F1];split;(.rename_i hk;rw[<-hk,av]);rfl);rw[e1,e2]at aa;walk;exact BY _ _ U (by rw[aa];exact N6) ap);refine λσ C a7=>?_;revert σ;refine Rz λw7 w8 N5 aI=>?_;rw[A3,Ai (A9 _)]at N5;exact Nn w7 w8 U N5
def xu(K:ϡ)(w:Bool):Sp:=λi H Q _=>∃(l:Ϡ) (x:ϥ) (z:Int) (e:ϩ V) (d:ϩ BS),i=[.ref l,.str x,.int z]/\H l=some (.lst e)/\Paired (Cs.FL H) e d/\d.length<=30/\(∀r∈d,∃c∈BQ,r.s=sg c)/\Mc.Ok ⟨CD d x,x,z⟩ (Mc.start (CD d x))/\GS (CD d x) false x.cps.toList=true/\(∀r∈CD d x,0<=r.n/\r.n<=1000) /\∀(n:Ϡ) (qs:Ϙ) H',H n=none->AA H H'->H' n=some (.lst ((qs.map λx=>if w then x.1 else x.2).map V.int))->Mc.Pk ⟨CD d x,x,z⟩ (Mc.start (CD d x)) (NG d.length) qs->Q (.ref n) H'
def iq:T.F 7 58 (xu K true):=by refine BX T.ś.fn Yb ?_;k_ne;revert vs;refine VZ λl x z B s y v k i G o C q=>?_;refine⟨_,(AH (IU (BG T.ú (xt T) hr U (AR 0 (AR 1 (AZ 2)))) (ES K U (n:=2) U (BO (AQ 3 Yb.nd) (BO (AQ 4 Yb.nd) EL)))) (AF (pv 3))),?_⟩;walk;refine DC l x z B s (DY U y v k i G (IQ o C (λt n L qs I J p r H c d e E j=>⟨_,_,U,BP.of d,U,?_⟩)));x_go;x_go;(try refine And.intro U ?_);walk;exact q n qs I p c e j
theorem Sh(x):∀ws:ώ,MF (.str x) (ws.map V.str)=decide (x∈ws)|[]=>rfl|y::ws=>by have c:=Sh x ws;unfold MF at c⊢;rw[Bp,Eu,c];have e:Ow (V.str y) (V.str x)=decide (x=y):=(by show(y==x)=_;rw[Di,C3,D3];exact eq_comm);rw[e,<-Bool.decide_or,C4];exact Al.symm
theorem Si:∀ws:ώ,(ws.map V.str).all O6=true|[]=>rfl|y::ws=>by rw[Bp,Ja,Si ws];rfl
noncomputable def JN:ώ:=["lines","gaps","keys","need"]
noncomputable def ON:ώ:=["start","run","slugs","state","waited"]
noncomputable def KA (ws:ώ):Bool:=!decide (("":ϥ)∈ws)&&match ws with
 | []=>false
 | x::_=>if x="copy" then decide (2<=ws.length)else if x="tick" then decide (ws.length=2)else decide (ws.length=1)&&(decide (x∈JN)||decide (x∈ON))
def xv:Sp:=λd H Q _=>∃(p:Ϡ) (x:ϥ) (c:ώ),d=[.ref p]/\H p=some (.lst ((x::c).map V.str))/\c.length<=2000/\Q (.bl (KA (x::c))) H
def xw:T.F 1 59 xv:=by
 refine BX T.Ŭ.fn tE ?_;k_ne;revert vs;refine RA λp x c e I q=>?_;have C:∀y:ϥ,decide (V.str x=V.str y)=decide (x=y):=λy=>FI
 unfold KA at q;refine⟨_,(AH (CC (CA (UN K U) BN (pv 0) (by with_unfolding_all rfl)) (AF JI) CJ)
  (AH (CC (CA EE (BZ (DE K U) (pv 0) AJ (λ_ _=>U)) BN (BL _)) (AF (FH Zr (ln T (pv 0)) AJ (BL _))) CJ)
  (AH (CC (CA EE (BZ (DE K U) (pv 0) AJ (λ_ _=>U)) BN (BL _)) (AF (FH EE (ln T (pv 0)) AJ (BL _))) CJ)
  (AF (GY (FH EE (ln T (pv 0)) AJ (BL _)) (KG (jT (FH (UN K U) (BZ (DE K U) (pv 0) AJ (λ_ _=>U)) (JR (v:=.ref a.î) U T.Ĉ U) (by with_unfolding_all rfl)) (KG (FH (UN K U) (BZ (DE K U) (pv 0) AJ (λ_ _=>U)) (JR (v:=.ref a.ì) U T.Ċ U) (by with_unfolding_all rfl)))))))))),?_⟩
 walk;refine MY p _ U (.inl (AC.of e)) U (Si _) ?_;rw[show ∀b:Bool,(if false=true then !b else b)=b from λ_=>U,Sh];have G:DP ((x::c).map V.str) 0=some (V.str x):=FR (j:=0) U;have d:((((x::c).map V.str).length:Nat):Int)=(c.length:Int)+1:=by rw[A3];rfl
 refine AU _ U ?_;by_cases B:("":ϥ)∈x::c;rw[Ab B]at q⊢;exact BB q;rw[Aj B]at q⊢;refine AK ?_;have q:Q (.bl (if x="copy" then decide (2<=(x::c).length)else if x="tick" then decide ((x::c).length=2)else decide ((x::c).length=1)&&(decide (x∈JN)||decide (x∈ON)))) H:=q;have E:∀k:Nat,decide (V.int ((c.length:Int)+1)=V.int (k:Int))=decide ((x::c).length=k):=λk=>C4.mpr (by rw[V.int.injEq,Bb];lia);walk;rw[C];refine CG (λr=>?_) (λr=>?_);(.rw[B1 (Ax r)]at q;walk;refine BY p _ U (.inl (AC.of e)) ?_;rw[d];walk;show Q (.bl (decide ((2:Int)<=(c.length:Int)+1))) H;rw[show decide ((2:Int)<=(c.length:Int)+1)=decide (2<=(x::c).length)from C4.mpr (by rw[Bb];lia)];exact q);rw[Av (λz=>r (Ab z))]at q;walk;rw[C];refine CG (λi=>?_) (λi=>?_);(.rw[B1 (Ax i)]at q;walk;refine BY p _ U (.inl (AC.of e)) ?_;rw[d];walk;show Q (.bl (decide (V.int ((c.length:Int)+1)=V.int ((2:Nat):Int)))) H;rw[E];exact q);rw[Av (λz=>i (Ab z))]at q;walk;refine BY p _ U (.inl (AC.of e)) ?_;rw[d];walk;rw[show decide (V.int ((c.length:Int)+1)=V.int 1)=decide ((x::c).length=1)from E 1];refine CG (λs=>?_) (λs=>?_);(.rw[s,Bool.true_and]at q;walk;refine MY _ _ U (.inr (T.ÿ H)) U (Si JN) ?_;rw[show ∀b:Bool,(if false=true then !b else b)=b from λ_=>U,show MF (.str x) [.str ("lines":ϥ),.str ("gaps":ϥ),.str ("keys":ϥ),.str ("need":ϥ)]=decide (x∈JN)from Sh x JN];refine AU _ U (CG (λo=>?_) (λo=>?_));rw[o]at q;exact q;rw[J5.mpr o,Bool.false_or]at q;walk;refine MY _ _ U (.inr (T.Ā H)) U (Si ON) ?_;rw[show ∀b:Bool,(if false=true then !b else b)=b from λ_=>U,show MF (.str x) [.str ("start":ϥ),.str ("run":ϥ),.str ("slugs":ϥ),.str ("state":ϥ),.str ("waited":ϥ)]=decide (x∈ON)from Sh x ON];exact q);rw[J5.mpr s,Bool.false_and]at q;exact q
def xx:Sp:=λd H Q _=>∃x:ϥ,d=[.str x]/\AW x/\IF x=true/\∀c,AA H c->Q (.int (IG x)) c
def xy:T.F 2 60 xx:=by refine BX T.Ļ.fn tF ?_;k_ne;revert vs;refine KN λx i d q=>?_;refine⟨_,(AH (CC (KS (FK (BG T.õ (VC T) hr U (AZ 0)))) (BV LI) CJ) (AF (FQ S1 U T.Ğ Pp (AZ 0)))),?_⟩;walk;intro e c;rw[d];refine AU _ U (AK ?_);walk;exact CM x _ U (fb d) (by have:=TB d;rw[<-show x.cps.toList.length=x.length from Au];lia) (q _ c)
noncomputable def KC (g:Int×Int):ϥ:=if g.2=1 then Str.ofString (toString g.1)else Str.ofString (toString g.1)++"/"++Str.ofString (toString g.2)
def xA:Sp:=λc H Q _=>∃(t:Ϡ) (g:Int×Int),c=[.ref t]/\H t=some (.tup [.int g.1,.int g.2])/\g.1.natAbs<=10^40/\g.2.natAbs<=10^40/\Q (.str (KC g)) H
def xB:T.F 1 64 xA:=by refine BX T.ő.fn Yd ?_;k_ne;obtain⟨t,⟨u,v⟩,rfl,i,c,d,q⟩:=h;have i:=i;have c:=c;have d:=d;unfold KC at q;have q:=q;refine⟨_,(AH (IU (pv 0) (ES K U (n:=2) U (BO (AQ 1 Yd.nd) (BO (AQ 2 Yd.nd) EL)))) (AF (Pa (CA EE (pv 2) AJ (BL _)) (sx (Y1 (pv 1))) (sy (Y1 (pv 1)) BN (Y1 (pv 2)))))),?_⟩;walk;(try refine⟨_,_,U,BP.of i,U,?_⟩);x_go;x_go;walk;rw[show decide (V.int v=V.int 1)=decide (v=1)from C4.mpr (by rw[V.int.injEq])];refine CG (λe=>?_) (λe=>?_);rw[B1 (Ax e)]at q;exact⟨_,U,u,U,c,λ_=>q⟩;rw[Av (λz=>e (Ab z))]at q;exact⟨_,U,u,U,c,λj=>⟨_,U,j,"/",U,by lk,_,U,v,U,d,λk=>⟨_,U,k,q⟩⟩⟩
noncomputable def OO (c:Cf) (m:Ms):ϥ:=if R7 c m=true then "rest" else if R6 c m=true then "stuck" else "going"
def xC(a:Ad):Sp:=λe H Q _=>∃(p:Ϡ) (A:Mc.DL) (c:Cf) (m:Ms),e=[.ref p]/\MA a c H p A m/\Mc.Ok c m/\∀d,AA H d->Q (.str (OO c m)) d
def xD:T.F 5 65 (xC a):=by refine BX T.zr.fn tG ?_;k_ne;revert vs;refine JP λp B c m M O q=>?_;unfold OO at q;have r:=M.ins;refine⟨_,(AH (CC (FK (FM (K:=K) U T.Machine.cl T.Õ (YF T) hr Yi (pv 0))) (AF BN) CJ) (AF (Pa (FK (FM (K:=K) U T.Machine.cl T.ã (YE T) hr Yh (pv 0))) BN BN))),?_⟩;walk;refine EM p B c m U M O (λo d=>?_);have M1:=M.same d;have s:=M1.ins;refine AU _ U ?_;cases i:R7 c m with|true =>rw[i]at q;exact BB (q o d)|false =>rw[i]at q;refine AK ?_;walk;refine EM p B c m U M1 O (λk j=>⟨_,U,?_⟩);cases e:R6 c m with|true =>rw[e]at q;exact BB (q k (d.trans j))|false =>rw[e]at q;exact AK (q k (d.trans j))
def xE(a:Ad):Sp:=λi H Q _=>∃(p:Ϡ) (A:Mc.DL) (c:Cf) (m:Ms) (n:Nat),i=[.ref p,.int (n:Int)]/\MA a c H p A m/\Mc.Ok c m/\∀e d,MA a c d p e (CZ c n m)->Mc.AY p A H e d->Q (.int ((CZ c n m).done-m.done)) d
def xF:T.F 5 66 (xE a):=by refine BX T.Ľ.fn Ye ?_;k_ne;revert vs;refine VY λp B c m n M O q=>?_;refine⟨_,(AH (AL 2 Ye.nd AJ) (AH (Pb B6 (PW.pt (P9 (CA NO (pv 2) (pv 1) (BL _)) (P7 (FK (FM (K:=K) U T.Machine.cl T.Ý (VH T) hr Vy (pv 0)))))) (BV (AL 2 Ye.nd (AX DT (pv 2) AJ)))) (AF (pv 2)))),?_⟩;walk;let Izz:zT:=λj G y=>∃r m1 k,G=[some (.ref p),some (.int (n:Int)),some (.int (k:Nat))]/\MA a c y p r m1/\Mc.Ok c m1/\Mc.AY p B H r y/\CZ c (n-k) m1=CZ c n m/\m1.done=m.done+(k:Int)/\k<=n/\j=n-k;refine AU Izz ⟨_,B,m,0,U,M,O,Mc.AY.of_same (AA.refl _),U,(Int.add_zero _).symm,B8 _,U⟩ ?_;refine λj G y S=>?_;revert G;refine Sm λr m1 k M1 J i o hd Q d=>?_;subst d;walk;by_cases z:k<n;(.rw[Ab (by lia)];refine BB ⟨_,U,_,_,U,M1.ins,p,r,c,m1,U,M1,J,λE I s=>?_,λE R I M2 C=>?_⟩;(.refine AU _ U (AK ?_);rw[PN E]at o;rw[<-o,hd,show m.done+(k:Int)-m.done=(k:Int) by lia]at q;walk;exact q r I (M1.same s) (i.trans (Mc.AY.of_same s)));refine AU _ U (BB ⟨λv L=>v=[some (.ref p),some (.int (n:Int)),some (.int ((k+1:Nat):Int))]/\L=I,?_,?_⟩);rintro v L ⟨rfl,rfl⟩;exact⟨n-(k+1),by lia,R,Mc.tick c m1,k+1,U,M2,J.tick,i.trans C,by rw[<-o,show n-k=(n-(k+1))+1 by lia,R9 E],by rw[XD,hd];lia,z,U⟩;walk;exact U);rw[Aj (by lia)];refine AK (AK ?_);have e:n-k=0:=(by lia);rw[e]at o;have o:m1=CZ c n m:=o;rw[<-o,hd,show m.done+(k:Int)-m.done=(k:Int) by lia]at q;walk;exact q r y M1 i
def xG(K:ϡ):Sp:=λe H Q _=>∃(l:Ϡ) (x:ϥ) (c:ϩ BS),e=[.ref l,.str x]/\Cs.KZ K H l c/\x.length<=1000/\∀d,AA H d->Q (.bl (UQ c x)) d
def xH:T.F 2 6 (xG K):=by
 refine BX T.zC.fn sI ?_;k_ne;revert vs;refine RA λl x C E I q=>?_;refine AU _ (AF (GY (FH My (pv 1) BN (BL _)) (KG (LX (Px K U U) U T.zH UH (AD (CW ["case","word","sign"] [] 1 (RR (pv 1)) (BD 2) EU (P6 (QC (BG T.Ö (Sd T) hr U (AR 0 (AZ 2)))))) AI))))) ?_;have G:x.cps.size<=1000:=I;z_run;rw[FI];unfold UQ at q;by_cases e:x="";rw[Ab e]at q⊢;exact q _ (AA.refl _)
 .rw[Aj e]at q⊢;z_run;intro D hD;let Izz:zU:=λi s B r=>∃(y:Ϩ V),s=((x.cps.toList.take i).map λc=>(CV C (sg c)).isSome).map V.bl/\B=[some (.ref l),some (.str x),y]/\AA H r/\r D=some (.lst s)
  refine T6 (x:=x) Izz
   ?_ ?_ ?_
  exact IS none U U (BM hD _) AM;(.refine λi c s B r J z=>GK λy j d p o=>?_;subst j;subst d;have v:x.cps.toList[i]?=some c:=(by simpa using J);z_run;refine Qc l (sg c) C U (E.same p) (λL k=>?_);z_run;refine EI z (k _ _ o) ?_ ⟨_,?_,U,DF (p.trans k) hD,AM⟩;grind;rw[Am,v,Ae,Ae,Cs.mZ];rfl);refine λs B r=>GK λy j d p o=>?_;subst j;subst d;rw[Ai (by simp)]at o;refine BY D _ U (AC.of o) ?_;rw[Cs.all_map];exact q _ p
structure xI(rs:ϩ BS)(ws:ώ):Prop where
 ne:ws≠[]
 Ĕ:ws.length<=100
 ok:∀x∈ws,x.length<=1000/\∀c∈x.cps.toList,(CV rs (sg c)).isSome=true
 b0:0<=IY rs ws
 b1:IY rs ws<=10000000
def Ru(H:Hp)(v:V)(g:Int×Int):Prop:=∃t,v=.ref t/\H t=some (.tup [.int g.1,.int g.2])
def YI(h:Paired (Ru H) xs c)(s:AA H d):Paired (Ru d) xs c:=Paired.Æ h λ_ _ ⟨t,e,z⟩=>⟨t,e,s _ _ z⟩
def xJ(h:Paired (Ru H) xs i)(d:H l=some ys)(j:∀z,ys≠.tup z):Paired (Ru (upd H l o)) xs i :=Paired.Æ h λx p ⟨t,e,c⟩=>⟨t,e,by rw[BJ (HB c d λz=>j _ z.symm)];exact c⟩
theorem VJ{j c:Type}{F:j->c->Prop}{b}:∀{bs} {xs},Paired F xs (bs++[b])->∃ys y,xs=ys++[y]/\Paired F ys bs/\F y b|[],_,.cons r .nil=>⟨[],_,U,.nil,r⟩|_::bs,_,.cons r t=>by obtain⟨ys,y,e,i,d⟩:=VJ (bs:=bs) t;exact BY (_::ys) y (by rw[e];rfl) (.cons r i) d
def xK(K:ϡ):Sp:=λs H Q _=>∃(l q g:Ϡ) (m k c j:Int) (i:ϩ BS) (o:ϩ V) (no:Ϡ) (e:ϩ ώ) (d:ώ),s=[.ref l,.ref q,.int m,.ref g]/\Cs.KZ K H l i/\H q=some (.lst o)/\Paired (Lns.ND no H) o (e++[d])/\e.length<=400/\BP K H g [.int k,.int c,.int j]/\Rp m k c j/\(∀x∈e++[d],xI i x)/\(∀x∈e,Ro m k j i x=0)/\(Qt m c i d\/Ro m k j i d=0) /\∀(r:Ϡ) (p:ϩ V) H',H r=none->AA H H'->H' r=some (.lst p)->Paired (Ru H') p (e.map (Nl i m)++[LC i m c d])->Q (.ref r) H'
def xM:T.F 6 61 (xK K):=by
 refine BX T.zI.fn gh ?_;k_ne;revert h;refine EK λl q g m lo=>EK λd hi rs zs no=>JG λaf y=>MV λJ hC hq hz av hG v=>FY λak ab I k=>?_;subst J;obtain⟨S,zl,rfl,ag,Y,rfl,_,an⟩:=VJ hz;have ai:DV (S++[V.ref Y]) none (some (-1))=S:=by have:=dw (id:V->V) S (V.ref Y);rwa [J6,J6]at this
 have GI:∀{H':Hp}{p0:Ϡ}{x:ώ},AA H H'->x∈af++[y]->H p0=some (.lst (x.map V.str))->JD K H' l p0 g m lo d hi rs x:=λ{H' p0 x} s hm hp =>let L:=ak x hm
  ⟨hC.same s,AC.of (s _ _ hp),Se s hG,L.ne,L.Ĕ,L.ok,v.lo0,Int.le_trans v.li v.ih,v.hi1,v.m0,v.m1,L.b0,L.b1⟩
 refine⟨_,(AH (Pt (i:=4) gh.nd U NM U (EV K U (Nw (NQ K U) (pv 1) Ph (LY (Nt Nv AJ)))) (DU.of (N':=["case","lines","measure","gaps","full","line"]) (ms:=[]) (k:=1) (by rfl)) (λ_ _ _ _ _=>(BD 5)) (λ_ _ _ _ _=>EU) (λ_ _ _ _ _=>(BG T.Ě (Yn T) hr U (AR 0 (AR 5 (AR 2 (AZ 3)))))))
  (AF (AX SW (pv 4) (CO (AD (BG T.ń (gM T) hr U (AR 0 (AD (BZ (DE K U) (pv 1) (Nt Nv AJ) (λ_ _=>U)) (AR 2 (AZ 3))))) AI))))),?_⟩
 z_run;refine BY q _ U (AC.of hq) (λpn aw=>?_);rw[ai];x_fa H1 ah aa;refine HA pn U ⟨_,AC.of aa⟩ (λD hD=>?_);let Izz:zU:=λi R O Q=>∃(v5:Ϩ V),O=[some (.ref l),some (.ref q),some (.int m),some (.ref g),none,v5]/\AA H1 Q/\Q D=some (.lst R)/\Paired (Ru Q) R ((af.take i).map (Nl rs m))
 refine GN (a:=pn) (xs:=S) Izz
  ?_ ?_ ?_ ?_
 exact IS none U (BM hD _) AM .nil;refine λi R O Q hi=>DN λv5 _ hs _=>?_;exact hs.seq (AC.of aa);(.refine λi x R O Q hx X aq=>?_;revert O;refine KN λv5 hs hh hp=>?_;obtain⟨x0,Z,p0,rfl,_,as⟩:=FD ag hx;have ae:=Af Z;have G:=B2 hp;rw[A3,Ao]at G;z_run;refine DC l p0 g m lo (LO d hi rs x0 (GC U (GI (ah.trans hs) (Ce _ ae) as) (ab x0 ae) (λt H3 ht c B=>?_)));have aj:=c _ _ hh;have ap:t≠D:=λe=>(by rw[e,hh]at ht;cases ht);refine EI X aj (by lia) ⟨_,U,DF (hs.trans c) hD,AM,?_⟩;rw[Am,Z,Ae];exact Bz (xJ (YI hp c) aj λz e=>by cases e) ⟨t,U,by rw[BJ ap];exact B⟩);refine λR O Q aq=>?_;revert O;refine KN λv5 al ao C=>?_;rw[dt ag,Ai (A9 _)]at C;have G:=B2 C;rw[A3]at G;have j:=ah.trans al;have ar:DP (S++[V.ref Y]) (-1)=some (V.ref Y):=Tg S _;z_run;refine DH q _ _ _ U U (AC.of (j _ _ hq)) ar ?_;z_run;refine DC l Y g m lo (LO d hi rs y (IR U (GI j (Bm _ (Ah.mpr U)) an) v.li v.ih I (λt H3 ht c B=>?_)));z_run;intro p4 au;x_fa H4 p am;z_run;refine NL D p4 _ _ U U ((c.trans p) _ _ ao) am (DG (by show _+1<=_;lia)) (λr E=>?_);have ac:=EY (o:=.lst (R++[.ref t])) (c.trans p) E;exact k r _ _ (j.free ((c.trans p).free E)) (j.trans ac) AM (Bz (YI C ac) ⟨t,U,BM E _ _ _ (p _ _ B)⟩)
def GJ(S:ϝ)(H:Hp)(v:V)(x:HW):Prop:=∃t p g,v=.ref t/\H t=some (.tup [.ref p,.ref g])/\S p/\H p=some (.lst (x.1.map V.str))/\H g=some (.tup [.int x.2.1,.int x.2.2])
def ir(h:Paired (GJ S H) xs ys)(s:AA H j):Paired (GJ S j) xs ys:=Paired.Æ h λ_ _ ⟨t,p,g,e,i,c,z3,d⟩=>⟨t,p,g,e,s _ _ i,c,s _ _ z3,s _ _ d⟩
theorem iu:∀{ts zs ys} {ls} {d},Paired (Vo H) ts (zs.zip ys)->Paired (λv l=>∃p,v=.ref p/\S p/\H p=some (.lst (l.map V.str))) zs ls->Paired (Ru H) ys d->Paired (GJ S H) ts (ls.zip d)
 |_,_,_,_,_,h,.nil,_=>by cases h;exact .nil|_,_,_,_,_,h,.cons _ _,.nil=>by cases h;exact .nil
 |_,_,_,_,_,h,.cons ⟨p,i,j,hp⟩ hz,.cons ⟨g,r,hg⟩ hy=>by cases h with|cons k o =>obtain⟨t,e,c⟩:=k;have c:H t=some (.tup [_,_]):=c;rw[i,r]at c;exact .cons ⟨t,p,g,e,c,j,hp,hg⟩ (iu o hz hy)
def Q3(m lo md c:Int)(ws:ώ):BF:=(m,[lo,md,c],ws)
def xN(K:ϡ)(s:Ϡ):Sp:=λv H Q E=>∃(l t g p:Ϡ) (m j c i:Int) (d:ϩ BS) (e:ώ),v=[.ref l,.ref t]/\Cs.KZ K H l d/\H t=some (.tup [.int m,.ref g,.ref p])/\BP K H g [.int j,.int c,.int i]/\H p=some (.lst (e.map V.str))/\(∀r∈d,2<=r.w/\r.w<=10)/\Pc d (Q3 m j c i e)/\(EZ d (Q3 m j c i e)=none->∀(k:Int) H' dx,AA H H'->H' dx=none->E (.ref s) (some dx) (upd H' dx (.xd [("words",.int k)]))) /\∀rw,EZ d (Q3 m j c i e)=some rw->∀(D:Ϡ) (o:ϩ V) H',H D=none->AA H H'->H' D=some (.lst o)->Paired (GJ (λb=>H b=none) H') o rw->Q (.ref D) H'
def xO(T:Tx P w base K mg a):CF P w K mg base (Mr P w) 7 (a.f 62) (a.d 62) ["case","paragraph"] (xN K a.Ç):=by
 refine T.ē.fn.okX Sb (by fin2) (λay A outer s H vs Q E hr h=>?_);revert h;refine EK λl t g p m=>EK λlo c hi rs J=>MV λZ hC ht hG hp ag PC=>KM λqb q=>?_;subst Z;refine Oq (λ_ _ _ e O=>?_) PC.g;cases e;have au:1<=J.length/\J.length<=7:=PC.w;have L:=PC.ok;have O:Rp m lo c hi:=O;refine⟨_,(AH (IU (pv 1) (ES K U (n:=3) U (BO (AQ 2 Sb.nd) (BO (AQ 3 Sb.nd) (BO (AQ 4 Sb.nd) EL))))) (AH (GZ (Xh U) U (EV K U (pv 4)) (AQ 5 Sb.nd) (BV (CC (KS (FK (BG T.zC (xH T) hr U (AR 0 (AZ 5))))) (BV (dU T.Ő U U U (AD (fB BN (fz (pv 5)) BN) AI))) CJ))) (AH (AL 6 Sb.nd (BG T.ù (gQ T) hr U (AR 4 (AD (Vb T.ī (gO T) hr U U (AR 0 (AR 4 (AR 2 (AZ 3))))) AI)))) (AF (sj K U U U T.ť U T.b_zip (AR 6 (AD (BG T.zI (xM T) hr U (AR 0 (AR 6 (AR 2 (AZ 3))))) AI))))))),?_⟩;z_run;try refine⟨_,_,U,BP.of ht,U,?_⟩
 x_go;x_go;x_go;z_run;refine⟨⟨_,AC.of hp⟩,?_⟩;let Izz:zT:=λi σ H1=>∃(v5:Ϩ V),σ=[some (.ref l),some (.ref t),some (.int m),some (.ref g),some (.ref p),v5,none]/\AA H H1
 refine Qg (K:=K) (a:=p) (xs:=J.map V.str) Izz
  ⟨none,U,AA.refl _⟩ (by rintro i σ H1 _ ⟨_,_,hs⟩;exact hs.seq (AC.of hp)) ?_ ?_
 (.refine λi y σ H1 hy ab=>?_;revert σ;refine GD λv5 hs=>?_;rw[An]at hy;refine AS (λx I ae=>?_) (Az.mp hy);subst ae;have I:=L x (Af I);z_run;refine LH l x rs U (hC.same hs) ((U5 I).1) (λH2 B=>?_);rw[vK I];exact AU _ U (AK ⟨_,U,hs.trans B⟩));refine λσ H1 ab=>?_;revert σ;refine GD λv5 C=>?_;have hi1:=O.hi1;have aC:=O.ih;have aB:=O.li;have aw:=O.lo0;have aD:=O.m1;z_run;refine DC l p g rs J (LO m lo c hi (DY U (hC.same C) (AC.of (C _ _ hp)) (by lia) (λx I=>U5 (L x I)) (λx I=>gZ ag (L x I)) (DY (Se C hG) (by lia) (by lia) O.m0 (by lia) (λH2 dx k f B ar v h0=>qb (gU v h0) k H2 dx (C.trans B) ar) (λr bs f H2 az B ap v j=>?_))));have q:=q _ (Yr (p:=Q3 m lo c hi J) v j);have G:=C.trans B;have aE:(DD rs J m lo c hi).n=J.length:=A3 _;have ax:=j.len;refine EX (λY S aj SL=>?_) (gY ag j au L);have ac:=Qu J bs 0;z_run;refine LO p r J bs (DY U (AC.of (G _ _ hp)) ap (by lia) (by lia) (λe he=>?_) (λD zs H3 aA ao an hz=>?_));have:=vI j e he;lia;have q:∀(D:Ϡ) (ts:ϩ V) H',H D=none->AA H H'->H' D=some (.lst ts)->Paired (GJ (λb=>H b=none) H') ts (Sf rs m c (CH J 0 bs))->Q (.ref D) H':=q;rw[aj,Yq,<-gT]at q;rw[aj]at hz ac;have o:=G.trans ao;have X:=dD hz;rw[Ag]at ac X;have Ĝ:=ac;have aq:Paired (Lns.ND D H3) zs (Y++[S]):=Paired.Æ hz λ_ _ ⟨p',e,n,_,z⟩=>⟨p',e,n,z⟩;z_run;refine⟨l,D,g,m,lo,c,hi,rs,zs,D,Y,S,U,hC.same o,an,aq,by lia,Se o hG,O,λx I=>?_,SL.off,SL.la,λr2 ys H4 av aa am ah=>?_⟩;refine HP (λa1 a2 a3 a4 a5=>?_) (SL.ln x I);exact⟨a1,by lia,λy hy=>U5 (a3 y hy),a4,by lia⟩;have ak:=B2 ah;rw[Ag,A3]at ak;refine NL D r2 zs ys U (AC.of (aa _ _ an)) (AC.of am) (by rw[X,ak];rfl) (by rw[X];show Y.length+1<=_;lia) (λD2 ts H5 ai af al as=>?_);have R:=aa.trans af;exact q D2 ts H5 (o.free (aa.free ai)) (o.trans R) al (iu as (Paired.Æ hz λ_ _ ab=>by obtain⟨p',e,n,h0,z⟩:=ab;exact⟨p',e,G.free h0,R _ _ z⟩) (YI ah af))
def iw{D}(h:Paired (GJ S H) xs zs)(hD:H D=some (.lst ys))(j:∀b,S b->b≠D):Paired (GJ S (upd H D o)) xs zs :=Paired.Æ h λ_ _ ⟨t,p,g,e,i,c,z3,d⟩=>⟨t,p,g,e,by rw[BJ (HB i hD nofun)];exact i,c,by rw[BJ (j p c)];exact z3,by rw[BJ (HB d hD nofun)];exact d⟩
def NK(H:Hp)(l:Ϡ)(rs:ϩ BS):Prop:=∃c,H l=some (.lst c)/\Paired (Cs.FL H) c rs
def NK.same(h:NK H l rs)(s:AA H c):NK c l rs:=let ⟨xs,h1,h2⟩:=h;⟨xs,s _ _ h1,EO h2 s⟩
def NK.at{K}(h:NK H l rs):Cs.KZ K H l rs:=let ⟨xs,h1,h2⟩:=h;⟨xs,AC.of h1,h2⟩
def NK.off{D}(h:NK H l rs)(s:Jb.BC D H d)(hD:H D=some (.lst ys))(c:l≠D):NK d l rs:=let ⟨xs,h1,h2⟩:=h;⟨xs,s _ _ c h1,Paired.Æ h2 λ_ _ ⟨p,e,z⟩=>⟨p,e,s.tup hD z⟩⟩
structure VL(rs:ϩ BS)(x:ϥ)(js:ϩ (DS 4)):Prop where
 l:x.length<=80000
 aw:∀y∈MO x,AW y
 rd:S5 (MO x)=some js
 gd:∀j∈js,LM 4 j
 jl:js.length<=1000
 f:(FA js).1.length<=60/\NH (FA js).1<=400
 pc:∀p∈(FA js).1,Pc rs p
 wd:∀r∈rs,2<=r.w/\r.w<=10
def Rv(C:Ϡ)(H:Hp)(rs:ϩ BS)(ps:ϩ BF)(E:XK)(R:ϩ HW->Prop):Prop:=(EC rs ps=none->∀(k:Int) H' dx,AA H H'->H' dx=none->E (.ref C) (some dx) (upd H' dx (.xd [("words",.int k)])))/\∀rw,EC rs ps=some rw->R rw
def Rv.same{C:Ϡ}{H c:Hp}{rs:ϩ BS}{ps:ϩ BF}{E:XK}{R d:ϩ HW->Prop}(h:Rv C H rs ps E R)(s:AA H c)(i:∀rw,R rw->d rw):Rv C c rs ps E d:=⟨λe k o p j=>h.1 e k o p (s.trans j),λrw e=>i rw (h.2 rw e)⟩
def xP(K:ϡ)(C:Ϡ):Sp:=λi H Q E=>∃(l:Ϡ) (x:ϥ) (c:ϩ BS) (e:ϩ (DS 4)),i=[.ref l,.str x]/\NK H l c/\VL c x e/\Rv C H c (FA e).1 E λrw=>∀(D:Ϡ) (d:ϩ V) H',H D=none->AA H H'->H' D=some (.lst d)->Paired (GJ (λb=>H b=none/\b≠D) H') d rw->Q (.ref D) H'
def xQ(T:Tx P w base K mg a):CF P w K mg base (Mr P w) 19 (a.f 63) (a.d 63) ["case","text"] (xP K a.Ç):=by
 refine T.ů.fn.okX Yc (by fin2) (λaI A outer s H vs Q E hr h=>?_);revert vs;refine RC λl x rs js hC X hO hR=>?_;refine⟨_,(AH (AL 2 Yc.nd (CO AI)) (AH (GZ (Xh U) U (EV K U (BG T.Ĳ (x5 T) hr U (AD (BG T.ŗ (wo T) hr U (AZ 1)) AI))) (AQ 3 Yc.nd) (@BV _ _ _ (FC (@EG K _ _ _ _ _ _ _ _ _ _ _ _ Ay Jh Ji ZO (pv 2) (AD (Vb T.ē (xO T) hr U U (AR 0 (AZ 3))) AI) U U U U U U)))) (AF (pv 2)))),?_⟩;z_run;intro D hD;x_fa H1 aA aa;z_run;refine Nm x js (IR U X.l X.aw X.rd X.gd (λjl xs H2 J aG ar av=>?_));have am:=aA.trans J;z_run;refine NL jl _ js xs U ar av X.jl X.f (λq H3 aj ag au=>?_);obtain⟨vs,hq,B,ax,ak,_,ap⟩:=au;have Z:=X.f.1;have al:=X.pc;rw[ax]at hO hR Z al;have G:=am.trans ag;have L:=ag _ _ (J _ _ aa);have aq:l≠D:=λe=>by revert hC;refine AS λ_ h1 _=>?_;rw[e,hD]at h1;cases h1
 have aB:q≠D:=λe=>by rw[e,J _ _ aa]at aj;cases aj
 have aD:=B2 ak;rw[A3]at Z;refine HA q U ⟨_,AC.of hq⟩ ?_;let Izz:zT:=λi σ I=>∃(v3:Ϩ V) (R:ϩ V) (rw:ϩ HW),σ=[some (.ref l),some (.str x),some (.ref D),v3]/\Jb.BC D H3 I/\I D=some (.lst R)/\EC rs ((B.take i).map (·.1))=some rw/\R.length<=i*7/\Paired (GJ (λb=>H b=none/\b≠D) I) R rw
 refine Qg (K:=K) (a:=q) (xs:=vs) Izz
  ⟨none,[],[],U,.refl _ _,L,U,B8 _,.nil⟩ (by rintro i σ I _ ⟨_,_,_,_,hs,_⟩;exact AC.of (hs _ _ aB hq)) ?_ ?_
 (.refine λi v σ I hv ac=>?_;revert σ;refine RB λv3 R an o j y aE ab=>?_;obtain⟨⟨⟨m,gs,ws⟩,wa⟩,C,t,g,rfl,ht,hg,ae⟩:=FD ak hv;have aJ:i<B.length:=(Ap.mp C).1;have as:(m,gs,ws)∈B.map (·.1):=Bq.mpr ⟨_,Af C,U⟩;have PC:=al _ as;refine Oq (λlo c hi e _=>?_) PC.g;have e:gs=[lo,c,hi]:=e;subst e;obtain⟨S,_⟩:=ap _ (Af C);have ai:wa≠D:=λe=>(by rw[e,J _ _ aa]at S;cases S);have hg:BP K H3 g [.int lo,.int c,.int hi]:=hg;have ht:H3 t=some (.tup [.int m,.ref g,.ref wa]):=ht;have ae:H3 wa=some (.lst (ws.map V.str)):=ae;have aC:(B.take (i+1)).map (·.1)=(B.take i).map (·.1)++[(m,[lo,c,hi],ws)]:=(by rw[Am,C,Ae];rfl);have aF:Cs.KZ K I l rs:=((hC.same G).off o L aq).at;have ah:∀{H':Hp},AA I H'->AA H H':=λ{H'} hs b u e=>hs b u (o b u (λz=>by rw[z,hD]at e;cases e) (G _ _ e));z_run;refine⟨.inl ⟨U,_,AC.of j⟩,?_⟩;z_run;refine⟨l,t,g,wa,m,lo,c,hi,rs,ws,U,aF,o.tup L ht,o.sqt L hg,o _ _ ai ae,X.wd,PC,λe k H5 dx r ay=>hO ?_ k H5 dx (ah r) ay,λu e D2 af H5 Y r ao O=>?_⟩;rw[gX (show(B.map (·.1))[i]?=some (m,[lo,c,hi],ws) by rw[An,C];rfl)];exact Ys e _;have ģ:af.length<=7:=(by rw[B2 O];exact Aw (gW e) PC.w.2);refine NL D D2 R af U U (r _ _ j) ao (DG (by lia)) ?_;have aH:D2≠D:=λe=>(by rw[e,j]at Y;cases Y);have az:∀b,I b=none->H b=none/\b≠D:=λb hb=>⟨(ah (AA.refl _)).free hb,λz=>by rw[z,j]at hb;cases hb⟩;refine JH _ (R++af) (an++u) (IR U ((o.trans (.of r)).upd) AM (by rw[aC];exact VB e y) ?_ ?_);rw[Ag];lia;exact Lns.Th (iw (ir ab r) (r _ _ j) λb hb=>hb.2) (iw (Paired.Æ O λ_ _ ac=>by obtain⟨t,p,g,e,z1,z2,z3,z4⟩:=ac;exact⟨t,p,g,e,z1,az p z2,z3,z4⟩) (r _ _ j) λb hb=>hb.2));refine λσ I ac=>?_;revert σ;refine RB λv3 R an o j y aE ab=>?_;rw[aD,Ai (A9 _)]at y;z_run;exact hR _ y D R I hD (λb u e=>o b u (λz=>by rw[z,hD]at e;cases e) (G _ _ e)) j ab
structure Dk where
 rs:ϩ BS
 cast:Int
 comp:ϩ HW
 keys:ϥ
 m:Ms
structure Da where
 l:Ϡ
 q:Ϡ
 pm:Ϡ
 A:Mc.DL
abbrev Dk.cf(d:Dk):Cf:=⟨d.rs,d.keys,d.cast⟩
abbrev ID(a:Ad)(H:Hp)(p:Ϡ)(vs:ϩ (Ϩ V)):Prop:=JA a.Ć Nk H p vs
structure OP(a:Ad)(H0 H:Hp)(p:Ϡ)(D:Da)(d:Dk):Prop where
 case:NK H D.l d.rs
 comp:∃ts,H D.q=some (.lst ts)/\Paired (GJ (λb=>b∉D.A.all/\H0 b=none) H) ts d.comp
 Ę:MA a d.cf H D.pm D.A d.m
 pne:D.pm≠p
 lA:D.l∉D.A.all
 qA:D.q∉D.A.all
 ok:Mc.Ok d.cf d.m
 sm:AA H0 H
 np:H0 p=none
 nm:H0 D.pm=none
 nA:∀b∈D.A.all,H0 b=none
 nl:H0 D.l=none
 nq:H0 D.q=none
noncomputable def xR (D:Da) (d:Dk):ϩ (Ϩ V):=[some (.ref D.l),some (.int d.cast),some (.ref D.q),some (.ref D.pm)]
structure BR(a:Ad)(H0 H:Hp)(p:Ϡ)(D:Da)(d:Dk):Prop where
 ins:ID a H p (xR D d)
 b:OP a H0 H p D d
def YJ(h:Paired (GJ S H) xs ys)(d:∀b z,H b=some (.tup z)->H' b=some (.tup z))(i:∀b z,S b->H b=some (.lst z)->H' b=some (.lst z)/\S2 b):Paired (GJ S2 H') xs ys :=Paired.Æ h λ_ _ ⟨t,p,g,e,k,c,z3,j⟩=>⟨t,p,g,e,d _ _ k,(i _ _ c z3).2,(i _ _ c z3).1,d _ _ j⟩
def NK.keep(h:NK H l rs)(c:∀b z,H b=some (.tup z)->H' b=some (.tup z))(d:∀z,H l=some (.lst z)->H' l=some (.lst z)):NK H' l rs:=let ⟨xs,h1,h2⟩:=h;⟨xs,d _ h1,Paired.Æ h2 λ_ _ ⟨p,e,z⟩=>⟨p,e,c _ _ z⟩⟩
def OP.same{a}{D}(M:OP a H0 H p D d)(s:AA H c):OP a H0 c p D d :=⟨M.case.same s,let ⟨ts,h1,h2⟩:=M.comp;⟨ts,s _ _ h1,ir h2 s⟩,M.Ę.same s,M.pne,M.lA,M.qA,M.ok,M.sm.trans s,M.np,M.nm,M.nA,M.nl,M.nq⟩
def BR.same{a}{D}(M:BR a H0 H p D d)(s:AA H c):BR a H0 c p D d:=⟨M.ins.same s,M.b.same s⟩
def OP.off{a}{D}(M:OP a H0 H p D d)(i:JA C ns H p vs)(k:∀b,b≠p->H' b=H b):OP a H0 H' p D d:=by revert i;refine EX λL fs e f=>?_;have r:∀b z,H b=some (.tup z)->H' b=some (.tup z):=λb z h=>(k b λw=>by rw[w,e]at h;cases h).trans h;have o:∀b z,H b=some (.lst z)->H' b=some (.lst z):=λb z h=>(k b λw=>by rw[w,e]at h;cases h).trans h;refine⟨M.case.keep r λz h=>o _ z h,?_,⟨?_,M.Ę.nd,M.Ę.li.keep (Mc.BK.fld e k) λb y=>?_⟩,M.pne,M.lA,M.qA,M.ok,λb u h=>?_,M.np,M.nm,M.nA,M.nl,M.nq⟩;refine AS (λI B v=>?_) M.comp;exact AU I (o _ _ B) (YJ v r λb z s h=>⟨o b z h,s⟩);refine EX (λj c E G=>?_) M.Ę.ins;exact Nn j c ((k _ M.pne).trans E) G;obtain⟨J,h⟩:=M.Ę.li.is b y;exact λw=>(by rw[w,e]at h;cases h);exact(k b λw=>by rw[w,M.np]at h;cases h).trans (M.sm b u h)
def BR.step{a}{D}(M:BR a H0 H p D d)(s:Mc.AY D.pm D.A H j k)(G:MA a d.cf k D.pm j y)(ok:Mc.Ok d.cf y):BR a H0 k p { D with A:=j } { d with m:=y }:=by
 obtain⟨⟨J,fs,e,f⟩,B⟩:=M;have o:p∉D.A.all:=λc=>by obtain⟨O,h⟩:=B.Ę.li.is p c;rw[e]at h;cases h
 have r:=λb z h=>s.fr b _ h (.inr ⟨z,U⟩)
 have i:∀b z,b∉D.A.all->H b=some (.lst z)->k b=some (.lst z)/\b∉j.all:=λb z c h=>⟨s.fr b _ h (.inl ⟨Tv B.Ę.ins h,c⟩),λw=>by
  rcases s.nw b w with w|w
  .exact c w
  .rw[h]at w
   cases w⟩
 refine AS (λL E _=>?_) B.case;refine AS (λI v C=>?_) B.comp;refine⟨⟨J,fs,s.fr p _ e (.inl ⟨B.pne.symm,o⟩),f⟩,B.case.keep r λz h=>(i _ z B.lA h).1,⟨I,(i _ _ B.qA v).1,YJ C r λb z s h=>⟨(i b z s.1 h).1,(i b z s.1 h).2,s.2⟩⟩,G,B.pne,(i _ _ B.lA E).2,(i _ _ B.qA v).2,ok,λb u h=>?_,B.np,B.nm,λb c=>?_,B.nl,B.nq⟩;exact s.fr b u (B.sm b u h) (.inl ⟨λw=>(by rw[w,B.nm]at h;cases h),λw=>by rw[B.nA b w]at h;cases h⟩);rcases s.nw b c with w|w;exact B.nA b w;exact B.sm.free w
noncomputable def Mp (d:Dk):ϩ ώ:=d.comp.map λx=>x.1
def II(d:Dk):ϥ:=BW (Mp d)
def xS(a:Ad):Sp:=λe H Q _=>∃(p:Ϡ) (i:Hp) (D:Da) (d:Dk),e=[.ref p]/\BR a i H p D d/\Lns.NC (Mp d)/\∀c,AA H c->Q (.str (II d)) c
def YK:T.N 2 0 (xS a):=by
 refine BX T.Ú.fn u9 ?_;k_ne;revert vs;refine JP λp H0 D d M Y q=>?_;have I:=M.ins;refine AS (λts X B=>?_) M.b.comp;have z:=Y.1;unfold Mp at z;rw[A3]at z;refine AU _ (AF (BG T.ĸ (Yu T) hr U (AD (CW ["self","line","gap"] [] 2 (EV K U (fD T 2 (pv 0))) (ES K U (n:=2) U (BO (BD 1) (BO (BD 2) EL))) EU (pv 1)) AI))) ?_;walk;refine⟨⟨_,AC.of X⟩,λE c=>?_⟩;let Izz:zU:=λi o j k=>∃(C G:Ϩ V),j=[some (.ref p),C,G]/\AA H k/\k E=some (.lst o)/\Paired (Lns.ND E k) o ((d.comp.take i).map λx=>x.1)
 refine GN (a:=D.q) (xs:=ts) Izz
  ?_ ?_ ?_ ?_
 exact CM none none U (BM c _) AM .nil;refine λi o j k hi=>GL λC G _ e _=>?_;exact e.seq (AC.of X);(.refine λi x o j k hx R S=>?_;revert j;refine HY λC G e Q y=>?_;obtain⟨r,O,t,pl,g,rfl,Z,_,v,_⟩:=FD B hx;have L:=B2 y;rw[A3,Ao]at L;have s:=DR v c;refine CM _ _ U (BP.of (e _ _ Z)) U ?_;x_go;x_go;(try refine And.intro U ?_);walk;refine EI R Q (by lia) ⟨_,_,U,DF e c,AM,?_⟩;rw[Am,O,Ae];exact Bz (Xc y) ⟨pl,U,s,by rw[BJ s];exact e _ _ v⟩);refine λo j k S=>?_;revert j;refine HY λC G e Q y=>?_;rw[B2 B,Ai (A9 _)]at y;walk;exact DH E E o (Mp d) U (AC.of Q) y Y (λH3 J=>q H3 (e.trans J))
theorem ix:∀{os} {ps},(∀o∈os,o<=1000)->(∀x∈ps,0<=x.1/\x.1<=1000)->∀x∈LL d os ps,0<=x.1/\x.1<=1000
 |[],ps,_,c=>by cases ps<;>exact c|_::_,[],_,c=>c
 |o::os,y::ps,i,c=>λx e=>by have k:=c y Aa;have j:=i o Aa;rcases Al.mp (show x∈OG d o y::LL d os ps from e)with rfl|e;unfold OG;split;exact⟨by show 0<=o;lia,j⟩;exact k;exact ix (λo h=>i o (Ac _ h)) (λx h=>c x (Ac _ h)) x e
theorem iy:∀{rs} {ls},(∀r∈rs,r.n<=1000)->∀o∈GU rs ls,o<=1000
 |[],_,_,o,h=>by cases h|_::_,[],_,o,h=>by cases h
 |r::rs,l::ls,c,o,h=>by have d:=c r Aa;rcases Al.mp (show o∈(r.n-((l.length:Nat):Int))::GU rs ls from h)with rfl|h;lia;exact iy (λr h=>c r (Ac _ h)) o h
def iz(i:∀r∈c.rs,r.n<=1000){qs}(h:Mc.Pk c m ps qs):(∀x∈ps,0<=x.1/\x.1<=1000)->(∀x∈qs,0<=x.1/\x.1<=1000)/\qs.length=ps.length:=by induction h with|stop _=>exact λh=>⟨h,U⟩|go _ _ e =>intro h;have d:=e (ix (iy i) h);exact⟨d.1,by rw[d.2,XJ]⟩
def Uc{i:Int}(h:i.natAbs<100000):(Str.ofString (toString i)).length<=2000:=by have d:i.natAbs.log2<1920:=(by by_cases c:i.natAbs=0;rw[c];decide;exact Ff ((Kg c).mpr (Ff h (show 100000<2^140 by lk))) (by lk));have e:=Ik (k:=1920) (by lk) d;rw[G9];lia
def VM(d:Dk):ώ:=d.comp.map λx=>AE x.1
noncomputable def VN (d:Dk):ώ:=d.comp.map λx=>KC x.2
noncomputable def Q4 (qs:Ϙ):ϥ:=Txt.join " " (qs.map λx=>Str.ofString (toString x.1))
abbrev Dk.ff(d:Dk):Cf:=⟨CD d.rs (II d),II d,d.cast⟩
structure JF(d:Dk):Prop where
 fit:Lns.NC (Mp d)
 gp:∀x∈d.comp,x.2.1.natAbs<=10^40/\x.2.2.natAbs<=10^40
 Ĕ:d.rs.length<=30
 sgn:∀r∈d.rs,∃c∈BQ,r.s=sg c
 fo:Mc.Ok d.ff (Mc.start d.ff.rs)
 fk:GS d.ff.rs false (II d).cps.toList=true
 fn:∀r∈d.ff.rs,0<=r.n/\r.n<=1000
def Qw(d:Dk)(w:ϥ)(xs:ώ):Prop:=(w="lines"->xs=VM d)/\(w="gaps"->xs=VN d)/\(w="keys"->xs=[II d])/\(w="need"->∃qs,Mc.Pk d.ff (Mc.start d.ff.rs) (NG d.rs.length) qs/\xs=[Q4 qs])
def xT(a:Ad):Sp:=λi H Q _=>∃(p:Ϡ) (j:Hp) (D:Da) (d:Dk) (x:ϥ),i=[.ref p,.str x]/\BR a j H p D d/\JF d/\x∈JN/\∀r e c,H r=none->AA H c->c r=some (.lst (e.map V.str))->Qw d x e->Q (.ref r) c
def xU(h:xs=VM d):Qw d "lines" xs:=⟨λ_=>h,λe=>absurd e (by lk),λe=>absurd e (by lk),λe=>absurd e (by lk)⟩
def xV(h:xs=VN d):Qw d "gaps" xs:=⟨λe=>absurd e (by lk),λ_=>h,λe=>absurd e (by lk),λe=>absurd e (by lk)⟩
def xW(h:xs=[II d]):Qw d "keys" xs:=⟨λe=>absurd e (by lk),λe=>absurd e (by lk),λ_=>h,λe=>absurd e (by lk)⟩
def xX{qs}(c:Mc.Pk d.ff (Mc.start d.ff.rs) (NG d.rs.length) qs)(h:xs=[Q4 qs]):Qw d "need" xs:=⟨λe=>absurd e (by lk),λe=>absurd e (by lk),λe=>absurd e (by lk),λ_=>⟨qs,c,h⟩⟩
def xY:T.N 8 3 (xT a):=by
 refine BX T.ć.fn ue ?_;k_ne;revert vs;refine RD λp H0 D d x M O Q q=>?_;have I:=M.ins;refine AS (λts hq ab=>?_) M.b.comp;have ac:=B2 ab;have J:=O.fit;have af:=J.1;unfold Mp at af;rw[A3]at af;have ev:∀y:ϥ,decide (V.str x=V.str y)=decide (x=y):=λy=>FI;refine⟨_,(AH (CC (CA EE (pv 1) BN (BL _)) (@AF _ _ _ _ (CW ["self","word","line","gap"] [] 2 (EV K U (fD T 2 (pv 0))) (ES K U (n:=2) U (BO (BD 2) (BO (BD 3) EL))) EU (λ{_ _ _ _ _}=>@EG K _ _ _ _ _ _ _ _ _ _ _ _ Bi Bu Bv (MG K U) BN (AZ 2) U U U U U U))) CJ) (AH (CC (CA EE (pv 1) BN (BL _)) (AF (CW ["self","word","line","gap"] [] 2 (EV K U (fD T 2 (pv 0))) (ES K U (n:=2) U (BO (BD 2) (BO (BD 3) EL))) EU (BG T.ő (xB T) hr U (AZ 3)))) CJ) (AH (CC (CA EE (pv 1) BN (BL _)) (AF (CO (AD (FM (K:=K) U T.Û.cl T.Ú (YK T) hr Yl (pv 0)) AI))) CJ) (@AF _ _ _ _ (CO (AD (@EG K _ _ _ _ _ _ _ _ _ _ _ _ Bi Bu Bv (MG K U) BN (AD (CW ["self","word","many"] [] 1 (EV K U (BG T.ś (iq T) hr U (AD (fD T 0 (pv 0)) (AD (FM (K:=K) U T.Û.cl T.Ú (YK T) hr Yl (pv 0)) (AD (fD T 1 (pv 0)) AI))))) (BD 2) EU (FQ JZ U T.Ô JS (AZ 2))) AI) U U U U U U) AI)))))),?_⟩;walk;rw[ev];refine CG (λh1=>?_) (λh1=>?_)
 .obtain rfl:=Ax h1;walk;refine⟨⟨_,AC.of hq⟩,λD2 k=>?_⟩;let Izz:zU:=λi B s E=>∃(G Z:Ϩ V),s=[some (.ref p),some (.str "lines"),G,Z]/\AA H E/\E D2=some (.lst B)/\B=((d.comp.take i).map λx=>AE x.1).map V.str
  refine GN (a:=D.q) (xs:=ts) Izz
   ?_ ?_ ?_ ?_
  exact CM none none U (BM k _) AM U;refine λi B s E hi=>GL λG Z _ o _=>?_;exact o.seq (AC.of hq);(.refine λi x B s E Q R X=>?_;revert s;refine HY λG Z o L c=>?_;subst c;obtain⟨r,j,t,pl,g,rfl,ht,_,ai,_⟩:=FD ab Q;obtain⟨Ĝ,ģ⟩:=J.2 r.1 (Bq.mpr ⟨r,Af j,U⟩);refine CM _ _ U (BP.of (o _ _ ht)) U ?_;x_go;x_go;(try refine And.intro U ?_);walk;refine DZ _ pl r.1 U U (AC.of (o _ _ ai)) (V2 Ĝ ģ) (EI R L (by rw[A3,A3,Ao];lia) ⟨_,_,U,DF o k,AM,?_⟩);rw[Am,j,Ae,Ae];rfl);refine λB s E X=>?_;revert s;refine HY λG Z o L c=>?_;subst c;rw[ac,Ai (A9 _)]at L;exact q D2 _ E k o L (xU U)
 have h1:=λe=>h1 (Ab e);walk;rw[ev];refine CG (λh2=>?_) (λh2=>?_)
 .obtain rfl:=Ax h2;walk;refine⟨⟨_,AC.of hq⟩,λD2 k=>?_⟩;let Izz:zU:=λi B s E=>∃(G Z:Ϩ V),s=[some (.ref p),some (.str "gaps"),G,Z]/\AA H E/\E D2=some (.lst B)/\B=((d.comp.take i).map λx=>KC x.2).map V.str
  refine GN (a:=D.q) (xs:=ts) Izz
   ?_ ?_ ?_ ?_
  exact CM none none U (BM k _) AM U;refine λi B s E hi=>GL λG Z _ o _=>?_;exact o.seq (AC.of hq);(.refine λi x B s E Q R X=>?_;revert s;refine HY λG Z o L c=>?_;subst c;obtain⟨r,j,t,pl,g,rfl,ht,_,_,hg⟩:=FD ab Q;obtain⟨Ĝ,ģ⟩:=O.gp r (Af j);refine CM _ _ U (BP.of (o _ _ ht)) U ?_;x_go;x_go;(try refine And.intro U ?_);walk;refine MY g r.2 U (o _ _ hg) Ĝ ģ (EI R L (by rw[A3,A3,Ao];lia) ⟨_,_,U,DF o k,AM,?_⟩);rw[Am,j,Ae,Ae];rfl);refine λB s E X=>?_;revert s;refine HY λG Z o L c=>?_;subst c;rw[ac,Ai (A9 _)]at L;exact q D2 _ E k o L (xV U)
 have h2:=λe=>h2 (Ab e);walk;rw[ev];refine CG (λh3=>?_) (λh3=>?_);(.obtain rfl:=Ax h3;walk;refine EM p H0 D d U M J (λE C=>?_);walk;intro r j;exact q r [II d] _ (C.free j) (EY C j) AM (xW U));have h3:=λe=>h3 (Ab e);have Q:x="need":=by simp only[JN,Al,Bl,Dd]at Q;lia
 subst Q;clear h1 h2 h3;refine AS (λcx c1 c2=>?_) M.b.case;walk;refine EM p H0 D d U M J (λE C=>?_);have I2:=(M.same C).ins;walk;refine DC D.l (II d) d.cast cx d.rs (DY U (C _ _ c1) (EO c2 C) O.Ĕ O.sgn O.fo (IQ O.fk O.fn (λn qs H3 am ah Y ag=>?_)));obtain⟨ae,ak⟩:=iz (λr hr=>(O.fn r hr).2) ag (λx Q=>by rw[D0 Q];decide);rw[show(NG d.rs.length).length=d.rs.length from By]at ak;have al:=O.Ĕ;have Y:=Y;refine HA n U ⟨_,AC.of Y⟩ (λD2 k=>?_);let Izz:zU:=λi B s H4=>∃(G:Ϩ V),s=[some (.ref p),some (.str "need"),G]/\AA H3 H4/\H4 D2=some (.lst B)/\B=((qs.take i).map λx=>Str.ofString (toString x.1)).map V.str
 refine GN (a:=n) (xs:=(qs.map λx=>x.1).map V.int) Izz
  ?_ ?_ ?_ ?_
 exact IS none U (BM k _) AM U;refine λi B s H4 hi=>DN λG _ o _=>?_;exact o.seq (AC.of Y);(.refine λi x B s H4 Q R X=>?_;revert s;refine KN λG o L S=>?_;subst S;rw[An,An]at Q;refine AS (λz hz v=>?_) (Az.mp Q);subst v;refine AS (λy hy v=>?_) (Az.mp hz);subst v;have hb:=ae y (Af hy);walk;refine EI R L (by rw[A3,A3,Ao];lia) ⟨_,U,DF o k,AM,?_⟩;rw[Am,hy,Ae,Ae];rfl);refine λB s H4 X=>?_;revert s;refine KN λG o L S=>?_;subst S;rw[A3,A3,Ai (A9 _)]at L;have aa:=(C.trans ah).trans o;have aj:(((qs.map λx=>Str.ofString (toString x.1)).map (·.length)).sum+(qs.map λx=>Str.ofString (toString x.1)).length*(" ":ϥ).length)<=16777216:=(by have a:=QU (λx:ϥ=>x.length) 2000 (qs.map λx=>Str.ofString (toString x.1)) λy hy=>(by refine AS (λz hz v=>?_) (Bq.mp hy);subst v;have:=ae z hz;exact Uc (by lia));have e:(" ":ϥ).length=1:=(by lk);grind);refine DZ _ D2 _ U U (AC.of L) aj ?_;walk;intro r j;exact q r [Q4 qs] _ (aa.free j) (EY aa j) AM (xX ag U)
abbrev CY(i:Int):ϥ:=Str.ofString (toString i)
theorem YL:∀{ps:ϩ BF}{rw:ϩ HW},(∀p∈ps,Pc rs p)->EC rs ps=some rw->rw.length<=ps.length*7|[],_,_,h=>by cases h;exact A9 _|p::ps,_,c,h=>by have h:(match EZ rs p,EC rs ps with|some u,some v=>some (u++v)|_,_=>none)=some _:=h;split at h;(.rename_i u v d e;cases h;have k:=gW d;have j:=(c p Aa).w.2;have o:=YL (λx i=>c x (Ac _ i)) e;rw[Ag,Bb];lia);cases h
abbrev YM(a:Ad)(H0 H:Hp)(p:Ϡ)(d:Dk)(Q:VK)(rw:ϩ HW):Prop:=∀r e c,H r=none->BR a H0 c p e { d with comp:=rw }->c r=some (.lst [.str (CY (rw.length:Int))])->Q (.ref r) c
def xZ(a:Ad):Sp:=λi H Q E=>∃(p:Ϡ) (c:Hp) (D:Da) (d:Dk) (x:ϥ) (e:ϩ (DS 4)),i=[.ref p,.str x]/\BR a c H p D d/\VL d.rs x e/\Rv a.Ç H d.rs (FA e).1 E (YM a c H p d Q)
def y6(T:Tx P w base K mg a):CF P w K mg base (Mr P w) 20 (a.Š 2) (a.Ť 2) ["self","text"] (xZ a):=by refine T.ą.fn.okX uc (by fin2) (λaa A outer s H vs Q E hr h=>?_);revert vs;refine Su λp J D d x js M X hn hq=>?_;have I:=M.ins;refine⟨_,(AH (sD T 2 (pv 0) (Vb T.ů (xQ T) hr U U (AD (fD T 0 (pv 0)) (AZ 1)))) (AF (CO (AD (FQ JZ U T.Ô JS (AD (ln T (fD T 2 (pv 0))) AI)) AI)))),?_⟩;walk;refine DH D.l x d.rs js U M.b.case X hn (λrw e o ts H2 i j z y=>?_);have ab:=YL X.pc e;have hf:=X.f.1;have I2:=I.same j;have c:=M.b.same j;have Z:=B2 y;walk;refine λH3 L S=>?_;have hA:∀b,H b=none->b∉D.A.all:=λb Y=>M.b.Ę.new Y;have B3:OP a J H2 p { D with q:=o } { d with comp:=rw }:=⟨c.case,⟨ts,z,Paired.Æ y λ_ _ G=>by obtain⟨t,p,g,e,z1,R,z3,z4⟩:=G;exact⟨t,p,g,e,z1,⟨hA p R.1,M.b.sm.free R.1⟩,z3,z4⟩⟩,c.Ę,c.pne,c.lA,hA o i,c.ok,c.sm,c.np,c.nm,c.nA,c.nl,M.b.sm.free i⟩;have O:BR a J H3 p { D with q:=o } { d with comp:=rw }:=⟨L,B3.off I2 S⟩;refine AS (λB k C=>?_) O.b.comp;have k:=k;have hl3:=B2 C;have hl3:B.length=rw.length:=hl3;walk;refine BY o _ U (.inl (AC.of k)) ?_;rw[hl3];walk;intro r v;exact(hq rw e) r { D with q:=o } _ (j.free ((Mc.CU.À S).free L v)) (O.same (BM v _)) AM
structure LF(d:Dk):Prop where
 fit:Lns.NC (Mp d)
 ok:Mc.Ok ⟨d.rs,II d,d.cast⟩ (Mc.start d.rs)
 kf:GS d.rs false (II d).cps.toList=true
 rn:∀r∈d.rs,0<=r.n/\r.n<=1000
def y8(d:Dk)(w:ϥ)(xs:ώ):Prop:=(w="slugs"->xs=d.m.texts)/\(w="state"->xs=[OO d.cf d.m])/\(w="waited"->xs=[CY d.m.Ä])
inductive HM (a:Ad) (H0 H:Hp) (p:Ϡ) (d:Dk) (x:ϥ) (Q:VK):Prop
 | start (h:x="start") (ok:LF d) (q:∀r D' H',H r=none->BR a H0 H' p D' { d with keys:=II d,m:=Mc.start d.rs }->H' r=some (.lst [])->Q (.ref r) H')
 | run (h:x="run") (b:((Mc.fin d.cf d.m).done-d.m.done).natAbs<100000) (q:∀r D' H',H r=none->BR a H0 H' p D' { d with m:=Mc.fin d.cf d.m }->H' r=some (.lst [.str (CY ((Mc.fin d.cf d.m).done-d.m.done))])->Q (.ref r) H')
 | tell (h:x="slugs"\/x="state"\/x="waited") (b:d.m.Ä.natAbs<100000) (q:∀r xs H',H r=none->AA H H'->H' r=some (.lst (xs.map V.str))->y8 d x xs->Q (.ref r) H')
def y9(a:Ad):Sp:=λe H Q _=>∃(p:Ϡ) (c:Hp) (D:Da) (d:Dk) (x:ϥ),e=[.ref p,.str x]/\BR a c H p D d/\HM a c H p d x Q
def ya:T.N 6 4 (y9 a):=by
 refine BX T.Ř.fn ug ?_;k_ne;revert vs;refine VX λp R D d x M hI=>?_;have I:=M.ins;have J:=M.b.Ę.ins;have G:∀x y:ϥ,decide (V.str x=V.str y)=decide (x=y):=λx y=>FI;refine⟨_,(AH (CC (CA EE (pv 1) BN (BL _)) (AH (sD T 3 (pv 0) (R5 T.Machine (Rr T) hr U (AD (fD T 0 (pv 0)) (AD (FM (K:=K) U T.Û.cl T.Ú (YK T) hr Yl (pv 0)) (AD (fD T 1 (pv 0)) AI))))) (AF (CO AI))) CJ) (AH (CC (CA EE (pv 1) BN (BL _)) (AF (CO (AD (FQ JZ U T.Ô JS (AD (FM (K:=K) U T.Machine.cl T.ð (YG T) hr Yj (fD T 3 (pv 0))) AI)) AI))) CJ) (AH (CC (CA EE (pv 1) BN (BL _)) (AF (FM (K:=K) U T.Machine.cl T.Ò (VI T) hr Vz (fD T 3 (pv 0)))) CJ) (AH (CC (CA EE (pv 1) BN (BL _)) (AF (CO (AD (BG T.zr (xD T) hr U (AD (fD T 3 (pv 0)) AI)) AI))) CJ) (AF (CO (AD (FQ JZ U T.Ô JS (AD (FM (K:=K) U T.Machine.cl T.Þ (YH T) hr Yk (fD T 3 (pv 0))) AI)) AI))))))),?_⟩;walk;cases hI with
 |start h O q =>
  subst h;rw[G,show decide (("start":ϥ)="start")=true by lk];refine BB ?_;walk;refine EM p R D d U M O.fit (λC i=>?_);have M1:=M.same i;have I1:=M1.ins;refine AS (λcx Q c2=>?_) M1.b.case;walk;refine λZ S k j ab=>⟨Z,D.l,S,⟨d.rs,II d,d.cast⟩,cx,U,AM,?_,?_,O.ok.cf,O.kf,O.rn,λX H7 M0 H fr0=>⟨U,?_⟩⟩;rw[BJ (DR Q k),BJ (DR Q j)];exact Q;exact EO c2 λb u z=>(by rw[BJ (DR z k),BJ (DR z j)];exact z);have s:=Rf k j H;have B:=λb z=>RZ k j (fr0 b z);have L:=M1.same s;have I7:=L.ins;have v:∀{b:Ϡ}{o:HO},C b=some o->b∉X.all:=λ{b o} h z=>by rw[B b z]at h;cases h
  refine AS (λts t1 t2=>?_) M1.b.comp;have B7:OP a R H7 p { D with pm:=Z,A:=X } { d with keys:=II d,m:=Mc.start d.rs } :=
   ⟨L.b.case,⟨ts,s _ _ t1,Paired.Æ t2 λ_ _ aa=>by obtain⟨t,p,g,e,z1,z2,z3,z4⟩:=aa;exact⟨t,p,g,e,s _ _ z1,⟨v z3,z2.2⟩,s _ _ z3,s _ _ z4⟩⟩,M0,(λe=>by obtain⟨dx,fs,e2,_⟩:=I1;rw[<-e,k]at e2;cases e2),v Q,v t1,O.ok,L.b.sm,L.b.np,M1.b.sm.free k,(λb z=>M1.b.sm.free (B b z)),M1.b.nl,M1.b.nq⟩
  walk;refine λH8 I8 k8=>?_;have M8:BR a R H8 p { D with pm:=Z,A:=X } { d with keys:=II d,m:=Mc.start d.rs }:=⟨I8,B7.off I7 k8⟩;walk;intro r c;exact q r _ _ (i.free (s.free ((Mc.CU.À k8).free I8 c))) (M8.same (BM c _)) AM
 |run h b q =>subst h;rw[G,show decide (("run":ϥ)="start")=false by lk];refine AK ?_;walk;refine EM D.pm D.A d.cf d.m U M.b.Ę M.b.ok (λA1 C M1 E=>?_);walk;intro r c;exact q r _ _ (E.free c) ((M.step E M1 (Mc.qJ M.b.ok).2).same (BM c _)) AM|tell h b q =>have h1:decide (x="start")=false:=(by rcases h with rfl|rfl|rfl<;>decide);have h2:decide (x="run")=false:=(by rcases h with rfl|rfl|rfl<;>decide);rw[G,h1];refine AK ?_;walk;rw[G,h2];refine AK ?_;walk;rw[G];rcases h with rfl|rfl|rfl;(.rw[show decide (("slugs":ϥ)="slugs")=true by lk];refine BB ?_;walk;exact EM D.pm D.A d.cf d.m U M.b.Ę M.b.ok (λr C c i Y=>q r _ C c i Y ⟨λ_=>U,λe=>absurd e (by lk),λe=>absurd e (by lk)⟩));(.rw[show decide (("state":ϥ)="slugs")=false by lk];refine AK ?_;walk;refine EM D.pm D.A d.cf d.m U M.b.Ę M.b.ok (λC i=>?_);walk;intro r c;exact q r [OO d.cf d.m] _ (i.free c) (EY i c) AM ⟨λe=>absurd e (by lk),λ_=>U,λe=>absurd e (by lk)⟩);rw[show decide (("waited":ϥ)="slugs")=false by lk];refine AK ?_;walk;refine EM D.pm D.A d.cf d.m U M.b.Ę M.b.ok (λC i=>?_);walk;intro r c;exact q r [CY d.m.Ä] _ (i.free c) (EY i c) AM ⟨λe=>absurd e (by lk),λe=>absurd e (by lk),λ_=>U⟩
abbrev NW(x:ϥ):ώ:=Txt.split x (" ":ϥ)
inductive Qx (a:Ad) (H0 H:Hp) (p:Ϡ) (d:Dk) (x:ϥ) (Q:VK) (E:XK):Prop
 | copy (ws:ώ) (js:ϩ (DS 4)) (h:NW x=("copy":ϥ)::ws) (hc:VL d.rs (Txt.join (" ":ϥ) ws) js) (ho:Rv a.Ç H d.rs (FA js).1 E (YM a H0 H p d Q))
 | tick (y:ϥ) (n:Nat) (h:NW x=[("tick":ϥ),y]) (hy:AW y) (hn:IF y=true) (hv:IG y=(n:Int)) (ok:Mc.Ok d.cf (CZ d.cf n d.m)) (b:((CZ d.cf n d.m).done-d.m.done).natAbs<100000)
    (q:∀r D' H',H r=none->BR a H0 H' p D' { d with m:=CZ d.cf n d.m }->H' r=some (.lst [.str (CY ((CZ d.cf n d.m).done-d.m.done))])->Q (.ref r) H')
 | tell (y:ϥ) (h:NW x=[y]) (hy:y∈JN) (ok:JF d) (q:∀r xs H',H r=none->AA H H'->H' r=some (.lst (xs.map V.str))->Qw d y xs->Q (.ref r) H')
 | play (y:ϥ) (h:NW x=[y]) (hy:y∈ON) (i:HM a H0 H p d y Q)
def iA(x:ϥ):Prop:=AW x/\KA (NW x)=true/\x.length<=1000
def Rx(a:Ad):Sp:=λe H Q E=>∃(p:Ϡ) (c:Hp) (D:Da) (d:Dk) (x:ϥ),e=[.ref p,.str x]/\BR a c H p D d/\iA x/\Qx a c H p d x Q E
def yb(y)(ws):DV ((y::ws).map V.str) (some 1) none=ws.map V.str:=by unfold DV;rw[HT.ZD,show HT.DK ((y::ws).map V.str).length 0 (some 1)=1 from by rw[show(1:Int)=((1:Nat):Int)from U,HT.QK,A3,Bb,E9 (by lia)],Bp,List.drop_one,List.tail_cons,Ai];rw[Bb];exact A9 _
def yc(z):DP ([("tick":ϥ),z].map V.str) 1=some (V.str z):=FR (j:=1) U
def iB:∀y∈JN++ON,decide (y="copy")=false/\decide (y="tick")=false:=by lk
def yd:∀y∈ON,decide (y∈JN)=false:=by lk
def HM.same{a}{H0 H j}{p}{d}{x}{Q}(h:HM a H0 H p d x Q)(s:AA H j):HM a H0 j p d x Q:=by cases h with|start h ok q=>exact .start h ok λr i e c=>q r i e (s.free c)|run h b q=>exact .run h b λr i e c=>q r i e (s.free c)|tell h b q=>exact .tell h b λr o e c k=>q r o e (s.free c) (s.trans k)
def iC(T:Tx P w base K mg a):CF P w K mg base (Mr P w) 21 (a.Š 1) (a.Ť 1) ["self","row"] (Rx a):=by refine T.Å.fn.okX gz (by fin2) (λah A outer s H vs Q E L h=>?_);obtain⟨p,S,D,d,x,rfl,M,⟨aj,Z,ae⟩,Y⟩:=h;have J:=Xd x (" ":ϥ);have X:∀x y:ϥ,decide (V.str x=V.str y)=decide (x=y):=λx y=>FI;have hc:=T.ÿ;refine⟨_,(AH (AL 2 gz.nd (@EG K _ _ _ _ _ _ _ _ _ _ _ _ Bi Ep Er V3 (pv 1) (AD BN AI) U U U U U U)) (AH (CC (KS (FK (BG T.Ŭ (xw T) L U (AZ 2)))) (BV (dU T.ŵ U U U (AD (rQ (fz (pv 1)) BN) AI))) CJ) (AH (CC (CA EE (BZ (DE K U) (pv 2) AJ (λ_ _=>U)) BN (BL _)) (@AF _ _ _ _ (fV (K:=K) U T.Û.cl T.ą (y6 T) L U ud (pv 0) (AD (@EG K _ _ _ _ _ _ _ _ _ _ _ _ Bi Bu Bv (MG K U) BN (AD (Nw (NQ K U) (pv 2) (LY AJ) Ph) AI) U U U U U U) AI))) CJ) (AH (CC (CA EE (BZ (DE K U) (pv 2) AJ (λ_ _=>U)) BN (BL _)) (AF (CO (AD (FQ JZ U T.Ô JS (AD (BG T.Ľ (xF T) L U (AD (fD T 3 (pv 0)) (AD (BG T.Ļ (xy T) L U (AD (BZ (DE K U) (pv 2) AJ (λ_ _=>U)) AI)) AI))) AI)) AI))) CJ) (AF (Pa (CA (UN K U) (BZ (DE K U) (pv 2) AJ (λ_ _=>U)) (JR (v:=.ref a.î) U T.Ĉ U) (by with_unfolding_all rfl)) (KI (K:=K) U T.Û.cl T.ć (xY T) L uf (pv 0) (AD (BZ (DE K U) (pv 2) AJ (λ_ _=>U)) AI)) (KI (K:=K) U T.Û.cl T.Ř (ya T) L uh (pv 0) (AD (BZ (DE K U) (pv 2) AJ (λ_ _=>U)) AI)))))))),?_⟩;walk;intro D1 af;x_fa H1 k G;have M1:=M.same k;have I1:=M1.ins;have J1:=M1.b.Ę.ins;obtain⟨y,B,c⟩:∃y B,Txt.split x (" ":ϥ)=y::B:=(by cases Y<;>exact⟨_,_,by assumption⟩);have Y:Qx a S H p d x Q E:=Y;rw[c]at G J;have J:B.length+1<=_:=J;walk;refine LH D1 y B U G (by lia) ?_;have ai:DP ((y::B).map V.str) 0=some (V.str y):=FR (j:=0) U;refine AU _ U ?_;rw[show KA (y::B)=true by rw[<-c];exact Z];refine AK ?_;cases Y with|copy ws js h aa ho =>(obtain⟨rfl,rfl⟩:=Cz (c.symm.trans h);walk;refine BY D1 _ U (AC.of G) (λp2 ag=>?_);rw[yb];x_fa H2 C ac;have o:=k.trans C;have ab:(B.map (·.length)).sum+B.length*(" ":ϥ).length<=16777216:=(by have a:=QU (λy:ϥ=>y.length) 1000 B λz hz=>(by have h:=(wO (d:=32) (show z∈Txt.split x " " by rw[c];exact Ac _ hz)).2;rw[show Str.join ⟨#[32]⟩ (Txt.split x " ")=x from StrLaws.join_split ..]at h;have e1:z.cps.toList.length=z.length:=Au;have e2:x.cps.toList.length=x.length:=Au;lia);have a:=a;have e:(" ":ϥ).length=1:=(by lk);rw[e];lia);refine DZ _ p2 B U U (AC.of ac) ab ?_;walk;exact DC p S D d _ (MW js (GC U (M.same o) aa (ho.same o λrw hq r D' H' h1=>hq r D' H' (o.free h1)))))|tick z n h I hn hv ok b q =>(obtain⟨rfl,rfl⟩:=Cz (c.symm.trans h);walk;refine⟨D1,_,_,_,U,U,AC.of G,yc z,z,U,I,hn,λH2 C=>?_⟩;rw[hv];have M2:=M1.same C;walk;refine DC D.pm D.A d.cf d.m n (GC U M2.b.Ę M2.b.ok (λA3 H3 M3 O=>?_));walk;intro r R;exact q r _ _ (k.free (C.free (O.free R))) ((M2.step O M3 ok).same (BM R _)) AM)|tell z h I ok q =>(obtain⟨rfl,rfl⟩:=Cz (c.symm.trans h);obtain⟨n1,n2⟩:=iB y (Ce _ I);walk;rw[X,n1];refine AK ?_;walk;rw[X,n2];refine AK ?_;walk;refine MY _ _ U (.inr (hc _)) U (Si JN) ?_;rw[show ∀b:Bool,(if false=true then !b else b)=b from λ_=>U,show MF (.str y) [.str ("lines":ϥ),.str ("gaps":ϥ),.str ("keys":ϥ),.str ("need":ϥ)]=decide (y∈JN)from Sh y JN,Ab I];refine AU _ U (BB ?_);walk;exact DC p S D d y (MX U M1 ok I (λr xs H' h1 h2=>q r xs H' (k.free h1) (k.trans h2))))|play z h I i =>obtain⟨rfl,rfl⟩:=Cz (c.symm.trans h);obtain⟨n1,n2⟩:=iB y (Bm _ I);walk;rw[X,n1];refine AK ?_;walk;rw[X,n2];refine AK ?_;walk;refine MY _ _ U (.inr (hc _)) U (Si JN) ?_;rw[show ∀b:Bool,(if false=true then !b else b)=b from λ_=>U,show MF (.str y) [.str ("lines":ϥ),.str ("gaps":ϥ),.str ("keys":ϥ),.str ("need":ϥ)]=decide (y∈JN)from Sh y JN,yd y I];refine AU _ U (AK ?_);walk;exact DC p S D d y (IQ U M1 (i.same k))
def iD(a:Ad):Sp:=λi H Q _=>∃(p j:Ϡ) (c:ϩ BS) (z:Int) (d:Hp),i=[.ref p,.str (Q2 c),.int z]/\H p=some (.ins a.Ć j [])/\YB c/\(1<=z/\z<=20)/\d p=none/\AA d H/\Mc.Ok ⟨c,"",z⟩ (Mc.start c)/\(∀r∈c,0<=r.n/\r.n<=1000)/\∀D e,BR a d e p D ⟨c,z,[],"",Mc.start c⟩->Q .non e
def iE(T:Tx P w base K mg a):CF P w K mg base IW 6 a.ĵ a.į ["self","case_text","casting"] (iD a):=by refine T.Û.fn.ok u7 (by fin2) (λah A outer s H vs Q E hr h=>?_);revert vs;refine VZ λp dx rs z Z hp ag S Y s0 o rn q=>?_;have I0:ID a H p (List.replicate Nk.length none):=⟨dx,[],hp,FS.nil (by lk)⟩;refine⟨_,(AH (sD T 0 (pv 0) (BG T.ŏ (wU T) hr U (AZ 1))) (AH (CC (KS (Zu Ng Ng AJ (pv 2) (JR (v:=.int 20) U T.ā ⟨_,U⟩))) (BV LI) CJ) (AH (sD T 1 (pv 0) (pv 2)) (AH (sD T 2 (pv 0) (CO AI)) (BV (sD T 3 (pv 0) (R5 T.Machine (Rr T) hr U (AD (fD T 0 (pv 0)) (AD BN (AZ 2)))))))))),?_⟩;walk;refine λD xs H1 ac C O ab=>?_;have I1:=I0.same C;walk;refine λH2 I2 k2=>?_;have o2:=(Mc.CU.of_same (p:=p) C).trans (Mc.CU.À k2);walk;rw[Ab S.1];refine BB ?_;walk;rw[Ab S.2];refine AK ?_;walk;refine λH3 I3 k3=>?_;have o3:=o2.trans (Mc.CU.À k3);walk;refine λR y=>?_;have B:=BM y (.lst []);have J:upd H3 R (.lst []) R=some (.lst []):=AM;have I4:=I3.same B;generalize upd H3 R (.lst [])=H4 at B J I4⊢;walk;refine λG I5 k5=>?_;have f2:Mc.CU p H2 G:=((Mc.CU.À k3).trans (Mc.CU.of_same B)).trans (Mc.CU.À k5);have f1:=(Mc.CU.À k2).trans f2;have n4:=Rc I3 y;have aa:=Tv I1 O;have L:=f1 _ _ aa O;have c2:=Qn (Mc.CU.keep I1 f1) ab;have c4:=Mc.CU.À k5 _ _ n4 J;walk;refine λp0 ae i d af=>⟨p0,D,ae,⟨rs,"",z⟩,xs,U,AM,?_,?_,o.cf,U,rn,λX H7 M0 I fr0=>⟨U,?_⟩⟩;rw[BJ (DR L i),BJ (DR L d)];exact L;exact EO c2 λb u c=>(by rw[BJ (DR c i),BJ (DR c d)];exact c);have j:=Rf i d I;have k:∀b∈X.all,G b=none:=λb c=>RZ i d (fr0 b c);have I7:=I5.same j;have r:∀{b:Ϡ}{o:HO},G b=some o->b∉X.all:=λ{b o} h c=>(by rw[k b c]at h;cases h);have o5:Mc.CU p H G:=(Mc.CU.of_same C).trans f1;have s5:AA Z G:=λb u c=>o5 b u (λe=>by rw[e,Y]at c;cases c) (s0 b u c);have B7:OP a Z H7 p ⟨D,R,p0,X⟩ ⟨rs,z,[],"",Mc.start rs⟩ :=⟨⟨xs,j _ _ L,EO c2 j⟩,⟨[],j _ _ c4,.nil⟩,M0,(λe=>by obtain⟨dx,fs,e2,_⟩:=I5;rw[<-e,i]at e2;cases e2),r L,r c4,o,s5.trans j,Y,s5.free i,(λb c=>s5.free (k b c)),s0.free ac,(show AA Z H3 from λb u c=>o3 b u (λe=>by rw[e,Y]at c;cases c) (s0 b u c)).free y⟩;walk;refine λH8 I8 k8=>?_;exact q ⟨D,R,p0,X⟩ H8 ⟨I8,B7.off I7 k8⟩
theorem iF:∀{xs:ϩ V}{ys:ϩ HW},Paired (GJ S H) xs ys->Paired (GJ (λb=>S b/\∃t g,V.ref t∈xs/\H t=some (.tup [.ref b,.ref g])) H) xs ys|_,_,.nil=>.nil|_,_,.cons ⟨t,p,g,e,c,d,z3,i⟩ r=>.cons ⟨t,p,g,e,c,⟨d,t,g,by rw[e];exact Aa,c⟩,z3,i⟩ (Paired.Æ (iF r) λ_ _ j=>by obtain⟨t,p,g,e,c,⟨d,k,s,m,o⟩,z3,i⟩:=j;exact⟨t,p,g,e,c,⟨d,k,s,Ac _ m,o⟩,z3,i⟩)
def ye(h:Paired (GJ S H) xs ys)(d:V.ref t∈xs)(k:H t=some (.tup [.ref b,.ref g])):S b/\∃z,H b=some (.lst z):=by obtain⟨i,o⟩:=Dl.mp d;obtain⟨r,_,s,p,v,e,c,j,z3,_⟩:=FD h o;cases e;rw[k]at c;cases c;exact⟨j,_,z3⟩
def BR.ground{a:Ad}{D:Da}(M:BR a H0 H p D d):∃O:Ϡ->Prop,(∀b,O b->H0 b=none/\∃o,H b=some o/\∀z,o≠.tup z)/\∀{i j:Hp},Mc.BK O H i->AA j i->(∀b,O b->j b=none)->BR a j i p D d:=by obtain⟨⟨Y,fs,e,f⟩,B⟩:=M;obtain⟨J,C,Q⟩:=B.case;obtain⟨G,y,r⟩:=B.comp;obtain⟨Z,L,E,fM⟩:=B.Ę.ins;refine⟨λb=>b=p\/b=D.pm\/b∈D.A.all\/b=D.l\/b=D.q\/∃t g,V.ref t∈G/\H t=some (.tup [.ref b,.ref g]),λb c=>?_,λ{i j} k s n=>?_⟩;rcases c with rfl|rfl|c|rfl|rfl|⟨t,g,m,I⟩;exact⟨B.np,_,e,λz=>nofun⟩;exact⟨B.nm,_,E,λz=>nofun⟩;obtain⟨xs,S⟩:=B.Ę.li.is b c;exact⟨B.nA b c,_,S,λz=>nofun⟩;exact⟨B.nl,_,C,λz=>nofun⟩;exact⟨B.nq,_,y,λz=>nofun⟩;obtain⟨⟨_,X⟩,z,R⟩:=ye r m I;exact⟨X,_,R,λz=>nofun⟩;have v:∀b z,H b=some (.tup z)->i b=some (.tup z):=λb z h=>k _ _ h (.inr ⟨z,U⟩);exact⟨⟨Y,fs,k _ _ e (.inl (.inl U)),f⟩,⟨J,k _ _ C (.inl (.inr (.inr (.inr (.inl U))))),Paired.Æ Q λ_ _ ⟨p,e,z⟩=>⟨p,e,v _ _ z⟩⟩,⟨G,k _ _ y (.inl (.inr (.inr (.inr (.inr (.inl U)))))),YJ (iF r) v λb z s h=>⟨k _ _ h (.inl (.inr (.inr (.inr (.inr (.inr s.2)))))),s.1.1,n b (.inr (.inr (.inr (.inr (.inr s.2)))))⟩⟩,⟨⟨Z,L,k _ _ E (.inl (.inr (.inl U))),fM⟩,B.Ę.nd,B.Ę.li.keep k λb c=>.inr (.inr (.inl c))⟩,B.pne,B.lA,B.qA,B.ok,s,n _ (.inl U),n _ (.inr (.inl U)),λb c=>n _ (.inr (.inr (.inl c))),n _ (.inr (.inr (.inr (.inl U)))),n _ (.inr (.inr (.inr (.inr (.inl U)))))⟩
noncomputable def Qy (O:ϝ) (H:Hp):Hp:=λb=>@ite _ (O b) (Classical.propDecidable _) none (H b)
def YN(h:O b):Qy O H b=none:=by unfold Qy;rw[B1 h]
def YO(h:¬O b):Qy O H b=H b:=by unfold Qy;rw[Av h]
def iG:AA (Qy O H) H:=λb o h=>by
 by_cases n:O b
 .rw[YN n]at h
  cases h
 .rwa [YO n]at h
def YQ{S:ϝ}{C:Ϡ}{ns:ώ}{c:Cf}{H d:Hp}{q:Ϡ}{A:Mc.DL}{m:Ms}(M:Mc.ET C ns c H q A m)(u:∀b o,H b=some o->(S b\/∃z,o=.tup z)->d b=some o)(i:S q)(hA:∀b∈A.all,S b):Mc.ET C ns c d q A m:=by refine EX (λj fs e F=>?_) M.ins;exact⟨⟨j,fs,u _ _ e (.inl i),F⟩,M.nd,M.li.keep u hA⟩
section
variable {a:Ad}{H0 H H':Hp}{p q:Ϡ}{D:Da}{d:Dk}{c:Cf}{A A':Mc.DL}{m m':Ms}
def iH(v:∀b,O b->H0 b=none/\∃o,H b=some o/\∀z,o≠.tup z)(k:Mc.BK O H H')(b:Ϡ)(o:HO)(h:H' b=some o)(e:¬O b\/∃z,o=.tup z):Qy O H' b=some o:=by rcases e with e|⟨z,rfl⟩;rw[YO e];exact h;rw[YO λi=>?_];exact h;obtain⟨_,s,r,j⟩:=v b i;have:=k b s r (.inl i);rw[h]at this;exact j z (B0 this).symm
theorem BR.tick(M:BR a H0 H p D d)(M1:MA a c H0 q A m)(st:Mc.AY q A H A' H')(M2:MA a c H' q A' m'):∃v,BR a v H' p D d/\MA a c v q A' m'/\Mc.AY q A H0 A' v:=by refine AS (λO i J=>?_) M.ground;refine EX (λR Q r _=>?_) M1.ins;have E:∀b,O b->b≠q/\b∉A.all:=λb e=>⟨(λz=>by rw[z]at e;rw[(i _ e).1]at r;cases r),λz=>by obtain⟨L,I⟩:=M1.li.is b z;rw[(i _ e).1]at I;cases I⟩;have k:Mc.BK O H H':=λb o h y=>st.fr b o h (y.imp (E b) id);have s:∀{b o},H0 b=some o->¬O b:=λ{b o} h e=>(by rw[(i b e).1]at h;cases h);have C:=iH i k;refine HA (Qy O H') (J k iG λb e=>YN e) (YQ (S:=λb=>¬O b) M2 C (s r) λb e G=>?_) ⟨λb o h y=>C b o (st.fr b o (M.b.sm b o h) y) (.inl (s h)),λb e=>(st.nw b e).imp id M.b.sm.free,λb o h=>?_⟩;rcases st.nw b e with z|z;exact(E b G).2 z;obtain⟨_,B,j,_⟩:=i b G;rw[z]at j;cases j;obtain⟨B,j⟩:=st.al b o (M.b.sm b o h);exact⟨B,C b B j (.inl (s h))⟩
def BR.grow(M:BR a H0 H p D d)(s:AA H H'):∃i,BR a i H' p D d/\AA H0 i/\∀b o,H' b=some o->(H b=none\/∃z,o=.tup z)->i b=some o:=by refine AS (λO j B=>?_) M.ground;have k:Mc.BK O H H':=Mc.BK.of_same s;have v:=iH j k;exact HA (Qy O H') (B k iG λb e=>YN e) (λb o h=>v b o (s b o (M.b.sm b o h)) (.inl λe=>by rw[(j b e).1]at h;cases h)) (λb o h y=>v b o h (y.imp (λn e=>by obtain⟨_,C,r,_⟩:=j b e;rw[n]at r;cases r) id))
end
def yf(c)(m):(Mc.Ð c m).Ä<=m.Ä+1/\m.Ä<=(Mc.Ð c m).Ä:=by unfold Mc.Ð;split;lia;split;unfold Mc.send;lia;split;show m.Ä<=m.Ä+1/\m.Ä<=m.Ä;lia;split;lia;split;(.unfold Mc.pick;split<;>(show m.Ä<=m.Ä+1/\m.Ä<=m.Ä;lia));lia
def Wk(c:Cf)(m:Ms):Prop:=0<=m.Ä/\m.Ä<=m.done/\m.done+(CT c m:Int)<=20000
theorem Wk.run:∀(n:Nat) {m:Ms},Mc.Ok c m->Wk c m->Mc.Ok c (CZ c n m)/\Wk c (CZ c n m)/\m.done<=(CZ c n m).done|0,_,O,h=>⟨O,h,Dj _⟩|n+1,m,O,h=>by cases i:JM c m with|true =>rw[PN i];exact IQ O h (Dj _)|false =>rw[R9 i];have j:=R8 O i;have d:=yf c (Mc.é (Mc.ß c m));rw[(Mc.Xw _).2.2.2.2,(Mc.Xv c m).2.2.2.2.2.2]at d;have d:(Mc.tick c m).Ä<=m.Ä+1/\m.Ä<=(Mc.tick c m).Ä:=d;have k:=XD c m;revert h;refine ED λa b e=>?_;have:=Wk.run n O.tick (show Wk c (Mc.tick c m)from⟨by lia,by lia,by lia⟩);exact IQ this.1 this.2.1 (by lia)
def Wk.start{K:ϥ}(hK:K.length<=1000)(d:z<=12):Wk ⟨rs,K,z⟩ (Mc.start rs):=by have h:=QU (wt ⟨rs,K,z⟩) 13 K.cps.toList λk _=>(by unfold wt;split;show 1+z.toNat<=13;lia;split<;>lia);have e:K.cps.toList.length=K.length:=Au;have c:CT ⟨rs,K,z⟩ (Mc.start rs)=(K.cps.toList.map (wt ⟨rs,K,z⟩)).sum:=U;refine IQ (Dj _) (Dj _) ?_;rw[c];show(0:Int)+_<=_;lia
def yg{P}{w}{K}{mg}{base}(F:CF P w K mg base (Mr P w) k f c ps sp)(h:∀vs H Q E,sp0 vs H Q E->sp vs H Q E0):CF P w K mg base IW k f c ps sp0:=by refine⟨λvs H Q E q=>F.len vs H Q E0 (h _ _ _ _ q),λA outer s H args o vs Q E i p d v j=>Ec (F.run A outer s H args o vs Q E0 i p d v (h _ _ _ _ j)) λr y z=>?_⟩;cases r with|ok fl =>(cases fl with|ret u=>exact z|next=>exact z|brk=>exact z|cont=>exact z)|error e =>revert z;refine HX λ_ _ _ _=>MV λ_ _ _ _ _ _ _ z=>?_;exact z
def LN(e:upd H p o=H1)(c:H p=none):AA H H1/\H1 p=some o:=by subst e;exact⟨BM c _,AM⟩
def YR{K}(h:H r=some (.lst (xs.map V.str)))(c:∀x∈xs,PyData.canLay0 (.str x)=true):JT K H (.ref r) (UY xs):=.lst (AC.of h) (UZ c)
def Sj{K:ϡ}{c:Bool}{H:Hp}{r p:Ϡ}{xs:ώ}{Q:VK}(i:H r=some (.lst (xs.map V.str)))(e:H p=some (.lst (xs.map V.str)))(d:∀x∈xs,PyData.canLay0 (.str x)=true)(q:Q (.bl !c) H):Nz K c (.ref r) (.ref p) H Q :=
 ⟨_,_,YR i d,YR e d,Ln.nY _ _,by
   rw[XC (YR (K:=K) e d)];cases c<;>exact q⟩
def OQ{K:ϡ}{c:Bool}{H:Hp}{r:Ϡ}{xs:ώ}{Q:VK}(h:H r=some (.lst (xs.map V.str)))(i:∀x∈xs,PyData.canLay0 (.str x)=true)(q:∀e,AA H e->Q (.bl !c) e)(p:Ϡ)(d:H p=none):Nz K c (.ref r) (.ref p) (upd H p (.lst (xs.map V.str))) Q:=Sj (BM d _ _ _ h) AM i (q _ (BM d _))
def OR(s:String):PyData.canLay0 (.str (Str.ofString s))=true:=by show((Str.ofString s).cps.all λc=>decide (c<0x110000))=true;rw[<-Gb,Bw];intro c d;rw[PyProof.Rows.signs_ofString]at d;obtain⟨x,_,rfl⟩:=Bq.mp d;have:=x.valid;refine Ab ?_;rcases this with h|h;exact Ff h (by lk);exact h.2
theorem YS:∀xs:ώ,(∀x∈xs,PyData.canLay0 (.str x)=true)->PyData.canLay0 (.str (AE xs))=true
 |[],_=>by decide +kernel|[x],h=>by rw[NU];exact h x Aa
 |x::y::xs,h=>by rw[LB x (Bo _ _)];exact Tt (Tt (h x Aa) (by room)) (YS (y::xs) λz c=>h z (Ac _ c))
def yh(g:Int×Int):PyData.canLay0 (.str (KC g))=true:=by unfold KC;split;exact OR _;exact Tt (Tt (OR _) (by room)) (OR _)
def iI(c:Cf)(m:Ms):PyData.canLay0 (.str (OO c m))=true:=by unfold OO;split;decide +kernel;split<;>decide +kernel
def iJ:∀x∈JN++ON,NW x=[x]/\(x.cps.toList.length<=90000/\∀c∈x.cps.toList,c<128)/\KA (NW x)=true/\x.length<=1000:=by room
def dg:∀d:Fin 10,(Nat.digitChar d.val).toNat=48+d.val:=by lk
def yj(h:d<10):(Nat.toDigits 10 d).map Char.toNat=[48+d]:=by rw[Nat.toDigits_of_lt_base h];exact Bt (λx=>[x]) (dg ⟨d,h⟩)
def yk(h:10<=n):(Nat.toDigits 10 n).map Char.toNat=(Nat.toDigits 10 (n/10)).map Char.toNat++[48+n%10]:=by rw[Nat.toDigits_of_base_le (by lk) h,Ae];exact Bt (λx=>_++[x]) (dg ⟨n%10,Nat.mod_lt _ (by lk)⟩)
theorem YT:∀(k n:Nat),n<10^(k+1)->1<=((Nat.toDigits 10 n).map Char.toNat).length/\((Nat.toDigits 10 n).map Char.toNat).length<=k+1/\(∀c∈(Nat.toDigits 10 n).map Char.toNat,48<=c/\c<=57)/\(0<n->((Nat.toDigits 10 n).map Char.toNat)[0]?≠some 48)/\(n=0->((Nat.toDigits 10 n).map Char.toNat).length=1)|0,n,h=>by rw[yj h];refine⟨A9 1,A9 1,λc i=>?_,λv e=>?_,λ_=>U⟩;rw[Ah.mp i];lia;have:=B0 e;lia|k+1,n,h=>by by_cases r:n<10;have d:=YT 0 n r;exact⟨d.1,by have:=d.2.1;lia,d.2.2⟩;obtain⟨o,s,p,j,_⟩:=YT k (n/10) (by rw[Nat.pow_succ]at h;lia);rw[yk (by lia),Ag];refine⟨Nat.le_add_left 1 _,by show _+1<=_;lia,λc i=>?_,λ_=>?_,λe=>by lia⟩;rcases Be.mp i with z|z;exact p c z;rw[Ah.mp z];lia;rw[Cv o];exact j (by lia)
def ym{n:Nat}(h:n<10000):IF (CY (n:Int))=true/\IG (CY (n:Int))=(n:Int):=by refine⟨?_,?_⟩;refine HP (λk i d j o=>?_) (YT 3 n h);rw[<-PySem.W.KIN.signs_num]at k i d j o;unfold IF;simp only[Ar,J0,Bool.and_eq_false_iff,D3,Ej,Bw];refine⟨⟨?_,k,i⟩,λc p=>?_⟩;by_cases e:n=0;exact .inl (by rw[o e];decide);exact .inr (j (by lia));unfold PU;rw[Ab (d c p).1,Ab (d c p).2];rfl;unfold IG;rw[K5 (Ko n) (by lia)];rfl
def yn(h:IF x=true):TW x:=by have d:=TB h;refine⟨d.1,by lia,λc e=>?_⟩;unfold IF at h;simp only[Ar]at h;have:=Bw.mp h.2 c e;unfold PU at this;simp only[Ar,D3]at this;lia
def iK(h:TW x):AW x:=⟨by
 have e:x.cps.toList.length=x.length:=Au;have i:=h.l2
 lia,λc d=>(h.as c d).1⟩
theorem iL:∀{ws:ώ},(∀x∈ws,TW x)->∀c∈(AE ws).cps.toList,c<128
 |[],_,c,d=>by rw[show(AE []).cps.toList=[] by room]at d;cases d|[x],h,c,d=>by rw[NU]at d;exact((h x Aa).as c d).1
 |x::y::r,h,c,d=>by rw[LB x (ys:=y::r) (λz=>nomatch z),IC,IC]at d;rcases Be.mp d with d|d;rcases Be.mp d with d|d;exact((h x Aa).as c d).1;rw[show(" ":ϥ).cps.toList=[32] by room]at d;rw[Ah.mp d];decide;exact iL (ws:=y::r) (λz e=>h z (Ac _ e)) c d
def iM(h:∀x∈ws,TW x)(d:ws.length<=76)(c:KA (NW (AE ws))=true):iA (AE ws):=by have i:=Cp.Re h;have e:(AE ws).cps.toList.length=(AE ws).length:=Au;exact⟨⟨by lia,iL h⟩,c,by lia⟩
structure MT(rs:ϩ BS)(ws:ώ)(js:ϩ (DS 4)):Prop where
 ne:ws≠[]
 Ĕ:ws.length<=60
 tw:∀y∈ws,TW y
 rd:S5 ws=some js
 gd:∀j∈js,LM 4 j
 jl:js.length<=1000
 f:(FA js).1.length<=60/\NH (FA js).1<=400
 pc:∀p∈(FA js).1,Pc rs p
 wd:∀r∈rs,2<=r.w/\r.w<=10
def MT.x(C:MT rs ws js):VL rs (AE ws) js:=by have c:MO (AE ws)=ws:=(by unfold MO;rw[Av (Cp.rO C.ne C.tw)];exact XX C.ne C.tw);have j:=Cp.Re C.tw;have i:=C.Ĕ;have e:(AE ws).cps.toList.length=(AE ws).length:=Au;exact⟨by lia,by rw[c];exact λy d=>iK (C.tw y d),by rw[c];exact C.rd,C.gd,C.jl,C.f,C.pc,C.wd⟩
def iN{ws:ώ}(h:∀x∈ws,TW x):decide (("":ϥ)∈ws)=false:=Aj λz=>absurd (h _ z).l1 (by lk)
section
variable {a:Ad}{H0 H:Hp}{p:Ϡ}{D:Da}{d:Dk}{x:ϥ}{Q:VK}{E:XK}
def OT(M:BR a H0 H p D d)(c:x∈ON)(i:HM a H0 H p d x Q):Rx a [.ref p,.str x] H Q E:=by obtain⟨j,e⟩:=iJ x (Bm _ c);exact DC p H0 D d x (GC U M e (.play x j c i))
def iO(M:BR a H0 H p D d)(e:x∈JN)(ok:JF d)(q:∀r xs c,H r=none->AA H c->c r=some (.lst (xs.map V.str))->Qw d x xs->Q (.ref r) c):Rx a [.ref p,.str x] H Q E:=by obtain⟨j,i⟩:=iJ x (Ce _ e);exact DC p H0 D d x (GC U M i (.tell x j e ok q))
def iP(M:BR a H0 H p D d)(e:Wk d.cf d.m)(q:∀r j c,H r=none->BR a H0 c p j { d with m:=Mc.fin d.cf d.m }->c r=some (.lst [.str (CY ((Mc.fin d.cf d.m).done-d.m.done))])->Q (.ref r) c):Rx a [.ref p,.str "run"] H Q E :=
 OT M (by lk) (.run U (by
  have h:=e.run (CT d.cf d.m) M.b.ok;unfold Mc.fin;have i:=h.2.1;unfold Wk at i e
  lia) q)
def yo{n:Nat}(M:BR a H0 H p D d)(G:n<10000)(v:Wk d.cf d.m)
 (q:∀r C o,H r=none->BR a H0 o p C { d with m:=CZ d.cf n d.m }->o r=some (.lst [.str (CY ((CZ d.cf n d.m).done-d.m.done))])->Q (.ref r) o):Rx a [.ref p,.str ("tick "++CY (n:Int))] H Q E:=by
 obtain⟨c,s⟩:=ym G;have i:∀y∈[("tick":ϥ),CY (n:Int)],TW y:=λy k=>by
  rcases Al.mp k with rfl|k
  .exact PX (by room)
  .rw[Ah.mp k];exact yn c
 have z:NW (AE [("tick":ϥ),CY (n:Int)])=[("tick":ϥ),CY (n:Int)]:=XX (Bo _ _) i;have e:("tick ":ϥ)++CY (n:Int)=AE [("tick":ϥ),CY (n:Int)]:=by
  rw[LB _ (Bo _ _),NU];exact Bt (·++ _) (by room)
 have B:KA (NW (AE [("tick":ϥ),CY (n:Int)]))=true:=by
  rw[z];unfold KA;rw[iN i];rfl
 have j:=v.run n M.b.ok;rw[e];exact DC p H0 D d _ (GC U M (iM i (by show 2<=76;decide) B) (.tick _ n z (iK (i _ (Ac _ Aa))) c s j.1 (by have c:=j.2.1;have s:=j.2.2;unfold Wk at c v;lia) q))
def YU{ws:ώ}{js:ϩ (DS 4)}(M:BR a H0 H p D d)(C:MT d.rs ws js)(h:Rv a.Ç H d.rs (FA js).1 E (YM a H0 H p d Q)):Rx a [.ref p,.str ("copy "++AE ws)] H Q E:=by
 have c:=C.ne;have r:=C.Ĕ;have tw:∀y∈("copy":ϥ)::ws,TW y:=λy i=>by rcases Al.mp i with rfl|i;exact PX (by room);exact C.tw y i
 have e:("copy ":ϥ)++AE ws=AE (("copy":ϥ)::ws):=by rw[LB _ c];exact Bt (·++ _) (by room)
 have j:NW (AE (("copy":ϥ)::ws))=("copy":ϥ)::ws:=XX (Bo _ _) tw;have k:KA (NW (AE (("copy":ϥ)::ws)))=true:=by
  rw[j];unfold KA;rw[iN tw];show decide (2<=(("copy":ϥ)::ws).length)=true;cases ws with
  | nil=>exact absurd U c
  | cons y o=>exact Ab (by rw[Bb,Bb];lia)
 rw[e];exact DC p H0 D d _ (GC U M (iM tw (by rw[Bb];lia) k) (.copy ws js j C.x h))
end
def Ol:T.N 21 1 (λvs H Q _=>Rx a vs H Q E0):=yg (iC T) λ_ _ _ _ h=>h
def yp{D:Ϡ}(j:Nat->ϩ V->St->Hp->Prop)(r:j 0 [] c (upd H D (.lst [])))(z:∀i ys c H,i<n->j i ys c H->g (.int (lo+i*st)) c H λd s=>tc d s λb o=>if b=true then v d o (Pu D n i j d)else Qk n i j d o)(hd:∀ys c H,j n ys c H->Q (.ref D) H) :
 Qj (ML lo st n) g tc v D Q c H:=by
 refine AU (λi m c H=>m=n-i/\i<=n/\∃ys,j i ys c H) ⟨n,by simp,B8 _,[],r⟩ ?_;rintro i m c H ⟨rfl,B,ys,p⟩;by_cases k:i<n
 .refine .inr ⟨k,λx C y=>?_⟩;obtain⟨e,y⟩:=y;subst e y;exact z i ys c _ k p
 .have e:i=n:=by lia
  subst e;exact .inl ⟨A9 _,hd ys c H p⟩
def yq:∀(t:Fin 128) (j:Fin 7),((Builtin.bitAnd ((t.val:Int)/2^(6+(j.val:Int)*-1).toNat) 1).natAbs<1900/\(Str.ofString (toString (Builtin.bitAnd ((t.val:Int)/2^(6+(j.val:Int)*-1).toNat) 1))).cps.toList=[(MS t.val).getD j.val 0]):=by room
def yr:∀t:Fin 128,(Txt.join "" ((MS t.val).map sg)).cps.toList=MS t.val:=by room
def yt(c:t<128):Txt.join "" ((MS t).map sg)=IP t:=QW (yr ⟨t,c⟩)
def yu:Sp:=λd H Q _=>∃t:Nat,d=[.int (t:Int)]/\t<128/\∀c,AA H c->Q (.str (IP t)) c
def yv:T.F 1 37 yu:=by
 refine BX T.ı.fn t5 ?_;k_ne;revert vs;refine Oo λt B q=>?_;refine AU _ (@AF _ _ _ _ (@EG K _ _ _ _ _ _ _ _ _ _ _ _ Bi Bu Bv (MG K U) BN (AD (CW ["teeth","place"] [] 1 (d9 U T.É (AD (AX LU (JR (v:=.int 7) U T.Ü ⟨_,U⟩) AJ) (AD (Nt Nv AJ) (AD (Nt Nv AJ) AI)))) (BD 1) EU (FQ JZ U T.Ô JS (AD (AX Zm (AX kz (pv 0) (pv 1)) AJ) AI))) AI) U U U U U U)) ?_;walk;refine LH _ _ _ U ⟨by lk,by lk,by lk,by lk⟩ ⟨by lk,by lk,by lk⟩ (λD hD=>?_);let Izz:zU:=λj p i k=>∃(y:Ϩ V),i=[some (.int (t:Int)),y]/\AA H k/\k D=some (.lst p)/\p=(((MS t).take j).map sg).map V.str
 refine yp (lo:=6) (st:=-1) (n:=7) Izz
  ?_ ?_ ?_
 exact IS none U (BM hD _) AM U
 .refine λj p i k r z=>?_;revert i;refine KN λy s o c=>?_;subst c;walk;have C:=yq ⟨t,B⟩ ⟨j,r⟩;have d:=r;have e:Str.ofString (toString (Builtin.bitAnd ((t:Int)/2^(6+(j:Int)*-1).toNat) 1))=sg ((MS t)[j]'d):=QW (by
   rw[show(MS t)[j]'d=(MS t).getD j 0 by rw[Bf,A6 d];rfl];exact C.2)
  refine⟨Ff C.1 (by lk),?_⟩;rw[e];refine EI r o (by rw[A3,A3,Ao];lia) ⟨_,U,DF s hD,AM,?_⟩;rw[Am,A6 d,Ae,Ae];rfl
 refine λp i k z=>?_;revert i;refine KN λy s o c=>?_;subst c;rw[Ai (A9 7)]at o;refine DZ _ D ((MS t).map sg) U U (AC.of o) (C5 U) ?_;rw[yt B];exact q _ s
def yw(K:ϡ):Sp:=λd H Q _=>∃(t:Ϡ) (r:BS),d=[.ref t]/\H t=some (.tup (FU r))/\IH r/\∀c,AA H c->Q (.str (EA r)) c
def yx:T.F 2 41 (yw K):=by refine BX T.ŋ.fn TY ?_;k_ne;obtain⟨t,⟨i,G,O,L⟩,rfl,I,z,q⟩:=h;obtain⟨Z,X,S,Y,J,h6⟩:1<=G/\G<=99/\0<=O/\O<=127/\0<=L/\L<=40:=z.2;obtain⟨e,rfl⟩:=Bx (show 0<=G by lia);obtain⟨c,rfl⟩:=Bx S;obtain⟨d,rfl⟩:=Bx J;have a1:e<100:=(by lia);have a2:c<128:=(by lia);have a3:d<100:=(by lia);refine FY (λv r o k=>?_) (YA z);have E:∀y∈LD ⟨i,(e:Int),(c:Int),(d:Int)⟩,y.length<=7:=λy R=>(by simp only[LD,Al,Bl,Dd]at R;rcases R with rfl|rfl|rfl|rfl;exact Aw v.1 (by lk);exact Aw r.1 (by lk);exact o.1;exact Aw k.1 (by lk));clear v r o k;have B:H t=some (.tup [.str i,.int (e:Int),.int (c:Int),.int (d:Int)]):=I;clear z Z X S Y J h6 I;refine⟨_,(AH (IU (pv 0) (ES K U (n:=4) U (BO (AQ 1 TY.nd) (BO (AQ 2 TY.nd) (BO (AQ 3 TY.nd) (BO (AQ 4 TY.nd) EL)))))) (@AF _ _ _ _ (@EG K _ _ _ _ _ _ _ _ _ _ _ _ Bi Bu Bv (MG K U) BN (AD (CO (AR 1 (AD (FQ JZ U T.Ô JS (AZ 2)) (AD (BG T.ı (yv T) hr U (AZ 3)) (AD (FQ JZ U T.Ô JS (AZ 4)) AI))))) AI) U U U U U U))),?_⟩;refine⟨_,U,_,_,U,BP.of B,U,?_⟩;x_go;x_go;x_go;x_go;(try refine And.intro U ?_);walk;(try refine⟨c,U,a2,?_⟩);intro Q C;walk;intro p hp;have s:=BM hp (.lst [.str i,.str (Str.ofString (toString (e:Int))),.str (IP c),.str (Str.ofString (toString (d:Int)))]);have j:upd Q p (.lst [.str i,.str (Str.ofString (toString (e:Int))),.str (IP c),.str (Str.ofString (toString (d:Int)))]) p=some (.lst ((LD ⟨i,e,c,d⟩).map V.str)):=AM;generalize upd Q p (.lst [.str i,.str (Str.ofString (toString (e:Int))),.str (IP c),.str (Str.ofString (toString (d:Int)))])=H2 at s j⊢;refine DZ _ p (LD ⟨i,e,c,d⟩) U U (AC.of j) (V2 (by show 4<=100;decide) (λx hx=>Aw (E x hx) (by lk))) ?_;have q:=q _ (C.trans s);unfold EA at q;rw[<-Lns.Tf]at q;exact q
def yy{rs:ϩ BS}(c:rs.length<=40)(h:∀r∈rs,IH r):((rs.map EA).map (·.length)).sum+(rs.map EA).length*("\n":ϥ).length<=16777216:=by have a:=PH (λx:ϥ=>x.length) 15 40 (rs.map EA) (λx i=>by obtain⟨r,d,rfl⟩:=Bq.mp i;exact(VF (h r d)).1) (by rw[A3];exact c);have a:=a;have e:("\n":ϥ).length=1:=(by lk);rw[e,A3];lia
def yz(K:ϡ):Sp:=λi H Q _=>∃(l:Ϡ) (d:ϩ V) (c:ϩ BS),i=[.ref l]/\AC K H l d/\Paired (Cs.FL H) d c/\c.length<=40/\(∀r∈c,IH r)/\∀e,AA H e->Q (.str (Q2 c)) e
def iQ:T.F 3 42 (yz K):=by
 refine BX T.Ė.fn t6 ?_;k_ne;revert vs;refine RB λl I G J p B E q=>?_;have L:=MH p;refine AU _ (@AF _ _ _ _ (@EG K _ _ _ _ _ _ _ _ _ _ _ _ Bi Bu Bv (MG K U) BN (AD (CW ["case","channel"] [] 1 (EV K U (pv 0)) (BD 1) EU (BG T.ŋ (yx T) hr U (AZ 1))) AI) U U U U U U)) ?_;walk;try refine⟨⟨_,J⟩,?_⟩
 intro D hD;let Izz:zU:=λj k e i=>∃(z:Ϩ V),e=[some (.ref l),z]/\AA H i/\i D=some (.lst k)/\k=((G.take j).map EA).map V.str
 refine GN (a:=l) (xs:=I) Izz
  ?_ ?_ ?_ ?_
 exact IS none U (BM hD _) AM U;refine λj k e i S=>DN λ_ _ d _=>?_;exact d.seq J;(.refine λj x k e i Q y C=>?_;revert e;refine KN λz d v c=>?_;subst c;obtain⟨r,o,t,rfl,O⟩:=FD p Q;walk;refine CM t r U (d _ _ O) (E r (Af o)) (λR s=>EI y (s _ _ v) (by rw[A3,A3,Ao];lia) ⟨_,U,DF (d.trans s) hD,AM,?_⟩);rw[Am,o,Ae,Ae];rfl);refine λk e i C=>?_;revert e;refine KN λz d v c=>?_;subst c;rw[Ai (by lia)]at v;exact DZ _ D (G.map EA) U U (AC.of v) (yy B E) (q _ d)
structure FB(rs:ϩ BS)(p:BF):Prop where
 m:20<=p.1/\p.1<=140
 g:∃lo md hi:Int,p.2.1=[lo,md,hi]/\0<=lo/\lo<=3/\3<=md/\md<=5/\6<=hi/\hi<=15
 w:1<=p.2.2.length/\p.2.2.length<=7
 ok:∀x∈p.2.2,Mc.Wd rs 5 x/\x≠"end"
def Mv(no:Ϡ)(H:Hp)(v:V)(p:BF):Prop:=∃t g w,v=.ref t/\H t=some (.tup [.int p.1,.ref g,.ref w])/\H g=some (.tup (p.2.1.map V.int))/\w≠no/\H w=some (.lst (p.2.2.map V.str))
def Mv.same(h:Mv no H v p)(s:∀b o,b≠no->H b=some o->H' b=some o)(c:∃xs,H no=some (.lst xs)):Mv no H' v p:=by revert h;refine Qb λt g w e i d n j=>?_;obtain⟨xs,c⟩:=c;exact DZ t g w e (s _ _ (HB i c λz=>nomatch z) i) (s _ _ (HB d c λz=>nomatch z) d) n (s _ _ n j)
def yA(h:Mc.Wd rs 5 "end"):Mc.Wd rs 5 "dne":=⟨by lk,by lk,λc d=>h.2.2 c (by
 have e:∀c∈("dne":ϥ).cps.toList,c∈("end":ϥ).cps.toList:=by room
 exact e c d)⟩
def YV(b:Bool)(x y:V):DP [x,y] (if b=true then 1 else 0)=some (if b=true then y else x):=by cases b<;>rfl
def yB(zs:ϓ)(i m:Nat):∃ms:ϓ,DV (zs.map V.int) (some (i:Int)) (some ((i:Int)+(m:Int)))=ms.map V.int/\ms.length<=m:=by refine⟨(zs.drop (HT.DK zs.length 0 (some (i:Int)))).take (HT.DK zs.length zs.length (some ((i+m:Nat):Int))-HT.DK zs.length 0 (some (i:Int))),?_,?_⟩;rw[show(i:Int)+(m:Int)=((i+m:Nat):Int) by lia];unfold DV;rw[A3,Gf,Jc];rw[HT.QK,HT.QK,Ao,Cu];lia
def yC(K:ϡ):Sp:=λo H Q _=>∃(l k:Ϡ) (v:ϓ) (i:ϩ V) (d:ϩ BS),o=[.ref l,.ref k]/\AC K H l (v.map V.int)/\H k=some (.lst i)/\Paired (Cs.FL H) i d/\d≠[]/\d.length<=30/\(∀r∈d,∃c∈BQ,r.s=sg c) /\∀(D:Ϡ) (j:ϩ V) (e:ϩ BF) H',H D=none->AA H H'->H' D=some (.lst j)->e.length<=3->Paired (Mv D H') j e->(∀p∈e,FB d p)->Q (.ref D) H'
def yD:T.F 3 74 (yC K):=by
 refine BX T.ĉ.fn OL ?_;k_ne;revert vs;refine Z6 λl pc ns xs rs hS aW aQ aK aI aP q=>?_;refine⟨_,(AH (AL 2 OL.nd (CO AI)) (AH (AL 3 OL.nd AJ) (AH (GZ B6 U (NN U T.É (AD (AX DT AJ (AX GM (AX LV (BG T.Ó (Q1 T) hr U (AR 0 (AD AJ AI))) AJ) AJ)) AI)) (AQ 4 OL.nd) (AH (AL 5 OL.nd (BG T.è (VA T) hr U (AD (AX DT (BG T.Ó (Q1 T) hr U (AR 0 (AD AJ AI))) (pv 4)) (AD AJ AI)))) (AH (AL 6 OL.nd (AX DT AJ (AX GM (BZ (DE K U) (pv 5) AJ (λ_ _=>U)) AJ))) (AH (Pt (i:=7) OL.nd U NM U (EV K U (Nw (NQ K U) (pv 0) (LY (pv 3)) (LY (AX DT (pv 3) (pv 6))))) (DU.of (N':=["_law_script","_law_case_here","_law_found","_law_at","_law_k","_law_some","_law_many","_law_words","_law_gaps","_law_cell_here"]) (ms:=[]) (k:=1) (by rfl)) (λ_ _ _ _ _=>(BD 9)) (λ_ _ _ _ _=>EU) (λ_ _ _ _ _=>(BG T.Ż (uJ T) hr U (AR 1 (AR 9 (AD AJ AI))))))
  (AH (Pt (i:=7) OL.nd U NM U (EV K U (pv 7)) (DU.of (N':=["_law_script","_law_case_here","_law_found","_law_at","_law_k","_law_some","_law_many","_law_words","_law_gaps","_law_word_here"]) (ms:=[]) (k:=1) (by rfl)) (λ_ _ _ _ _=>(BD 9)) (λ_ _ _ _ _=>EU) (λ_ _ _ _ _=>(BZ (DE K U) (CO (AR 9 (AD BN AI))) (FQ Ww U T.Ğ Pp (AD (FH EE (pv 9) BN (BL _)) AI)) (λ_ _=>U))))
  (AH (AL 3 OL.nd (AX DT (pv 3) (pv 6)))
  (AH (AL 8 OL.nd (FP (AD (AX GM (BZ (DE K U) (pv 5) AJ (λ_ _=>U)) AJ) (AD (AX DT AJ (AX GM (BZ (DE K U) (pv 5) AJ (λ_ _=>U)) AJ)) (AD (AX DT AJ (AX GM (BZ (DE K U) (pv 5) AJ (λ_ _=>U)) AJ)) AI)))))
  (@BV _ _ _ (CC (CA (GQ K U hr.units) (pv 7) (CO AI) (BL _)) (@BV _ _ _ (FC (@EG K _ _ _ _ _ _ _ _ _ _ _ _ Ay Bj Bk KW (pv 2) (AD (FP (AD (AX DT AJ (AX GM (BZ (DE K U) (pv 5) AJ (λ_ _=>U)) AJ)) (AR 8 (AZ 7)))) AI) U U U U U U))) CJ)))))))))
  (AF (pv 2))))),?_⟩
 walk;refine λD hD=>?_;x_fa H1 aG aS;walk;refine LH l 3 ns U (aG.seq hS) (by lk) (λc3=>?_);walk;let Izz:zT:=λi G H2=>∃(r:Nat) (zs:ϩ V) (Y:ϩ BF) (v4 v5 v6 v7 v8:Ϩ V),G=[some (.ref l),some (.ref pc),some (.ref D),some (.int (r:Int)),v4,v5,v6,v7,v8]/\AA H H2/\H2 D=some (.lst zs)/\Y.length<=i/\Paired (Mv D H2) zs Y/\∀p∈Y,FB rs p
 refine Nr (lo:=0) (n:=(1+c3/12%3).toNat) Izz
  ⟨4,[],[],none,none,none,none,none,U,aG,aS,A9 _,.nil,λp h=>nomatch h⟩ ?_ ?_
 .refine λi G H2 hi=>EK λr zs Y v4 v5=>GA λv6 v7 v8=>FZ λR aa Q aT ae ah=>?_;subst R;walk;refine LH l 3 ns U (aa.seq hS) (by lk) (λc4=>?_);walk;refine CM _ 5 U (by lk) (by lk) (λss st H3 aA aV aY ak ab=>?_);have aA:ss.length=5:=by lia
  obtain⟨B,s1,s2,s3,s4,rfl⟩:∃B s1 s2 s3 s4,ss=[B,s1,s2,s3,s4]:=by
   match ss,aA with
   | [B,s1,s2,s3,s4],_=>exact⟨B,s1,s2,s3,s4,U⟩
  have b0:=aV B (by simp);have ab:H3 st=some (.lst [.int B,.int s1,.int s2,.int s3,.int s4]):=ab;walk;refine DH st _ _ _ U U (AC.of ab) U ?_;have az:=aa.trans ak;have a3:=Eb B (show(7:Int)≠0 by lk);have a8:=E7 B (show(0:Int)<7 by lk);obtain⟨mn,ao⟩:=Bx (show 0<=1+B%7 by lia);walk;refine BY l _ U (az.seq hS) (λp3 a0=>?_);refine AS (λms ai a4=>?_) (yB ns r mn);rw[show((mn:Nat):Int)=1+B%7 from ao.symm]at ai;rw[ai];x_fa H6 al aF;have Z:=az.trans al;refine HA p3 U ⟨_,AC.of aF⟩ (λE1 am=>?_);let Izz:zU:=λj X G H7=>∃(ws:ώ) (v9:Ϩ V),X=ws.map V.str/\G=[some (.ref l),some (.ref pc),some (.ref D),some (.int (r:Int)),some (.int (0+(i:Int))),some (.ref st),some (.int (1+B%7)),v7,v8,v9]/\AA H6 H7/\H7 E1=some (.lst X)/\ws.length=j/\∀x∈ws,Mc.Wd rs 5 x
  refine GN (a:=p3) (xs:=ms.map V.int) Izz
   ?_ ?_ ?_ ?_
  exact Nm [] none (IR U U (BM am _) AM U (λx h=>nomatch h));refine λj X G H7 hj=>IK λ_ _ _ _ hs _=>?_;exact hs.seq (AC.of aF);(.refine λj y' X G H7 aw O=>Qa λws v9 c d I ag au ap=>?_;subst c;subst d;refine AS (λz S a6=>?_) (Ox aw);subst S;rw[A3]at O;have as:=Z.trans I;walk;refine LO pc z xs rs (DY U (as _ _ aW) (EO aQ as) aK aI aP (λx H8 E hx=>?_));refine EI (by rw[A3];exact O) (E _ _ ag) (by rw[A3];lia) ⟨ws++[x],_,by rw[Ae];rfl,U,DF (I.trans E) am,AM,by rw[Ag,au];rfl,λz hz=>?_⟩;rcases Be.mp hz with h|h;exact ap z h;rw[Ah.mp h];exact hx)
  .refine λX G H7=>Qa λws v9 c d I ag au ap=>?_;subst c;subst d;rw[A3]at au;have as:=Z.trans I;have aX:=Z.free am;walk;refine⟨⟨_,AC.of ag⟩,λE2 ac=>?_⟩;let Izz:zU:=λj X G H8=>∃(J:ώ) (v9:Ϩ V),X=J.map V.str/\G=[some (.ref l),some (.ref pc),some (.ref D),some (.int (r:Int)),some (.int (0+(i:Int))),some (.ref st),some (.int (1+B%7)),some (.ref E1),v8,v9]/\AA H7 H8/\H8 E2=some (.lst X)/\J.length=j/\∀x∈J,Mc.Wd rs 5 x/\x≠"end"
   refine GN (a:=E1) (xs:=ws.map V.str) Izz
    ?_ ?_ ?_ ?_
   exact Nm [] none (IR U U (BM ac _) AM U (λx h=>nomatch h));refine λj X G H8 hj=>IK λ_ _ _ _ hs _=>?_;exact hs.seq (AC.of ag);(.refine λj y' X G H8 aw O=>Qa λJ v9 c d E an av af=>?_;subst c;subst d;refine AS (λx S aR=>?_) (X8 aw);subst S;rw[A3]at O;have hx:=ap x (Af aR);walk;refine λp4 a2=>?_;x_fa H9 v aM;walk;refine .inr ⟨_,U,?_⟩;refine DH p4 _ _ _ U U (AC.of aM) (YV _ _ _) ?_;obtain⟨u,eu,hu⟩:∃u:ϥ,(if decide (V.str x=V.str "end")=true then V.str "dne" else V.str x)=.str u/\Mc.Wd rs 5 u/\u≠"end":=(by rw[FI];by_cases e:x="end";rw[Ab e];exact HA _ U (yA (e ▸ hx)) (by room);rw[Aj e];exact HA x U hx e);rw[eu];refine EI (by rw[A3];exact O) (v _ _ an) (by rw[A3];lia) ⟨J++[u],_,by rw[Ae];rfl,U,DF (E.trans v) ac,AM,by rw[Ag,av];rfl,λz hz=>?_⟩;rcases Be.mp hz with h|h;exact af z h;rw[Ah.mp h];exact hu);refine λX G H8=>Qa λJ v9 c d E an av af=>?_;subst c;subst d;rw[A3]at av;have aJ:=I.trans E;have aO:=Z.trans aJ;have aB:=al.trans aJ;have y:=aB _ _ ab;have aj:E2≠D:=λz=>(by rw[z,(ak.trans (al.trans I)) _ _ Q]at ac;cases ac);walk;refine DH st _ _ _ U U (AC.of y) U ?_;walk;refine DH st _ _ _ U U (AC.of y) U ?_;walk;refine DH st _ _ _ U U (AC.of y) U ?_;walk;refine λtg a5=>?_;x_fa H9 v aN;have aC:=v _ _ an;walk;refine λp5 a7=>?_;x_fa Ha C aL;have aE:=aO.trans (v.trans C);have aD:=ak.trans (aB.trans (v.trans C));have aq:=aD _ _ Q;have ax:∀{Hb:Hp},(∀b o,b≠D->Ha b=some o->Hb b=some o)->Paired (Mv D Hb) zs Y:=λ{Hb} s=>Paired.Æ ae λ_ _ z=>z.same (λb o n e=>s b o n (aD b o e)) ⟨_,Q⟩;refine CM (UY J) (.list []) (.lst (AC.of (C _ _ aC)) (UZ λx hx=>(af x hx).1.lay)) (.lst (AC.of aL) .nil) (by have:(PyData.list []).depth=1:=U;lia) ?_;refine AU _ U ?_;cases J with|nil =>refine AK ?_;walk;exact DC (r+mn) zs Y _ _ (JH _ _ _ (IR (by rw[Fv,show((mn:Nat):Int)=1+B%7 from ao.symm];rfl) aE aq (by lia) (ax λb o _ e=>e) ah))|cons u J =>refine BB ?_;walk;refine⟨.inl ⟨U,_,AC.of aq⟩,?_⟩;walk;refine DH st _ _ _ U U (AC.of ((v.trans C) _ _ y)) U ?_;walk;refine λt ht=>?_;x_fa Hb L ay;have ar:=L _ _ aq;have a1:=B2 ae;have aZ:Y.length<=3:=(by lia);refine DZ D _ _ U U ar (KY (by lia)) ?_;refine DC (r+mn) (zs++[.ref t]) (Y++[(20+s4%121,[s1%4,3+s2%3,6+s3%10],u::J)]) _ _ (JH _ _ _ (IR (by rw[Fv,show((mn:Nat):Int)=1+B%7 from ao.symm];rfl) (DF (aE.trans L) hD) AM (by rw[Ag];show _+1<=_;lia) (Bz (ax λb o n e=>by rw[BJ n];exact L b o e) ⟨t,tg,E2,U,?_,?_,aj,?_⟩) (λp hp=>?_)));rw[BJ (HB ay ar λz=>nomatch z)];exact ay;have aH:=(C.trans L) _ _ aN;rw[BJ (HB aH ar λz=>nomatch z)];exact aH;rw[BJ aj];exact(C.trans L) _ _ aC;rcases Be.mp hp with h|h;exact ah p h;rw[Ah.mp h];exact⟨⟨by show 20<=20+s4%121;lia,by show 20+s4%121<=140;lia⟩,⟨_,_,_,U,by lia,by lia,by lia,by lia,by lia,by lia⟩,⟨by show 1<=(u::J).length;rw[Bb];lia,by show(u::J).length<=7;lia⟩,af⟩
 refine λG H2=>EK λr zs Y v4 v5=>GA λv6 v7 v8=>FZ λR aa Q aT ae ah=>?_;subst R;walk;exact q D zs Y H2 hD aa Q (by lia) ae ah
noncomputable def HN (l:Int) (p:BF):ϩ Mm:=(if l%2=0 then [.ms p.1]else [])++((if l<2 then [.gp (p.2.1.getD 0 0) (p.2.1.getD 1 0) (p.2.1.getD 2 0)]else [])++[.st p.2.2])
noncomputable def jb (tw l:Int) (k:Nat) (p:BF):ϩ (DS 4):=if (k:Int)=tw then [(Sum.inr (2,(HN l p).map λb=>(Sum.inl b:DS 3)):DS 4)]else(HN l p).map λb=>(Sum.inl b:DS 4)
def JO(tw:Int)(lf:ϓ):Nat->ϩ BF->ϩ (ϩ (DS 4))|_,[]=>[]|k,p::ps=>jb tw (lf.getD k 0) k p::JO tw lf (k+1) ps
theorem iR(tw:Int)(lf:ϓ):∀(ps:ϩ BF) (k:Nat) (p:BF),JO tw lf k (ps++[p])=JO tw lf k ps++[jb tw (lf.getD (k+ps.length) 0) (k+ps.length) p]|[],k,p=>rfl|x::ps,k,p=>by show jb tw (lf.getD k 0) k x::JO tw lf (k+1) (ps++[p])=_;rw[iR tw lf ps (k+1) p,show k+1+ps.length=k+(x::ps).length by rw[Bb];lia];rfl
theorem VO(tw:Int)(lf:ϓ):∀(ps:ϩ BF) (k:Nat),(JO tw lf k ps).length=ps.length|[],_=>rfl|_::ps,k=>Bt (·+ 1) (VO tw lf ps (k+1))
theorem VP{tw:Int}{lf:ϓ}:∀{ps:ϩ BF}{k:Nat}{js:ϩ (DS 4)},js∈JO tw lf k ps->∃p∈ps,∃l i,js=jb tw l i p|p::ps,k,js,h=>by rcases Al.mp h with h|h;exact⟨p,Aa,_,k,h⟩;obtain⟨x,c,i,e⟩:=VP h;exact⟨x,Ac _ c,i,e⟩
abbrev Om(tw:Int)(lf:ϓ)(ps:ϩ BF):ϩ (DS 4):=(JO tw lf 0 ps).flatten
noncomputable def ER (p:BF):ώ:=("set":ϥ)::p.2.2++[("end":ϥ)]
noncomputable def Mq (l:Int) (p:BF):ώ:=(if l<2 then("gaps":ϥ)::p.2.1.map Cp.AO else [])++ER p
noncomputable def GF (l:Int) (p:BF):ώ:=(if l%2=0 then [("measure":ϥ),Cp.AO p.1]else [])++Mq l p
def iS(tw l:Int)(k:Nat):EJ 4 (jb tw l k (m,[lo,md,c],ws))=if (k:Int)=tw then [("2":ϥ),("times":ϥ),("(":ϥ)]++GF l (m,[lo,md,c],ws)++[(")":ϥ)]else GF l (m,[lo,md,c],ws):=by
 have e:("2":ϥ)=Cp.AO (2:Nat):=by room
 unfold jb GF Mq HN;split<;>by_cases i:l%2=0<;>by_cases d:l<2<;>simp only[i,d,Iw,G2,List.nil_append,Aq]<;>first
  | (rw[e];show([_,_,_]++(_++(_++(_++[])))++[_])++[]=_;rw[Aq,Aq];rfl)
  | (rw[e];show([_,_,_]++(_++(_++[]))++[_])++[]=_;rw[Aq,Aq];rfl)
  | (rw[e];show([_,_,_]++(_++[])++[_])++[]=_;rw[Aq,Aq];rfl)
  | (show _++(_++(_++[]))=_;rw[Aq];rfl)
  | (show _++(_++[])=_;rw[Aq];rfl)
  | (show _++[]=_;rw[Aq];rfl)
def iT(tw l:Int)(k:Nat)(p:BF):jb tw l k p≠[]:=by unfold jb HN;split;exact λz=>nomatch z;intro z;exact absurd (Cg.mp (Cg.mp (Kl.mp z)).2).2 (Bo _ _)
def iU(c:ws≠[]):("set ":ϥ)++AE ws++(" end":ϥ)=AE (("set":ϥ)::ws++[("end":ϥ)]):=by
 have d:("set ":ϥ)=("set":ϥ)++(" ":ϥ):=by room
 have e:(" end":ϥ)=(" ":ϥ)++("end":ϥ):=by room
 show _=AE (("set":ϥ)::(ws++[("end":ϥ)]));rw[LB _ (λz=>c (Cg.mp z).1),Ri c (Bo _ _),NU,d,e];simp only[XW]
def yE{a:Int}(e:r≠[]):("gaps ":ϥ)++AE [Cp.AO a,Cp.AO b,Cp.AO c]++(" ":ϥ)++AE r=AE ((("gaps":ϥ)::[a,b,c].map Cp.AO)++r):=by
 have d:("gaps ":ϥ)=("gaps":ϥ)++(" ":ϥ):=by room
 rw[Ri (Bo _ _) e,show [a,b,c].map Cp.AO=[Cp.AO a,Cp.AO b,Cp.AO c]from U,LB "gaps" (Bo _ _),d]
def yF(d:r≠[]):("measure ":ϥ)++Cp.AO m++(" ":ϥ)++AE r=AE ([("measure":ϥ),Cp.AO m]++r):=by
 have c:("measure ":ϥ)=("measure":ϥ)++(" ":ϥ):=by room
 rw[Ri (Bo _ _) d,LB "measure" (Bo _ _),NU,c]
def yG{r:ώ}(h:r≠[]):AE ([("2":ϥ),("times":ϥ),("(":ϥ)]++r++[(")":ϥ)])=("2 times ( ":ϥ)++AE r++(" )":ϥ):=by
 have c:("2 times ( ":ϥ)=AE [("2":ϥ),("times":ϥ),("(":ϥ)]++(" ":ϥ):=by room
 have d:(" )":ϥ)=(" ":ϥ)++(")":ϥ):=by room
 rw[Ri (a:=[("2":ϥ),("times":ϥ),("(":ϥ)]++r) (Bo _ _) (Bo _ _),Ri (Bo _ _) h,NU,c,d];simp only[XW]
def yH{tw:Int}{lf:ϓ}{ps:ϩ BF}:AE ((JO tw lf 0 ps).map λjs=>Cp.IM 4 js)=Cp.IM 4 (Om tw lf ps):=by
 have:=Cp.fq (xss:=(JO tw lf 0 ps).map λjs=>EJ 4 js) λo k=>by obtain⟨js,d,rfl⟩:=Bq.mp k;obtain⟨p,_,l,i,rfl⟩:=VP d;exact λz=>iT _ _ _ _ (fy z)
 rw[D7]at this
 have e:∀c:ϩ (ϩ (DS 4)),(c.map λjs=>EJ 4 js).flatten=EJ 4 c.flatten:=λc=>by
  induction c with
  | nil=>rfl
  | cons x c j =>
    rw[Bp,Dc,j,Dc];exact Km.symm
 rw[e]at this;exact this
def FB.word(h:FB rs p):∀x∈p.2.2,JB x:=λx k=>by
 obtain⟨⟨r,o,i⟩,d⟩:=h.ok x k;have e:x.cps.toList.length=x.length:=Au;exact⟨by lia,by lia,λc j=>(i c j).1,d⟩
def FB.good{rs:ϩ BS}{p:BF}(h:FB rs p){tw l:Int}{k:Nat}:∀j∈jb tw l k p,LM 4 j:=by refine QA h.g λC r s=>MU λe v G J H I E=>?_;have c:∀b∈HN l p,Jb.Tz b:=λb c=>(by unfold HN at c;rw[e]at c;rcases Be.mp c with c|c;split at c;rw[Ah.mp c];exact⟨by have:=h.m;lia,by have:=h.m;lia⟩;cases c;rcases Be.mp c with c|c;split at c;rw[Ah.mp c];exact GC v (by show C<=r;lia) (by show r<=s;lia) (by show s<=99;lia);cases c;rw[Ah.mp c];exact IQ h.w.1 (by have:=h.w.2;lia) h.word);have B:(HN l p).map (λb=>(Sum.inl b:DS 3))≠[]:=λz=>(by have z:=Bt List.length z;simp[HN]at z);have y:((HN l p).map λb=>(Sum.inl b:DS 3)).length<=100:=(by rw[A3];unfold HN;rw[Ag,Ag];split<;>split<;>simp);intro j i;unfold jb at i;split at i;rw[Ah.mp i];refine MX (by lk) (by lk) B y (λj i=>?_);refine AS (λb o d=>?_) (Bq.mp i);subst d;exact c b o;refine AS (λb o d=>?_) (Bq.mp i);subst d;exact c b o
def yI(h:∀p∈ps,FB rs p):∀j∈Om tw lf ps,LM 4 j:=λj d=>by
 obtain⟨o,k,e⟩:=List.mem_flatten.mp d;obtain⟨p,c,l,i,rfl⟩:=VP k;exact(h p c).good j e
def iV{rs:ϩ BS}{p:BF}(h:FB rs p)(tw l:Int)(k:Nat):(EJ 4 (jb tw l k p)).length<=19:=by have d:=h.w.2;obtain⟨m,r,c⟩:=p;refine Oq (λj i o e _=>?_) h.g;have e:=e;subst e;have d:c.length<=7:=d;have e:(GF l (m,[j,i,o],c)).length<=c.length+8:=(by unfold GF Mq ER;split<;>split<;>simp<;>lia);rw[iS];split;rw[Ag,Ag];show 3+_+1<=_;lia;lia
theorem iW:∀{ps:ϩ BF}{k:Nat},(∀p∈ps,FB rs p)->(EJ 4 (JO tw lf k ps).flatten).length<=ps.length*19|[],_,_=>B8 _|p::ps,k,h=>by have d:=iV (h p Aa) tw (lf.getD k 0) k;have c:=iW (tw:=tw) (lf:=lf) (k:=k+1) λq e=>h q (Ac _ e);show(((jb tw (lf.getD k 0) k p)++(JO tw lf (k+1) ps).flatten).flatMap _).length<=_;rw[Km,Ag,Bb,L5];have d:((jb tw (lf.getD k 0) k p).flatMap (JC 4)).length<=19:=d;have c:((JO tw lf (k+1) ps).flatten.flatMap (JC 4)).length<=ps.length*19:=c;lia
def iX{n:Int}(d:0<=n)(c:n<=2000):(Cp.AO n).length<=12:=by rw[<-show(Cp.AO n).cps.toList.length=(Cp.AO n).length from Au];exact(Cp.S6 d c).l2
def OU{x y:ϥ}{m n:Nat}(d:x.length<=m)(c:y.length<=n):(x++y).length<=m+n:=by rw[Ba];lia
def yJ:Sp:=λo H Q _=>∃(D L:Ϡ) (e:Int) (d:ϓ) (j:ϩ V) (c:ϩ BF) (k:ϩ BS),o=[.ref D,.int e,.ref L]/\H D=some (.lst j)/\H L=some (.lst (d.map V.int))/\d.length=3/\Paired (Mv D H) j c/\c.length<=3/\(∀p∈c,FB k p)/\∀i,AA H i->Q (.str (Cp.IM 4 (Om e d c))) i
def yK:T.F 1 75 yJ:=by
 refine BX T.Ų.fn OM ?_;k_ne;revert h;refine EK λD L s R zs=>JG λps rs=>MV λav hD hL aH au aD ag q=>?_;subst av;have aI:=B2 au;have e1:(" ":ϥ).length=1:=by lk
 refine⟨_,(AH (AL 3 OM.nd (CO AI)) (AH (GZ B6 U (NN U T.É (AD (ln T (pv 0)) AI)) (AQ 4 OM.nd) (AH (IU (BZ (DE K U) (pv 0) (pv 4) (λ_ _=>U)) (ES K U (n:=3) U (BO (AQ 5 OM.nd) (BO (AQ 6 OM.nd) (BO (AQ 7 OM.nd) EL))))) (AH (AL 8 OM.nd (AX IV (AX IV BN (@EG K _ _ _ _ _ _ _ _ _ _ _ _ Bi Bu Bv (MG K U) BN (AZ 7) U U U U U U)) BN)) (AH (Ny (CC (CA NO (BZ (DE K U) (pv 2) (pv 4) (λ_ _=>U)) AJ (BL _)) (@BV _ _ _ (AL 8 OM.nd (AX IV (AX IV (AX IV BN (@EG K _ _ _ _ _ _ _ _ _ _ _ _ Bi Bu Bv (MG K U) BN (AD (CW ["_law_paragraphs_here","_law_twice","_law_left","_law_jobs","_law_k","_law_measure","_law_gaps","_law_words","_law_row","_law_gap_here"] [] 1 (mK K U (pv 6)) (BD 9) EU (FQ JZ U T.Ô JS (AZ 9))) AI) U U U U U U)) BN) (pv 8)))) CJ)) (AH (Ny (CC (CA EE (AX GM (BZ (DE K U) (pv 2) (pv 4) (λ_ _=>U)) AJ) AJ (BL _)) (BV (AL 8 OM.nd (AX IV (AX IV (AX IV BN (FQ JZ U T.Ô JS (AZ 5))) BN) (pv 8)))) CJ)) (AH (Ny (CC (CA EE (pv 4) (pv 1) (BL _)) (BV (AL 8 OM.nd (AX IV (AX IV BN (pv 8)) BN))) CJ)) (@BV _ _ _ (FC (@EG K _ _ _ _ _ _ _ _ _ _ _ _ Ay Bj Bk KW (pv 3) (AZ 8) U U U U U U))))))))) (@AF _ _ _ _ (@EG K _ _ _ _ _ _ _ _ _ _ _ _ Bi Bu Bv (MG K U) BN (AZ 3) U U U U U U)))),?_⟩
 walk;refine λJ hJ=>?_;x_fa H1 ao aF;walk;refine BY D _ U (.inl (AC.of (ao _ _ hD))) ?_;walk;refine Nr (lo:=0) (n:=(zs.length:Int).toNat) (λi I H2=>∃(v4 v5 v6 v7 v8:Ϩ V),I=[some (.ref D),some (.int s),some (.ref L),some (.ref J),v4,v5,v6,v7,v8]/\AA H H2/\H2 J=some (.lst (((JO s R 0 (ps.take i)).map λjs=>Cp.IM 4 js).map V.str)))
  ⟨none,none,none,none,none,U,ao,aF⟩ ?_ ?_
 .refine λi I H2 hi aE=>?_;revert I;refine VX λv4 v5 v6 v7 v8 G aa=>?_;have aw:i<zs.length:=(by lia);obtain⟨p,am,t,g,w',et,ht,hg,aJ,hw⟩:=FD au (A6 aw);obtain⟨m,gs,C⟩:=p;have pa:=ag _ (Af am);refine QA pa.g λB E o=>MU λe g1 g2 g3 g4 g5 g6=>?_;have e:gs=[B,E,o]:=e;subst e;have ht:H t=some (.tup [.int m,.ref g,.ref w']):=ht;have hg:H g=some (.tup [.int B,.int E,.int o]):=hg;have hw:H w'=some (.lst (C.map V.str)):=hw;have hm:20<=m/\m<=140:=pa.m;have af:1<=C.length/\C.length<=7:=pa.w;have ab:C≠[]:=λz=>(by rw[z]at af;exact absurd af.1 (by lk));have aB:∀x∈C,x.length<=5:=λx hx=>(pa.ok x hx).1.2.1;have aG:∀_:Unit,DP zs (0+(i:Int))=some (.ref t):=λ_=>(by rw[Dv,<-et];exact FR (A6 aw));have Z:∀_:Unit,DP (R.map V.int) (0+(i:Int))=some (.int (R.getD i 0)):=λ_=>(by rw[Dv];refine FR ?_;rw[An,Bf,A6 (show i<R.length by lia)];rfl);have ar:JO s R 0 (ps.take (i+1))=JO s R 0 (ps.take i)++[jb s (R.getD i 0) i (m,[B,E,o],C)]:=(by rw[Am,am];show JO s R 0 (ps.take i++[_])=_;rw[iR,Ao,Lq,E9 (by lia)]);generalize R.getD i 0=l at Z ar;have Q:∀{n k:Nat}{xs:ώ},(∀x∈xs,x.length<=n)->xs.length<=k->(xs.map (·.length)).sum+xs.length*(" ":ϥ).length<=k*n+k/\(AE xs).length<=k*n+k:=λ{n k xs} h1 h2=>by have a:=PH (λx:ϥ=>x.length) n k xs h1 h2;have a:(xs.map (·.length)).sum<=k*n:=a;have b:=Eo " " xs;have b:(Str.join " " xs).length<=(xs.map (·.length)).sum+xs.length*(" ":ϥ).length:=b;unfold AE Txt.join;rw[C6];rw[e1]at b⊢;lia
  obtain⟨al,az⟩:=Q aB af.2;have n1:=iX (n:=m) (by lia) (by lia);obtain⟨ae,hl3⟩:=Q (n:=12) (k:=3) (xs:=[Cp.AO B,Cp.AO E,Cp.AO o]) (λx hx=>by
   simp only[Al,Bl,Dd]at hx;rcases hx with rfl|rfl|rfl<;>exact iX (by lia) (by lia)) (A9 3)
  have aA:Txt.join " " C=AE C:=U;have a2:=OU (show("set ":ϥ).length<=4 by lk) az;have a3:=OU a2 (show(" end":ϥ).length<=4 by lk);walk;refine DH D _ _ _ U U (AC.of (G _ _ hD)) (aG ()) ?_;refine CM _ _ U (BP.of (G _ _ ht)) U ?_;x_go;x_go;x_go;walk;refine DZ _ w' C U U (AC.of (G _ _ hw)) (Aw al (by lk)) ?_;walk;refine⟨DG (by rw[<-Ba];exact Aw a2 (by lk)),?_⟩;walk;refine⟨DG (by rw[<-Ba];exact Aw a3 (by lk)),?_⟩;rw[aA,iU ab];rw[iU ab]at a3;have ax:ER (m,[B,E,o],C)=("set":ϥ)::C++[("end":ϥ)]:=U;rw[<-ax]at a3⊢;refine AU (λI H3=>I=[some (.ref D),some (.int s),some (.ref L),some (.ref J),some (.int (0+(i:Int))),some (.int m),some (.ref g),some (.ref w'),some (.str (AE (Mq l (m,[B,E,o],C))))]/\AA H2 H3/\(AE (Mq l (m,[B,E,o],C))).length<=150) ?_ ?_
  .walk;refine DH L _ _ _ U U (AC.of (G _ _ hL)) (Z ()) ?_;walk;unfold Mq;by_cases c:l<2
   .rw[Ab c,B1 c];refine BB ?_;have b1:=OU (show("gaps ":ϥ).length<=5 by lk) hl3;have b2:=OU b1 (show(" ":ϥ).length<=1 by lk);have b3:=OU b2 a3;walk;refine⟨⟨_,BP.of (G _ _ hg)⟩,λE1 aj=>?_⟩;refine mC (a:=g) (xs:=[B,E,o].map V.int) (λj ys I H3=>∃(v9:Ϩ V),ys=(([B,E,o].take j).map Cp.AO).map V.str/\I=[some (.ref D),some (.int s),some (.ref L),some (.ref J),some (.int (0+(i:Int))),some (.int m),some (.ref g),some (.ref w'),some (.str (AE (ER (m,[B,E,o],C)))),v9]/\AA H2 H3/\H3 E1=some (.lst ys))
     ?_ ?_ ?_ ?_
    exact IS none U U (BM aj _) AM;refine λj ys I H3 hj=>GK λ_ _ _ hs _=>?_;exact BP.of ((G.trans hs) _ _ hg);(.refine λj y ys I H3 hy ay=>GK λv9 v O S Y=>?_;subst v;subst O;refine AS (λz v an=>?_) (Ox hy);subst v;have hz:0<=z/\z<=15:=(by have:=Af an;simp only[Al,Bl,Dd]at this;lia);walk;refine EI ay Y (by rw[A3,A3,Ao];exact Aw (Nat.min_le_right _ _) (by show 3<=100000;decide)) ⟨_,?_,U,DF S aj,AM⟩;rw[Am,an,Ae,Ae];rfl);refine λys I H3=>GK λv9 v O S Y=>?_;subst v;subst O;have Y:H3 E1=some (.lst ([Cp.AO B,Cp.AO E,Cp.AO o].map V.str)):=Y;refine DZ _ E1 [Cp.AO B,Cp.AO E,Cp.AO o] U U (AC.of Y) (Aw ae (by lk)) ?_;walk;refine⟨DG (by rw[<-Ba];exact Aw b1 (by lk)),?_⟩;walk;refine⟨DG (by rw[<-Ba];exact Aw b2 (by lk)),?_⟩;walk;refine⟨DG (by rw[<-Ba];exact Aw b3 (by lk)),?_⟩;have et:=yE (a:=B) (b:=E) (c:=o) (r:=ER (m,[B,E,o],C)) (Bo _ _);rw[et]at b3;refine IQ ?_ S (Aw b3 (by lk));exact Bt (λx=>[some (V.ref D),some (.int s),some (.ref L),some (.ref J),some (.int (0+(i:Int))),some (.int m),some (.ref g),some (.ref w'),some (.str x)]) et
   rw[Aj c,Av c];refine AK ?_;exact IQ U (AA.refl _) (Aw a3 (by lk))
  refine λI H3=>ED λX S as=>?_;subst X;have ah:=G.trans S;have ac:Mq l (m,[B,E,o],C)≠[]:=λz=>(by have z:=Bt List.length z;simp[Mq,ER]at z);have ai:=S _ _ aa;refine AU (λI H4=>I=[some (.ref D),some (.int s),some (.ref L),some (.ref J),some (.int (0+(i:Int))),some (.int m),some (.ref g),some (.ref w'),some (.str (AE (GF l (m,[B,E,o],C))))]/\H4=H3/\(AE (GF l (m,[B,E,o],C))).length<=180) ?_ ?_;(.walk;refine DH L _ _ _ U U (AC.of (ah _ _ hL)) (Z ()) ?_;walk;have ec:decide (V.int (l%2)=V.int 0)=decide (l%2=0):=C4.mpr ⟨λz=>V.int.inj z,λz=>by rw[z]⟩;rw[ec];unfold GF;by_cases c:l%2=0;(.rw[Ab c,B1 c];refine BB ?_;have b1:=OU (show("measure ":ϥ).length<=8 by lk) n1;have b2:=OU b1 (show(" ":ϥ).length<=1 by lk);have b3:=OU b2 as;walk;refine⟨DG (by rw[<-Ba];exact Aw b1 (by lk)),?_⟩;walk;refine⟨DG (by rw[<-Ba];exact Aw b2 (by lk)),?_⟩;walk;refine⟨DG (by rw[<-Ba];exact Aw b3 (by lk)),?_⟩;have et:=yF (m:=m) ac;rw[et]at b3;refine IQ ?_ U (Aw b3 (by lk));exact Bt (λx=>[some (V.ref D),some (.int s),some (.ref L),some (.ref J),some (.int (0+(i:Int))),some (.int m),some (.ref g),some (.ref w'),some (.str x)]) et);rw[Aj c,Av c];refine AK ?_;exact IQ U U (Aw as (by lk)));refine λI H4=>ED λX v ap=>?_;subst X;subst v;generalize ak:AE (GF l (m,[B,E,o],C))=aq at ap⊢;refine AU (λI H5=>I=[some (.ref D),some (.int s),some (.ref L),some (.ref J),some (.int (0+(i:Int))),some (.int m),some (.ref g),some (.ref w'),some (.str (Cp.IM 4 (jb s l i (m,[B,E,o],C))))]/\H5=H4) ?_ ?_;(.walk;have ec:decide (V.int (0+(i:Int))=V.int s)=decide ((i:Int)=s):=(by rw[Dv];exact C4.mpr ⟨λz=>V.int.inj z,λz=>by rw[z]⟩);rw[ec];have aC:Cp.IM 4 (jb s l i (m,[B,E,o],C))=if (i:Int)=s then("2 times ( ":ϥ)++aq++(" )":ϥ)else aq:=(by unfold Cp.IM;rw[iS];split;rw[yG (r:=GF l (m,[B,E,o],C)) (λz=>ac (Cg.mp z).2),ak];exact ak);rw[aC];by_cases c:(i:Int)=s;(.rw[Ab c,B1 c];refine BB ?_;walk;have b1:=OU (show("2 times ( ":ϥ).length<=10 by lk) ap;have b2:=OU b1 (show(" )":ϥ).length<=2 by lk);refine⟨DG (by rw[<-Ba];exact Aw b1 (by lk)),?_⟩;walk;refine⟨DG (by rw[<-Ba];exact Aw b2 (by lk)),?_⟩;exact⟨U,U⟩);rw[Aj c,Av c];refine AK ?_;exact⟨U,U⟩);rintro I H5 ⟨rfl,rfl⟩;walk;refine⟨.inl ⟨U,_,AC.of ai⟩,?_⟩;walk;refine DZ J _ _ U U ai (KY (by rw[A3,A3,VO,Ao];lia)) ?_;refine DC _ _ _ _ _ (IQ U (DF ah hJ) ?_);rw[AM,ar,Ae,Ae];rfl
 refine λI H2 aE=>?_;revert I;refine VX λv4 v5 v6 v7 v8 G aa=>?_;rw[Ai (by lia)]at aa;walk;refine DZ _ J _ U U (AC.of aa) ?_ ?_;have hx:∀x∈(JO s R 0 ps).map λjs=>Cp.IM 4 js,x.length<=247:=λx hx=>(by refine AS (λjs hj O=>?_) (Bq.mp hx);subst O;obtain⟨p,hp,l,k,rfl⟩:=VP hj;have h1:=iV (ag p hp) s l k;have h2:=Cp.Re (Vj (ag p hp).good (d:=4) (js:=jb s l k p));rw[<-show(Cp.IM 4 (jb s l k p)).cps.toList.length=(Cp.IM 4 (jb s l k p)).length from Au];have h2:(Cp.IM 4 (jb s l k p)).cps.toList.length<=13*(EJ 4 (jb s l k p)).length:=h2;lia);have a:=PH (λx:ϥ=>x.length) 247 3 ((JO s R 0 ps).map λjs=>Cp.IM 4 js) hx (by rw[A3,VO];exact aD);have a:(((JO s R 0 ps).map λjs=>Cp.IM 4 js).map (·.length)).sum<=3*247:=a;rw[e1,A3,VO];lia;have e:=yH (tw:=s) (lf:=R) (ps:=ps);have q:=q H2 G;rw[<-e]at q;exact q
noncomputable def GX (l:Int) (s:Jb.St) (p:BF):Jb.St:=(if l%2=0 then p.1 else s.1,if l<2 then p.2.1 else s.2)
abbrev On(s:Jb.St)(ws:ώ):BF:=(s.1,s.2,ws)
def KD(tw:Int)(k:Nat)(p:BF):ϩ BF:=if (k:Int)=tw then [p,p]else [p]
noncomputable def KL (tw:Int) (lf:ϓ):Nat->Jb.St->ϩ BF->ϩ BF|_,_,[]=>[]|k,s,p::ps=>KD tw k (On (GX (lf.getD k 0) s p) p.2.2)++KL tw lf (k+1) (GX (lf.getD k 0) s p) ps
noncomputable def NX (lf:ϓ):Nat->Jb.St->ϩ BF->Jb.St|_,s,[]=>s|k,s,p::ps=>NX lf (k+1) (GX (lf.getD k 0) s p) ps
theorem iY(lf:ϓ):∀(ps:ϩ BF) (k:Nat) (s:Jb.St) (p:BF),NX lf k s (ps++[p])=GX (lf.getD (k+ps.length) 0) (NX lf k s ps) p|[],_,_,_=>rfl|x::ps,k,s,p=>by show NX lf (k+1) _ (ps++[p])=_;rw[iY lf ps,show k+1+ps.length=k+(x::ps).length by rw[Bb];lia];rfl
theorem iZ(tw:Int)(lf:ϓ):∀(ps:ϩ BF) (k:Nat) (s:Jb.St) (p:BF),KL tw lf k s (ps++[p])=KL tw lf k s ps++KD tw (k+ps.length) (On (NX lf k s (ps++[p])) p.2.2)|[],k,s,p=>Aq _|x::ps,k,s,p=>by show _++KL tw lf (k+1) _ (ps++[p])=_;rw[iZ tw lf ps,show k+1+ps.length=k+(x::ps).length by rw[Bb];lia,<-B4];rfl
def yL(h:FB rs p)(tw l:Int)(k:Nat)(s:Jb.St):CS (FJ 4) (jb tw l k p) s=(KD tw k (On (GX l s p) p.2.2),GX l s p):=by refine Oq (λo i j e _=>?_) h.g;obtain⟨m,B,c⟩:=p;have e:=e;subst e;have f:∀d s,CS (FJ (d+1)) ((HN l (m,[o,i,j],c)).map λb=>(Sum.inl b:DS (d+1))) s=([On (GX l s (m,[o,i,j],c)) c],GX l s (m,[o,i,j],c)):=λd s=>(by unfold HN GX;by_cases y:l%2=0<;>by_cases v:l<2<;>simp only[y,v,Iw,G2]<;>rfl);have e:∀s,GX l (GX l s (m,[o,i,j],c)) (m,[o,i,j],c)=GX l s (m,[o,i,j],c):=λs=>(by unfold GX;split<;>split<;>rfl);unfold jb KD;split;show((LA (CS (FJ 3) _) 2 s).1++[],(LA (CS (FJ 3) _) 2 s).2)=_;have r:LA (CS (FJ 3) ((HN l (m,[o,i,j],c)).map λb=>(Sum.inl b:DS 3))) 2 s=([On (GX l s (m,[o,i,j],c)) c,On (GX l s (m,[o,i,j],c)) c],GX l s (m,[o,i,j],c)):=(by unfold LA;rw[f 2 s,Av (λz=>nomatch z)];unfold LA;rw[f 2,Av (λz=>nomatch z),e];rfl);rw[r];rfl;exact f 3 s
theorem j4:∀{ps:ϩ BF}{k:Nat}{s:Jb.St},(∀p∈ps,FB rs p)->(CS (FJ 4) (JO tw lf k ps).flatten s).1=KL tw lf k s ps|[],_,_,_=>rfl|p::ps,k,s,h=>by show(CS (FJ 4) (jb tw (lf.getD k 0) k p++(JO tw lf (k+1) ps).flatten) s).1=_;rw[XN,yL (h p Aa)];show _++(CS (FJ 4) (JO tw lf (k+1) ps).flatten _).1=_;rw[j4 λq c=>h q (Ac _ c)];rfl
def yM:Sp:=λo H Q _=>∃(D L:Ϡ) (i:Int) (e:ϓ) (k:ϩ V) (d:ϩ BF),o=[.ref D,.int i,.ref L]/\H D=some (.lst k)/\H L=some (.lst (e.map V.int))/\e.length=3/\Paired (Mv D H) k d/\d.length<=3/\∀F j c,H F=none->AA H c->c F=some (.lst j)->Paired (Mv F c) j (KL i e 0 (100,[2,4,8]) d)->Q (.ref F) c
def yN:T.F 1 76 yM:=by
 refine BX T.Ŀ.fn Qr ?_;k_ne;revert vs;refine Z7 λD L r j zs s hD hL aC am aG q=>?_;have aE:=B2 am;refine⟨_,(AH (AL 3 Qr.nd (CO AI)) (AH (AL 4 Qr.nd AJ) (AH (AL 5 Qr.nd (FP (AD AJ (AD AJ (AD AJ AI))))) (AH (GZ B6 U (NN U T.É (AD (ln T (pv 0)) AI)) (AQ 6 Qr.nd) (AH (Ny (CC (CA NO (BZ (DE K U) (pv 2) (pv 6) (λ_ _=>U)) AJ (BL _)) (BV (AL 5 Qr.nd (BZ (JU K U) (BZ (DE K U) (pv 0) (pv 6) (λ_ _=>U)) AJ (λ_ _=>U)))) CJ)) (AH (Ny (CC (CA EE (AX GM (BZ (DE K U) (pv 2) (pv 6) (λ_ _=>U)) AJ) AJ (BL _)) (BV (AL 4 Qr.nd (BZ (JU K U) (BZ (DE K U) (pv 0) (pv 6) (λ_ _=>U)) AJ (λ_ _=>U)))) CJ)) (BV (AL 3 Qr.nd (AX SW (pv 3) (AX SX (CO (AD (FP (AR 4 (AR 5 (AD (BZ (JU K U) (BZ (DE K U) (pv 0) (pv 6) (λ_ _=>U)) AJ (λ_ _=>U)) AI)))) AI)) (BZ (DE K U) (CO (AD AJ (AD AJ AI))) (FQ Ww U T.Ğ Pp (AD (FH EE (pv 6) (pv 1) (BL _)) AI)) (λ_ _=>U))))))))) (AF (pv 3)))))),?_⟩
 walk;refine λd0 aw=>?_;x_fa H1 ax ap;walk;refine λg0 aF=>?_;x_fa H2 ag aq;have al:=ax.trans ag;walk;refine BY D _ U (.inl (AC.of (al _ _ hD))) ?_;walk;refine Nr (lo:=0) (n:=(zs.length:Int).toNat) (λi v I=>∃(F g:Ϡ) (G:ϩ V) (v6:Ϩ V),v=[some (.ref D),some (.int r),some (.ref L),some (.ref F),some (.int (NX j 0 (100,[2,4,8]) (s.take i)).1),some (.ref g),v6]/\AA H I/\H F=none/\I F=some (.lst G)/\I g=some (.tup ((NX j 0 (100,[2,4,8]) (s.take i)).2.map V.int))/\Paired (Mv F I) G (KL r j 0 (100,[2,4,8]) (s.take i))/\G.length<=2*i)
  ⟨d0,g0,[],none,U,al,aw,ag _ _ ap,aq,.nil,B8 _⟩ ?_ ?_
 (.refine λi v I hi J=>?_;revert v;refine So λF g G v6 d R X aa O aB=>?_;have ao:i<zs.length:=(by lia);obtain⟨p,ah,t,pg,pw,et,ht,hg,aJ,hw⟩:=FD am (A6 ao);have Z:∀_:Unit,DP zs (0+(i:Int))=some (.ref t):=λ_=>(by rw[Dv,<-et];exact FR (A6 ao));have y:∀_:Unit,DP (j.map V.int) (0+(i:Int))=some (.int (j.getD i 0)):=λ_=>(by rw[Dv];refine FR ?_;rw[An,Bf,A6 (by lia)];rfl);have ei:0+(s.take i).length=i:=(by rw[Ao];lia);have ar:NX j 0 (100,[2,4,8]) (s.take (i+1))=GX (j.getD i 0) (NX j 0 (100,[2,4,8]) (s.take i)) p:=(by rw[Am,ah];show NX j 0 _ (s.take i++[p])=_;rw[iY,ei]);have aA:KL r j 0 (100,[2,4,8]) (s.take (i+1))=KL r j 0 (100,[2,4,8]) (s.take i)++KD r i (On (NX j 0 (100,[2,4,8]) (s.take (i+1))) p.2.2):=(by rw[Am,ah];show KL r j 0 _ (s.take i++[p])=_;rw[iZ,ei];rfl);rw[aA,ar];generalize NX j 0 (100,[2,4,8]) (s.take i)=st at aa⊢;generalize j.getD i 0=l at y⊢;have aM:D≠F:=λe=>(by rw[e,R]at hD;cases hD);walk;refine AU (λv H4=>∃g',v=[some (.ref D),some (.int r),some (.ref L),some (.ref F),some (.int st.1),some (.ref g'),some (.int (0+(i:Int)))]/\H4=I/\I g'=some (.tup ((if l<2 then p.2.1 else st.2).map V.int))) ?_ ?_;(.walk;refine DH L _ _ _ U U (AC.of (d _ _ hL)) (y ()) ?_;walk;by_cases c:l<2;(.rw[Ab c,B1 c];refine BB ?_;walk;exact⟨D,_,_,_,U,U,AC.of (d _ _ hD),Z (),t,_,_,_,U,U,BP.of (d _ _ ht),U,pg,U,U,d _ _ hg⟩);rw[Aj c,Av c];exact AK ⟨g,U,U,aa⟩);refine λv H4 J=>?_;revert v;refine Oo λg' ab B=>?_;subst ab;refine AU (λv H5=>v=[some (.ref D),some (.int r),some (.ref L),some (.ref F),some (.int (if l%2=0 then p.1 else st.1)),some (.ref g'),some (.int (0+(i:Int)))]/\H5=H4) ?_ ?_;(.walk;refine DH L _ _ _ U U (AC.of (d _ _ hL)) (y ()) ?_;walk;have ec:decide (V.int (l%2)=V.int 0)=decide (l%2=0):=C4.mpr ⟨λz=>V.int.inj z,λz=>by rw[z]⟩;rw[ec];by_cases c:l%2=0;(.rw[Ab c,B1 c];refine BB ?_;walk;exact⟨D,_,_,_,U,U,AC.of (d _ _ hD),Z (),t,_,_,_,U,U,BP.of (d _ _ ht),U,U,U⟩);rw[Aj c,Av c];refine AK ?_;exact⟨U,U⟩);rintro v H5 ⟨rfl,rfl⟩;have e2:GX l st p=(if l%2=0 then p.1 else st.1,if l<2 then p.2.1 else st.2):=U;rw[e2];generalize (if l%2=0 then p.1 else st.1)=m';generalize (if l<2 then p.2.1 else st.2)=as at B⊢;walk;refine DH D _ _ _ U U (AC.of (d _ _ hD)) (Z ()) ?_;refine DH t _ _ _ U U (BP.of (d _ _ ht)) U ?_;walk;refine λC aI=>?_;x_fa Ha au ac;walk;refine λp1 aK=>?_;x_fa H7 ak av;walk;refine λp2 aH=>?_;x_fa H8 Y ay;walk;refine .inr ⟨_,U,?_⟩;have ec:decide (V.int (0+(i:Int))=V.int r)=decide ((i:Int)=r):=(by rw[Dv];exact C4.mpr ⟨λz=>V.int.inj z,λz=>by rw[z]⟩);rw[ec];refine DH p2 _ _ _ U U (AC.of ay) (YV _ _ _) ?_;obtain⟨n,en,hn,an⟩:∃n:Int,(if decide ((i:Int)=r)=true then V.int 2 else V.int 1)=.int n/\(n=1\/n=2)/\((List.replicate n.toNat [V.ref C]).flatten=if (i:Int)=r then [.ref C,.ref C]else [.ref C]):=(by by_cases e:(i:Int)=r;rw[Ab e,B1 e];exact HA 2 U (.inr U) U;rw[Aj e,Av e];exact HA 1 U (.inl U) U);rw[en];refine JH p1 n [.ref C] (DY U U (Y _ _ av) (by lia) (by lia) (DG (by show 1*n.toNat<=_;lia)) (λp3 aD=>?_));rw[an];generalize af:(if (i:Int)=r then [V.ref C,.ref C]else [.ref C])=ve;have aL:ve.length<=2:=(by rw[<-af];split;exact A9 2;exact Ed 1);x_fa H9 ai az;have E:=au.trans (ak.trans (Y.trans ai));refine NL F p3 _ _ U U (E _ _ X) az (DG (by lia)) (λp4 S=>?_);have ae:=BM S (.lst (G++ve));have k:=E.trans ae;have Q:∀{b:Ϡ}{o:HO},H5 b=some o->b≠p4:=λ{b o} h e=>(by have h:=E _ _ h;rw[e,S]at h;cases h);refine LO p4 g' _ _ (DY U (d.trans k) ((d.trans E).free S) AM (k _ _ B) ?_ (by rw[Ag];lia));have aj:=(ak.trans (Y.trans (ai.trans ae))) _ _ ac;have one:Mv p4 (upd H9 p4 (.lst (G++ve))) (.ref C) (On (m',as) p.2.2):=⟨C,g',pw,U,aj,k _ _ B,Q (d _ _ hw),k _ _ (d _ _ hw)⟩;refine Lns.Th (Paired.Æ O λ_ _ J=>by obtain⟨t,g,w,e,z1,z2,z3,z4⟩:=J;exact⟨t,g,w,e,k _ _ z1,k _ _ z2,Q z4,k _ _ z4⟩) ?_;generalize upd H9 p4 (HO.lst (G++ve))=Hz at one⊢;rw[<-af];unfold KD;split;exact .cons one (.cons one .nil);exact .cons one .nil);refine λv I J=>?_;revert v;refine So λF g G v6 d R X aa O aB=>?_;rw[Ai (by lia)]at O;walk;exact q F G I R d X O
def yO:Sp:=λc H Q _=>∃(t:Ϡ) (g:Int×Int),c=[.ref t]/\H t=some (.tup [.int g.1,.int g.2])/\g.1.natAbs<100000/\g.2.natAbs<100000/\Q (.str (KC g)) H
def j6:T.F 1 77 yO:=by refine BX T.ŧ.fn tI ?_;k_ne;obtain⟨t,⟨u,v⟩,rfl,c,d,e,q⟩:=h;have c:=c;have d:=d;have e:=e;unfold KC at q;have q:=q;refine⟨_,(AH (CC (CA EE (BZ (JU K U) (pv 0) AJ (λ_ _=>U)) AJ (BL _)) (AF (FQ JZ U T.Ô JS (AD (BZ (JU K U) (pv 0) AJ (λ_ _=>U)) AI))) CJ) (AF (AX IV (AX IV (FQ JZ U T.Ô JS (AD (BZ (JU K U) (pv 0) AJ (λ_ _=>U)) AI)) BN) (FQ JZ U T.Ô JS (AD (BZ (JU K U) (pv 0) AJ (λ_ _=>U)) AI))))),?_⟩;walk;refine DH t _ _ _ U U (BP.of c) U ?_;walk;rw[show decide (V.int v=V.int 1)=decide (v=1)from C4.mpr (by rw[V.int.injEq])];refine CG (λi=>?_) (λi=>?_);(.rw[B1 (Ax i)]at q;walk;refine DH t _ _ _ U U (BP.of c) U ?_;walk;(try refine⟨d,?_⟩);exact q);rw[Av (λz=>i (Ab z))]at q;walk;refine DH t _ _ _ U U (BP.of c) U ?_;walk;have j:=Uc d;have o:=Uc e;have k:("/":ϥ).length=1:=(by lk);(try refine⟨d,?_⟩);refine⟨DG (by lia),?_⟩;walk;refine DH t _ _ _ U U (BP.of c) U ?_;walk;(try refine⟨e,?_⟩);exact⟨DG (by rw[Ba];lia),q⟩
def IJ(S:ϝ)(H:Hp)(v:V)(x:HW):Prop:=∃t p,v=.ref t/\H t=some (.tup [.ref p,.str (KC x.2)])/\S p/\H p=some (.lst (x.1.map V.str))
def Q5(h:Paired (IJ S H) xs ys)(k:Mc.BK S H i)(w:∀b,S b->S' b):Paired (IJ S' i) xs ys :=Paired.Æ h λ_ _ ⟨t,p,e,d,c,z3⟩=>⟨t,p,e,k _ _ d (.inr ⟨_,U⟩),w p c,k _ _ z3 (.inl c)⟩
structure Cm(rs:ϩ BS)(n:Nat)(rw:ϩ HW):Prop where
 ln:∀x∈rw,x.1≠[]/\∀y∈x.1,Mc.Wd rs 5 y
 sz:((rw.map λx=>x.1).map List.length).sum<=n
 gp:∀x∈rw,x.2.1.natAbs<100000/\x.2.2.natAbs<100000
def Cm.app{u:ϩ HW}(h:Cm rs n u)(g:Cm rs k v):Cm rs (n+k) (u++v):=by refine⟨λx c=>(Be.mp c).elim (h.ln x) (g.ln x),?_,λx c=>(Be.mp c).elim (h.gp x) (g.gp x)⟩;have:=h.sz;have:=g.sz;rw[Ae,Ae,Gs];lia
def yP(K:ϡ)(most:Int):Sp:=λr H Q _=>∃(k no D:Ϡ) (j i:ϩ V) (d:ϩ BS) (e:ϩ BF),r=[.ref k,.ref D]/\H k=some (.lst j)/\Paired (Cs.FL H) j d/\EW most d/\H D=some (.lst i)/\Paired (Mv no H) i e/\(∀p∈e,FB d p)/\e.length<=6 /\(EC d e=none->∀c,AA H c->Q .non c) /\∀(F:Ϡ) (o:ϩ V) (rw:ϩ HW) c,H F=none->AA H c->c F=some (.lst o)->EC d e=some rw->Paired (IJ (λb=>b≠F/\H b=none) c) o rw->Cm d 42 rw->Q (.ref F) c
def yQ(h:FB rs p):Pc rs p:=by refine Oq (λd c i e g=>?_) h.g;have m:=h.m;exact⟨⟨d,c,i,e,by lia,by lia,by lia,by lia,by lia,by lia⟩,h.w,λx j=>(h.ok x j).1⟩
def yR{most:Int}:T.F 7 78 (yP K most):=by
 refine BX T.Ů.fn Qs ?_;k_ne;revert h;refine EK λpc no D xs zs=>JG λd ps=>MV λaO aG aD R hD hz aW=>ED λbg qn q=>?_;subst aO;have bf:=R.l2;have ac:=B2 hz;refine⟨_,(AH (AL 2 Qs.nd (CO AI)) (AH (GZ B6 U (EV K U (pv 1)) (ES K U (n:=3) U (BO (AQ 3 Qs.nd) (BO (AQ 4 Qs.nd) (BO (AQ 5 Qs.nd) EL)))) (AH (Ny (dR U (λ_ _=>(BV (AL 6 Qs.nd (Vb T.ī (gO T) hr U U (AR 0 (AR 5 (AR 3 (AZ 4)))))))) (λ_=>(dW K U U T.È.mg T.È.cls (λ_=>(AF QB)) dQ)))) (AH (AL 7 Qs.nd (BG T.ù (gQ T) hr U (AR 5 (AZ 6)))) (AH (GZ B6 U (EV K U (Nw (NQ K U) (pv 7) Ph (LY (Nt Nv AJ)))) (AQ 8 Qs.nd) (@BV _ _ _ (FC (@EG K _ _ _ _ _ _ _ _ _ _ _ _ Ay Bj Bk KW (pv 2) (AD (FP (AR 8 (AD (BG T.ŧ (j6 T) hr U (AD (BG T.Ě (Yn T) hr U (AR 0 (AR 8 (AR 3 (AZ 4))))) AI)) AI))) AI) U U U U U U)))) (@BV _ _ _ (FC (@EG K _ _ _ _ _ _ _ _ _ _ _ _ Ay Bj Bk KW (pv 2) (AD (FP (AD (BZ (DE K U) (pv 7) (Nt Nv AJ) (λ_ _=>U)) (AD (BG T.ŧ (j6 T) hr U (AD (BG T.ń (gM T) hr U (AR 0 (AD (BZ (DE K U) (pv 7) (Nt Nv AJ) (λ_ _=>U)) (AR 3 (AZ 4))))) AI)) AI))) AI) U U U U U U))))))) (AF (pv 2)))),?_⟩;walk;refine λF hF=>?_;x_fa H1 s1 a6;refine AU _ U ?_;refine HA D U ⟨_,AC.of (s1 _ _ hD)⟩ ?_;let Izz:zT:=λi J H2=>∃(v3 v4 v5 v6 v7 v8:Ϩ V) (ts:ϩ V) (rw:ϩ HW),J=[some (.ref pc),some (.ref D),some (.ref F),v3,v4,v5,v6,v7,v8]/\Jb.BC F H1 H2/\H2 F=some (.lst ts)/\EC d (ps.take i)=some rw/\ts.length<=i*7/\Paired (IJ (λb=>b≠F/\H b=none) H2) ts rw/\Cm d (i*7) rw
 refine Qg (a:=D) (xs:=zs) Izz
  ⟨none,none,none,none,none,none,[],[],U,.refl _ _,a6,U,A9 _,.nil,⟨λx h=>(nomatch h),A9 _,λx h=>(nomatch h)⟩⟩ ?_ ?_ ?_
 refine λi J H2 _=>EK λ_ _ _ _ _=>GA λ_ _ _=>ED λ_ hs _=>?_;exact AC.of (hs _ _ (λe=>by rw[e,hF]at hD;cases hD) (s1 _ _ hD))
 .refine λi v J H2 hv=>EK λv3 v4 v5 v6 v7=>GA λv8 ts av=>MU λag aj aq X bb au Z=>?_;subst ag;obtain⟨⟨m,gs,S⟩,al,t,g,w',rfl,ht,hg,_,hw⟩:=FD hz hv;have PA:=aW _ (Af al);have bm:=(Ap.mp al).1;refine QA PA.g λI B Y=>MU λe g1 g2 g3 g4 g5 g6=>?_;have e:gs=[I,B,Y]:=e;subst e;have s2:AA H H2:=λb o e=>aj b o (λz=>by rw[z,hF]at e;cases e) (s1 _ _ e);have hm:20<=m/\m<=140:=PA.m;have ba:1<=S.length/\S.length<=7:=PA.w;have ap:∀x∈S,Mc.Wd d 5 x:=λx hx=>(PA.ok x hx).1;have hg:H g=some (.tup [.int I,.int B,.int Y]):=hg;have hw:H w'=some (.lst (S.map V.str)):=hw;have ht:H2 t=some (.tup [.int m,.ref g,.ref w']):=s2 _ _ ht;walk;(try refine⟨_,_,U,BP.of ht,U,?_⟩);x_go;x_go;x_go;walk;let Izz:zS:=λJ H3=>∃(r:Ϡ) (bs:ϔ) (f:Nat->ϑ),J=[some (.ref pc),some (.ref D),some (.ref F),some (.int m),some (.ref g),some (.ref w'),some (.ref r),v7,v8]/\AA H2 H3/\H3 r=some (.lst (bs.map λb:Nat=>V.int (b:Int)))/\Br.JJ (DD d S m I B Y) f 0/\Br.DO (DD d S m I B Y) f 0 bs;refine AU Izz ?_ ?_;(.walk;refine DC pc w' g d S (LO m I B Y (DY U ⟨xs,AC.of (s2 _ _ aG),EO aD s2⟩ (AC.of (s2 _ _ hw)) (by lia) (λx hx=>U5 (ap x hx)) (λx hx=>gZ R.wd (ap x hx)) (DY (BP.of (s2 _ _ hg)) (by lia) (by lia) (by lia) (by lia) (λH3 dx mm f s3 aZ C h0=>?_) (λr bs f H3 bj s3 aV C hb=>?_))));(.refine LH a.Ç (some a.Í) true U T.È.cls (T.m 1 1) (BB ?_);walk;refine qn ?_ _ (s2.trans (EY s3 aZ));rw[gX al];exact Ys (gU (p:=(m,[I,B,Y],S)) C h0) _);exact DZ r bs f U s3 aV C hb)
  .refine λJ H3 aI=>?_;revert J;refine Q8 λr bs f ao a8 C hb=>?_;have s3:=s2.trans ao;have ar:=ao _ _ aq;have aX:=hb.len;have aK:=hb.mem;have hn:(DD d S m I B Y).n=S.length:=A3 _;rw[hn]at aX aK;have am:=Qu S bs 0;refine EX (λk c aJ SL=>?_) (gY R.wd hb ba ap);have aY:EZ d (m,[I,B,Y],S)=some (k.map (λx=>(x,Nl d m x))++[(c,LC d m B c)]):=(Yr (p:=(m,[I,B,Y],S)) C hb).trans (Bt some (by rw[aJ];exact Yq));walk;refine LO w' r S bs (DY U (AC.of (s3 _ _ hw)) a8 (by lia) (by lia) aK (λL zl H4 aA ak aC ac=>?_));rw[aJ]at ac am;rw[Ag]at am;have am:k.length+1=bs.length:=am;have aM:Paired (Lns.OA H F H4) zl (k++[c]):=Paired.Æ ac λ_ _ ⟨q0,e0,_,f0,z0⟩=>⟨q0,e0,(λe=>by rw[e,ar]at f0;cases f0),s3.free f0,z0⟩;obtain⟨zi,vl,rfl,aF,pl,rfl,ai,az,ay⟩:=VJ aM;have aQ:=B2 aF;have s4:=s3.trans ak;have aN:=ak _ _ ar;have a0:L≠F:=λe=>(by rw[e,ar]at aA;cases aA);have aH:DV (zi++[V.ref pl]) none (some (-1))=zi:=by have:=dw (id:V->V) zi (V.ref pl);rwa [J6,J6]at this
   have bl:DP (zi++[V.ref pl]) (-1)=some (V.ref pl):=Tg zi _;have GI:∀{H':Hp}{p0:Ϡ}{l:ώ},AA H H'->H' p0=some (.lst (l.map V.str))->l∈k++[c]->JD K H' pc p0 g m I B Y d l:=λ{H' p0 l} s' ax hk =>let ⟨a1,a2,a3,a4,a5⟩:=SL.ln l hk
    ⟨⟨xs,AC.of (s' _ _ aG),EO aD s'⟩,AC.of ax,BP.of (s' _ _ hg),a1,by lia,λx hx=>U5 (a3 x hx),g1,by lia,by lia,by lia,by lia,a4,by lia⟩
   have Q:∀{l:ώ},l∈k++[c]->Ro m I Y d l=0->(Nl d m l).1.natAbs<100000/\(Nl d m l).2.natAbs<100000:=λ{l} hk ho=>(by refine HP (λa1 a2 a3 a4 a5=>?_) (SL.ln l hk);have bd:l.length≠0:=λz=>a1 (Cq.mp z);have h1:=(cY (Ek (show I<=Y by lia) (show 0<=(l.length:Int)-1 by lia))).mp ho;have h2:0<=((l.length:Int)-1)*I:=Ig (by lia) g1;exact vH (by lia) (by lia) (by lia));walk;refine BY L _ U (AC.of aC) (λpn aP=>?_);rw[aH];x_fa H5 G aE;have aS:pn≠F:=λe=>(by rw[e,aN]at aP;cases aP);have a':=G _ _ aN;have s5:=s4.trans G;refine HA pn U ⟨_,AC.of aE⟩ ?_;let Izz:zT:=λj J H6=>∃(v8:Ϩ V) (us:ϩ V),J=[some (.ref pc),some (.ref D),some (.ref F),some (.int m),some (.ref g),some (.ref w'),some (.ref r),some (.ref L),v8]/\Jb.BC F H5 H6/\H6 F=some (.lst (ts++us))/\us.length=j/\Paired (IJ (λb=>b≠F/\H b=none) H6) (ts++us) (av++(k.take j).map λx=>(x,Nl d m x))
   refine Qg (a:=pn) (xs:=zi) Izz
    ⟨v8,[],U,.refl _ _,by rw[Aq];exact a',U,by rw[Aq,List.take_zero];show Paired _ _ (_++[]);rw[Aq];exact Q5 au (.of_same (ao.trans (ak.trans G))) λ_ z=>z⟩ ?_ ?_ ?_
   refine λj J H6 _=>GL λ_ _ _ hs _=>?_;exact AC.of (hs _ _ aS aE);(.refine λj y J H6 hy aI=>?_;revert J;refine Q7 λv8 us E af aL an=>?_;obtain⟨l,hl,p0,rfl,ae,aB,ax⟩:=FD aF hy;have bh:=(Ap.mp hl).1;have hm:=Af hl;have hk:=Ce [c] hm;have ho:=SL.off l hm;have s6:AA H H6:=λb o e=>E b o (λz=>by rw[z,hF]at e;cases e) (s5 _ _ e);have ab:=E _ _ ae (G _ _ ax);walk;refine⟨.inl ⟨U,_,AC.of af⟩,?_⟩;walk;refine DC pc p0 g m I (LO B Y d l (GC U (GI s6 ab hk) ho (λt7 H7 a9 aw aT=>?_)));walk;refine GC ((Q hk ho).1) ((Q hk ho).2) (DG (by show 2<=100000;decide)) (λt8 a7=>?_);x_fa H8 as ah;have s:=aw.trans as;have O:=s _ _ af;refine DZ F _ _ U U O (KY (by rw[Ag];lia)) ?_;refine MY _ (us++[.ref t8]) U ((E.trans (.of s)).upd) (by rw[<-B4];exact AM) (by rw[Ag,aL];rfl) ?_;rw[Am,hl,Ae,<-B4,<-B4];exact Bz (Q5 an ((Mc.BK.of_same s).trans ((Mc.BK.lst O).mono λ_ z=>z.1)) λ_ z=>z) ⟨t8,p0,U,by rw[BJ (HB ah O nofun)];exact ah,⟨ae,aB⟩,by rw[BJ ae];exact s _ _ ab⟩);refine λJ H6 aI=>?_;revert J;refine Q7 λv8 us E af aL an=>?_;rw[aQ,Ai (A9 _)]at an;have s6:AA H H6:=λb o e=>E b o (λz=>by rw[z,hF]at e;cases e) (s5 _ _ e);have be:=E _ _ a0 (G _ _ aC);have ab:=E _ _ ai (G _ _ ay);have hk:c∈k++[c]:=Bm _ Aa;have bc:(LC d m B c).1.natAbs<100000/\(LC d m B c).2.natAbs<100000:=(by unfold LC;by_cases hf:Qt m B d c;rw[B1 hf];exact⟨by show B.natAbs<100000;lia,by show(1:Int).natAbs<100000;decide⟩;rw[Av hf];exact Q hk (SL.la.resolve_left hf));have aR:=SL.sz;have C1:Cm d 7 (k.map (λx=>(x,Nl d m x))++[(c,LC d m B c)]):=(by refine⟨λx hx=>?_,?_,λx hx=>?_⟩;rcases Be.mp hx with h|h;refine AS (λl hl aa=>?_) (Bq.mp h);subst aa;have h:=SL.ln l (Ce _ hl);exact⟨h.1,h.2.2.1⟩;rw[Ah.mp h];have h:=SL.ln c hk;exact⟨h.1,h.2.2.1⟩;rw[Ae,D7,show(k.map ((λx:HW=>x.1)∘λx=>(x,Nl d m x)))=k from J6 _];exact aR;rcases Be.mp hx with h|h;refine AS (λl hl aa=>?_) (Bq.mp h);subst aa;exact Q (Ce _ hl) (SL.off l hl);rw[Ah.mp h];exact bc);have hC:=Z.app C1;walk;refine⟨.inl ⟨U,_,AC.of af⟩,?_⟩;walk;refine DC pc pl g m I (LO B Y d c (IR U (GI s6 ab hk) (by lia) (by lia) SL.la (λt7 H7 a9 aw aT=>?_)));walk;refine λt8 a7=>?_;x_fa H8 as ah;have s:=aw.trans as;have O:=s _ _ af;refine DZ F _ _ U U O (KY (by rw[Ag];lia)) ?_;refine DC _ _ _ _ _ (JH _ (ts++us++[.ref t8]) _ (DY U ((aj.trans ((Jb.BC.of (ao.trans (ak.trans G))).trans (E.trans (.of s)))).upd) AM (by rw[Am,al];exact VB aY X) (by rw[Ag,Ag];show _+_+1<=_;lia) ?_ (by rw[L5];exact hC)));rw[<-B4];exact Bz (Q5 an ((Mc.BK.of_same s).trans ((Mc.BK.lst O).mono λ_ z=>z.1)) λ_ z=>z) ⟨t8,pl,U,by rw[BJ (HB ah O nofun)];exact ah,⟨ai,az⟩,by rw[BJ ai];exact s _ _ ab⟩
 refine λJ H2=>EK λv3 v4 v5 v6 v7=>GA λv8 ts av=>MU λag aj aq X bb au Z=>?_;subst ag;rw[ac,Ai (A9 _)]at X;rw[ac]at Z;have s2:AA H H2:=λb o e=>aj b o (λz=>by rw[z,hF]at e;cases e) (s1 _ _ e);walk;exact q F ts av H2 hF s2 aq X au ⟨Z.ln,by have:=Z.sz;lia,Z.gp⟩
def yS(a:Ad):Sp:=λe H Q _=>∃(p:Ϡ) (A:Mc.DL) (c:Cf) (m:Ms),e=[.ref p]/\MA a c H p A m/\Mc.Ok c m/\∀d,AA H d->Q (.str (OO c m)) d
def j7:T.F 5 81 (yS a):=by refine BX T.ĭ.fn tJ ?_;k_ne;revert vs;refine JP λp B c m M O q=>?_;unfold OO at q;have I:=M.ins;refine⟨_,(AH (CC (FK (FM (K:=K) U T.Machine.cl T.Õ (YF T) hr Yi (pv 0))) (AF BN) CJ) (AF (BZ (DE K U) (CO (AD BN (AD BN AI))) (FQ Ww U T.Ğ Pp (AD (FM (K:=K) U T.Machine.cl T.ã (YE T) hr Yh (pv 0)) AI)) (λ_ _=>U)))),?_⟩;walk;refine EM p B c m U M O (λz d=>?_);have M1:=M.same d;have G:=M1.ins;refine AU _ U ?_;cases k:R7 c m with|true =>rw[k]at q;exact BB (q z d)|false =>rw[k]at q;refine AK ?_;walk;intro v y;generalize e:upd z v _=E;obtain⟨o,s⟩:_/\E v=some (.lst [.str "going",.str "stuck"]):=LN e y;clear e;have M2:=M1.same o;have H:=M2.ins;walk;refine EM p B c m U M2 O (λC i=>.inr ⟨_,U,v,_,_,_,U,U,AC.of (i _ _ s),YV _ _ _,?_⟩);have r:=q C (d.trans (o.trans i));cases j:R6 c m with|true =>rw[j]at r;exact r|false =>rw[j]at r;exact r
def yT(a:Ad):Sp:=λi H Q _=>∃(p c:Ϡ) (j:Hp) (D:Da) (d:Dk) (B:Mc.DL),i=[.ref p,.ref c]/\BR a j H p D d/\MA a d.cf H c B d.m/\Wk d.cf d.m/\∀e,AA H e->Q (.bl true) e
def YW:T.F 22 82 (yT a):=by refine BX T.Ď.fn gq ?_;k_ne;revert vs;refine Su λp E H0 D d B M N hw q=>?_;have I:=M.ins;have J:=N.ins;have O:=M.b.ok;have c:d.m.Ä.natAbs<100000:=(by unfold Wk at hw;lia);have v:=O.tl;refine⟨_,(AH (AL 2 gq.nd (KI (K:=K) U T.Û.cl T.Å (Ol T) hr Mn (pv 0) (AD BN AI))) (AH (CC (PW.pt (Ot (CA (GQ K U hr.units) (pv 2) (FM (K:=K) U T.Machine.cl T.Ò (VI T) hr Vz (pv 1)) (BL _)) (P8 (CA (GQ K U hr.units) (KI (K:=K) U T.Û.cl T.Å (Ol T) hr Mn (pv 0) (AD BN AI)) (CO (AD (BG T.ĭ (j7 T) hr U (AZ 1)) AI)) (BL _))))) (AF JI) CJ) (AH (FC (@EG K _ _ _ _ _ _ _ _ _ _ _ _ Ay Bj Bk KW (pv 2) (AD BN AI) U U U U U U)) (AF (GY (FH (FT K U hr.units) (KI (K:=K) U T.Û.cl T.Å (Ol T) hr Mn (pv 0) (AD BN AI)) (FM (K:=K) U T.Machine.cl T.Ò (VI T) hr Vz (pv 1)) (BL _)) (KG (FH (FT K U hr.units) (KI (K:=K) U T.Û.cl T.Å (Ol T) hr Mn (pv 0) (AD BN AI)) (CO (AD (FQ JZ U T.Ô JS (AD (FM (K:=K) U T.Machine.cl T.Þ (YH T) hr Yk (pv 1)) AI)) AI)) (BL _)))))))),?_⟩;walk;refine OT (x:="slugs") M (by lk) (.tell (.inl U) c λr1 S H1 H C h1 tl=>?_);obtain rfl:=tl.1 U;have N1:=N.same C;have J1:=N1.ins;walk;refine EM E B d.cf d.m U N1 O (λr2 H2 ae k X=>?_);have X:=X;have z:=k _ _ h1;refine Sj z X v ⟨_,U,AK ?_⟩;have s2:=C.trans k;have M2:=M.same s2;have I2:=M2.ins;walk;refine OT (x:="state") M2 (by lk) (.tell (.inr (.inl U)) c λr3 S H3 ah i h3 tl=>?_);obtain rfl:=tl.2.1 U;have N3:=N.same (s2.trans i);have J3:=N3.ins;walk;refine EM E B d.cf d.m U N3 O (λH4 y=>?_);walk;have ab:∀x∈[OO d.cf d.m],PyData.canLay0 (.str x)=true:=λx L=>(by rw[Ah.mp L];exact iI _ _);refine OQ (y _ _ h3) ab λH5 R=>⟨_,U,AK ?_⟩;have s:=i.trans (y.trans R);have j:=s _ _ z;have aj:d.m.texts.length<=90000:=(by have:=O.tx;have:=Vd O;lia);walk;refine⟨.inl ⟨U,_,AC.of j⟩,?_⟩;walk;refine DZ r1 _ _ U U j (KY (by rw[A3];lia)) ?_;have Q:=DF (o:=HO.lst (d.m.texts.map V.str++[V.str "more"])) (s2.trans s) H;generalize upd H5 r1 _=H6 at Q⊢;have M6:=M.same Q;have I6:=M6.ins;walk;refine OT (x:="slugs") M6 (by lk) (.tell (.inl U) c λr7 S H7 af aa h7 tl=>?_);obtain rfl:=tl.1 U;have s7:=Q.trans aa;have N7:=N.same s7;have J7:=N7.ins;walk;refine EM E B d.cf d.m U N7 O (λr8 H8 ag r Z=>?_);have Z:=Z;refine Sj (r _ _ h7) Z v ?_;have s8:=s7.trans r;have M8:=M.same s8;have I8:=M8.ins;walk;refine OT (x:="waited") M8 (by lk) (.tell (.inr (.inr U)) c λr9 S H9 ak ac h9 tl=>?_);obtain rfl:=tl.2.2 U;have s9:=s8.trans ac;have N9:=N.same s9;have J9:=N9.ins;walk;refine EM E B d.cf d.m U N9 O (λai e=>?_);walk;(try refine⟨c,?_⟩);have G:∀x∈[CY d.m.Ä],PyData.canLay0 (.str x)=true:=λx L=>(by rw[Ah.mp L];exact OR _);exact OQ (e _ _ h9) G λHb Y=>q _ (s9.trans (e.trans Y))
def Q6(d:Dk)(qs:Ϙ):ϩ ώ:=[VM d,VN d,[II d],[Q4 qs]]
theorem j8{qs:Ϙ}(j:Mc.Pk d.ff (Mc.start d.ff.rs) (NG d.rs.length) qs)(h:Qw d x us):∀{i:Nat},JN[i]?=some x->(Q6 d qs)[i]?=some zs->us=zs
 |0,c,e=>by cases c;cases e;exact h.1 U|1,c,e=>by cases c;cases e;exact h.2.1 U
 |2,c,e=>by cases c;cases e;exact h.2.2.1 U|3,c,e=>by cases c;cases e;obtain⟨o,p,k⟩:=h.2.2.2 U;rw[k,j.uniq p]
 |n+4,c,_=>by cases c
def yU{d:Dk}{qs:Ϙ}{i:Nat}{zs:ώ}(e:d.comp.length<=100)(j:∀x∈d.comp,PyData.canLay0 (.str (AE x.1))=true)(k:PyData.canLay0 (.str (II d))=true)(hz:(Q6 d qs)[i]?=some zs):zs.length<=100/\∀y∈zs,PyData.canLay0 (.str y)=true:=by have h:=Af hz;simp only[Q6,Al,Bl,Dd]at h;rcases h with rfl|rfl|rfl|rfl;refine⟨by unfold VM;rw[A3];exact e,λy c=>?_⟩;obtain⟨r,o,rfl⟩:=Bq.mp c;exact j r o;refine⟨by unfold VN;rw[A3];exact e,λy c=>?_⟩;obtain⟨r,_,rfl⟩:=Bq.mp c;exact yh _;exact⟨by show 1<=100;decide,λy c=>by rw[Ah.mp c];exact k⟩;refine⟨by show 1<=100;decide,λy c=>?_⟩;rw[Ah.mp c];refine YS _ λz hz=>?_;obtain⟨r,_,rfl⟩:=Bq.mp hz;exact OR _
def yV(K:ϡ)(a:Ad):Sp:=λk H Q _=>∃(p j F:Ϡ) (o:Hp) (D:Da) (d:Dk) (e c:ϩ V) (S:ϝ),k=[.ref p,.ref j,.ref F,.int d.cast]/\BR a o H p D d/\JF d/\(∀x∈d.comp,PyData.canLay0 (.str (AE x.1))=true)/\PyData.canLay0 (.str (II d))=true/\H j=some (.lst e)/\Paired (Cs.FL H) e d.rs/\H F=some (.lst c)/\Paired (IJ S H) c d.comp/\∀i,AA H i->Q (.bl true) i
def YX:T.F 22 80 (yV K a):=by
 refine BX T.ĥ.fn Rn ?_;k_ne;revert h;refine EK λp pc F H0 D=>HX λd xs ts S=>MV λaB M ok aK aL aS aO=>ED λhF as q=>?_;subst aB;have Z:=ok.fit;have aM:d.comp.length<=100:=by have:=Z.1;unfold Mp at this;rwa [A3]at this
 have au:=B2 as;refine⟨_,(AH (AL 4 Rn.nd (BG T.ĸ (Yu T) hr U (AD (CW ["_law_desk","_law_case_here","_law_rows_here","_law_casting","_law_keys","_law_need","_law_due","_law_k","_law_row","_law_found","_law_line","_law_gap_here"] [] 2 (EV K U (pv 2)) (ES K U (n:=2) U (BO (BD 10) (BO (BD 11) EL))) EU (pv 10)) AI))) (AH (AL 5 Rn.nd (@EG K _ _ _ _ _ _ _ _ _ _ _ _ Bi Bu Bv (MG K U) BN (AD (CW ["_law_desk","_law_case_here","_law_rows_here","_law_casting","_law_keys","_law_need","_law_due","_law_k","_law_row","_law_found","_law_many"] [] 1 (EV K U (BG T.ś (iq T) hr U (AR 1 (AR 4 (AZ 3))))) (BD 10) EU (FQ JZ U T.Ô JS (AZ 10))) AI) U U U U U U)) (AH (AL 6 Rn.nd (CO (AD (CW ["_law_desk","_law_case_here","_law_rows_here","_law_casting","_law_keys","_law_need","_law_due","_law_k","_law_row","_law_found","_law_line","_law_gap_here"] [] 2 (EV K U (pv 2)) (ES K U (n:=2) U (BO (BD 10) (BO (BD 11) EL))) EU (λ{_ _ _ _ _}=>@EG K _ _ _ _ _ _ _ _ _ _ _ _ Bi Bu Bv (MG K U) BN (AZ 10) U U U U U U)) (AD (CW ["_law_desk","_law_case_here","_law_rows_here","_law_casting","_law_keys","_law_need","_law_due","_law_k","_law_row","_law_found","_law_line","_law_gap_here"] [] 2 (EV K U (pv 2)) (ES K U (n:=2) U (BO (BD 10) (BO (BD 11) EL))) EU (pv 11)) (AD (CO (AZ 4)) (AD (CO (AZ 5)) AI)))))) (AH (GZ B6 U (NN U T.É (AD AJ AI)) (AQ 7 Rn.nd) (AH (AL 8 Rn.nd (BZ (DE K U) (CO (AD BN (AD BN (AD BN (AD BN AI))))) (pv 7) (λ_ _=>U))) (AH (AL 9 Rn.nd (KI (K:=K) U T.Û.cl T.Å (Ol T) hr Mn (pv 0) (AZ 8))) (AH (CC (CA (GQ K U hr.units) (pv 9) (BZ (DE K U) (pv 6) (pv 7) (λ_ _=>U)) (BL _)) (AF JI) CJ) (AH (FC (@EG K _ _ _ _ _ _ _ _ _ _ _ _ Ay Bj Bk KW (pv 9) (AD BN AI) U U U U U U)) (BV (CC (CA (GQ K U hr.units) (KI (K:=K) U T.Û.cl T.Å (Ol T) hr Mn (pv 0) (AZ 8)) (BZ (DE K U) (pv 6) (pv 7) (λ_ _=>U)) (BL _)) (AF JI) CJ))))))) (AF JI))))),?_⟩;walk;refine⟨⟨_,AC.of hF⟩,λD1 aq=>?_⟩;let Izz:zU:=λi j c H2=>∃(B L:Ϩ V),c=[some (.ref p),some (.ref pc),some (.ref F),some (.int d.cast),none,none,none,none,none,none,B,L]/\AA H H2/\H2 D1=some (.lst j)/\Paired (Lns.ND D1 H2) j ((d.comp.take i).map λx=>x.1)
 refine GN (a:=F) (xs:=ts) Izz
  ?_ ?_ ?_ ?_
 exact CM none none U (BM aq _) AM .nil;refine λi j c H2 hi=>GL λB L _ s _=>?_;exact s.seq (AC.of hF);(.refine λi x j c H2 G I C=>?_;revert c;refine HY λB L s J hp=>?_;obtain⟨r,O,t,pl,rfl,ht,_,Y⟩:=FD as G;have aW:=B2 hp;rw[A3,Ao]at aW;have ax:=DR Y aq;refine CM _ _ U (BP.of (s _ _ ht)) U ?_;x_go;x_go;(try refine And.intro U ?_);walk;refine EI I J (by lia) ⟨_,_,U,DF s aq,AM,?_⟩;rw[Am,O,Ae];exact Bz (Xc hp) ⟨pl,U,ax,by rw[BJ ax];exact s _ _ Y⟩)
 .refine λj c H1 C=>?_;revert c;refine HY λB L aF J hp=>?_;rw[au,Ai (A9 _)]at hp;walk;refine DH D1 D1 j (Mp d) U (AC.of J) hp Z (λH2 aA=>?_);have s2:=aF.trans aA;clear J hp aF aA;have aQ:BW (Mp d)=II d:=U;rw[aQ];walk;refine DC pc (II d) d.cast xs d.rs (DY U (s2 _ _ aS) (EO aO s2) ok.Ĕ ok.sgn ok.fo (IQ ok.fk ok.fn (λn qs H3 a2 ay X av=>?_)));obtain⟨ar,aG⟩:=iz (λr hr=>(ok.fn r hr).2) av (λx G=>by rw[D0 G];decide);rw[show(NG d.rs.length).length=d.rs.length from By]at aG;have a0:=ok.Ĕ;have s3:=s2.trans ay;have X:H3 n=some (.lst ((qs.map λx=>x.1).map V.int)):=X;refine HA n U ⟨_,AC.of X⟩ (λD4 aC=>?_);let Izz:zU:=λi j c H4=>∃(B:Ϩ V),c=[some (.ref p),some (.ref pc),some (.ref F),some (.int d.cast),some (.str (II d)),none,none,none,none,none,B]/\AA H3 H4/\H4 D4=some (.lst j)/\j=((qs.take i).map λx=>Str.ofString (toString x.1)).map V.str
  refine GN (a:=n) (xs:=(qs.map λx=>x.1).map V.int) Izz
   ?_ ?_ ?_ ?_
  exact IS none U (BM aC _) AM U;refine λi j c H4 hi=>DN λB _ s _=>?_;exact s.seq (AC.of X);(.refine λi x j c H4 G I C=>?_;revert c;refine KN λB s J aa=>?_;subst aa;rw[An,An]at G;refine AS (λz hz E=>?_) (Az.mp G);subst E;refine AS (λy hy E=>?_) (Az.mp hz);subst E;have hb:=ar y (Af hy);walk;refine EI I J (by rw[A3,A3,Ao];lia) ⟨_,U,DF s aC,AM,?_⟩;rw[Am,hy,Ae,Ae];rfl)
  .refine λj c H4 C=>?_;revert c;refine KN λB s J aa=>?_;subst aa;rw[A3,A3,Ai (A9 _)]at J;have s4:=s3.trans s;have az:(((qs.map λx=>Str.ofString (toString x.1)).map (·.length)).sum+(qs.map λx=>Str.ofString (toString x.1)).length*(" ":ϥ).length)<=16777216:=(by have a:=QU (λx:ϥ=>x.length) 2000 (qs.map λx=>Str.ofString (toString x.1)) λy hy=>(by refine AS (λz hz E=>?_) (Bq.mp hy);subst E;have:=ar z hz;exact Uc (by lia));have e:(" ":ϥ).length=1:=(by lk);have a:(((qs.map λx=>Str.ofString (toString x.1)).map (·.length)).sum)<=_:=a;rw[A3]at a⊢;rw[e];lia);refine DZ _ D4 _ U U (AC.of J) az ?_;have aY:Txt.join " " (qs.map λx=>Str.ofString (toString x.1))=Q4 qs:=U;rw[aY];clear J az s X ay ar aG;have ac:=s4 _ _ hF;have ab:Paired (IJ S H4) ts d.comp:=Q5 as (Mc.BK.of_same s4) λ_ z=>z;walk;refine⟨⟨_,AC.of ac⟩,λD5 aH=>?_⟩;let Izz:zU:=λi j c H5=>∃(B L:Ϩ V),c=[some (.ref p),some (.ref pc),some (.ref F),some (.int d.cast),some (.str (II d)),some (.str (Q4 qs)),none,none,none,none,B,L]/\AA H4 H5/\H5 D5=some (.lst j)/\j=((d.comp.take i).map λx=>AE x.1).map V.str
   refine GN (a:=F) (xs:=ts) Izz
    ?_ ?_ ?_ ?_
   exact CM none none U (BM aH _) AM U;refine λi j c H5 hi=>GL λB L _ s _=>?_;exact s.seq (AC.of ac);(.refine λi x j c H5 G I C=>?_;revert c;refine HY λB L s J k=>?_;subst k;obtain⟨r,O,t,pl,rfl,ht,_,Y⟩:=FD ab G;obtain⟨Ĝ,ģ⟩:=Z.2 r.1 (Bq.mpr ⟨r,Af O,U⟩);refine CM _ _ U (BP.of (s _ _ ht)) U ?_;x_go;x_go;(try refine And.intro U ?_);walk;refine DZ _ pl r.1 U U (AC.of (s _ _ Y)) (V2 Ĝ ģ) (EI I J (by rw[A3,A3,Ao];lia) ⟨_,_,U,DF s aH,AM,?_⟩);rw[Am,O,Ae,Ae];rfl)
   .refine λj c H5 C=>?_;revert c;refine HY λB L an h5 k=>?_;subst k;rw[au,Ai (A9 _)]at h5;have ai:=an _ _ ac;have ag:=Q5 ab (Mc.BK.of_same an) λ_ z=>z;walk;(try refine⟨⟨_,AC.of ai⟩,?_⟩);refine λD6 aD=>?_;let Izz:zU:=λi j c H6=>∃(B L:Ϩ V),c=[some (.ref p),some (.ref pc),some (.ref F),some (.int d.cast),some (.str (II d)),some (.str (Q4 qs)),none,none,none,none,B,L]/\AA H5 H6/\H6 D6=some (.lst j)/\j=((d.comp.take i).map λx=>KC x.2).map V.str
    refine GN (a:=F) (xs:=ts) Izz
     ?_ ?_ ?_ ?_
    exact CM none none U (BM aD _) AM U;refine λi j c H6 hi=>GL λB L _ s _=>?_;exact s.seq (AC.of ai);(.refine λi x j c H6 G I C=>?_;revert c;refine HY λB L s J k=>?_;subst k;obtain⟨r,O,t,pl,rfl,ht,_,Y⟩:=FD ag G;refine CM _ _ U (BP.of (s _ _ ht)) U ?_;x_go;x_go;(try refine And.intro U ?_);walk;refine EI I J (by rw[A3,A3,Ao];lia) ⟨_,_,U,DF s aD,AM,?_⟩;rw[Am,O,Ae,Ae];rfl)
    .refine λj c H6 C=>?_;revert c;refine HY λB L ak h6 k=>?_;subst k;rw[au,Ai (A9 _)]at h6;walk;intro p7 aN;generalize e:upd H6 p7 _=H7;obtain⟨ae,h7⟩:_/\H7 p7=some (.lst ([II d].map V.str)):=LN e aN;clear e;walk;intro p8 aT;generalize e:upd H7 p8 _=H8;obtain⟨R,h8⟩:_/\H8 p8=some (.lst ([Q4 qs].map V.str)):=LN e aT;clear e;walk;intro p9 aP;generalize e:upd H8 p9 _=H9;obtain⟨Q,h9⟩:_/\H9 p9=some (.lst [.ref D5,.ref D6,.ref p7,.ref p8]):=LN e aP;clear e;have aZ:Paired (λv zs=>∃l,v=.ref l/\H9 l=some (.lst (zs.map V.str))) [V.ref D5,.ref D6,.ref p7,.ref p8] (Q6 d qs) := .cons ⟨D5,U,(ak.trans (ae.trans (R.trans Q))) _ _ h5⟩ (.cons ⟨D6,U,(ae.trans (R.trans Q)) _ _ h6⟩ (.cons ⟨p7,U,(R.trans Q) _ _ h7⟩ (.cons ⟨p8,U,Q _ _ h8⟩ .nil)));have s9:=(s4.trans an).trans (ak.trans (ae.trans (R.trans Q)));clear h5 h6 h7 h8 ak ae R Q ac ai ab ag;have M9:=M.same s9;walk;let Izz:zT:=λi c Ha=>∃(v7 v8 v9:Ϩ V),c=[some (.ref p),some (.ref pc),some (.ref F),some (.int d.cast),some (.str (II d)),some (.str (Q4 qs)),some (.ref p9),v7,v8,v9]/\AA H9 Ha
     refine Nr (lo:=0) (n:=(4:Int).toNat) Izz
      ⟨none,none,none,U,AA.refl _⟩ ?_ ?_
     (.refine λi c Ha hi C=>?_;revert c;refine NY λv7 v8 v9 ap=>?_;have ao:i<4:=hi;obtain⟨x,G⟩:∃x,JN[i]?=some x:=⟨_,A6 (show i<JN.length from ao)⟩;have af:[V.ref D5,.ref D6,.ref p7,.ref p8][i]?=some ([V.ref D5,.ref D6,.ref p7,.ref p8][i]'ao):=A6 ao;obtain⟨zs,am,l,el,hl⟩:=FD aZ af;rw[el]at af;obtain⟨a3,aE⟩:=yU aM aK aL am;walk;intro pb aI;generalize e:upd Ha pb _=Hb;obtain⟨aR,hb⟩:_/\Hb pb=some (.lst (JN.map V.str)):=LN e aI;clear e;have aj:=ap.trans aR;have Mb:=M9.same aj;have Ib:=Mb.ins;walk;refine DH pb _ _ _ U U (AC.of hb) (by rw[Dv];exact FR (by rw[An,G];rfl)) ?_;walk;refine iO Mb (Af G) ok λr us Hc hr aJ hc tc=>?_;obtain rfl:=j8 av tc G am;have aw:=aj.trans aJ;walk;refine DH p9 _ _ _ U U (AC.of (aw _ _ h9)) (by rw[Dv];exact FR af) (Sj hc (aw _ _ hl) aE ⟨_,U,AK ?_⟩);walk;refine⟨.inl ⟨U,_,AC.of hc⟩,?_⟩;walk;refine DZ r _ _ U U hc (KY (by rw[A3];lia)) ?_;have ah:=DF (o:=HO.lst (us.map V.str++[V.str "more"])) aw (aj.free hr);generalize upd Hc r _=Hd at ah⊢;have Md:=M9.same ah;have Id:=Md.ins;walk;refine iO Md (Af G) ok λr2 us2 He a1 aV he aX=>?_;obtain rfl:=j8 av aX G am;have al:=ah.trans aV;exact⟨_,U,_,U,p9,_,_,_,U,U,AC.of (al _ _ h9),by rw[Dv];exact FR af,Sj he (al _ _ hl) aE ⟨_,U,AK ⟨_,_,_,U,al⟩⟩⟩);refine λc Ha C=>?_;revert c;refine NY λv7 v8 v9 ap=>?_;walk;exact q Ha (s9.trans ap)
def yW(a:Ad):Sp:=λo H Q _=>∃(p:Ϡ) (e:Hp) (D:Da) (d:Dk) (j:ώ) (i:ϩ (DS 4)) (v:V),o=[.ref p,.str (AE j),v]/\BR a e H p D d/\MT d.rs j i /\((EC d.rs (FA i).1=none/\v=.non/\∀c,AA H c->Q (.bl true) c) \/∃(F:Ϡ) (k:ϩ V) (rw:ϩ HW),EC d.rs (FA i).1=some rw/\v=.ref F/\e F=some (.lst k)/\k.length=rw.length/\∀r c,BR a e c p r { d with comp:=rw }->Q (.bl true) c)
def yX:T.F 22 79 (yW a):=by refine BX T.ľ.fn gn ?_;k_ne;revert h;refine EK λp Z D d E=>JG λjs v=>FY λs M C X=>?_;subst s;have I:=M.ins;have O:=Cp.Re C.tw;have Y:=C.Ĕ;have e1:(AE E).cps.toList.length=(AE E).length:=Au;have e5:("copy ":ϥ).length=5:=(by lk);refine⟨_,(AH (Ny (dR U (λ_ _=>(BV (AL 3 gn.nd (fV (K:=K) U T.Û.cl T.Å (iC T) hr U Mn (pv 0) (AD (AX IV BN (pv 1)) AI))))) (λ_=>(dW K U U T.È.mg T.È.cls (λ_=>(AF (P6 (Us (pv 2))))) dQ)))) (AF (GY (P6 (QC (pv 2))) (KG (FH (FT K U hr.units) (pv 3) (CO (AD (FQ JZ U T.Ô JS (AD (ln T (pv 2)) AI)) AI)) (BL _)))))),?_⟩;walk;let Izz:zS:=λS H=>∃(F r:Ϡ) (y:Da) (rw:ϩ HW),v=.ref F/\EC d.rs (FA js).1=some rw/\S=[some (.ref p),some (.str (AE E)),some (.ref F),some (.ref r)]/\BR a Z H p y { d with comp:=rw }/\H r=some (.lst [.str (CY (rw.length:Int))]);refine AU Izz ?_ ?_;(.walk;refine⟨DG (by lia),YU M C ?_⟩;rcases X with⟨e,rfl,q⟩|⟨F,ts,rw,e,rfl,Q,R,q⟩;(.refine⟨λ_ k L dx c B=>⟨a.Ç,some a.Í,true,U,T.È.cls,(T.m 1 1),BB ?_⟩,λrw j=>by rw[e]at j;cases j⟩;walk;exact q _ (EY c B));refine⟨λj=>(by rw[e]at j;cases j),λi j r y H' _ M' h'=>?_⟩;walk;exact DH F r y i U j U M' h');refine λS H=>HX λF r y rw=>HP λz J o M2 h2=>?_;subst z;subst o;rcases X with⟨_,e,_⟩|⟨F',ts,i,G,e,Q,R,q⟩;cases e;cases e;obtain rfl:rw=i:=B0 (J.symm.trans G);have aa:=YL C.pc J;have hf:=C.f.1;have ly:∀x∈[CY (rw.length:Int)],PyData.canLay0 (.str x)=true:=λx hx=>(by rw[Ah.mp hx];exact OR _);walk;refine BY F _ U (.inl (AC.of (M2.b.sm _ _ Q))) ?_;rw[R];walk;(try refine⟨by lia,?_⟩);exact OQ (xs:=[CY (rw.length:Int)]) h2 ly λL c=>q y L (M2.same c)
def yY(a:Ad):Sp:=λr H Q _=>∃(p e L:Ϡ) (i:Hp) (D:Da) (d:Dk) (B:Mc.DL) (v:ϓ),r=[.ref p,.ref e,.ref L]/\BR a i H p D d/\MA a d.cf i e B d.m/\Wk d.cf d.m/\i L=some (.lst (v.map V.int))/\L∉B.all /\∀(s:Da) (k:Mc.DL) (j:Ms) (c o:Hp),BR a c o p s { d with m:=j }->MA a d.cf c e k j->Mc.AY e B i k c->Wk d.cf j->Q (.bl true) o
def j9:T.F 23 83 (yY a):=by
 refine BX T.ė.fn U1 ?_;k_ne;revert h;refine EK λp c L H0 D=>GA λd B ns=>MU λaf M N hw hL an q=>?_;subst af;have ax:L≠c:=by refine EX (λdx fs e _=>?_) N.ins;exact HB hL e nofun
 refine⟨_,(AH (GZ B6 U (EV K U (pv 2)) (AQ 3 U1.nd) (AH (AL 4 U1.nd (AX GM (pv 3) (BZ (DE K U) (CO (AD AJ (AD AJ (AD AJ AI)))) (AX GM (AX LV (pv 3) AJ) AJ) (λ_ _=>U)))) (AH (AL 5 U1.nd AJ) (AH (Ny (Pb B6 (PW.pt (P9 (CA NO (pv 5) (pv 4) (BL _)) (P7 (FK (FM (K:=K) U T.Machine.cl T.Ý (VH T) hr Vy (pv 1)))))) (BV (AL 5 U1.nd (AX DT (pv 5) AJ))))) (BV (CC (PW.pt (Ot (CA (GQ K U hr.units) (KI (K:=K) U T.Û.cl T.Å (Ol T) hr Mn (pv 0) (AD (AX IV BN (FQ JZ U T.Ô JS (AZ 4))) AI)) (CO (AD (FQ JZ U T.Ô JS (AZ 5)) AI)) (BL _)) (P8 (KS (FK (BG T.Ď (YW T) hr U (AR 0 (AZ 1)))))))) (AF JI) CJ)))))) (AF JI)),?_⟩
 walk;refine⟨⟨_,AC.of (M.b.sm _ _ hL)⟩,?_⟩;refine Qg (K:=K) (a:=L) (xs:=ns.map V.int) (λi v Z=>∃(v3 v4 v5:Ϩ V) (D1:Da) (J:Mc.DL) (m1:Ms) (o:Hp),v=[some (.ref p),some (.ref c),some (.ref L),v3,v4,v5]/\BR a o Z p D1 { d with m:=m1 }/\MA a d.cf o c J m1/\Mc.AY c B H0 J o/\Wk d.cf m1)
  ⟨none,none,none,D,B,d.m,H0,U,M,N,Mc.AY.of_same (AA.refl _),hw⟩ ?_ ?_ ?_
 refine λi v Z _=>EK λ_ _ _ _ _=>JG λ_ _=>HP λ_ M1 _ st _=>?_;exact AC.of (M1.b.sm _ _ (st.fr _ _ hL (.inl ⟨ax,an⟩)));(.refine λi y v Z hy=>EK λv3 v4 v5 D1 J=>JG λm1 o=>HP λG M1 N1 S C=>?_;subst G;refine AS (λI ai _=>?_) (Ox hy);subst ai;walk;intro pl as;generalize e:upd Z pl _=H2;obtain⟨ab,h2⟩:_/\H2 pl=some (.lst ([(30:Int),400,10000].map V.int)):=LN e as;clear e;obtain⟨y,aj,hy⟩:=Ym (xs:=[30,400,10000]) (z:=I/30%3) (by lia) (by show I/30%3<((3:Nat):Int);lia);have am:30<=y/\y<=10000:=(by simp only[Al,Bl,Dd]at hy;rcases hy with rfl|rfl|rfl<;>lia);have ey:∀_:Unit,DP ([(30:Int),400,10000].map V.int) (I/30%3)=some (.int y):=λ_=>aj;clear aj;walk;refine DH pl _ _ _ U U (AC.of h2) (ey ()) ?_;refine CM _ _ U U (by show 0<y;lia) ?_;dsimp only;have ac:=Eb I (show y≠0 by lia);have aw:=E7 I (show 0<y by lia);obtain⟨n,hn⟩:=Bx ac;rw[hn];have av:n<10000:=(by lia);clear hn ac aw ey hy am h2;have M2:=M1.same ab;have N2:=(N1.same M1.b.sm).same ab;have O2:Mc.Ok d.cf m1:=M1.b.ok;walk;refine AU (λv X=>∃(k:Nat) (s:Mc.DL),v=[some (.ref p),some (.ref c),some (.ref L),some (.int I),some (.int (n:Int)),some (.int (k:Int))]/\MA a d.cf X c s (CZ d.cf n m1)/\Mc.AY c J H2 s X/\(CZ d.cf n m1).done-m1.done=(k:Int)) ?_ ?_;(.refine AU (λj v X=>∃(s:Mc.DL) (m3:Ms) (k:Nat),v=[some (.ref p),some (.ref c),some (.ref L),some (.int I),some (.int (n:Int)),some (.int (k:Nat))]/\MA a d.cf X c s m3/\Mc.Ok d.cf m3/\Mc.AY c J H2 s X/\CZ d.cf (n-k) m3=CZ d.cf n m1/\m3.done=m1.done+(k:Int)/\k<=n/\j=n-k) ⟨_,J,m1,0,U,N2,O2,Mc.AY.of_same (AA.refl _),U,(Int.add_zero _).symm,B8 _,U⟩ ?_;refine λj v X au=>?_;revert v;refine Sm λs m3 k N3 O3 E Q hd ay R=>?_;subst R;walk;by_cases aq:k<n;(.rw[Ab (by lia)];refine BB ⟨_,U,_,_,U,N3.ins,c,s,d.cf,m3,U,N3,O3,λhs H4 ag=>?_,λhs A4 H4 N4 al=>?_⟩;refine AU _ U (AK ?_);rw[PN hs]at Q;rw[<-Q];exact CM k s U (N3.same ag) (E.trans (Mc.AY.of_same ag)) (by lia);refine AU _ U (BB ?_);refine AU (λak H'=>ak=[some (.ref p),some (.ref c),some (.ref L),some (.int I),some (.int (n:Int)),some (.int ((k+1:Nat):Int))]/\H'=H4) ?_ ?_;rintro ak H' ⟨rfl,rfl⟩;exact⟨n-(k+1),by lia,A4,Mc.tick d.cf m3,k+1,U,N4,O3.tick,E.trans al,by rw[<-Q,show n-k=(n-(k+1))+1 by lia,R9 hs],by rw[XD,hd];lia,aq,U⟩;walk;exact U);rw[Aj (show ¬(k:Int)<(n:Int) by lia)];refine AK ?_;refine AK ?_;have e:n-k=0:=(by lia);rw[e]at Q;have Q:m3=CZ d.cf n m1:=Q;rw[<-Q];exact CM k s U N3 E (by lia));refine λv X au=>?_;revert v;refine HY λk s N3 E hk=>?_;refine DN (λO M3 Y ae=>?_) (M2.tick N1 E N3);refine ED (λO3 H _=>?_) (C.run n O2);have ap:(k:Int).natAbs<100000:=(by unfold Wk at H C;lia);have I3:=M3.ins;have aA:=Uc (i:=(n:Int)) (by lia);walk;refine⟨DG (by rw[show("tick ":ϥ).length=5 by lk];lia),yo M3 av C λr D4 H4 az aa ah=>?_⟩;have M4:BR a O H4 p D4 { d with m:=CZ d.cf n m1 }:=aa;have h4:=ah;clear aa ah;rw[hk]at h4;generalize CZ d.cf n m1=m2 at M4 Y H;walk;(try refine⟨ap,?_⟩);have ly:∀x∈[CY (k:Int)],PyData.canLay0 (.str x)=true:=λx hx=>(by rw[Ah.mp hx];exact OR _);refine OQ (xs:=[CY (k:Int)]) h4 ly λH5 ar=>⟨_,U,AK ?_⟩;have M5:=M4.same ar;walk;exact OX p c O D4 ({ d with m:=m2 }) s U M5 (Y.same M5.b.sm) H (λH6 ao=>⟨_,U,AK ⟨_,_,_,D4,s,m2,O,U,M5.same ao,Y,S.trans ae,H⟩⟩));refine λv Z=>EK λv3 v4 v5 D1 J=>JG λm1 o=>HP λG M1 N1 S C=>?_;subst G;walk;exact q D1 J m1 o Z M1 N1 S C
def VQ{rs c:ϩ BS}(v:(c.map λr=>r.s)=rs.map λr=>r.s)(p:(c.map λr=>r.t)=rs.map λr=>r.t){j:Nat}{d:BS}(h:c[j]?=some d):∃r,rs[j]?=some r/\d.s=r.s/\d.t=r.t:=by have i:=Bt (λl=>l[j]?) v;have e:=Bt (λl=>l[j]?) p;simp only[An,h,Gn]at i e;refine AS (λr k o=>?_) (Az.mp i.symm);rw[k]at e;exact HA r k o.symm (B0 e)
structure Qz(rs':ϩ BS)(x:ϥ)(z:Int):Prop where
 oc:OE ⟨rs',x,z⟩
 ok:Mc.Ok ⟨rs',x,z⟩ (Mc.start rs')
 rt:Mc.Rt ⟨rs',x,z⟩
 gd:Mc.Gd ⟨rs',x,z⟩ (Mc.start rs')
 go:GS rs' false x.cps.toList=true
 mn:∀r∈rs',0<=r.n/\r.n<=1000
def yZ(R:EW most rs)(hm:most<=40)(y:∀l∈ls,l≠[]/\∀x∈l,Lns.Ob rs x)(aa:(BW ls).length<=1000)(I:(i.map λr=>r.s)=rs.map λr=>r.s)(O:(i.map λr=>r.t)=rs.map λr=>r.t)(hn:∀r∈i,0<=r.n/\r.n<=1000)(L:((JX i).map List.length).sum<=2000)(hz:1<=z):Qz i (BW ls) z:=by have R0:Mc.Rows rs:=⟨R.l2,R.sg,R.th,λr o=>⟨(R.mn r o).1,by have:=(R.mn r o).2;lia⟩⟩;have p:OE ⟨rs,BW ls,z⟩:=R0.okC (by lia) y hz;have G:i.length=rs.length:=(by have:=Bt List.length I;rwa [A3,A3]at this);have H:∀x,CV i x=CV rs x:=λx=>(by rw[eZ,eZ,I]);have E:∀l∈ls,l≠[]/\∀x∈l,Lns.Ob i x:=λl hl=>(by obtain⟨v,B⟩:=y l hl;refine⟨v,λx hx=>?_⟩;obtain⟨X,h4⟩:=B x hx;exact⟨X,λc hc=>⟨(h4 c hc).1,by rw[H];exact(h4 c hc).2⟩⟩);have Y:GS i false (BW ls).cps.toList=true:=V6 E;have Q:∀r∈i,∃c∈BQ,r.s=sg c:=λr o=>(by obtain⟨j,hj⟩:=Dl.mp o;obtain⟨r0,v,B,_⟩:=VQ I O hj;rw[B];exact R.sg r0 (Af v));have S:∀r∈i,0<=r.t/\r.t<128:=λr o=>(by obtain⟨j,hj⟩:=Dl.mp o;obtain⟨r0,v,_,X⟩:=VQ I O hj;rw[X];exact R.th r0 (Af v));generalize BW ls=keys at *;have OC:OE ⟨i,keys,z⟩:=(by refine⟨by show i.length<=30;rw[G];exact R.l2,p.short,λk hk=>?_,p.ends,?_,hz,S,p.lay⟩;show _\/_\/((CV i (sg k)).isSome=true/\_);rw[H];exact p.known k hk;show CV i _=none/\CV i _=none/\CV i _=none;rw[H,H,H];exact p.zJ);refine⟨OC,Mc.rS OC (λr o=>?_) L,⟨λj Z C=>?_,λj Z C=>?_,Q,Y⟩,Mc.Gd.start (c:=⟨i,keys,z⟩) λr o=>(hn r o).1,Y,hn⟩;obtain⟨d,hd,e⟩:=Q r o;obtain⟨v,B⟩:=S r o;obtain⟨k,hk,J⟩:=Mc.eV (cs:=i.map λr=>r.t) (t:=r.t) (Gy o);refine⟨?_,?_,v,B,k,hk,by rw[A3]at J;exact J⟩;show PyData.canLay0 (.str r.s)=true;rw[e];exact Cs.cJ d hd;show r.s.length<=1;rw[e];exact A9 _;obtain⟨r,v,_,X⟩:=VQ I O C;show LJ (i.map λr=>r.t) Z.t=some j;rw[O,X];exact R.fl j r v;obtain⟨r,v,B,_⟩:=VQ I O C;show CV i Z.s=some j;rw[H,B];exact R.pl j r v
def z6(rs:ϩ BS)(x:ϥ):((CD rs x).map λr=>r.s)=(rs.map λr=>r.s)/\((CD rs x).map λr=>r.t)=rs.map λr=>r.t:=by unfold CD;rw[D7,D7];exact⟨U,U⟩
def z7(rs:ϩ BS)(x:ϥ):∀r∈CD rs x,r.n=(JY x r.s:Int)/\∃c∈rs,r.s=c.s:=λr d=>by
 unfold CD at d;obtain⟨c,e,rfl⟩:=Bq.mp d;exact⟨U,c,e,U⟩
def z8(R:EW most rs)(i:most<=40)(d:∀l∈ls,l≠[]/\∀x∈l,Lns.Ob rs x)(c:(BW ls).length<=1000)(hz:1<=z):Qz (CD rs (BW ls)) (BW ls) z:=by obtain⟨o,k⟩:=z6 rs (BW ls);have e:=Mc.rR R.sg R.pl (BW ls);refine yZ R i d c o k (λr j=>?_) (by lia) hz;rw[(z7 rs (BW ls) r j).1];have:JY (BW ls) r.s<=(BW ls).length:=Aw List.count_le_length (El Au);lia
theorem ja{d c:Type}{F:d->c->Prop}:∀{xs:ϩ d}{ys:ϩ c},Paired F xs ys->Paired F xs.reverse ys.reverse|_,_,.nil=>.nil|_,_,.cons r t=>by rw[G3,G3];exact Bz (ja t) r
def jc{o p:Type}{f:o->p}{xs:ϩ o}(h:(xs.map f).Nodup){i j:Nat}{x y:o}(s:xs[i]?=some x)(r:xs[j]?=some y)(k:i<j):f x≠f y:=λe=>by
 obtain⟨d,rfl⟩:=Ap.mp s;obtain⟨c,rfl⟩:=Ap.mp r;exact Fl.mp h i j (by rw[A3];exact d) (by rw[A3];exact c) k (by rw[Ei,Ei];exact e)
structure Un(rs:ϩ BS):Prop where
 l1:1<=rs.length
 l2:rs.length<=30
 sg:∀r∈rs,∃c∈BQ,r.s=L2.sg c
 wd:∀r∈rs,2<=r.w/\r.w<=10
 th:∀r∈rs,0<=r.t/\r.t<128
 mn:∀r∈rs,0<=r.n/\r.n<=40
 ns:(rs.map λr=>r.s).Nodup
 nt:(rs.map λr=>r.t).Nodup
def EW.un(R:EW most rs)(v:most<=40):Un rs :=
 ⟨R.l1,R.l2,R.sg,R.wd,R.th,λr d=>⟨(R.mn r d).1,by have:=(R.mn r d).2;lia⟩,Fl.mpr λi j o c s e=>by
   rw[A3]at o c
   have k:=R.pl i rs[i] (A6 o);have p:=R.pl j rs[j] (A6 c);rw[Ei,Ei]at e
   rw[e,p]at k
   have:=B0 k
   lia,R.nd⟩
def Un.rev(c:Un rs):Un rs.reverse :=⟨by rw[Gw];exact c.l1,by rw[Gw];exact c.l2,λr h=>c.sg r (Ge.mp h),λr h=>c.wd r (Ge.mp h),λr h=>c.th r (Ge.mp h),λr h=>c.mn r (Ge.mp h),by rw[List.map_reverse];exact Kc.mpr (c.ns.imp λh e=>h e.symm),by rw[List.map_reverse];exact Kc.mpr (c.nt.imp λh e=>h e.symm)⟩
def Un.rows(c:Un rs):Mc.Rows rs:=⟨c.l2,c.sg,c.th,c.mn⟩
def Un.g(c:Un rs):∀r∈rs,IH r:=λr h=>by
 have:=c.wd r h;have:=c.th r h;have:=c.mn r h;exact⟨c.sg r h,by lia,by lia,by lia,by lia,by lia,by lia⟩
def Un.ne(c:Un rs):rs≠[]:=λe=>by
 have:=c.l1;rw[e]at this
 exact absurd this (by lk)
def Un.cg(d:Un rs):YB rs:=⟨d.ne,(by have:=d.l2;lia),d.g,λi r S p=>by
 obtain⟨⟨c,Q,e⟩,H,B,R,G,I,y⟩:=d.g r (Af p);have o:∀{j:Nat}{k:BS},(rs.take i)[j]?=some k->rs[j]?=some k/\j<i:=λ{j k} h=>by
  have O:=(Ap.mp h).1;rw[Ao]at O
  rw[List.getElem?_take,B1 (by lia)]at h
  exact⟨h,by lia⟩
 have J:OB r.s=true:=by
  rw[e];exact Ab Q
 have E:CV (rs.take i) r.s=none:=X3 λj k _ h=>jc d.ns (o h).1 p (o h).2
 have L:r.t∉(rs.take i).map λx=>x.t:=λh=>by
  obtain⟨k,C,z⟩:=Bq.mp h;obtain⟨j,v⟩:=Dl.mp C;exact jc d.nt (o v).1 p (o v).2 z
 unfold Vc RX;rw[J,E,Ab ⟨H,B⟩,Ab ⟨R,G⟩,Ab ⟨I,y⟩,Aj L];rfl⟩
def Un.start(d:Un rs)(c:∀l∈ls,l≠[]/\∀x∈l,Lns.Ob rs x)(i:(BW ls).length<=1000)(hz:1<=z):OE ⟨rs,BW ls,z⟩/\Mc.Ok ⟨rs,BW ls,z⟩ (Mc.start rs)/\GS rs false (BW ls).cps.toList=true/\∀r∈rs,0<=r.n/\r.n<=1000:=by have O:=d.rows.okC (by lia) c hz;exact GC O (d.rows.ok U O) (V6 c) (λr e=>⟨(d.mn r e).1,by have:=(d.mn r e).2;lia⟩)
def jd{a:Ad}(o:Un rs)(i:1<=z)(r:z<=20)(j:H p=none)(e:H c=none)(d:c≠p)(q:∀D k,BR a H k p D ⟨rs,z,[],"",Mc.start rs⟩->Q .non k):iD a [.ref p,.str (Q2 rs),.int z] (upd (upd H c (.own p)) p (.ins a.Ć c [])) Q E:=by obtain⟨_,O,_,n⟩:=o.start (ls:=[]) (z:=z) (λl h=>(nomatch h)) (B8 _) i;exact DC p c rs z H (DY U AM o.cg ⟨i,r⟩ j (EY (BM e _) (by rw[BJ d.symm];exact j)) (IQ O n q))
theorem je:∀{ls:ϩ ώ},(∀l∈ls,l≠[])->ls.length<=(ls.map List.length).sum/\∀l∈ls,l.length<=(ls.map List.length).sum|[],_=>⟨A9 0,λl h=>(nomatch h)⟩|x::ls,h=>by obtain⟨e,d⟩:=je (ls:=ls) λl c=>h l (Ac _ c);have i:=Cw.mpr (h x Aa);rw[Bp,Du,Bb];refine⟨by lia,λl c=>?_⟩;rcases Al.mp c with rfl|c;lia;have:=d l c;lia
def Cm.fit(C:Cm d.rs 42 d.comp):(∀l∈Mp d,l≠[]/\∀x∈l,Mc.Wd d.rs 5 x)/\Lns.NC (Mp d)/\(BW (Mp d)).length<=1000:=by have e:∀l∈Mp d,l≠[]/\∀x∈l,Mc.Wd d.rs 5 x:=λl c=>(by obtain⟨x,i,rfl⟩:=Bq.mp c;exact C.ln x i);have p:((Mp d).map List.length).sum<=42:=C.sz;obtain⟨k,j⟩:=je λl c=>(e l c).1;have o:=Mc.fE e;exact⟨e,⟨by lia,λl c=>⟨by have:=j l c;lia,λx i=>by have:=((e l c).2 x i).2.1;lia⟩⟩,by lia⟩
def Cm.start(i:Un d.rs)(C:Cm d.rs 42 d.comp)(hz:1<=d.cast):LF d:=by refine ED (λe j o=>?_) C.fit;refine FY (λ_ O k n=>?_) (i.start (λl c=>⟨(e l c).1,λx p=>((e l c).2 x p).zq⟩) o hz);exact⟨j,O,k,n⟩
def Cm.tell(R:EW most d.rs)(i:most<=40)(C:Cm d.rs 42 d.comp)(hz:1<=d.cast):JF d/\(∀x∈d.comp,PyData.canLay0 (.str (AE x.1))=true)/\PyData.canLay0 (.str (II d))=true:=by refine ED (λk r o=>?_) C.fit;have p:∀l∈Mp d,l≠[]/\∀x∈l,Lns.Ob d.rs x:=λl j=>⟨(k l j).1,λx c=>((k l j).2 x c).zq⟩;have e:=z8 R i p o hz;exact⟨⟨r,λx c=>⟨Aw (Fd (C.gp x c).1) (by lk),Aw (Fd (C.gp x c).2) (by lk)⟩,R.l2,R.sg,e.ok,e.go,e.mn⟩,λx c=>YS _ λy s=>((C.ln x c).2 y s).lay,((R.un i).start p o hz).1.lay⟩
def z9(o:0<=x)(k:0<=y)(r:x+y<=1000):Br.JJ ⟨[x,y],2000,2,4,8⟩ (λ_=>some 0) 0/\Br.DO ⟨[x,y],2000,2,4,8⟩ (λ_=>some 0) 0 [2]:=by have c:lc ⟨[x,y],2000,2,4,8⟩ 0 2=some 0:=X9 U (by show 0<=(2000-(x+(y+0)))-((2:Int)-1)*4;lia);have e:lc ⟨[x,y],2000,2,4,8⟩ 1 2=some 0:=X9 U (by show 0<=(2000-(y+0))-((1:Int)-1)*4;lia);have j:lc ⟨[x,y],2000,2,4,8⟩ 0 1=none:=(by show FV (2000-(x+0)) ((1:Int)-1) 2 4 8 false=none;unfold FV Ln.misfit;rw[Av (λz=>by cases z.1),B1 (show((1:Int)-1)*8<2000-(x+0) by lia),Av (by lia)]);refine⟨⟨U,λi _ d=>?_⟩,.step (show 0<2 by lk) ⟨⟨by lk,A9 2,0,0,c,U,U⟩,λp h=>h.2.1⟩ .done⟩;have d:i<2:=d;show _=PB (Br.PD _ _ i (2-i));have:i=0\/i=1:=(by lia);rcases this with rfl|rfl;rw[Tc,Tc];show _=PB (([]++(IZ (lc _ 0 1) (some 0)).toList)++(IZ (lc _ 0 2) (some 0)).toList);rw[j,c];rfl;rw[Tc];show _=PB ([]++(IZ (lc _ 1 2) (some 0)).toList);rw[e];rfl
noncomputable def VR (W:ϥ):ώ:=["measure","2000","set",W,W,"end"]
noncomputable def VS (W:ϥ):ϩ (DS 4):=[.inl (.ms 2000),.inl (.st [W,W])]
def za(W:ϥ):("copy measure 2000 set ":ϥ)++W++" "++W++" end"="copy "++AE (VR W):=by
 have d:("copy measure 2000 set ":ϥ)=("copy ":ϥ)++(("measure":ϥ)++((" ":ϥ)++(("2000":ϥ)++((" ":ϥ)++(("set":ϥ)++(" ":ϥ)))))):=by room
 have c:(" end":ϥ)=(" ":ϥ)++("end":ϥ):=by room
 unfold VR;rw[LB _ (Bo _ _),LB _ (Bo _ _),LB _ (Bo _ _),LB _ (Bo _ _),LB _ (Bo _ _),NU,d,c];simp only[XW]
def zb(W:ϥ):W++(" ":ϥ)++W++"/"=BW [[W,W]]:=by show _=AE [W,W]++"/"++"";rw[Lns.Te,LB _ (Bo _ _),NU]
def zc(B:∀r∈rs,2<=r.w/\r.w<=10)(h:Mc.Wd rs 5 W)(he:W≠"end"):MT rs (VR W) (VS W)/\EC rs (FA (VS W)).1=some [([W,W],LC rs 2000 4 [W,W])]:=by have e:W.cps.toList.length=W.length:=Au;have E:JB W:=⟨by rw[e];exact h.1,by have:=h.2.1;lia,λc I=>(h.2.2 c I).1,he⟩;have i:∀j∈VS W,LM 4 j:=λj k=>(by rcases Al.mp k with rfl|k;exact⟨by lk,by lk⟩;rw[Ah.mp k];refine⟨by show 1<=2;decide,by show 2<=200;decide,λx d=>?_⟩;simp only[Al,Bl,Dd,Ls]at d;rw[d];exact E);have s:EJ 4 (VS W)=VR W:=(by show [("measure":ϥ),Cp.AO 2000]++((("set":ϥ)::[W,W]++[("end":ϥ)])++[])=_;rw[show Cp.AO 2000=("2000":ϥ) by room];rfl);have z:=Yp B h.2.1;have o:∀{l:ώ}{P:ϥ->Prop},P W->l=[W,W]->∀x∈l,P x:=λ{l P} p q x d=>(by rw[q]at d;simp only[Al,Bl,Dd,Ls]at d;rwa [d]);refine⟨⟨Bo _ _,by show 6<=60;decide,by rw[<-s];exact Vj i,by rw[<-s];exact XU i,i,by show 2<=1000;decide,⟨by show 1<=60;decide,by show 2+0<=400;decide⟩,λp G=>?_,B⟩,?_⟩;rw[Ah.mp (show p∈[((2000,[2,4,8],[W,W]):BF)]from G)];exact⟨⟨2,4,8,U,by lk,by lk,by lk,by lk,by show(0:Int)<=2000;decide,by show(2000:Int)<=100000;decide⟩,by show 1<=2/\2<=7;decide,o h U⟩;obtain⟨H,C⟩:=z9 (x:=KH rs W) (y:=KH rs W) z.1 z.1 (by lia);exact VB (ps:=[]) (v:=[]) (Yr (rs:=rs) (p:=(2000,[2,4,8],[W,W])) H C) U
def zd(e:∀r∈rs,2<=r.w/\r.w<=10)(h:Mc.Wd rs 5 W):Cm rs 42 [([W,W],LC rs 2000 4 [W,W])]:=by have j:=gR (ws:=[W,W]) e (λx c=>by simp only[Al,Bl,Dd,Ls]at c;rw[c];exact h.2.1) (by show 2<=14;decide);refine⟨λx c=>?_,by show 2+0<=42;decide,λx c=>?_⟩;rw[Ah.mp c];refine⟨Bo _ _,λy d=>?_⟩;have d:=d;simp only[Al,Bl,Dd,Ls]at d;rw[d];exact h;rw[Ah.mp c];have i:Qt 2000 4 rs [W,W]:=(by unfold Qt;show _<=_;simp only[Bb,List.length_nil];lia);unfold LC;rw[B1 i];exact⟨by show(4:Int).natAbs<100000;decide,by show(1:Int).natAbs<100000;decide⟩
def ze(a:Ad):Sp:=λj H Q _=>∃(i:Ϡ) (z:Int) (d:ϩ V) (c:ϩ BS),j=[.ref i,.int z]/\H i=some (.lst d)/\Paired (Cs.FL H) d c/\Un c/\1<=z/\z<=12/\∀e,AA H e->Q (.bl true) e
def zf:T.F 22 84 (ze a):=by have i:=Ol T;refine BX T.Ł.fn U2 ?_;k_ne;revert vs;refine So λpc z xs rs bq bn J a9 bp q=>?_;refine⟨_,(AH (AL 2 U2.nd (mL K U (pv 0) (Nt Nv AJ))) (AH (AL 3 U2.nd (AX IV (BZ (JU K U) (BZ (DE K U) (pv 2) AJ (λ_ _=>U)) AJ (λ_ _=>U)) (BZ (JU K U) (BZ (DE K U) (pv 2) (Nt Nv AJ) (λ_ _=>U)) AJ (λ_ _=>U)))) (AH (AL 4 U2.nd (fU T.Û (iE T) hr U (AD (BG T.Ė (iQ T) hr U (AZ 2)) (AZ 1)))) (AH (CC (PW.pt (Ot (CA (GQ K U hr.units) (KI (K:=K) U T.Û.cl T.Å i hr Mn (pv 4) (AD (AX IV (AX IV (AX IV (AX IV BN (pv 3)) BN) (pv 3)) BN) AI)) (CO (AD BN AI)) (BL _)) (P8 (CA (GQ K U hr.units) (KI (K:=K) U T.Û.cl T.Å i hr Mn (pv 4) (AD BN AI)) (CO AI) (BL _))))) (AF JI) CJ) (AH (AL 5 U2.nd (R5 T.Machine (Rr T) hr U (AR 2 (AD (AX IV (AX IV (AX IV (pv 3) BN) (pv 3)) BN) (AZ 1))))) (AH (CC (PW.pt (Ot (CA (GQ K U hr.units) (KI (K:=K) U T.Û.cl T.Å i hr Mn (pv 4) (AD BN AI)) (CO (AD (FQ JZ U T.Ô JS (AD (FM (K:=K) U T.Machine.cl T.ð (YG T) hr Yj (pv 5)) AI)) AI)) (BL _)) (P8 (CA (GQ K U hr.units) (KI (K:=K) U T.Û.cl T.Å i hr Mn (pv 4) (AD BN AI)) (CO (AD (FQ JZ U T.Ô JS (AD (FM (K:=K) U T.Machine.cl T.Þ (YH T) hr Yk (pv 5)) AI)) AI)) (BL _))))) (AF JI) CJ) (AF (GY (FH (FT K U hr.units) (KI (K:=K) U T.Û.cl T.Å i hr Mn (pv 4) (AD BN AI)) (FM (K:=K) U T.Machine.cl T.Ò (VI T) hr Vz (pv 5)) (BL _)) (KG (FH (FT K U hr.units) (KI (K:=K) U T.Û.cl T.Å i hr Mn (pv 4) (AD BN AI)) (CO (AD (BG T.ĭ (j7 T) hr U (AZ 5)) AI)) (BL _))))))))))),?_⟩;walk;refine CM pc xs U U (AC.of bq) (λpt bm=>?_);generalize e:upd H pt _=H1;obtain⟨a1,h1⟩:_/\H1 pt=some (.lst xs.reverse):=LN e bm;clear e;have v:=ja (EO bn a1);have J:=J.rev;generalize xs.reverse=ys at h1 v;generalize rs.reverse=k at v J;obtain⟨ti,L,au⟩:∃ti L,k=ti++[L]:=(by rcases List.eq_nil_or_concat k with e|⟨ti,L,e⟩;exact absurd e J.ne;exact Nm ti L (by rw[e,List.concat_eq_append]));obtain⟨yi,yl,aT,_,tl,a',ai⟩:=VJ (au ▸ v);have al:DP ys (-1)=some (.ref tl):=(by rw[aT,<-a'];exact Tg yi yl);have ax:0<ys.length:=(by rw[MH v];exact J.l1);obtain⟨r0,a2,t0,a5,ah⟩:=FD v (A6 ax);have a0:DP ys 0=some (.ref t0):=(by rw[<-a5];exact FR (j:=0) (A6 ax));have ah:=ah;have ai:=ai;have az:=Af a2;have aB:L∈k:=(by rw[au];exact Bm _ Aa);obtain⟨hW,he⟩:Mc.Wd k 5 (r0.s++L.s)/\r0.s++L.s≠"end":=(by refine AS (λc hc ec=>?_) (J.sg r0 az);refine AS (λd hd ed=>?_) (J.sg L aB);have hl:(r0.s++L.s).length=2:=(by rw[Ba,ec,ed];rfl);have hp:∀r∈k,(CV k r.s).isSome=true:=λr hr=>(by unfold CV;rw[Ki];exact Fh.mpr ⟨r,hr,Ab U⟩);refine⟨⟨by lia,by lia,λx B=>?_⟩,λe=>by rw[e]at hl;exact absurd hl (by lk)⟩;rw[IC,ec,ed]at B;have B:=B;rcases Be.mp B with B|B;rw[Ah.mp B];exact⟨hc,by rw[<-ec];exact hp r0 az⟩;rw[Ah.mp B];exact⟨hd,by rw[<-ed];exact hp L aB⟩);have bd:r0.s.length+L.s.length<=10:=(by have:=hW.2.1;rw[Ba]at this;lia);generalize aK:r0.s++L.s=W at hW he;clear au aT a' a5 az aB a2 ax;walk;refine DH t0 _ _ _ U U (BP.of ah) U ?_;walk;refine DH tl _ _ _ U U (BP.of ai) U ?_;refine CM _ _ U U (DG (by lia)) ?_;dsimp only;rw[aK];clear aK bd ah ai a0 al;walk;refine JH pt ys k (IR U (AC.of h1) v (by have:=J.l2;lia) J.g (λH2 av=>?_));walk;refine λp dx hp bo bb=>?_;refine jd J a9 (by lia) hp bo bb λD H3 M3=>⟨U,?_⟩;have h2:=av _ _ h1;have an:=EO v av;have R:=a1.trans av;clear v h1;have bQ:W.length<=5:=hW.2.1;have I3:=M3.ins;have b1:("copy measure 2000 set ":ϥ).length=22:=(by lk);have b2:(" ":ϥ).length=1:=(by lk);have b3:(" end":ϥ).length=4:=(by lk);have b4:("/":ϥ).length=1:=(by lk);walk;refine⟨DG (by lia),?_⟩;walk;refine⟨DG (by rw[Ba];lia),?_⟩;walk;refine⟨DG (by rw[Ba,Ba];lia),?_⟩;walk;refine⟨DG (by rw[Ba,Ba,Ba];lia),?_⟩;rw[za];obtain⟨aM,aI⟩:=zc J.wd hW he;refine YU M3 aM ⟨λe=>(by rw[aI]at e;cases e),λrw e r4 D4 H4 bN M4 h4=>?_⟩;obtain rfl:=B0 (aI.symm.trans e);clear aM aI e;have M4:BR a H2 H4 p D4 ⟨k,z,[([W,W],LC k 2000 4 [W,W])],"",Mc.start k⟩:=M4;have h4:H4 r4=some (.lst [.str (CY ((1:Nat):Int))]):=h4;rw[show CY ((1:Nat):Int)="1" by room]at h4;have bj:∀x∈[("1":ϥ)],PyData.canLay0 (.str x)=true:=(by room);walk;refine OQ (xs:=["1"]) h4 bj λH5 bh=>?_;refine AU _ U ?_;refine AK ?_;have M5:=M4.same bh;have I5:=M5.ins;have C:=zd J.wd hW;have SO:LF ⟨k,z,[([W,W],LC k 2000 4 [W,W])],"",Mc.start k⟩:=C.start J a9;obtain⟨_,_,aH⟩:=Cm.fit (d:=⟨k,z,[([W,W],LC k 2000 4 [W,W])],"",Mc.start k⟩) C;walk;refine OT (x:="start") M5 (by lk) (.start U SO λr6 D6 H6 bE M6 h6=>?_);have M6:BR a H2 H6 p D6 ⟨k,z,[([W,W],LC k 2000 4 [W,W])],BW [[W,W]],Mc.start k⟩:=M6;have OS:Mc.Ok ⟨k,BW [[W,W]],z⟩ (Mc.start k):=SO.ok;have OK:GS k false (BW [[W,W]]).cps.toList=true:=SO.kf;have RN:=SO.rn;have RN:∀r∈k,0<=r.n/\r.n<=1000:=RN;have aH:(BW [[W,W]]).length<=1000:=aH;have W0:Wk ⟨k,BW [[W,W]],z⟩ (Mc.start k):=Wk.start aH bp;walk;intro p7 bl;generalize e:upd H6 p7 _=H7;obtain⟨a3,h7⟩:_/\H7 p7=some (.lst []):=LN e bl;clear e;refine CM _ _ (MN (a3 _ _ h6)) (MN h7) (Of _) ?_;rw[XC (MN (K:=K) h7)];refine AU _ U ?_;refine AK ?_;have M7:=M6.same a3;have ae:=M7.b.sm _ _ h2;have ak:=EO an M7.b.sm;clear C SO h4 h6 h7 M3 M4 M5 M6 an h2;walk;refine⟨DG (by lia),?_⟩;walk;refine⟨DG (by rw[Ba];lia),?_⟩;walk;refine⟨DG (by rw[Ba,Ba];lia),?_⟩;rw[zb];generalize hK:BW [[W,W]]=keys at *;walk;refine λp0 br E y aS=>?_;refine DC p0 pt br ⟨k,keys,z⟩ ys (DY U AM ?_ ?_ OS.cf OK (LG RN (λA0 H8 N8 am a6=>⟨U,?_⟩)));rw[BJ (DR ae E),BJ (DR ae y)];exact ae;exact EO ak λb u Z=>(by rw[BJ (DR Z E),BJ (DR Z y)];exact Z);have aP:=Rf E y am;refine DN (λba M8 g1 g2=>?_) (M7.grow aP);have O:∀b∈A0.all,H7 b=none:=λb Z=>RZ E y (a6 b Z);have N8:=YQ (S:=λb=>H7 b=none) N8 g2 E O;have aN:AA H ba:=R.trans g1;have aW:H p0=none:=(R.trans M7.b.sm).free E;have a7:∀b∈A0.all,H b=none:=λb Z=>(R.trans M7.b.sm).free (O b Z);clear g1 g2 a6 O am aP E y aS ae ak M7;have I8:=M8.ins;walk;refine iP M8 W0 λr9 D9 H9 Y M9 h9=>?_;have M9:BR a ba H9 p D9 ⟨k,z,[([W,W],LC k 2000 4 [W,W])],keys,Mc.fin ⟨k,keys,z⟩ (Mc.start k)⟩:=M9;have N9:=N8.same M9.b.sm;have J9:=N9.ins;have Z:=W0.run (CT ⟨k,keys,z⟩ (Mc.start k)) OS;walk;refine EM p0 A0 _ _ U N9 OS (λA1 bK a8 X=>?_);refine DN (λbe aG G ap=>?_) (M9.tick N8 X a8);have ar:r9≠p0/\r9∉A0.all:=(by refine EX (λdx fs e _=>?_) N8.ins;refine⟨λz=>?_,λz=>?_⟩;rw[z,M8.b.sm _ _ e]at Y;cases Y;obtain⟨xs,B⟩:=N8.li.is _ z;rw[M8.b.sm _ _ B]at Y;cases Y);have I:=X.fr _ _ h9 (.inl ar);have bc:AA H be:=λb o h=>ap.fr b o (aN b o h) (.inl ⟨(λz=>by rw[z,aW]at h;cases h),λz=>by rw[a7 b z]at h;cases h⟩);revert Z;refine ED λOF WF aC=>?_;have OF:Mc.Ok ⟨k,keys,z⟩ (Mc.fin ⟨k,keys,z⟩ (Mc.start k)):=OF;have WF:Wk ⟨k,keys,z⟩ (Mc.fin ⟨k,keys,z⟩ (Mc.start k)):=WF;have ay:((Mc.fin ⟨k,keys,z⟩ (Mc.start k)).done-(Mc.start k).done).natAbs<100000:=(by have aC:(Mc.start k).done<=(Mc.fin ⟨k,keys,z⟩ (Mc.start k)).done:=aC;unfold Wk at WF W0;lia);have I:=I;clear aC h9 M9 N9 J9 a8 X ar M8 N8 I8 ap aN aW a7 W0 OS OK RN Y;generalize Mc.fin ⟨k,keys,z⟩ (Mc.start k)=mf at OF WF ay I aG G⊢;generalize mf.done-(Mc.start k).done=df at ay I⊢;have ly:∀x∈[CY df],PyData.canLay0 (.str x)=true:=λx B=>(by rw[Ah.mp B];exact OR _);have ac:mf.Ä.natAbs<100000:=(by unfold Wk at WF;lia);walk;(try refine⟨ay,?_⟩);refine OQ (xs:=[CY df]) I ly λbx aZ=>⟨_,U,AK ?_⟩;have af:=aG.same aZ;have bO:=af.ins;clear ly I aG;walk;refine OT (x:="waited") af (by lk) (.tell (.inr (.inr U)) ac λbR xs bF bu a4 ag tl=>?_);have ag:=ag;have Q:=tl.2.2 U;subst Q;have aw:=af.same a4;have aE:=G.same aw.b.sm;have bf:=aE.ins;have ly:∀x∈[CY mf.Ä],PyData.canLay0 (.str x)=true:=λx B=>(by rw[Ah.mp B];exact OR _);walk;refine EM p0 A1 _ mf U aE OF (λbS aq=>?_);walk;(try refine⟨ac,?_⟩);refine OQ (aq _ _ ag) ly λbD aO=>⟨_,U,AK ?_⟩;have aj:=(aw.same aq).same aO;have bP:=aj.ins;have aX:=OF.tl;clear ly ag aw af aE bf;walk;refine OT (x:="slugs") aj (by lk) (.tell (.inl U) ac λbJ xs bB bt aQ aa tl=>?_);have aa:=aa;have Q:=tl.1 U;subst Q;have aA:=aj.same aQ;have aF:=G.same aA.b.sm;have bg:=aF.ins;walk;refine EM p0 A1 _ mf U aF OF (λbL bC bw ao ab=>?_);have ab:=ab;refine Sj (ao _ _ aa) ab aX ?_;have aJ:=aA.same ao;have bI:=aJ.ins;clear aa ab aA aF bg aj aX;walk;refine OT (x:="state") aJ (by lk) (.tell (.inr (.inl U)) ac λbM xs bH bv aR aD tl=>?_);have aD:=aD;have Q:=tl.2.1 U;subst Q;have aL:=aJ.same aR;have aY:=G.same aL.b.sm;have bG:=aY.ins;walk;refine EM p0 A1 _ mf U aY OF (λbz as=>?_);walk;have ly:∀x∈[OO ⟨k,keys,z⟩ mf],PyData.canLay0 (.str x)=true:=λx B=>(by rw[Ah.mp B];exact iI _ _);exact OQ (as _ _ aD) ly λbA aV=>q _ (bc.trans (aL.b.sm.trans (as.trans aV)))
structure Lw(a:Ad)(Hs H0 H:Hp)(p q0:Ϡ)(D:Da)(B:Mc.DL)(d:Dk)(F:Ϡ):Prop where
 dk:BR a H0 H p D d
 mc:MA a d.cf H0 q0 B d.m
 wk:Wk d.cf d.m
 sm:AA Hs H0
 nq:Hs q0=none
 nB:∀b∈B.all,Hs b=none
 kp:∃ts,H0 F=some (.lst ts)/\F∉B.all/\Paired (IJ (λb=>b≠q0/\b∉B.all) H0) ts d.comp
 cm:Cm d.rs 42 d.comp
section
variable {a:Ad}{Hs H0 H H':Hp}{p q0:Ϡ}{D:Da}{B:Mc.DL}{d:Dk}{F:Ϡ}
def Lw.same(L:Lw a Hs H0 H p q0 D B d F)(s:AA H H'):Lw a Hs H0 H' p q0 D B d F:=⟨L.dk.same s,L.mc,L.wk,L.sm,L.nq,L.nB,L.kp,L.cm⟩
def Lw.st(L:Lw a Hs H0 H p q0 D B d F):AA Hs H:=L.sm.trans L.dk.b.sm
def Lw.mh(L:Lw a Hs H0 H p q0 D B d F):MA a d.cf H q0 B d.m:=L.mc.same L.dk.b.sm
def Lw.grow(L:Lw a Hs H0 H p q0 D B d F)(s:AA H H'):∃e,Lw a Hs e H' p q0 D B d F/\∀b o,H' b=some o->(H b=none\/∃z,o=.tup z)->e b=some o:=by refine DN (λe M c j=>?_) (L.dk.grow s);refine DN (λr i k v=>?_) L.kp;exact AU e ⟨M,L.mc.same c,L.wk,L.sm.trans c,L.nq,L.nB,⟨r,c _ _ i,k,Q5 v (.of_same c) λ_ z=>z⟩,L.cm⟩ j
def Lw.went(L:Lw a Hs H0 H p q0 D B d F)(M:BR a c H' p G { d with m:=s })(N:MA a d.cf c q0 j s)(st:Mc.AY q0 B H0 j c)(w:Wk d.cf s):Lw a Hs c H' p q0 G j { d with m:=s } F:=by
 refine DN (λI i y C=>?_) L.kp;refine EX (λJ fs e _=>?_) L.mc.ins;have nw:∀b o,H0 b=some o->b∉B.all->b∉j.all:=λb o h n k=>(st.nw b k).elim n λz=>by rw[h]at z;cases z
 exact⟨M,N,w,λb o h=>st.fr b o (L.sm b o h) (.inl ⟨(λz=>by rw[z,L.nq]at h;cases h),λz=>by rw[L.nB b z]at h;cases h⟩),L.nq,λb k=>(st.nw b k).elim (L.nB b) L.sm.free,⟨I,st.fr _ _ i (.inl ⟨HB i e nofun,y⟩),nw _ _ i y,Paired.Æ C λ_ _ v=>by obtain⟨t,b,e,E,r,z3⟩:=v;exact⟨t,b,e,st.fr _ _ E (.inr ⟨_,U⟩),⟨r.1,nw _ _ z3 r.2⟩,st.fr _ _ z3 (.inl r)⟩⟩,L.cm⟩
def Lw.fresh(L:Lw a Hs H0 H p q0 D B d F)(h:H b=none):b≠q0/\b∉B.all:=by refine EX (λj fs e _=>?_) L.mh.ins;refine⟨(λz=>by rw[z,e]at h;cases h),λz=>?_⟩;obtain⟨i,c⟩:=L.mh.li.is b z;rw[h]at c;cases c
def Lw.made(M:BR a H0 H p D d)(y:AA Hs H0)(O:Cm d.rs 42 d.comp)(I:∃j,H0 F=some (.lst j)/\Paired (IJ (λ_=>True) H0) j d.comp)(s:AA H H')(N:MA a d.cf H' v A1 d.m)(w:Wk d.cf d.m)(r:H v=none)(hA:∀b∈A1.all,H b=none):∃C,Lw a Hs C H' p v D A1 d F:=by refine DN (λC M1 c J=>?_) (M.grow s);revert I;refine AS λj G L=>?_;have i:=M.b.sm;have no:∀b o,H0 b=some o->b∉A1.all:=λb o h k=>(by have:=i _ _ h;rw[hA b k]at this;cases this);have R:∀b o,H0 b=some o->b≠v:=λb o h z=>(by have:=i _ _ h;rw[z,r]at this;cases this);exact⟨C,M1,YQ (S:=λb=>H b=none) N J r hA,w,y.trans c,(y.trans i).free r,λb k=>(y.trans i).free (hA b k),⟨j,c _ _ G,no _ _ G,Paired.Æ L λ_ _ E=>by obtain⟨t,b,e,Q,_,z3⟩:=E;exact⟨t,b,e,c _ _ Q,⟨R _ _ z3,no _ _ z3⟩,c _ _ z3⟩⟩,O⟩
end
noncomputable def r3 (rs:ϩ BS):ϩ BS:=rs.map λr=>⟨r.s,r.w,r.t,3*r.n⟩
def EW.three(R:EW 3 rs):EW 9 (r3 rs):=by have mem:∀{r:BS},r∈r3 rs->∃c∈rs,r.s=c.s/\r.w=c.w/\r.t=c.t/\r.n=3*c.n:=λ{r} h=>(by refine AS (λc i d=>?_) (Bq.mp h);subst d;exact MW c (MX i U U U U));have o:((r3 rs).map λr=>r.t)=rs.map λr=>r.t:=(by unfold r3;rw[D7];rfl);have k:(r3 rs).length=rs.length:=A3 _;refine⟨by rw[k];exact R.l1,by rw[k];exact R.l2,λr h=>?_,λr h=>?_,λr h=>?_,λr h=>?_,by rw[o];exact R.nd,by rw[o];exact R.ft,λj r h=>?_⟩;refine DN (λc i e _=>?_) (mem h);rw[e];exact R.sg c i;refine GK (λc i _ e _=>?_) (mem h);rw[e];exact R.wd c i;refine OW (λc i _ _ e _=>?_) (mem h);rw[e];exact R.th c i;refine OW (λc i _ _ _ e=>?_) (mem h);have:=R.mn c i;lia;unfold r3 at h;rw[An]at h;refine AS (λc i d=>?_) (Az.mp h);subst d;have:=R.pl j c i;unfold CV at this⊢;unfold r3;rw[L7];exact this
noncomputable def jf (p:BF):PyData:=.tuple [.int p.1,.tuple (p.2.1.map PyData.int),UY p.2.2]
def zg{K:ϡ}(i:H F=some (.lst zs))(h:Paired (Mv no H) zs ps)(j:∀p∈ps,FB rs p):JT K H (.ref F) (.list (ps.map jf)) :=
 .lst (AC.of i) (Jb.f9 h λv p r ⟨t,g,w,e,d,c,_,k⟩=>by
  rw[e];exact .tup (BP.of d) (.cons (.int _) (.cons (.tup (BP.of c) (WU _)) (.cons (.lst (AC.of k) (UZ λx o=>((j p r).ok x o).1.lay)) .nil))))
theorem YY:∀{ps:ϩ BF}{k:Nat}{s:Jb.St},(∀p∈ps,FB rs p)->(20<=s.1/\s.1<=140)->(∃lo md c:Int,s.2=[lo,md,c]/\0<=lo/\lo<=3/\3<=md/\md<=5/\6<=c/\c<=15)->∀p∈KL tw lf k s ps,FB rs p|[],_,_,_,_,_,_,h=>nomatch h|x::ps,k,s,j,y,r,p,h=>by have d:=j x Aa;have o:20<=(GX (lf.getD k 0) s x).1/\(GX (lf.getD k 0) s x).1<=140:=(by unfold GX;dsimp only;split;exact d.m;exact y);have i:∃lo md c:Int,(GX (lf.getD k 0) s x).2=[lo,md,c]/\0<=lo/\lo<=3/\3<=md/\md<=5/\6<=c/\c<=15:=(by unfold GX;dsimp only;split;exact d.g;exact r);rcases Be.mp (show p∈KD tw k (On (GX (lf.getD k 0) s x) x.2.2)++KL tw lf (k+1) (GX (lf.getD k 0) s x) ps from h)with h|h;have e:p=On (GX (lf.getD k 0) s x) x.2.2:=(by unfold KD at h;split at h;rcases Al.mp h with h|h;exact h;exact Ah.mp h;exact Ah.mp h);rw[e];exact⟨o,i,d.w,d.ok⟩;exact YY (λq v=>j q (Ac _ v)) o i p h
theorem YZ:∀{ps:ϩ BF}{k:Nat}{s:Jb.St},(∀p∈ps,p.2.2.length<=7)->(KL tw lf k s ps).length<=2*ps.length/\NH (KL tw lf k s ps)<=14*ps.length|[],_,_,_=>⟨B8 _,B8 _⟩|p::ps,k,s,h=>by obtain⟨o,r⟩:=YZ (tw:=tw) (lf:=lf) (k:=k+1) (s:=GX (lf.getD k 0) s p) λq e=>h q (Ac _ e);have i:=h p Aa;have c:KL tw lf k s (p::ps)=KD tw k (On (GX (lf.getD k 0) s p) p.2.2)++KL tw lf (k+1) (GX (lf.getD k 0) s p) ps:=U;have d:∀x:BF,NH [x,x]=x.2.2.length+x.2.2.length:=λx=>(by show x.2.2.length+(x.2.2.length+0)=_;lia);have j:∀x:BF,NH [x]=x.2.2.length:=λx=>(by show x.2.2.length+0=_;lia);rw[c,Jb.f7,Ag,Bb];unfold KD;split;rw[d];exact⟨by show 2+_<=_;lia,by show p.2.2.length+p.2.2.length+_<=_;lia⟩;rw[j];exact⟨by show 1+_<=_;lia,by show p.2.2.length+_<=_;lia⟩
def zh(y:∀r∈rs,2<=r.w/\r.w<=10)(d:∀p∈ps,FB rs p)(E:ps.length<=3)(i:ps≠[]):(FA (Om tw lf ps)).1=KL tw lf 0 (100,[2,4,8]) ps/\MT rs (EJ 4 (Om tw lf ps)) (Om tw lf ps):=by
 have j:=yI d (tw:=tw) (lf:=lf);have e:(FA (Om tw lf ps)).1=KL tw lf 0 (100,[2,4,8]) ps:=j4 d;have B:(EJ 4 (Om tw lf ps)).length<=ps.length*19:=iW (tw:=tw) (lf:=lf) (k:=0) d;have o:∀c:ϩ (DS 4),c.length<=(EJ 4 c).length:=λc=>by
  induction c with
  | nil=>exact B8 _
  | cons x c I =>
    show _<=(JC 4 x++EJ 4 c).length;have:=Cw.mpr (Cp.fx 4 x);rw[Ag,Bb]
    lia
 have G:=o (Om tw lf ps);obtain⟨C,H⟩:=YZ (tw:=tw) (lf:=lf) (k:=0) (s:=(100,[2,4,8])) λp v=>(d p v).w.2;refine⟨e,λz=>?_,by lia,Vj j,XU j,j,by lia,by rw[e];lia,λp h=>?_,y⟩;rotate_left;rw[e]at h;exact yQ (YY d (by lk) ⟨2,4,8,U,by lk,by lk,by lk,by lk,by lk,by lk⟩ p h);cases ps with|nil=>exact i U|cons p ps=>exact iT _ _ _ _ (Cg.mp (fy z)).1
def zj(c:∀r∈rs,2<=r.w/\r.w<=10):MT rs [("measure":ϥ),("5":ϥ)] [.inl (.ms 5)]:=by have e:EJ 4 ([.inl (.ms 5)]:ϩ (DS 4))=[("measure":ϥ),("5":ϥ)]:=(by show [("measure":ϥ),Cp.AO 5]++[]=_;rw[show Cp.AO 5=("5":ϥ) by room];rfl);have g:∀j∈([.inl (.ms 5)]:ϩ (DS 4)),LM 4 j:=λj d=>(by rw[Ah.mp d];exact⟨by lk,by lk⟩);exact⟨Bo _ _,by show 2<=60;decide,by rw[<-e];exact Vj g,by rw[<-e];exact XU g,g,by show 1<=1000;decide,⟨B8 _,B8 _⟩,λp h=>(nomatch (h)),c⟩
def sp_law(K:ϡ):Sp:=λd H Q _=>∃(l:Ϡ) (c:ϓ),d=[.ref l]/\AC K H l (c.map V.int)/\c.length<=63/\∀e,Q (.bl true) e
def ok_law:T.F lawLevel 85 (sp_law K):=by
 have ae:=yR T (most:=9);refine BX T.law.fn NI ?_;k_ne;revert vs;refine HY λl ns hS hl q=>?_;refine⟨_,(AH (Pt (i:=1) NI.nd U NM U (EV K U (BG T.Ž (uG T) hr U (AR 0 (AD AJ AI)))) (DU.of (N':=["_law_script","_law_case_here","_law_casting","_law_desk","_law_kept","_law_machine","_law_k","_law_paragraphs_here","_law_twice","_law_left","_law_rows_here","_law_sign","_law_width","_law_teeth","_law_many"]) (ms:=[]) (k:=4) (by rfl)) (λ_ _ _ _ _=>(ES K U (n:=4) U (BO (BD 11) (BO (BD 12) (BO (BD 13) (BO (BD 14) EL)))))) (λ_ _ _ _ _=>EU) (λ_ _ _ _ _=>(FP (AR 11 (AR 12 (AR 13 (AD (AX Nd AJ (pv 14)) AI)))))))
  (AH (AL 2 NI.nd (AX DT AJ (AX GM (BG T.Ó (Q1 T) hr U (AR 0 (AD AJ AI))) AJ)))
  (AH (AL 3 NI.nd (fU T.Û (iE T) hr U (AD (BG T.Ė (iQ T) hr U (AZ 1)) (AZ 2))))
  (AH (CC (PW.pt (Ot (KS (FK (BG T.ĥ (YX T) hr U (AR 3 (AR 1 (AD (CO AI) (AZ 2))))))) (P8 (KS (FK (BG T.Ď (YW T) hr U (AR 3 (AD (R5 T.Machine (Rr T) hr U (AR 1 (AD BN (AZ 2)))) AI)))))))) (AF JI) CJ)
  (AH (CC (PW.pt (Ot (CA (GQ K U hr.units) (KI (K:=K) U T.Û.cl T.Å (Ol T) hr Mn (pv 3) (AD BN AI)) (CO (AD BN AI)) (BL _)) (Ot (KS (FK (BG T.ĥ (YX T) hr U (AR 3 (AR 1 (AD (CO AI) (AZ 2))))))) (P8 (KS (FK (BG T.Ł (zf T) hr U (AR 1 (AZ 2))))))))) (AF JI) CJ)
  (AH (AL 4 NI.nd (CO AI))
  (AH (AL 5 NI.nd (R5 T.Machine (Rr T) hr U (AR 1 (AD BN (AZ 2)))))
  (AH (GZ B6 U (NN U T.É (AD AJ AI)) (AQ 6 NI.nd) (AH (AL 7 NI.nd (BG T.ĉ (yD T) hr U (AD (AX SW (Nw (NQ K U) (pv 0) Ph (LY AJ)) (Nw (NQ K U) (pv 0) (LY (AX DT AJ (AX Nd AJ (pv 6)))) Ph)) (AZ 1))))
  (AH (CC (CA (FT K U hr.units) (pv 7) (CO AI) (BL _)) (AF JI) CJ)
  (AH (AL 8 NI.nd (AX GM (AX LV (BG T.Ó (Q1 T) hr U (AR 0 (AD AJ AI))) AJ) AJ))
  (AH (Pt (i:=9) NI.nd U NM U (NN U T.É (AD AJ AI)) (DU.of (N':=["_law_script","_law_case_here","_law_casting","_law_desk","_law_kept","_law_machine","_law_k","_law_paragraphs_here","_law_twice","_law_left","_law_rows_here","_law_j"]) (ms:=[]) (k:=1) (by rfl)) (λ_ _ _ _ _=>(BD 11)) (λ_ _ _ _ _=>EU) (λ_ _ _ _ _=>(AX Nd (AX LV (AX GM (AX LV (BG T.Ó (Q1 T) hr U (AR 0 (AD AJ AI))) AJ) AJ) AJ) (AX GM (AX LV (AX LV (BG T.Ó (Q1 T) hr U (AR 0 (AD AJ AI))) AJ) (AX DT (pv 11) AJ)) AJ))))
  (AH (Ny (AL 10 NI.nd (BG T.Ů ae hr U (AR 1 (AD (BG T.Ŀ (yN T) hr U (AR 7 (AR 8 (AZ 9)))) AI)))))
  (AH (Ny (CC (KS (FK (BG T.ľ (yX T) hr U (AR 3 (AD (BG T.Ų (yK T) hr U (AR 7 (AR 8 (AZ 9)))) (AZ 10)))))) (AF JI) CJ))
  (AH (Ny (CC (Ut (QC (pv 10))) (BV (AL 4 NI.nd (pv 10))) CJ))
  (AH (CC (PW.pt (Ot (KS (FK (BG T.ĥ (YX T) hr U (AR 3 (AR 1 (AR 4 (AZ 2))))))) (P8 (KS (FK (BG T.ė (j9 T) hr U (AR 3 (AR 5 (AD (Nw (NQ K U) (pv 0) Ph (LY AJ)) AI))))))))) (AF JI) CJ)
  (AH (CC (CA (GQ K U hr.units) (KI (K:=K) U T.Û.cl T.Å (Ol T) hr Mn (pv 3) (AD BN AI)) (CO AI) (BL _)) (AF JI) CJ)
  (AH (AL 5 NI.nd (R5 T.Machine (Rr T) hr U (AR 1 (AD (BG T.ĸ (Yu T) hr U (AD (CW ["_law_script","_law_case_here","_law_casting","_law_desk","_law_kept","_law_machine","_law_k","_law_paragraphs_here","_law_twice","_law_left","_law_rows_here","_law_line","_law_gap_here"] [] 2 (EV K U (pv 4)) (ES K U (n:=2) U (BO (BD 11) (BO (BD 12) EL))) EU (pv 11)) AI)) (AZ 2)))))
  (BV (CC (KS (FK (BG T.ė (j9 T) hr U (AR 3 (AR 5 (AD (Nw (NQ K U) (pv 0) (LY AJ) (LY AJ)) AI)))))) (AF JI) CJ)))))))))))))
  (AF (GY (FH (FT K U hr.units) (KI (K:=K) U T.Û.cl T.Å (Ol T) hr Mn (pv 3) (AD BN AI)) (CO (AD (FQ JZ U T.Ô JS (AD (FM (K:=K) U T.Machine.cl T.ð (YG T) hr Yj (pv 5)) AI)) AI)) (BL _)) (KG (BG T.Ď (YW T) hr U (AR 3 (AZ 5)))))))))))))),?_⟩
 walk;refine DZ l ns 3 U hS (by lk) (by lk) (λbY cx aG H1 bn aQ aL aJ R0=>?_);have bS:=R0.l2;have a4:=MH aJ;refine HA bY U ⟨_,AC.of aL⟩ (λpc aI=>?_);refine GN (a:=bY) (xs:=cx) (λj ys C H2=>∃(w1 w2 w3 w4:Ϩ V),C=[some (.ref l),none,none,none,none,none,none,none,none,none,none,w1,w2,w3,w4]/\AA H1 H2/\H2 pc=some (.lst ys)/\Paired (Cs.FL H2) ys (r3 (aG.take j)))
  ?_ ?_ ?_ ?_
 exact EM none none none none U (BM aI _) AM .nil;refine λj ys C H2 hj=>HX λ_ _ _ _=>ED λ_ hs _=>?_;exact hs.seq (AC.of aL);(.refine λj y ys C H2 hy ab ah=>?_;revert C;refine JP λw1 w2 w3 w4 aK cd bw=>?_;obtain⟨r,cw,t,rfl,ht⟩:=FD aJ hy;have aM:=MH bw;have aM:ys.length=(aG.take j).length:=(by rw[aM];exact A3 _);rw[Ao]at aM;refine CM _ _ U (BP.of (aK _ _ ht)) U ?_;x_go;x_go;x_go;x_go;(try refine And.intro U ?_);walk;refine λt2 ci=>?_;have bd:=BM ci (.tup (FU ⟨r.s,r.w,r.t,3*r.n⟩));have bG:upd H2 t2 (.tup (FU ⟨r.s,r.w,r.t,3*r.n⟩)) t2=some (.tup (FU ⟨r.s,r.w,r.t,3*r.n⟩)):=AM;have ba:=bd _ _ cd;refine EI ab ba (by lia) ⟨_,_,_,_,U,DF (aK.trans bd) aI,AM,?_⟩;rw[show r3 (aG.take (j+1))=r3 (aG.take j)++[⟨r.s,r.w,r.t,3*r.n⟩] by rw[Am,cw];exact Ae ..];exact Bz (RS (EO bw bd) ba (λz e=>by cases e)) ⟨t2,U,by rw[BJ (HB bG ba λz=>nomatch z)];exact bG⟩)
 .refine λxs C H2 ah=>?_;revert C;refine JP λw1 w2 w3 w4 aK av ai=>?_;rw[a4,Ai (A9 _)]at ai;have R:=R0.three;generalize r3 aG=c at ai R;have Uu:=R.un (by lk);have af:=(aQ.trans aK).seq hS;clear aJ aL hS aQ aK aI bn a4 bS R0;walk;refine LH l 3 ns U af (by lk) (λE=>?_);have aN:1<=1+E%12:=(by lia);have bj:1+E%12<=12:=(by lia);walk;refine JH pc xs c (IR U (AC.of av) ai (by have:=Uu.l2;lia) Uu.g (λH3 ar=>?_));walk;refine λp dx hp bt aa=>?_;refine jd Uu aN (by lia) hp bt aa λD H4 M4=>⟨U,?_⟩;have C0:Cm c 42 ([]:ϩ HW):=⟨λx h=>(nomatch h),B8 _,λx h=>(nomatch h)⟩;obtain⟨tk,ay,aA⟩:=Cm.tell (d:=⟨c,1+E%12,[],"",Mc.start c⟩) R (by lk) C0 aN;have OS:Mc.Ok ⟨c,"",1+E%12⟩ (Mc.start c):=M4.b.ok;obtain⟨_,_,OK,RN⟩:=Uu.start (ls:=[]) (z:=1) (λl h=>(nomatch h)) (B8 _) (Dj 1);have W0:Wk ⟨c,"",1+E%12⟩ (Mc.start c):=Wk.start (B8 _) bj;have Y:=ar _ _ av;have Z:=EO ai ar;have bL:∀x∈[("0":ϥ)],PyData.canLay0 (.str x)=true:=(by room);clear hp bt aa;walk;intro pF bA;generalize e:upd H4 pF _=H5;obtain⟨bO,h5⟩:_/\H5 pF=some (.lst []):=LN e bA;clear e;have M5:=M4.same bO;walk;refine DC p pc pF H3 D (LO _ xs [] (λ_=>True) (DY U M5 tk ay aA (M5.b.sm _ _ Y) (GC (EO Z M5.b.sm) h5 .nil (λH6 aP=>?_))));refine AU _ U ?_;refine AK ?_;have M6:=M5.same aP;have an:=M6.b.sm _ _ Y;have a1:=EO Z M6.b.sm;clear h5 M5;walk;refine λp0 b9 aV ao b3=>?_;refine DC p0 pc b9 ⟨c,"",1+E%12⟩ xs (DY U AM ?_ ?_ OS.cf OK (LG RN (λA0 H7 N7 a2 ck=>⟨U,?_⟩)));rw[BJ (DR an aV),BJ (DR an ao)];exact an;exact EO a1 λb u O=>(by rw[BJ (DR O aV),BJ (DR O ao)];exact O);have M7:=M6.same (Rf aV ao a2);clear ck a2 aV ao b3 an a1 M6;walk;refine OX p p0 H3 D _ A0 U M7 N7 W0 (λH8 bQ=>?_);refine AU _ U ?_;refine AK ?_;have M8:=M7.same bQ;have I8:=M8.ins;clear M7 N7;walk;rw[show("copy measure 5":ϥ)="copy "++AE [("measure":ϥ),("5":ϥ)] by room];refine YU M8 (zj R.wd) ⟨λe=>(nomatch (show some []=none from e)),λrw e r9 D9 H9 b' bC bq=>?_⟩;cases (show some []=some rw from e);have M9:BR a H3 H9 p D9 ⟨c,1+E%12,[],"",Mc.start c⟩:=bC;have h9:H9 r9=some (.lst [.str (CY ((0:Nat):Int))]):=bq;rw[show CY ((0:Nat):Int)="0" by room]at h9;clear bC bq M8 I8 b';walk;refine OQ (xs:=["0"]) h9 bL λHa bu=>?_;refine AU _ U ?_;refine AK ?_;have Ma:=M9.same bu;clear h9 M9 bu bL;walk;intro pb bo;generalize e:upd Ha pb _=Hb;obtain⟨aF,O⟩:_/\Hb pb=some (.lst []):=LN e bo;clear e;have Mb:=Ma.same aF;walk;refine DC p pc pb H3 D9 (LO _ xs [] (λ_=>True) (DY U Mb tk ay aA (Mb.b.sm _ _ Y) (GC (EO Z Mb.b.sm) O .nil (λHc ax=>?_))));refine AU _ U ?_;refine AK ?_;have aZ:=Mb.same ax;clear Ma Mb O aF ax;walk;refine LO pc _ xs c (DY U (aZ.b.sm _ _ Y) (EO Z aZ.b.sm) Uu aN bj (λHd al=>?_));refine AU _ U ?_;refine AK ?_;have Md:=aZ.same al;clear aZ al;walk;intro pk bm;generalize e:upd Hd pk _=He;obtain⟨aO,he⟩:_/\He pk=some (.lst []):=LN e bm;clear e;refine DN (λHg Mg g1 g2=>?_) (Md.grow aO);have hk:=g2 _ _ he (.inl bm);have ap:=Mg.b.sm _ _ (g1 _ _ Y);have a6:=EO Z (g1.trans Mg.b.sm);walk;refine λp1 cn au ag bX=>?_;refine DC p1 pc cn ⟨c,"",1+E%12⟩ xs (DY U AM ?_ ?_ OS.cf OK (LG RN (λA1 Hf Nf a3 bW=>⟨U,?_⟩)));rw[BJ (DR ap au),BJ (DR ap ag)];exact ap;exact EO a6 λb u O=>(by rw[BJ (DR O au),BJ (DR O ag)];exact O);obtain⟨Hi,L0⟩:=Lw.made Mg (ar.trans g1) C0 ⟨[],hk,.nil⟩ (Rf au ag a3) Nf W0 au λb O=>RZ au ag (bW b O)
  clear a3 bW au ag bX ap a6 hk g1 g2 Mg Nf he aO bm Md OS OK RN W0 tk ay aA C0 M4 Y Z ar bo bA bO aP bQ;walk;refine Nr (lo:=0) (n:=(2:Int).toNat) (λi C X=>∃(v6 v7 v8 v9 aX:Ϩ V) (F q1:Ϡ) (D:Da) (B:Mc.DL) (rw:ϩ HW) (ks:ϥ) (m:Ms) (H0:Hp),C=[some (.ref l),some (.ref pc),some (.int (1+E%12)),some (.ref p),some (.ref F),some (.ref q1),v6,v7,v8,v9,aX]/\Lw a H2 H0 X p q1 D B ⟨c,1+E%12,rw,ks,m⟩ F)
   ⟨none,none,none,none,none,pk,p1,D9,A1,[],"",Mc.start c,Hi,U,L0⟩ ?_ ?_
  .clear L0;refine λi C Ha hi=>EK λv6 v7 v8 v9 aX=>EK λF q1 D B rw=>GA λks m H0=>KM λam La=>?_;subst am;walk;refine BY l _ U (La.st.seq af) (λs1 aQ=>?_);refine AS (λu1 e1 cC=>?_) (UR ns none (some 4));rw[e1];generalize e:upd Ha s1 _=Hb;obtain⟨aF,O⟩:_/\Hb s1=some (.lst (u1.map V.int)):=LN e aQ;clear e e1;have Lb:=La.same aF;clear La;walk;refine BY l _ U (Lb.st.seq af) (λs2 cq=>?_);refine AS (λu2 e2 cy=>?_) (UR ns (some (4+20*(0+(i:Int)))) none);rw[e2];generalize e:upd Hb s2 _=Hc;obtain⟨ax,hc⟩:_/\Hc s2=some (.lst (u2.map V.int)):=LN e cq;clear e e2;walk;refine NL s1 s2 _ _ U U (ax _ _ O) hc (DG (by rw[A3,A3];lia)) (λs3 ar=>?_);rw[<-Ae];generalize e:upd Hc s3 _=Hd;obtain⟨al,hd⟩:_/\Hd s3=some (.lst ((u1++u2).map V.int)):=LN e ar;clear e;have Ld:=(Lb.same ax).same al;clear Lb O hc aF ax al;walk;refine DC s3 pc (u1++u2) xs c (DY U (AC.of hd) (Ld.st _ _ av) (EO ai Ld.st) Uu.ne Uu.l2 (LG R.sg (λDp zs ps He _ aO S as Q aw=>?_)));have Le:=Ld.same aO;clear Ld hd aO;walk;intro px cv;generalize e:upd He px _=Hf;obtain⟨aD,hf⟩:_/\Hf px=some (.lst []):=LN e cv;clear e;have Lf:=Le.same aD;have S:=aD _ _ S;have Q:Paired (Mv Dp Hf) zs ps:=Paired.Æ Q λ_ _ ⟨t,g,w,e,z1,z2,z3,z4⟩=>⟨t,g,w,e,aD _ _ z1,aD _ _ z2,z3,aD _ _ z4⟩;refine CM _ (.list []) (zg S Q aw) (.lst (AC.of hf) .nil) (by have:(PyData.list []).depth=1:=U;lia) ?_;refine AU _ U ?_;clear Le hf aD;by_cases aa:ps=[];(.subst aa;refine BB ?_;walk;exact q _)
   have bH:PyData.eqv (.list (ps.map jf)) (.list [])=false:=by
    cases ps with
    | nil=>exact absurd U aa
    | cons _ _=>rfl
   rw[bH];refine AK ?_;clear bH;walk;refine LH l 3 ns U (Lf.st.seq af) (by lk) (λct=>?_);refine CM _ _ U U ⟨by lk,by lk⟩ ?_;refine CM _ _ U U (by show(0:Int)<4;decide) ?_;dsimp only;generalize ct/36%4=tw;walk;refine λpL bl=>?_;refine ZZ (lo:=0) (n:=(3:Int).toNat) (λj ys C X=>∃(bf:Ϩ V) (lf:ϓ),C=[some (.ref l),some (.ref pc),some (.int (1+E%12)),some (.ref p),some (.ref F),some (.ref q1),some (.int (0+(i:Int))),some (.ref Dp),some (.int tw),v9,aX,bf]/\AA Hf X/\X pL=some (.lst ys)/\ys=lf.map V.int/\lf.length=j)
    ?_ ?_ ?_
   exact MY none [] U (BM bl _) AM U U;(.refine λj ys C X hj ah=>?_;revert C;refine Q7 λbf lf hs hh aH ab=>?_;subst aH;walk;refine LH l 3 ns U (hs.seq (Lf.st.seq af)) (by lk) (λca=>?_);walk;refine LH l 3 ns U (hs.seq (Lf.st.seq af)) (by lk) (λcb=>?_);walk;have cA:j<3:=hj;exact EI hj hh (by rw[A3,ab];lia) ⟨_,lf++[ca/144%3/2*(cb/432/(0+(j:Int)+1)%4)],U,DF hs bl,AM,by rw[Ae];rfl,by rw[Ag,ab];rfl⟩)
   .refine λys C Hg ah=>?_;revert C;refine Q7 λbf lf aB ak aH ab=>?_;subst aH;have bF:lf.length=3:=ab;have Lg:=Lf.same aB;have S:=aB _ _ S;have Q:Paired (Mv Dp Hg) zs ps:=Paired.Æ Q λ_ _ ⟨t,g,w,e,z1,z2,z3,z4⟩=>⟨t,g,w,e,aB _ _ z1,aB _ _ z2,z3,aB _ _ z4⟩;clear Lf aB ab bl;have h6:=(YZ (tw:=tw) (lf:=lf) (k:=0) (s:=(100,[2,4,8])) λp hq=>(aw p hq).w.2).1;have b4:=YY (tw:=tw) (lf:=lf) (k:=0) (s:=(100,[2,4,8])) aw (by lk) ⟨2,4,8,U,by lk,by lk,by lk,by lk,by lk,by lk⟩;walk;refine AU (λC X=>∃(v:V) (J:Hp),C=[some (.ref l),some (.ref pc),some (.int (1+E%12)),some (.ref p),some (.ref F),some (.ref q1),some (.int (0+(i:Int))),some (.ref Dp),some (.int tw),some (.ref pL),some v]/\AA Hg X/\Lw a H2 J X p q1 D B ⟨c,1+E%12,rw,ks,m⟩ F/\((EC c (KL tw lf 0 (100,[2,4,8]) ps)=none/\v=.non)\/∃(F':Ϡ) (ts:ϩ V) (I:ϩ HW),EC c (KL tw lf 0 (100,[2,4,8]) ps)=some I/\v=.ref F'/\J F'=some (.lst ts)/\F'∉B.all/\Paired (IJ (λb=>b≠q1/\b∉B.all) J) ts I/\Cm c 42 I)) ?_ ?_;(.walk;refine DC Dp pL tw lf zs (MW ps (DY U S ak bF Q as (λG us Hh cB ac hG cp=>?_)));have bv:=Lg.st.trans ac;walk;refine DC pc G G xs us (Nm c _ (DY U (bv _ _ av) (EO ai bv) R hG cp (GC b4 (by lia) (λe Hi aE=>?_) (λF' ts I Hi bE aE hF e aR bg=>?_))));(.walk;exact CM .non H0 U (ac.trans aE) (Lg.same (ac.trans aE)) (.inl ⟨e,U⟩));refine AS (λJ Li g=>?_) (Lg.grow (ac.trans aE));walk;exact CM (.ref F') J U (ac.trans aE) Li (.inr ⟨F',ts,I,e,U,g _ _ hF (.inl (ac.free bE)),(Lg.fresh (ac.free bE)).2,Q5 aR (λb o h hs=>g b o h (hs.imp (λz=>ac.free z.2) id)) λb z=>Lg.fresh (ac.free z.2),bg⟩))
    .refine λC Hj ah=>?_;revert C;refine HY λv J az Lj hv=>?_;obtain⟨eo,CP⟩:=zh (tw:=tw) (lf:=lf) R.wd aw as aa;have S:=az _ _ S;have ak:=az _ _ ak;have Q:Paired (Mv Dp Hj) zs ps:=Paired.Æ Q λ_ _ ⟨t,g,w,e,z1,z2,z3,z4⟩=>⟨t,g,w,e,az _ _ z1,az _ _ z2,z3,az _ _ z4⟩;clear Lg az b4 h6;refine AU (λC X=>∃(D':Da) (I:ϩ HW),C=[some (.ref l),some (.ref pc),some (.int (1+E%12)),some (.ref p),some (.ref F),some (.ref q1),some (.int (0+(i:Int))),some (.ref Dp),some (.int tw),some (.ref pL),some v]/\((v=.non/\Lw a H2 J X p q1 D' B ⟨c,1+E%12,rw,ks,m⟩ F)\/∃F',v=.ref F'/\Lw a H2 J X p q1 D' B ⟨c,1+E%12,I,ks,m⟩ F')) ?_ ?_;(.walk;refine DC Dp pL tw lf zs (Nm ps c (DY U S ak bF Q as (LG aw (λHk cc=>?_))));have Lk:=Lj.same cc;walk;refine DC p J D _ (EJ 4 (Om tw lf ps)) (Nm (Om tw lf ps) v (GC U Lk.dk CP ?_));rw[eo];rcases hv with⟨hk,ev⟩|⟨F',ts,I,hk,ev,bp,ce,aR,bg⟩;refine .inl ⟨hk,ev,λHl cr=>?_⟩;refine AU _ U ?_;refine AK ?_;exact Nn D rw U (.inl ⟨ev,Lk.same cr⟩);refine .inr ⟨F',ts,I,hk,ev,bp,B2 aR,λD' Hl Ml=>?_⟩;refine AU _ U ?_;refine AK ?_;exact Nn D' _ U (.inr ⟨F',ev,Ml,Lk.mc,Lk.wk,Lk.sm,Lk.nq,Lk.nB,⟨ts,bp,ce,aR⟩,bg⟩))
     .refine λC Hl ah=>?_;revert C;refine KE λD' I hL=>?_;clear Lj hv S ak Q aw CP eo;refine AU (λC X=>∃(F2:Ϡ) (H:ϩ HW),C=[some (.ref l),some (.ref pc),some (.int (1+E%12)),some (.ref p),some (.ref F2),some (.ref q1),some (.int (0+(i:Int))),some (.ref Dp),some (.int tw),some (.ref pL),some v]/\Lw a H2 J X p q1 D' B ⟨c,1+E%12,H,ks,m⟩ F2) ?_ ?_;(.rcases hL with⟨rfl,L⟩|⟨F',rfl,L⟩;(.walk;exact Nn F rw U L);walk;exact Nn F' I U L)
      .refine λC Hm ah=>?_;revert C;refine KE λF2 H Lm=>?_;clear hL;refine ED (λtk ay aA=>?_) (Cm.tell R (by lk) Lm.cm aN);refine DN (λts k1 k2 k3=>?_) Lm.kp;walk;refine DC p pc F2 J D' (LO _ xs ts _ (DY U Lm.dk tk ay aA (Lm.st _ _ av) (GC (EO ai Lm.st) (Lm.dk.b.sm _ _ k1) (Q5 k3 (.of_same Lm.dk.b.sm) λ_ z=>z) (λHn b1=>?_))));refine AU _ U ?_;refine AK ?_;have Ln:=Lm.same b1;clear Lm b1 tk ay aA k1 k2 k3;walk;refine BY l _ U (Ln.st.seq af) (λs4 aT=>?_);refine AS (λu3 e3 _=>?_) (UR ns none (some 2));rw[e3];generalize e:upd Hn s4 _=Ho;obtain⟨bx,ho⟩:_/\Ho s4=some (.lst (u3.map V.int)):=LN e aT;clear e e3;refine AS (λb6 Lo g=>?_) (Ln.grow bx);have ho:=g _ _ ho (.inl aT);have ū:=(Ln.fresh aT).2;clear Ln bx g aT;walk;refine DC p q1 s4 b6 D' (JH _ B u3 (DY U Lo.dk Lo.mc Lo.wk ho ū (λD3 B3 m3 aW Hp M3 N3 be w3=>?_)));refine AU _ U ?_;refine AK ?_;have Lp:=Lo.went M3 N3 be w3;clear Lo M3 N3 be w3 ho ū;have Ip:=Lp.dk.ins;have SO:=Lp.cm.start Uu aN;walk;refine OT (x:="start") Lp.dk (by lk) (.start U SO λr4 D4 Hq b7 bM h4=>?_);have M4:BR a aW Hq p D4 ⟨c,1+E%12,H,BW (H.map λx=>x.1),Mc.start c⟩:=bM;clear bM Ip;walk;intro p5 bV;generalize e:upd Hq p5 _=Hr;obtain⟨a7,a8⟩:_/\Hr p5=some (.lst []):=LN e bV;clear e;refine CM _ _ (MN (a7 _ _ h4)) (MN a8) (Of _) ?_;rw[XC (MN (K:=K) a8)];refine AU _ U ?_;refine AK ?_;have M5:=M4.same a7;refine DN (λts k1 _ k3=>?_) Lp.kp;have sm:=Lp.sm;have cm:=Lp.cm;have fit:=(Cm.fit cm);clear Lp M4 h4 a8 a7 bV b7;have k3:Paired (IJ (λ_=>True) aW) ts H:=Paired.Æ k3 λ_ _ ⟨t,b,e,z1,_,z3⟩=>⟨t,b,e,z1,trivial,z3⟩;have a':=M5.b.sm _ _ k1;have a9:Paired (IJ (λ_=>True) Hr) ts H:=Q5 k3 (.of_same M5.b.sm) λ_ z=>z
       have bz:=B2 a9;walk;refine⟨⟨_,AC.of a'⟩,λD6 aS=>?_⟩;refine GN (a:=F2) (xs:=ts) (λj ys C X=>∃(w1 w2:Ϩ V),C=[some (.ref l),some (.ref pc),some (.int (1+E%12)),some (.ref p),some (.ref F2),some (.ref q1),some (.int (0+(i:Int))),some (.ref Dp),some (.int tw),some (.ref pL),some v,w1,w2]/\AA Hr X/\X D6=some (.lst ys)/\Paired (Lns.ND D6 X) ys ((H.take j).map λx=>x.1))
        ?_ ?_ ?_ ?_
       exact CM none none U (BM aS _) AM .nil;refine λj ys C X hj=>GL λw1 w2 _ hs _=>?_;exact hs.seq (AC.of a');(.refine λj x ys C X hx ab ah=>?_;revert C;refine HY λw1 w2 hs hh hp=>?_;obtain⟨r,ch,t,pl,rfl,ht,_,as⟩:=FD a9 hx;have aM:=B2 hp;rw[A3,Ao]at aM;have cG:H.length<=100:=(by have:=fit.2.1.1;unfold Mp at this;rwa [A3]at this);have aa:pl≠D6:=DR as aS;refine CM _ _ U (BP.of (hs _ _ ht)) U ?_;x_go;x_go;(try refine And.intro U ?_);walk;refine EI ab hh (by lia) ⟨_,_,U,DF hs aS,AM,?_⟩;rw[Am,ch,Ae];exact Bz (Xc hp) ⟨pl,U,aa,by rw[BJ aa];exact hs _ _ as⟩);refine λys C cE ah=>?_;revert C;refine HY λw1 w2 br aP bh=>?_;rw[bz,Ai (A9 _)]at bh;walk;refine DH D6 D6 ys _ U (AC.of aP) bh fit.2.1 (λHt bP=>?_);have M7:=(M5.same br).same bP;have aq:=(sm.trans M7.b.sm) _ _ av;have a0:=EO ai (sm.trans M7.b.sm);have W8:Wk ⟨c,BW (H.map λx=>x.1),1+E%12⟩ (Mc.start c):=Wk.start fit.2.2 bj;have bZ:Mc.Ok ⟨c,BW (H.map λx=>x.1),1+E%12⟩ (Mc.start c):=SO.ok;have bI:GS c false (BW (H.map λx=>x.1)).cps.toList=true:=SO.kf;have bR:∀r∈c,0<=r.n/\r.n<=1000:=SO.rn;clear M5 br bP aP bh a9 a' bz fit SO aS;generalize cz:BW (H.map λx=>x.1)=kk at *;walk;refine λp8 cj aC aj bJ=>?_;refine DC p8 pc cj ⟨c,kk,1+E%12⟩ xs (DY U AM ?_ ?_ bZ.cf bI (LG bR (λA8 Hu Nu a5 b2=>⟨U,?_⟩)));rw[BJ (DR aq aC),BJ (DR aq aj)];exact aq;exact EO a0 λb u O=>(by rw[BJ (DR O aC),BJ (DR O aj)];exact O);obtain⟨cD,Lu⟩:=Lw.made (F:=F2) M7 sm cm ⟨ts,k1,k3⟩ (Rf aC aj a5) Nu W8 aC λb O=>RZ aC aj (b2 b O);clear M7 sm cm k1 k3 aC aj bJ a5 b2 Nu aq a0 bZ bI bR W8;walk;refine BY l _ U (Lu.st.seq af) (λs9 aY=>?_);refine AS (λu4 e4 _=>?_) (UR ns (some 2) (some 5));rw[e4];generalize e:upd Hu s9 _=Hv;obtain⟨bD,bc⟩:_/\Hv s9=some (.lst (u4.map V.int)):=LN e aY;clear e e4;refine AS (λcu Lv g=>?_) (Lu.grow bD);have bc:=g _ _ bc (.inl aY);have ū:=(Lu.fresh aY).2;clear Lu bD g aY;walk;refine DC p p8 s9 cu D4 (JH _ A8 u4 (DY U Lv.dk Lv.mc Lv.wk bc ū (λD9 B9 m9 co Hw M9 N9 b5 w9=>?_)));refine AU _ U ?_;refine AK ?_;exact⟨_,_,_,_,_,F2,p8,D9,B9,H,kk,m9,co,U,Lv.went M9 N9 b5 w9⟩
  refine λC Ha=>EK λv6 v7 v8 v9 aX=>EK λF q1 D B rw=>GA λks m H0=>KM λam La=>?_;subst am;have Ia:=La.dk.ins;walk;refine iP La.dk La.wk λr1 D1 Hb bN bK bB=>?_;have hw:=La.wk.run (CT ⟨c,ks,1+E%12⟩ m) La.dk.b.ok;have M1:BR a H0 Hb p D1 ⟨c,1+E%12,rw,ks,Mc.fin ⟨c,ks,1+E%12⟩ m⟩:=bK;have h1:Hb r1=some (.lst [.str (CY ((Mc.fin ⟨c,ks,1+E%12⟩ m).done-m.done))]):=bB;have Nb:=La.mc.same M1.b.sm;have cF:=Nb.ins;obtain⟨n1,n2⟩:=La.fresh bN;have b8:=La.dk.b.ok;have hN:=La.mc;have wk:Wk ⟨c,ks,1+E%12⟩ m:=La.wk;clear bK bB Ia La bN;walk;refine EM q1 B _ _ U Nb b8 (λA1 Hc Nc bT=>?_);refine DN (λaW M3 N3 be=>?_) (M1.tick hN bT Nc);have h1:=bT.fr _ _ h1 (.inl ⟨n1,n2⟩);revert hw;refine ED λOF WF bb=>?_;have WF:Wk ⟨c,ks,1+E%12⟩ (Mc.fin ⟨c,ks,1+E%12⟩ m):=WF;have b0:((Mc.fin ⟨c,ks,1+E%12⟩ m).done-m.done).natAbs<100000:=(by have bb:m.done<=(Mc.fin ⟨c,ks,1+E%12⟩ m).done:=bb;unfold Wk at WF wk;lia);clear OF bb;have h1:Hc r1=some (.lst [.str (CY ((Mc.fin ⟨c,ks,1+E%12⟩ m).done-m.done))]):=h1;generalize (Mc.fin ⟨c,ks,1+E%12⟩ m).done-m.done=df at b0 h1⊢;walk;(try refine⟨b0,?_⟩);have ly:∀x∈[CY df],PyData.canLay0 (.str x)=true:=λx hx=>(by rw[Ah.mp hx];exact OR _);refine OQ (xs:=[CY df]) h1 ly λHd al=>?_;have M4:=M3.same al;walk;exact OX p q1 aW D1 _ A1 U M4 (N3.same M4.b.sm) WF (λX _=>q X)
section
open PySem.W PyProof.Rows
open Hd (qr qi qs qt qb qe qF qG qT qN qf qg qC HD qP qU qI qW qD qv qX qM z3 KO LP KP LQ LR)
def hB:Vk tb:=by
 repeat (refine And.intro (by(first|refine ba1 ?_|refine ba2 ?_|refine ba3 ?_|refine ba4 ?_|refine ba5 ?_);intros;rfl) ?_)
 exact trivial
def zk:TJ U3:=by
 repeat (refine And.intro (by(first|refine ba1 ?_|refine ba2 ?_|refine ba3 ?_|refine ba4 ?_|refine ba5 ?_);intros;rfl) ?_)
 exact trivial
def zm:TJ U4:=by
 repeat (refine And.intro (by(first|refine ba1 ?_|refine ba2 ?_|refine ba3 ?_|refine ba4 ?_|refine ba5 ?_);intros;rfl) ?_)
 exact trivial
def zo{s}{e}{ps:ώ}{i}(h:∀a b c d:Ϟ,BindsTo s e ⟨[a,b,c,d],[]⟩ (ps.zip ([a,b,c,d]++i))):∀us:Ϗ,us.length=4->BindsTo s e ⟨us,[]⟩ (ps.zip (us++i)):=Xp (P:=λus=>BindsTo s e ⟨us,[]⟩ (ps.zip (us++i))) h
def zp{s}{i}{ps:ώ}{j}(h:∀a b c d e:Ϟ,BindsTo s i ⟨[a,b,c,d,e],[]⟩ (ps.zip ([a,b,c,d,e]++j))):∀us:Ϗ,us.length=5->BindsTo s i ⟨us,[]⟩ (ps.zip (us++j)):=eE (P:=λus=>BindsTo s i ⟨us,[]⟩ (ps.zip (us++j))) h
def txt{P:Params}{w:Ϣ}{base:Ϥ}{mg:ϋ}(X:(hK P).In h)(G:h.Ns mainGlobals mg):Tx j w base (hK P) mg ⟨Vm (hK P) tb,Vn (hK P) tb,TK (hK P) 675 U3,TN (hK P) 675 U3,TK (hK P) 807 U4,TN (hK P) 807 U4,675,545,807,773,31,120,117,163,187,452,704,705,HK (hK P) 545 "__init__" "Machine.__init__" (FN (top 88) 0) (.ref 538),HK (hK P) 773 "__init__" "Desk.__init__" (FN (top 106) 0) .none,HK (hK P) 117 "__init__" "NoBreak.__init__" (FN (top 7) 0) .none,421,617,619,733,805,811,813,855,857,934,1156⟩:=by
 have c:(hK P).lookup 538=some (qT [.none]):=by w_up
 exact {
  f:=rT X G (by w_up) (by unfold fG;kernel_rfl) hB
  b:=rV X G (by w_up)
  Â:=fK (by w_up) (by unfold Y0;kernel_rfl) zk
  ĕ:=fN (by w_up)
  Machine:=rY X G (by w_up) (by w_up) (λ_ _ _ _ _ _ s e d i=>zp (λ_ _ _ _ _=>BindsTo.of_defaults U (d _ _ c) U U U) e (eF i)) (λ_ _ _ _ _ _ s e d i=>zo (λ_ _ _ _=>BindsTo.of_defaults U (d _ _ c) U U U) e (eF i))
  č:=fK (by w_up) (by unfold Y0;kernel_rfl) zm
  ũ:=fN (by w_up)
  Û:=sd X G (by w_up) (by w_up) (ba3 λ_ _ _ _ _ _ _ _ _=>U)
  Č:=rX X G (by w_up)
  È:=rW X G (by w_up) (by w_up) (ba2 λ_ _ _ _ _ _ _ _=>U)
  Ő:=fR X G (by w_up)
  ŵ:=fR X G (by w_up)
  bi:=⟨by w_up,by w_up,by w_up⟩
  m:=Ax (by w_up)
  Ħ:=Cn X G (by w_up)
  ğ:=λH=>.inr ⟨_,_,_,(by kernel_rfl:(hK P).lookup 452=some (qT [.int 2 807,.int 4 808,.int 8 809])),U,U,(by decide:3<=sizeLine),.cons ⟨_,U⟩ (.cons ⟨_,U⟩ (.cons ⟨_,U⟩ (.nil)))⟩
  Ĉ:=Cn X G (by w_up)
  ÿ:=λH=>.inr ⟨_,_,_,(by kernel_rfl:(hK P).lookup 704=some (qT [.str "lines" 1158,.str "gaps" 1159,.str "keys" 1160,.str "need" 1161])),U,U,(by decide:4<=sizeLine),.cons ⟨_,U⟩ (.cons ⟨_,U⟩ (.cons ⟨_,U⟩ (.cons ⟨_,U⟩ (.nil))))⟩
  Ċ:=Cn X G (by w_up)
  Ā:=λH=>.inr ⟨_,_,_,(by kernel_rfl:(hK P).lookup 705=some (qT [.str "start" 1163,.str "run" 1164,.str "slugs" 1165,.str "state" 1166,.str "waited" 1167])),U,U,(by decide:5<=sizeLine),.cons ⟨_,U⟩ (.cons ⟨_,U⟩ (.cons ⟨_,U⟩ (.cons ⟨_,U⟩ (.cons ⟨_,U⟩ (.nil)))))⟩
  zN:=Cn X G (by w_up)
  Ŏ:=Cn X G (by w_up)
  ü:=Cn X G (by w_up)
  Ü:=Cn X G (by w_up)
  û:=Cn X G (by w_up)
  ò:=Cn X G (by w_up)
  ę:=Cn X G (by w_up)
  Į:=Cn X G (by w_up)
  ê:=Cn X G (by w_up)
  Ū:=Cn X G (by w_up)
  ā:=Cn X G (by w_up)
 }
end
end
end Lw
open PySem PySem.W PyProof.Rows
set_option maxRecDepth 100000 in
set_option maxHeartbeats 0 in
theorem PySem.Challenge.cw_linecaster_k75_whole_desk_holds : PySem.Challenge.rw_linecaster_k75_whole_desk.Holds := by
 w_on
 refine Hd.holds (st:=Lw.top 126) (x:="law") (l:=PySem.Challenge.rw_linecaster_k75_whole_desk) (q:=Lw.á) (K:=Lw.hK) (as:=Lw.has) (e:=Lw.hKe) (N:=Lw.hD.N) Lw.hsaid Lw.hleft (by kernel_rfl) (by kernel_rfl) (by kernel_rfl) (by kernel_rfl) (by decide +kernel) ⟨U,U,U,U,U,by decide +kernel⟩ ?hw ?hc
 (case hw=>w_witness2)
 refine L2.O7 (l:=PySem.Challenge.rw_linecaster_k75_whole_desk) (n:=63) (k:=Lw.lawLevel) (x:="_law_script") (CX:=L2.IW) (sp:=Lw.sp_law) U (by decide) U ⟨U,by decide,by decide⟩ (λw h Y=>PySem.W.kIn_of Y) ?F ?S ?C
 case F =>
  intro w mg fa h KX G hmg;obtain⟨a,T⟩:∃a,∀P v b,Lw.Tx P v b (Lw.hK w.params) mg a:=⟨_,λ_ _ _=>Lw.txt KX G⟩
  have T2:=T Lw.á w h;have e0:=hmg.symm.trans T2.law.mg;cases e0;exact⟨_,λs u=>.of_eq (T2.law.ba [u] U),λbase kb nb=>Lw.ok_law (T _ _ _)⟩
 case S=>exact λK H a ns hl hO hS=>⟨a,ns,U,hS,hl,λ_=>U⟩
 case C=>exact λ_ _ _ _ z=>z

