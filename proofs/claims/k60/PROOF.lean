import PyProof.Rows.All
import Wide.All
import OpenK.AllK
import Wide.FinOn
import Lean
import PyProof.EqAt
import PyProof.EqKinds
import PyProof.TupleCall
import PyProof.P3Eq
import PyProof.NeData
import PyProof.Rows.SortShellK
import PySem.Challenge.RW_linecaster_k60_rows_refused
set_option Elab.async false
set_option linter.all false
set_option maxRecDepth 100000
noncomputable section
section
variable {C a b c d e f g h:Prop}{α β γ δ ε:Type}
def BW(F:a->b->C)(H:a/\b):C:=F H.1 H.2
def FN(F:a->b->c->C):a/\b/\c->C:=BW λx=>BW (F x)
def DP(F:a->b->c->d->C):a/\b/\c/\d->C:=BW λx=>FN (F x)
def FL(F:a->b->c->d->e->C):a/\b/\c/\d/\e->C:=BW λx=>DP (F x)
def GH(F:a->b->c->d->e->f->C):a/\b/\c/\d/\e/\f->C:=BW λx=>FL (F x)
def LF(F:a->b->c->d->e->f->g->C):a/\b/\c/\d/\e/\f/\g->C:=BW λx=>GH (F x)
def Kf(F:a->b->c->d->e->f->g->h->C):a/\b/\c/\d/\e/\f/\g/\h->C:=BW λx=>LF (F x)
def DQ{P:α->Prop}(H:∃x0,P x0)(F:∀x0,P x0->C):C:=H.elim F
def On{P:α->β->Prop}(H:∃x0 x1,P x0 x1)(F:∀x0 x1,P x0 x1->C):C:=H.elim λx H=>DQ H (F x)
def PM{P:α->β->γ->Prop}(H:∃x0 x1 G,P x0 x1 G)(F:∀x0 x1 G,P x0 x1 G->C):C:=H.elim λx H=>On H (F x)
def Uh{P:α->β->γ->δ->Prop}(H:∃x0 x1 I G,P x0 x1 I G)(F:∀x0 x1 I G,P x0 x1 I G->C):C:=H.elim λx H=>PM H (F x)
def Sm{P:α->β->γ->δ->ε->Prop}(H:∃x0 x1 J I G,P x0 x1 J I G)(F:∀x0 x1 J I G,P x0 x1 J I G->C):C:=H.elim λx H=>Uh H (F x)
def ES{P:α->Prop}(F:∀x0,P x0->C)(H:∃x0,P x0):C:=DQ H F
def FO{P:α->β->Prop}(F:∀x0 x1,P x0 x1->C)(H:∃x0 x1,P x0 x1):C:=On H F
def FT{P:α->β->γ->Prop}(F:∀x0 x1 G,P x0 x1 G->C)(H:∃x0 x1 G,P x0 x1 G):C:=PM H F
def GJ{P:α->β->γ->δ->Prop}(F:∀x0 x1 I G,P x0 x1 I G->C)(H:∃x0 x1 I G,P x0 x1 I G):C:=Uh H F
def EM{P:α->β->γ->δ->ε->Prop}(F:∀x0 x1 J I G,P x0 x1 J I G->C)(H:∃x0 x1 J I G,P x0 x1 J I G):C:=Sm H F
def AX{P:α->Prop}(x0:α)(H:P x0):∃x0,P x0:=⟨x0,H⟩
def BK{P:α->β->Prop}(x0:α)(x1:β)(H:P x0 x1):∃x0 x1,P x0 x1:=⟨x0,x1,H⟩
def EB{P:α->β->γ->Prop}(x0:α)(x1:β)(F:γ)(H:P x0 x1 F):∃x0 x1 F,P x0 x1 F:=⟨x0,x1,F,H⟩
def CA{P:α->β->γ->δ->Prop}(x0:α)(x1:β)(G:γ)(F:δ)(H:P x0 x1 G F):∃x0 x1 G F,P x0 x1 G F:=⟨x0,x1,G,F,H⟩
def DC{P:α->β->γ->δ->ε->Prop}(x0:α)(x1:β)(I:γ)(G:δ)(F:ε)(H:P x0 x1 I G F):∃x0 x1 I G F,P x0 x1 I G F:=⟨x0,x1,I,G,F,H⟩
def CC(x0:a)(x1:b):a/\b:=⟨x0,x1⟩
def BQ(x0:a)(x1:b)(F:c):a/\b/\c:=⟨x0,CC x1 F⟩
def BP(x0:a)(x1:b)(F:c)(G:d):a/\b/\c/\d:=⟨x0,BQ x1 F G⟩
def CQ(x0:a)(x1:b)(I:c)(G:d)(F:e):a/\b/\c/\d/\e:=⟨x0,BP x1 I G F⟩
def GS(x0:a)(x1:b)(I:c)(G:d)(F:e)(J:f):a/\b/\c/\d/\e/\f:=⟨x0,CQ x1 I G F J⟩
def DT(x0:a)(x1:b)(J:c)(I:d)(F:e)(W:f)(G:g):a/\b/\c/\d/\e/\f/\g:=⟨x0,GS x1 J I F W G⟩
end
def NT{α:Sort _}{x:α}{q:Prop}:x=x\/q:=Or.inl rfl
def eB{α:Sort _}:q\/x=x:=Or.inr rfl
def A6:=@PySem.wpAny_bind
def A7:=@PySem.Heap.get?_push_of_some
def A8:=@List.length_map
def A9:=@List.getElem?_eq_getElem
def Aa:=@Nat.le_refl
def Ab:=@PySem.wpAny_pure
def Ac:=@decide_eq_true
def Ae:=@Bool.and_eq_true
def Af:=@List.mem_of_getElem?
def Ag:=@of_decide_eq_true
def Ah:=@List.mem_cons_of_mem
def Ai:=@List.map_append
def Aj:=@List.take_of_length_le
def Ak:=@decide_eq_false
def Al:=@List.mem_cons_self
def Am:=@PySem.Heap.lt_size
def An:=@PySem.F.plainAttrs_list
def Ao:=@List.take_add_one
def Ap:=@List.getElem?_map
def Aq:=@PySem.F.slot_list_append
def Ar:=@PySem.F.type_list_append
def As:=@if_neg
def Au:=@if_pos
def Av:=@Option.some.inj
def Aw:=@List.mem_cons
def Ax:=@PySem.Heap.get?_push_size
def Ay:=@Bool.false_ne_true
def Az:=@List.mem_singleton
def B0:=@Array.length_toList
def B1:=@List.size_toArray
def B2:=@PySem.Heap.get?_update_other
def B4:=@PySem.Paired.length
def B5:=@List.length_append
def B6:=@decide_eq_true_iff
def B8:=@Nat.ne_of_lt
def B9:=@List.getElem?_eq_some_iff
def Ba:=@List.getD_eq_getElem?_getD
def Bb:=@List.length_take
def Bc:=@Nat.lt_of_lt_of_le
def Be:=@List.append_nil
def Bf:=@List.all_eq_true
def Bg:=@List.mem_append_right
def Bh:=@Nat.le_of_ble_eq_true
def Bi:=@Option.map_eq_some_iff
def Bj:=@Nat.zero_le
def Bk:=@Nat.le_trans
def Bl:=@List.map_cons
def Bm:=@PySem.PassesOwn.never
def Bn:=@PySem.Heap.get?_update_self
def Bo:=@PySem.wpAny_holding
def Bp:=@beq_iff_eq
def Bq:=@PyProof.Rows.callWith_type1
def Bs:=@PySem.wpAny_Call_Name_kw
def Bt:=@List.not_mem_nil
def Bu:=@PySem.F.plainAttrs_str
def Bv:=@PySem.wpAny_mono
def Bw:=@List.length_cons
def Bx:=@List.nodup_cons
def By:=@PySem.Paired.snoc
def Bz:=@PySem.wpAny_field
def C0:=@PySem.Heap.size_push
def C1:=@Int.eq_ofNat_of_zero_le
def C2:=@PySem.wpAny_truthy_bool
def C3:=@PySem.wpAny_newObj_type
def C4:=@List.append_assoc
def C5:=@PySem.wpAny_loadPart_at
def C6:=@congrArg
def C7:=@List.mem_range
def C8:=@List.findIdx?_eq_some_iff_getElem
def C9:=@PySem.W.mg_of
def Ca:=@List.getElem_of_mem
def Cb:=@PySem.StrLaws.glued_eq_join
def Cc:=@Ne.symm
def Cd:=@List.mem_append_left
def Ce:=@Nat.lt_irrefl
def Cg:=@List.cons.inj
def Ci:=@List.length_drop
def Cj:=@List.replicate_succ
def Ck:=@List.length_replicate
def Cm:=@PySem.wpAny_standAt
def Cn:=@List.mem_append
def Co:=@Nat.ne_of_gt
def Cq:=@List.mem_map
def Cr:=@PySem.W.callWith_K
def Ct:=@Bool.and_eq_true_iff
def Cu:=@PySem.wpAny_nextOf_list_item
def Cv:=@beq_eq_false_iff_ne
def Cw:=@PySem.mem_of_lookup
def Cy:=@Bool.eq_iff_iff
def Cz:=@List.find?_cons
def D0:=@PySem.F.slot_str_join
def D3:=@PySem.F.type_str_join
def D5:=@Bool.false_eq_true
def D7:=@PySem.wpAny_setField_rec
def D9:=@decide_eq_decide
def Dc:=@PySem.wpAny_seqItems
def Dd:=@List.length_eq_zero_iff
def De:=@PySem.codeAny_mono
def Df:=@List.any_cons
def Dh:=@List.any_eq_true
def Di:=@List.mem_filterMap
def Dj:=@PySem.W.Looks.here
def Dl:=@PySem.wpAny_call
def Dn:=@Array.getElem?_toList
def Do:=@PySem.Obj.isFreed_of_fields
def Dp:=@PySem.wpAny_passesOwn
def Dq:=@PySem.wpAny_updateSeq
def Ds:=@Nat.not_lt_zero
def Dt:=@Nat.le_succ
def Du:=@PySem.Around.under_plainId
def Dv:=@PySem.codeAny_call_builtin
def Dw:=@Option.isSome_iff_exists
def Dx:=@PyProof.Rows.slot_tuple_getitem
def Dy:=@PySem.wpAny_isSubtype_exc
def E1:=@PySem.wpAny_callSpecial?_slot
def E2:=@PySem.F.plain_min_loop
def E3:=@List.isEmpty_iff
def E4:=@Int.mul_le_mul_of_nonneg_left
def E5:=@PySem.F.slot_str_split
def E6:=@PySem.F.type_str_split
def E7:=@List.length_set
def E8:=@List.foldl_cons
def E9:=@PySem.wpAny_JoinedStr
def Ea:=@PySem.W.methodCall_KW
def Eb:=@PySem.wpAny_nextOf_list_end
def Ec:=@PySem.wpAny_pyIter_list
def Ed:=@List.flatten_cons
def Ee:=@Bool.not_eq_true'
def Ef:=@List.getElem?_set_ne
def Eg:=@PySem.sizeLine_eq
def Eh:=@PySem.call_meets
def Ei:=@List.forIn_nil
def Ej:=@List.getElem?_append_right
def Ek:=@PySem.wpAny_letGo
def El:=@Array.getElem?_eq_some_iff
def Em:=@PySem.F.excBase_ValueError
def En:=@List.lookup_cons
def Eo:=@List.cons_ne_nil
def Ep:=@List.drop_eq_getElem_cons
def Er:=@List.mem_or_eq_of_mem_set
def Es:=@PySem.F.plain_extend_loop
def Et:=@PySem.plainId_quiet
def Eu:=@List.sum_cons
def Ew:=@or_false
def Ex:=@List.eq_of_mem_replicate
def Ey:=@Nat.add_assoc
def Ez:=@PySem.wpAny_execs_nil
def F0:=@List.forIn_cons
def F1:=@PySem.codeAny_builtin
def F2:=@Nat.min_eq_left
def F3:=@PySem.Calls.spliced_cons
def F4:=@Nat.lt_of_le_of_lt
def F5:=@PySem.tupleKind_room_in1
def F6:=@PySem.Code.quiet_builtin
def F7:=@decide_eq_false_iff_not
def F8:=@List.getElem?_set_self
def F9:=@PySem.wpAny_pyIter_rangeiter
def Fb:=@Nat.le_of_eq
def Fc:=@PySem.Calls.callWith_builtin
def Fd:=@List.getElem?_set
def Fe:=@Nat.lt_succ_of_lt
def Ff:=@Nat.testBit_eq_decide_div_mod_eq
def Fg:=@Option.isSome_map
def Fh:=@List.nodup_nil
def Fi:=@PySem.wpAny_tryCatch
def Fj:=@List.drop_of_length_le
def Fk:=@Int.mul_nonneg
def Fl:=@PySem.Str.length_append
def Fm:=@PySem.Heap.size_after_update
def Fn:=@PySem.plainObj_wpAny_Assign_Attribute
def Fo:=@PySem.F.slot_dict_get
def Fp:=@List.filterMap_append
def Fq:=@PySem.ofString_length
def Fs:=@Nat.lt_succ_self
def Ft:=@PySem.wpAny_call_entry
def Fu:=@PySem.typeIs_str
def Fv:=@List.getElem_mem
def Fw:=@List.all_cons
def Fy:=@PySem.wpAny_onRaise
def Fz:=@PySem.wpAny_attempt
def G0:=@if_false
def G1:=@PySem.Calls.evalArgs_plain
def G2:=@PySem.wpAny_updateSeq_pair
def G3:=@List.mem_filter
def G4:=@PySem.pushCells_keeps
def G5:=@PySem.wpAny_specialOf
def G6:=@PySem.Obj.dropName_eq
def G7:=@PySem.F.slot_zip_next
def G8:=@List.filterMap_cons
def G9:=@PySem.W.plainGet_of
def Ga:=@List.length_pos_iff
def Gb:=@Nat.lt_trans
def Gc:=@Nat.sub_self
def Ge:=@List.map_set
def Gf:=@PySem.Calls.Name_function_global
def Gg:=@PyProof.Rows.assignInOrder_cons
def Gh:=@PySem.wpAny_rule
def Gi:=@PySem.wpAny_pyIter_range
def Gj:=@PySem.wpAny_loadPart
def Gk:=@Bool.and_false
def Gm:=@Option.isSome_some
def Gn:=@PySem.F.args_str_split_2
def Gp:=@PySem.wpAny_setField
def Gq:=@PySem.Obj.data_mapFields
def Gr:=@List.contains_cons
def Gs:=@PySem.wpAny_FormattedValue_plain
def Gu:=@PySem.int_text_length_le
def Gv:=@PySem.F.slot_range_iterator_next
def Gw:=@PySem.StrLaws.join_split
def Gx:=@List.findIdx?_eq_none_iff
def Gy:=@PySem.codeAny_call_builtin_code
def Gz:=@PySem.wpAny_check_type_call_sub
def Hu:=@List.getLast?_eq_some_iff
def Hv:=@PySem.wpAny_assign_Name
def Hw:=@PySem.Calls.spliced_nil
def Hx:=@Int.le_refl
def Hy:=@PySem.F.entry_str_split
def Hz:=@Bool.eq_false_iff
def Ig:=@List.nodup_append
def Ii:=@PySem.wpAny_comprehension_free
def Ik:=@List.length_filterMap_le
def Im:=@Bool.and_true
def Io:=@PySem.F.slot_list_extend
def Iq:=@PySem.F.type_list_extend
def Iu:=@PySem.F.args_dict_get_3
def Iv:=@PySem.wpAny_pyIter_zip
def Iw:=@PySem.F.slot_str_split
def Iy:=@PySem.codeAny_call_builtin_at
def Iz:=@Option.bind_some
def J0:=@PySem.StrLaws.partsBetween_eq
def J4:=@Nat.le_add_right
def J5:=@Nat.le_of_lt
def J6:=@PyProof.noPylong_small
def J7:=@PySem.W.cellsFrom_some
def J8:=@List.map_nil
def J9:=@if_true
def Ja:=@PySem.typeIs_int
def Jc:=@List.all_map
def Jd:=@PySem.F.entry_dict_get
def Je:=@Bool.or_true
def Jf:=@Nat.add_zero
def Jg:=@Nat.ne_of_beq_eq_false
def Jh:=@List.of_mem_zip
def Ji:=@Option.map_some
def Jj:=@Int.natCast_add
def Jk:=@List.sum_append
def Jl:=@List.length_zip
def Jm:=@List.length_filter_le
def Jn:=@List.getElem?_eq_none
def Jo:=@PySem.F.slot_list_pop
def Jp:=@PySem.F.type_list_pop
def Jq:=@PySem.wpAny_bindName
def Jr:=@List.drop_eq_nil_iff
def Js:=@Nat.log2_lt
def Jt:=@Bool.or_eq_false_iff
def Ju:=@List.drop_drop
def Jv:=@List.take_zero
def Jw:=@List.getLast?_concat
def Jx:=@PySem.W.callWith_K0
def Jy:=@Array.toList_append
def Jz:=@List.takeWhile_cons
def K0:=@PySem.Value.ref.inj
def K1:=@Array.find?_toList
def K2:=@Array.append_empty
def K3:=@Array.forIn_toList
def K4:=@List.count_eq_zero
def K5:=@PySem.Within.cons
def K6:=@Int.toNat_natCast
def K7:=@decide_eq_true_eq
def K8:=@List.length_range
def K9:=@List.count_append
def Ka:=@Array.size_append
def Kb:=@Nat.sub_zero
def Kc:=@Int.zero_add
def Ke:=@Prod.mk.inj
open PySem.W (Frag)
namespace L2
open PySem PySem.Spec PyProof.Rows
abbrev DD:=Sum Int Str
def PN:DD->Value->Bool
 | .inl k,v=>Value.isInt k v
 | .inr x,v=>Value.isStrOf x v
def Ui(w:World):DD->Int
 | .inl k=>hashInt k
 | .inr x=>hashStr w x
theorem Nb:∀{k:DD}{v:Value},PN k v=true->(∃i t,k=Sum.inl i/\v=Value.int i t)\/(∃x t,k=Sum.inr x/\v=Value.str x t)
 | .inl i,v,h=>by
   obtain⟨t,e⟩:=Value.isInt_shape (k:=i) (v:=v) h;exact .inl ⟨i,t,rfl,e⟩
 | .inr x,v,h=>by
   obtain⟨t,e⟩:=Value.isStrOf_shape (x:=x) (v:=v) h;exact .inr ⟨x,t,rfl,e⟩
def eC(i:Int)(t:Tok):PN (.inl i) (.int i t)=true:=by simp[PN,Value.isInt]
def eD(x:Str)(t:Tok):PN (.inr x) (.str x t)=true:=by simp[PN,Value.isStrOf]
def eE(a b:Int):decide ((Sum.inl a:DD)=Sum.inl b)=(a==b):=by
 lia
def eF(a b:Str):decide ((Sum.inr a:DD)=Sum.inr b)=decide (a=b):=by
 lia
def eG(a:Int)(b:Str):decide ((Sum.inl a:DD)=Sum.inr b)=false:=Ak (λq=>nomatch q)
def eJ(a:Str)(b:Int):decide ((Sum.inr a:DD)=Sum.inl b)=false:=Ak (λq=>nomatch q)
def Kg(prog:Program)(w:World):PySem.KeyKind prog w DD where
 is:=PN
 hash:=Ui w
 inj:=λv a b I hb=>by
  rcases Nb I with⟨i,t,rfl,rfl⟩|⟨x,t,rfl,rfl⟩
  .rcases Nb hb with⟨j,u,rfl,e⟩|⟨y,u,rfl,e⟩
   .injection e with e1 _;rw[e1]
   .exact nomatch e
  .rcases Nb hb with⟨j,u,rfl,e⟩|⟨y,u,rfl,e⟩
   .exact nomatch e
   .injection e with e1 _;rw[e1]
 byValue:=λk v h=>by
  rcases Nb h with⟨i,t,rfl,rfl⟩|⟨x,t,rfl,rfl⟩<;>rfl
 pyHash:=λF h=>by
  rcases Nb F with⟨i,t,rfl,rfl⟩|⟨x,t,rfl,rfl⟩
  .exact wpAny_pyHash_int h
  .exact wpAny_pyHash_str h
 eqBool:=λG F h=>by
  rcases Nb G with⟨i,t,rfl,rfl⟩|⟨x,t,rfl,rfl⟩
  .rcases Nb F with⟨j,u,rfl,rfl⟩|⟨y,u,rfl,rfl⟩
   .rw[eE]at h;exact wpAny_eqBool_int h
   .rw[eG]at h;exact SeqAt.EqAt.int_str i t y u _ _ _ _ h
  .rcases Nb F with⟨j,u,rfl,rfl⟩|⟨y,u,rfl,rfl⟩
   .rw[eJ]at h;exact SeqAt.EqAt.str_int x t j u _ _ _ _ h
   .rw[eF]at h;exact wpAny_eqBool_str h
 «strs»:=λk x t v h=>by
  rcases Nb h with⟨i,u,rfl,e⟩|⟨y,u,rfl,e⟩
  .exact nomatch e
  .injection e with e1 _
   subst e1;cases v<;>rfl
def eK(prog:Program)(w:World)(i:Int)(t:Tok):(Kg prog w).is (.inl i) (.int i t)=true:=eC i t
def eL(prog:Program)(w:World)(x:Str)(t:Tok):(Kg prog w).is (.inr x) (.str x t)=true:=eD x t
end L2
namespace L2
open PySem PySem.Spec PyProof.Rows
inductive V where
 | non|bl (b:Bool)|int (i:Int)|str (x:Str)|byt (b:Array UInt8)|flt (b:UInt64)|ref (a:Addr)|ty (n:String)
 deriving DecidableEq
def AR:V->Value->Prop
 | .non,u=>u=Value.none
 | .bl b,u=>u=Value.bool b
 | .int i,u=>∃t,u=Value.int i t
 | .str x,u=>∃t,u=Value.str x t
 | .byt b,u=>∃t,u=Value.bytes b t
 | .flt b,u=>∃t,u=Value.float b t
 | .ref a,u=>u=Value.ref a
 | .ty n,u=>u=Value.type n
abbrev AM:List V->List Value->Prop:=Paired AR
def AM.length{xs:List V}{us:List Value}(r:AM xs us):xs.length=us.length:=B4 r
theorem AM.get:∀{xs:List V}{us:List Value}{i:Nat}{x:V},AM xs us->xs[i]?=some x->∃u,us[i]?=some u/\AR x u
 | _,_,_,_,.nil,e=>by simp at e
 | _,_,0,_,.cons r _,e=>by simp at e;subst e;exact⟨_,rfl,r⟩
 | _,_,i+1,x,.cons _ t,e=>by
   obtain⟨u,h1,h2⟩:=AM.get (i:=i) (x:=x) t (by simpa using e);exact⟨u,by simpa using h1,h2⟩
theorem AM.set{x:V}{u:Value}(r:AR x u):∀{xs:List V}{us:List Value}(i:Nat),AM xs us->AM (xs.set i x) (us.set i u)
 | _,_,_,.nil=>.nil
 | _,_,0,.cons _ t=>.cons r t
 | _,_,i+1,.cons q t=>.cons q (AM.set r i t)
def AM.append(h:AM xs us)(s:AM ys ws):AM (xs++ys) (us++ws):=by
 induction h with
 | nil=>exact s
 | cons r _ ih=>exact .cons r ih
theorem AM.take:∀{xs:List V}{us:List Value}(n:Nat),AM xs us->AM (xs.take n) (us.take n)
 | _,_,0,_=>.nil
 | _,_,_+1,.nil=>.nil
 | _,_,n+1,.cons r t=>.cons r (AM.take n t)
theorem AM.drop:∀{xs:List V}{us:List Value}(n:Nat),AM xs us->AM (xs.drop n) (us.drop n)
 | _,_,0,r=>r
 | _,_,_+1,.nil=>.nil
 | _,_,n+1,.cons _ t=>AM.drop n t
def EC:Option V->Option Value->Prop
 | some v,some u=>AR v u
 | none,none=>True
 | _,_=>False
def KV{κ:Type}:List (κ×V)->List (κ×Value)->Prop:=Paired λ(p:κ×V) (q:κ×Value)=>p.1=q.1/\AR p.2 q.2
def kV:DD->V
 | .inl i=>.int i
 | .inr x=>.str x
inductive HO where
 | lst (xs:List V)
 | tup (xs:List V)
 | dK (kvs:List (DD×V))|dT (kvs:List (List DD×V))
 | set (S:Int->Bool) (n:Nat)
 | ins (C dx:Addr) (fs:List (Str×V))
 | own (x:Addr)
 | xd (fs:List (Str×V))
 | met (f x:Addr)
 | rng (lo hi:Int)
 | frz (o:Obj) (u:HO)
 | tbl (ps:Array Value)
 | ext (φ:Heap->Prop)
abbrev Hp:=Addr->Option HO
def upd(H:Hp)(a:Addr)(o:HO):Hp:=λb=>if b=a then some o else H b
theorem AA{H:Hp}{a:Addr}{o:HO}:upd H a o a=some o:=by unfold upd;rw[Au rfl]
theorem BE{H:Hp}{a b:Addr}{o:HO}(h:b≠a):upd H a o b=H b:=by unfold upd;rw[As h]
def Kh{H:Hp}{a b:Addr}{o u:HO}(h:H a=some o)(h':H b=some u)(d:o≠u):a≠b:=by
 lia
def FB{H:Hp}{a b:Addr}{o:HO}(h:H a=some o)(h':H b=none):a≠b:=by
 intro e;subst e;rw[h]at h';cases h'
section
variable (P:Program) (w:World)
def IV(H:Hp)(h:Heap)(a:Addr):HO->Prop
 | .lst xs=>xs.length<=sizeLine/\∃(its:List Value) (n:Nat),AM xs its/\h.get? a=some { cls:=.type "list",data:=.seq its.toArray n }
 | .tup xs=>xs.length<=sizeLine/\∃its:List Value,AM xs its/\IsTup h a its.toArray
 | .dK F=>F.length<=sizeLine/\(a==sysModules)=false/\∃vs,KV F vs/\h.DictOf (Kg P w) a vs
 | .dT F=>F.length<=sizeLine/\(a==sysModules)=false/\∃xs:List (List DD×Addr×Value),
    Paired (λ(p:List DD×V) (q:List DD×Addr×Value)=>p.1=q.1/\H q.2.1=some (.tup (p.1.map kV))/\AR p.2 q.2.2) F xs /\
    ∃o es I,h.get? a=some o/\o.ExactDict/\o.data=.dict es I/\es.toList=xs.map (entryOfKey (tupleKind (Kg P w)))/\(xs.map (·.1)).Nodup
 | .set S n=>h.SetOf (intKind P w) a S n
 | .ins C dx fs=>H dx=some (.own a)/\fs.length<=1000/\dx≠a/\h.get? a=some (PySem.W.instObj C dx) /\
    ∃mA,h.Ns1 dx mA/\(∀f,EC (fs.lookup f) (mA f))/\PySem.Within mA (fs.map (·.1))
 | .own _=>∃o,h.get? a=some o
 | .xd fs=>∃mA,h.Ns1 a mA/\∀f,EC (fs.lookup f) (mA f)
 | .rng lo hi=>∃t u v,h.get? a=some { cls:=.type "range",data:=.fields #[.int lo t,.int hi u,.int 1 v] }
 | .frz o u=>h.get? a=some o/\IV H h a u
 | .tbl ps=>h.get? a=some { cls:=.none,data:=.fields ps }
 | .met f x=>h.get? a=some (PySem.W.methodObj (.ref f) (.ref x))
 | .ext G=>G h/\(∃o,h.get? a=some o)/\∀h1 h2:Heap,G h1->(∀o,h1.get? a=some o->h2.get? a=some o)->G h2
def FP(H:Hp)(h:Heap):Prop:=∀a o,H a=some o->IV P w H h a o
end
section
variable {P:Program}{w:World}{H H':Hp}{h h':Heap}{a:Addr}{o:HO}
def IV.lt(x:IV P w H h a o):a<h.objs.size:=by
 cases o with
 | lst xs=>obtain⟨_,_,_,_,e⟩:=x;exact Am e
 | tup xs=>obtain⟨_,_,_,p⟩:=x;exact p.lt
 | dK F=>obtain⟨_,_,_,_,o,_,_,e,_⟩:=x;exact Am e
 | dT F=>obtain⟨_,_,_,_,o,_,_,e,_⟩:=x;exact Am e
 | set S n=>obtain⟨o,_,_,_,e,_⟩:=x;exact Am e
 | ins C dx fs=>obtain⟨_,_,_,e,_⟩:=x;exact Am e
 | own y=>obtain⟨_,e⟩:=x;exact Am e
 | xd fs=>obtain⟨_,⟨_,_,_,e,_⟩,_⟩:=x;exact Am e
 | rng lo hi=>obtain⟨_,_,_,e⟩:=x;exact Am e
 | frz ob u=>obtain⟨e,_⟩:=x;exact Am e
 | tbl ps=>exact Am (show h.get? a=some _ from x)
 | met f y=>exact Am (show h.get? a=some _ from x)
 | ext G=>obtain⟨_,⟨_,e⟩,_⟩:=x;exact Am e
def Paired.à{α β:Type}{F G:α->β->Prop}{l₁:List α}{I:List β}(h:Paired F l₁ I)(f:∀a b,F a b->G a b):Paired G l₁ I:=by
 induction h with
 | nil=>exact .nil
 | cons r _ ih=>exact .cons (f _ _ r) ih
def IV.ű(x:IV P w H h a o)(k:∀b u,(b=a\/H b=some (.own a))->h.get? b=some u->h'.get? b=some u)
 (ho:∀b,H b=some (.own a)->H' b=some (.own a)) (ht:∀b xs,H b=some (.tup xs)->H' b=some (.tup xs)):IV P w H' h' a o:=by
 induction o with
 | lst xs=>obtain⟨z,its,n,r,e⟩:=x;exact⟨z,its,n,r,k _ _ (.inl rfl) e⟩
 | tup xs=>obtain⟨z,its,r,ob,e,c⟩:=x;exact⟨z,its,r,ob,k _ _ (.inl rfl) e,c⟩
 | dK G=>obtain⟨z,y,vs,r,ob,es,F,e,c⟩:=x;exact⟨z,y,vs,r,ob,es,F,k _ _ (.inl rfl) e,c⟩
 | dT G =>
   obtain⟨z,y,xs,r,ob,es,F,e,c⟩:=x;exact⟨z,y,xs,Paired.à r λp q z=>⟨z.1,ht _ _ z.2.1,z.2.2⟩,ob,es,F,k _ _ (.inl rfl) e,c⟩
 | set S n=>obtain⟨ob,es,F,t,e,c⟩:=x;exact⟨ob,es,F,t,k _ _ (.inl rfl) e,c⟩
 | ins C dx fs =>
   obtain⟨d,z,ne,e,mA,⟨od,es,F,I,c⟩,r⟩:=x;exact⟨ho _ d,z,ne,k _ _ (.inl rfl) e,mA,⟨od,es,F,k _ _ (.inr d) I,c⟩,r⟩
 | own y=>obtain⟨ob,e⟩:=x;exact⟨ob,k _ _ (.inl rfl) e⟩
 | xd fs=>obtain⟨mA,⟨od,es,F,e,c⟩,r⟩:=x;exact⟨mA,⟨od,es,F,k _ _ (.inl rfl) e,c⟩,r⟩
 | rng lo hi=>obtain⟨t,u,v,e⟩:=x;exact⟨t,u,v,k _ _ (.inl rfl) e⟩
 | frz ob u ih=>obtain⟨e,q⟩:=x;exact⟨k _ _ (.inl rfl) e,ih q⟩
 | tbl ps =>
   have e:h.get? a=some { cls:=.none,data:=.fields ps }:=x;show h'.get? a=some { cls:=.none,data:=.fields ps };exact k a _ (.inl rfl) e
 | met f y =>
   have e:=x;show h'.get? a=some (PySem.W.methodObj (.ref f) (.ref y));exact k a _ (.inl rfl) e
 | ext J=>obtain⟨p,⟨o,e⟩,st⟩:=x;exact⟨st _ _ p λo q=>k _ _ (.inl rfl) q,⟨o,k _ _ (.inl rfl) e⟩,st⟩
def FP.lt(x:FP P w H h)(e:H a=some o):a<h.objs.size:=(x a o e).lt
def FP.fresh(x:FP P w H h)(e:h.objs.size<=a):H a=none:=by
 cases q:H a with
 | none=>rfl
 | some u=>exact absurd (Bc (x.lt q) e) (Ce _)
def FP.kept(x:FP P w H h)(k:∀b u,h.get? b=some u->h'.get? b=some u):FP P w H h':=λa o e =>
 (x a o e).ű (λb u _ q=>k b u q) (λ_ q=>q) λ_ _ q=>q
def FP.laid(x:FP P w H h)(k:∀b u,h.get? b=some u->h'.get? b=some u)(F:h.objs.size<=a)(new:IV P w (upd H a o) h' a o):FP P w (upd H a o) h':=λb u e=>by
 have hn:=x.fresh F;by_cases hb:b=a
 .subst hb;rw[AA]at e;cases e;exact new
 .rw[BE hb]at e
  exact(x b u e).ű (λc v _ q=>k c v q) (λc q=>by rw[BE (FB q hn)];exact q) λc xs q=>by rw[BE (FB q hn)];exact q
end
def Rd(H:Hp)(a:Addr)(u:HO):Prop:=H a=some u\/∃o,H a=some (.frz o u)
def Rd.ok{P:Program}{w:World}{H:Hp}{h:Heap}{a:Addr}{u:HO}(r:Rd H a u)(x:FP P w H h):IV P w H h a u:=by
 rcases r with r|⟨o,r⟩
 .exact x a u r
 .obtain⟨_,q⟩:=x a _ r;exact q
def QU:Option HO->Prop
 | some (.lst _)=>True
 | some (.dK _)=>True
 | some (.dT _)=>True
 | some (.set _ _)=>True
 | some (.ins _ _ _)=>True
 | some (.ext _)=>True
 | _=>False
section
variable {P:Program}{w:World}{H:Hp}{h h':Heap}{x e:Addr}{o':HO}
def FP.write(ok:FP P w H h)(J:QU (H x))(Z:e=x\/H e=some (.own x))(k:∀b u,b≠e->h.get? b=some u->h'.get? b=some u)(Y:∃u,h'.get? e=some u)
 (new:IV P w (upd H x o') h' x o'):FP P w (upd H x o') h':=λb u q=>by
 have G:∀c y,H c=some (.own y)->c≠x:=λc y r z=>by subst z;rw[r]at J;exact J
 have I:∀c xs,H c=some (.tup xs)->c≠x:=λc xs r z=>by subst z;rw[r]at J;exact J
 by_cases hb:b=x
 .subst hb;rw[AA]at q;cases q;exact new
 .rw[BE hb]at q
  by_cases F:b=e
  .have q':H b=some (.own x):=by
    rcases Z with z|z
    .exact absurd (F.trans z) hb
    .rw[F];exact z
   rw[q]at q';cases q'
   obtain⟨v,hv⟩:=Y;exact⟨v,by rw[F];exact hv⟩
  .refine(ok b u q).ű (λc v W r=>k c v ?_ r) (λc r=>by rw[BE (G c b r)];exact r) λc xs r=>by rw[BE (I c xs r)];exact r
   rcases W with rfl|W
   .exact F
   .rintro rfl;rcases Z with z|z
    .exact G c b W z
    .rw[W]at z;cases z;exact hb rfl
end
structure Un(fs ex:List Addr)(H H':Hp)(h h':Heap):Prop where
 keep:∀b o,h.get? b=some o->H b=none->b∉fs->b∉ex->h'.get? b=some o
 slot:∀b o,h.get? b=some o->H b=none->b∈fs->b∉ex->∃sl,h'.get? b=some { o with slots:=sl }
 free:∀b o,h.get? b=some o->H b=none->b∉ex->H' b=none
 there:∀b o,h.get? b=some o->b∉ex->∃o',h'.get? b=some o'
 ţ:∀b xs,H b=some (.tup xs)->H' b=some (.tup xs)
 ş:∀b o u,H b=some (.frz o u)->H' b=some (.frz o u)
 ų:∀b ps,H b=some (.tbl ps)->∃more,H' b=some (.tbl (ps++more))
section
variable {fs fs' ex ex':List Addr}{H H1 H2:Hp}{h h1 h2 h':Heap}{a x e:Addr}{o:HO}
def Un.any(u:Un fs ex H H1 h h1)(q:h.get? b=some ob)(n:H b=none)(F:b∉ex):∃G,h1.get? b=some { ob with slots:=G }:=by
 by_cases hb:b∈fs
 .exact u.slot b ob q n hb F
 .exact⟨ob.slots,u.keep b ob q n hb F⟩
def Un.kept(k:∀b u,h.get? b=some u->h'.get? b=some u):Un fs ex H H h h' :=
 ⟨λb ob q _ _ _=>k b ob q,λb ob q _ _ _=>⟨ob.slots,k b ob q⟩,λ_ _ _ n _=>n,λb ob q _=>⟨ob,k b ob q⟩,λ_ _ q=>q,λ_ _ _ q=>q,λ_ ps q=>⟨#[],by rw[q];simp⟩⟩
def Un.refl:Un fs ex H H h h:=Un.kept λ_ _ q=>q
def Un.laid(k:∀b u,h.get? b=some u->h'.get? b=some u)(F:h.objs.size<=a)(hn:H a=none):Un fs ex H (upd H a o) h h' where
 keep:=λb u q _ _ _=>k b u q
 slot:=λb u q _ _ _=>⟨u.slots,k b u q⟩
 free:=λb u q n _=>by rw[BE (B8 (Bc (Am q) F))];exact n
 there:=λb u q _=>⟨u,k b u q⟩
 ţ:=λb xs q=>by rw[BE (FB q hn)];exact q
 ş:=λb u xs q=>by rw[BE (FB q hn)];exact q
 ų:=λb ps q=>⟨#[],by rw[BE (FB q hn),q];simp⟩
def Un.write(F:QU (H x))(J:e=x\/H e=some (.own x))(k:∀b u,b≠e->h.get? b=some u->h'.get? b=some u)(G:∃u,h'.get? e=some u):Un fs ex H (upd H x o) h h':=by
 have I:∀b,H b=none->b≠x:=λb n z=>by subst z;rw[n]at F;exact F
 have hb:∀b,H b=none->b≠e:=λb n z=>by
  lia
 have hm:∀b u,H b=some u->¬QU (some u)->b≠x:=λb u q nm z=>by subst z;rw[q]at F;exact nm F
 refine⟨λb u q n _ _=>k b u (hb b n) q,λb u q n _ _=>⟨u.slots,k b u (hb b n) q⟩,λb u q n _=>by rw[BE (I b n)];exact n,λb u q _=>?_,
  λb xs q=>by rw[BE (hm b _ q λz=>z)];exact q,λb u xs q=>by rw[BE (hm b _ q λz=>z)];exact q,λb ps q=>⟨#[],by rw[BE (hm b _ q λz=>z),q];simp⟩⟩
 grind
end
def Sn(h:Heap)(H:Hp):List Addr:=(List.range h.objs.size).filter λa=>(H a).isSome
def JM(h:Heap)(H:Hp):Heap:=PySem.W.hideAll h (Sn h H)
def eM(h:Heap)(H:Hp):(JM h H).objs.size=h.objs.size:=PySem.W.hideAll_size _ _
def eN{h:Heap}{H:Hp}{b:Addr}{o:Obj}(e:h.get? b=some o)(n:H b=none):(JM h H).get? b=some o :=
 PySem.W.hideAll_get _ e λhm=>by
  have q:(H b).isSome=true:=(G3.mp hm).2;rw[n]at q;simp at q
def eO{h:Heap}{H:Hp}{b:Addr}{o:Obj}(e:(JM h H).get? b=some o):h.get? b=some o/\H b=none:=by
 have F:=PySem.W.of_hideAll (Sn h H) e;refine⟨F,?_⟩;cases q:H b with
 | none=>rfl
 | some x =>
   have hm:b∈Sn h H:=G3.mpr ⟨C7.mpr (Am F),by simp[q]⟩
   simp_all[JM,none,PySem.W.hideAll_none,Sn]
def eP(g h:Heap)(L:Addr):List (Addr×Obj):=(List.range h.objs.size).filterMap λa=>if a=L\/(g.get? a).isSome=true then none else(h.get? a).map λo=>(a,o)
def rest(g h:Heap)(L d:Addr):List (Addr×Obj):=(eP g h L).filter λp=>decide (p.1≠d)
end L2
namespace L2
open PySem PySem.Spec PyProof.Rows
structure Mod(K:Frag)(mg:Str->Option Value)(base:Heap):Prop where
 wQ:K.In base
 glob:base.Ns mainGlobals mg
 blt:∃mb,base.Ns builtinsNs mb/\∀x:Str,x≠"__name__"->mb x=bootBuiltins x
 nolimit:base.NoLimit
structure Cx where
 prog:Program
 w:World
 K:Frag
 mg:Str->Option Value
 base:Heap
 A:Around
 N:List Str
 Ã:Shared
 H₀:Hp
 env:Env
 outer:List Env
 stack:List Env
 ex:List Addr
 fn:Str->Bool
 calm:Bool
 pn:List (Addr×Obj)
 xe:Value->Shared->Prop
def Kw(l:List Env):List Addr:=l.filterMap (·.frame)
abbrev Cx.fs(X:Cx):List Addr:=Kw X.outer
def Uj(F:Scope)(x:Str):Prop:=F.names.lookup x=some .local\/F.names.lookup x=some .cell\/F.names.lookup x=some .free
def MT(F:Scope)(x:Str):Prop:=F.names.lookup x=some .local\/F.names.lookup x=some .cell
def Uk(env:Env)(h:Heap)(m:Str->Option Value)(x:Str)(u:Value):Prop :=
 (env.kindOf x=some .local/\m x=some u)\/((env.kindOf x=some .cell\/env.kindOf x=some .free)/\∃c,env.cells.lookup x=some c/\h.IsCell c (some u))
structure Cx.Ok(X:Cx):Prop where
 mod:Mod X.K X.mg X.base
 kind:X.env.scope.kind=.function
 glob:X.env.globals=mainGlobals
 blt:X.env.builtins=builtinsNs
 above:X.Ã.heap.objs.size<=X.env.locals
 inj:∀x y c,X.env.cells.lookup x=some c->X.env.cells.lookup y=some c->x=y
 has:∀x,(X.env.kindOf x=some .cell\/X.env.kindOf x=some .free)->∃c,X.env.cells.lookup x=some c
 wR:∀x c,X.fn x=true->X.env.cells.lookup x=some c->X.Ã.heap.objs.size<=c
 hd:X.calm=true->X.A.handled=none
 frames:X.A.frames=some X.stack
 xk:X.stack=X.outer\/(X.stack=X.env::X.outer/\X.env.frame=some X.env.locals)
 x8:∀b∈X.ex,b≠X.env.locals/\∀x c,X.env.cells.lookup x=some c->c≠b
 bs:∀b o,X.base.get? b=some o->X.Ã.heap.get? b=some o/\X.H₀ b=none
 wx:X.base.objs.size<=X.Ã.heap.objs.size
 vo:∀b o,X.base.get? b=some o->b∉X.ex
 ŵ:∀b∈X.ex,b∉X.fs
 ĸ:X.Ã.heap.FunFrames X.base X.outer
 wK:∀b∈X.fs,X.H₀ b=none
structure AF(X:Cx)(pins:List (Addr×Obj))(σ:List (Option V))(H:Hp)(s:Shared):Prop where
 ok:X.Ok
 os:s.os=X.Ã.os
 bare:AllBare s.gens
 base:Un X.fs X.ex X.H₀ H X.Ã.heap s.heap
 loc:∃m,s.heap.Ns X.env.locals m/\∀(i:Nat) (x:Str) (v:V),X.N[i]?=some x->σ[i]?=some (some v)->Uj X.env.scope x->∃u,AR v u/\Uk X.env s.heap m x u
 cell:∀x c,X.env.cells.lookup x=some c->∃v,s.heap.IsCell c v
 free:H X.env.locals=none
 ú:∀x c,X.env.cells.lookup x=some c->H c=none
 pin:∀p∈X.pn++pins,s.heap.get? p.1=some p.2/\H p.1=none/\p.1≠X.env.locals/\p.1∉X.fs/\∀v,p.2.data≠.cell v
 Í:FP X.prog X.w H s.heap
 len:σ.length=X.N.length
section
variable {X:Cx}{pins:List (Addr×Obj)}{σ:List (Option V)}{H H':Hp}{s:Shared}{h':Heap}
def Cx.Ok.xU(ok:X.Ok)(e:X.base.get? b=some o):b∉X.fs:=λhb=>by
 have:=(ok.ĸ.mem hb).1;rw[e]at this;cases this
def AF.bs(I:AF X pins σ H s):∀b o,X.base.get? b=some o->s.heap.get? b=some o/\H b=none:=λb o e =>
 ⟨I.base.keep b o (I.ok.bs b o e).1 (I.ok.bs b o e).2 (I.ok.xU e) (I.ok.vo b o e),I.base.free b o (I.ok.bs b o e).1 (I.ok.bs b o e).2 (I.ok.vo b o e)⟩
def AF.bk(I:AF X pins σ H s):∀b o,X.base.get? b=some o->s.heap.get? b=some o:=λb o e=>(I.bs b o e).1
def AF.mod(I:AF X pins σ H s):Mod X.K X.mg X.base:=I.ok.mod
def AF.Ĝ(I:AF X pins σ H s):X.K.In s.heap:=I.ok.mod.wQ.keeps I.bk
def AF.lt(I:AF X pins σ H s):X.env.locals<s.heap.objs.size:=let ⟨_,hn,_⟩:=I.loc;hn.lt
def AF.sz(I:AF X pins σ H s):X.Ã.heap.objs.size<=s.heap.objs.size:=Bk I.ok.above (J5 I.lt)
def AF.xW(I:AF X pins σ H s)(h:s.heap.objs.size<=a):a∉X.fs:=λhb=>by
 obtain⟨_,o,F,_⟩:=I.ok.ĸ.mem hb;exact absurd (Bc (Am F) (Bk I.sz h)) (Ce _)
def AF.wD(I:AF X pins σ H s):∀x c,X.env.cells.lookup x=some c->c≠X.env.locals:=λx c e z=>by
 obtain⟨v,o,J,hd⟩:=I.cell x c e;obtain⟨m,⟨o',es,W,G,F,_⟩,_⟩:=I.loc;rw[z,G]at J;cases J;rw[F]at hd;cases hd
def AF.ĸ(I:AF X pins σ H s):s.heap.FunFrames X.base X.outer:=by
 have all:∀(l:List Env),(∀b∈Kw l,b∈X.fs)->X.Ã.heap.FunFrames X.base l->s.heap.FunFrames X.base l:=by
  intro l;induction l with
  | nil=>intro _ _;trivial
  | cons env r ih =>
    rintro G ⟨J,⟨L,o,hf,hn,W,hd⟩,Y⟩;have F:L∈X.fs:=G L (by unfold Kw;rw[G8,hf];exact Al);obtain⟨Z,e⟩:=I.base.slot L o W (I.ok.wK L F) F λz=>I.ok.ŵ L z F
    exact⟨J,⟨L,_,hf,hn,e,hd⟩,ih (λb hb=>G b (by unfold Kw;rw[G8,hf];exact Ah _ hb)) Y⟩
 exact all X.outer (λ_ hb=>hb) I.ok.ĸ
def AF.stack(I:AF X pins σ H s):s.heap.FunFrames X.base X.stack:=by
 rcases I.ok.xk with e|⟨e,hf⟩
 .rw[e];exact I.ĸ
 .rw[e];obtain⟨m,hn,_⟩:=I.loc;exact .cons (by rw[I.ok.kind];decide) hf hn (Heap.get?_none_of_le (Bk I.ok.wx I.ok.above)) I.ĸ
def AF.vT(I:AF X pins σ H s):∀b∈Kw X.stack,b∈X.env.locals::X.fs:=λb hb=>by
 rcases I.ok.xk with e|⟨e,hf⟩
 .rw[e]at hb;exact Ah _ hb
 .rw[e]at hb
  unfold Kw at hb;rw[G8,hf]at hb
  exact hb
def AF.vi(I:AF X pins σ H s):∀b∈Kw X.stack,H b=none:=λb hb=>by
 rcases Aw.mp (I.vT b hb)with e|hb
 .rw[e];exact I.free
 .obtain⟨_,o,F,_⟩:=I.ok.ĸ.mem hb;exact I.base.free b o F (I.ok.wK b hb) λz=>I.ok.ŵ b z hb
def AF.step{g':Array GenState}{t':Nat}{d':Drawn}{ch:List Addr}(I:AF X pins σ H s)
 (hch:∀b∈ch,(b∈X.ex\/X.Ã.heap.objs.size<=b)/\b≠X.env.locals/\(∀x c,X.env.cells.lookup x=some c->c≠b)/\∀p∈X.pn++pins,p.1≠b)
 (keep:∀b o,b≠X.env.locals->b∉X.fs->b∉ch->s.heap.get? b=some o->H b=none->h'.get? b=some o)
 (slot:∀b o,b≠X.env.locals->b∈X.fs->b∉ch->s.heap.get? b=some o->H b=none->∃sl,h'.get? b=some { o with slots:=sl }) (free:∀b o,b∉ch->s.heap.get? b=some o->H b=none->H' b=none)
 (there:∀b o,b∉ch->s.heap.get? b=some o->∃o',h'.get? b=some o')
 (ţ:∀b xs,H b=some (.tup xs)->H' b=some (.tup xs)) (ş:∀b o u,H b=some (.frz o u)->H' b=some (.frz o u)) (ų:∀b ps,H b=some (.tbl ps)->∃Y,H' b=some (.tbl (ps++Y)))
 (ns:∀m,s.heap.Ns X.env.locals m->h'.Ns X.env.locals m) (Í:FP X.prog X.w H' h') (hg:AllBare g') :
 AF X pins σ H' { s with heap:=h',gens:=g',drawn:=d',toks:=t' }:=by
 have Z:∀b o,X.Ã.heap.get? b=some o->b≠X.env.locals:=λb o e=>B8 (Bc (Am e) I.ok.above)
 have J:∀b o,X.Ã.heap.get? b=some o->b∉X.ex->b∉ch:=λb o e F hb=>by
  rcases(hch b hb).1 with z|z
  .exact F z
  .exact absurd (Bc (Am e) z) (Ce _)
 have G:∀x c,X.env.cells.lookup x=some c->∀v,s.heap.IsCell c v->h'.IsCell c v:=λx c e v ⟨o,ho,hd⟩=>by
  have aa:=λz=>(hch c z).2.2.1 x c e rfl
  by_cases hc:c∈X.fs
  .obtain⟨sl,q⟩:=slot c o (I.wD x c e) hc aa ho (I.ú x c e);exact⟨_,q,hd⟩
  .exact⟨o,keep c o (I.wD x c e) hc aa ho (I.ú x c e),hd⟩
 refine⟨I.ok,I.os,hg,⟨λb o e n hb F=>?_,λb o e n hb F=>?_,λb o e n F=>?_,λb o e F=>?_,λb xs e=>ţ b xs (I.base.ţ b xs e),λb o xs e=>ş b o xs (I.base.ş b o xs e),λb ps e=>?_⟩,?_,λx c e=>?_,?_,λx c e=>?_,λp hp=>?_,Í,I.len⟩
 .exact keep b o (Z b o e) hb (J b o e F) (I.base.keep b o e n hb F) (I.base.free b o e n F)
 .obtain⟨sl,W⟩:=I.base.slot b o e n hb F;obtain⟨ac,e2⟩:=slot b _ (Z b o e) hb (J b o e F) W (I.base.free b o e n F);exact⟨ac,e2⟩
 .obtain⟨o',W⟩:=I.base.there b o e F;exact free b o' (J b o e F) W (I.base.free b o e n F)
 .obtain⟨o',W⟩:=I.base.there b o e F;exact there b o' (J b o e F) W
 .obtain⟨m1,W⟩:=I.base.ų b ps e
  grind
 .obtain⟨m,hn,hl⟩:=I.loc;refine⟨m,ns m hn,λi x v W e2 e3=>?_⟩;obtain⟨u,r,l⟩:=hl i x v W e2 e3;refine⟨u,r,?_⟩;rcases l with l|⟨k,c,e,z⟩
  .exact .inl l
  .exact .inr ⟨k,c,e,G x c e _ z⟩
 .obtain⟨v,z⟩:=I.cell x c e;exact⟨v,G x c e v z⟩
 .obtain⟨m,⟨o,_,_,ho,_⟩,_⟩:=I.loc
  grind[free,I.free]
 .obtain⟨v,o,ho,hd⟩:=I.cell x c e;exact free c o (λz=>(hch c z).2.2.1 x c e rfl) ho (I.ú x c e)
 .obtain⟨e,n,ne,nf,d⟩:=I.pin p hp
  grind
def AF.un{t':Nat}(I:AF X pins σ H s)(u:Un X.fs [] H H' s.heap h')(Í:FP X.prog X.w H' h'):AF X pins σ H' { s with heap:=h',toks:=t' }:=by
 obtain⟨m,⟨o,es,ep,W,r⟩,_⟩:=id I.loc;obtain⟨sl,Z⟩:=u.any W I.free (by simp);exact I.step (g':=s.gens) (d':=s.drawn) (ch:=[]) (λ_ z=>nomatch z) (λb o _ hb _ e n=>u.keep b o e n hb (by simp)) (λb o _ hb _ e n=>u.slot b o e n hb (by simp)) (λb o _ e n=>u.free b o e n (by simp)) (λb o _ e=>u.there b o e (by simp)) u.ţ u.ş u.ų (λm' hm=>by
  obtain⟨o',J,G,F,Y⟩:=hm;rw[W]at F;cases F
  exact⟨_,J,G,Z,Y⟩) Í I.bare
def AF.call{g':Array GenState}{t':Nat}{d':Drawn}{ch:List Addr}(I:AF X pins σ H s)(u:Un (Kw X.stack) ch H H' s.heap h')(Í:FP X.prog X.w H' h')(hg:AllBare g')
 (hch:∀b∈ch,(b∈X.ex\/X.Ã.heap.objs.size<=b)/\b≠X.env.locals/\(∀x c,X.env.cells.lookup x=some c->c≠b)/\∀p∈X.pn++pins,p.1≠b) :
 AF X pins σ H' { s with heap:=h',gens:=g',drawn:=d',toks:=t' }:=by
 obtain⟨m,⟨o,es,ep,Z,r⟩,_⟩:=id I.loc;obtain⟨sl,W⟩:=u.any Z I.free λz=>(hch _ z).2.1 rfl
 exact I.step (ch:=ch) hch (λb o W hb F e n=>u.keep b o e n (λz=>(Aw.mp (I.vT b z)).elim W hb) F) (λb o _ _ F e n=>u.any e n F) (λb o F e n=>u.free b o e n F) (λb o F e=>u.there b o e F) u.ţ u.ş u.ų (λm' hm=>by
  obtain⟨o',Y,J,G,r'⟩:=hm;rw[Z]at G;cases G
  exact⟨_,Y,J,W,r'⟩) Í hg
def AF.turned{t':Nat}{it:Addr}(I:AF X pins σ H s)(k:∀b o,b≠it->s.heap.get? b=some o->h'.get? b=some o)(hn:H it=none)(G:it≠X.env.locals)
 (h1:it∈X.ex\/X.Ã.heap.objs.size<=it) (h2:∀x c,X.env.cells.lookup x=some c->c≠it) (h3:∀p∈X.pn++pins,p.1≠it):AF X pins σ H { s with heap:=h',toks:=t' }:=by
 have Y:∀b u,H b=some u->b≠it:=λb u e z=>by rw[z,hn]at e;cases e
 refine I.step (g':=s.gens) (d':=s.drawn) (ch:=[it]) (λb hb=>?_) (λb o _ _ F e _=>k b o (λz=>F (by simp[z])) e) (λb o _ _ F e _=>⟨o.slots,k b o (λz=>F (by simp[z])) e⟩) (λ_ _ _ _ n=>n)
  (λb o F e=>⟨o,k b o (λz=>F (by simp[z])) e⟩) (λ_ _ e=>e) (λ_ _ _ e=>e) (λb ps e=>⟨#[],by rw[e];simp⟩) (λm hm=>?_) (λb u e=>?_) I.bare
 .grind
 .obtain⟨o,es,W,J,r⟩:=hm;exact⟨o,es,W,k _ o (Cc G) J,r⟩
 .refine(I.Í b u e).ű (λc v F q=>k c v ?_ q) (λ_ q=>q) λ_ _ q=>q
  lia
def AF.tok(I:AF X pins σ H s)(t:Nat):AF X pins σ H { s with toks:=t }:=I.un (h':=s.heap) (t':=t) Un.refl I.Í
def AF.kept{t':Nat}(I:AF X pins σ H s)(k:∀b u,s.heap.get? b=some u->h'.get? b=some u):AF X pins σ H { s with heap:=h',toks:=t' }:=I.un (Un.kept k) (I.Í.kept k)
def AF.laid{a:Addr}{o:HO}{t':Nat}(I:AF X pins σ H s)(k:∀b u,s.heap.get? b=some u->h'.get? b=some u)(F:s.heap.objs.size<=a)(new:IV X.prog X.w (upd H a o) h' a o) :
 AF X pins σ (upd H a o) { s with heap:=h',toks:=t' }:=I.un (Un.laid k F (I.Í.fresh F)) (I.Í.laid k F new)
def AF.write(I:AF X pins σ H s)(J:QU (H x))(G:e=x\/H e=some (.own x))(k:∀b u,b≠e->s.heap.get? b=some u->h'.get? b=some u)(F:∃u,h'.get? e=some u)(new:IV X.prog X.w (upd H x o) h' x o):AF X pins σ (upd H x o) { s with heap:=h',toks:=t' }:=I.un (Un.write J G k F) (I.Í.write J G k F new)
def AF.w6(I:AF X pins σ H s)(h:∀p∈pins',s.heap.get? p.1=some p.2/\H p.1=none/\p.1≠X.env.locals/\p.1∉X.fs/\∀v,p.2.data≠.cell v):AF X pins' σ H s :=
 ⟨I.ok,I.os,I.bare,I.base,I.loc,I.cell,I.free,I.ú,λp F=>(Cn.mp F).elim (λz=>I.pin p (Cd _ z)) (h p),I.Í,I.len⟩
theorem Ul{N:List Str}(G:N.Nodup){i j:Nat}{x:Str}(a:N[i]?=some x)(b:N[j]?=some x):i=j:=by
 obtain⟨h1,F⟩:=B9.mp a;obtain⟨h2,I⟩:=B9.mp b;exact(List.getElem_inj G).mp (F.trans I.symm)
def Um{M:Model}{A:Around}{E:Value->Shared->Prop}{i:Nat}{x:Str}{v:V}{u:Value}{Q:Unit->Shared->Prop}(I:AF X pins σ H s)(hN:X.N.Nodup)(hi:X.N[i]?=some x)(W:MT X.env.scope x)(r:AR v u)
 (h:∀s',AF X pins (σ.set i (some v)) H s'->(∃a,Heap.SameBut a s.heap s'.heap/\(a=X.env.locals\/X.env.cells.lookup x=some a))->Q () s') (hf:X.fn x=true\/X.env.scope.names.lookup x=some .local:=by first|exact .inl rfl|exact .inr rfl|assumption):wpAny M A (storeName X.env x u) Q E s:=by
 obtain⟨m,hn,hl⟩:=id I.loc;have af:(X.env.scope.kind==.class||(X.env.scope.kind==.module&&X.env.locals !=X.env.globals))=false:=by rw[I.ok.kind];rfl
 have aa:i<σ.length:=by rw[I.len];exact(B9.mp hi).1
 have wD:=I.wD;have G:∀{a:Addr}{h':Heap},(∃o,s.heap.get? a=some o/\H a=none)->Heap.SameBut a s.heap h'->FP X.prog X.w H h':=λ{a h'} ha F b ob e=>by
  obtain⟨_,_,ah⟩:=ha;refine(I.Í b ob e).ű (λc w' Y q=>(F.2 c ?_).trans q) (λ_ q=>q) λ_ _ q=>q
  lia
 rcases W with hk|hk
 .refine wpAny_storeName_local hk hn (λh' ai F=>?_) af;obtain⟨oL,_,_,aj,_⟩:=id hn;refine h _ ⟨I.ok,I.os,I.bare,⟨λb o e n hb W=>?_,λb o e n hb W=>?_,I.base.free,λb o e W=>?_,I.base.ţ,I.base.ş,I.base.ų⟩,⟨_,ai,λj y v' J Z e3=>?_⟩,λy c e=>?_,I.free,I.ú,λp hp=>?_,G ⟨oL,aj,I.free⟩ F,by simpa using I.len⟩ ⟨_,F,.inl rfl⟩
  .exact(F.2 b (B8 (Bc (Am e) I.ok.above))).trans (I.base.keep b o e n hb W)
  .obtain⟨sl,J⟩:=I.base.slot b o e n hb W;exact⟨sl,(F.2 b (B8 (Bc (Am e) I.ok.above))).trans J⟩
  .obtain⟨o',J⟩:=I.base.there b o e W;exact⟨o',(F.2 b (B8 (Bc (Am e) I.ok.above))).trans J⟩
  .by_cases hj:j=i
   .subst hj;rw[hi]at J;cases J
    rw[F8 aa]at Z
    cases Z;exact⟨u,r,.inl ⟨hk,by simp⟩⟩
   .rw[Ef (Cc hj)]at Z
    obtain⟨u',r',q⟩:=hl j y v' J Z e3;refine⟨u',r',?_⟩;rcases q with⟨k,e⟩|⟨k,c,e,z⟩
    .refine .inl ⟨k,?_⟩
     grind[Ul]
    .exact .inr ⟨k,c,e,z.sameBut F (wD y c e)⟩
  .obtain⟨w',z⟩:=I.cell y c e;exact⟨w',z.sameBut F (wD y c e)⟩
  .obtain⟨e,n,ne,nf,d⟩:=I.pin p hp;exact⟨(F.2 p.1 ne).trans e,n,ne,nf,d⟩
 .have ac:X.fn x=true:=by
   lia
  obtain⟨c,Y⟩:=I.ok.has x (.inl hk);obtain⟨w',z⟩:=I.cell x c Y;refine wpAny_storeName_cell I.ok.kind hk Y z (λh' ae F=>?_);obtain⟨oc,ag,ak⟩:=id z;refine h { s with heap:=h' } ⟨I.ok,I.os,I.bare,⟨λb o e n hb W=>?_,λb o e n hb W=>?_,I.base.free,λb o e W=>?_,I.base.ţ,I.base.ş,I.base.ų⟩,⟨m,hn.sameBut F (Cc (wD x c Y)),λj y v' J Z e3=>?_⟩,λy c' e=>?_,I.free,I.ú,λp hp=>?_,G ⟨oc,ag,I.ú x c Y⟩ F,by simpa using I.len⟩ ⟨c,F,.inr Y⟩
  .exact(F.2 b (B8 (Bc (Am e) (I.ok.wR x c ac Y)))).trans (I.base.keep b o e n hb W)
  .obtain⟨sl,J⟩:=I.base.slot b o e n hb W;exact⟨sl,(F.2 b (B8 (Bc (Am e) (I.ok.wR x c ac Y)))).trans J⟩
  .obtain⟨o',J⟩:=I.base.there b o e W;exact⟨o',(F.2 b (B8 (Bc (Am e) (I.ok.wR x c ac Y)))).trans J⟩
  .by_cases hj:j=i
   .subst hj;rw[hi]at J;cases J
    rw[F8 aa]at Z
    cases Z;exact⟨u,r,.inr ⟨.inl hk,c,Y,ae⟩⟩
   .rw[Ef (Cc hj)]at Z
    obtain⟨u',r',q⟩:=hl j y v' J Z e3;refine⟨u',r',?_⟩;rcases q with q|⟨k,c',e,z'⟩
    .exact .inl q
    .refine .inr ⟨k,c',e,z'.sameBut F ?_⟩;rintro rfl;exact hj (Ul hN J (I.ok.inj _ _ _ e Y ▸ hi))
  .by_cases ad:c'=c
   .subst ad;exact⟨_,ae⟩
   .obtain⟨w2,z2⟩:=I.cell y c' e;exact⟨w2,z2.sameBut F ad⟩
  .obtain⟨e,n,ne,nf,d⟩:=I.pin p hp;refine⟨(F.2 p.1 ?_).trans e,n,ne,nf,d⟩
   grind
def QV{u:Value}(I:AF X pins σ H s)(G:X.N.Nodup)(hi:X.N[i]?=some x)(hx:MT X.env.scope x)(r:AR v u)(h:∀s',AF X pins (σ.set i (some v)) H s'->Q () s')(hf:X.fn x=true\/X.env.scope.names.lookup x=some .local:=by first|exact .inl rfl|exact .inr rfl|assumption):wpAny M A (storeName X.env x u) Q E s :=
 Um I G hi hx r (λs' F _=>h s' F) hf
def AF.vD(I:AF X pins σ H s)(G:s'.os=s.os)(u:Un (Kw X.stack) ch H H' s.heap s'.heap)(Í:FP X.prog X.w H' s'.heap)(J:AllBare s'.gens)(F:∀b∈ch,(b∈X.ex\/X.Ã.heap.objs.size<=b)/\b≠X.env.locals/\(∀x c,X.env.cells.lookup x=some c->c≠b)/\∀p∈X.pn++pins,p.1≠b):AF X pins σ H' s':=by
 obtain⟨h',g',d',t',o'⟩:=s';have e:o'=s.os:=G;subst e;exact I.call (g':=g') (t':=t') (d':=d') u Í J F
end
abbrev XK:=Value->Option Addr->Hp->Prop
abbrev St:=List (Option V)
abbrev zS:=St->Hp->Prop
abbrev zU:=Nat->List V->St->Hp->Prop
abbrev zT:=Nat->St->Hp->Prop
abbrev VK:=V->Hp->Prop
abbrev TE:=St->Hp->VK->Prop
abbrev TT:=St->Hp->(Bool->Hp->Prop)->Prop
abbrev TA:=St->Hp->(List V->Hp->Prop)->Prop
structure DY where
 nx:St->Hp->Prop
 rt:VK
 bk:St->Hp->Prop:=λ_ _=>False
 ct:St->Hp->Prop:=λ_ _=>False
abbrev TS:=DY->St->Hp->Prop
def EP(X:Cx)(pins:List (Addr×Obj))(σ:St)(Q:VK)(u:Value)(s':Shared):Prop:=∃v H',AF X pins σ H' s'/\AR v u/\Q v H'
def TP(X:Cx)(pins:List (Addr×Obj))(σ:St)(Q:Bool->Hp->Prop)(b:Bool)(s':Shared):Prop:=∃H',AF X pins σ H' s'/\Q b H'
def AP(X:Cx)(pins:List (Addr×Obj))(σ:St)(Q:List V->Hp->Prop)(us:List Value)(s':Shared):Prop:=∃vs H',AF X pins σ H' s'/\AM vs us/\Q vs H'
def SP(X:Cx)(pins:List (Addr×Obj))(D:DY)(f:Flow)(s':Shared):Prop :=
 match f with
 | .next=>∃F H',AF X pins F H' s'/\D.nx F H'
 | .brk=>∃F H',AF X pins F H' s'/\D.bk F H'
 | .cont=>∃F H',AF X pins F H' s'/\D.ct F H'
 | .ret u=>∃v F H',AF X pins F H' s'/\AR v u/\D.rt v H'
def PE(X:Cx)(e:Expr)(t:TE):Prop :=
 ∀(pins:List (Addr×Obj)) (s:Shared) (σ:St) (H:Hp) (Q:VK),AF X pins σ H s->t σ H Q->wpAny (model X.prog X.w) X.A (eval e X.env) (EP X pins σ Q) X.xe s
def PT(X:Cx)(e:Expr)(t:TT):Prop :=
 ∀(pins:List (Addr×Obj)) (s:Shared) (σ:St) (H:Hp) (Q:Bool->Hp->Prop),AF X pins σ H s->t σ H Q->wpAny (model X.prog X.w) X.A (isTrue e X.env (eval e X.env)) (TP X pins σ Q) X.xe s
def PW(X:Cx)(e:Expr)(t:TT):Prop :=
 ∀(F:Sem Value) (pins:List (Addr×Obj)) (s:Shared) (σ:St) (H:Hp) (Q:Bool->Hp->Prop),AF X pins σ H s->t σ H Q->wpAny (model X.prog X.w) X.A (isTrue e X.env F) (TP X pins σ Q) X.xe s
def PW.pt(h:PW X e t):PT X e t:=h _
def PA(X:Cx)(es:List Expr)(t:TA):Prop :=
 ∀(pos:Pos) (pins:List (Addr×Obj)) (s:Shared) (σ:St) (H:Hp) (Q:List V->Hp->Prop),AF X pins σ H s->t σ H Q->wpAny (model X.prog X.w) X.A (spliced (backTo pos (starEach es X.env))) (AP X pins σ Q) X.xe s
def PS(X:Cx)(st:Stmt)(t:TS):Prop :=
 ∀(pins:List (Addr×Obj)) (s:Shared) (σ:St) (H:Hp) (D:DY),AF X pins σ H s->t D σ H->wpAny (model X.prog X.w) X.A (exec st X.env) (SP X pins D) X.xe s
def IP(X:Cx)(st:List Stmt)(t:TS):Prop :=
 ∀(pins:List (Addr×Obj)) (s:Shared) (σ:St) (H:Hp) (D:DY),AF X pins σ H s->t D σ H->wpAny (model X.prog X.w) X.A (execs st X.env) (SP X pins D) X.xe s
def AV{α:Type}{t:Sem α}{Q F:α->Shared->Prop}{M:Model}{A:Around}{E:Value->Shared->Prop}{s:Shared}(h:wpAny M A t Q E s)(G:∀a s,Q a s->F a s):wpAny M A t F E s:=Bv h G λ_ _ x=>x
end L2
namespace L2
open PySem PySem.Spec PyProof.Rows
section
variable {X:Cx}
def QW(i:Nat):TE:=λσ H Q=>∃v,σ[i]?=some (some v)/\Q v H
def tC(v:V):TE:=λ_ H Q=>Q v H
def eQ(hN:X.N[i]?=some x)(hv:Uj X.env.scope x)(hd:(x==("__debug__":Str))=false:=by decide)(hcd:(x==("__classdict__":Str))=false:=by decide):PE X (.Name x pos) (QW i):=by
 rintro pins s σ H Q I ⟨v,e,h⟩;obtain⟨m,hn,W⟩:=I.loc;obtain⟨u,r,l⟩:=W i x v hN e hv;have fin:EP X pins σ Q u s:=⟨v,H,I,r,h⟩
 rcases l with⟨G,hm⟩|⟨G,c,J,F⟩
 .exact wpAny_Name (wpAny_loadName_local I.ok.kind G hn hm fin) hd
 .rcases G with G|G
  .exact wpAny_Name (wpAny_loadName_cell I.ok.kind G J F fin) hd
  .exact wpAny_Name (wpAny_loadName_free I.ok.kind G J F fin hcd) hd
def AL{i j pos}:PE X (.Constant (.int i) j pos) (tC (.int i)):=λ_ _ _ H _ I h=>wpAny_Constant_int ⟨.int i,H,I.tok _,⟨_,rfl⟩,h⟩
def LG{b j pos}:PE X (.Constant (.bool b) j pos) (tC (.bl b)):=λ_ _ _ H _ I h=>Constant_bool ⟨.bl b,H,I,rfl,h⟩
def JU{j pos}:PE X (.Constant .none j pos) (tC .non):=λ_ _ _ H _ I h=>Constant_none ⟨.non,H,I,rfl,h⟩
def AN{x j pos}:PE X (.Constant (.str x) j pos) (tC (.str x)):=λ_ _ _ H _ I h=>Calls.Constant_str ⟨.str x,H,I.tok _,⟨_,rfl⟩,h⟩
def Gl(X:Cx)(x:Str):Prop:=X.env.kindOf x=some .globalImplicit
def MU{u:Value}(I:AF X pins σ H s)(F:Gl X x)(hm:X.mg x=some u)(h:Q u s)(hd:(x==("__debug__":Str))=false:=by decide):wpAny (model X.prog X.w) X.A (eval (.Name x pos) X.env) Q E s :=
 Gf I.ok.kind F (Calls.loadGlobal_global (by rw[I.ok.glob];exact I.mod.glob.keeps I.bk) hm h) hd
def LH{u:Value}(I:AF X pins σ H s)(G:Gl X x)(hm:X.mg x=none)(F:bootBuiltins x=some u)(h:Q u s)(hn:x≠"__name__":=by decide)(hd:(x==("__debug__":Str))=false:=by decide):wpAny (model X.prog X.w) X.A (eval (.Name x pos) X.env) Q E s:=by
 obtain⟨J,h1,h2⟩:=I.mod.blt;exact Gf I.ok.kind G (Calls.loadGlobal_builtin (by rw[I.ok.glob];exact I.mod.glob.keeps I.bk) hm (by rw[I.ok.blt];exact h1.keeps I.bk) ((h2 x hn).trans F) h) hd
def FC{u:Value}(F:Gl X x)(hm:X.mg x=some u)(r:AR v u)(hd:(x==("__debug__":Str))=false:=by decide):PE X (.Name x pos) (tC v) :=
 λ_ _ _ H _ I h=>MU I F hm ⟨v,H,I,r,h⟩ hd
def eR{u:Value}(G:Gl X x)(hm:X.mg x=none)(F:bootBuiltins x=some u)(r:AR v u)(hn:x≠"__name__":=by decide)(hd:(x==("__debug__":Str))=false:=by decide):PE X (.Name x pos) (tC v) :=
 λ_ _ _ H _ I h=>LH I G hm F ⟨v,H,I,r,h⟩ hn hd
variable {a b:Expr}{ta tb:TE}{pos:Pos}
def PC(X:Cx)(op:CmpOp)(a b:Expr)(t:TE):Prop :=
 ∀(pins:List (Addr×Obj)) (s:Shared) (σ:St) (H:Hp) (Q:VK),AF X pins σ H s->t σ H Q ->
  wpAny (model X.prog X.w) X.A (eval a X.env) (λv G=>wpAny (model X.prog X.w) X.A (eval b X.env) (λu F=>wpAny (model X.prog X.w) X.A (compareOp op v u) (EP X pins σ Q) X.xe F) X.xe G) X.xe s
def WQ(b:Expr){op:CmpOp}(h:op≠.In)(h2:op≠.NotIn):behindInMarks op b=false:=by
 have F:(op==CmpOp.In)=false:=by cases op<;>first|rfl|exact absurd rfl h
 have G:(op==CmpOp.NotIn)=false:=by cases op<;>first|rfl|exact absurd rfl h2
 cases b<;>simp[behindInMarks,F,G]
def Uo(ta:TE):TE:=λσ H Q=>ta σ H λx H1=>Q (.bl (decide (x=.non))) H1
def eS(ta:TE):TE:=λσ H Q=>ta σ H λx H1=>Q (.bl (!decide (x=.non))) H1
def AR.vC{x:V}{v:Value}(r:AR x v):(v==Value.none)=decide (x=.non):=by
 cases x with
 | non=>cases r;rfl
 | bl _=>cases r;rfl
 | int _=>obtain⟨t,rfl⟩:=r;rfl
 | str _=>obtain⟨t,rfl⟩:=r;rfl
 | byt _=>obtain⟨t,rfl⟩:=r;rfl
 | flt _=>obtain⟨t,rfl⟩:=r;rfl
 | ref _=>cases r;rfl
 | ty _=>cases r;rfl
def QX{j pos'}(ha:PE X a ta):PC X .Is a (.Constant .none j pos') (Uo ta):=by
 intro pins s σ H Q I h;exact AV (ha pins s σ H _ I h) λv W ⟨x,H1,J,F,G⟩=>Constant_none (is_none_gen ⟨.bl _,H1,J,by rw[F.vC];rfl,G⟩)
def QY{j pos'}(ha:PE X a ta):PC X .IsNot a (.Constant .none j pos') (eS ta):=by
 intro pins s σ H Q I h;exact AV (ha pins s σ H _ I h) λv W ⟨x,H1,J,F,G⟩=>Constant_none (isnot_none_gen ⟨.bl _,H1,J,by rw[F.vC];rfl,G⟩)
def tB(t:TE):TT:=λσ H Q=>t σ H λx H1=>∃c,x=.bl c/\Q c H1
def Oo(h:PC X op a b t)(h1:behindInMarks op b=false:=by first|exact WQ _ (by decide) (by decide)|rfl):PE X (.Compare a [op] [b] pos) t:=λpins s σ H Q I hw=>wpAny_Compare1 (h pins s σ H Q I hw) h1
def QZ{op:CmpOp}{t:TE}(h:PC X op a b t)(h1:behindInMarks op b=false:=by first|exact WQ _ (by decide) (by decide)|rfl):PT X (.Compare a [op] [b] pos) (tB t):=by
 intro pins s σ H Q I hw;refine wpAny_isTrue_Compare1 (AV (h pins s σ H _ I hw) λv Y h1=>AV h1 λu W h2=>AV h2 λc Z ⟨x,H1,G,F,J⟩=>?_) h1;obtain⟨d,rfl,q⟩:=J;cases F;exact C2 ⟨H1,G,q⟩
def GU{e:Expr}{t:TE}(h:PE X e t)(he:∀F,isTrue e X.env F=(do let v <- F;standAt e.pos;holding [v] (truthy v)):=by intro _;rfl):PT X e (tB t):=by
 intro pins s σ H Q I hw;refine isTrue_plain (AV (h pins s σ H _ I hw) λv Y ⟨x,H1,J,G,W⟩=>?_) (he _);obtain⟨d,rfl,q⟩:=W;cases G;exact C2 ⟨H1,J,q⟩
variable {tA tB':TT}{rest:List Expr}
def Up(t u:TT):TT:=λσ H Q=>t σ H λc H1=>if c=true then u σ H1 Q else Q false H1
def eT(t u:TT):TT:=λσ H Q=>t σ H λc H1=>if c=true then Q true H1 else u σ H1 Q
def Uq(t:TT):TT:=λσ H Q=>t σ H λc H1=>Q (!c) H1
def Oq(F:PT X a tA):PW X (.BoolOp .And [a] pos) tA:=by
 intro G pins s σ H Q I h;refine isTrue_and (AV (F pins s σ H Q I h) λc J e=>?_);cases c with
 | true=>exact isTrue_and_nil e
 | false=>exact e
def Os(F:PT X a tA):PW X (.BoolOp .Or [a] pos) tA:=by
 intro G pins s σ H Q I h;refine isTrue_or (AV (F pins s σ H Q I h) λc J e=>?_);cases c with
 | false=>exact isTrue_or_nil e
 | true=>exact e
def Ot(J:PT X a tA)(hb:PW X (.BoolOp .And (b::rest) pos) tB'):PW X (.BoolOp .And (a::b::rest) pos) (Up tA tB'):=by
 intro W pins s σ H Q I h;refine isTrue_and (AV (J pins s σ H _ I h) λc Y ⟨H1,G,F⟩=>?_);cases c with
 | true=>exact hb W pins Y σ H1 Q G F
 | false=>exact⟨H1,G,F⟩
def Nc(J:PT X a tA)(hb:PW X (.BoolOp .Or (b::rest) pos) tB'):PW X (.BoolOp .Or (a::b::rest) pos) (eT tA tB'):=by
 intro W pins s σ H Q I h;refine isTrue_or (AV (J pins s σ H _ I h) λc Y ⟨H1,G,F⟩=>?_);cases c with
 | true=>exact⟨H1,G,F⟩
 | false=>exact hb W pins Y σ H1 Q G F
def LV(F:PT X a tA):PT X (.UnaryOp .Not a pos) (Uq tA):=by
 intro pins s σ H Q I h;exact isTrue_not (F pins s σ H (λc H1=>Q (!c) H1) I h)
def eU(ta tb:TE):TE:=λσ H Q=>ta σ H λx H1=>∃c,x=.bl c/\if c=true then tb σ H1 Q else Q (.bl false) H1
def Ur(ta tb:TE):TE:=λσ H Q=>ta σ H λx H1=>∃c,x=.bl c/\if c=true then Q (.bl true) H1 else tb σ H1 Q
def Ki{op}{t:TE}(h:PE X a t):PE X (.BoolOp op [a] pos) t:=λpins s σ H Q I hw=>BoolOp_one (h pins s σ H Q I hw)
def HL(J:PE X a ta)(hb:PE X (.BoolOp .And (b::rest) pos) tb):PE X (.BoolOp .And (a::b::rest) pos) (eU ta tb):=by
 intro pins s σ H Q I h;refine BoolOp_and (AV (J pins s σ H _ I h) λv Y ⟨x,H1,G,W,F⟩=>?_);obtain⟨c,rfl,F⟩:=F;cases W;refine C2 ?_;cases c with
 | true=>exact hb pins Y σ H1 Q G F
 | false=>exact⟨.bl false,H1,G,rfl,F⟩
def eV(J:PE X a ta)(hb:PE X (.BoolOp .Or (b::rest) pos) tb):PE X (.BoolOp .Or (a::b::rest) pos) (Ur ta tb):=by
 intro pins s σ H Q I h;refine BoolOp_or (AV (J pins s σ H _ I h) λv Y ⟨x,H1,G,W,F⟩=>?_);obtain⟨c,rfl,F⟩:=F;cases W;refine C2 ?_;cases c with
 | false=>exact hb pins Y σ H1 Q G F
 | true=>exact⟨.bl true,H1,G,rfl,F⟩
def eW(t:TT)(ta tb:TE):TE:=λσ H Q=>t σ H λc H1=>if c=true then ta σ H1 Q else tb σ H1 Q
def Nd{c:Expr}(Y:PT X c tA)(W:PE X a ta)(hb:PE X b tb):PE X (.IfExp c a b pos) (eW tA ta tb):=by
 intro pins s σ H Q I h;refine wpAny_IfExp (AV (Y pins s σ H _ I h) λd G ⟨H1,J,F⟩=>?_);cases d with
 | true=>exact W pins G σ H1 Q J F
 | false=>exact hb pins G σ H1 Q J F
end
end L2
namespace L2
open PySem PySem.Spec PyProof.Rows
def AH(K:Frag)(H:Hp)(a:Addr)(xs:List V):Prop :=
 Rd H a (.lst xs) \/
  ∃(o:Obj) (its:Array Value) (n:Nat),K.lookup a=some o/\o.cls=.type "list"/\o.dict=none/\o.data=.seq its n/\its.size<=sizeLine/\AM xs its.toList
def BS(K:Frag)(H:Hp)(a:Addr)(xs:List V):Prop :=
 Rd H a (.tup xs) \/
  ∃(o:Obj) (its:Array Value) (n:Nat),K.lookup a=some o/\o.cls=.type "tuple"/\o.data=.seq its n/\its.size<=sizeLine/\AM xs its.toList
def Us:Value->Option V
 | .none=>some .non
 | .bool b=>some (.bl b)
 | .int i _=>some (.int i)
 | .str x _=>some (.str x)
 | .bytes b _=>some (.byt b)
 | .float b _=>some (.flt b)
 | .ref a=>some (.ref a)
 | .type n=>some (.ty n)
 | _=>none
def AR.abs{u:Value}(r:AR x u):Us u=some x:=by
 cases x with
 | non=>cases r;rfl
 | bl _=>cases r;rfl
 | int _=>obtain⟨t,rfl⟩:=r;rfl
 | str _=>obtain⟨t,rfl⟩:=r;rfl
 | byt _=>obtain⟨t,rfl⟩:=r;rfl
 | flt _=>obtain⟨t,rfl⟩:=r;rfl
 | ref _=>cases r;rfl
 | ty _=>cases r;rfl
theorem AR.inj{x y:V}{u:Value}(r:AR x u)(q:AR y u):x=y:=Av (r.abs.symm.trans q.abs)
theorem AM.inj(h:AM xs us)(h':AM ys us):xs=ys:=by
 induction h generalizing ys with
 | nil=>cases h';rfl
 | cons r t ih =>
   cases h' with
   | cons F t'=>rw[r.inj F,ih t']
section
variable {X:Cx}{pins:List (Addr×Obj)}{σ:St}{H:Hp}{s:Shared}{a:Addr}{xs ys:List V}
def AH.of{K:Frag}(h:H a=some (.lst xs)):AH K H a xs:=.inl (.inl h)
def BS.of{K:Frag}(h:H a=some (.tup xs)):BS K H a xs:=.inl (.inl h)
def AF.list(I:AF X pins σ H s)(h:AH X.K H a xs):∃its:List Value,AM xs its/\PlainL s.heap a its.toArray/\xs.length<=sizeLine:=by
 rcases h with h|⟨o,its,n,F,J,hd,G,hz,r⟩
 .obtain⟨z,its,n,r,e⟩:=h.ok I.Í;exact⟨its,r,⟨_,n,e,rfl,rfl,rfl⟩,z⟩
 .refine⟨its.toList,r,⟨o,n,I.Ĝ a o F,J,hd,by simpa using G⟩,?_⟩;have e:=r.length;simp only[B0]at e
  lia
def AF.tuple(I:AF X pins σ H s)(h:BS X.K H a xs):∃its:List Value,AM xs its/\IsTup s.heap a its.toArray/\xs.length<=sizeLine:=by
 rcases h with h|⟨o,its,n,F,J,G,hz,r⟩
 .obtain⟨z,its,r,p⟩:=h.ok I.Í;exact⟨its,r,p,z⟩
 .refine⟨its.toList,r,⟨o,I.Ĝ a o F,J,n,by simpa using G⟩,?_⟩;have e:=r.length;simp only[B0]at e
  lia
def AF.Ŏ(I:AF X pins σ H s)(h:AH X.K H a xs)(h':AH X.K H a ys):xs=ys:=by
 obtain⟨its,r,⟨o,n,e,_,_,d⟩,_⟩:=I.list h;obtain⟨its',G,⟨o',J,F,_,_,d'⟩,_⟩:=I.list h';rw[e]at F;cases F
 rw[d]at d'
 injection d' with d1 _
 have:its=its':=by simpa using C6 Array.toList d1
 subst this;exact r.inj G
end
abbrev Cx.Ü(X:Cx)(E:Value->Shared->Prop):Cx:={ X with xe:=E }
abbrev Cx.xw(X:Cx):Cx:=X.Ü λ_ _=>False
def Cx.Ok.Ü{X:Cx}(ok:X.Ok)(E:Value->Shared->Prop):(X.Ü E).Ok :=
 ⟨ok.mod,ok.kind,ok.glob,ok.blt,ok.above,ok.inj,ok.has,ok.wR,ok.hd,ok.frames,ok.xk,ok.x8,ok.bs,ok.wx,ok.vo,ok.ŵ,ok.ĸ,ok.wK⟩
def Cx.Ok.ß{X:Cx}{E:Value->Shared->Prop}(ok:(X.Ü E).Ok):X.Ok :=
 ⟨ok.mod,ok.kind,ok.glob,ok.blt,ok.above,ok.inj,ok.has,ok.wR,ok.hd,ok.frames,ok.xk,ok.x8,ok.bs,ok.wx,ok.vo,ok.ŵ,ok.ĸ,ok.wK⟩
section
variable {X:Cx}{pins:List (Addr×Obj)}{σ:St}{H:Hp}{s:Shared}{E:Value->Shared->Prop}
def AF.Ü(I:AF X pins σ H s)(E:Value->Shared->Prop):AF (X.Ü E) pins σ H s:=⟨I.ok.Ü E,I.os,I.bare,I.base,I.loc,I.cell,I.free,I.ú,I.pin,I.Í,I.len⟩
def AF.ß(I:AF (X.Ü E) pins σ H s):AF X pins σ H s:=⟨I.ok.ß,I.os,I.bare,I.base,I.loc,I.cell,I.free,I.ú,I.pin,I.Í,I.len⟩
def SP.ß{D:DY}{f:Flow}{s':Shared}(h:SP (X.Ü E) pins D f s'):SP X pins D f s':=by
 cases f with
 | next=>obtain⟨F,H',I,q⟩:=h;exact⟨F,H',I.ß,q⟩
 | brk=>obtain⟨F,H',I,q⟩:=h;exact⟨F,H',I.ß,q⟩
 | cont=>obtain⟨F,H',I,q⟩:=h;exact⟨F,H',I.ß,q⟩
 | ret u=>obtain⟨v,F,H',I,r,q⟩:=h;exact⟨v,F,H',I.ß,r,q⟩
def IP.xw{st:List Stmt}{t:TS}(h:IP X.xw st t):IP X st t:=λpins s σ H D I hw =>
 Bv (h pins s σ H D (I.Ü _) hw) (λ_ _ q=>q.ß) λ_ _ z=>False.elim z
end
section
variable {X:Cx}{st:Stmt}{rest:List Stmt}{t u:TS}{e:Expr}{te:TE}{pos:Pos}
def WR:TS:=λD σ H=>D.nx σ H
def Ou(t u:TS):TS:=λD σ H=>t { D with nx:=u D } σ H
def CH:IP X [] WR:=λ_ _ σ H _ I h=>Ez ⟨σ,H,I,h⟩
def AI(h1:PS X st t)(h2:IP X rest u):IP X (st::rest) (Ou t u):=by
 intro pins s σ H D I h;refine wpAny_execs_cons (AV (h1 pins s σ H { D with nx:=u D } I h) λf J q=>?_);cases f with
 | next =>
   obtain⟨F,H',G,q⟩:=q;exact h2 pins J F H' D G q
 | ret v=>exact q
 | brk=>exact q
 | cont=>exact q
def AJ(h1:PS X st t):IP X [st] t:=by
 intro pins s σ H D I h;refine wpAny_execs_cons (AV (h1 pins s σ H D I h) λf F q=>?_);cases f with
 | next=>exact Ez q
 | ret v=>exact q
 | brk=>exact q
 | cont=>exact q
def WS:TS:=λD σ H=>D.bk σ H
def eX:PS X (.Pass pos) WR:=λ_ _ σ H _ I h=>wpAny_Pass ⟨σ,H,I,h⟩
def eY:PS X (.Break pos) WS:=λ_ _ σ H _ I h=>wpAny_Break ⟨σ,H,I,h⟩
def AF.quiet{pins:List (Addr×Obj)}{σ:St}{H:Hp}{s:Shared}(I:AF X pins σ H s):interactive X.env=false:=by simp[interactive,I.ok.kind]
def eZ(te:TE):TS:=λD σ H=>te σ H λ_ H1=>D.nx σ H1
def DR(F:PE X e te)(J:swapsWith e none pos.line X.env=pure false:=by rfl):PS X (.Expr e pos) (eZ te):=by
 intro pins s σ H D I h;exact wpAny_Expr_any (AV (F pins s σ H _ I h) λv Z ⟨x,H1,W,Y,G⟩=>⟨σ,H1,W,G⟩) I.quiet J
def Ut(te:TE):TS:=λD σ H=>te σ H D.rt
def AY(F:PE X e te):PS X (.Return (some e) pos) (Ut te):=by
 intro pins s σ H D I h;exact wpAny_Return_some (AV (F pins s σ H _ I h) λv Y ⟨x,H1,W,G,J⟩=>⟨x,σ,H1,W,G,J⟩)
def f9:TS:=λD _ H=>D.rt .non H
def fb:PS X (.Return none pos) f9:=λ_ _ σ H _ I h=>wpAny_Return_none ⟨.non,σ,H,I,rfl,h⟩
def Uu(c:TT)(t u:TS):TS:=λD σ H=>c σ H λb H1=>if b=true then t D σ H1 else u D σ H1
def BY{c:Expr}{a b:List Stmt}{tc:TT}(Y:PT X c tc)(W:IP X a t)(hb:IP X b u):PS X (.If c a b pos) (Uu tc t u):=by
 intro pins s σ H D I h;refine wpAny_If (AV (Y pins s σ H _ I h) λd J ⟨H1,F,G⟩=>?_);cases d with
 | true=>exact W pins J σ H1 D F G
 | false=>exact hb pins J σ H1 D F G
def fc:TS:=λ_ _ _=>False
def Uv:PS X st fc:=λ_ _ _ _ _ _ h=>h.elim
end
abbrev TG:=V->St->Hp->(St->Hp->Prop)->Prop
abbrev Ov:=List V->St->Hp->(St->Hp->Prop)->Prop
def PG(X:Cx)(F:Expr)(t:TG):Prop :=
 ∀(pins:List (Addr×Obj)) (s:Shared) (σ:St) (H:Hp) (v:V) (u:Value) (Q:St->Hp->Prop),AF X pins σ H s->AR v u->t v σ H Q ->
  wpAny (model X.prog X.w) X.A (assign F X.env u) (λ_ s'=>∃G H',AF X pins G H' s'/\Q G H') X.xe s
def Ow(X:Cx)(G:List Expr)(t:Ov):Prop :=
 ∀(pins:List (Addr×Obj)) (s:Shared) (σ:St) (H:Hp) (vs:List V) (us:List Value) (Q:St->Hp->Prop),AF X pins σ H s->AM vs us->t vs σ H Q ->
  wpAny (model X.prog X.w) X.A (assignInOrder ((assignEach G X.env).map (·.2)) us) (λ_ s'=>∃F H',AF X pins F H' s'/\Q F H') X.xe s
abbrev Ox:=V->V->V->Hp->(Hp->Prop)->Prop
def R0(X:Cx)(t:Ox):Prop :=
 ∀(pins:List (Addr×Obj)) (s:Shared) (σ:St) (H:Hp) (o i v:V) (G F u:Value) (Q:Hp->Prop),AF X pins σ H s->AR o G->AR i F->AR v u->t o i v H Q ->
  wpAny (model X.prog X.w) X.A (setItem G F u) (λ_ s'=>∃H',AF X pins σ H' s'/\Q H') X.xe s
section
variable {X:Cx}{pos:Pos}
def Nf(i:Nat):TG:=λv σ H Q=>Q (σ.set i (some v)) H
def WT(G:X.N.Nodup)(hi:X.N[i]?=some x)(hx:MT X.env.scope x)(hf:X.fn x=true\/X.env.scope.names.lookup x=some .local:=by first|exact .inl rfl|exact .inr rfl|assumption):PG X (.Name x pos) (Nf i):=by
 intro pins s σ H v u Q I r h;exact Hv (QV I G hi hx r (λs' F=>⟨_,H,F,h⟩) hf)
def Uw:Ov:=λvs σ H Q=>vs=[]/\Q σ H
def fe(t:TG)(u:Ov):Ov:=λvs σ H Q=>∃v r,vs=v::r/\t v σ H λF H'=>u r F H' Q
def FD:Ow X [] Uw:=by
 rintro pins s σ H vs us Q I r ⟨rfl,h⟩;cases r;exact assignInOrder_nil ⟨σ,H,I,h⟩
def BJ{e:Expr}{es:List Expr}{t:TG}{u:Ov}(h1:PG X e t)(h2:Ow X es u)
 (hs:(assignEach (e::es) X.env).map (·.2)=assign e X.env::(assignEach es X.env).map (·.2):=by rfl):Ow X (e::es) (fe t u):=by
 rintro pins s σ H vs us Q I r ⟨v,Z,rfl,h⟩;cases r with
 | cons r W =>
   rw[hs];exact Gg (AV (h1 pins s σ H _ _ _ I r h) λ_ Y ⟨F,H1,G,J⟩=>h2 pins Y F H1 _ _ Q G W J)
def R1(K:Frag)(n:Nat)(t:Ov):TG:=λv σ H Q=>∃a xs,v=.ref a/\BS K H a xs/\xs.length=n/\t xs σ H Q
def fg(Z:X.calm=true)(h:Ow X es t)(hn:(assignEach es X.env).length=n:=by rfl)(F:(assignEach es X.env).findIdx? (·.1)=none:=by rfl):PG X (.Tuple es k pos) (R1 X.K n t):=by
 rintro pins s σ H v u Q I r ⟨a,xs,rfl,hq,W,hw⟩;cases r;obtain⟨its,G,ht,hz⟩:=I.tuple hq;refine assign_Tuple_tuple (I.ok.hd Z) ht (by simp[hn,<-W,G.length]) F λh' Y=>?_;have J:AF X pins σ H { s with heap:=h' }:=I.kept (t':=s.toks) λb o e=>Y b o (B8 (Am e)) e
 exact h pins _ σ H xs _ Q J (by simpa using G) hw
def Ux(to F:TE)(t:Ox):TG:=λv σ H Q=>to σ H λo H1=>F σ H1 λi H2=>t o i v H2 λG=>Q σ G
def PP{o i:Expr}{to J:TE}{t:Ox}(ho:PE X o to)(hi:PE X i J)(hs:R0 X t)
 (ha:∀v,assign (.Subscript o i pos) X.env v=(do
   let F <- holding [v] (eval o X.env)
   let G <- holding [v,F] (eval i X.env)
   standAt pos
   holding [v,F,G] (setItem F G v)
   release [v,F,G] []):=by intro _;rfl):PG X (.Subscript o i pos) (Ux to J t):=by
 intro pins s σ H v u Q I r h;rw[ha];exact A6 (Bo (AV (ho pins s σ H _ I h) λF s1 ⟨x,H1,Y,W,q1⟩=>A6 (Bo (AV (hi pins s1 σ H1 _ Y q1) λG s2 ⟨y,H2,I2,r2,q2⟩=>A6 (Cm (A6 (Bo (AV (hs pins s2 σ H2 x y v F G u _ I2 W r2 r q2) λ_ s3 ⟨Z,I3,q3⟩=>wpAny_release ⟨σ,Z,I3,q3⟩))))))))
def Lm(te:TE)(g:TG):TS:=λD σ H=>te σ H λx H1=>g x σ H1 D.nx
def HY{tg e:Expr}{te:TE}{g:TG}(Z:PE X e te)(J:PG X tg g)(hs:swapsWithSole [tg] e pos.line X.env=pure false:=by rfl)(hw:swappedStores [tg] e X.env=pure none:=by rfl)
 (h1:(assignEach [tg] X.env).map (·.2)=[assign tg X.env]:=by rfl):PS X (.Assign [tg] e pos) (Lm te g):=by
 intro pins s σ H D I h;refine wpAny_Assign_stores (AV (Z pins s σ H _ I h) λv Y ⟨x,H1,G,F,W⟩=>?_) hs hw;rw[h1];exact AV (J pins Y σ H1 x v _ G F W) λ_ s2 q=>q
def IQ{i:Nat}{x:Str}{e:Expr}{te:TE}{pos':Pos}(Y:X.N.Nodup)(hi:X.N[i]?=some x)(hx:MT X.env.scope x)(he:PE X e te)(hs:swapsWith e (some (.Name x pos')) pos.line X.env=pure false:=by rfl)(hf:X.fn x=true\/X.env.scope.names.lookup x=some .local:=by first|exact .inl rfl|exact .inr rfl|assumption) :
 PS X (.Assign [.Name x pos'] e pos) (Lm te (Nf i)):=by
 intro pins s σ H D I h;exact wpAny_Assign_Name (AV (he pins s σ H _ I h) λv s1 ⟨y,H1,G,F,J⟩=>QV G Y hi hx F (λZ W=>⟨_,H1,W,J⟩) hf) hs
def Uy(i j:Nat)(ta:TA):TS:=λD σ H=>ta σ H λvs H1=>∃v w,vs=[v,w]/\D.nx ((σ.set i (some v)).set j (some w)) H1
def fh{kt k2 pt2}(hc:X.calm=true)(hN:X.N.Nodup)(hi:X.N[i]?=some x)(hj:X.N[j]?=some y)(hij:i≠j)(hx:X.env.scope.names.lookup x=some .local)(hy:X.env.scope.names.lookup y=some .local)(ha:PA X [a,b] ta)(hw:swappedStores [.Tuple [.Name x px,.Name y py] kt pt] (.Tuple [a,b] k2 pt2) X.env=pure (some [x,y]))(hs:swapsWithSole [.Tuple [.Name x px,.Name y py] kt pt] (.Tuple [a,b] k2 pt2) pos.line X.env=pure false:=by rfl) :
 PS X (.Assign [.Tuple [.Name x px,.Name y py] kt pt] (.Tuple [a,b] k2 pt2) pos) (Uy i j ta):=by
 intro pins s σ H D I h;rw[exec_Assign_arm];refine A6 (Cm ?_);rw[hs];refine A6 (Ab ?_);rw[As (by decide)];refine A6 (Tuple_ (AV (ha _ pins s σ H _ I h) λus J ⟨vs,H1,I1,r1,Z⟩=>?_));obtain⟨v,w,rfl,Z⟩:=Z;obtain⟨G,F,rfl,rv,Y⟩:∃G F,us=[G,F]/\AR v G/\AR w F:=by
  cases r1 with
  | cons p q =>
    cases q with
    | cons p' q' =>
      cases q';exact⟨_,_,rfl,p,p'⟩
 refine C3 ?_ (by show 2<=sizeLine;decide);have I2:AF X pins σ H1 { J with heap:=J.heap.push { cls:=.type "tuple",data:=.seq [G,F].toArray } }:=I1.kept (t':=J.toks) λb o e=>A7 _ e
 rw[hw];refine A6 (Ab ?_);show wpAny (model X.prog X.w) X.A (do rule "assign.swapped-stores";let items <- unpackItems (.ref J.heap.objs.size) 2 none;assignInOrder [λv=>bindName X.env y v,λv=>bindName X.env x v] items.reverse;pure Flow.next) _ _ _;refine A6 (Gh (A6 (unpackItems_tuple (items:=#[G,F]) (I.ok.hd hc) (IsTup.new J.heap _) λh' W=>?_)));show wpAny _ _ (assignInOrder [λv=>bindName X.env y v,λv=>bindName X.env x v] [F,G] >>= λ_=>pure Flow.next) _ _ _;refine A6 (Gg (Jq (QV (I2.kept (h':=h') (t':=J.toks) λb o e=>W b o (B8 (Am e)) e) hN hj (.inl hy) Y (λs2 I4=>Gg (Jq (QV I4 hN hi (.inl hx) rv (λs3 I5=>assignInOrder_nil (Ab ?_)) (.inr hx)))) (.inr hy))));rw[List.set_comm _ _ (Cc hij)]at I5
 exact⟨_,H1,I5,Z⟩
end
section
variable {X:Cx}{pos:Pos}
def fj(c:TT)(tb:TS):TS:=λD σ H=>∃W:Nat->St->Hp->Prop,(∃m,W m σ H)/\∀m σ H,W m σ H ->
 c σ H λb H1=>if b=true then ∃N:St->Hp->Prop,(∀F H',N F H'->∃G,G<m/\W G F H')/\tb { D with nx:=N,ct:=N,bk:=D.nx } σ H1 else D.nx σ H1
def Oy{tb:TS}(hp:PassesOwn (model X.prog X.w) X.A X.env X.xe)(hc:PT X c tc)(hb:IP X body tb):PS X (.While c body [] pos) (fj tc tb):=by
 intro pins s σ H D I h;obtain⟨W,⟨m0,w0⟩,Z⟩:=h;refine wpAny_While (codeAny_whileLoop (λn s'=>∃Y H',AF X pins Y H' s'/\W n Y H') ?_ m0 ⟨σ,H,I,w0⟩);rintro n s1 ⟨G,H1,I1,w1⟩;refine Dp hp (AV (hc pins s1 G H1 _ I1 (Z n G H1 w1)) λb s2 ⟨H2,I2,q2⟩=>?_);cases b with
 | true =>
   obtain⟨N,hN,q2⟩:=q2;rw[Au rfl];refine Dp hp (AV (hb pins s2 G H2 _ I2 q2) λf s3 q3=>?_);cases f with
   | next =>
     obtain⟨F,J,I3,n3⟩:=q3;obtain⟨m',hm,w3⟩:=hN F J n3;exact⟨m',hm,F,J,I3,w3⟩
   | cont =>
     obtain⟨F,J,I3,n3⟩:=q3;obtain⟨m',hm,w3⟩:=hN F J n3;exact⟨m',hm,F,J,I3,w3⟩
   | brk=>exact q3
   | ret v=>exact q3
 | false =>
   rw[As Ay];exact Ez ⟨G,H2,I2,q2⟩
end
structure It where
 go:Nat->Hp->Prop
 wO:Nat->Hp->V->Hp->Prop
 stop:Nat->Hp->Prop
def DH(X:Cx)(pins:List (Addr×Obj))(H:Hp)(b:Addr):Prop :=
 H b=none/\b≠X.env.locals/\b∉X.fs/\(b∈X.ex\/X.Ã.heap.objs.size<=b)/\(∀x c,X.env.cells.lookup x=some c->c≠b)/\∀p∈X.pn++pins,p.1≠b
def AF.vG{X:Cx}{pins:List (Addr×Obj)}{σ:St}{H H':Hp}{s:Shared}{b:Addr}(I:AF X pins σ H s)(hb:s.heap.objs.size<=b)(hn:H' b=none):DH X pins H' b:=by
 refine⟨hn,Co (Bc I.lt hb),I.xW hb,.inr (Bk I.sz hb),λx c e z=>?_,λp F z=>?_⟩
 .obtain⟨v,q⟩:=I.cell x c e;exact absurd (Bc q.lt (by rw[z];exact hb)) (Ce _)
 .exact absurd (Bc (Am (I.pin p F).1) (by rw[z];exact hb)) (Ce _)
structure KI(P:Program)(w:World)(K:Frag)(tg:Expr)(J:It)(fp:List Addr)(it:Addr)(tn:Nat->Heap->Prop):Prop where
 mem:it∈fp
 obj:∀i h,tn i h->∀b∈fp,∃o,h.get? b=some o/\∀v,o.data≠.cell v
 keep:∀i h h',tn i h->(∀b∈fp,∀o,h.get? b=some o->h'.get? b=some o)->tn i h'
 item:∀(X:Cx),X.prog=P->X.w=w->X.K=K->X.calm=true->∀(i:Nat) (pins:List (Addr×Obj)) (s:Shared) (σ:St) (H:Hp) (E:Value->Shared->Prop),AF X pins σ H s->(∀b∈fp,DH X pins H b)->tn i s.heap->J.go i H ->
  wpAny (model P w) X.A (pyNext (.ref it)) (λr s1=>∃u,r=some u /\
   wpAny (model P w) X.A (letOwnedTupleGo tg (.ref it) u) (λ_ s2=>∃x H',AF X pins σ H' s2/\AR x u/\J.wO i H x H'/\tn (i+1) s2.heap/\∀b∈fp,H' b=none) E s1) E s
 done:∀(X:Cx),X.prog=P->X.w=w->X.K=K->X.calm=true->∀(i:Nat) (pins:List (Addr×Obj)) (s:Shared) (σ:St) (H:Hp) (E:Value->Shared->Prop),AF X pins σ H s->(∀b∈fp,DH X pins H b)->tn i s.heap->J.stop i H ->
  wpAny (model P w) X.A (pyNext (.ref it)) (λr s1=>r=none/\AF X pins σ H s1) E s
 self:∀(A:Around) (i:Nat) (s:Shared) (Q:Value->Shared->Prop) (E:Value->Shared->Prop),tn i s.heap->Q (.ref it) s->wpAny (model P w) A (pyIter (.ref it)) Q E s
abbrev TI:=St->Hp->(It->Hp->Prop)->Prop
def So(X:Cx)(pins:List (Addr×Obj))(σ:St)(tg:Expr)(R:It->Hp->Prop)(F:Value)(I:Shared):Prop :=
 ∃(it:Addr) (fp:List Addr) (G:Nat->Heap->Prop) (J:It) (H':Hp),F=.ref it/\AF X pins σ H' I/\KI X.prog X.w X.K tg J fp it G/\G 0 I.heap/\(∀b∈fp,DH X pins H' b)/\R J H'
def PI(X:Cx)(tg F:Expr)(G:TI):Prop :=
 ∀(pins:List (Addr×Obj)) (s:Shared) (σ:St) (H:Hp) (R:It->Hp->Prop),AF X pins σ H s->G σ H R ->
  wpAny (model X.prog X.w) X.A (eval F X.env) (λv I=>wpAny (model X.prog X.w) X.A (pyIter v) (So X pins σ tg R) X.xe I) X.xe s
def R3{u:Value}(F:s.heap.get? it=some o)(G:o.cls=.type n)(hd:o.data=.fields vs)(hn:["enumerate","zip","dict_itemiterator","dict_reverseitemiterator","odict_iterator","itertools.zip_longest","itertools.pairwise"].contains n=false)(hQ:Q () s):wpAny M A (letOwnedTupleGo tg (.ref it) u) Q E s:=by
 unfold letOwnedTupleGo;cases tg<;>first
  | exact Ab hQ
  | (cases u<;>first
      | exact Ab hQ
      | (refine A6 (wpAny_load F ?_)
         rw[G,hd];show wpAny M A (if (["enumerate","zip","dict_itemiterator","dict_reverseitemiterator","odict_iterator","itertools.zip_longest","itertools.pairwise"].contains n&&vs[0]?==some (rawInt _))=true then _ else _) Q E s;rw[As (by intro h;rw[hn,Bool.false_and]at h;cases h)];exact Ab hQ))
def Ng(K:Frag)(a:Addr):It :=
 ⟨λi H=>∃xs x,AH K H a xs/\xs[i]?=some x,λi H x H'=>H'=H/\∀xs,AH K H a xs->xs[i]?=some x,λi H=>∃xs,AH K H a xs/\xs.length<=i⟩
def Nh(lo:Int)(n:Nat):It:=⟨λi _=>i<n,λi H x H'=>H'=H/\x=.int (lo+i),λi _=>n<=i⟩
def fm{P:Program}{w:World}{K:Frag}{tg:Expr}(a it:Addr):KI P w K tg (Ng K a) [it] it (λi h=>h.IsListIter it a i) where
 mem:=by simp
 obj:=λi h st b hb=>by
  have e:b=it:=by simpa using hb
  subst e;obtain⟨o,e,c,d⟩:=st;exact⟨o,e,λv z=>by rw[d]at z;cases z⟩
 keep:=λi h h' st k=>st.at λo e=>k it (by simp) o e
 item:=by
  intro X hP hw hK hc i pins s σ H E I hf st G;subst hP hw hK;obtain⟨xs,x,hq,hx⟩:=G;obtain⟨its,Z,p,hz⟩:=I.list hq;obtain⟨u,hu,ru⟩:=Z.get hx;obtain⟨J,Y,f2,f3,f4,f5⟩:=hf it (by simp);refine wpAny_pyNext_list_item st p.isList (x:=u) (by simpa using hu) λh' F sb=>?_;have I1:AF X pins σ H { s with heap:=h' }:=I.turned (t':=s.toks) (λb o hb e=>(sb.2 b hb).trans e) J Y f3 f4 f5;obtain⟨o,e,c,d⟩:=id F;exact⟨u,rfl,R3 (s:={ s with heap:=h' }) e c d (by decide) ⟨x,H,I1,ru,⟨rfl,λys hy=>by rw[I.Ŏ hy hq];exact hx⟩,F,λb hb=>(hf b hb).1⟩⟩
 done:=by
  intro X hP hw hK hc i pins s σ H E I hf st G;subst hP hw hK;obtain⟨xs,hq,hx⟩:=G;obtain⟨its,Z,p,hz⟩:=I.list hq;obtain⟨J,Y,f2,f3,f4,f5⟩:=hf it (by simp);have hl:=Z.length;exact wpAny_pyNext_list_end (I.ok.hd hc) st p.isList (by simp;lia) λh' eb=>⟨rfl,I.turned (t':=s.toks) (λb o hb e=>eb b o hb e) J Y f3 f4 f5⟩
 self:=λ_ _ _ _ _ st h=>wpAny_pyIter_listiter st h
def Sq{P:Program}{w:World}{K:Frag}{tg:Expr}(it:Addr)(lo:Int)(n:Nat):KI P w K tg (Nh lo n) [it] it (λi h=>IsRangeIter h it (lo+(i:Nat)*1) ((n:Int)-(i:Nat)) 1) where
 mem:=by simp
 obj:=λi h st b hb=>by
  have e:b=it:=by simpa using hb
  subst e;exact⟨_,st,λv z=>by
   have z':Data.fields _=Data.cell v:=z;cases z'⟩
 keep:=λi h h' st k=>k it (by simp) _ st
 item:=by
  intro X hP hw hK hc i pins s σ H E I hf st G;subst hP hw hK;refine GH (λJ Y f2 f3 f4 Z=>?_) (hf it (by simp));refine(Walks.range (prog:=X.prog) (w:=X.w) (I.ok.hd hc) it lo 1 n).item i s _ _ G st λv h' tk hv F kk=>?_;obtain⟨t,rfl⟩:=hv;have I1:AF X pins σ H { s with heap:=h',toks:=tk }:=I.turned (λb o hb e=>kk b o (by simpa using hb) e) J Y f3 f4 Z;refine AX _ (CC rfl (R3 (s:={ s with heap:=h',toks:=tk }) (n:="range_iterator") F rfl rfl (by decide) ⟨.int (lo+i),H,I1,⟨t,?_⟩,⟨rfl,rfl⟩,F,λb hb=>(hf b hb).1⟩));rw[Int.mul_one]
 done:=by
  intro X hP hw hK hc i pins s σ H E I hf st G;subst hP hw hK;refine GH (λJ Y f2 f3 f4 Z=>?_) (hf it (by simp));exact wpAny_pyNext_range_end (I.ok.hd hc) st (by have:n<=i:=G;lia) λh' eb=>⟨rfl,I.turned (t':=s.toks) (λb o hb e=>eb b o hb e) J Y f3 f4 Z⟩
 self:=λ_ _ _ _ _ st h=>F9 st h
end L2
namespace L2
open PySem PySem.Spec PyProof.Rows
section
variable {X:Cx}{tg:Expr}
def WU(K:Frag)(tl:TE):TI:=λσ H R=>tl σ H λx H1=>∃a,x=.ref a/\(∃xs,AH K H1 a xs)/\R (Ng K a) H1
def fq{l:Expr}{tl:TE}(Y:PE X l tl):PI X tg l (WU X.K tl):=by
 intro pins s σ H R I h;refine AV (Y pins s σ H _ I h) λv G ⟨x,H1,F,J,W⟩=>?_;obtain⟨a,rfl,⟨xs,hq⟩,q⟩:=W;cases J;obtain⟨its,Z,p,hz⟩:=F.list hq;refine Ec p.isList ⟨G.heap.objs.size,[G.heap.objs.size],_,_,H1,rfl,F.kept (t':=G.toks) λb o e=>A7 _ e,fm a _,⟨_,Ax _ rfl,rfl,rfl⟩,λb hb=>?_,q⟩;have e:b=G.heap.objs.size:=by simpa using hb
 subst e;exact F.vG (Aa _) (F.Í.fresh (Aa _))
def WV{pins:List (Addr×Obj)}{σ:St}{H:Hp}{s:Shared}{R:It->Hp->Prop}{E:Value->Shared->Prop}{lo hi:Int}{t u v:Tok}{tk:Nat}(I:AF X pins σ H s)(h1:-(2^62)<=lo)(h2:lo<2^62)(W:-(2^62)<=hi)(G:hi<2^62)
 (q:R (Nh lo (hi-lo).toNat) H):wpAny (model X.prog X.w) X.A (pyIter (.ref s.heap.objs.size)) (So X pins σ tg R) E { s with heap:=s.heap.push { cls:=.type "range",data:=.fields #[.int lo t,.int hi u,.int 1 v] },toks:=tk }:=by
 refine Gi (IsRange.new ..) (small_one h1 h2 W G) ?_;have F:AF X pins σ H { s with heap:=s.heap.push { cls:=.type "range",data:=.fields #[.int lo t,.int hi u,.int 1 v] },toks:=tk }:=I.kept λb o e=>A7 _ e
 refine⟨(s.heap.push { cls:=.type "range",data:=.fields #[.int lo t,.int hi u,.int 1 v] }).objs.size,[(s.heap.push { cls:=.type "range",data:=.fields #[.int lo t,.int hi u,.int 1 v] }).objs.size],_,_,H,rfl,
  F.kept (t':=tk) λb o e=>A7 _ e,Sq _ lo (hi-lo).toNat,?_,λb hb=>?_,q⟩
 .have Y:lo+((0:Nat):Int)*1=lo:=by simp
  have J:(((hi-lo).toNat:Nat):Int)-((0:Nat):Int)=Builtin.Range.rangeSize lo hi 1:=by rw[rangeSize_one];split<;>lia
  show IsRangeIter _ _ (lo+((0:Nat):Int)*1) ((((hi-lo).toNat:Nat):Int)-((0:Nat):Int)) 1;rw[Y,J];exact Ax _ rfl
 .have e:b=(s.heap.push { cls:=.type "range",data:=.fields #[.int lo t,.int hi u,.int 1 v] }).objs.size:=by simpa using hb
  subst e;exact F.vG (Aa _) (F.Í.fresh (Aa _))
def fu(ta:TA):TI:=λσ H R=>ta σ H λvs H1=>∃j:Int,vs=[.int j]/\-(2^62)<=j/\j<2^62/\R (Nh 0 j.toNat) H1
def fx(ta:TA):TI:=λσ H R=>ta σ H λvs H1=>∃i j:Int,vs=[.int i,.int j]/\(-(2^62)<=i/\i<2^62/\-(2^62)<=j/\j<2^62)/\R (Nh i (j-i).toNat) H1
def Uz{a:Expr}{ta:TA}{p pos:Pos}(W:Gl X "range")(hm:X.mg "range"=none)(ha:PA X [a] ta)(hs:starEach [a] X.env=[(false,eval a X.env)]:=by rfl):PI X tg (.Call (.Name "range" p) [a] [] pos) (fu ta):=by
 intro pins s σ H R I h;refine Call_ (LH I W hm boot_range (Bq (AV (ha pos pins s σ H _ I h) λus s1 ⟨vs,H1,J,G,F⟩=>?_) hs rfl));obtain⟨j,rfl,F,Z,q⟩:=F;cases G with
 | cons r Y =>
   cases Y;obtain⟨t,rfl⟩:=r;exact call_range_1 (WV J (by lia) (by lia) F Z (by simpa using q))
def UA(Z:Gl X "range")(hm:X.mg "range"=none)(ha:PA X [a,b] ta)(hs:starEach [a,b] X.env=[(false,eval a X.env),(false,eval b X.env)]:=by rfl)(hs2:starEach [b] X.env=[(false,eval b X.env)]:=by rfl) :
 PI X tg (.Call (.Name "range" p) [a,b] [] pos) (fx ta):=by
 intro pins s σ H R I h;refine Call_ (LH I Z hm boot_range (Bq (AV (ha pos pins s σ H _ I h) λus s1 ⟨vs,H1,Y,W,F⟩=>?_) (by rw[hs,hs2]) (by rw[hs2];rfl)));obtain⟨i,j,rfl,⟨F,q2,q3,q4⟩,q⟩:=F;cases W with
 | cons r G =>
   cases G with
   | cons J G =>
     cases G;obtain⟨t,rfl⟩:=r;obtain⟨t',rfl⟩:=J;exact call_range_2 (WV Y F q2 q3 q4 q)
def UB(Y:TI)(g:TG)(tb:TS):TS:=λD σ H=>Y σ H λJ H1=>∃W:Nat->Nat->St->Hp->Prop,(∃m,W 0 m σ H1)/\∀i m σ H,W i m σ H ->
 (J.stop i H/\D.nx σ H)\/(J.go i H/\∃N:St->Hp->Prop,(∀F H',N F H'->∃I,I<m/\W (i+1) I F H')/\∀x H',J.wO i H x H'->g x σ H' λG H2=>tb { D with nx:=N,ct:=N,bk:=D.nx } G H2)
def PQ(fp:List Addr)(h:Heap):List (Addr×Obj):=fp.filterMap λb=>(h.get? b).map λo=>(b,o)
def PR(hb:b∈fp)(e:h.get? b=some o):(b,o)∈PQ fp h:=Di.mpr ⟨b,hb,by rw[e];rfl⟩
def fy(F:p∈PQ fp h):p.1∈fp/\h.get? p.1=some p.2:=by
 obtain⟨b,hb,e⟩:=Di.mp F;cases q:h.get? b with
 | none=>rw[q]at e;cases e
 | some o =>
   grind
def AF.pinned(I:AF X pins σ H s)(hf:∀b∈fp,DH X pins H b)(W:∀b∈fp,∃o,s.heap.get? b=some o/\∀v,o.data≠.cell v):AF X (pins++PQ fp s.heap) σ H s :=
 I.w6 λp J=>(Cn.mp J).elim (λz=>I.pin p (Bg _ z)) λz=>by
  obtain⟨hb,e⟩:=fy z;obtain⟨Z,Y,G,_⟩:=hf p.1 hb;obtain⟨o,F,d⟩:=W p.1 hb;rw[e]at F;cases F
  exact⟨e,Z,Y,G,d⟩
def AF.ĭ(I:AF X (pins++pl) σ H s):AF X pins σ H s:=I.w6 λp F=>I.pin p (Bg _ (Cd _ F))
def IR{tb:TS}(hp:PassesOwn (model X.prog X.w) X.A X.env X.xe)(hc:X.calm=true)(hi:PI X tg iter wi)(hg:PG X tg g)(hb:IP X body tb)(hs:∀x,foldedSetIterable iter X.env x=pure x:=by intro _;rfl):PS X (.For tg iter body [] pos) (UB wi g tb):=by
 intro pins s σ H D I h;refine wpAny_For (AV (hi pins s σ H _ I h) λv s1 h1=>AV h1 λak s2 h2=>?_) hs;obtain⟨it,fp,tn,J,H2,rfl,I2,T,ai,f2,W,⟨m0,w0⟩,af⟩:=h2;have Y:∀{H':Hp},(∀b∈fp,H' b=none)->∀b∈fp,DH X pins H' b:=λhn b hb=>⟨hn b hb,(f2 b hb).2⟩
 refine codeAny_forLoop_any (λn s'=>∃i aa H',AF X pins aa H' s'/\tn i s'.heap/\(∀b∈fp,H' b=none)/\W i n aa H') ?_ m0 ⟨0,σ,H2,I2,ai,λb hb=>(f2 b hb).1,w0⟩;refine λn s3=>FT λi G H3=>DP λI3 ad ae w3=>?_;rcases af i n G H3 w3 with⟨stop,qn⟩|⟨go,N,hN,step⟩
 .refine Dp hp (AV (T.done X rfl rfl rfl hc i pins s3 G H3 X.xe I3 (Y ae) ad stop) λr s4 aj=>?_);obtain⟨hr,I4⟩:=aj;subst hr;exact Ez ⟨G,H3,I4,qn⟩
 .refine Dp hp (AV (T.item X rfl rfl rfl hc i pins s3 G H3 X.xe I3 (Y ae) ad go) λr s4=>ES λu=>BW λhr h4=>?_);subst hr;refine Dp hp (AV h4 λ_ s5=>FO λx H5=>FL λI5 r5 y5 ac ag=>?_);refine Dp hp (AV (hg _ s5 G H5 x u _ (I5.pinned (Y ag) (T.obj _ _ ac)) r5 (step x H5 y5)) λ_ s6 ⟨ah,H6,I6,q6⟩=>Dp hp (AV (hb _ s6 ah H6 _ I6 q6) λf s7 q7=>?_));have again:∀{F:St}{Z:Hp},AF X (pins++PQ fp s5.heap) F Z s7->N F Z->∃m,m<n/\∃i aa H',AF X pins aa H' s7/\tn i s7.heap/\(∀b∈fp,H' b=none)/\W i m aa H':=λ{F Z} I7 n7=>by
   refine DQ (hN F Z n7) λm'=>BW λhm w7=>?_;refine⟨m',hm,i+1,F,Z,I7.ĭ,T.keep _ _ _ ac λb hb o e=>(I7.pin (b,o) (Bg _ (Bg _ (PR hb e)))).1,λb hb=>?_,w7⟩;refine DQ (T.obj _ _ ac b hb) λo=>BW λe d=>?_;exact(I7.pin (b,o) (Bg _ (Bg _ (PR hb e)))).2.1
  cases f with
  | next=>obtain⟨F,Z,I7,n7⟩:=q7;exact again I7 n7
  | cont=>obtain⟨F,Z,I7,n7⟩:=q7;exact again I7 n7
  | brk=>obtain⟨F,Z,I7,q7⟩:=q7;exact⟨F,Z,I7.ĭ,q7⟩
  | ret v=>obtain⟨x7,F,Z,I7,r7,q7⟩:=q7;exact⟨x7,F,Z,I7.ĭ,r7,q7⟩
end
def R4{K:Frag}{a:Addr}{xs:List V}{g:TG}{tb:TS}{D:DY}{σ:St}{H:Hp}(F:Nat->St->Hp->Prop)(Z:F 0 σ H)(hl:∀i σ H,i<=xs.length->F i σ H->AH K H a xs)
 (hs:∀i x σ H,xs[i]?=some x->F i σ H->g x σ H λI H2=>tb { D with nx:=F (i+1),ct:=F (i+1),bk:=D.nx } I H2) (hd:∀σ H,F xs.length σ H->D.nx σ H) :
 ∃W:Nat->Nat->St->Hp->Prop,(∃m,W 0 m σ H)/\∀i m σ H,W i m σ H ->
  ((Ng K a).stop i H/\D.nx σ H)\/((Ng K a).go i H/\∃N:St->Hp->Prop,(∀G H',N G H'->∃Y,Y<m/\W (i+1) Y G H')/\∀x H',(Ng K a).wO i H x H'->g x σ H' λI H2=>tb { D with nx:=N,ct:=N,bk:=D.nx } I H2):=by
 refine⟨λi m σ H=>m=xs.length-i/\i<=xs.length/\F i σ H,⟨xs.length,by simp,Bj _,Z⟩,?_⟩;rintro i m σ H ⟨rfl,hi,p⟩;have q:=hl i σ H hi p;by_cases J:i<xs.length
 .refine .inr ⟨⟨xs,xs[i],q,by simp[J]⟩,F (i+1),λG H' p'=>⟨xs.length-(i+1),by lia,rfl,J,p'⟩,λx H' y=>?_⟩;obtain⟨rfl,y⟩:=y;exact hs i x σ _ (y xs q) p
 .have e:i=xs.length:=by lia
  subst e;exact .inl ⟨⟨xs,q,Aa _⟩,hd σ H p⟩
def R5{lo:Int}{n:Nat}{g:TG}{tb:TS}{D:DY}{σ:St}{H:Hp}(G:Nat->St->Hp->Prop)(Z:G 0 σ H)
 (hs:∀i σ H,i<n->G i σ H->g (.int (lo+i)) σ H λJ H2=>tb { D with nx:=G (i+1),ct:=G (i+1),bk:=D.nx } J H2) (hd:∀σ H,G n σ H->D.nx σ H) :
 ∃W:Nat->Nat->St->Hp->Prop,(∃m,W 0 m σ H)/\∀i m σ H,W i m σ H ->
  ((Nh lo n).stop i H/\D.nx σ H)\/((Nh lo n).go i H/\∃N:St->Hp->Prop,(∀I H',N I H'->∃Y,Y<m/\W (i+1) Y I H')/\∀x H',(Nh lo n).wO i H x H'->g x σ H' λJ H2=>tb { D with nx:=N,ct:=N,bk:=D.nx } J H2):=by
 refine⟨λi m σ H=>m=n-i/\i<=n/\G i σ H,⟨n,by simp,Bj _,Z⟩,?_⟩;rintro i m σ H ⟨rfl,hi,p⟩;by_cases F:i<n
 .refine .inr ⟨F,G (i+1),λI H' p'=>⟨n-(i+1),by lia,rfl,F,p'⟩,λx H' y=>?_⟩;obtain⟨e,y⟩:=y;subst e y;exact hs i σ _ F p
 .have e:i=n:=by lia
  subst e;exact .inl ⟨Aa _,hd σ H p⟩
end L2
namespace L2
open PySem PySem.Spec PyProof.Rows
abbrev R2:=V->V->Hp->VK->Prop
def FA(X:Cx)(f:Value->Value->Sem Value)(r:R2):Prop :=
 ∀(pins:List (Addr×Obj)) (s:Shared) (σ:St) (H:Hp) (x y:V) (v u:Value) (Q:VK),AF X pins σ H s->AR x v->AR y u->r x y H Q ->
  wpAny (model X.prog X.w) X.A (f v u) (EP X pins σ Q) X.xe s
def UC(X:Cx)(f:Value->Sem Value)(r:V->Hp->VK->Prop):Prop :=
 ∀(pins:List (Addr×Obj)) (s:Shared) (σ:St) (H:Hp) (x:V) (v:Value) (Q:VK),AF X pins σ H s->AR x v->r x H Q ->
  wpAny (model X.prog X.w) X.A (f v) (EP X pins σ Q) X.xe s
def IW(X:Cx)(f:Value)(r:List V->Hp->VK->Prop):Prop :=
 ∀(pins:List (Addr×Obj)) (s:Shared) (σ:St) (H:Hp) (xs:List V) (us:List Value) (Q:VK),AF X pins σ H s->AM xs us->r xs H Q ->
  wpAny (model X.prog X.w) X.A (call f us) (EP X pins σ Q) X.xe s
def Ss(r:R2)(ta tb:TE):TE:=λσ H Q=>ta σ H λx H1=>tb σ H1 λy H2=>r x y H2 Q
def fz(r:V->Hp->VK->Prop)(ta:TE):TE:=λσ H Q=>ta σ H λx H1=>r x H1 Q
def rI(C:Int->Int->Prop)(g:Int->Int->V):R2:=λx y H Q=>∃i j,x=.int i/\y=.int j/\C i j/\Q (g i j) H
def Ni(g:Int->Int->V):R2:=λx y H Q=>∃i j,x=.int i/\y=.int j/\Q (g i j) H
def rU(g:Int->V):V->Hp->VK->Prop:=λx H Q=>∃i,x=.int i/\Q (g i) H
section
variable {X:Cx}{a b c:Expr}{ta tb tc:TE}{pos:Pos}
def Oz(ha:PE X a ta)(hb:PE X b tb){pins:List (Addr×Obj)}{s:Shared}{σ:St}{H:Hp}{R:V->V->Hp->Prop}(I:AF X pins σ H s)
 (h:ta σ H λx H1=>tb σ H1 λy H2=>R x y H2) {Q:Value->Shared->Prop}{f:Value->Value->Sem Value}
 (hf:∀v u J x y H2,AF X pins σ H2 J->AR x v->AR y u->R x y H2->wpAny (model X.prog X.w) X.A (f v u) Q X.xe J) :
 wpAny (model X.prog X.w) X.A (eval a X.env) (λv G=>wpAny (model X.prog X.w) X.A (eval b X.env) (λu F=>wpAny (model X.prog X.w) X.A (f v u) Q X.xe F) X.xe G) X.xe s:=by
 exact AV (ha pins s σ H _ I h) λv s1 ⟨x,H1,Y,W,Z⟩=>AV (hb pins s1 σ H1 _ Y Z) λu J ⟨y,H2,I2,r2,q2⟩=>hf v u J x y H2 I2 W r2 q2
def BG{op:Operator}{r:R2}(J:FA X (binaryOp op) r)(Z:PE X a ta)(hb:PE X b tb):PE X (.BinOp a op b pos) (Ss r ta tb):=by
 intro pins s σ H Q I h;exact wpAny_BinOp (Oz Z hb I h λv u F x y H2 G W Y q=>J pins F σ H2 x y v u Q G W Y q)
def NU(F:UC X (unaryOp op) r)(G:PE X a ta):PE X (.UnaryOp op a pos) (fz r ta):=by
 intro pins s σ H Q I h;exact UnaryOp_ (AV (G pins s σ H _ I h) λv Y ⟨x,H1,Z,J,W⟩=>F pins Y σ H1 x v Q Z J W)
def Su{f:Value->Value->Sem Value}{C:Int->Int->Prop}{g:Int->Int->Int}
 (rule:∀(i j:Int) (t u:Tok) (s:Shared) (Q:Value->Shared->Prop) (E:Value->Shared->Prop),C i j->Q (.int (g i j) s.toks) { s with toks:=s.toks+1 }->wpAny (model X.prog X.w) X.A (f (.int i t) (.int j u)) Q E s) :
 FA X f (rI C λi j=>.int (g i j)):=by
 rintro pins s σ H x y v u Q I F G ⟨i,j,rfl,rfl,J,q⟩;obtain⟨t,rfl⟩:=F;obtain⟨t',rfl⟩:=G;exact rule i j t t' s _ _ J ⟨.int (g i j),H,I.tok _,⟨_,rfl⟩,q⟩
def OA{f:Value->Value->Sem Value}{g:Int->Int->Int}
 (rule:∀(i j:Int) (t u:Tok) (s:Shared) (Q:Value->Shared->Prop) (E:Value->Shared->Prop),Q (.int (g i j) s.toks) { s with toks:=s.toks+1 }->wpAny (model X.prog X.w) X.A (f (.int i t) (.int j u)) Q E s) :
 FA X f (Ni λi j=>.int (g i j)):=by
 rintro pins s σ H x y v u Q I F G ⟨i,j,rfl,rfl,q⟩;obtain⟨t,rfl⟩:=F;obtain⟨t',rfl⟩:=G;exact rule i j t t' s _ _ ⟨.int (g i j),H,I.tok _,⟨_,rfl⟩,q⟩
def Nj{f:Value->Value->Sem Value}{g:Int->Int->Bool}
 (rule:∀(i j:Int) (t u:Tok) (s:Shared) (Q:Value->Shared->Prop) (E:Value->Shared->Prop),Q (.bool (g i j)) s->wpAny (model X.prog X.w) X.A (f (.int i t) (.int j u)) Q E s) :
 FA X f (Ni λi j=>.bl (g i j)):=by
 rintro pins s σ H x y v u Q I F G ⟨i,j,rfl,rfl,q⟩;obtain⟨t,rfl⟩:=F;obtain⟨t',rfl⟩:=G;exact rule i j t t' s _ _ ⟨.bl (g i j),H,I,rfl,q⟩
def UD(i j:Int):Prop:=0<j/\j<1073741824
def UE(i j:Int):Prop:=0<=j/\j<=1000000/\i.natAbs<2^64
def OB(i j:Int):Prop:=(-(2^64)<i/\i<2^64)\/(-(2^64)<j/\j<2^64)
def OB.ok{i j:Int}(h:OB i j):IntMulOk i j:=by
 rcases h with⟨h1,h2⟩|⟨h1,h2⟩
 .exact .of_left (intBits_le_64 h1 h2)
 .exact .of_right (intBits_le_64 h1 h2)
def GK:FA X (binaryOp .Add) (Ni λi j=>.int (i+j)):=OA λ_ _ _ _ _ _ _ q=>add_int q
def Kj:FA X (binaryOp .Sub) (Ni λi j=>.int (i-j)):=OA λ_ _ _ _ _ _ _ q=>sub_int q
def OD:FA X (binaryOp .Mult) (rI OB λi j=>.int (i*j)):=Su λ_ _ _ _ _ _ _ F q=>mul_int q F.ok
def PU:FA X (binaryOp .FloorDiv) (rI UD λi j=>.int (i/j)):=Su λi j _ _ _ _ _ F q=>by
 have h1:(0:Int)<j:=F.1;have h2:j<1073741824:=F.2;exact floordiv_int (by lia) (by rw[Int.fdiv_eq_ediv_of_nonneg i (by lia)];exact q) (.inl (J6 (by lia)))
def NV:FA X (binaryOp .Mod) (rI (λ_ j=>0<j) λi j=>.int (i%j)):=Su λi j _ _ _ _ _ F q=>by
 have h1:(0:Int)<j:=F;exact mod_int' (by lia) (by rw[Int.fmod_eq_emod_of_nonneg i (by lia)];exact q)
def fC:FA X (binaryOp .Pow) (rI UE λi j=>.int (i^j.toNat)):=Su λ_ _ _ _ _ _ _ F q=>pow_int_small F.1 F.2.1 F.2.2 q
def fD:FA X (binaryOp .BitAnd) (Ni λi j=>.int (Builtin.bitAnd i j)):=OA λ_ _ _ _ _ _ _ q=>and_int q
def fE{f:Value->Sem Value}{g:Int->Int}
 (rule:∀(i:Int) (t:Tok) (s:Shared) (Q:Value->Shared->Prop) (E:Value->Shared->Prop),Q (.int (g i) s.toks) { s with toks:=s.toks+1 }->wpAny (model X.prog X.w) X.A (f (.int i t)) Q E s) :
 UC X f (rU λi=>.int (g i)):=by
 rintro pins s σ H x v Q I F ⟨i,rfl,q⟩;obtain⟨t,rfl⟩:=F;exact rule i t s _ _ ⟨.int (g i),H,I.tok _,⟨_,rfl⟩,q⟩
def NW:UC X (unaryOp .USub) (rU λi=>.int (-i)):=fE λ_ _ _ _ _ q=>neg_int q
end
def R6:V->V->Bool
 | .non,.non=>true|.non,.int _=>true|.int _,.non=>true|.non,.bl _=>true|.bl _,.non=>true|.non,.str _=>true|.str _,.non=>true
 | .int _,.int _=>true|.bl _,.bl _=>true|.str _,.str _=>true|.byt _,.byt _=>true
 | .int _,.str _=>true|.str _,.int _=>true|.bl _,.str _=>true|.str _,.bl _=>true
 | _,_=>false
def fF:R2:=λx y H Q=>R6 x y=true/\Q (.bl (decide (x=y))) H
def fG:R2:=λx y H Q=>R6 x y=true/\Q (.bl (!decide (x=y))) H
def WW:decide (V.int i=V.int j)=(i==j):=by
 rw[Cy];simp
def WX:decide (V.bl i=V.bl j)=(i==j):=by
 rw[Cy];simp
def WY:decide (V.str i=V.str j)=(i==j):=by
 rw[Cy];simp
def WZ:decide (V.byt i=V.byt j)=(i.toList==j.toList):=by
 rw[Cy];cases i;cases j;simp
section
variable {X:Cx}{a b c:Expr}{ta tb tc:TE}{pos:Pos}
def FZ(I:AF X pins σ H s)(q:Q (.bl k) H)(e:k=k'):EP X pins σ Q (.bool k') s:=by
 subst e;exact⟨.bl k,H,I,rfl,q⟩
def EI:FA X (compareOp .Eq) fF:=by
 rintro pins s σ H x y v u Q I J F ⟨G,q⟩;cases x with
 | non =>
   cases J;cases y with
   | non=>cases F;exact PySem.EqNone.eq_none_none (FZ I q (by simp))
   | bl j=>cases F;exact PySem.EqNone.eq_none_bool (FZ I q (by simp))
   | int j=>obtain⟨t',rfl⟩:=F;exact PySem.EqNone.eq_none_int (FZ I q (by simp))
   | str j=>obtain⟨t',rfl⟩:=F;exact PySem.EqNone.eq_none_str (FZ I q (by simp))
   | _=>exact absurd (show false=true from G) Ay
 | bl i =>
   cases J;cases y with
   | non=>cases F;exact PySem.EqNone.eq_bool_none (FZ I q (by simp))
   | bl j=>cases F;exact eq_bool (FZ I q WX)
   | str j=>obtain⟨t',rfl⟩:=F;exact PySem.EqMixed.eq_bool_str (FZ I q (by simp))
   | _=>exact absurd (show false=true from G) Ay
 | int i =>
   obtain⟨t,rfl⟩:=J;cases y with
   | non=>cases F;exact PySem.EqNone.eq_int_none (FZ I q (by simp))
   | int j=>obtain⟨t',rfl⟩:=F;exact eq_int (FZ I q WW)
   | str j=>obtain⟨t',rfl⟩:=F;exact PySem.EqMixed.eq_int_str (FZ I q (by simp))
   | _=>exact absurd (show false=true from G) Ay
 | str i =>
   obtain⟨t,rfl⟩:=J;cases y with
   | non=>cases F;exact PySem.EqNone.eq_str_none (FZ I q (by simp))
   | bl j=>cases F;exact PySem.EqMixed.eq_str_bool (FZ I q (by simp))
   | int j=>obtain⟨t',rfl⟩:=F;exact PySem.EqMixed.eq_str_int (FZ I q (by simp))
   | str j=>obtain⟨t',rfl⟩:=F;exact eq_str (FZ I q WY)
   | _=>exact absurd (show false=true from G) Ay
 | byt i =>
   obtain⟨t,rfl⟩:=J;cases y with
   | byt j=>obtain⟨t',rfl⟩:=F;exact PySem.W.eq_bytes (FZ I q WZ)
   | _=>exact absurd (show false=true from G) Ay
 | _=>cases y<;>exact absurd (show false=true from G) Ay
def Kx:FA X (compareOp .NotEq) fG:=by
 rintro pins s σ H x y v u Q I J F ⟨G,q⟩;cases x with
 | non =>
   cases J;cases y with
   | non=>cases F;exact PySem.EqNone.ne_none_none (FZ I q (by simp))
   | bl j=>cases F;exact PySem.EqNone.ne_none_bool (FZ I q (by simp))
   | int j=>obtain⟨t',rfl⟩:=F;exact PySem.EqNone.ne_none_int (FZ I q (by simp))
   | str j=>obtain⟨t',rfl⟩:=F;exact PySem.EqNone.ne_none_str (FZ I q (by simp))
   | _=>exact absurd (show false=true from G) Ay
 | bl i =>
   cases J;cases y with
   | non=>cases F;exact PySem.EqNone.ne_bool_none (FZ I q (by simp))
   | bl j=>cases F;exact ne_bool (FZ I q (C6 not WX))
   | str j=>obtain⟨t',rfl⟩:=F;exact PySem.EqMixed.ne_bool_str (FZ I q (by simp))
   | _=>exact absurd (show false=true from G) Ay
 | int i =>
   obtain⟨t,rfl⟩:=J;cases y with
   | non=>cases F;exact PySem.EqNone.ne_int_none (FZ I q (by simp))
   | int j=>obtain⟨t',rfl⟩:=F;exact ne_int (FZ I q (C6 not WW))
   | str j=>obtain⟨t',rfl⟩:=F;exact PySem.EqMixed.ne_int_str (FZ I q (by simp))
   | _=>exact absurd (show false=true from G) Ay
 | str i =>
   obtain⟨t,rfl⟩:=J;cases y with
   | non=>cases F;exact PySem.EqNone.ne_str_none (FZ I q (by simp))
   | bl j=>cases F;exact PySem.EqMixed.ne_str_bool (FZ I q (by simp))
   | int j=>obtain⟨t',rfl⟩:=F;exact PySem.EqMixed.ne_str_int (FZ I q (by simp))
   | str j=>obtain⟨t',rfl⟩:=F;exact ne_str (FZ I q (C6 not WY))
   | _=>exact absurd (show false=true from G) Ay
 | byt i =>
   obtain⟨t,rfl⟩:=J;cases y with
   | byt j=>obtain⟨t',rfl⟩:=F;exact PySem.W.ne_bytes (FZ I q (C6 not WZ))
   | _=>exact absurd (show false=true from G) Ay
 | _=>cases y<;>exact absurd (show false=true from G) Ay
def NX:FA X (compareOp .Lt) (Ni λi j=>.bl (decide (i<j))):=Nj λ_ _ _ _ _ _ _ q=>lt_int q
def L6:FA X (compareOp .LtE) (Ni λi j=>.bl (decide (i<=j))):=Nj λ_ _ _ _ _ _ _ q=>le_int q
def NY:FA X (compareOp .Gt) (Ni λi j=>.bl (decide (j<i))):=Nj λ_ _ _ _ _ _ _ q=>gt_int q
def X0:FA X (compareOp .GtE) (Ni λi j=>.bl (decide (j<=i))):=Nj λ_ _ _ _ _ _ _ q=>ge_int q
def UF:FA X (compareOp .In) (λx y H Q=>∃i j,x=.str i/\y=.str j/\Q (.bl (!(Builtin.Str.occurrences j i 0 j.length 1).isEmpty)) H):=by
 rintro pins s σ H x y v u Q I F G ⟨i,j,rfl,rfl,q⟩;obtain⟨t,rfl⟩:=F;obtain⟨t',rfl⟩:=G;exact in_str (FZ I q rfl)
def BF(b:Expr)(h:op≠.In:=by decide)(h2:op≠.NotIn:=by decide):behindInMarks op b=false:=by
 have F:(op==CmpOp.In)=false:=by cases op<;>first|rfl|exact absurd rfl h
 have G:(op==CmpOp.NotIn)=false:=by cases op<;>first|rfl|exact absurd rfl h2
 cases b<;>simp[behindInMarks,F,G]
def FU{op:CmpOp}{r:R2}(J:FA X (compareOp op) r)(Z:PE X a ta)(hb:PE X b tb)(hm:behindInMarks op b=false):PE X (.Compare a [op] [b] pos) (Ss r ta tb):=by
 intro pins s σ H Q I h;exact wpAny_Compare1 (Oz Z hb I h λv u F x y H2 G W Y q=>J pins F σ H2 x y v u Q G W Y q) hm
def X1(t:TE):TT:=λσ H Q=>t σ H λx H'=>∃k,x=.bl k/\Q k H'
def BX(ho:FA X (compareOp op) r)(ha:PE X a ta)(hb:PE X b tb)(hm:behindInMarks op b=false):PT X (.Compare a [op] [b] pos) (X1 (Ss r ta tb)):=by
 intro pins s σ H Q I h;refine wpAny_isTrue_Compare1 (AV (ha pins s σ H _ I h) λv s1 ⟨x,H1,J,G,q1⟩=>AV (hb pins s1 σ H1 _ J q1) λu Z ⟨y,H2,I2,r2,q2⟩ =>
  AV (ho pins Z σ H2 x y v u _ I2 G r2 q2) λc s3 ⟨z,W,Y,F,k,e,q3⟩=>?_) hm
 subst e;cases F;exact C2 ⟨W,Y,q3⟩
def X2(r J:R2)(ta tb tc:TE):TE:=λσ H Q=>ta σ H λx H1=>tb σ H1 λy H2=>r x y H2 λz F=>∃k,z=.bl k /\
 (if k=true then tc σ F λI G=>J y I G Q else Q (.bl false) F)
def Sv(ho:FA X (compareOp op) r)(F:FA X (compareOp op') r')(ha:PE X a ta)(hb:PE X b tb)(hc:PE X c tc)(hm:lastMarks [op,op'] [b,c]=false:=by with_unfolding_all rfl):PE X (.Compare a [op,op'] [b,c] pos) (X2 r r' ta tb tc):=by
 intro pins s σ H Q I h;refine Compare_chain (AV (ha pins s σ H _ I h) λv s1 ⟨x,H1,I1,r1,q1⟩=>chain_link (AV (hb pins s1 σ H1 _ I1 q1) λu s2 ⟨y,H2,I2,Y,q2⟩ =>
  AV (ho pins s2 σ H2 x y v u _ I2 r1 Y q2) λd s3 ⟨z,G,J,Z,k,e,W⟩=>?_)) hm
 subst e;cases Z;refine C2 ?_;cases k with
 | false=>exact ite_ff ⟨.bl false,G,J,rfl,W⟩
 | true=>exact ite_tt (chain_last (AV (hc pins s3 σ G _ J W) λw' s4 ⟨z',H4,I4,r4,q4⟩=>F pins s4 σ H4 y z' u w' Q I4 Y r4 q4))
def X3(ho:FA X (compareOp op) r)(F:FA X (compareOp op') r')(ha:PE X a ta)(hb:PE X b tb)(hc:PE X c tc)(hm:lastMarks [op,op'] [b,c]=false:=by with_unfolding_all rfl):PT X (.Compare a [op,op'] [b,c] pos) (X1 (X2 r r' ta tb tc)):=by
 intro pins s σ H Q I h;refine isTrue_chain (AV (ha pins s σ H _ I h) λv s1 ⟨x,H1,I1,r1,q1⟩=>test_link (AV (hb pins s1 σ H1 _ I1 q1) λu s2 ⟨y,H2,I2,Y,q2⟩ =>
  AV (ho pins s2 σ H2 x y v u _ I2 r1 Y q2) λd s3 ⟨z,G,J,Z,k,e,W⟩=>?_)) hm
 subst e;cases Z;refine C2 ?_;cases k with
 | false =>
   obtain⟨k',e',q'⟩:=W;cases e';exact ite_ff ⟨G,J,q'⟩
 | true =>
   refine ite_tt (test_last (AV (hc pins s3 σ G _ J W) λw' s4 ⟨z',H4,I4,r4,q4⟩=>AV (F pins s4 σ H4 y z' u w' _ I4 Y r4 q4) λd' s5 ⟨z2,H5,I5,r5,k2,e2,q5⟩=>?_));subst e2;cases r5;exact C2 ⟨H5,I5,q5⟩
def PV:(sizeLine:Nat)<2^63:=by rw[Eg];decide
def LI:FA X (binaryOp .Add) (λx y H Q=>∃i j,x=.str i/\y=.str j/\i.length+j.length<=sizeLine/\Q (.str (i++j)) H):=by
 rintro pins s σ H x y v u Q I F G ⟨i,j,rfl,rfl,hz,q⟩;obtain⟨t,rfl⟩:=F;obtain⟨t',rfl⟩:=G;exact add_str (λt' tk=>⟨.str (i++j),H,I.tok _,⟨_,rfl⟩,q⟩) hz
def Kk(r:AM [x] us):∃u,us=[u]/\AR x u:=by
 cases r with
 | cons G F=>cases F;exact⟨_,rfl,G⟩
def Sw(r:AM [x,y] us):∃u F,us=[u,F]/\AR x u/\AR y F:=by
 cases r with
 | cons W G =>
   cases G with
   | cons J I=>cases I;exact⟨_,_,rfl,W,J⟩
def fH(G:X.calm=true):IW X (.builtin "min") (λxs H Q=>∃i j,xs=[.int i,.int j]/\Q (.int (if j<i then j else i)) H):=by
 rintro pins s σ H xs us Q I r ⟨i,j,rfl,q⟩;obtain⟨u,J,rfl,⟨t,rfl⟩,⟨t',rfl⟩⟩:=Sw r;refine min_two_ints (I.ok.hd G) λh' tk k=>⟨_,H,I.kept k,?_,q⟩
 by_cases F:j<i
 .rw[Au F,Au F];exact⟨_,rfl⟩
 .rw[As F,As F];exact⟨_,rfl⟩
def fI:IW X (.type "int") (λxs H Q=>(∃i,xs=[.int i]/\Q (.int i) H)\/∃k,xs=[.bl k]/\Q (.int (if k then 1 else 0)) H):=by
 intro pins s σ H xs us Q I r h;rcases h with⟨i,rfl,q⟩|⟨k,rfl,q⟩
 .obtain⟨u,rfl,t,rfl⟩:=Kk r;exact call_int_int ⟨.int i,H,I,⟨_,rfl⟩,q⟩
 .obtain⟨u,rfl,F⟩:=Kk r;cases F;exact call_int_bool ⟨.int (if k then 1 else 0),H,I.tok _,⟨_,rfl⟩,q⟩
end
end L2
namespace L2
open PySem PySem.Spec PyProof.Rows
structure KJ(h:Heap)(x dx C:Addr)(mA:Str->Option Value):Prop where
 obj:h.get? x=some (PySem.W.instObj C dx)
 ns:h.Ns1 dx mA
 ne:dx≠x
def X4{h:Heap}{dx:Addr}{mA:Str->Option Value}(n:h.Ns1 dx mA):∃od,h.get? dx=some od/\∀name,PySem.W.lookIn name od=some (mA name):=by
 obtain⟨o,es,Y,I,hd,G,_,hm⟩:=n;refine⟨o,I,λname=>?_⟩;have e:=hm name;unfold nsFind findBy at e;rw[<-K1]at e
 unfold PySem.W.lookIn;rw[hd];dsimp only;split
 .grind
 .rename_i q;rw[q]at e
  have a:es.toList.any (·.refKey)=false:=by
   rw[List.any_eq_false];intro y J;obtain⟨z,t,F⟩:=G y (Array.mem_toList_iff.mp J);simp[DictEntry.refKey,F]
  grind
def KJ.look(I:KJ h x dx C mA):∃od,PySem.W.InstAt h x (PySem.W.instObj C dx) C (some od)/\∀name,PySem.W.lookIn name od=some (mA name) :=
 let ⟨od,ho,hl⟩:=X4 I.ns
 ⟨od,⟨I.obj,rfl,rfl,ho⟩,hl⟩
section
variable {prog:Program}{w:World}{A:Around}{E:Value->Shared->Prop}{s:Shared}{K:Frag}{x dx C f:Addr}{mA:Str->Option Value}{name:Str}{v:Value}
def fJ(X:K.In s.heap)(I:KJ s.heap x dx C mA)(hg:PySem.W.plainGet K C name=true)(Z:PySem.W.hasDictIn K C=true)(Y:PySem.W.findIn K (.ref C) name=some none)(hv:mA name=some v)(F:PySem.W.handedIn v=true)(h:Q v { s with toks:=s.toks+1 }) :
 wpAny (model prog w) A (getAttr (.ref x) name expr) Q E s:=by
 obtain⟨od,J,G⟩:=I.look;exact PySem.W.get_value X J (G9 hg).1 (PySem.W.findObj_own Z Y rfl (by rw[G,hv])) F h
def fK(X:K.In s.heap)(I:KJ s.heap x dx C mA)(F:PySem.W.plainGet K C name=true)(hf:PySem.W.findIn K (.ref C) name=some (some (.ref f)))(ht:PySem.W.isFn K (.ref f)=true)(hv:mA name=none)(h:Q (.ref f,[.ref x]) s) :
 wpAny (model prog w) A (getMethod (.ref x) name pl) Q E s:=by
 obtain⟨od,J,G⟩:=I.look;exact PySem.W.method_fn X J (G9 F).1 (G9 F).2 hf (Bp.mp ht) (by show(PySem.W.lookIn name od).map (·.isSome)=some false;rw[G,hv];rfl) h
def fL(X:K.In s.heap)(I:KJ s.heap x dx C mA)(hs:PySem.W.findIn K (.ref C) "__setattr__"=some (some (.builtin "object.__setattr__")))(hp:PySem.W.plainOver K C=true)(ht:PySem.W.takerIn K C name=some none)(hh:PySem.W.hasDictIn K C=true)(hw:PySem.Within mA ns)(hsz:ns.length<=sizeLine)(h:∀h',KJ h' x dx C (λy=>if y=name then some v else mA y)->Heap.SameBut dx s.heap h'->Q () { s with heap:=h',toks:=s.toks+2 }) :
 wpAny (model prog w) A (setAttr (.ref x) name v) Q E s:=by
 obtain⟨od,J,hl⟩:=I.look;refine PySem.W.set_plain X J hs (PySem.W.osa_open (s:={ s with toks:=s.toks+1 }) (r:=none) X J hp ht λb=>?_);obtain⟨cd,hc,ac⟩:=PySem.W.any_some hh;have hx:=I.obj;refine A6 (Ab (A6 (A6 (Gj hx (A6 (Dj (s:={ s with toks:=s.toks+1 }) (PySem.W.looks_clsIn X hc) ?_))))));rw[ac];refine Ab (a:=some dx) (A6 (Ab (A6 (wpAny_nsSet1 (s:={ s with toks:=s.toks+1 }) I.ns λh' G F=>?_))));obtain⟨oD,ae,ad,aa,Y,Z⟩:=G.count (K5 name v hw);exact A6 (wpAny_lookBehind aa (by rw[Y];exact pastItsLine_dict (Bk Z (by rw[Bw];lia))) (Ab (h _ ⟨(F.2 _ (Cc I.ne)).trans I.obj,G,I.ne⟩ F)))
def X5 (X:K.In s.heap) (hm:PySem.W.makesIn K C=true) (hi:PySem.W.findIn K (.ref C) "__init__"=some (some (.ref f))) (hf:PySem.W.typeIn K (.ref f)=some (.type "function")) (h:codeAny (model prog w) (A.under (.builtin "type.__call__" ⟨.ref C::vs,kw⟩)) (.call (.ref f) ⟨.ref (s.heap.objs.size+1)::vs,kw⟩) (PySem.W.InitBack (s.heap.objs.size+1) R)
 { s with heap:=(s.heap.push PySem.W.emptyDict).push (PySem.W.instObj C s.heap.objs.size) }) :
 codeAny (model prog w) A (.call (.ref C) ⟨vs,kw⟩) R s:=by
 obtain⟨F,g,d,t,os⟩:=s;exact PySem.W.make_core (PySem.W.makes_of X hm) (PySem.W.looks_findIn X hi) (λself=>PySem.W.bind_fn X self hf) (.inl rfl) h
end
def ED(f:Str)(v:V):List (Str×V)->List (Str×V)
 | []=>[(f,v)]
 | (g,x)::r=>if g=f then(g,v)::r else(g,x)::ED f v r
theorem UG(f g:Str)(v:V):∀fs:List (Str×V),(ED f v fs).lookup g=if g=f then some v else fs.lookup g
 | []=>by
   show List.lookup g [(f,v)]=_;by_cases h:g=f
   .have hb:(g==f)=true:=Bp.mpr h;simp only[List.lookup,hb,Au h]
   .have hb:(g==f)=false:=Cv.mpr h;simp only[List.lookup,hb,As h]
 | (k,x)::r=>by
   have ih:=UG f g v r;rw[show ED f v ((k,x)::r)=(if k=f then(k,v)::r else(k,x)::ED f v r)from rfl];by_cases F:k=f
   .rw[Au F];by_cases h:g=k
    .have hb:(g==k)=true:=Bp.mpr h;simp only[List.lookup,hb,Au (h.trans F)]
    .have hb:(g==k)=false:=Cv.mpr h;simp only[List.lookup,hb,As (λe:g=f=>h (e.trans F.symm))]
   .rw[As F];by_cases h:g=k
    .have hb:(g==k)=true:=Bp.mpr h;simp only[List.lookup,hb,As (λe:g=f=>F (h.symm.trans e))]
    .have hb:(g==k)=false:=Cv.mpr h;simp only[List.lookup,hb];exact ih
theorem UH(f:Str)(v:V):∀fs:List (Str×V),f∈(ED f v fs).map (·.1)/\∀g,g∈fs.map (·.1)->g∈(ED f v fs).map (·.1)
 | []=>⟨by simp[ED],λg h=>by simp at h⟩
 | (k,x)::r=>by
   obtain⟨i1,i2⟩:=UH f v r;rw[show ED f v ((k,x)::r)=(if k=f then(k,v)::r else(k,x)::ED f v r)from rfl];by_cases F:k=f
   .rw[Au F];subst F;exact⟨by simp,λg h=>by simpa using h⟩
   .rw[As F];refine⟨?_,λg h=>?_⟩
    .rw[Bl];exact Ah _ i1
    .rw[Bl]at h⊢
     rcases Aw.mp h with e|e
     .exact Aw.mpr (.inl e)
     .exact Ah _ (i2 g e)
theorem X6(f:Str)(v:V):∀fs:List (Str×V),(ED f v fs).length<=fs.length+1
 | []=>by simp[ED]
 | (k,x)::r=>by
   have ih:=X6 f v r;rw[show ED f v ((k,x)::r)=(if k=f then(k,v)::r else(k,x)::ED f v r)from rfl];by_cases F:k=f
   .rw[Au F,Bw,Bw];lia
   .rw[As F,Bw,Bw];lia
def EC.some_of(r:EC (some v) o):∃u,o=some u/\AR v u:=by
 cases o with
 | none=>exact(show False from r).elim
 | some u=>exact⟨u,rfl,r⟩
def EC.none_of(r:EC none o):o=none:=by
 cases o with
 | none=>rfl
 | some u=>exact(show False from r).elim
def X7{u:Value}(r:AR v u):PySem.W.handedIn u=true:=by
 cases v with
 | non=>cases (show u=Value.none from r);rfl
 | bl b=>cases (show u=Value.bool b from r);rfl
 | int i=>obtain⟨t,e⟩:=(show ∃t,u=Value.int i t from r);cases e;rfl
 | str x=>obtain⟨t,e⟩:=(show ∃t,u=Value.str x t from r);cases e;rfl
 | byt b=>obtain⟨t,e⟩:=(show ∃t,u=Value.bytes b t from r);cases e;rfl
 | flt b=>obtain⟨t,e⟩:=(show ∃t,u=Value.float b t from r);cases e;rfl
 | ref a=>cases (show u=Value.ref a from r);rfl
 | ty n=>cases (show u=Value.type n from r);rfl
section
variable {P:Program}{w:World}{H H':Hp}{h h':Heap}{a C dx:Addr}{fs fs':List (Str×V)}
def UI(Í:FP P w H h)(e:H a=some (.ins C dx fs)):∃mA,KJ h a dx C mA/\(∀f,EC (fs.lookup f) (mA f))/\PySem.Within mA (fs.map (·.1))/\fs.length<=1000/\H dx=some (.own a):=by
 obtain⟨d,z,ne,ob,mA,n,r,q⟩:=(Í a _ e)
 exact⟨mA,⟨ob,n,ne⟩,r,q,z,d⟩
end
structure LJ(K:Frag)(C:Addr):Prop where
 pg:PySem.W.plainGet K C Str.empty=true
 hd:PySem.W.hasDictIn K C=true
 po:PySem.W.plainOver K C=true
 sa:PySem.W.findIn K (.ref C) "__setattr__"=some (some (.builtin "object.__setattr__"))
def LJ.get{K:Frag}{C:Addr}(c:LJ K C)(f:Str):PySem.W.plainGet K C f=true:=c.pg
def MV(K:Frag)(C:Addr)(f:Str):Prop:=PySem.W.findIn K (.ref C) f=some none
def MV.xy{K:Frag}{C:Addr}{f:Str}(n:MV K C f):PySem.W.takerIn K C f=some none:=by
 unfold PySem.W.takerIn;rw[show PySem.W.findIn K (.ref C) f=some none from n];rfl
structure R7(K:Frag)(C:Addr)(m:Str)(f:Addr):Prop where
 at_:PySem.W.findIn K (.ref C) m=some (some (.ref f))
 fn:PySem.W.isFn K (.ref f)=true
 kp:PySem.W.keepIn K (.ref f)=true
section
variable {X:Cx}{pins:List (Addr×Obj)}{σ:St}{H:Hp}{s:Shared}{a C dx:Addr}{fs:List (Str×V)}{f:Str}{v:V}{A:Around}{E:Value->Shared->Prop}
def fM(I:AF X pins σ H s)(e:H a=some (.ins C dx fs))(c:LJ X.K C)(n:MV X.K C f)(l:fs.lookup f=some v)(h:∀u s',AF X pins σ H s'->AR v u->Q u s'):wpAny (model X.prog X.w) A (getAttr (.ref a) f b) Q E s:=by
 obtain⟨mA,O,r,_,_,_⟩:=UI I.Í e;obtain⟨u,G,F⟩:=EC.some_of (v:=v) (o:=mA f) (by rw[<-l];exact r f);exact fJ I.Ĝ O (c.get f) c.hd n G (X7 F) (h u _ (I.tok _) F)
def UJ(I:AF X pins σ H s)(e:H a=some (.ins C dx fs))(c:LJ X.K C)(k:R7 X.K C m g)(l:fs.lookup m=none)(h:Q (.ref g,[.ref a]) s):wpAny (model X.prog X.w) A (getMethod (.ref a) m pl) Q E s:=by
 obtain⟨mA,O,r,_,_,_⟩:=UI I.Í e;have hn:mA m=none:=EC.none_of (by rw[<-l];exact r m);exact fK I.Ĝ O (c.get m) k.at_ k.fn hn h
def fN{u:Value}(I:AF X pins σ H s)(e:H a=some (.ins C dx fs))(c:LJ X.K C)(n:MV X.K C f)(Y:fs.length<1000)(Z:AR y u)(h:∀s',AF X pins σ (upd H a (.ins C dx (ED f y fs))) s'->Q () s'):wpAny (model X.prog X.w) A (setAttr (.ref a) f u) Q E s:=by
 obtain⟨mA,O,r,G,_,J⟩:=UI I.Í e;have hz:(fs.map (·.1)).length<=sizeLine:=by rw[A8,Eg];lia
 refine fL I.Ĝ O c.sa c.po n.xy c.hd G hz λh' F sb=>h _ ?_
 have hd:∃o,h'.get? dx=some o:=let ⟨o,_,_,e',_⟩:=F.ns;⟨o,e'⟩
 refine I.write (x:=a) (e:=dx) (by rw[e];exact True.intro) (.inr J) (λb q hb z=>(sb.2 b hb).trans z) hd ⟨by rw[BE O.ne];exact J,?_,O.ne,F.obj,_,F.ns,λg=>?_,λg W=>?_⟩
 .have:=X6 f y fs;lia
 .grind[EC,ED,UG]
 .by_cases q:g=f
  .rw[q];exact(UH f y fs).1
  .refine(UH f y fs).2 g (G g λz=>W ?_)
   lia
def AF.made(I:AF X pins σ H s):AF X pins σ (upd (upd H s.heap.objs.size (.own (s.heap.objs.size+1))) (s.heap.objs.size+1) (.ins C s.heap.objs.size []))
 { s with heap:=(s.heap.push PySem.W.emptyDict).push (PySem.W.instObj C s.heap.objs.size) }:=by
 have F:(s.heap.push PySem.W.emptyDict).get? s.heap.objs.size=some PySem.W.emptyDict:=Ax s.heap rfl;have Z:((s.heap.push PySem.W.emptyDict).push (PySem.W.instObj C s.heap.objs.size)).get? (s.heap.objs.size+1)=some (PySem.W.instObj C s.heap.objs.size):=by
  have:=Ax (s.heap.push PySem.W.emptyDict) (o:=PySem.W.instObj C s.heap.objs.size) rfl
  rwa [C0]at this
 have G:(s.heap.push PySem.W.emptyDict).Ns s.heap.objs.size (λ_=>none):=⟨PySem.W.emptyDict,#[],_,F,rfl,(λe J=>absurd J (by simp)),λ_=>rfl⟩
 refine(I.laid (a:=s.heap.objs.size) (o:=.own (s.heap.objs.size+1)) (h':=s.heap.push PySem.W.emptyDict) (t':=s.toks) (λb u q=>A7 _ q) (Aa _) ⟨_,F⟩).laid (a:=s.heap.objs.size+1) (o:=.ins C s.heap.objs.size []) (t':=s.toks) (λb u q=>A7 _ q) (Fb (C0 _ _)) ?_;have ne:s.heap.objs.size≠s.heap.objs.size+1:=B8 (Fs _);refine⟨by rw[BE ne,AA],Bj _,ne,Z,λ_=>none,(Heap.Ns1.of_empty G).at λo q=>A7 _ q,λ_=>True.intro,λy Y=>absurd rfl Y⟩
def X8{f:Str}{s:Shared}(hb:attributeBase e f env (eval e env)=eval e env)(h:wpAny (model prog w) A (eval e env) (λo F=>wpAny (model prog w) A (getAttr o f true) Q E F) E s):wpAny (model prog w) A (eval (.Attribute e f pos) env) Q E s :=
 Attribute_any_ h (by rw[arm_eval_Attribute,hb])
end
end L2
namespace L2
open PySem PySem.Spec PyProof.Rows
structure BO(k:Nat)(A:Around):Prop where
 hd:A.handled=none
 dp:A.depth+3*k+5<recursionLimit
 un:A.units+16*k+200<cLine
def BO.mono(r:BO k A)(h:j<=k):BO j A:=⟨r.hd,by have:=r.dp;lia,by have:=r.un;lia⟩
def BO.deeper{k:Nat}{A:Around}(r:BO (k+1) A)(env:Env):BO k (A.deeper env) :=
 ⟨r.hd,by have:=r.dp;show A.depth+1+3*k+5<_;lia,by have:=r.un;show A.units+3+16*k+200<_;lia⟩
def fO{A:Around}{C:Addr}{us:List Value}{F:List (Str×Value)}:(A.under (.builtin "type.__call__" ⟨.ref C::us,F⟩)).depth=A.depth+1:=by
 first|rfl|simp[Around.under,Code.weight,Code.isCreation,Code.isGuard,Code.isCaller,Code.frames,Code.isFrame,guardIds]
def fP{A:Around}{C:Addr}{us:List Value}{F:List (Str×Value)}:(A.under (.builtin "type.__call__" ⟨.ref C::us,F⟩)).units=A.units+1:=by
 first|rfl|simp[Around.under,Code.cUnits,Code.frames,Code.isFrame]
def BO.make{k:Nat}{A:Around}(r:BO (k+1) A)(C:Addr)(us:List Value)(F:List (Str×Value)):BO k (A.under (.builtin "type.__call__" ⟨.ref C::us,F⟩)) :=
 ⟨r.hd,by have:=r.dp;rw[fO];lia,by have:=r.un;rw[fP];lia⟩
def BO.depth{k:Nat}{A:Around}(r:BO k A):A.depth<recursionLimit:=by have:=r.dp;lia
def BO.units(r:BO k A):A.units+64<cLine:=by have:=r.un;lia
def LW:TA:=λ_ H Q=>Q [] H
def X9(ta:TE)(F:TA):TA:=λσ H Q=>ta σ H λx H1=>F σ H1 λxs H2=>Q (x::xs) H2
section
variable {X:Cx}{e:Expr}{es:List Expr}{te:TE}{t:TA}{pos:Pos}
def AE:PA X [] LW:=λ_ _ _ _ H Q I h=>Hw ⟨[],H,I,.nil,h⟩
def AC(ha:PE X e te)(Y:PA X es t)(hs:starEach (e::es) X.env=(false,eval e X.env)::starEach es X.env:=by rfl):PA X (e::es) (X9 te t):=by
 intro pos pins s σ H Q I h;rw[hs];show wpAny _ _ (spliced ((false,eval e X.env)::backTo pos (starEach es X.env))) _ _ s;exact F3 (AV (ha pins s σ H _ I h) λu Z ⟨x,H1,G,F,J⟩=>AV (Y pos pins Z σ H1 _ G J) λus s2 ⟨xs,H2,W,r2,q2⟩=>⟨x::xs,H2,W,.cons F r2,q2⟩)
def UK(t:TA):TE:=λσ H Q=>t σ H λxs H1=>xs.length<=sizeLine/\∀p,H1 p=none->Q (.ref p) (upd H1 p (.tup xs))
def UL(t:TA):TE:=λσ H Q=>t σ H λxs H1=>xs.length<=sizeLine/\∀p,H1 p=none->Q (.ref p) (upd H1 p (.lst xs))
def GV{x1}(h:PA X es t):PE X (.Tuple es x1 pos) (UK t):=by
 intro pins s σ H Q I hq;refine wpAny_Tuple_spliced (AV (h pos pins s σ H _ I hq) λus F ⟨xs,H1,G,r,z,q⟩=>⟨by rw[<-r.length];exact z,?_⟩);have hf:=G.Í.fresh (Aa _);refine⟨.ref F.heap.objs.size,upd H1 F.heap.objs.size (.tup xs),G.laid (t':=F.toks) (λb u e=>A7 _ e) (Aa _) ?_,rfl,q _ hf⟩;exact⟨z,us,r,⟨_,Ax _ rfl,rfl,_,rfl⟩⟩
def BM(h:PA X es t):PE X (.List es pos) (UL t):=by
 intro pins s σ H Q I hq;refine wpAny_List_spliced (AV (h pos pins s σ H _ I hq) λus F ⟨xs,H1,G,r,z,q⟩=>⟨by rw[<-r.length];exact z,?_⟩);have hf:=G.Í.fresh (Aa _);refine⟨.ref F.heap.objs.size,upd H1 F.heap.objs.size (.lst xs),G.laid (t':=F.toks) (λb u e=>A7 _ e) (Aa _) ?_,rfl,q _ hf⟩;exact⟨z,us,0,r,Ax _ rfl⟩
end
abbrev Sp:=List V->Hp->VK->XK->Prop
abbrev KL:=List Env->Hp->Shared->XK->Value->Shared->Prop
structure KM(P:Program)(w:World)(K:Frag)(mg:Str->Option Value)(base:Heap)(A:Around)(outer:List Env)(s:Shared)(H:Hp):Prop where
 frames:A.frames=some outer
 mod:Mod K mg base
 bs:∀b o,base.get? b=some o->s.heap.get? b=some o/\H b=none
 wx:base.objs.size<=s.heap.objs.size
 ĸ:s.heap.FunFrames base outer
 wK:∀b∈Kw outer,H b=none
 Í:FP P w H s.heap
 bare:AllBare s.gens
def CE(outer:List Env)(P:Program)(w:World)(H:Hp)(s:Shared)(Q:VK)(u:Value)(s':Shared):Prop :=
 ∃v H',s'.os=s.os/\AllBare s'.gens/\Un (Kw outer) [] H H' s.heap s'.heap/\FP P w H' s'.heap/\AR v u/\Q v H'
def CR(CX:KL)(outer:List Env)(P:Program)(w:World)(H:Hp)(s:Shared)(Q:VK)(E:XK)(r:Result)(s':Shared):Prop :=
 match r with
 | .ok (.ret u)=>CE outer P w H s Q u s'
 | .ok _=>False
 | .error e=>CX outer H s E e s'
structure AG(P:Program)(w:World)(K:Frag)(mg:Str->Option Value)(base:Heap)(CX:KL)(k:Nat)(f:Addr)(fd:FuncData)(ps:List Str)(sp:Sp):Prop where
 len:∀vs H Q E,sp vs H Q E->vs.length=ps.length
 run:∀(A:Around) (outer:List Env) (s:Shared) (H:Hp) (args:Args) (us:List Value) (vs:List V) (Q:VK) (E:XK),BO k A->KM P w K mg base A outer s H->BindsTo s fd args (ps.zip us)->AM vs us->sp vs H Q E ->
  codeAny (model P w) A (.call (.ref f) args) (CR CX outer P w H s Q E) s
def AG.mono{P:Program}{w:World}{K:Frag}{mg:Str->Option Value}{base:Heap}{CX:KL}{j k:Nat}{f:Addr}{fd:FuncData}{ps:List Str}{sp:Sp}(F:AG P w K mg base CX j f fd ps sp)(h:j<=k) :
 AG P w K mg base CX k f fd ps sp:=⟨F.len,λA outer s H args us vs Q E G=>F.run A outer s H args us vs Q E (G.mono h)⟩
def KM.make{P:Program}{w:World}{K:Frag}{mg:Str->Option Value}{base:Heap}{A:Around}{outer:List Env}{s:Shared}{H:Hp}(e:KM P w K mg base A outer s H)(C:Addr)(us:List Value)(F:List (Str×Value)) :
 KM P w K mg base (A.under (.builtin "type.__call__" ⟨.ref C::us,F⟩)) outer s H:=⟨by first|exact e.frames|(simpa[Around.under,Code.envs,Code.isFrame,pushEnvs]using e.frames),e.mod,e.bs,e.wx,e.ĸ,e.wK,e.Í,e.bare⟩
section
variable {X:Cx}{pins:List (Addr×Obj)}{σ:St}{H:Hp}{s s':Shared}
def AF.wI(I:AF X pins σ H s):KM X.prog X.w X.K X.mg X.base X.A X.stack s H :=
 ⟨I.ok.frames,I.ok.mod,I.bs,Bk I.ok.wx I.sz,I.stack,I.vi,I.Í,I.bare⟩
def AF.after{u:Value}(I:AF X pins σ H s)(h:CE X.stack X.prog X.w H s Q u s'):EP X pins σ Q u s':=by
 revert h;refine FO λv H'=>GH λos bare un Í r q=>?_;obtain⟨G,g,d,t,F⟩:=s';obtain rfl:F=s.os:=os;exact BK v H' (BQ (I.call (h':=G) (g':=g) (d':=d) (t':=t) (ch:=[]) un Í bare (λb z=>absurd z (by simp))) r q)
end
def Sx(sp:Sp)(dvs:List V)(E:XK)(t:TA):TE:=λσ H Q=>t σ H λvs H1=>sp (vs++dvs) H1 Q E
def UM(C:Addr)(sp:Sp)(dvs:List V)(E:XK)(t:TA):TE:=λσ H Q=>t σ H λvs H1=>∀x dx,H1 x=none->H1 dx=none->dx≠x ->
 sp (.ref x::(vs++dvs)) (upd (upd H1 dx (.own x)) x (.ins C dx [])) (λv H2=>v=.non/\Q (.ref x) H2) E
def Kl(K:Frag)(fd:FuncData)(ps:List Str)(ds:List Value):Prop :=
 ∀(s:Shared) (us:List Value),K.In s.heap->(us++ds).length=ps.length->BindsTo s fd ⟨us,[]⟩ (ps.zip (us++ds))
theorem Kl.all{K:Frag}{fd:FuncData}{ps:List Str}(h:∀us:List Value,us.length=ps.length->bindArgs fd ⟨us,[]⟩=pure (ps.zip us)):Kl K fd ps []:=λs us _ F=>by
 rw[Be]at F⊢
 exact .of_eq (h us F)
def PX(CX:KL)(X:Cx)(E:XK):Prop:=∀(pins:List (Addr×Obj)) (σ:St) (H:Hp) (s:Shared) (e:Value) (s':Shared),AF X pins σ H s->CX X.stack H s E e s'->X.xe e s'
section
variable {X:Cx}{CX:KL}{k:Nat}{f C:Addr}{fd:FuncData}{ps:List Str}{sp:Sp}{dvs:List V}{ds:List Value}{E:XK}{x m:Str}{p pos apos:Pos}{e o:Expr}{es:List Expr}{ta:TE}{t:TA}
def Sy(F:AG X.prog X.w X.K X.mg X.base CX k f fd ps sp)(W:BO k X.A)(hb:Kl X.K fd ps ds)(hd:AM dvs ds)(Z:PX CX X E)(I:AF X pins σ H s)(r:AM vs us)(h:sp (vs++dvs) H Q E):wpAny (model X.prog X.w) X.A (call (.ref f) us) (EP X pins σ Q) X.xe s:=by
 have G:=r.append hd;have J:(us++ds).length=ps.length:=by rw[<-G.length];exact F.len _ _ _ _ h
 refine Dl (De (F.run X.A X.stack s H ⟨us,[]⟩ (us++ds) (vs++dvs) Q E W I.wI (hb s us I.Ĝ J) G h) λr s' hq=>?_);cases r with
 | error e=>exact Z pins σ H s e s' I hq
 | ok Y =>
   cases Y with
   | ret u=>exact I.after hq
   | next=>exact False.elim hq
   | brk=>exact False.elim hq
   | cont=>exact False.elim hq
def fQ(F:AG X.prog X.w X.K X.mg X.base CX k f fd ps sp)(Z:BO k X.A)(J:Gl X x)(hm:X.mg x=some (.ref f))(Y:PySem.W.keepIn X.K (.ref f)=true)(hb:Kl X.K fd ps ds)(hd:AM dvs ds)(hx:PX CX X E)
 (ha:PA X (e::es) t) (hdb:(x==("__debug__":Str))=false:=by decide) (he:starEach (e::es) X.env=(false,eval e X.env)::starEach es X.env:=by rfl) (hpl:(backTo pos (starEach es X.env)).any (·.1)=false:=by rfl) :
 PE X (.Call (.Name x p) (e::es) [] pos) (Sx sp dvs E t):=by
 intro pins s σ H Q I h;exact Bs (MU I J hm (Cr (h₀:=X.base) I.ok.mod.wQ Y (AV (ha pos pins s σ H _ I h) λus s1 ⟨vs,H1,G,r,q⟩=>⟨G.Ĝ,Sy F Z hb hd hx G r q⟩) he hpl) hdb)
def fR(F:AG X.prog X.w X.K X.mg X.base CX k f fd ps sp)(J:BO k X.A)(Y:Gl X x)(hm:X.mg x=some (.ref f))(G:PySem.W.keepIn X.K (.ref f)=true)(hb:Kl X.K fd ps ds)(hd:AM dvs ds)(Z:PX CX X E)
 (hdb:(x==("__debug__":Str))=false:=by decide):PE X (.Call (.Name x p) [] [] pos) (Sx sp dvs E LW):=by
 intro pins s σ H Q I h;exact Bs (MU I Y hm (Jx I.Ĝ G (Sy (us:=[]) F J hb hd Z I .nil h)) hdb)
structure Mk(K:Frag)(C f:Addr):Prop where
 makes:PySem.W.makesIn K C=true
 init:PySem.W.findIn K (.ref C) "__init__"=some (some (.ref f))
 fn:PySem.W.isFn K (.ref f)=true
 kp:PySem.W.keepIn K (.ref C)=true
def fS(M:Mk X.K C f)(F:AG X.prog X.w X.K X.mg X.base CX k f fd ps sp)(hr:BO (k+1) X.A)(hb:Kl X.K fd ps ds)(hd:AM dvs ds)(hx:PX CX X E)(I:AF X pins σ H s)(r:AM vs us)(h:∀x dx,H x=none->H dx=none->dx≠x->sp (.ref x::(vs++dvs)) (upd (upd H dx (.own x)) x (.ins C dx [])) (λv H2=>v=.non/\Q (.ref x) H2) E) :
 wpAny (model X.prog X.w) X.A (call (.ref C) us) (EP X pins σ Q) X.xe s:=by
 have hq:=h (s.heap.objs.size+1) s.heap.objs.size (I.Í.fresh (Dt _)) (I.Í.fresh (Aa _)) (B8 (Fs _));have J:=AF.made (C:=C) I;have W:AM (V.ref (s.heap.objs.size+1)::(vs++dvs)) (Value.ref (s.heap.objs.size+1)::(us++ds)):=.cons rfl (r.append hd);have hl:(Value.ref (s.heap.objs.size+1)::us++ds).length=ps.length:=by
  have e:=W.length;rw[F.len _ _ _ _ hq]at e
  exact e.symm
 refine Dl (X5 (f:=f) I.Ĝ M.makes M.init (Bp.mp M.fn) (De (F.run _ X.stack _ _ ⟨Value.ref (s.heap.objs.size+1)::us,[]⟩ (Value.ref (s.heap.objs.size+1)::(us++ds)) _ _ E (hr.make C us [])
  (J.wI.make C us []) (hb _ (Value.ref (s.heap.objs.size+1)::us) J.Ĝ hl) W hq) λr s' G=>?_))
 cases r with
 | error e=>exact hx pins σ _ _ e s' J G
 | ok fl =>
   cases fl with
   | ret u =>
     obtain⟨v,H',Y,rv,rfl,Z⟩:=J.after G;exact⟨rv,⟨V.ref (s.heap.objs.size+1),H',Y,rfl,Z⟩⟩
   | next=>exact False.elim G
   | brk=>exact False.elim G
   | cont=>exact False.elim G
def Xa(M:Mk X.K C f)(F:AG X.prog X.w X.K X.mg X.base CX k f fd ps sp)(Y:BO (k+1) X.A)(J:Gl X x)(hm:X.mg x=some (.ref C))(hb:Kl X.K fd ps ds)(hd:AM dvs ds)(Z:PX CX X E)
 (ha:PA X (e::es) t) (hdb:(x==("__debug__":Str))=false:=by decide) (he:starEach (e::es) X.env=(false,eval e X.env)::starEach es X.env:=by rfl) (hpl:(backTo pos (starEach es X.env)).any (·.1)=false:=by rfl) :
 PE X (.Call (.Name x p) (e::es) [] pos) (UM C sp dvs E t):=by
 intro pins s σ H Q I h;exact Bs (MU I J hm (Cr (h₀:=X.base) I.ok.mod.wQ M.kp (AV (ha pos pins s σ H _ I h) λus s1 ⟨vs,H1,G,r,q⟩=>⟨G.Ĝ,fS M F Y hb hd Z G r q⟩) he hpl) hdb)
end
def PK(X:Cx)(kws:List Keyword)(t:TA):Prop :=
 ∀(pos:Pos) (pins:List (Addr×Obj)) (s:Shared) (σ:St) (H:Hp) (Q:List V->Hp->Prop),AF X pins σ H s->t σ H Q->wpAny (model X.prog X.w) X.A (evalAll ((backToKw pos (keywordEach kws X.env)).map (·.2))) (AP X pins σ Q) X.xe s
section
variable {X:Cx}{CX:KL}{k:Nat}{f C:Addr}{fd:FuncData}{ps ks:List Str}{sp:Sp}{E:XK}{x m:Str}{p pos apos kpos:Pos}{e o:Expr}{es:List Expr}{kws:List Keyword}{te ta:TE}{t tk:TA}{nm:Option Str}
def fT:PK X [] LW:=λ_ _ _ _ H Q I h=>wpAny_evalAll_nil ⟨[],H,I,.nil,h⟩
def fU(ha:PE X e te)(Y:PK X kws t):PK X (⟨nm,e,kpos⟩::kws) (X9 te t):=by
 intro pos pins s σ H Q I h;show wpAny _ _ (evalAll ((do let v <- eval e X.env;standAt pos;pure v)::(backToKw pos (keywordEach kws X.env)).map (·.2))) _ _ s;exact wpAny_evalAll_cons (A6 (AV (ha pins s σ H _ I h) λu Z ⟨x,H1,G,F,J⟩=>A6 (Cm (Ab (AV (Y pos pins Z σ H1 _ G J) λus s2 ⟨xs,H2,W,r2,q2⟩=>⟨x::xs,H2,W,.cons F r2,q2⟩)))))
variable {g:List Value->List Value->List Value}{gV:List V->List V->List V}
end
structure DV(N P:List Str)(sc:Scope):Prop where
 kind:sc.kind=.function
 co:sc.isCoroutine=false
 gen:sc.isGenerator=false
 nd:N.Nodup
 pre:N.take P.length=P
 par:∀x∈P,sc.names.lookup x=some .local\/sc.names.lookup x=some .cell
 xm:∀y∈sc.names,y.2≠.free
theorem Xb{kindOf:Str->Option NameKind}{x:Str}:∀{F:List (Str×Value)}{m:Str->Option Value},(∀v,(x,v)∉F)->bindL kindOf F m x=m x
 | [],_,_=>rfl
 | (n,v)::r,m,h=>by
   unfold bindL;rw[Xb λw hw=>h w (Ah _ hw)];split
   .have:x≠n:=by rintro rfl;exact h v Al
    simp[this]
   .rfl
theorem Xc{kindOf:Str->Option NameKind}{x:Str}:∀{F:List (Str×Value)}{m:Str->Option Value},(∀v,(x,v)∉F)->bindC kindOf F m x=m x
 | [],_,_=>rfl
 | (n,v)::r,m,h=>by
   unfold bindC;rw[Xc λw hw=>h w (Ah _ hw)];split
   .rfl
   .have:x≠n:=by rintro rfl;exact h v Al
    simp[this]
theorem Xd{kindOf:Str->Option NameKind}{x:Str}{v:Value}:∀{P:List Str}{vs:List Value}{i:Nat}{m:Str->Option Value},P.Nodup->P[i]?=some x->vs[i]?=some v->kindOf x=some .local ->
 bindL kindOf (P.zip vs) m x=some v
 | [],_,_,_,_,h,_,_=>by simp at h
 | _::_,[],_,_,_,_,h,_=>by simp at h
 | p::P,w::vs,0,m,nd,h1,h2,F=>by
   simp at h1 h2;subst h1;subst h2;show bindL kindOf ((p,w)::P.zip vs) m p=_;unfold bindL;rw[Xb λv G=>(Bx.mp nd).1 (Jh G).1,Au F];simp
 | p::P,w::vs,i+1,m,nd,h1,h2,F=>by
   show bindL kindOf ((p,w)::P.zip vs) m x=_;unfold bindL;exact Xd (i:=i) (Bx.mp nd).2 (by simpa using h1) (by simpa using h2) F
theorem Xe{kindOf:Str->Option NameKind}{x:Str}{v:Value}:∀{P:List Str}{vs:List Value}{i:Nat}{m:Str->Option Value},P.Nodup->P[i]?=some x->vs[i]?=some v->kindOf x≠some .local ->
 bindC kindOf (P.zip vs) m x=some v
 | [],_,_,_,_,h,_,_=>by simp at h
 | _::_,[],_,_,_,_,h,_=>by simp at h
 | p::P,w::vs,0,m,nd,h1,h2,F=>by
   simp at h1 h2;subst h1;subst h2;show bindC kindOf ((p,w)::P.zip vs) m p=_;unfold bindC;rw[Xc λv G=>(Bx.mp nd).1 (Jh G).1,As F];simp
 | p::P,w::vs,i+1,m,nd,h1,h2,F=>by
   show bindC kindOf ((p,w)::P.zip vs) m x=_;unfold bindC;exact Xe (i:=i) (Bx.mp nd).2 (by simpa using h1) (by simpa using h2) F
def start(N:List Str)(vs:List V):St:=vs.map some++List.replicate (N.length-vs.length) none
def HM(CX:KL)(P:Program)(w:World)(K:Frag)(mg:Str->Option Value)(base:Heap)(N:List Str)(qual:Str)(scope:Scope)(f:Addr)(cd:Value)(A:Around)(outer:List Env)(s:Shared)(H:Hp)(E:XK):Cx where
 prog:=P
 w:=w
 K:=K
 mg:=mg
 base:=base
 A:=A.deeper (envOfC qual scope s.heap.objs.size f cd)
 N:=N
 Ã:=s
 H₀:=H
 env:=envOfC qual scope s.heap.objs.size f cd
 outer:=outer
 stack:=envOfC qual scope s.heap.objs.size f cd::outer
 ex:=[]
 calm:=true
 fn:=λ_=>true
 pn:=[]
 xe:=λe s'=>wpAny (model P w) (A.deeper (envOfC qual scope s.heap.objs.size f cd)) (leaving (envOfC qual scope s.heap.objs.size f cd) e) (λ_ F=>CX outer H s E e F) (λG F=>CX outer H s E G F) s'
def Sz{F:Scope}{n:Nat}{x:Str}(h:F.names.lookup x=some .cell):∃c,(cellsFrom n F.names []).lookup x=some c:=by
 simp_all[J7,Dw.mp]
def fV{CX:KL}{P:Program}{w:World}{K:Frag}{mg:Str->Option Value}{base:Heap}{N ps:List Str}{qual:Str}{scope:Scope}{f:Addr}{cd:Value}{A:Around}{outer:List Env}{s s1:Shared}{H:Hp}{E:XK}{us:List Value}{vs:List V}
 (S:DV N ps scope) (hd:A.handled=none) (e0:KM P w K mg base A outer s H) (hl:vs.length=ps.length) (r:AM vs us)
 (x:InCallC s s.heap.objs.size (bindL (envOfC qual scope s.heap.objs.size f cd).kindOf (ps.zip us) λ_=>none) (cellsFrom (s.heap.objs.size+1) scope.names []) (bindC (envOfC qual scope s.heap.objs.size f cd).kindOf (ps.zip us) λ_=>none) s1) :
 AF (HM CX P w K mg base N qual scope f cd A outer s H E) [] (start N vs) H s1:=by
 have aa:ps.length<=N.length:=by have:=C6 List.length S.pre;rw[Bb]at this;lia
 obtain⟨h1,tk,rfl,Y⟩:=x.done;have G:∀b:Addr,b∉(HM CX P w K mg base N qual scope f cd A outer s H E).ex:=λb z=>absurd (show b∈([]:List Addr)from z) (by simp)
 refine⟨⟨e0.mod,S.kind,rfl,rfl,Aa _,λy z c h1 h2=>?_,λy F=>?_,λy c _ h=>?_,λ_=>hd,Around.frames_deeper e0.frames,.inr ⟨rfl,rfl⟩,λb z=>absurd z (G b),e0.bs,e0.wx,λb _ _=>G b,λb z=>absurd z (G b),e0.ĸ,e0.wK⟩,
  rfl,e0.bare,Un.kept Y,⟨_,x.toInCall.ns,λi y v h1 h2 h3=>?_⟩,λy c h=>⟨_,x.cell y c h⟩,e0.Í.fresh (Aa _),λy c h=>?_,λp I=>absurd (show p∈([]:List (Addr×Obj))from I) (by simp),e0.Í.kept Y,?_⟩
 .exact name_of_addr x.apart (Cw h1) (Cw h2)
 .have F:=F;rcases F with F|F
  .exact Sz F
  .exact absurd rfl (S.xm _ (Cw F))
 .exact J5 (x.above y c (Cw h))
 .have hi:i<vs.length:=by
   unfold start at h2
   grind
  have ha:vs[i]?=some v:=by
   unfold start at h2
   grind
  obtain⟨u,Z,rv⟩:=r.get ha;have I:ps[i]?=some y:=by
   rw[<-S.pre,List.getElem?_take_of_lt (by lia)];exact h1
  have J:ps.Nodup:=by rw[<-S.pre];exact S.nd.sublist (List.take_sublist _ _)
  refine⟨u,rv,?_⟩;rcases S.par y (Af I)with k|k
  .exact .inl ⟨k,Xd J I Z k⟩
  .obtain⟨c,e⟩:=Sz (n:=s.heap.objs.size+1) k;refine .inr ⟨.inl k,c,e,?_⟩;have q:=x.cell y c e;rw[Xe J I Z (by show scope.names.lookup y≠_;rw[k];decide)]at q
   exact q
 .exact e0.Í.fresh (J5 (x.above y c (Cw h)))
 .unfold start;show _=N.length
  grind
def SD{CX:KL}{P:Program}{w:World}{K:Frag}{mg:Str->Option Value}{base:Heap}{k:Nat}{f:Addr}{name qual:Str}{params:Arguments}{body:List Stmt}{scope:Scope}{dV kV doc pm F ct oc:Value}{an od:Option Addr}
 {osl:Array (Option Value)}{N ps:List Str}{sp:Sp}(lk:K.lookup f=some ⟨oc,od,.func (PySem.W.fnOf name qual params body scope dV kV doc pm an F ct),osl⟩) (hcd:PySem.W.codeIn K F qual=true) (S:DV N ps scope)
 (len:∀vs H Q E,sp vs H Q E->vs.length=ps.length)
 (hbody:∀(A:Around) (outer:List Env) (s:Shared) (H:Hp) (vs:List V) (Q:VK) (E:XK),BO k (A.deeper (envOfC qual scope s.heap.objs.size f F))->sp vs H Q E ->
   ∃t,IP (HM CX P w K mg base N qual scope f F A outer s H E) body t/\t { nx:=λ_ H'=>Q .non H',rt:=Q } (start N vs) H) :
 AG P w K mg base CX (k+1) f (PySem.W.fnOf name qual params body scope dV kV doc pm an F ct) ps sp:=by
 refine⟨len,λA outer s H args us vs Q E hr e0 hb r aa=>?_⟩;have hl:=len _ _ _ _ aa;have KX:K.In s.heap:=e0.mod.wQ.keeps λb o e=>(e0.bs b o e).1
 have ac:s.heap.NoLimit:=e0.mod.nolimit.keeps λb o e=>(e0.bs b o e).1
 have Y:∀y∈ps.zip us,scope.names.lookup y.1=some .local\/(scope.names.lookup y.1=some .cell/\((cellsFrom (s.heap.objs.size+1) scope.names []).lookup y.1).isSome=true):=λ⟨n,v⟩ hy=>by
  rcases S.par n (Jh hy).1 with q|q
  .exact .inl q
  .exact .inr ⟨q,J7 _ _ _ (.inl q)⟩
 refine codeAny_call_function hr.depth (KX _ _ lk) rfl S.co S.gen rfl (PySem.W.codeRec_of KX hcd) (hb _ _ _ _ ?_);refine wpAny_newFunctionEnv_cells S.kind Y λenv he s1 x=>?_;subst he;refine⟨ac.keeps x.toInCall.keep,codeAny_func ?_⟩;obtain⟨t,ht,hq⟩:=hbody A outer s H vs Q E (hr.deeper _) aa;have I:AF (HM CX P w K mg base N qual scope f F A outer s H E) [] (start N vs) H s1:=fV S hr.hd e0 hl r x;refine Bv (ht [] s1 (start N vs) H _ I hq) (λfl s' Z=>?_) λe s' Z=>Z
 have fin:∀{G:St}{H':Hp}{v:V}{u:Value},AF (HM CX P w K mg base N qual scope f F A outer s H E) [] G H' s'->AR v u->Q v H'->CE outer P w H s Q u s' :=
  λ{G H' v u} J rv q=>⟨v,H',J.os,J.bare,J.base,J.Í,rv,q⟩
 cases fl with
 | ret u =>
   obtain⟨v,G,H',J,rv,q⟩:=Z;exact fin J rv q
 | next =>
   obtain⟨G,H',J,q⟩:=Z;exact fin (v:=V.non) (u:=Value.none) J rfl q
 | brk =>
   obtain⟨_,_,_,q⟩:=Z;exact False.elim q
 | cont =>
   obtain⟨_,_,_,q⟩:=Z;exact False.elim q
end L2
namespace L2
open PySem PySem.Spec PyProof.Rows
section
variable {X:Cx}{x:Str}{p pos:Pos}{e:Expr}{es:List Expr}{t:TA}{id T:String}{r:List V->Hp->VK->Prop}
def Xf(r:List V->Hp->VK->Prop)(t:TA):TE:=λσ H Q=>t σ H λvs H1=>r vs H1 Q
def CS(hc:IW X (.builtin id) r)(G:Gl X x)(hm:X.mg x=none)(Z:bootBuiltins x=some (.builtin id))(ha:PA X (e::es) t)(hn:x≠"__name__":=by decide)(hdb:(x==("__debug__":Str))=false:=by decide)
 (he:starEach (e::es) X.env=(false,eval e X.env)::starEach es X.env:=by rfl) (hpl:(backTo pos (starEach es X.env)).any (·.1)=false:=by rfl):PE X (.Call (.Name x p) (e::es) [] pos) (Xf r t):=by
 intro pins s σ H Q I h;exact Bs (LH I G hm Z (PyProof.Rows.callWith_builtin1 (AV (ha pos pins s σ H _ I h) λus Y ⟨vs,H1,J,F,W⟩=>hc pins Y σ H1 vs us Q J F W) he hpl) hn hdb)
def Ky(hc:IW X (.type T) r)(G:Gl X x)(hm:X.mg x=none)(Z:bootBuiltins x=some (.type T))(ha:PA X (e::es) t)(hn:x≠"__name__":=by decide)(hdb:(x==("__debug__":Str))=false:=by decide)
 (he:starEach (e::es) X.env=(false,eval e X.env)::starEach es X.env:=by rfl) (hpl:(backTo pos (starEach es X.env)).any (·.1)=false:=by rfl):PE X (.Call (.Name x p) (e::es) [] pos) (Xf r t):=by
 intro pins s σ H Q I h;exact Bs (LH I G hm Z (Bq (AV (ha pos pins s σ H _ I h) λus Y ⟨vs,H1,J,F,W⟩=>hc pins Y σ H1 vs us Q J F W) he hpl) hn hdb)
end
end L2
namespace HT
open PySem PyProof.Rows
section
variable {prog:Program}{w:World}{A:Around}{E:Value->Shared->Prop}{s:Shared}
def CY(n d:Nat):Option Int->Nat
 | none=>d
 | some v=>if v<0 then(v+(n:Int)).toNat else min v.toNat n
def fW(n d:Nat):CY n d none=d:=rfl
def SE(n d k:Nat):CY n d (some (k:Int))=min k n:=by
 show(if (k:Int)<0 then((k:Int)+(n:Int)).toNat else min (k:Int).toNat n)=min k n;rw[As (by lia),K6]
def fX(n d:Nat)(hd:d<=n)(o:Option Int):CY n d o<=n:=by
 cases o with
 | none=>exact hd
 | some v =>
   show(if v<0 then(v+(n:Int)).toNat else min v.toNat n)<=n
   lia
def Xg(v:Int)(n d:Nat):(if v<0 then max (v+(n:Int)) 0 else min v (n:Int))=((CY n d (some v):Nat):Int):=by
 show(if v<0 then max (v+(n:Int)) 0 else min v (n:Int))=(((if v<0 then(v+(n:Int)).toNat else min v.toNat n):Nat):Int)
 lia
def fY(lo hi:Option Int)(n:Nat):Builtin.Slice.sliceAdjust lo hi 1 (n:Int)=(((CY n 0 lo:Nat):Int),((CY n n hi:Nat):Int)):=by
 have h1:¬((1:Int)<0):=by lia
 unfold Builtin.Slice.sliceAdjust;simp only[h1,G0];refine Prod.ext ?_ ?_
 .cases lo with
  | none=>rfl
  | some v=>exact Xg v n 0
 .cases hi with
  | none=>rfl
  | some v=>exact Xg v n n
def fZ(i j:Nat):Builtin.Slice.slicePlaces (i:Int) (j:Int) 1=j-i:=by
 unfold Builtin.Slice.slicePlaces
 lia
def Xh{v:Value}{o:Option Int}{Q:Option Int->Shared->Prop}(p:IsPart v o)(h:Q o s):wpAny (model prog w) A (Builtin.Slice.slicePartIndex v) Q E s:=by
 cases p with
 | none=>exact slicePart_none h
 | int i t=>exact slicePart_int h
def g7{W:Addr}{J I:Value}{lo hi:Option Int}{n:Nat}{Q:Int×Int×Nat->Shared->Prop}(hs:s.heap.IsSliceOf W J I .none)(pl:IsPart J lo)(Y:IsPart I hi)
 (h:Q (((CY n 0 lo:Nat):Int),1,CY n n hi-CY n 0 lo) s):wpAny (model prog w) A (Builtin.Slice.sliceApplied (.ref W) (pure (n:Int))) Q E s:=by
 obtain⟨os,F,Z,G⟩:=id hs;unfold Builtin.Slice.sliceApplied Builtin.Slice.sliceFields;refine A6 (A6 (Bz F G (x:=J) rfl (A6 (Bz F G (x:=I) rfl (A6 (Bz F G (x:=.none) rfl (Ab (A6 (slicePart_none ?_)))))))));show wpAny _ _ (if ((1:Int)==0)=true then _ else _) _ _ s;rw[As (by decide)];refine A6 (Xh pl (A6 (Xh Y (A6 (Ab ?_)))));show wpAny _ _ (match Builtin.Slice.sliceAdjust lo hi 1 (n:Int)with|(lo,hi)=>pure (lo,(1:Int),Builtin.Slice.slicePlaces lo hi 1)) _ _ s;rw[fY lo hi n];show wpAny _ _ (pure (((CY n 0 lo:Nat):Int),(1:Int),Builtin.Slice.slicePlaces ((CY n 0 lo:Nat):Int) ((CY n n hi:Nat):Int) 1)) _ _ s;rw[fZ];exact Ab h
def g9(xs:Array Value)(i k:Nat):((List.range k).filterMap λ(m:Nat)=>xs[((i:Int)+(m:Int)*1).toNat]?).toArray=((xs.toList.drop i).take k).toArray:=by
 have e:(λ(m:Nat)=>xs[((i:Int)+(m:Int)*1).toNat]?)=λm=>xs[i+m]?:=by
  grind
 rw[e];have:=pick_run xs i k;rw[List.filterMap_map]at this
 have F:((λx=>xs[x]?)∘λx=>i+x)=λm=>xs[i+m]?:=rfl
 rw[F]at this
 rw[this]
def gc{t I:Addr}{items:Array Value}{vl Z:Value}{lo hi:Option Int}{Q:Value->Shared->Prop}(ht:IsTup s.heap t items)(hs:s.heap.IsSliceOf I vl Z .none)(pl:IsPart vl lo)(pu:IsPart Z hi)
 (hw:¬(CY items.size 0 lo=0/\CY items.size items.size hi=items.size))
 (h:Q (.ref s.heap.objs.size) { s with heap:=s.heap.push { cls:=.type "tuple",data:=.seq ((items.toList.drop (CY items.size 0 lo)).take (CY items.size items.size hi-CY items.size 0 lo)).toArray } })
 (hsz:items.size<=sizeLine):wpAny (model prog w) A (getItem (.ref t) (.ref I)) Q E s:=by
 have F:sizeOk (.seq ((items.toList.drop (CY items.size 0 lo)).take (CY items.size items.size hi-CY items.size 0 lo)).toArray):=by
  show((items.toList.drop (CY items.size 0 lo)).take (CY items.size items.size hi-CY items.size 0 lo)).toArray.size<=sizeLine
  grind
 have hj:CY items.size items.size hi<=items.size:=fX _ _ (Aa _) hi;obtain⟨os,Y,J,aa⟩:=id hs;have W:s.TypeIs (.ref I) "slice":=⟨os,Y,J⟩
 unfold getItem;try with_reducible refine Bo ?_
 first|refine A6 (Ab ?_)|skip
 refine A6 (wpAny_sequenceKey ht.typeIs (by decide) ?_);refine A6 (E1 (name:=("__getitem__":Str)) ht.typeIs Dx
  (Ft Dx ht.typeIs entry_tuple_getitem ?_ (args_tuple_getitem _ _)))
 show wpAny _ _ (Builtin.Tuple.tupleItemsOf (.ref t) >>= _) _ _ s;refine A6 (tupleItemsOf_ ht (A6 (wpAny_typeOf W ?_)));rw[Au (by decide)];refine A6 (g7 hs pl pu ?_);have G:¬((((CY items.size 0 lo:Nat):Int)==0&&(1:Int)==1&&(CY items.size items.size hi-CY items.size 0 lo)==items.size)=true):=by
  lia
 show wpAny _ _ (if (((CY items.size 0 lo:Nat):Int)==0&&(1:Int)==1&&(CY items.size items.size hi-CY items.size 0 lo)==items.size)=true then _ else _) _ _ s;rw[As G,g9];first
  | exact A6 (m:=Builtin.Tuple.tupleExact _) (C3 (Ab ⟨_,rfl,Ab h⟩) F)
  | exact A6 (m:=Builtin.Tuple.tupleExact _) (C3 (A6 (Ab (Ab ⟨_,rfl,Ab h⟩))) F)
  | exact A6 (A6 (m:=Builtin.Tuple.tupleExact _) (C3 (Ab (Ab ⟨_,rfl,Ab h⟩)) F))
  | exact A6 (A6 (m:=Builtin.Tuple.tupleExact _) (C3 (Ab ⟨_,rfl,Ab h⟩) F))
end
end HT
namespace L2
open PySem PySem.Spec PyProof.Rows
abbrev TO:=St->Hp->(Option Int->Hp->Prop)->Prop
def PO(X:Cx)(e:Option Expr)(t:TO):Prop :=
 ∀(pins:List (Addr×Obj)) (s:Shared) (σ:St) (H:Hp) (Q:Option Int->Hp->Prop),AF X pins σ H s->t σ H Q ->
  wpAny (model X.prog X.w) X.A (evalPart e X.env) (λu s'=>∃o H',AF X pins σ H' s'/\IsPart u o/\Q o H') X.xe s
def gf:TO:=λ_ H Q=>Q none H
def gg(t:TE):TO:=λσ H Q=>t σ H λx H1=>∃i,x=.int i/\Q (some i) H1
def UN:∀{us:List Value},AM (ns.map V.int) us->IntsAre us ns:=by
 induction ns with
 | nil=>intro us r;rw[J8]at r;cases r;exact .nil
 | cons n ns ih =>
   intro us r;rw[Bl]at r
   cases r with
   | cons G F =>
     obtain⟨t,rfl⟩:=G;exact .cons n t (ih F)
section
variable {X:Cx}{e:Expr}{te:TE}{lo hi:Option Expr}{tl th:TO}{pos p2:Pos}
def SG:PO X none gf:=by
 intro pins s σ H Q I h;rw[evalPart_none];exact Ab ⟨none,H,I,.none,h⟩
def LK(h:PE X e te):PO X (some e) (gg te):=by
 intro pins s σ H Q I hw;rw[evalPart_some];refine AV (h pins s σ H _ I hw) λu W ⟨x,H1,G,F,J⟩=>?_;obtain⟨i,rfl,q⟩:=J;obtain⟨t,rfl⟩:=F;exact⟨some i,H1,G,.int i t,q⟩
def PY(X:Cx)(r:V->Option Int->Option Int->Hp->VK->Prop):Prop :=
 ∀(pins:List (Addr×Obj)) (s:Shared) (σ:St) (H:Hp) (x:V) (v I G:Value) (lo hi:Option Int) (F:Addr) (Q:VK),AF X pins σ H s->AR x v->s.heap.IsSliceOf F I G .none->IsPart I lo->IsPart G hi->r x lo hi H Q ->
  ∃T id,typeLookup (.type T) "__getitem__"=pure (some (.builtin id))/\s.TypeIs v T/\wpAny (model X.prog X.w) X.A (getItem v (.ref F)) (EP X pins σ Q) X.xe s
def gh(r:V->Option Int->Option Int->Hp->VK->Prop)(te:TE)(tl th:TO):TE:=λσ H Q=>te σ H λx H1=>tl σ H1 λl H2=>th σ H2 λu F=>r x l u F Q
def NZ(hr:PY X r)(he:PE X e te)(hl:PO X lo tl)(hu:PO X hi th):PE X (.Subscript e (.Slice lo hi none p2) pos) (gh r te tl th):=by
 intro pins s σ H Q I h;refine Subscript_ (AV (he pins s σ H _ I h) λv s1 ⟨x,H1,I1,Y,q1⟩=>wpAny_Slice (AV (hl pins s1 σ H1 _ I1 q1) λJ s2 ⟨l,H2,I2,pl,q2⟩=>AV (hu pins s2 σ H2 _ I2 q2) λG F ⟨u,W,I3,pu,q3⟩=>?_));rw[evalPart_none];refine Ab ?_;have Z:AF X pins σ W { F with heap:=F.heap.push { cls:=.type "slice",data:=.fields #[J,G,.none] } }:=I3.kept (t':=F.toks) λb ob q=>A7 _ q
 obtain⟨T,id,hT,ht,hg⟩:=hr pins { F with heap:=F.heap.push { cls:=.type "slice",data:=.fields #[J,G,.none] } } σ W x v J G l u F.heap.objs.size Q Z Y (Heap.IsSliceOf.new ..) pl pu q3;show wpAny (model X.prog X.w) X.A (subscriptTail e (.Slice lo hi none p2) v (.ref F.heap.objs.size)) (EP X pins σ Q) X.xe { F with heap:=F.heap.push { cls:=.type "slice",data:=.fields #[J,G,.none] } };exact tail_any (ops:=[.ref F.heap.objs.size,v]) ht hT hg (by with_unfolding_all rfl)
def EJ(xs:List V)(lo hi:Option Int):List V:=(xs.drop (HT.CY xs.length 0 lo)).take (HT.CY xs.length xs.length hi-HT.CY xs.length 0 lo)
def Xi(xs:List V)(lo hi:Option Int):(EJ xs lo hi).length<=xs.length:=by
 unfold EJ;rw[Bb,Ci]
 lia
def R8(K:Frag):V->Option Int->Option Int->Hp->VK->Prop:=λx lo hi H Q=>∃a xs,x=.ref a/\BS K H a xs /\
 ¬(HT.CY xs.length 0 lo=0/\HT.CY xs.length xs.length hi=xs.length)/\∀p,H p=none->Q (.ref p) (upd H p (.tup (EJ xs lo hi)))
def gi:PY X (R8 X.K):=by
 rintro pins s σ H x v vl Z lo hi sl Q I J W pl G ⟨a,xs,rfl,Y,hw,q⟩;cases J;obtain⟨its,r,ht,hz⟩:=I.tuple Y;have F:its.toArray.size=xs.length:=by rw[B1];exact r.length.symm
 refine⟨"tuple",_,Dx.lookup,ht.typeIs,HT.gc ht W pl G (by rw[F];exact hw) ?_ (by rw[F];exact hz)⟩;rw[F];refine⟨.ref s.heap.objs.size,_,I.laid (t':=s.toks) (o:=.tup (EJ xs lo hi)) (λb ob q=>A7 _ q) (Aa _) ?_,rfl,q _ (I.Í.fresh (Aa _))⟩;exact⟨Bk (Xi xs lo hi) hz,_,(r.drop (HT.CY xs.length 0 lo)).take (HT.CY xs.length xs.length hi-HT.CY xs.length 0 lo),IsTup.new _ _⟩
end
end L2
namespace L2
open PySem PySem.Spec PyProof.Rows
def MW(n:Nat)(i:Int):Option Nat:=if 0<=i then(if i<n then some i.toNat else none)else if -(n:Int)<=i then some (i+n).toNat else none
def EN{α:Type}(xs:List α)(i:Int):Option α:=(MW xs.length i).bind λj=>xs[j]?
def Xj(h:MW n i=some j):seqIndex? i n=some j/\j<n/\-(n:Int)<=i/\i<n:=by
 unfold MW at h;by_cases F:0<=i
 .rw[Au F]at h
  by_cases h1:i<n
  .rw[Au h1]at h
   have e:=Av h;exact⟨by rw[seqIndex_of F h1,e],by lia,by lia,h1⟩
  .rw[As h1]at h;cases h
 .rw[As F]at h
  by_cases h1:-(n:Int)<=i
  .rw[Au h1]at h
   have e:=Av h;exact⟨by rw[seqIndex_neg (by lia) h1,e],by lia,h1,by lia⟩
  .rw[As h1]at h;cases h
def UO{α:Type}{xs:List α}{i:Int}{v:α}(h:EN xs i=some v):∃j,seqIndex? i xs.length=some j/\xs[j]?=some v/\j<xs.length/\-(xs.length:Int)<=i/\i<xs.length:=by
 unfold EN at h;cases e:MW xs.length i with
 | none=>rw[e]at h;cases h
 | some j =>
   rw[e]at h
   refine DP (λh1 h2 G F=>?_) (Xj e);exact AX j (CQ h1 h h2 G F)
def HZ{α:Type}{xs:List α}{j:Nat}{v:α}(h:xs[j]?=some v):EN xs (j:Int)=some v:=by
 grind[List.getElem?_eq_some_iff.mp,MW,EN]
def gj(b:Expr):Prop:=∀o i,subscripted b false o i=operate [o,i] (getItem o i)
def OE(X:Cx)(r:R2):Prop :=
 ∀(value slice:Expr) (pins:List (Addr×Obj)) (s:Shared) (σ:St) (H:Hp) (x y:V) (v u:Value) (Q:VK),AF X pins σ H s->AR x v->AR y u->r x y H Q ->
  subscripted slice false v u=operate [v,u] (getItem v u)->wpAny (model X.prog X.w) X.A (subscriptTail value slice v u) (EP X pins σ Q) X.xe s
def OF(X:Cx)(id:String)(r:V->List V->Hp->VK->Prop):Prop :=
 ∀(pins:List (Addr×Obj)) (s:Shared) (σ:St) (H:Hp) (x:V) (xs:List V) (v:Value) (us:List Value) (Q:VK),AF X pins σ H s->AR x v->AM xs us->r x xs H Q ->
  wpAny (model X.prog X.w) X.A (call (.builtin id) (v::us)) (EP X pins σ Q) X.xe s
section
variable {X:Cx}{a b:Expr}{ta tb:TE}{pos:Pos}
def CT(J:OE X r)(ha:PE X a ta)(hb:PE X b tb)(Y:gj b):PE X (.Subscript a b pos) (Ss r ta tb):=by
 intro pins s σ H Q I h;exact Subscript_ (Oz ha hb I h λv u F x y H2 G W Z q=>J a b pins F σ H2 x y v u Q G W Z q (Y _ _))
def R9(K:Frag):R2:=λx y H Q=>∃p xs i v,x=.ref p/\y=.int i/\AH K H p xs/\EN xs i=some v/\Q v H
def OG(K:Frag):R2:=λx y H Q=>∃p xs i v,x=.ref p/\y=.int i/\BS K H p xs/\EN xs i=some v/\Q v H
def Ra:R2:=λx y H Q=>∃z i c,x=.str z/\y=.int i/\z.length<=sizeLine/\EN z.cps.toList i=some c/\Q (.str ⟨#[c]⟩) H
def gk:OE X (R9 X.K):=by
 intro value slice pins s σ H x y v u Q I rx ry h Y;obtain⟨p,xs,i,z,rfl,rfl,hq,he,q⟩:=h;cases rx;obtain⟨t,rfl⟩:=ry;obtain⟨its,r,pl,hz⟩:=I.list hq;obtain⟨j,h1,h2,h3,Z,h5⟩:=UO he;obtain⟨w,W,F⟩:=r.get h2;have hl:=r.length;have hn:=PV;have fin:EP X pins σ Q w s:=⟨z,H,I,F,q⟩
 by_cases J:0<=i
 .have G:i.toNat=j:=by
   rw[seqIndex_of J h5]at h1
   exact Av h1
  exact item_listR pl.isList J (by lia) (by rw[G];simpa using W) fin Y
 .have G:(i+(its.toArray.size:Int)).toNat=j:=by
   rw[seqIndex_neg (by lia) Z]at h1
   grind
  exact subscriptTail_builtinR (x:=w) pl.isList.typeIs slot_list_getitem.lookup
   (wpAny_getItem_list_neg (Q:=λr s'=>r=w/\EP X pins σ Q r s') pl.isList (by lia) (by rw[B1]<;>lia) (by lia) (by rw[G];simpa using W) ⟨rfl,fin⟩) Y
def Xk:OE X (OG X.K):=by
 intro value slice pins s σ H x y v u Q I J Y h W;obtain⟨p,xs,i,z,rfl,rfl,hq,Z,q⟩:=h;cases J;obtain⟨t,rfl⟩:=Y;obtain⟨its,r,pl,hz⟩:=I.tuple hq;obtain⟨j,h1,h2,h3,h4,h5⟩:=UO Z;obtain⟨w,G,F⟩:=r.get h2;have hn:=PV;have fin:EP X pins σ Q w s:=⟨z,H,I,F,q⟩
 exact subscriptTail_builtinR (x:=w) pl.typeIs slot_tuple_getitem.lookup
  (getItem_tuple (j:=j) (Q:=λr s'=>r=w/\EP X pins σ Q r s') pl (by lia) (by lia) (by rw[B1,<-r.length];exact h1) (by simpa using G) ⟨rfl,fin⟩) W
def OH:OE X Ra:=by
 intro value slice pins s σ H x y v u Q I Y ry h Z;obtain⟨z,i,c,rfl,rfl,hz,he,q⟩:=h;obtain⟨t,rfl⟩:=Y;obtain⟨t',rfl⟩:=ry;obtain⟨j,h1,h2,h3,F,G⟩:=UO he;have W:z.cps.toList.length=z.length:=by simp[Str.length]
 rw[W]at h1 F G
 have hn:=PV;exact tail_any (Fu s z t) slot_str_getitem.lookup (getItem_str (c:=c) (by
  have e1:decide (i < -(2^63:Int))=false:=Ak (by lia);have J:decide (i≥2^63)=false:=Ak (by lia);rw[e1,J,Bool.or_false]) (by rw[h1];simpa using h2) ⟨.str ⟨#[c]⟩,H,I.tok _,⟨_,rfl⟩,q⟩) Z
def gn(its:List Value)(n j:Nat)(u:Value):Obj.mapSeq (·.setIfInBounds j u) { cls:=.type "list",data:=.seq its.toArray n }={ cls:=.type "list",data:=.seq (its.set j u).toArray n }:=by
 simp[Obj.mapSeq]
def AF.lst{pins:List (Addr×Obj)}{σ:St}{H:Hp}{s:Shared}{p:Addr}{xs:List V}(I:AF X pins σ H s)(h:H p=some (.lst xs)) :
 ∃(its:List Value) (n:Nat),AM xs its/\s.heap.get? p=some { cls:=.type "list",data:=.seq its.toArray n }/\xs.length<=sizeLine:=by
 obtain⟨z,its,n,r,e⟩:=I.Í p _ h;exact⟨its,n,r,e,z⟩
def AF.xt{pins:List (Addr×Obj)}{σ:St}{H:Hp}{s:Shared}{p:Addr}{xs ys:List V}{its its':List Value}{n F:Nat}{f:Obj->Obj}(I:AF X pins σ H s)(h:H p=some (.lst xs))
 (ho:s.heap.get? p=some { cls:=.type "list",data:=.seq its.toArray n }) (hf:f { cls:=.type "list",data:=.seq its.toArray n }={ cls:=.type "list",data:=.seq its'.toArray F }) (r:AM ys its') (hz:ys.length<=sizeLine) (t:Nat) :
 AF X pins σ (upd H p (.lst ys)) { s with heap:=s.heap.update p f,toks:=t }:=by
 have e:(s.heap.update p f).get? p=some { cls:=.type "list",data:=.seq its'.toArray F }:=by
  rw[Bn f ho (by rw[hf]<;>rfl),hf]
 refine I.write (x:=p) (e:=p) (by rw[h];trivial) (.inl rfl) (λb u hb q=>(B2 _ _ (Cc hb)).trans q) ⟨_,e⟩ ?_;exact⟨hz,its',F,r,e⟩
def gq:V->V->V->Hp->(Hp->Prop)->Prop:=λo i v H Q=>∃p xs k j,o=.ref p/\i=.int k/\H p=some (.lst xs)/\MW xs.length k=some j/\Q (upd H p (.lst (xs.set j v)))
def PZ:R0 X gq:=by
 rintro pins s σ H o i v ov iv u Q I G ri rv ⟨p,xs,k,j,rfl,rfl,F,hj,q⟩;cases G;obtain⟨t,rfl⟩:=ri;obtain⟨its,n,r,ho,hz⟩:=I.lst F;obtain⟨h1,h2,h3,Z⟩:=Xj hj;have hl:=r.length;have hn:=PV;have I':AF X pins σ (upd H p (.lst (xs.set j v))) { s with heap:=s.heap.update p (Obj.mapSeq (·.setIfInBounds j u)) } :=
  I.xt F ho (gn its n j u) (r.set rv j) (by rw[E7];exact hz) s.toks
 by_cases J:0<=k
 .have Y:k.toNat=j:=by
   rw[seqIndex_of J Z]at h1
   exact Av h1
  grind[PySem.W.ki_setAt,List.size_toArray]
 .have Y:(k+(its.toArray.size:Int)).toNat=j:=by
   rw[seqIndex_neg (by lia) h3]at h1
   grind
  grind[PySem.W.ki_setBack,List.size_toArray]
def gr(lo hi:Option Int)(n:Nat):(sliceBounds lo hi none n).1=((HT.CY n 0 lo:Nat):Int)/\(sliceBounds lo hi none n).2.1=((HT.CY n n hi:Nat):Int)/\(sliceBounds lo hi none n).2.2=1:=by
 refine⟨?_,?_,rfl⟩
 .cases lo with
  | none=>simp[sliceBounds,HT.CY]
  | some i =>
    simp only[sliceBounds,HT.CY,Option.getD_none,show(1:Int) > 0 by decide,J9]
    lia
 .cases hi with
  | none=>simp[sliceBounds,HT.CY]
  | some i =>
    simp only[sliceBounds,HT.CY,Option.getD_none,show(1:Int) > 0 by decide,J9]
    lia
def gu(its:List Value)(lo hi:Option Int):slicePick its.toArray lo hi none=((its.drop (HT.CY its.length 0 lo)).take (HT.CY its.length its.length hi-HT.CY its.length 0 lo)).toArray:=by
 obtain⟨h1,h2,F⟩:=gr lo hi its.toArray.size;unfold slicePick;rw[h1,h2,F];simp only[sliceRange_one,pick_run,B1]<;>rfl
def Rb(K:Frag):V->Option Int->Option Int->Hp->VK->Prop:=λx lo hi H Q=>∃a xs,x=.ref a/\AH K H a xs/\∀p,H p=none->Q (.ref p) (upd H p (.lst (EJ xs lo hi)))
def gv:PY X (Rb X.K):=by
 rintro pins s σ H x v vl Z lo hi sl Q I J W pl G ⟨a,xs,rfl,Y,q⟩;cases J;obtain⟨its,r,ht,hz⟩:=I.list Y;have F:=r.length;refine⟨"list",_,slot_list_getitem.lookup,ht.isList.typeIs,wpAny_getItem_list_slice ht.isList W pl G .none (by simp) ?_ (by rw[B1]<;>lia)⟩;rw[gu,<-F];refine⟨.ref s.heap.objs.size,_,I.laid (t':=s.toks) (o:=.lst (EJ xs lo hi)) (λb ob q=>A7 _ q) (Aa _) ?_,rfl,q _ (I.Í.fresh (Aa _))⟩;exact⟨Bk (Xi xs lo hi) hz,_,0,(r.drop (HT.CY xs.length 0 lo)).take (HT.CY xs.length xs.length hi-HT.CY xs.length 0 lo),Ax _ rfl⟩
def MX:V->Bool
 | .non=>true
 | .bl _=>true
 | .int _=>true
 | .str _=>true
 | _=>false
def LX:V->V->Bool
 | .non,.non=>true
 | .bl a,.bl b=>a==b
 | .bl a,.int b=>(if a then 1 else 0)==b
 | .int a,.bl b=>a==(if b then 1 else 0)
 | .int a,.int b=>a==b
 | .str a,.str b=>a==b
 | _,_=>false
def gw{u:Value}(I:AR y u)(F:AR x v)(J:MX y=true)(G:MX x=true):SeqAt.EqAt A s u v (LX y x):=by
 cases y with
 | non =>
   cases I;cases x with
   | non=>cases F;exact SeqAt.EqAt.same _
   | bl b=>cases F;exact SeqAt.EqAt.none_bool b
   | int b=>obtain⟨t,rfl⟩:=F;exact SeqAt.EqAt.none_int b t
   | str b=>obtain⟨t,rfl⟩:=F;exact SeqAt.EqAt.none_str b t
   | _=>exact absurd (show false=true from G) Ay
 | bl a =>
   cases I;cases x with
   | non=>cases F;exact SeqAt.EqAt.bool_none a
   | bl b=>cases F;exact SeqAt.EqAt.bool_bool a b
   | int b=>obtain⟨t,rfl⟩:=F;exact SeqAt.EqAt.bool_int a b t
   | str b=>obtain⟨t,rfl⟩:=F;exact SeqAt.EqAt.bool_str a b t
   | _=>exact absurd (show false=true from G) Ay
 | int a =>
   obtain⟨t',rfl⟩:=I;cases x with
   | non=>cases F;exact SeqAt.EqAt.int_none a t'
   | bl b=>cases F;exact SeqAt.EqAt.int_bool a t' b
   | int b=>obtain⟨t,rfl⟩:=F;exact SeqAt.EqAt.int_int a t' b t
   | str b=>obtain⟨t,rfl⟩:=F;exact SeqAt.EqAt.int_str a t' b t
   | _=>exact absurd (show false=true from G) Ay
 | str a =>
   obtain⟨t',rfl⟩:=I;cases x with
   | non=>cases F;exact SeqAt.EqAt.str_none a t'
   | bl b=>cases F;exact SeqAt.EqAt.str_bool a t' b
   | int b=>obtain⟨t,rfl⟩:=F;exact SeqAt.EqAt.str_int a t' b t
   | str b=>obtain⟨t,rfl⟩:=F;exact SeqAt.EqAt.str_str a t' b t
   | _=>exact absurd (show false=true from G) Ay
 | _=>exact absurd (show false=true from J) Ay
def KN(x:V)(u:Value):Bool:=match u with
 | .none=>LX .non x
 | .bool b=>LX (.bl b) x
 | .int i _=>LX (.int i) x
 | .str z _=>LX (.str z) x
 | _=>false
def Xl{u:Value}(r:AR y u)(f:MX y=true):KN x u=LX y x:=by
 cases y with
 | non=>cases r;rfl
 | bl b=>cases r;rfl
 | int i=>obtain⟨t,rfl⟩:=r;rfl
 | str z=>obtain⟨t,rfl⟩:=r;rfl
 | _=>exact absurd (show false=true from f) Ay
def SH(h:AM xs us)(f:xs.all MX=true):us.any (KN x)=xs.any λy=>LX y x:=by
 induction h with
 | nil=>rfl
 | cons r t ih =>
   rw[Fw,Ae]at f
   rw[Df,Df,Xl r f.1,ih f.2]
theorem Rc(I:AR x v)(G:MX x=true):∀{xs:List V}{us:List Value},AM xs us->xs.all MX=true->∀u∈us,SeqAt.EqAt A s u v (KN x u)
 | _,_,.nil,_=>λu F=>by cases F
 | y::xs,u::us,.cons r t,f=>λJ F=>by
   rw[Fw,Ae]at f
   rcases Aw.mp F with rfl|F
   .rw[Xl r f.1];exact gw r I f.1 G
   .exact Rc I G t f.2 J F
def L7(x:V)(xs:List V):Bool:=xs.any λy=>LX y x
def SI(K:Frag)(F:Bool):R2:=λx y H Q=>∃p xs,y=.ref p/\(AH K H p xs\/BS K H p xs)/\MX x=true/\xs.all MX=true/\Q (.bl (if F then !L7 x xs else L7 x xs)) H
def gx:FA X (compareOp .In) (SI X.K false):=by
 rintro pins s σ H x y v u Q I G J ⟨p,xs,rfl,hq,F,fs,q⟩;cases J;rcases hq with hq|hq
 .obtain⟨its,r,pl,hz⟩:=I.list hq;refine SeqAt.in_listAt (KN x) pl.isList (λw hw=>Rc G F r fs w (by simpa using hw)) ⟨.bl _,H,I,rfl,?_⟩;rw[show its.toArray.any (KN x)=its.any (KN x) by simp,SH r fs];exact q
 .obtain⟨its,r,pl,hz⟩:=I.tuple hq;refine SeqAt.in_tupleAt (KN x) pl (λw hw=>Rc G F r fs w (by simpa using hw)) ⟨.bl _,H,I,rfl,?_⟩;rw[show its.toArray.any (KN x)=its.any (KN x) by simp,SH r fs];exact q
def gy:FA X (compareOp .NotIn) (SI X.K true):=by
 rintro pins s σ H x y v u Q I G J ⟨p,xs,rfl,hq,F,fs,q⟩;cases J;rcases hq with hq|hq
 .obtain⟨its,r,pl,hz⟩:=I.list hq;refine SeqAt.notIn_listAt (KN x) pl.isList (λw hw=>Rc G F r fs w (by simpa using hw)) ⟨.bl _,H,I,rfl,?_⟩;rw[show its.toArray.any (KN x)=its.any (KN x) by simp,SH r fs];exact q
 .obtain⟨its,r,pl,hz⟩:=I.tuple hq;refine SeqAt.notIn_tupleAt (KN x) pl (λw hw=>Rc G F r fs w (by simpa using hw)) ⟨.bl _,H,I,rfl,?_⟩;rw[show its.toArray.any (KN x)=its.any (KN x) by simp,SH r fs];exact q
def gz:IW X (.builtin "len") (λxs H Q=>∃p ys,xs=[.ref p]/\(AH X.K H p ys\/BS X.K H p ys)/\Q (.int ys.length) H):=by
 rintro pins s σ H xs us Q I r ⟨p,ys,rfl,hq,q⟩;obtain⟨u,rfl,J⟩:=Kk r;cases J;have hn:=PV;rcases hq with hq|hq
 .obtain⟨its,G,pl,hz⟩:=I.list hq;have F:=G.length;exact Calls.call_len_list pl.isList (by simp only[B1]<;>lia) ⟨.int ys.length,H,I.tok _,⟨s.toks+1,by rw[B1,F]⟩,q⟩
 .obtain⟨its,G,pl,hz⟩:=I.tuple hq;have F:=G.length;exact len_tuple pl (by simp only[B1]<;>lia) ⟨.int ys.length,H,I.tok _,⟨s.toks+1,by rw[B1,F]⟩,q⟩
def Q0:IW X (.builtin "len") (λxs H Q=>∃z,xs=[.str z]/\z.length<=sizeLine/\Q (.int z.length) H):=by
 rintro pins s σ H xs us Q I r ⟨z,rfl,hz,q⟩;obtain⟨u,rfl,t,rfl⟩:=Kk r;have hn:=PV;exact len_str (by lia) ⟨.int z.length,H,I.tok _,⟨_,rfl⟩,q⟩
def gC:IW X (.type "list") (λxs H Q=>∃p ys,xs=[.ref p]/\(AH X.K H p ys\/BS X.K H p ys)/\∀l,H l=none->Q (.ref l) (upd H l (.lst ys))):=by
 rintro pins s σ H xs us Q I r ⟨p,ys,rfl,hq,q⟩;obtain⟨u,rfl,Z⟩:=Kk r;cases Z;have fin:∀(its:List Value),AM ys its->ys.length<=sizeLine->∀(h':Heap) (G:Nat),(∀b o',s.heap.get? b=some o'->h'.get? b=some o') ->
  h'.get? s.heap.objs.size=some { cls:=.type "list",dict:=none,data:=.seq its.toArray G,slots:=#[] }->EP X pins σ Q (.ref s.heap.objs.size) { s with heap:=h' }:=λits F hz h' G kp e =>
  ⟨.ref s.heap.objs.size,_,I.laid (t':=s.toks) kp (Aa _) (show IV X.prog X.w _ h' _ (.lst ys)from⟨hz,its,G,F,e⟩),rfl,q _ (I.Í.fresh (Aa _))⟩
 rcases hq with hq|hq
 .obtain⟨its,F,pl,hz⟩:=I.list hq;have J:=F.length;obtain⟨o,W,Y,n,hd⟩:=pl.isList;exact call_list_seq p (.inl rfl) W Y hd (λh' G kp e=>fin its F hz h' G kp e) (by simp only[B1]<;>lia)
 .obtain⟨its,F,pl,hz⟩:=I.tuple hq;have J:=F.length;obtain⟨o,W,Y,n,hd⟩:=pl;exact call_list_seq p (.inr rfl) W Y hd (λh' G kp e=>fin its F hz h' G kp e) (by simp only[B1]<;>lia)
def Xm(K:Frag)(T:String)(x:V)(H:Hp):Prop:=match x with
 | .str _=>T="str"
 | .int _=>T="int"
 | .ref p=>(T="list"/\∃xs,AH K H p xs)\/(T="tuple"/\∃o,K.lookup p=some o/\o.cls=.type "tuple"/\o.dict=none) \/
    (T="dict"/\((∃F,H p=some (.dK F))\/∃F,H p=some (.dT F)))\/(T="set"/\∃S n,H p=some (.set S n))
 | _=>False
def gD(I:AF X pins σ H s)(r:AR x v)(ty:Xm X.K T x H) :
 s.TypeIs v T/\∀a,v=.ref a->∃ob,s.heap.get? a=some ob/\ob.dict=none:=by
 cases x with
 | str z =>
   obtain⟨t,rfl⟩:=r;cases (ty);exact⟨Fu s z t,λ_ e=>nomatch e⟩
 | int i =>
   obtain⟨t,rfl⟩:=r;cases (ty);exact⟨Ja s i t,λ_ e=>nomatch e⟩
 | ref p =>
   cases r;rcases ty with⟨rfl,xs,hq⟩|⟨rfl,o,F,W,hd⟩|⟨rfl,F⟩|⟨rfl,S,n,F⟩
   .obtain⟨its,_,pl,_⟩:=I.list hq;refine⟨pl.isList.typeIs,λa e=>?_⟩;cases e;obtain⟨o,n,e,c,hd,_⟩:=pl;exact⟨o,e,hd⟩
   .refine⟨⟨o,I.Ĝ p o F,W⟩,λa e=>?_⟩;cases e;exact⟨o,I.Ĝ _ o F,hd⟩
   .have z:∃o,s.heap.get? p=some o/\o.ExactDict:=by
     rcases F with⟨G,F⟩|⟨G,F⟩
     .obtain⟨_,_,_,_,o,_,_,e,ex,_⟩:=I.Í p _ F;exact⟨o,e,ex⟩
     .obtain⟨_,_,_,_,o,_,_,e,ex,_⟩:=I.Í p _ F;exact⟨o,e,ex⟩
    obtain⟨o,e,ex⟩:=z;refine⟨⟨o,e,ex.1⟩,λa J=>?_⟩;cases J;exact⟨o,e,ex.2.1⟩
   .obtain⟨o,_,_,_,e,ex,_⟩:=I.Í p _ F;refine⟨⟨o,e,ex.1⟩,λa J=>?_⟩;cases J;exact⟨o,e,ex.2.1⟩
 | _=>exact False.elim ty
def Xn(K:Frag)(T:String)(r:V->List V->Hp->VK->Prop)(to:TE)(t:TA):TE:=λσ H Q=>to σ H λx H1=>Xm K T x H1/\t σ H1 λxs H2=>r x xs H2 Q
variable {o e:Expr}{es:List Expr}{to:TE}{t:TA}{name:Str}{apos cpos:Pos}{T id:String}{r:V->List V->Hp->VK->Prop}
def gE(pa:PlainAttrs T)(slot:Slot T name id)(F:typeOf (.builtin id)=pure (.type "method_descriptor"))(hm:OF X id r)(ho:PE X o to)(ha:PA X (e::es) t)
 (hbase:attributeBase o name X.env (eval o X.env)=eval o X.env:=by rfl)
 (hfew:((backTo cpos (starEach (e::es) X.env)).all (λx=>!x.1)&&(backToKw cpos (keywordEach [] X.env)).all (λx=>x.1.isSome)
   && decide ((e::es).length+([]:List Keyword).length+(if ([]:List Keyword).isEmpty then 0 else 1)<30))=true:=by rfl)
 (hline:(apos.endLine==cpos.line)=true:=by rfl) (hs:starEach (e::es) X.env=(false,eval e X.env)::starEach es X.env:=by rfl) (hplain:(backTo cpos (starEach es X.env)).any (·.1)=false:=by rfl) :
 PE X (.Call (.Attribute o name apos) (e::es) [] cpos) (Xn X.K T r to t):=by
 intro pins s σ H Q I h;refine wpAny_Call_method_late hbase hfew hline rfl (AV (ho pins s σ H _ I h) λv s1 ⟨x,H1,J,G,ty,Y⟩=>?_);obtain⟨h1,h2⟩:=gD J G ty;refine⟨T,id,pa,slot,F,h1,h2,?_⟩;have hA:=ha cpos pins s1 σ H1 _ J Y;rw[hs]at hA⊢
 exact Fc (by show(false||(backTo cpos (starEach es X.env)).any (·.1))=false;rw[hplain]<;>rfl) (G1 (AV hA λus W ⟨vs,H2,Z,r2,q2⟩=>hm pins W σ H2 x vs v us Q Z G r2 q2))
end
end L2
namespace L2
open PySem PySem.Spec PyProof.Rows
def UP(X:Cx)(id:String)(r:V->List V->Hp->VK->Prop):Prop :=
 ∀(pins:List (Addr×Obj)) (s:Shared) (σ:St) (H:Hp) (x:V) (xs:List V) (v:Value) (us:List Value) (Q:VK),AF X pins σ H s->AR x v->AM xs us->r x xs H Q ->
  wpAny (model X.prog X.w) X.A (call (.builtin id) (v::us)) (EP X pins σ Q) X.xe s
def AM.one(h:AM [x] us):∃u,us=[u]/\AR x u:=by
 cases h with
 | cons r t =>
   cases t;exact⟨_,rfl,r⟩
theorem AM.eraseIdx:∀{xs:List V}{us:List Value}(i:Nat),AM xs us->AM (xs.eraseIdx i) (us.eraseIdx i)
 | _,_,_,.nil=>.nil
 | _,_,0,.cons _ t=>t
 | _,_,i+1,.cons r t=>.cons r (AM.eraseIdx i t)
theorem AM.rep(h:AM xs us):∀k:Nat,AM (List.replicate k xs).flatten (List.replicate k us).flatten
 | 0=>.nil
 | k+1=>by
   rw[Cj,Cj,Ed,Ed];exact AM.append h (AM.rep h k)
theorem Xo{α:Type}:∀(l:List α) (i:Nat),(l.eraseIdx i).length<=l.length
 | [],_=>Aa _
 | _::_,0=>Dt _
 | _::r,i+1=>Nat.succ_le_succ (Xo r i)
theorem Xp(its:List Value):∀(k:Nat) (F:List Value),
 List.foldl (λx1 I=>x1++I) F.toArray (List.replicate k its.toArray)=(F++(List.replicate k its).flatten).toArray
 | 0,F=>by simp
 | k+1,F=>by
   have e:F.toArray++its.toArray=(F++its).toArray:=by simp
   have G:(F++its)++(List.replicate k its).flatten=F++(List.replicate (k+1) its).flatten:=by
    rw[Cj,Ed,C4]
   rw[<-G,<-Xp its k (F++its),<-e,Cj,E8]
section
variable {X:Cx}{pins:List (Addr×Obj)}{σ:St}{H:Hp}{s:Shared}{l b:Addr}{xs ys zs:List V}
def AF.vQ{its its':List Value}{n:Nat}{f:Array Value->Array Value}{t':Nat}(I:AF X pins σ H s)(F:H l=some (.lst xs))
 (e:s.heap.get? l=some { cls:=.type "list",data:=.seq its.toArray n }) (hf:f its.toArray=its'.toArray) (hv:AM ys its') (hz:ys.length<=sizeLine) :
 AF X pins σ (upd H l (.lst ys)) { s with heap:=s.heap.update l (Obj.mapSeq f),toks:=t' }:=by
 have q:=PySem.IsL.update e f;rw[hf]at q
 refine I.write (x:=l) (e:=l) (by rw[F];exact trivial) (.inl rfl) (λJ u hb G=>(B2 s.heap (Obj.mapSeq f) (Cc hb)).trans G) ⟨_,q⟩ ?_;exact⟨hz,its',_,hv,q⟩
def AF.vR(I:AF X pins σ H s)(F:AM ys its)(hz:ys.length<=sizeLine) :
 AF X pins σ (upd H s.heap.objs.size (.lst ys)) { s with heap:=s.heap.push { cls:=.type "list",data:=.seq its.toArray },toks:=t' } :=
 I.laid (λ_ _ q=>A7 _ q) (Aa _) ⟨hz,its,0,F,Ax _ rfl⟩
def AF.fresh(I:AF X pins σ H s):H s.heap.objs.size=none:=I.Í.fresh (Aa _)
def AF.vk(I:AF X pins σ H s)(F:H l=some (.lst xs)):xs.length<=sizeLine/\∃(its:List Value) (n:Nat),AM xs its/\xs.length=its.length/\s.heap.get? l=some { cls:=.type "list",data:=.seq its.toArray n }:=by
 obtain⟨z,its,n,r,e⟩:=I.Í l _ F;exact⟨z,its,n,r,r.length,e⟩
def Xq{n:Nat}(h:n<=sizeLine):Builtin.List.listTooLong n=false:=by
 unfold Builtin.List.listTooLong;exact Ak (by lia)
end
section
variable {X:Cx}
def Nk:V->List V->Hp->VK->Prop:=λx vs H Q=>∃l xs y,x=.ref l/\vs=[y]/\H l=some (.lst xs)/\xs.length<sizeLine/\Q .non (upd H l (.lst (xs++[y])))
def IB:UP X "list.append" Nk:=by
 rintro pins s σ H x vs v us Q I W J ⟨l,xs,y,rfl,rfl,G,hz,q⟩;cases W;obtain⟨u,rfl,Y⟩:=J.one;obtain⟨z,its,n,r,Z,e⟩:=I.vk G;refine Eh F.slot_list_append ⟨_,e,rfl⟩ F.entry_list_append (F.args_list_append_2 _ _) (PySem.list_append l its.toArray n u (by rw[B1];lia)) ⟨e,.non,_,I.vQ (its':=its++[u]) G e (by simp) (r.append (.cons Y .nil)) ?_,rfl,q⟩
 grind
def Nl:V->List V->Hp->VK->Prop:=λx vs H Q=>∃l b xs zs,x=.ref l/\vs=[.ref b]/\H l=some (.lst xs)/\H b=some (.lst zs)/\xs.length+zs.length<=sizeLine/\Q .non (upd H l (.lst (xs++zs)))
def Xr:UP X "list.extend" Nl:=by
 rintro pins s σ H x vs v us Q I rx Y ⟨l,b,xs,zs,rfl,rfl,W,hB,hz,q⟩;cases rx;obtain⟨u,rfl,ru⟩:=Y.one;cases ru;obtain⟨z,its,n,r,hl,e⟩:=I.vk W;obtain⟨z2,G,n2,r2,ŏ,Z⟩:=I.vk hB;have hsz:its.toArray.size+G.toArray.size<=sizeLine:=by rw[B1,B1];lia
 have J:¬(!its.toArray.isEmpty&&Builtin.List.listTooLong (its.toArray.size+G.toArray.size))=true:=by
  simp_all[Xq,Gk,Ay]
 refine Eh F.slot_list_extend ⟨_,e,rfl⟩ F.entry_list_extend (F.args_list_extend_2 _ _)
  (AutoSeq1.list_extend_list_list_0 l its.toArray n b G.toArray n2 J (by rw[B1];lia) (by lia)) ⟨e,Z,?_⟩
 refine⟨.non,_,I.vQ (its':=its++G) W e (by simp) (r.append r2) ?_,rfl,q⟩;rw[B5]
 lia
def OI:V->List V->Hp->VK->Prop:=λx vs H Q=>∃l xs i k y,x=.ref l/\vs=[.int i]/\H l=some (.lst xs)/\-(2^63)<=i/\i<2^63/\seqIndex? i xs.length=some k/\xs[k]?=some y/\Q y (upd H l (.lst (xs.eraseIdx k)))
def Xs:UP X "list.pop" OI:=by
 rintro pins s σ H x vs v us Q I rx Y ⟨l,xs,i,k,y,rfl,rfl,J,h1,h2,W,hy,q⟩;cases rx;obtain⟨u,rfl,t,rfl⟩:=Y.one;obtain⟨z,its,n,r,Z,e⟩:=I.vk J;obtain⟨w,hw,G⟩:=r.get hy;refine Eh F.slot_list_pop ⟨_,e,rfl⟩ F.entry_list_pop (F.args_list_pop_2 _ _)
  (MeetsSeq.list_pop_at l its.toArray n i t k w (fitsIndex_both h1 h2) (by rw[B1,<-Z];exact W) (by rw[<-Dn];exact hw) (by rw[B1];lia)) ⟨e,?_⟩
 refine⟨y,_,I.vQ (its':=its.eraseIdx k) J e ?_ (r.eraseIdx k) ?_,G,q⟩
 .grind
 .have:=Xo xs k
  lia
def UQ:R2:=λx y H Q=>∃l b xs zs,x=.ref l/\y=.ref b/\H l=some (.lst xs)/\H b=some (.lst zs)/\xs.length+zs.length<=sizeLine/\∀p,H p=none->Q (.ref p) (upd H p (.lst (xs++zs)))
def Nm:FA X (binaryOp .Add) UQ:=by
 rintro pins s σ H x y v u Q I W Y ⟨l,b,xs,zs,rfl,rfl,J,hB,hz,q⟩;cases W;cases Y;obtain⟨z,its,n,r,hl,e⟩:=I.vk J;obtain⟨z2,F,n2,Z,ŏ,G⟩:=I.vk hB;refine PySem.P.add_list e G ?_ (by rw[B1,B1];lia);have ea:its.toArray++F.toArray=(its++F).toArray:=by simp
 rw[ea];exact⟨.ref _,_,I.vR (t':=s.toks) (r.append Z) (by rw[B5];lia),rfl,q _ I.fresh⟩
def UR:R2:=λx y H Q=>∃l k xs,x=.ref l/\y=.int k/\H l=some (.lst xs)/\-(2^63)<=k/\k<2^63/\xs.length*k.toNat<=sizeLine /\
 ∀p,H p=none->Q (.ref p) (upd H p (.lst (List.replicate k.toNat xs).flatten))
def Xt{α:Type}(xs:List α)(k:Nat):(List.replicate k xs).flatten.length=k*xs.length:=by
 simp_all
def SJ:FA X (binaryOp .Mult) UR:=by
 rintro pins s σ H x y v u Q I rx ry ⟨l,k,xs,rfl,rfl,hH,h1,h2,hz,q⟩;cases rx;obtain⟨t,rfl⟩:=ry;obtain⟨z,its,n,r,hl,e⟩:=I.vk hH;have W:its.toArray.size*k.toNat<=sizeLine:=by rw[B1,<-hl];exact hz
 have J:¬its.toArray.size*k.toNat > (2^63-1)/8:=by
  have:(sizeLine:Nat)<=(2^63-1)/8:=by decide
  lia
 have Z:¬(!Builtin.List.listFitsIndex k)=true:=by
  rw[fitsIndex_both h1 h2];exact Ay
 have G:¬Builtin.List.listTooLong (its.toArray.size*k.toNat)=true:=by
  rw[Xq W];exact Ay
 have Y:List.foldl (λx1 x2=>x1++x2) #[] (List.replicate (if its.toArray.isEmpty=true then 0 else k.toNat) its.toArray)=(List.replicate k.toNat its).flatten.toArray:=by
  have f0:∀m:Nat,List.foldl (λx1 x2=>x1++x2) #[] (List.replicate m its.toArray)=(List.replicate m its).flatten.toArray:=λm=>by
   grind[Xp,List.nil_append]
  rw[f0];cases its with
  | nil=>simp
  | cons a r'=>rw[As (by simp)]
 refine wpAny_binaryOp_repeat_ref (T:="list") (U:="int") (by decide) ⟨_,e,rfl⟩ (λs'=>Ja s' k t) noFill_list_mul F.fills_int_mul F.slot_int_rmul repeat_list F.slot_int_index.lookup
  (Eh F.slot_int_rmul (Ja s k t) F.entry_int_rmul (F.args_int_rmul_2 _ _) (int___rmul___int_list k t l its.toArray n)
    ⟨e,rfl,⟨_,e,rfl⟩,Eh F.slot_list_mul ⟨_,e,rfl⟩ F.entry_list_mul (F.args_list_mul_2 _ _) (AutoListH.list___mul___list_int_3 l its.toArray n k t Z J G) ⟨e,?_⟩⟩)
 rw[Y];exact⟨.ref _,_,I.vR (t':=s.toks) (r.rep k.toNat) (by rw[Xt,Nat.mul_comm];exact hz),rfl,q _ I.fresh⟩
end
end L2
namespace Att
open PySem PySem.W PySem.Calls PyProof.Rows
def gF:∀(ns:List Int) (vs:List Value),WellAll P h vs (ns.map WData.int)->IntsAre vs ns:=by
 intro ns;induction ns with
 | nil =>
   intro vs w;rw[J8]at w
   cases w;exact .nil
 | cons n ns ih =>
   intro vs w;rw[Bl]at w
   cases w with
   | cons a b =>
     cases a;exact .cons _ _ (ih _ b)
def gG{l:OpenLaw}{n:Nat}(hn:l.most=some n){P:Params}{h:Heap}{args:List WData}{vals:List Value}
 (wu:l.row.toRowW.claim.pre args=true) (hwl:WellAll P h vals args) :
 ∃a vs ns,vals=[Value.ref a]/\args=[WData.list (ns.map WData.int)]/\h.get? a=some { cls:=.type "list",data:=.seq vs.toArray }/\IntsAre vs ns/\ns.length<=n:=by
 have J:=(pre_splitW wu).1;have W:l.pre.holds [] { args:=args }=true:=(pre_splitW wu).2;obtain⟨d,r,rfl,h1,h2⟩:=hasAllW_cons J;obtain rfl:=hasAllW_nil h2;obtain⟨xs,rfl,h3⟩:=hasW_list h1;obtain⟨ns,rfl⟩:=items_int h3;have F:ns.length<=n:=by
  unfold OpenLaw.pre at W;have I:(WTm.not (.lt (.lit (.int (n:Int))) (.len (.arg 0)))).holds [] { args:=[.list (ns.map .int)] }=true:=by
   have I:=(holds_andW W).1;rw[hn]at I
   exact I
  have h5:=condW_of I (w_not (w_lt w_lit (w_len_list (w_arg rfl))))
  grind
 cases hwl with
 | cons Y w2 =>
   cases w2;cases Y with
   | list Z G=>exact⟨_,_,ns,rfl,rfl,Z,gF ns _ G,F⟩
def gH(l:OpenLaw)(args:List WData):l.row.toRowW.claim.post args (.bool true) args=true :=
 postW_of (r:=l.row.toRowW) (X:=(true==true))
  (show WShape.has [] (.bool true) .bool=true by first|rfl|decide|simp[WShape.has,WShape.arms,WShape.armsAll])
  (show(WTm.eq .res (.lit (.bool true))).value [] { args:=args,res:=some (.bool true),after:=args }=some (.bool (true==true))from w_eq_bool (w_res rfl) w_lit) rfl
def gI{l:OpenLaw}{n:Nat}{q:Program}{I:List Str}{XP:(Str->Option Value)->Heap->Prop}{YP:World->Heap->Prop}{d:DefRec}
 (hn:l.most=some n) (hdf:d.params.defaults=[])
 (call:∀(w:World) (Ã F:Shared) (mg mb:Str->Option Value) (fa:Addr) (o:Obj) (pm cd doc:Value) (a:Addr) (vs:List Value) (ns:List Int),
   Ground q I [] XP w Ã mg mb F.heap->YP w F.heap ->
   F.heap.get? fa=some o->o.data=.func (docDef d.name d.params d.body d.scope pm cd doc)->F.heap.CodeRec cd d.name->mg d.name=some (.ref fa) ->
   F.heap.get? a=some { cls:=.type "list",data:=.seq vs.toArray }->IntsAre vs ns->ns.length<=n->F.gens=#[] ->
   codeAny (model l.prog w) callerA (.call (.ref fa) ⟨[.ref a],[]⟩) (λr s'=>r=.ok (.ret (.bool true))/\OldK F.heap s'.heap/\s'.os=F.os/\AllBare s'.gens) F) :
 WalkO q I XP YP l.row.toRowW d [] (λf vs=>PySem.call f vs):=by
 intro w Ã F mg mb G Y fa o pm cd doc dV kV ho hd ad hD ac hg args vals as wu vt af aa ae;obtain rfl:dV=.none:=Dflts.none hD hdf;obtain rfl:kV=.none:=Dflts.noKw hD;obtain⟨a,vs,ns,rfl,rfl,W,J,Z⟩:=gG hn wu aa;refine enter_call (De (call w Ã F mg mb fa o pm cd doc a vs ns G Y ho (fd_plain hd) ad ac W J Z hg) λr s' hq=>?_);obtain⟨rfl,h2,h3,h4⟩:=hq;exact⟨.inl ⟨.bool true,.bool true,[],rfl,λ_=>rfl,.bool true,gH l _,λ_=>⟨List.Pairwise.nil,λ_ hm=>(nomatch hm)⟩⟩,h2,h3,h4⟩
end Att
namespace L2
open PySem PySem.Spec PyProof.Rows
theorem Xu:∀{vs:List Value}{ns:List Int},IntsAre vs ns->AM (ns.map V.int) vs
 | _,_,.nil=>.nil
 | _,_,.cons n t h=>.cons ⟨t,rfl⟩ (Xu h)
def Nn(H:Hp):Prop:=∀b,H b=none\/∃o xs,H b=some (.frz o (.lst xs))
def gJ{P:Program}{w:World}{K:Frag}{mg mb:Str->Option Value}{CX:KL}{k:Nat}{fa a:Addr}{fd:FuncData}{x:Str}{sp:Sp}{G:Shared}{vs:List Value}{ns:List Int}
 (KX:K.In G.heap) (hns:G.heap.Ns mainGlobals mg) (hb:G.heap.Ns builtinsNs mb) (hbb:∀x:Str,x≠"__name__"->mb x=bootBuiltins x) (hlim:G.heap.NoLimit) (hg:G.gens=#[])
 (ha:G.heap.get? a=some { cls:=.type "list",data:=.seq vs.toArray }) (hi:IntsAre vs ns) (hl:ns.length<=sizeLine) (hr:BO k callerA)
 (F:∀base:Heap,K.In base->base.Ns mainGlobals mg->AG P w K mg base CX k fa fd [x] sp) (hbind:∀(s:Shared) (u:Value),BindsTo s fd ⟨[u],[]⟩ [(x,u)])
 (hsp:∀H:Hp,Nn H->AH K H a (ns.map V.int)->sp [.ref a] H (λv _=>v=.bl true) λ_ _ _=>False)
 (hCX:∀H e s',CX [] H G (λ_ _ _=>False) e s'->False) :
 codeAny (model P w) callerA (.call (.ref fa) ⟨[.ref a],[]⟩) (λr s'=>r=.ok (.ret (.bool true))/\OldK G.heap s'.heap/\s'.os=G.os/\AllBare s'.gens) G:=by
 have rv:=Xu hi;have Y:∀H:Hp,Nn H->AH K H a (ns.map V.int)->FP P w H G.heap->(∀b,H b≠none->b=a)->(H a≠none->K.lookup a=none) ->
  codeAny (model P w) callerA (.call (.ref fa) ⟨[.ref a],[]⟩) (λr s'=>r=.ok (.ret (.bool true))/\OldK G.heap s'.heap/\s'.os=G.os/\AllBare s'.gens) G:=by
  intro H hO hS Í hA hK;have I:∀{b:Addr}{o:Obj},G.heap.get? b=some o->H b=none->(JM G.heap H).get? b=some o:=λe n=>eN e n
  have ac:∀{b:Addr}{o:Obj}{es:Array DictEntry}{ep:Nat},G.heap.get? b=some o->o.data=.dict es ep->H b=none:=λ{b o es ep} e d=>by
   cases q:H b with
   | none=>rfl
   | some u =>
     have e':b=a:=hA b (by rw[q];simp);subst e';rw[ha]at e;cases e
     have d':=d;cases d'
  have J:∀{b:Addr}{m:Str->Option Value},G.heap.Ns b m->(JM G.heap H).Ns b m:=λ{b m} ⟨o,es,ep,e,d,r⟩=>⟨o,es,ep,I e (ac e d),d,r⟩
  have aa:K.In (JM G.heap H):=λb o e=>I (KX b o e) (by
   cases q:H b with
   | none=>rfl
   | some u =>
     have e':b=a:=hA b (by rw[q];simp);subst e';rw[hK (by rw[q];simp)]at e;cases e)
  have hM:Mod K mg (JM G.heap H):=⟨aa,J hns,⟨mb,J hb,hbb⟩,let ⟨mc,h1,h2⟩:=hlim;⟨mc,J h1,h2⟩⟩
  have e0:KM P w K mg (JM G.heap H) callerA [] G H:=⟨rfl,hM,λb o e=>eO e,Fb (eM _ _),trivial,λb hb=>absurd (show b∈([]:List Addr)from hb) (by simp),Í,.of_eq hg⟩
  refine De ((F _ aa (J hns)).run callerA [] G H ⟨[.ref a],[]⟩ [.ref a] [.ref a] _ _ hr e0 (hbind G (.ref a)) (.cons rfl .nil) (hsp H hO hS)) λr s' h=>?_;cases r with
  | error e=>exact(hCX H e s' h).elim
  | ok fl =>
    cases fl with
    | next=>exact False.elim h
    | brk=>exact False.elim h
    | cont=>exact False.elim h
    | ret u =>
      revert h;refine FO λv H'=>GH λos bare un Z r' q=>?_;have q':=q;subst q';obtain rfl:u=Value.bool true:=r';refine BP rfl (OldK.of_keep λb o e=>?_) os bare;cases q:H b with
      | none=>exact un.keep b o e q (by intro z;exact absurd (show b∈([]:List Addr)from z) (by simp)) (by simp)
      | some u =>
        rcases hO b with z|⟨ob,xs,z⟩
        .rw[q]at z;cases z
        .obtain⟨e1,_⟩:=Í b _ z;obtain⟨e2,_⟩:=Z b _ (un.ş b ob _ z);rw[e]at e1;cases e1
         exact e2
 cases hk:K.lookup a with
 | some o =>
   have e:=KX a o hk;rw[ha]at e
   cases e;refine Y (λ_=>none) (λ_=>.inl rfl) (.inr ⟨_,vs.toArray,_,hk,rfl,rfl,rfl,by rw[B1,hi.length];exact hl,by simpa using rv⟩) (λb u z=>by have z':(none:Option HO)=some u:=z;cases z') (λb z=>absurd rfl z) λz=>absurd rfl z
 | none =>
   refine Y (λb=>if b=a then some (.frz { cls:=.type "list",data:=.seq vs.toArray } (.lst (ns.map V.int)))else none) (λb=>?_) (.inl (.inr ⟨{ cls:=.type "list",data:=.seq vs.toArray },Au rfl⟩)) (λb u z=>?_) (λb z=>?_) λ_=>hk
   .grind
   .by_cases hb:b=a
    .have z':=(Au hb).symm.trans z;cases z';subst hb;exact⟨ha,by rw[A8];exact hl,vs,_,rv,ha⟩
    lia
   lia
end L2
namespace L2
open PySem PySem.Spec PyProof.Rows
def gK{l:PySem.W.OpenLaw}{n k:Nat}{q:Program}{J:List Str}{XP:(Str->Option Value)->Heap->Prop}{YP:World->Heap->Prop}{d:DefRec}{K:Params->Frag}{CX:World->KL}{sp:World->Sp}{x:Str}
 (hn:l.most=some n) (hn2:n<=sizeLine) (hdf:d.params.defaults=[]) (hr:BO k callerA)
 (hY:∀(w:World) (h:Heap),YP w h->(K w.params).In h)
 (F:∀(w:World) (mg:Str->Option Value) (fa:Addr) (h:Heap),(K w.params).In h->h.Ns mainGlobals mg->mg d.name=some (.ref fa) ->
   ∃fd:FuncData,(∀(s:Shared) (u:Value),BindsTo s fd ⟨[u],[]⟩ [(x,u)]) /\
    ∀base:Heap,(K w.params).In base->base.Ns mainGlobals mg->AG l.prog w (K w.params) mg base (CX w) k fa fd [x] (sp w))
 (hsp:∀(w:World) (H:Hp) (a:Addr) (ns:List Int),ns.length<=n->Nn H->AH (K w.params) H a (ns.map V.int)->sp w [.ref a] H (λv _=>v=.bl true) λ_ _ _=>False)
 (hCX:∀(w:World) (H:Hp) (s:Shared) (e:Value) (s':Shared),CX w [] H s (λ_ _ _=>False) e s'->False) :
 PySem.W.WalkO q J XP YP l.row.toRowW d [] (λf vs=>PySem.call f vs):=by
 refine Att.gI hn hdf λw Ã ac mg mb fa o pm cd doc a vs ns G Y ho hd ae ad aa Z I hg=>?_;have KX:=hY w _ Y;obtain⟨fd,hb,hF⟩:=F w mg fa _ KX G.T.g ad;exact gJ KX G.T.g G.T.b G.T.builtins G.T.nolimit hg aa Z (Bk I hn2) hr hF hb (λH hO hS=>hsp w H a ns I hO hS) λH e s'=>hCX w H ac e s'
def LY{l:PySem.W.OpenLaw}{n k:Nat}{q:Program}{G:List Str}{J:(Str->Option Value)->Heap->Prop}{I:World->Heap->Prop}{d:DefRec}{K:Params->Frag}{CX:KL}{sp:Frag->Sp}{x:Str}
 (hn:l.most=some n) (hn2:n<=sizeLine) (hdf:d.params.defaults=[]) (hr:BO k callerA)
 (hY:∀(w:World) (h:Heap),I w h->(K w.params).In h)
 (F:∀(w:World) (mg:Str->Option Value) (fa:Addr) (h:Heap),(K w.params).In h->h.Ns mainGlobals mg->mg d.name=some (.ref fa) ->
   ∃fd:FuncData,(∀(s:Shared) (u:Value),BindsTo s fd ⟨[u],[]⟩ [(x,u)]) /\
    ∀base:Heap,(K w.params).In base->base.Ns mainGlobals mg->AG l.prog w (K w.params) mg base CX k fa fd [x] (sp (K w.params)))
 (hsp:∀(K:Frag) (H:Hp) (a:Addr) (ns:List Int),ns.length<=n->Nn H->AH K H a (ns.map V.int)->sp K [.ref a] H (λv _=>v=.bl true) λ_ _ _=>False)
 (hCX:∀(H:Hp) (s:Shared) (e:Value) (s':Shared),CX [] H s (λ_ _ _=>False) e s'->False) :
 PySem.W.WalkO q G J I l.row.toRowW d [] (λf vs=>PySem.call f vs) :=
 gK (K:=K) (CX:=λ_=>CX) (sp:=λw=>sp (K w.params)) hn hn2 hdf hr hY F (λw H a ns h1 h2 Y=>hsp (K w.params) H a ns h1 h2 Y) λ_ H s e s'=>hCX H s e s'
end L2
namespace L2
open PySem PySem.Spec PyProof.Rows
def EG(s:Stmt)(j:Nat):Stmt:=match s with
 | .ClassDef _ _ _ body _ _ _ _ _ _ _=>body.getD j (.Pass ⟨0,0,0,0⟩)
 | _=>.Pass ⟨0,0,0,0⟩
def JD(s:Stmt):Arguments:=match s with
 | .FunctionDef _ a _ _ _ _ _ _ _ _=>a
 | _=>{ posonlyargs:=[],args:=[],vararg:=none,kwonlyargs:=[],kw_defaults:=[],kwarg:=none,defaults:=[] }
def IS(s:Stmt):List Stmt:=match s with
 | .FunctionDef _ _ b _ _ _ _ _ _ _=>b
 | _=>[]
def FV(s:Stmt):Scope:=match s with
 | .FunctionDef _ _ _ _ _ _ F _ _ _=>F
 | _=>{ kind:=.function,names:=[],isGenerator:=false,isCoroutine:=false }
abbrev BL:KL:=λ_ _ _ _ _ _=>False
abbrev E0:XK:=λ_ _ _=>False
def Q1:PX BL X E0:=λ_ _ _ _ _ _ _ h=>h.elim
structure O0(K:Frag)(x qual:Str)(st:Stmt)(f:Addr)(fd:FuncData):Prop where
 ex:∃(oc:Value) (od:Option Addr) (kV doc pm:Value) (an:Option Addr) (cdv ct:Value) (osl:Array (Option Value)),
  fd=PySem.W.fnOf x qual (JD st) (IS st) (FV st) .none kV doc pm an cdv ct/\K.lookup f=some ⟨oc,od,.func fd,osl⟩/\PySem.W.codeIn K cdv qual=true
 kp:PySem.W.keepIn K (.ref f)=true
section
variable {P:Program}{w:World}{K:Frag}{mg:Str->Option Value}{base:Heap}
def O0.ok{x qual:Str}{st:Stmt}{f:Addr}{fd:FuncData}{N ps:List Str}{k:Nat}{sp:Sp}(F:O0 K x qual st f fd)(S:DV N ps (FV st))(len:∀vs H Q E,sp vs H Q E->vs.length=ps.length)
 (hbody:∀(G:Value) (A:Around) (outer:List Env) (s:Shared) (H:Hp) (vs:List V) (Q:VK) (E:XK),BO k (A.deeper (envOfC qual (FV st) s.heap.objs.size f G))->sp vs H Q E ->
   ∃t,IP (HM BL P w K mg base N qual (FV st) f G A outer s H E).xw (IS st) t/\t { nx:=λ_ H'=>Q .non H',rt:=Q } (start N vs) H):AG P w K mg base BL (k+1) f fd ps sp:=by
 refine Sm F.ex λoc od kV doc pm=>GJ λan G ct Z=>FN λI lk W=>?_;subst I;refine SD lk W S len λA outer s H vs Q E Y J=>?_;refine DQ (hbody G A outer s H vs Q E Y J) λt=>BW λh q=>?_;exact AX t (CC h.xw q)
end
def Re(F:BO k A):A.units+1<cLine:=F4 (Nat.add_le_add_left (by decide:1<=64) _) F.units
section
variable {X:Cx}
def pv(i:Nat)(hN:X.N[i]?=some x:=by rfl)(hv:Uj X.env.scope x:=by first|exact Or.inl rfl|exact Or.inr NT|exact Or.inr eB)(hd:(x==("__debug__":Str))=false:=by decide)(hcd:(x==("__classdict__":Str))=false:=by decide):PE X (.Name x pos) (QW i):=eQ hN hv hd hcd
end
def AK{A B:Prop}(h:B):if false=true then A else B:=by
 rw[As Ay];exact h
def AQ{A B:Prop}(h:A):if true=true then A else B:=by
 rw[Au rfl];exact h
def å{c A B:Prop}[Decidable c](h1:c->A)(h2:¬c->B):if c then A else B:=by
 lia
def AD(H H':Hp):Prop:=∀b o,H b=some o->H' b=some o
def AD.refl(H:Hp):AD H H:=λ_ _ h=>h
def AD.trans{H H1 H2:Hp}(a:AD H H1)(b:AD H1 H2):AD H H2:=λc o h=>b c o (a c o h)
theorem AD.free{H H':Hp}(e:AD H H'){l:Addr}(h:H' l=Option.none):H l=Option.none:=by
 cases q:H l with
 | none=>rfl
 | some o =>
   rw[e l o q]at h
   cases h
def AD.seq{K:Frag}{H H':Hp}{a:Addr}{xs:List V}(e:AD H H')(h:AH K H a xs):AH K H' a xs:=by
 rcases h with(h|⟨o,h⟩)|h
 .exact .inl (.inl (e _ _ h))
 .exact .inl (.inr ⟨o,e _ _ h⟩)
 .exact .inr h
end L2
set_option maxHeartbeats 4000000
namespace L2
open PySem PySem.Spec PyProof.Rows
structure D(K:Frag)(mg:Str->Option Value)(x:Str)(st:Stmt)(ps:List Str)(f:Addr)(fd:FuncData):Prop where
 fn:O0 K x x st f fd
 ba:∀us:List Value,us.length=ps.length->bindArgs fd ⟨us,[]⟩=pure (ps.zip us)
 mg:mg x=some (.ref f)
section
variable {X:Cx}{k j:Nat}{f:Addr}{fd:FuncData}{ps:List Str}{sp:Sp}{x:Str}{st:Stmt}{p pos:Pos}{e:Expr}{es:List Expr}{t:TA}
def CK(d:D X.K X.mg x st ps f fd)(F:AG X.prog X.w X.K X.mg X.base BL j f fd ps sp)(I:BO k X.A)(J:Gl X x)(G:PA X (e::es) t)(hjk:j<=k:=by decide)(hdb:(x==("__debug__":Str))=false:=by decide)
 (he:starEach (e::es) X.env=(false,eval e X.env)::starEach es X.env:=by rfl) (hpl:(backTo pos (starEach es X.env)).any (·.1)=false:=by rfl) :
 PE X (.Call (.Name x p) (e::es) [] pos) (Sx sp [] E0 t) :=
 fQ (F.mono hjk) I J d.mg d.fn.kp (.all d.ba) .nil Q1 G hdb he hpl
def gL(d:D X.K X.mg x st ps f fd)(F:AG X.prog X.w X.K X.mg X.base BL j f fd ps sp)(G:BO k X.A)(I:Gl X x)(hjk:j<=k:=by decide)(hdb:(x==("__debug__":Str))=false:=by decide) :
 PE X (.Call (.Name x p) [] [] pos) (Sx sp [] E0 LW) :=
 fR (F.mono hjk) G I d.mg d.fn.kp (.all d.ba) .nil Q1 hdb
end
def ET:bootBuiltins "len"=some (.builtin "len"):=PySem.boot_len
def Lo:bootBuiltins "isinstance"=some (.builtin "isinstance"):=by decide +kernel
def US:bootBuiltins "sum"=some (.builtin "sum"):=by decide +kernel
def SK:bootBuiltins "all"=some (.builtin "all"):=by decide +kernel
def OJ:bootBuiltins "int"=some (.type "int"):=by decide +kernel
def Q2:bootBuiltins "str"=some (.type "str"):=by decide +kernel
def SL:bootBuiltins "list"=some (.type "list"):=by decide +kernel
def gM:bootBuiltins "ValueError"=some (.type "ValueError"):=by decide +kernel
end L2
namespace L2
open PySem PySem.Spec PyProof.Rows
def OK:decide (V.int i=V.int j)=decide (i=j):=by
 lia
def BC(h:H p=none)(o:HO):AD H (upd H p o):=λb u q=>by rw[BE (FB q h)];exact q
def EH(s:AD H H1)(h:H p=none):AD H (upd H1 p o):=λb u q=>by rw[BE (FB q h)];exact s b u q
def EU(s:AD H H1)(h:H1 p=none):AD H (upd H1 p o):=EH s (s.free h)
def gN{zs:List Int}{i:Int}(I:0<=i)(h1:i<(zs.length:Int)):EN (zs.map V.int) i=some (.int (zs.getD i.toNat 0)):=by
 have F:i.toNat<zs.length:=by lia
 have G:i=((i.toNat:Nat):Int):=by lia
 have q:EN (zs.map V.int) ((i.toNat:Nat):Int)=some (.int zs[i.toNat]):=HZ (by rw[Ap,A9 F]<;>rfl);rw[<-G]at q
 rw[q,Ba,A9 F]<;>rfl
def SM{zs:List Int}{i:Nat}{y:V}(h:(zs.map V.int)[i]?=some y):∃z,y=.int z/\zs[i]?=some z:=by
 rw[Ap]at h
 cases e:zs[i]? with
 | none=>rw[e]at h;cases h
 | some z=>rw[e]at h;exact⟨z,(Av h).symm,rfl⟩
def DU(h:n<=100000):n<=sizeLine:=Bk h (by decide)
def Kz(h:n<=100000):n<sizeLine:=F4 h (by decide)
end L2
namespace L2
open PySem PySem.Spec PyProof.Rows
def UT(t:TS):TS:=λD σ H=>∃M:St->Hp->Prop,t { D with nx:=M } σ H/\∀F H',M F H'->D.nx F H'
def Rf{X:Cx}{st:Stmt}{t:TS}(h:PS X st t):PS X st (UT t):=by
 rintro pins s σ H D I ⟨M,h1,h2⟩;refine AV (h pins s σ H _ I h1) λf J q=>?_;cases f with
 | next=>obtain⟨F,H',G,m⟩:=q;exact⟨F,H',G,h2 F H' m⟩
 | ret v=>exact q
 | brk=>exact q
 | cont=>exact q
end L2
namespace L2
open PySem PySem.Spec PyProof.Rows
section
variable {X:Cx}{pins:List (Addr×Obj)}{σ:St}{H:Hp}{s:Shared}{h':Heap}
def AF.vj{t':Nat}{ch:List Addr}{l:Addr}{o:HO}(I:AF X pins σ H s)(k:∀b u,b∉ch->s.heap.get? b=some u->h'.get? b=some u)(hf:∀b∈ch,DH X pins H b)
 (hp:s.heap.objs.size<=l) (new:IV X.prog X.w (upd H l o) h' l o):AF X pins σ (upd H l o) { s with heap:=h',toks:=t' }:=by
 have hn:=I.Í.fresh hp;have J:∀b u,H b=some u->b∉ch:=λb u e z=>by rw[(hf b z).1]at e;cases e
 refine I.step (g':=s.gens) (d':=s.drawn) (ch:=ch) (λb hb=>?_) (λb u _ _ F e _=>k b u F e) (λb u _ _ F e _=>⟨u.slots,k b u F e⟩)
  (λb u _ e n=>?_) (λb u F e=>⟨u,k b u F e⟩) (λb xs e=>?_) (λb u xs e=>?_) (λb ps e=>⟨#[],?_⟩) (λm hm=>?_) (λb u e=>?_) I.bare
 .refine GH (λf0 G f2 f3 f4 Y=>?_) (hf b hb);exact BP f3 G f4 Y
 .rw[BE (B8 (Bc (Am e) hp))];exact n
 .rw[BE (FB e hn)];exact e
 .rw[BE (FB e hn)];exact e
 .rw[BE (FB e hn),e];simp
 .revert hm;refine FT λob es Z=>BW λW r=>?_;exact EB ob es Z (CC (k _ ob (λz=>(hf _ z).2.1 rfl) W) r)
 .by_cases hb:b=l
  .simp_all[AA,new]
  .rw[BE hb]at e
   refine(I.Í b u e).ű (λc v F q=>k c v ?_ q) (λc q=>by rw[BE (FB q hn)];exact q) λc xs q=>by rw[BE (FB q hn)];exact q
   grind
end
def Q3(K:Frag)(a:Addr):It :=
 ⟨λi H=>∃xs x,AH K H a xs/\xs[i]?=some x,λi H v H'=>∃t x,v=.ref t/\H t=none/\(∀xs,AH K H a xs->xs[i]?=some x)/\H'=upd H t (.tup [.int i,x]),λi H=>∃xs,AH K H a xs/\xs.length<=i⟩
def gO{P:Program}{w:World}{K:Frag}{es:List Expr}{k1:Nat}{tp:Pos}(a e it:Addr)(Z:e≠it) :
 KI P w K (.Tuple es k1 tp) (Q3 K a) [e,it] e (λi h=>(∃F,IsEnum h e it (i:Nat) F)/\h.IsListIter it a i) where
 mem:=by simp
 obj:=λi h st b hb=>by
  obtain⟨⟨F,Y⟩,o,e2,c,d⟩:=st;have z:b=e\/b=it:=by simpa using hb
  rcases z with rfl|rfl
  .refine⟨_,Y,λv z=>?_⟩;have z':Data.fields _=Data.cell v:=z;cases z'
  .exact⟨o,e2,λv z=>by rw[d]at z;cases z⟩
 keep:=λi h h' st k=>⟨let ⟨F,Y⟩:=st.1;⟨F,k e (by simp) _ Y⟩,st.2.at λo e=>k it (by simp) o e⟩
 item:=by
  intro X hP hw hK hc i pins s σ H E I hf st hg;subst hP hw hK;obtain⟨xs,x,hq,hx⟩:=hg;obtain⟨its,rv,p,hz⟩:=I.list hq;obtain⟨u,hu,ru⟩:=rv.get hx;obtain⟨⟨F,he⟩,J⟩:=st;have aa:=Am he;refine wpAny_pyNext_enum_item he J p.isList (x:=u) (by simpa using hu) Z λh1 ad ac af aj ah=>⟨_,rfl,wpAny_letOwnedTupleGo_enum ad λh2 ai G=>?_⟩
  replace G:Heap.SameBut e h1 h2:=G
  have ag:h2.get? s.heap.objs.size=some { cls:=.type "tuple",data:=.seq #[.int i s.toks,u] }:=(G.2 _ (Co aa)).trans af;have kk:∀b o,b∉[e,it]->s.heap.get? b=some o->h2.get? b=some o:=λb o hb q=>by
   have h1:b≠e:=λz=>hb (by simp[z])
   have h2:b≠it:=λz=>hb (by simp[z])
   exact(G.2 b h1).trans (ah b o h1 h2 q)
  have hn:=I.Í.fresh (Aa _);have I2:AF X pins σ (upd H s.heap.objs.size (.tup [.int i,x])) { s with heap:=h2,toks:=s.toks+1 } :=
   I.vj kk hf (Aa _) ⟨Bh rfl,[.int i s.toks,u],.cons ⟨_,rfl⟩ (.cons ru .nil),⟨_,ag,rfl,0,rfl⟩⟩
  refine⟨.ref s.heap.objs.size,_,I2,rfl,⟨_,x,rfl,hn,λys hy=>by rw[I.Ŏ hy hq];exact hx,rfl⟩,⟨⟨u,?_⟩,ac.extBut G.extBut (Cc Z)⟩,λb hb=>?_⟩
  .have Y:((i+1:Nat):Int)=(i:Int)+1:=by lia
   rw[Y];exact ai
  .rw[BE]
   .exact(hf b hb).1
   .have z:b=e\/b=it:=by simpa using hb
    obtain⟨oi,ae,_⟩:=J;rcases z with rfl|rfl
    .exact B8 aa
    .exact B8 (Am ae)
 done:=by
  intro X hP hw hK hc i pins s σ H E I hf st hg;subst hP hw hK;obtain⟨xs,hq,hx⟩:=hg;obtain⟨its,rv,p,hz⟩:=I.list hq;obtain⟨f0,f1,f2,f3,f4,f5⟩:=hf it (by simp);obtain⟨⟨F,he⟩,J⟩:=st;have hl:=rv.length;exact wpAny_pyNext_enum_end (I.ok.hd hc) he J p.isList (by simp;lia) λh' eb=>⟨rfl,I.turned (t':=s.toks) (λb o hb e=>eb b o hb e) f0 f1 f3 f4 f5⟩
 self:=λ_ _ _ _ _ st h=>let ⟨⟨_,Y⟩,_⟩:=st;wpAny_pyIter_enum Y h
def gP:bootBuiltins "enumerate"=some (.type "enumerate"):=by decide +kernel
section
variable {X:Cx}{es:List Expr}{k1:Nat}{tp:Pos}
def Xv(K:Frag)(ta:TA):TI:=λσ H R=>ta σ H λvs H1=>∃a,vs=[.ref a]/\(∃xs,AH K H1 a xs)/\R (Q3 K a) H1
def gQ{a:Expr}{ta:TA}{p pos:Pos}(hg:Gl X "enumerate")(hm:X.mg "enumerate"=none)(ha:PA X [a] ta)(hs:starEach [a] X.env=(false,eval a X.env)::starEach [] X.env:=by rfl) :
 PI X (.Tuple es k1 tp) (.Call (.Name "enumerate" p) [a] [] pos) (Xv X.K ta):=by
 intro pins s σ H R I h;refine Bs (LH I hg hm gP (Bq (AV (ha pos pins s σ H _ I h) λus F ⟨vs,H1,J,Z,q1⟩=>?_) hs (by rfl)));obtain⟨l,rfl,⟨xs,hq⟩,q⟩:=q1;obtain⟨u,rfl,ru⟩:=Kk Z;cases ru;obtain⟨its,rv,pl,hz⟩:=J.list hq;refine call_enumerate_list pl.isList λh' Y W hsz hk=>wpAny_pyIter_enum Y ⟨F.heap.objs.size+1,[F.heap.objs.size+1,F.heap.objs.size],_,_,H1,rfl,J.kept (t':=F.toks) hk,gO l _ F.heap.objs.size (Nat.succ_ne_self _),⟨⟨.none,Y⟩,W⟩,λb hb=>?_,q⟩
 have z:b=F.heap.objs.size+1\/b=F.heap.objs.size:=by simpa using hb
 have G:F.heap.objs.size<=b:=by rcases z with rfl|rfl<;>lia
 exact J.vG G (J.Í.fresh G)
end
def Rg{K:Frag}{a:Addr}{xs:List V}{g:TG}{tb:TS}{D:DY}{σ:St}{H:Hp}(F:Nat->St->Hp->Prop)(Z:F 0 σ H)(hl:∀i σ H,i<=xs.length->F i σ H->AH K H a xs)
 (hs:∀i x t σ H,xs[i]?=some x->F i σ H->H t=none->g (.ref t) σ (upd H t (.tup [.int i,x])) λI H2=>tb { D with nx:=F (i+1),ct:=F (i+1),bk:=D.nx } I H2) (hd:∀σ H,F xs.length σ H->D.nx σ H) :
 ∃W:Nat->Nat->St->Hp->Prop,(∃m,W 0 m σ H)/\∀i m σ H,W i m σ H ->
  ((Q3 K a).stop i H/\D.nx σ H)\/((Q3 K a).go i H/\∃N:St->Hp->Prop,(∀G H',N G H'->∃Y,Y<m/\W (i+1) Y G H')/\∀x H',(Q3 K a).wO i H x H'->g x σ H' λI H2=>tb { D with nx:=N,ct:=N,bk:=D.nx } I H2):=by
 refine⟨λi m σ H=>m=xs.length-i/\i<=xs.length/\F i σ H,⟨xs.length,by simp,Bj _,Z⟩,?_⟩;rintro i m σ H ⟨rfl,hi,p⟩;have q:=hl i σ H hi p;by_cases J:i<xs.length
 .refine .inr ⟨⟨xs,xs[i],q,by simp[J]⟩,F (i+1),λG H' p'=>⟨xs.length-(i+1),by lia,rfl,J,p'⟩,λv H' y=>?_⟩;obtain⟨t,x,rfl,hn,hx,rfl⟩:=y;exact hs i x t σ _ (hx xs q) p hn
 .have e:i=xs.length:=by lia
  subst e;exact .inl ⟨⟨xs,q,Aa _⟩,hd σ H p⟩
end L2
namespace L2
open PySem PySem.Spec PyProof.Rows
mutual
inductive JE (K:Frag) (H:Hp):V->PyData->Prop
 | non:JE K H .non .none
 | bl (b:Bool):JE K H (.bl b) (.bool b)
 | int (i:Int):JE K H (.int i) (.int i)
 | str (x:Str):PyData.canLay0 (.str x)=true->JE K H (.str x) (.str x)
 | lst {a xs ds}:AH K H a xs->IE K H xs ds->JE K H (.ref a) (.list ds)
 | tup {a xs ds}:BS K H a xs->IE K H xs ds->JE K H (.ref a) (.tuple ds)
inductive IE (K:Frag) (H:Hp):List V->List PyData->Prop
 | nil:IE K H [] []
 | cons {x xs d ds}:JE K H x d->IE K H xs ds->IE K H (x::xs) (d::ds)
end
section
variable {X:Cx}{pins:List (Addr×Obj)}{σ:St}{H:Hp}{s:Shared}
mutual
theorem Rh(I:AF X pins σ H s):∀(d:PyData) (v:V) (u:Value),JE X.K H v d->AR v u->∃as,Reads s.heap u d as
 | .none,v,u,h,r=>by cases h;cases r;exact⟨_,.none⟩
 | .bool b,v,u,h,r=>by cases h;cases r;exact⟨_,.bool b⟩
 | .int i,v,u,h,r=>by cases h;obtain⟨t,rfl⟩:=r;exact⟨_,.int i t⟩
 | .str x,v,u,h,r=>by cases h;obtain⟨t,rfl⟩:=r;exact⟨_,.str x t⟩
 | .list ds,v,u,h,r=>by
   cases h with
   | lst hq G =>
     cases r;obtain⟨its,F,⟨o,n,e,c,_,d⟩,_⟩:=I.list hq;obtain⟨as,q⟩:=UU I ds _ _ G F;exact⟨_,.list e c d (by simpa using q)⟩
 | .tuple ds,v,u,h,r=>by
   cases h with
   | tup hq G =>
     cases r;obtain⟨its,F,⟨o,e,c,n,d⟩,_⟩:=I.tuple hq;obtain⟨as,q⟩:=UU I ds _ _ G F;exact⟨_,.tuple e c d (by simpa using q)⟩
 | .dict _,v,u,h,r=>by cases h
theorem UU(I:AF X pins σ H s):∀(ds:List PyData) (xs:List V) (us:List Value),IE X.K H xs ds->AM xs us->∃as,ReadsAll s.heap us ds as
 | [],xs,us,h,r=>by cases h;cases r;exact⟨_,.nil⟩
 | d::ds,xs,us,h,r=>by
   cases h with
   | cons h1 h2 =>
     cases r with
     | cons J F =>
       obtain⟨Y,G⟩:=Rh I d _ _ h1 J;obtain⟨Z,W⟩:=UU I ds _ _ h2 F;exact⟨_,.cons G W⟩
end
mutual
theorem Q4{K:Frag}:∀(d:PyData) (v:V),JE K H v d->d.canLay0=true
 | .none,v,h=>rfl
 | .bool b,v,h=>rfl
 | .int i,v,h=>rfl
 | .str x,v,h=>by cases h with|str _ q=>exact q
 | .list ds,v,h=>by cases h with|lst _ q=>exact UV ds _ q
 | .tuple ds,v,h=>by cases h with|tup _ q=>exact UV ds _ q
 | .dict _,v,h=>by cases h
theorem UV{K:Frag}:∀(ds:List PyData) (xs:List V),IE K H xs ds->PyData.canLayAll0 ds=true
 | [],xs,h=>rfl
 | d::ds,xs,h=>by
   cases h with
   | cons h1 h2 =>
     show(PyData.canLay0 d&&PyData.canLayAll0 ds)=true;rw[Q4 d _ h1,UV ds _ h2];rfl
end
def Np(K:Frag)(F:Bool):R2:=λx y H Q=>∃d e,JE K H x d/\JE K H y e/\min d.depth e.depth<=64/\Q (.bl (if F then !PyData.eqv d e else PyData.eqv d e)) H
def gR(Z:X.A.units+64<cLine):FA X (compareOp .Eq) (Np X.K false):=by
 intro pins s σ H x y v u Q I W Y h;obtain⟨d,e,hd,F,hz,q⟩:=h;obtain⟨as,G⟩:=Rh I d _ _ hd W;obtain⟨bs,J⟩:=Rh I e _ _ F Y;exact PySem.SeqAt.eqOverData X.prog X.w X.A X.xe s v u d e as bs _ G J (Q4 d _ hd) (Q4 e _ F) (by lia) ⟨.bl _,H,I,rfl,q⟩
def gS(Z:X.A.units+64<cLine):FA X (compareOp .NotEq) (Np X.K true):=by
 intro pins s σ H x y v u Q I W Y h;obtain⟨d,e,hd,F,hz,q⟩:=h;obtain⟨as,G⟩:=Rh I d _ _ hd W;obtain⟨bs,J⟩:=Rh I e _ _ F Y;exact PySem.SeqAt.neOverData X.prog X.w X.A X.xe s v u d e as bs _ G J (Q4 d _ hd) (Q4 e _ F) (by lia) ⟨.bl _,H,I,rfl,q⟩
end
mutual
def nb:PyData->Bool
 | .none|.int _|.str _=>true
 | .bool _|.dict _=>false
 | .list xs|.tuple xs=>Xw xs
def Xw:List PyData->Bool
 | []=>true
 | x::xs=>nb x&&Xw xs
end
end L2
namespace L2
open PySem PySem.Spec PyProof.Rows
section
variable {prog:Program}{w:World}{A:Around}{R:Result->Shared->Prop}{s:Shared}
theorem gT (I:Nat->Shared->Prop) (turn:∀n s,I n s->wpAny (model prog w) A (pyNext it) (λr G=>match r with
 | none=>R (.ok .next) G
 | some v=>wpAny (model prog w) A (letOwnedTupleGo target it v) (λ_ F=>wpAny (model prog w) A (assign target env v) (λ_ Z =>
    wpAny (model prog w) A (forIn ifs true λc r=>if r=true then do let ok <- isTrue c env (eval c env);pure (ForInStep.yield ok)else pure (ForInStep.yield r)) (λok W =>
     if ok=true then wpAny (model prog w) A (eval elt env) (λx Y =>
      wpAny (model prog w) A (call (.builtin "list.append") [acc,x]) (λ_ s5=>∃m,m<n/\I m s5) (λ_ _=>False) Y) (λ_ _=>False) W
     else ∃m,m<n/\I m W) (λ_ _=>False) Z) (λ_ _=>False) F) (λ_ _=>False) G) (λ_ _=>False) s) (n:Nat) (h:I n s) :
 codeAny (model prog w) A (.compLoop (.ListComp elt [⟨target,iter,ifs,0⟩] scope pos) 0 it acc env) R s:=by
 refine codeAny_loop rfl I (λn s hI=>?_) n h;show wpAny _ A ((compTurn (.ListComp elt [⟨target,iter,ifs,0⟩] scope pos) 0 it acc env).onRaise (λx=>do noteFrame x env;theTreesLotGoes x)) _ _ s;refine wpAny_noted ?_;rw[compTurn_list];refine A6 (Cm (A6 (Bv (turn n s hI) (λr G h1=>?_) λ_ _ h'=>False.elim h')));cases r with
 | none=>exact Ab h1
 | some v =>
   refine A6 (Bv h1 (λ_ F J=>A6 (Bv J (λ_ Z h2=>A6 (Bv h2 (λok W h3=>?_) λ_ _ h'=>False.elim h')) λ_ _ h'=>False.elim h')) λ_ _ h'=>False.elim h');cases ok with
   | false=>exact Ab ⟨rfl,h3⟩
   | true =>
     exact A6 (A6 (Bv h3 (λx Y h4=>A6 (Bv h4 (λ_ s5 h5=>Ab (Ab ⟨rfl,h5⟩)) λ_ _ h'=>False.elim h')) λ_ _ h'=>False.elim h'))
end
def JF(env:Env):List (Str×NameKind)->List (Str×Addr)->List (Str×Addr)
 | [],F=>F
 | (n,k)::r,F=>if (k==.free)=true then JF env r ((n,(env.cells.lookup n).getD 0)::F)else JF env r F
theorem UW(P:Str->Addr->Prop):∀(names:List (Str×NameKind)) (F:List (Str×Addr)),(∀x∈names,x.2=.free->∃c,env.cells.lookup x.1=some c)->(∀n c,(n,c)∈F->P n c) ->
 (∀n c,env.cells.lookup n=some c->P n c)->∀n c,(n,c)∈JF env names F->P n c
 | [],F,_,G,_,n,c,h=>G n c h
 | (m,k)::r,F,hf,G,I,n,c,h=>by
   unfold JF at h;split at h
   .rename_i hk;refine UW P r _ (λx J=>hf x (Ah _ J)) (λY Z h'=>?_) I n c h;rcases Aw.mp h' with e|h'
    .obtain⟨c0,W⟩:=hf (m,k) Al (eq_of_beq hk);injection e with e1 e2
     subst e1 e2;rw[W];exact I _ _ W
    .exact G Y Z h'
   .exact UW P r F (λx J=>hf x (Ah _ J)) G I n c h
theorem UX:∀(names:List (Str×NameKind)) (F:List (Str×Addr)) (x:Str×Addr),x∈F->x∈JF env names F
 | [],_,_,h=>h
 | (m,k)::r,F,x,h=>by
   unfold JF;split
   .exact UX r _ x (Ah _ h)
   .exact UX r _ x h
theorem UY:∀(names:List (Str×NameKind)) (F:List (Str×Addr)) (x:Str),(x,NameKind.free)∈names->∃c,(x,c)∈JF env names F
 | [],_,_,h=>nomatch h
 | (m,k)::r,F,x,h=>by
   unfold JF;rcases Aw.mp h with e|h
   .injection e with e1 e2
    subst e1 e2;rw[Au (by decide)];exact⟨_,UX r _ _ Al⟩
   .split
    .exact UY r _ x h
    .exact UY r _ x h
def Xx(hf:∀x∈scope.names,x.2=.free->∃c,env.cells.lookup x.1=some c):closureFor scope env=pure (JF env scope.names []):=by
 have go:∀(names:List (Str×NameKind)) (F:List (Str×Addr)),(∀x∈names,x.2=.free->∃c,env.cells.lookup x.1=some c) ->
  (forIn names F λ(x:Str×NameKind) (r:List (Str×Addr))=>(match x with
    | (name,kind)=>if (kind==NameKind.free)=true then do
        let a <- cellOf env name
        pure (ForInStep.yield ((name,a)::r))
     else pure (ForInStep.yield r):Sem (ForInStep (List (Str×Addr)))))=pure (JF env names F):=by
  intro names;induction names with
  | nil=>intro F _;rw[Ei];rfl
  | cons x r ih =>
    intro F hf;obtain⟨n,k⟩:=x;rw[F0];unfold JF;by_cases G:(k==NameKind.free)=true
    .obtain⟨c,e⟩:=hf (n,k) Al (eq_of_beq G);simp only[G,J9];have J:cellOf env n=pure c:=by unfold cellOf;rw[e]
     rw[J,e];simp only[pure_bind,Option.getD_some];exact ih _ λx I=>hf x (Ah _ I)
    .simp only[G,G0];exact ih _ λx I=>hf x (Ah _ I)
 simp only[closureFor]
 grind
theorem Q5:∀(names:List (Str×NameKind)) (n:Nat) (F:List (Str×Addr)),cellsFrom n names F=cellsFrom n names []++F
 | [],_,_=>rfl
 | (m,k)::r,n,F=>by
   unfold cellsFrom;split
   .rw[Q5 r (n+1) ((m,n)::F),Q5 r (n+1) [(m,n)],C4];rfl
   .exact Q5 r n F
theorem UZ:∀(names:List (Str×NameKind)) (n:Nat) (F:List (Str×Addr)) (x:Str×Addr),x∈cellsFrom n names F->(x.1,NameKind.cell)∈names\/x∈F
 | [],_,_,_,h=>.inr h
 | (m,k)::r,n,F,x,h=>by
   unfold cellsFrom at h;split at h
   .rename_i G;rcases UZ r _ _ x h with q|q
    .exact .inl (Ah _ q)
    .rcases Aw.mp q with e|q
     .rw[e,eq_of_beq G];exact .inl Al
     .exact .inr q
   .rcases UZ r _ _ x h with q|q
    .exact .inl (Ah _ q)
    .exact .inr q
theorem SN{α:Type}(x:Str):∀(l r:List (Str×α)),(l++r).lookup x=(l.lookup x).or (r.lookup x)
 | [],r=>by simp
 | (k,v)::l,r=>by
   rw[List.cons_append,En,En];cases hb:x==k with
   | true=>rfl
   | false=>exact SN x l r
theorem Xy{α:Type}:∀{l:List (Str×α)}{c:α},(x,c)∈l->∃F,l.lookup x=some F
 | (k,v)::l,c,h=>by
   rw[En];cases hb:x==k with
   | true=>exact⟨v,rfl⟩
   | false =>
     rcases Aw.mp h with e|h
     .injection e with e1 e2
      subst e1;rw[beq_self_eq_true]at hb
      cases hb
     .exact Xy h
theorem SO(h:(relabel scope env).names.lookup x=some k):∃k0,scope.names.lookup x=some k0/\(k=k0\/(k=.cell/\k0=.free)):=by
 have go:∀names:List (Str×NameKind),(names.map λ(n,k)=>if (k==NameKind.free&&env.scope.kind==.function&&env.kindOf n==some .cell)then(n,NameKind.cell)else(n,k)).lookup x=some k ->
  ∃k0,names.lookup x=some k0/\(k=k0\/(k=.cell/\k0=.free)):=by
  intro names;induction names with
  | nil=>intro h;cases h
  | cons y r ih =>
    obtain⟨n,k1⟩:=y;intro h
    replace h:List.lookup x ((if (k1==NameKind.free&&env.scope.kind==.function&&env.kindOf n==some .cell)=true then(n,NameKind.cell)else(n,k1))::(r.map λ(n,k)=>if (k==NameKind.free&&env.scope.kind==.function&&env.kindOf n==some .cell)then(n,NameKind.cell)else(n,k)))=some k:=h
    by_cases F:(k1==NameKind.free&&env.scope.kind==.function&&env.kindOf n==some .cell)=true
    .rw[Au F]at h
     rw[En]at h⊢
     cases hb:x==n with
     | true =>
       rw[hb]at h
       have e:=Av h;simp only[Ae]at F;exact⟨k1,rfl,.inr ⟨e.symm,eq_of_beq F.1.1⟩⟩
     | false=>rw[hb]at h;exact ih h
    .rw[As F]at h
     rw[En]at h⊢
     cases hb:x==n with
     | true =>
       rw[hb]at h
       have e:=Av h;exact⟨k1,rfl,.inl e.symm⟩
     | false=>rw[hb]at h;exact ih h
 exact go _ h
def Ri(scope:Scope)(env:Env)(C:Addr)(cells:List (Str×Addr)):Env :=
 { scope:=relabel scope env,locals:=C,globals:=env.globals,cells:=cells,qual:=env.qual,func:=none,code:=env.code,frame:=env.frame,builtins:=env.builtins }
def GL(X:Cx)(N':List Str)(scope:Scope)(C:Addr)(cells:List (Str×Addr))(Ã:Shared)(H₀:Hp)(ex:List Addr):Cx :=
 { X with N:=N',Ã:=Ã,H₀:=H₀,env:=Ri scope X.env C cells,outer:=X.stack,stack:=X.stack,ex:=ex,fn:=λx=>scope.names.lookup x==some .cell,pn:=[],xe:=λ_ _=>False }
def Q6(ms:List Nat)(k:Nat)(σ:St):St:=ms.foldl (λσ i=>σ.set i none) σ++List.replicate k none
theorem Xz(ms:List Nat):∀σ:St,(ms.foldl (λσ i=>σ.set i none) σ).length=σ.length:=by
 induction ms with
 | nil=>intro σ;rfl
 | cons m ms ih=>intro σ;rw[E8,ih,E7]
def gU(ms:List Nat):∀(σ:St) (i:Nat) (v:V),(ms.foldl (λσ i=>σ.set i none) σ)[i]?=some (some v)->σ[i]?=some (some v)/\i∉ms:=by
 induction ms with
 | nil=>intro σ i v h;exact⟨h,by simp⟩
 | cons m ms ih =>
   intro σ i v h;rw[E8]at h
   obtain⟨h1,h2⟩:=ih _ i v h;by_cases e:m=i
   .subst e;rw[Fd]at h1
    split at h1
    .split at h1<;>cases h1
    .exact absurd rfl ‹_›
   .rw[Ef e]at h1
    exact⟨h1,by simp only[Aw,not_or];exact⟨λz=>e z.symm,h2⟩⟩
structure DL(X:Cx)(N':List Str)(scope:Scope)(ms:List Nat)(k:Nat):Prop where
 kind:scope.kind=.function
 uniq:∀x∈scope.names,scope.names.lookup x.1=some x.2
 free:∀x∈scope.names,x.2=.free->X.env.kindOf x.1=some .cell\/X.env.kindOf x.1=some .free
 len:N'.length=X.N.length+k
 pre:∀i:Nat,i<X.N.length->N'[i]?=X.N[i]?
 xY:∀i:Nat,i<X.N.length->i∉ms->∀x k',N'[i]?=some x->scope.names.lookup x=some k'->k'=.local\/k'=.cell\/k'=.free->k'=.free
section
variable {X:Cx}{pins:List (Addr×Obj)}{σ:St}{H:Hp}{s:Shared}
def XA (hQ:Q { scope:=scope,locals:=s.heap.objs.size,globals:=globals,cells:=cellsFrom (s.heap.objs.size+1) scope.names cl,qual:=qual,func:=none,code:=env.code,frame:=env.frame,builtins:=env.builtins }
 { s with heap:=pushCells (s.heap.push { cls:=.type "dict",data:=.dict #[] }) scope.names }) :
 wpAny M A (newFunctionEnv scope globals cl [] qual none .none (some env)) Q E s:=by
 simp only[newFunctionEnv,Gm,J9];refine A6 (wpAny_alloc (A6 (wpAny_layCells _ (λname kind cells=>by cases F:kind==NameKind.cell<;>simp[F]) _ _ _ _ ?_)));rw[show({ s with heap:=s.heap.push { cls:=.type "dict",data:=.dict #[] } }:Shared).heap.objs.size=s.heap.objs.size+1 from C0 ..,Ei];exact A6 (Ab (Ab hQ))
def XB(I:AF X pins σ H s)(B:DL X N' scope ms k)(J:∀b∈ex,DH X pins H b/\b<s.heap.objs.size) :
 AF (GL X N' scope s.heap.objs.size (cellsFrom (s.heap.objs.size+1) scope.names (JF X.env scope.names [])) s H ex) [] (Q6 ms k σ) H
  { s with heap:=pushCells (s.heap.push { cls:=.type "dict",data:=.dict #[] }) scope.names }:=by
 have W:=λx F hk=>I.ok.has x.1 (B.free x F hk)
 have keep:∀b o,s.heap.get? b=some o->(pushCells (s.heap.push { cls:=.type "dict",data:=.dict #[] }) scope.names).get? b=some o:=λb o e=>G4 _ _ b o (A7 _ e)
 have own:=cellsFrom_ok scope.names (s.heap.push { cls:=.type "dict",data:=.dict #[] }) (s.heap.objs.size+1) [] ⟨λ_ _ hm=>(nomatch hm),List.Pairwise.nil⟩ (by rw[C0];exact Aa _);rw[C0]at own
 have ai:=UW (λn c=>X.env.cells.lookup n=some c) scope.names [] W (λ_ _ h=>nomatch h) λ_ _ h=>h
 have aj:∀n (c:Addr),X.env.cells.lookup n=some c->@LT.lt Nat instLTNat c s.heap.objs.size:=λn c e=>by obtain⟨v,q⟩:=I.cell n c e;exact q.lt
 have look:∀x c,(cellsFrom (s.heap.objs.size+1) scope.names (JF X.env scope.names [])).lookup x=some c ->
  ((x,c)∈cellsFrom (s.heap.objs.size+1) scope.names []/\s.heap.objs.size+1<=c)\/(X.env.cells.lookup x=some c/\@LT.lt Nat instLTNat c s.heap.objs.size):=λx c e=>by
  rw[Q5,SN]at e
  cases q:(cellsFrom (s.heap.objs.size+1) scope.names []).lookup x with
  | some c' =>
    rw[q]at e
    have e':=Av e;subst e';exact .inl ⟨mem_of_lookup q,(own.empty x c' (mem_of_lookup q)).2⟩
  | none =>
    rw[q]at e
    have e2:=ai x c (mem_of_lookup e);exact .inr ⟨e2,aj x c e2⟩
 have G:∀x,scope.names.lookup x=some .cell\/scope.names.lookup x=some .free->∃c,(cellsFrom (s.heap.objs.size+1) scope.names (JF X.env scope.names [])).lookup x=some c:=λx F=>by
  rw[Q5,SN];cases q:(cellsFrom (s.heap.objs.size+1) scope.names []).lookup x with
  | some c'=>exact⟨c',rfl⟩
  | none =>
    rcases F with F|F
    .obtain⟨c,e⟩:=Sz (n:=s.heap.objs.size+1) F;rw[q]at e;cases e
    .obtain⟨c,hc⟩:=UY (env:=X.env) scope.names [] x (Cw F);exact Xy hc
 have Ir:=I.lt;refine⟨⟨I.ok.mod,B.kind,I.ok.glob,I.ok.blt,Aa _,λx y c F hy=>?_,λx F=>?_,λx c hf F=>?_,I.ok.hd,I.ok.frames,.inl rfl,λb hb=>?_,I.bs,Bk I.ok.wx I.sz,λb o e hb=>?_,λb hb ag=>?_,I.stack,I.vi⟩,
  rfl,I.bare,Un.kept keep,⟨λ_=>none,?_,λi x v h1 h2 Z=>?_⟩,λx c F=>?_,?_,λx c F=>?_,λp hp=>absurd (show p∈([]:List (Addr×Obj))from hp) (by simp),I.Í.kept keep,?_⟩
 .rcases look x c F with⟨m1,l1⟩|⟨m1,l1⟩
  .rcases look y c hy with⟨m2,l2⟩|⟨m2,l2⟩
   .exact name_of_addr own.apart m1 m2
   .lia
  .rcases look y c hy with⟨m2,l2⟩|⟨m2,l2⟩
   .lia
   .exact I.ok.inj x y c m1 m2
 .have F:=F;rcases F with F|F
  .obtain⟨k0,e,z|⟨_,z⟩⟩:=SO F
   .exact G x (.inl (by rw[e,<-z]))
   .exact G x (.inr (by rw[e,z]))
  .obtain⟨k0,e,z|⟨z,_⟩⟩:=SO F
   .exact G x (.inr (by rw[e,<-z]))
   .cases z
 .show s.heap.objs.size<=c;have hf:=hf;have af:=eq_of_beq hf;have F:(cellsFrom (s.heap.objs.size+1) scope.names (JF X.env scope.names [])).lookup x=some c:=F;rw[Q5,SN]at F
  obtain⟨c',e⟩:=Sz (n:=s.heap.objs.size+1) af;rw[e]at F
  have z:=Av F;subst z;exact Nat.le_of_succ_le (own.empty x c' (mem_of_lookup e)).2
 .obtain⟨_,aa⟩:=J b hb;refine⟨B8 aa,λx c F z=>?_⟩;subst z;have ak:@LT.lt Nat instLTNat c s.heap.objs.size:=aa;rcases look x c F with⟨_,l1⟩|⟨m1,_⟩
  .lia
  .obtain⟨⟨_,_,_,_,f4,_⟩,_⟩:=J c hb;exact f4 x c m1 rfl
 .obtain⟨⟨_,_,_,f3,_,_⟩,_⟩:=J b hb;rcases f3 with z|z
  .exact I.ok.vo b o e z
  .have h1:@LT.lt Nat instLTNat b X.base.objs.size:=Am e;have h2:=I.ok.wx
   lia
 .obtain⟨⟨_,f1,f2,_,_,_⟩,_⟩:=J b hb;rcases Aw.mp (I.vT b ag)with z|z
  .exact f1 z
  .exact f2 z
 .exact(Heap.Ns.new s.heap (.type "dict")).keeps (G4 _ _)
 .have hi:i<X.N.length:=by
   by_cases hi:i<X.N.length
   .exact hi
   simp_all[Q6,none,Xz,I.len,Ej,List.getElem?_replicate]
  have ah:(ms.foldl (λσ i=>σ.set i none) σ)[i]?=some (some v):=by
   unfold Q6 at h2
   grind
  obtain⟨h4,h5⟩:=gU ms σ i v ah;have ac:=h1;have ae:X.N[i]?=some x:=by rw[<-B.pre i hi];exact ac
  have Z:(relabel scope X.env).names.lookup x=some .local\/(relabel scope X.env).names.lookup x=some .cell\/(relabel scope X.env).names.lookup x=some .free:=Z;have fr:scope.names.lookup x=some .free:=by
   have go:∀k',(relabel scope X.env).names.lookup x=some k'->k'=.local\/k'=.cell\/k'=.free->scope.names.lookup x=some .free:=λk' e hk=>by
    obtain⟨k0,e0,z|⟨_,z⟩⟩:=SO e
    .have:=B.xY i hi h5 x k0 ac e0 (z ▸ hk);rw[e0,this]
    .rw[e0,z]
   grind
  have hk:=B.free (x,.free) (Cw fr) rfl;obtain⟨m,hn,hl⟩:=I.loc;obtain⟨u,r,l⟩:=hl i x v ae h4 (.inr hk);refine⟨u,r,.inr ⟨?_,?_⟩⟩
  .rcases Z with Z|Z
   .grind[SO]
   .exact Z
  .rcases l with⟨al,_⟩|⟨_,c,hc,Y⟩
   .lia
   .refine⟨c,?_,Y.keeps keep⟩;obtain⟨c2,e2⟩:=G x (.inr fr);have ad:=e2;rcases look x c2 ad with⟨m1,_⟩|⟨m1,_⟩
    .exfalso;rcases UZ scope.names _ _ _ m1 with q|q
     .have:=B.uniq _ q;rw[fr]at this
      cases this
     .cases q
    .rw[hc]at m1
     have z:=Av m1;rw[z];exact e2
 .rcases look x c F with⟨m1,_⟩|⟨m1,_⟩
  .exact⟨none,(own.empty x c m1).1⟩
  .obtain⟨v,q⟩:=I.cell x c m1;exact⟨v,q.keeps keep⟩
 .exact I.Í.fresh (Aa _)
 .rcases look x c F with⟨_,l1⟩|⟨m1,_⟩
  .exact I.Í.fresh (by lia)
  .exact I.ú x c m1
 .show(Q6 ms k σ).length=N'.length
  grind[Q6,List.length_append,Xz,List.length_replicate,I.len,B.len]
end
def V0:TT:=λ_ H Q=>Q true H
def OL(J:It)(g:TG)(tc:TT)(te:TE)(D:Addr)(Q:VK)(Y:St)(H0:Hp):Prop:=∃W:Nat->Nat->St->Hp->Prop,(∃m,W 0 m Y (upd H0 D (.lst []))) /\
 ∀i m G H2,W i m G H2->(J.stop i H2/\Q (.ref D) H2)\/(J.go i H2/\∀x H3,J.wO i H2 x H3->g x G H3 λF H4=>tc F H4 λb H5 =>
  if b=true then te F H5 λv Z=>∃ys,Z D=some (.lst ys)/\ys.length<sizeLine/\∃I,I<m/\W (i+1) I F (upd Z D (.lst (ys++[v])))
  else ∃I,I<m/\W (i+1) I F H5)
def IF(F:TI)(g:TG)(tc:TT)(te:TE)(ms:List Nat)(k:Nat):TE:=λσ H Q=>F σ H λJ H1=>∀D,H1 D=none->OL J g tc te D Q (Q6 ms k σ) H1
def OM(X:Cx)(F:List Expr)(t:TT):Prop :=
 ∀(pins:List (Addr×Obj)) (s:Shared) (σ:St) (H:Hp) (Q:Bool->Hp->Prop),AF X pins σ H s->t σ H Q ->
  wpAny (model X.prog X.w) X.A (forIn F true λc r=>if r=true then do let ok <- isTrue c X.env (eval c X.env);pure (ForInStep.yield ok)else pure (ForInStep.yield r)) (TP X pins σ Q) X.xe s
abbrev FE(X:Cx)(N':List Str)(scope:Scope)(F:Shared)(n:Nat)(H2:Hp)(fp:List Addr):Cx:=GL X N' scope F.heap.objs.size (cellsFrom (F.heap.objs.size+1) scope.names (JF X.env scope.names [])) F (upd H2 n (.lst [])) fp
structure LZ(c:Cx->Prop)(P:Program)(w:World)(K:Frag)(tg:Expr)(J:It)(fp:List Addr)(it:Addr)(tn:Nat->Heap->Prop):Prop where
 mem:it∈fp
 obj:∀i h,tn i h->∀b∈fp,∃o,h.get? b=some o/\∀v,o.data≠.cell v
 keep:∀i h h',tn i h->(∀b∈fp,∀o,h.get? b=some o->h'.get? b=some o)->tn i h'
 item:∀(X:Cx),X.prog=P->X.w=w->X.K=K->c X->∀(i:Nat) (pins:List (Addr×Obj)) (s:Shared) (σ:St) (H:Hp) (E:Value->Shared->Prop),AF X pins σ H s->(∀b∈fp,DH X pins H b)->tn i s.heap->J.go i H ->
  wpAny (model P w) X.A (pyNext (.ref it)) (λr s1=>∃u,r=some u /\
   wpAny (model P w) X.A (letOwnedTupleGo tg (.ref it) u) (λ_ s2=>∃x H',AF X pins σ H' s2/\AR x u/\J.wO i H x H'/\tn (i+1) s2.heap/\∀b∈fp,H' b=none) E s1) E s
 done:∀(X:Cx),X.prog=P->X.w=w->X.K=K->c X->∀(i:Nat) (pins:List (Addr×Obj)) (s:Shared) (σ:St) (H:Hp) (E:Value->Shared->Prop),AF X pins σ H s->(∀b∈fp,DH X pins H b)->tn i s.heap->J.stop i H ->
  wpAny (model P w) X.A (pyNext (.ref it)) (λr s1=>r=none/\AF X pins σ H s1) E s
 self:∀(A:Around) (i:Nat) (s:Shared) (Q:Value->Shared->Prop) (E:Value->Shared->Prop),tn i s.heap->Q (.ref it) s->wpAny (model P w) A (pyIter (.ref it)) Q E s
def SQ(c:Cx->Prop)(X:Cx)(tg F:Expr)(Y:TI):Prop :=
 ∀(pins:List (Addr×Obj)) (s:Shared) (σ:St) (H:Hp) (R:It->Hp->Prop),AF X pins σ H s->Y σ H R ->
  wpAny (model X.prog X.w) X.A (eval F X.env) (λv Z=>wpAny (model X.prog X.w) X.A (pyIter v) (λG I=>∃(it:Addr) (fp:List Addr) (W:Nat->Heap->Prop) (J:It) (H':Hp),G=.ref it/\AF X pins σ H' I/\LZ c X.prog X.w X.K tg J fp it W/\W 0 I.heap/\(∀b∈fp,DH X pins H' b)/\R J H') X.xe Z) X.xe s
section
variable {X:Cx}
def HH:OM X [] V0:=λpins s σ H Q I h=>wpAny_tests_nil ⟨H,I,h⟩
def SR(h:PT X c t):OM X [c] t:=λpins s σ H Q I hw=>wpAny_tests_one (h pins s σ H Q I hw)
def PI.g(h:PI X tg iter wi):SQ (·.calm=true) X tg iter wi:=λpins s σ H R I q=>AV (h pins s σ H R I q) λv Z h1=>AV h1 λF Y ⟨it,fp,W,J,H',e,G,T,r⟩=>⟨it,fp,W,J,H',e,G,⟨T.mem,T.obj,T.keep,T.item,T.done,T.self⟩,r⟩
def XC (ac:∀C cells Ã H₀ ex,c (GL X N' scope C cells Ã H₀ ex)) (hi:SQ c X target iter wi) (B:DL X N' scope ms k) (hg:∀C cells Ã H₀ ex,PG (GL X N' scope C cells Ã H₀ ex) target g) (hc:∀C cells Ã H₀ ex,OM (GL X N' scope C cells Ã H₀ ex) ifs tc) (he:∀C cells Ã H₀ ex,PE (GL X N' scope C cells Ã H₀ ex) elt te) (hs:∀x,foldedSetIterable iter X.env x=pure x) (I:AF X pins σ H s) (hw:IF wi g tc te ms k σ H Qv) (al:∀(D:Addr) (H':Hp) (s':Shared) (C:Addr) (m:Str->Option Value),AF X pins σ H' s'->s'.heap.Ns C m->H' C=none->C≠X.env.locals->X.Ã.heap.objs.size<=C ->
 (∀x c,X.env.cells.lookup x=some c->c≠C)->(∀p∈X.pn++pins,p.1≠C)->Qv (.ref D) H'->compPost (model X.prog X.w) X.A X.xe use Q (.ref D) C (.ok .next) s') :
 wpAny (model X.prog X.w) X.A (comprehension (.ListComp elt [⟨target,iter,ifs,0⟩] scope pos) scope X.env p (newList []) false (eval iter X.env) use) Q X.xe s:=by
 have ah:=λx hx hk=>I.ok.has x.1 (B.free x hx hk)
 refine Ii (use:=use) rfl hs (Xx ah) B.kind (λx hx hl=>by rw[B.uniq x hx,hl]) (AV (hi pins s σ H _ I hw) λv s1 h1=>AV h1 λaO F h2=>?_);revert h2;refine EM λit fp tn J H2=>GH λap I2 T ar f2 h2=>?_;subst ap;refine C3 ?_;have I3:AF X pins σ (upd H2 F.heap.objs.size (.lst [])) { F with heap:=F.heap.push { cls:=.type "list",data:=.seq ([]:List Value).toArray } }:=I2.vR (t':=F.toks) .nil (Bj _);obtain⟨W,⟨m0,w0⟩,ax⟩:=h2 F.heap.objs.size I2.fresh;have Z:∀b∈fp,DH X pins (upd H2 F.heap.objs.size (.lst [])) b/\b<(F.heap.push { cls:=.type "list",data:=.seq ([]:List Value).toArray }).objs.size:=λb hb=>by
  refine DQ (T.obj _ _ ar b hb) λo=>BW λe _=>?_;have aA:=Am e;obtain⟨f0,fr⟩:=f2 b hb;refine⟨⟨by rw[BE (B8 aA)];exact f0,fr⟩,?_⟩
  grind[Heap.size_push,Nat.lt_succ_of_lt]
 generalize ay:({ F with heap:=F.heap.push { cls:=.type "list",data:=.seq ([]:List Value).toArray } }:Shared)=Y at I3;have aw:F.heap.push { cls:=.type "list",data:=.seq ([]:List Value).toArray }=Y.heap:=by rw[<-ay]
 rw[aw]at Z
 refine XA ?_;have I4:=XB I3 B Z;have ag:tn 0 (pushCells (Y.heap.push { cls:=.type "dict",data:=.dict #[] }) scope.names):=T.keep _ _ _ ar λb hb o e=>G4 _ _ b o (A7 _ (by rw[<-aw];exact A7 _ e))
 have aK:=λb hb=>(Z b hb).1.1
 generalize aF:({ Y with heap:=pushCells (Y.heap.push { cls:=.type "dict",data:=.dict #[] }) scope.names }:Shared)=s4 at I4;have aG:pushCells (Y.heap.push { cls:=.type "dict",data:=.dict #[] }) scope.names=s4.heap:=by rw[<-aF]
 rw[aG]at ag
 have aa:∀{H':Hp}{av:List (Addr×Obj)},av=[]->(∀b∈fp,H' b=none)->∀b∈fp,DH (FE X N' scope Y F.heap.objs.size H2 fp) av H' b:=λhp hn b hb=>by
  obtain⟨x1,x2⟩:=I4.ok.x8 b hb;exact GS (hn b hb) x1 (I4.ok.ŵ b hb) (.inl hb) x2 (λp ao=>by rw[hp]at ao;exact absurd (show p∈([]:List (Addr×Obj))from ao) (by simp))
 have af:∀am:Value,am=.ref it->codeAny (model X.prog X.w) X.A (.compLoop (.ListComp elt [⟨target,iter,ifs,0⟩] scope pos) 0 am (.ref F.heap.objs.size) (Ri scope X.env Y.heap.objs.size (cellsFrom (Y.heap.objs.size+1) scope.names (JF X.env scope.names []))))
  (compPost (model X.prog X.w) X.A X.xe use Q (.ref F.heap.objs.size) Y.heap.objs.size) s4:=by
  rintro am rfl;refine gT (λn s'=>∃i G H',AF (FE X N' scope Y F.heap.objs.size H2 fp) [] G H' s'/\tn i s'.heap/\(∀b∈fp,H' b=none)/\W i n G H') ?_ m0 ⟨0,_,_,I4,ag,aK,w0⟩;refine λn s5=>FT λi ad H5=>DP λI5 an aq w5=>?_;rcases ax i n ad H5 w5 with⟨stop,q⟩|⟨go,step⟩
  .refine AV (T.done (FE X N' scope Y F.heap.objs.size H2 fp) rfl rfl rfl (ac _ _ _ _ _) i [] s5 ad H5 (λ_ _=>False) I5 (aa rfl aq) an stop) λr s6 aH=>?_;obtain⟨hr,I6⟩:=aH;subst hr;have I7:AF X pins σ H5 s6:=I3.vD I6.os I6.base I6.Í I6.bare λb hb=>by
    obtain⟨⟨_,f1,_,f3,f4,f5⟩,_⟩:=Z b hb;exact BP f3 f1 f4 f5
   refine DQ I6.loc λm=>BW λhn _=>?_;refine al _ H5 s6 _ m I7 hn I6.free (Co I3.lt) I3.sz (λx c e z=>?_) (λp hp z=>?_) q
   .obtain⟨v,hv⟩:=I3.cell x c e;have:=hv.lt;rw[z]at this
    exact Ce _ this
   .have:=Am (I3.pin p hp).1;rw[z]at this
    exact Ce _ this
  .refine AV (T.item (FE X N' scope Y F.heap.objs.size H2 fp) rfl rfl rfl (ac _ _ _ _ _) i [] s5 ad H5 (λ_ _=>False) I5 (aa rfl aq) an go) λr s6=>ES λu=>BW λhr h6=>?_;subst hr;refine AV h6 λ_ s7=>FO λx H7=>FL λI7 r7 y7 ai aB=>?_;refine AV (hg _ _ _ _ _ _ s7 ad H7 x u _ (I7.pinned (aa rfl aB) (T.obj _ _ ai)) r7 (step x H7 y7)) λ_ s8 ⟨ak,H8,I8,q8⟩=>AV (hc _ _ _ _ _ _ s8 ak H8 _ I8 q8) λb s9=>ES λH9=>BW λI9 q9=>?_;have again:∀{G:St}{H':Hp}{s':Shared},AF (FE X N' scope Y F.heap.objs.size H2 fp) ([]++PQ fp s7.heap) G H' s' ->
    (∃m',m'<n/\W (i+1) m' G H')->∃m,m<n/\∃i ae aj,AF (FE X N' scope Y F.heap.objs.size H2 fp) [] ae aj s'/\tn i s'.heap/\(∀b∈fp,aj b=none)/\W i m ae aj:=λ{G H' s'} I' ⟨m',hm,w'⟩=>by
    refine⟨m',hm,i+1,G,H',I'.ĭ,T.keep _ _ _ ai λb hb o e=>(I'.pin (b,o) (Bg _ (Bg _ (PR hb e)))).1,λb hb=>?_,w'⟩;refine DQ (T.obj _ _ ai b hb) λo=>BW λe d=>?_;exact(I'.pin (b,o) (Bg _ (Bg _ (PR hb e)))).2.1
   cases b with
   | false =>
     rw[As Ay]at q9⊢
     exact again I9 q9
   | true =>
     rw[Au rfl]at q9⊢
     refine AV (he _ _ _ _ _ _ s9 ak H9 _ I9 q9) λy az ⟨vy,au,aC,aD,ys,aE,hz,aL⟩=>AV (IB _ az ak au (.ref F.heap.objs.size) [vy] (.ref F.heap.objs.size) [y] (λ_ H'=>H'=upd au F.heap.objs.size (.lst (ys++[vy]))) aC rfl (.cons aD .nil) ⟨_,ys,vy,rfl,rfl,aE,hz,rfl⟩) λ_ aN=>FO λ_ aM=>FN λaJ _ aI=>?_;subst aI;exact again aJ aL
 exact codeAny_compStart_list (af _ rfl) (T.self _ 0 s4 _ _ ag (af _ rfl))
def gW(F:X.calm=true)(hi:PI X target iter wi)(B:DL X N' scope ms k)(G:∀C cells Ã H₀ ex,PG (GL X N' scope C cells Ã H₀ ex) target g)(hc:∀C cells Ã H₀ ex,OM (GL X N' scope C cells Ã H₀ ex) ifs tc)(he:∀C cells Ã H₀ ex,PE (GL X N' scope C cells Ã H₀ ex) elt te)(hs:∀x,foldedSetIterable iter X.env x=pure x:=by intro _;rfl) :
 PE X (.ListComp elt [⟨target,iter,ifs,0⟩] scope pos) (IF wi g tc te ms k):=by
 intro pins s σ H Q I h;rw[eval_ListComp];exact XC (use:=none) (Qv:=Q) (λ_ _ _ _ _=>F) hi.g B G hc he hs I h λD H' s' C m Y hn J W f3 f4 Z q=>⟨m,hn,λh' sb=>⟨.ref D,H',Y.turned (t':=s'.toks) (λb o hb e=>(sb.2 b hb).trans e) J W (.inr f3) f4 Z,rfl,q⟩⟩
def XD(hN:X.N.Nodup)(hx:X.N[i]?=some x)(hl:MT X.env.scope x)(hcalm:∀C cells Ã H₀ ex,c (GL X N' scope C cells Ã H₀ ex))(hi:SQ c X target iter wi)(B:DL X N' scope ms k)(hg:∀C cells Ã H₀ ex,PG (GL X N' scope C cells Ã H₀ ex) target g)(hc:∀C cells Ã H₀ ex,OM (GL X N' scope C cells Ã H₀ ex) ifs tc)(he:∀C cells Ã H₀ ex,PE (GL X N' scope C cells Ã H₀ ex) elt te)(hsw:swapsWith (.ListComp elt [⟨target,iter,ifs,0⟩] scope pos) (some (.Name x px)) spos.line X.env=pure true:=by rfl)(hs:∀x,foldedSetIterable iter X.env x=pure x:=by intro _;rfl)(hf:X.fn x=true\/X.env.scope.names.lookup x=some .local:=by first|exact .inl rfl|exact .inr rfl|assumption) :
 PS X (.Assign [.Name x px] (.ListComp elt [⟨target,iter,ifs,0⟩] scope pos) spos) (Lm (IF wi g tc te ms k) (Nf i)):=by
 intro pins s σ H D I h;rw[exec_Assign_Name_used _ _ _ _ hsw];refine A6 (Cm (A6 ?_));show wpAny _ X.A (do let _ <- comprehension (.ListComp elt [⟨target,iter,ifs,0⟩] scope pos) scope X.env _ (newList []) false (eval iter X.env) (some (assign (.Name x px) X.env))) _ _ s;refine A6 (Bv (XC (use:=some (assign (.Name x px) X.env)) (Q:=λ_ s'=>∃F H',AF X pins F H' s'/\D.nx F H') hcalm hi B hg hc he hs I h λDa H' s' C m I' hn Z f1 f3 f4 f5 q=>?_)
  (λ_ s' hq=>Ab (Ab hq)) λ_ _ e=>e)
 show wpAny _ X.A (assign (.Name x px) X.env (.ref Da)) _ _ s';refine Hv (Um I' hN hx hl (v:=.ref Da) rfl (λG Y ⟨b,sb,hb⟩=>?_) hf);have W:C≠b:=by
  grind
 refine⟨m,hn.sameBut sb W,λh' J=>⟨_,H',Y.turned (t':=G.toks) (λb o hb e=>(J.2 b hb).trans e) Z f1 (.inr f3) f4 f5,q⟩⟩
def SS(F:X.N.Nodup)(hx:X.N[i]?=some x)(hl:MT X.env.scope x)(hcalm:X.calm=true)(hi:PI X target iter wi)(B:DL X N' scope ms k)(hg:∀C cells Ã H₀ ex,PG (GL X N' scope C cells Ã H₀ ex) target g)(hc:∀C cells Ã H₀ ex,OM (GL X N' scope C cells Ã H₀ ex) ifs tc)(he:∀C cells Ã H₀ ex,PE (GL X N' scope C cells Ã H₀ ex) elt te)(hsw:swapsWith (.ListComp elt [⟨target,iter,ifs,0⟩] scope pos) (some (.Name x px)) spos.line X.env=pure true:=by rfl)(hs:∀x,foldedSetIterable iter X.env x=pure x:=by intro _;rfl)(hf:X.fn x=true\/X.env.scope.names.lookup x=some .local:=by first|exact .inl rfl|exact .inr rfl|assumption) :
 PS X (.Assign [.Name x px] (.ListComp elt [⟨target,iter,ifs,0⟩] scope pos) spos) (Lm (IF wi g tc te ms k) (Nf i)) :=
 XD F hx hl (λ_ _ _ _ _=>hcalm) hi.g B hg hc he hsw hs hf
end
noncomputable def ON (N:List Str) (lk:Str->Option NameKind) (N':List Str) (scope:Scope) (ms:List Nat) (k:Nat):Bool :=
 scope.kind==.function&&(scope.names.all λx=>scope.names.lookup x.1==some x.2)&&(scope.names.all λx=>!(x.2==.free)||lk x.1==some .cell||lk x.1==some .free) &&
 N'.length==N.length+k&&(N'.take N.length==N) &&
 (List.range N.length).all λi=>ms.contains i||(match N'[i]? with|none=>true|some x=>match scope.names.lookup x with|some .local=>false|some .cell=>false|_=>true)
def DL.of(h:ON X.N X.env.kindOf N' scope ms k=true):DL X N' scope ms k:=by
 unfold ON at h;simp only[Ae]at h;obtain⟨⟨⟨⟨⟨h1,h2⟩,h3⟩,I⟩,J⟩,Y⟩:=h;have W:=eq_of_beq J;refine⟨eq_of_beq h1,λx F=>eq_of_beq (Bf.mp h2 x F),λx F G=>?_,eq_of_beq I,λi hi=>?_,λi hi hm x k' Z e2 G=>?_⟩
 .grind
 .grind
 grind
section
variable {K:Frag}{a:Addr}{xs:List V}{g:TG}{tc:TT}{te:TE}{D:Addr}{σ:St}{H:Hp}{Q:VK}
def O3(D:Addr)(n i:Nat)(W:Nat->List V->St->Hp->Prop)(G:St):VK:=λv I=>∃ys,I D=some (.lst ys)/\ys.length<sizeLine/\∃J,J<n-i/\(J=n-(i+1)/\i+1<=n/\∃F,W (i+1) F G (upd I D (.lst (ys++[v]))))
def OO(n i:Nat)(J:Nat->List V->St->Hp->Prop)(G:St)(W:Hp):Prop:=∃I,I<n-i/\(I=n-(i+1)/\i+1<=n/\∃F,J (i+1) F G W)
def FW(hi:i<n)(h:H6 D=some (.lst ys))(hz:ys.length<=100000)(p:Pv (i+1) (ys++[v]) σ2 (upd H6 D (.lst (ys++[v])))):O3 D n i Pv σ2 v H6 :=
 ⟨ys,h,Kz hz,n-(i+1),by lia,rfl,hi,_,p⟩
def Rj(hi:i<n)(p:Pv (i+1) ys σ2 H5):OO n i Pv σ2 H5:=⟨n-(i+1),by lia,rfl,hi,_,p⟩
def IX(G:Nat->List V->St->Hp->Prop)(h0:G 0 [] σ (upd H D (.lst [])))(hl:∀i ys σ H,i<=xs.length->G i ys σ H->AH K H a xs)
 (hs:∀i x ys σ H,xs[i]?=some x->i<xs.length->G i ys σ H->g x σ H λF W=>tc F W λb J=>if b=true then te F J (O3 D xs.length i G F)else OO xs.length i G F J)
 (hd:∀ys σ H,G xs.length ys σ H->Q (.ref D) H) :
 OL (Ng K a) g tc te D Q σ H:=by
 refine⟨λi m σ H=>m=xs.length-i/\i<=xs.length/\∃ys,G i ys σ H,⟨xs.length,by simp,Bj _,[],h0⟩,?_⟩;rintro i m σ H ⟨rfl,hi,ys,p⟩;have q:=hl i ys σ H hi p;by_cases I:i<xs.length
 .refine .inr ⟨⟨xs,xs[i],q,by simp[I]⟩,λx H' y=>?_⟩;obtain⟨rfl,y⟩:=y;exact hs i x ys σ _ (y xs q) I p
 .have e:i=xs.length:=by lia
  subst e;exact .inl ⟨⟨xs,q,Aa _⟩,hd ys σ H p⟩
def gX(G:Nat->List V->St->Hp->Prop)(h0:G 0 [] σ (upd H D (.lst [])))(hl:∀i ys σ H,i<=xs.length->G i ys σ H->AH K H a xs)
 (hs:∀i x t ys σ H,xs[i]?=some x->i<xs.length->G i ys σ H->H t=none->g (.ref t) σ (upd H t (.tup [.int i,x])) λF W=>tc F W λb J=>if b=true then te F J (O3 D xs.length i G F)else OO xs.length i G F J)
 (hd:∀ys σ H,G xs.length ys σ H->Q (.ref D) H) :
 OL (Q3 K a) g tc te D Q σ H:=by
 refine⟨λi m σ H=>m=xs.length-i/\i<=xs.length/\∃ys,G i ys σ H,⟨xs.length,by simp,Bj _,[],h0⟩,?_⟩;rintro i m σ H ⟨rfl,hi,ys,p⟩;have q:=hl i ys σ H hi p;by_cases I:i<xs.length
 .refine .inr ⟨⟨xs,xs[i],q,by simp[I]⟩,λv H' y=>?_⟩;obtain⟨t,x,rfl,hn,Y,rfl⟩:=y;exact hs i x t ys σ _ (Y xs q) I p hn
 .have e:i=xs.length:=by lia
  subst e;exact .inl ⟨⟨xs,q,Aa _⟩,hd ys σ H p⟩
def gY{lo:Int}{n:Nat}(G:Nat->List V->St->Hp->Prop)(h0:G 0 [] σ (upd H D (.lst [])))
 (hs:∀i ys σ H,i<n->G i ys σ H->g (.int (lo+i)) σ H λF W=>tc F W λb J=>if b=true then te F J (O3 D n i G F)else OO n i G F J)
 (hd:∀ys σ H,G n ys σ H->Q (.ref D) H) :
 OL (Nh lo n) g tc te D Q σ H:=by
 refine⟨λi m σ H=>m=n-i/\i<=n/\∃ys,G i ys σ H,⟨n,by simp,Bj _,[],h0⟩,?_⟩;rintro i m σ H ⟨rfl,hi,ys,p⟩;by_cases I:i<n
 .refine .inr ⟨I,λx H' y=>?_⟩;obtain⟨e,y⟩:=y;subst e y;exact hs i ys σ _ I p
 .have e:i=n:=by lia
  subst e;exact .inl ⟨Aa _,hd ys σ H p⟩
end
section
variable {X:Cx}
def gZ(Z:X.calm=true):IW X (.builtin "sum") (λxs H Q=>∃p ns,xs=[.ref p]/\AH X.K H p (ns.map V.int)/\Q (.int (List.sum ns)) H):=by
 rintro pins s σ H xs us Q I r ⟨p,ns,rfl,hq,q⟩;obtain⟨u,rfl,Y⟩:=Kk r;cases Y;obtain⟨its,W,pl,hz⟩:=I.list hq;have hi:=UN W;obtain⟨zs,e⟩:=(hi.allInts).items;have hn:=hi.numsOf;refine sum_intListG (I.ok.hd Z) (by rw[<-e];exact pl.isList) λh' tk t' G=>⟨.int (List.sum ns),H,I.kept G,⟨t',?_⟩,q⟩
 have J:its.toArray.toList=(intItems zs).toList:=by rw[e]
 have F:numsOf its=numsOf (intItems zs).toList:=by rw[<-J]
 rw[nums_intItems]at F
 rw[preSum_eq,Aj (by simp),<-hn,F]
end
section
variable {X:Cx}(K:Frag) (hK:X.K=K)
include hK
theorem EO:OE X (R9 K):=by subst hK;exact gk
theorem KP:OE X (OG K):=by subst hK;exact Xk
theorem Q7:PY X (Rb K):=by subst hK;exact gv
theorem hU:PY X (R8 K):=by subst hK;exact gi
theorem Rk:FA X (compareOp .In) (SI K false):=by subst hK;exact gx
theorem hV:FA X (compareOp .NotIn) (SI K true):=by subst hK;exact gy
theorem HN(F:X.A.units+64<cLine):FA X (compareOp .Eq) (Np K false):=by subst hK;exact gR F
theorem GW(F:X.A.units+64<cLine):FA X (compareOp .NotEq) (Np K true):=by subst hK;exact gS F
def V1(K:Frag):List V->Hp->VK->Prop:=λxs H Q=>∃p ys,xs=[.ref p]/\(AH K H p ys\/BS K H p ys)/\Q (.int ys.length) H
theorem GA:IW X (.builtin "len") (V1 K):=by subst hK;exact gz
def hW(K:Frag):List V->Hp->VK->Prop:=λxs H Q=>∃p ys,xs=[.ref p]/\(AH K H p ys\/BS K H p ys)/\∀l,H l=none->Q (.ref l) (upd H l (.lst ys))
theorem V2:IW X (.type "list") (hW K):=by subst hK;exact gC
def V3(K:Frag):List V->Hp->VK->Prop:=λxs H Q=>∃p ns,xs=[.ref p]/\AH K H p (ns.map V.int)/\Q (.int (List.sum ns)) H
theorem OP(F:X.calm=true):IW X (.builtin "sum") (V3 K):=by subst hK;exact gZ F
theorem GC(F:PE X l tl):PI X tg l (WU K tl):=by subst hK;exact fq F
theorem Q8(F:Gl X "enumerate")(hm:X.mg "enumerate"=none)(ha:PA X [e] ta)(hs:starEach [e] X.env=(false,eval e X.env)::starEach [] X.env:=by rfl) :
 PI X (.Tuple es k1 tp) (.Call (.Name "enumerate" p) [e] [] pos) (Xv K ta):=by subst hK;exact gQ F hm ha hs
theorem FX(G:X.calm=true)(h:Ow X es t)(hn:(assignEach es X.env).length=n:=by rfl)(F:(assignEach es X.env).findIdx? (·.1)=none:=by rfl) :
 PG X (.Tuple es k pos) (R1 K n t):=by subst hK;exact fg G h hn F
theorem ER{o e:Expr}{es:List Expr}{to:TE}{t:TA}{name:Str}{apos cpos:Pos}{T id:String}{r:V->List V->Hp->VK->Prop}(J:PlainAttrs T)(slot:Slot T name id)(F:typeOf (.builtin id)=pure (.type "method_descriptor"))(hm:OF X id r)(G:PE X o to)(I:PA X (e::es) t)
 (hbase:attributeBase o name X.env (eval o X.env)=eval o X.env:=by rfl)
 (hfew:((backTo cpos (starEach (e::es) X.env)).all (λx=>!x.1)&&(backToKw cpos (keywordEach [] X.env)).all (λx=>x.1.isSome)
   && decide ((e::es).length+([]:List Keyword).length+(if ([]:List Keyword).isEmpty then 0 else 1)<30))=true:=by rfl)
 (hline:(apos.endLine==cpos.line)=true:=by rfl) (hs:starEach (e::es) X.env=(false,eval e X.env)::starEach es X.env:=by rfl) (hplain:(backTo cpos (starEach es X.env)).any (·.1)=false:=by rfl) :
 PE X (.Call (.Attribute o name apos) (e::es) [] cpos) (Xn K T r to t):=by subst hK;exact gE J slot F hm G I hbase hfew hline hs hplain
end
end L2
namespace Mt
open PySem
def has(t o:Int):Bool:=decide (∀k:Nat,k<7->o/2^k%2<=t/2^k%2)
theorem hX(n k:Nat):((n:Int)/2^k%2)=((n/2^k%2:Nat):Int):=by
 lia
theorem hZ(t o:Nat)(F:o<128):(t &&& o)=o↔∀k:Nat,k<7->o/2^k%2<=t/2^k%2:=by
 constructor
 .intro h k _;have e:(t &&& o).testBit k=o.testBit k:=by rw[h]
  grind
 .intro h;apply Nat.eq_of_testBit_eq;intro k;rw[Nat.testBit_and,Ff,Ff];by_cases c:o/2^k%2=1
  .by_cases G:k<7
   .grind
   .have e:o/2^k=0:=by
     apply Nat.div_eq_of_lt;exact Bc F (Bk (show 128<=2^7 by decide) (Nat.pow_le_pow_right (by decide) (by lia)))
    rw[e]at c
    cases c
  .rw[Ak c,Gk]
def i0(ht:0<=t)(F:0<=o)(h1:o<128):decide (Builtin.bitAnd t o=o)=has t o:=by
 obtain⟨a,rfl⟩:=C1 ht;obtain⟨b,rfl⟩:=C1 F;rw[PyProof.Rows.bitAnd_pp ht F]
 grind[has,Int.toNat_natCast,hZ,hX]
open L2
def LL(cs:List Int)(t:Int):Option Nat:=cs.findIdx? λc=>has c t
def Nq:Option Nat->V
 | none=>.non
 | some i=>.int i
def i3{cs:List Int}(h:cs[i]?=some c)(hc:has c t=true)(hj:∀(j:Nat) c',j<i->cs[j]?=some c'->has c' t=false):LL cs t=some i:=by
 obtain⟨hi,e⟩:=B9.mp h;unfold LL;rw[C8]
 grind
def i4{cs:List Int}(hj:∀(j:Nat) c',j<cs.length->cs[j]?=some c'->has c' t=false):LL cs t=none:=by
 unfold LL;rw[Gx];intro c G;obtain⟨j,F,e⟩:=Ca G;exact hj j c F (by rw[A9 F,e])
end Mt
namespace L2
open PySem PySem.Spec PyProof.Rows
section
variable {X:Cx}{k:Nat}{f:Addr}{fd:FuncData}{ps:List Str}{sp:Sp}
theorem SU:∀{xs:List V}{us:List Value}{j:Nat}{u:Value},AM xs us->us[j]?=some u->∃v,xs[j]?=some v/\AR v u
 | _,_,_,_,.nil,e=>by simp at e
 | _,_,0,_,.cons r _,e=>by simp at e;subst e;exact⟨_,rfl,r⟩
 | _,_,j+1,u,.cons _ t,e=>by
   obtain⟨v,h1,h2⟩:=SU (j:=j) (u:=u) t (by simpa using e);exact⟨v,by simpa using h1,h2⟩
end
section
variable {X:Cx}(K:Frag) (hK:X.K=K)
include hK
end
section
variable {X:Cx}(K:Frag) (hK:X.K=K)
include hK
end
def sg(c:Nat):Str:=⟨#[c]⟩
def Q9(x:Str):It:=⟨λi _=>i<x.cps.size,λi H v H'=>H'=H/\∃c,x.cps[i]?=some c/\v=.str (sg c),λi _=>x.cps.size<=i⟩
def i5{P:Program}{w:World}{K:Frag}{tg:Expr}{ty:String}(it:Addr)(x:Str)(t:Tok)(F:ty="str_ascii_iterator"\/ty="str_iterator") :
 KI P w K tg (Q9 x) [it] it (λi h=>h.IsStrIter it ty x t i) where
 mem:=by simp
 obj:=λi h st b hb=>by
  obtain rfl:b=it:=by simpa using hb
  obtain⟨o,e,c,d⟩:=st;exact⟨o,e,λv z=>by rw[d]at z;cases z⟩
 keep:=λi h h' st k=>by
  obtain⟨o,e,r⟩:=st;exact⟨o,k it (by simp) o e,r⟩
 item:=by
  intro X hP hw hK J i pins s σ H E I hf st Y;subst hP hw hK;obtain⟨Z,f1,f2,f3,f4,f5⟩:=hf it (by simp);have W:∀(Q:Option Value->Shared->Prop),(∀v h' tk,SignAt x i v->h'.IsStrIter it ty x t (i+1)->(∀b o,b∉[it]->s.heap.get? b=some o->h'.get? b=some o)->Q (some v) { s with heap:=h',toks:=tk }) ->
   wpAny (model X.prog X.w) X.A (pyNext (.ref it)) Q E s:=by
   intro Q hQ;rcases F with rfl|rfl
   .exact(Walks.strAscii (prog:=X.prog) (w:=X.w) (I.ok.hd J) it x t).item i s Q E Y st hQ
   .exact(Walks.strWide (prog:=X.prog) (w:=X.w) (I.ok.hd J) it x t).item i s Q E Y st hQ
  refine W _ λv h' tk hv G kk=>?_;obtain⟨c,u,aa,rfl⟩:=hv;have I1:AF X pins σ H { s with heap:=h',toks:=tk }:=I.turned (λb o hb e=>kk b o (by simpa using hb) e) Z f1 f3 f4 f5;obtain⟨o,e,c',d⟩:=id G;exact⟨_,rfl,R3 (s:={ s with heap:=h',toks:=tk }) e c' d (by rcases F with rfl|rfl<;>decide) ⟨.str (sg c),H,I1,⟨u,rfl⟩,⟨rfl,c,aa,rfl⟩,G,λb hb=>(hf b hb).1⟩⟩
 done:=by
  intro X hP hw hK J i pins s σ H E I hf st Y;subst hP hw hK;obtain⟨Z,f1,f2,f3,f4,f5⟩:=hf it (by simp);have hi:x.cps.size<=i:=Y;rcases F with rfl|rfl
  .exact wpAny_pyNext_ascii_end (I.ok.hd J) st (by simpa using hi) λh' eb=>⟨rfl,I.turned (t':=s.toks) (λb o hb e=>eb b o hb e) Z f1 f3 f4 f5⟩
  .exact wpAny_pyNext_wide_end (I.ok.hd J) st (by simpa using hi) λh' eb=>⟨rfl,I.turned (t':=s.toks) (λb o hb e=>eb b o hb e) Z f1 f3 f4 f5⟩
 self:=λA i s Q E st h=>by
  rcases F with rfl|rfl
  .exact wpAny_pyIter_striter_ascii st h
  .exact wpAny_pyIter_striter_wide st h
section
variable {X:Cx}{tg:Expr}
def V4(tl:TE):TI:=λσ H R=>tl σ H λv H1=>∃x,v=.str x/\R (Q9 x) H1
def Qa{l:Expr}{tl:TE}(Z:PE X l tl):PI X tg l (V4 tl):=by
 intro pins s σ H R I h;refine AV (Z pins s σ H _ I h) λv F ⟨y,H1,J,W,Y⟩=>?_;obtain⟨x,rfl,q⟩:=Y;obtain⟨t,rfl⟩:=W;have fin:∀(ty:String) (G:ty="str_ascii_iterator"\/ty="str_iterator"),So X pins σ tg R (.ref F.heap.objs.size) { F with heap:=F.heap.push { cls:=.type ty,data:=.fields #[.str x t,.int 0 0] } }:=by
  intro ty G;refine⟨F.heap.objs.size,[F.heap.objs.size],_,_,H1,rfl,J.kept (t':=F.toks) λb o e=>A7 _ e,i5 _ x t G,⟨_,Ax _ rfl,rfl,rfl⟩,λb hb=>?_,q⟩;obtain rfl:b=F.heap.objs.size:=by simpa using hb
  exact J.vG (Aa _) (J.Í.fresh (Aa _))
 refine wpAny_pyIter_strU ?_;unfold strIterType;split
 .exact fin _ (.inl rfl)
 .exact fin _ (.inr rfl)
end
def i6{x:Str}{g:TG}{tb:TS}{D:DY}{σ:St}{H:Hp}(G:Nat->St->Hp->Prop)(Z:G 0 σ H)
 (hs:∀i c σ H,x.cps[i]?=some c->i<x.cps.size->G i σ H->g (.str (sg c)) σ H λJ H2=>tb { D with nx:=G (i+1),ct:=G (i+1),bk:=D.nx } J H2) (hd:∀σ H,G x.cps.size σ H->D.nx σ H) :
 ∃W:Nat->Nat->St->Hp->Prop,(∃m,W 0 m σ H)/\∀i m σ H,W i m σ H ->
  ((Q9 x).stop i H/\D.nx σ H)\/((Q9 x).go i H/\∃N:St->Hp->Prop,(∀I H',N I H'->∃Y,Y<m/\W (i+1) Y I H')/\∀v H',(Q9 x).wO i H v H'->g v σ H' λJ H2=>tb { D with nx:=N,ct:=N,bk:=D.nx } J H2):=by
 refine⟨λi m σ H=>m=x.cps.size-i/\i<=x.cps.size/\G i σ H,⟨x.cps.size,by simp,Bj _,Z⟩,?_⟩;rintro i m σ H ⟨rfl,hi,p⟩;by_cases F:i<x.cps.size
 .refine .inr ⟨F,G (i+1),λI H' p'=>⟨x.cps.size-(i+1),by lia,rfl,F,p'⟩,λv H' y=>?_⟩;obtain⟨rfl,c,hc,rfl⟩:=y;exact hs i c σ _ hc F p
 .have e:i=x.cps.size:=by lia
  subst e;exact .inl ⟨Aa _,hd σ H p⟩
def Rl{x:Str}{g:TG}{tc:TT}{te:TE}{D:Addr}{σ:St}{H:Hp}{Q:VK}(G:Nat->List V->St->Hp->Prop)(h0:G 0 [] σ (upd H D (.lst [])))
 (hs:∀i c ys σ H,x.cps[i]?=some c->i<x.cps.size->G i ys σ H->g (.str (sg c)) σ H λF W=>tc F W λb J=>if b=true then te F J (O3 D x.cps.size i G F)else OO x.cps.size i G F J)
 (hd:∀ys σ H,G x.cps.size ys σ H->Q (.ref D) H):OL (Q9 x) g tc te D Q σ H:=by
 refine⟨λi m σ H=>m=x.cps.size-i/\i<=x.cps.size/\∃ys,G i ys σ H,⟨x.cps.size,by simp,Bj _,[],h0⟩,?_⟩;rintro i m σ H ⟨rfl,hi,ys,p⟩;by_cases I:i<x.cps.size
 .refine .inr ⟨I,λv H' y=>?_⟩;obtain⟨rfl,c,Y,rfl⟩:=y;exact hs i c ys σ _ Y I p
 .have e:i=x.cps.size:=by lia
  subst e;exact .inl ⟨Aa _,hd ys σ H p⟩
section
variable {X:Cx}
def i7:PY X (λx lo hi H Q=>∃z,x=.str z/\z.length<=sizeLine/\Q (.str (Txt.slice z lo hi)) H):=by
 rintro pins s σ H x v vl vu lo hi J Q I Z hs pl W ⟨z,rfl,hz,q⟩;obtain⟨t,rfl⟩:=Z;refine⟨"str",_,F.slot_str_getitem.lookup,Fu _ _ _,?_⟩;have fin:∀(l u:Option (Int×Tok)),s.heap.IsSlice J l u none->l.map (·.1)=lo->u.map (·.1)=hi->wpAny (model X.prog X.w) X.A (getItem (.str z t) (.ref J)) (EP X pins σ Q) X.xe s:=by
  rintro l u h1 rfl rfl;exact wpAny_getItem_str_slice (l:=l) (u:=u) (st:=none) h1 rfl (post_val_or_str ⟨Bk (Txt.slice_le z _ _) hz,λt' k=>⟨.str _,H,I.tok _,⟨_,rfl⟩,q⟩⟩)
 obtain⟨o,e,c,d⟩:=hs;cases pl with
 | none =>
   cases W with
   | none=>exact fin none none ⟨o,e,c,d⟩ rfl rfl
   | int j G=>exact fin none (some (j,G)) ⟨o,e,c,d⟩ rfl rfl
 | int i Y =>
   cases W with
   | none=>exact fin (some (i,Y)) none ⟨o,e,c,d⟩ rfl rfl
   | int j G=>exact fin (some (i,Y)) (some (j,G)) ⟨o,e,c,d⟩ rfl rfl
theorem XH:∀{ys:List Str}{us:List Value},AM (ys.map V.str) us->StrsAre us ys
 | [],_,r=>by cases r;exact .nil
 | y::ys,_,r=>by
   cases r with
   | cons G F =>
     obtain⟨t,rfl⟩:=G;exact .cons y t (XH F)
def XI(K:Frag):V->List V->Hp->VK->Prop:=λx xs H Q=>∃(z:Str) (p:Addr) (ys:List Str),x=.str z/\xs=[.ref p]/\AH K H p (ys.map V.str)/\(ys.map (·.length)).sum+ys.length*z.length<=16777216/\Q (.str (Txt.join z ys)) H
def i8:OF X "str.join" (XI X.K):=by
 rintro pins s σ H x xs v us Q I G rs ⟨z,p,ys,rfl,rfl,hq,hb,q⟩;obtain⟨t,rfl⟩:=G;obtain⟨u,rfl,J⟩:=Kk rs;cases J;obtain⟨its,F,pl,hz⟩:=I.list hq;exact join_list pl.isList (by simpa using XH F) hb λt' k=>⟨.str _,H,I.tok _,⟨_,rfl⟩,q⟩
def Rm(K:Frag):List V->Hp->VK->Prop:=λxs H Q=>∃(p:Addr) (bs:List Bool),xs=[.ref p]/\AH K H p (bs.map V.bl)/\Q (.bl (bs.all id)) H
def i9(hc:X.calm=true):IW X (.builtin "all") (Rm X.K):=by
 rintro pins s σ H xs us Q I r ⟨p,bs,rfl,hq,q⟩;obtain⟨u,rfl,ru⟩:=Kk r;cases ru;obtain⟨its,rv,pl,hz⟩:=I.list hq;have hl:its.length=bs.length:=by rw[<-rv.length,A8]
 obtain⟨ol,F,W⟩:=id pl.isList;have Y:=Am F;refine call_all_walk (Ec pl.isList ⟨s.heap.objs.size,_,_,_,_,_,λi=>bs.getD i false,rfl,Walks.list (A:=X.A.in1) (I.ok.hd hc) s.heap.objs.size p (B8 Y) its.toArray,⟨⟨_,Ax _ rfl,rfl,rfl⟩,ol,A7 _ F,W⟩,λi v s' Q' E' hv J=>?_,λh' tk hk=>?_⟩)
 .have Z:its[i]?=some v:=by simpa using hv
  obtain⟨y,G,ry⟩:=SU rv Z;rw[Ap]at G
  cases e:bs[i]? with
  | none=>rw[e]at G;cases G
  | some b =>
    rw[e]at G
    have aa:=Av G;subst aa;cases ry;have J:Q' (bs.getD i false) s':=J;rw[Ba,e]at J
    exact C2 J
 .have e:(List.range its.toArray.size).all (λi=>bs.getD i false)=bs.all id:=by
   rw[B1,hl,Cy,Bf,Bf]
   grind[List.getElem_of_mem,List.mem_range.mpr,List.getD_eq_getElem?_getD,List.getElem?_eq_getElem,List.mem_range.mp,List.getElem_mem]
  rw[e];exact⟨.bl _,H,I.kept (λb o e=>hk b o (by simp;exact B8 (Am e)) (A7 _ e)),rfl,q⟩
end
section
variable {X:Cx}(K:Frag) (hK:X.K=K)
include hK
theorem Nr(F:X.calm=true):IW X (.builtin "all") (Rm K):=by subst hK;exact i9 F
theorem Qb:OF X "str.join" (XI K):=by subst hK;exact i8
end
end L2
namespace Cs
open PySem L2
structure BN where
 s:Str
 w:Int
 t:Int
 n:Int
abbrev JN(r:BN):List V:=[.str r.s,.int r.w,.int r.t,.int r.n]
def HP(H:Hp)(v:V)(r:BN):Prop:=∃a,v=.ref a/\H a=some (.tup (JN r))
def HP.same(h:HP H v r)(s:AD H H'):HP H' v r:=let ⟨a,e,h⟩:=h;⟨a,e,s _ _ h⟩
def KA(h:Paired (HP H) xs rs)(s:AD H H'):Paired (HP H') xs rs:=Paired.à h λ_ _ z=>z.same s
def SV(h:Paired (HP H) xs rs)(F:H l=some ys)(hn:∀z,ys≠.tup z):Paired (HP (upd H l o)) xs rs :=
 Paired.à h λx p ⟨t,e,ht⟩=>⟨t,e,by rw[BE (Kh ht F λz=>hn _ z.symm)];exact ht⟩
def Nt(h:Paired (HP H) xs rs):xs.length=rs.length:=B4 h
theorem IG{α β:Type}{F:α->β->Prop}:∀{xs:List α}{ys:List β}{i:Nat}{x:α},Paired F xs ys->xs[i]?=some x->∃y,ys[i]?=some y/\F x y
 | _,_,_,_,.nil,e=>by simp at e
 | _,_,0,_,.cons r _,e=>by simp at e;subst e;exact⟨_,rfl,r⟩
 | _,_,i+1,x,.cons _ t,e=>by
   obtain⟨p,h1,h2⟩:=IG (i:=i) (x:=x) t (by simpa using e);exact⟨p,by simpa using h1,h2⟩
theorem O4{α β:Type}{F:α->β->Prop}:∀{xs:List α}{ys:List β}{i:Nat}{y:β},Paired F xs ys->ys[i]?=some y->∃x,xs[i]?=some x/\F x y
 | _,_,_,_,.nil,e=>by simp at e
 | _,_,0,_,.cons r _,e=>by simp at e;subst e;exact⟨_,rfl,r⟩
 | _,_,i+1,x,.cons _ t,e=>by
   obtain⟨p,h1,h2⟩:=O4 (i:=i) (y:=x) t (by simpa using e);exact⟨p,by simpa using h1,h2⟩
def JG(K:Frag)(H:Hp)(l:Addr)(rs:List BN):Prop:=∃xs,AH K H l xs/\Paired (HP H) xs rs
def JG.same(h:JG K H l rs)(s:AD H H'):JG K H' l rs:=let ⟨xs,h1,h2⟩:=h;⟨xs,s.seq h1,KA h2 s⟩
def DW(rs:List BN)(x:Str):Option Nat:=rs.findIdx? λr=>decide (r.s=x)
def ia(h:rs[i]?=some r)(hx:r.s=x)(hj:∀(j:Nat) r',j<i->rs[j]?=some r'->r'.s≠x):DW rs x=some i:=by
 obtain⟨hi,e⟩:=B9.mp h;unfold DW;rw[C8]
 grind
def ic(hj:∀(j:Nat) r,j<rs.length->rs[j]?=some r->r.s≠x):DW rs x=none:=by
 unfold DW;rw[Gx];intro r G;obtain⟨j,F,e⟩:=Ca G;exact Ak (hj j r F (by rw[A9 F,e]))
def SW(h:DW rs x=some i):i<rs.length:=by
 unfold DW at h;obtain⟨hi,_⟩:=C8.mp h;exact hi
def EV:decide (V.str x=V.str y)=decide (x=y):=by
 lia
def FG:List Nat:="abcdefghijklmnopqrstuvwxyz.,-'".toList.map Char.toNat
def O5(rs:List BN)(x:Str):Bool:=!decide (x="")&&x.cps.toList.all λc=>(DW rs (sg c)).isSome
def Rn(rs:List BN)(x:Str):Int:=match DW rs x with
 | some i=>match rs[i]? with
   | some r=>r.w
   | none=>0
 | none=>0
def L8(rs:List BN)(x:Str):Int:=List.sum (x.cps.toList.map λc=>Rn rs (sg c))
def ie(h:DW rs x=some k)(F:k<rs.length):Rn rs x=rs[k].w:=by
 unfold Rn
 grind
def ig(o:Option Nat):(!decide (Mt.Nq o=V.non))=o.isSome:=by
 cases o with
 | none=>rfl
 | some i=>rfl
def all_map{α:Type}(f:α->Bool)(l:List α):(l.map f).all id=l.all f:=by
 rw[Jc];rfl
def ij(zs:List Int)(lo hi:Option Int):∃ms:List Int,EJ (zs.map V.int) lo hi=ms.map V.int/\ms.length<=zs.length:=by
 unfold EJ;rw[<-List.map_drop,<-List.map_take];exact⟨_,rfl,by rw[Bb,Ci];lia⟩
end Cs
namespace L2
open PySem PySem.Spec PyProof.Rows
section
variable {X:Cx}
def XJ(z:Int):Value->Bool
 | .int i _=>i==z
 | _=>false
end
end L2
namespace Mt
open PySem L2
def DN:Option Int->V
 | none=>.non
 | some i=>.int i
end Mt
namespace L2
open PySem PySem.Spec PyProof.Rows
section
variable {κ:Type} [DecidableEq κ]
def CV(F:List (κ×V))(k:κ):Option V:=(F.find? λG=>decide (G.1=k)).map (·.2)
def EE(F:List (κ×V))(k:κ)(v:V):List (κ×V) :=
 if (F.any λG=>decide (G.1=k))=true then F.map (λG=>if G.1=k then(G.1,v)else G)else F++[(k,v)]
def Mg{p:κ×V}{r:List (κ×V)}{k:κ}(e:p.1=k):CV (p::r) k=some p.2:=by simp[CV,Cz,e]
def Mm{p:κ×V}{r:List (κ×V)}{k:κ}(e:¬p.1=k):CV (p::r) k=CV r k:=by simp[CV,Cz,e]
theorem SX(k:κ):∀F:List (κ×V),(F.any λG=>decide (G.1=k))=(CV F k).isSome
 | []=>rfl
 | p::r=>by
   rw[Df];by_cases e:p.1=k
   .simp only[Mg e,Ac e,Bool.true_or,Gm]
   .rw[Mm e,Ak e,Bool.false_or];exact SX k r
theorem XM(k j:κ)(y:V):∀F:List (κ×V),CV (F.map λG=>if G.1=k then(G.1,y)else G) j=(CV F j).map λx=>if j=k then y else x
 | []=>rfl
 | p::r=>by
   have ih:=XM k j y r;rw[Bl];by_cases h:p.1=k
   .rw[Au h];by_cases e:p.1=j
    .rw[Mg (p:=(p.1,y)) e,Mg e,Ji,Au (e.symm.trans h)]
    .rw[Mm (p:=(p.1,y)) e,Mm e,ih]
   .rw[As h];by_cases e:p.1=j
    .rw[Mg (p:=p) e,Mg e,Ji,As (λz=>h (e.trans z))]
    .rw[Mm (p:=p) e,Mm e,ih]
theorem XN(k j:κ)(y:V):∀F:List (κ×V),CV F k=none->CV (F++[(k,y)]) j=if j=k then some y else CV F j
 | [],_=>by
   by_cases e:k=j
   .rw[Au e.symm];exact Mg (p:=(k,y)) e
   .rw[As (λz=>e z.symm)];exact Mm (p:=(k,y)) e
 | p::r,hn=>by
   rw[List.cons_append];have G:¬p.1=k:=λz=>by rw[Mg z]at hn;cases hn
   rw[Mm G]at hn
   have ih:=XN k j y r hn;by_cases e:p.1=j
   .rw[Mg e,Mg e,As (λz=>G (e.trans z))]
   .rw[Mm e,Mm e,ih]
def V5(F:List (κ×V))(k j:κ)(y:V):CV (EE F k y) j=if j=k then some y else CV F j:=by
 unfold EE;by_cases a:(F.any λG=>decide (G.1=k))=true
 .rw[Au a,XM];rw[SX]at a
  by_cases e:j=k
  .simp_all[Dw.mp,Ji]
  simp_all
 .rw[As a];refine XN k j y F ?_;rw[SX]at a
  simp_all
def SY(F:List (κ×V))(k:κ)(v:V):(EE F k v).length<=F.length+1:=by
 unfold EE
 grind
def EC.Œ{u:Option Value}(r:EC o u):o.isSome=u.isSome:=by
 cases o with
 | none=>cases u with
   | none=>rfl
   | some _=>exact(show False from r).elim
 | some _=>cases u with
   | none=>exact(show False from r).elim
   | some _=>rfl
def EC.getD{u:Option Value}(r:EC o u)(F:AR d d'):AR (o.getD d) (u.getD d'):=by
 cases o with
 | none=>cases u with
   | none=>exact F
   | some _=>exact(show False from r).elim
 | some _=>cases u with
   | none=>exact(show False from r).elim
   | some _=>exact r
def KV.val{F:List (κ×V)}{vs:List (κ×Value)}(r:KV F vs)(k:κ):EC (CV F k) (valueAt vs k):=by
 unfold KV at r;induction r with
 | nil=>exact True.intro
 | @cons p q ps qs h t ih =>
   obtain⟨h1,h2⟩:=h;by_cases e:p.1=k
   .have G:=h1.symm.trans e;have b:valueAt (q::qs) k=some q.2:=by simp[valueAt,Cz,G]
    rw[Mg e,b];exact h2
   .have G:¬q.1=k:=λz=>e (h1.trans z)
    have b:valueAt (q::qs) k=valueAt qs k:=by simp[valueAt,Cz,G]
    rw[Mm e,b];exact ih
def KV.any{F:List (κ×V)}{vs:List (κ×Value)}(r:KV F vs)(k:κ):(F.any λG=>decide (G.1=k))=vs.any λG=>decide (G.1=k):=by
 unfold KV at r;induction r with
 | nil=>rfl
 | cons h t ih=>rw[Df,Df,ih,h.1]
def KV.xr(r:KV kvs vs)(k:κ){u:Value}(G:AR y u) :
 KV (kvs.map λF=>if F.1=k then(F.1,y)else F) (vs.map λF=>if F.1=k then(F.1,u)else F):=by
 unfold KV at r⊢;induction r with
 | nil=>exact .nil
 | @cons p q ps qs h t ih =>
   rw[Bl,Bl];refine .cons ?_ ih
   lia
def KV.put(r:KV kvs vs)(k:κ){u:Value}(F:AR y u):KV (EE kvs k y) (stored vs k u):=by
 unfold EE stored;rw[r.any k];by_cases e:(vs.any λG=>decide (G.1=k))=true
 .rw[Au e,Au e];exact r.xr k F
 .rw[As e,As e];exact By r ⟨rfl,F⟩
def KV.length{F:List (κ×V)}{vs:List (κ×Value)}(r:KV F vs):F.length=vs.length:=B4 r
end
def Qc{u:Value}(r:AR (kV k) u):(Kg P w).is k u=true:=by
 cases k with
 | inl i=>obtain⟨t,e⟩:=(show ∃t,u=Value.int i t from r);subst e;exact eK P w i t
 | inr x=>obtain⟨t,e⟩:=(show ∃t,u=Value.str x t from r);subst e;exact eL P w x t
theorem XR:∀{ks:List DD}{us:List Value},AM (ks.map kV) us->ItemsAre (Kg P w) ks us
 | [],_,r=>by rw[J8]at r;cases r;exact .nil
 | k::ks,_,r=>by
   rw[Bl]at r
   cases r with
   | cons h t=>exact .cons (Qc h) (XR t)
abbrev KT(H:Hp):List (List DD×V)->List (List DD×Addr×Value)->Prop:=Paired λp q=>p.1=q.1/\H q.2.1=some (.tup (p.1.map kV))/\AR p.2 q.2.2
def KT.val{H:Hp}{F:List (List DD×V)}{xs:List (List DD×Addr×Value)}(r:KT H F xs)(k:List DD):EC (CV F k) ((atKey xs k).map (·.2)):=by
 induction r with
 | nil=>exact True.intro
 | @cons p q ps qs h t ih =>
   obtain⟨h1,_,h2⟩:=h;by_cases e:p.1=k
   .have G:=h1.symm.trans e;have b:atKey (q::qs) k=some q.2:=by simp[atKey,Cz,G]
    rw[Mg e,b];exact h2
   .have G:¬q.1=k:=λz=>e (h1.trans z)
    have b:atKey (q::qs) k=atKey qs k:=by simp[atKey,Cz,G]
    rw[Mm e,b];exact ih
def KT.xr(r:KT H kvs xs)(k:List DD){u:Value}(I:AR y u) :
 KT H (kvs.map λF=>if F.1=k then(F.1,y)else F) (xs.map (putAt k u)):=by
 induction r with
 | nil=>exact .nil
 | @cons p q ps qs h t ih =>
   rw[Bl,Bl];refine .cons ?_ ih;obtain⟨h1,h2,G⟩:=h;unfold putAt
   lia
def KT.put(r:KT H kvs xs)(k:List DD){u:Value}(hb:H b=some (.tup (k.map kV)))(ry:AR y u) :
 KT H (EE kvs k y) (storedH xs k b u):=by
 have e:(kvs.any λF=>decide (F.1=k))=(atKey xs k).isSome:=by
  rw[SX,(r.val k).Œ,Fg]
 unfold EE storedH;rw[e];by_cases q:(atKey xs k).isSome=true
 .rw[Au q,Au q];exact r.xr k ry
 .rw[As q,As q];exact By r ⟨rfl,hb,ry⟩
def KT.keeps(r:KT H kvs xs)(ht:∀b ys,H b=some (.tup ys)->H' b=some (.tup ys)):KT H' kvs xs :=
 Paired.à r λ_ _ z=>⟨z.1,ht _ _ z.2.1,z.2.2⟩
section
variable {P:Program}{w:World}{H:Hp}{h:Heap}{a:Addr}
def XS{u:HO}(ok:FP P w H h)(e:Rd H a u):IV P w H h a u:=e.ok ok
def Qd(ok:FP P w H h)(e:Rd H a (.dK kvs)):kvs.length<=sizeLine/\(a==sysModules)=false/\∃vs,KV kvs vs/\h.DictOf (Kg P w) a vs :=
 show IV P w H h a (.dK kvs)from XS ok e
def XT(ok:FP P w H h)(e:H a=some (.dK kvs)):kvs.length<=sizeLine/\(a==sysModules)=false/\∃vs,KV kvs vs/\h.DictOf (Kg P w) a vs:=Qd ok (.inl e)
theorem Ro(ok:FP P w H h)(e:H a=some (.tup (ks.map kV))):(tupleKind (Kg P w)).is h ks a:=by
 obtain⟨_,its,r,o,h1,h2,n,F⟩:=(show IV P w H h a (.tup (ks.map kV))from ok a _ e)
 exact EB o its.toArray n (BP h1 h2 F (by simpa using XR r))
def Qe(ok:FP P w H h)(e:Rd H a (.dT kvs)):kvs.length<=sizeLine/\(a==sysModules)=false /\
 ∃xs,KT H kvs xs/\h.DictOfH (tupleKind (Kg P w)) a xs:=by
 obtain⟨z,y,xs,r,o,es,W,h1,h2,J,G,I⟩:=(XS ok e)
 refine⟨z,y,xs,r,o,es,W,h1,h2,J,G,λx F=>?_,I⟩;have all:∀{l:List (List DD×V)}{m:List (List DD×Addr×Value)},KT H l m->∀x∈m,(tupleKind (Kg P w)).is h x.1 x.2.1:=by
  intro l m q;induction q with
  | nil=>intro x F;exact nomatch F
  | @cons p q ps qs hq t ih =>
    grind[List.mem_cons.mp,Ro]
 exact all r x F
def ik(ok:FP P w H h)(e:H a=some (.dT kvs)):kvs.length<=sizeLine/\(a==sysModules)=false /\
 ∃xs,KT H kvs xs/\h.DictOfH (tupleKind (Kg P w)) a xs:=Qe ok (.inl e)
end
def GD(H:Hp)(a:Addr)(y:V)(r:Option V):Prop :=
 (∃F k,Rd H a (.dK F)/\y=kV k/\r=CV F k)\/∃F k b,Rd H a (.dT F)/\y=.ref b/\H b=some (.tup (k.map kV))/\r=CV F k
def Mo(H:Hp)(a:Addr)(y v:V)(H':Hp):Prop :=
 (∃F k,H a=some (.dK F)/\y=kV k/\F.length<sizeLine/\H'=upd H a (.dK (EE F k v))) \/
 ∃F k b,H a=some (.dT F)/\y=.ref b/\H b=some (.tup (k.map kV))/\F.length<sizeLine/\H'=upd H a (.dT (EE F k v))
def GD.k{H:Hp}{a:Addr}{F:List (DD×V)}{k:DD}(e:H a=some (.dK F)):GD H a (kV k) (CV F k):=.inl ⟨F,k,.inl e,rfl,rfl⟩
def GD.t{H:Hp}{a b:Addr}{F:List (List DD×V)}{k:List DD}(e:H a=some (.dT F))(eb:H b=some (.tup (k.map kV))):GD H a (.ref b) (CV F k):=.inr ⟨F,k,b,.inl e,rfl,eb,rfl⟩
def Mo.t{H:Hp}{a b:Addr}{F:List (List DD×V)}{k:List DD}{v:V}(e:H a=some (.dT F))(eb:H b=some (.tup (k.map kV)))(hl:F.length<sizeLine) :
 Mo H a (.ref b) v (upd H a (.dT (EE F k v))):=.inr ⟨F,k,b,e,rfl,eb,hl,rfl⟩
section
variable {X:Cx}{pins:List (Addr×Obj)}{σ:St}{H:Hp}{s:Shared}{a:Addr}{y v:V}{u r:Value}{o:Option V}{A:Around}{E:Value->Shared->Prop}
def AF.big(I:AF X pins σ H s):sysModules<s.heap.objs.size:=by
 have h:=(I.mod.glob.keeps I.bk).lt;exact Gb (by decide) h
def ip(hu:A.units+1<cLine)(I:AF X pins σ H s)(g:GD H a y (some v))(ry:AR y u)(h:∀J s',AF X pins σ H s'->AR v J->Q J s') :
 wpAny (model X.prog X.w) A (getItem (.ref a) u) Q E s:=by
 rcases g with⟨W,k,e,Z,l⟩|⟨W,k,b,e,Z,eb,l⟩
 .subst Z;obtain⟨z,hd,vs,G,dd⟩:=Qd I.Í e;obtain⟨J,hw,F⟩:=EC.some_of (v:=v) (o:=valueAt vs k) (by rw[l];exact G.val k);exact wpAny_getItem_of (Qc ry) dd.mapOf hw (h J _ (I.tok _) F)
 .subst Z;cases (ry);obtain⟨z,hd,xs,G,dd⟩:=Qe I.Í e;obtain⟨J,hw,F⟩:=EC.some_of (v:=v) (o:=(atKey xs k).map (·.2)) (by rw[l];exact G.val k);obtain⟨p,hp,Y⟩:=Bi.mp hw;refine wpAny_getItem_heap (F5 hu) (Ro I.Í eb) dd hp ?_;rw[Y];exact h J _ (I.tok _) F
def V6(Z:A.units+1<cLine)(I:AF X pins σ H s)(g:GD H a y o)(W:AR y u)(h:∀s',AF X pins σ H s'->Q (.bool o.isSome) s') :
 wpAny (model X.prog X.w) A (compareOp .In u (.ref a)) Q E s:=by
 rcases g with⟨G,k,e,J,l⟩|⟨G,k,b,e,J,Y,l⟩
 .subst J;obtain⟨z,hd,vs,F,dd⟩:=Qd I.Í e;refine wpAny_in_of (Qc W) hd dd.mapOf ?_;rw[<-(F.val k).Œ,<-l];exact h _ (I.tok _)
 .subst J;cases (show u=Value.ref b from W);obtain⟨z,hd,xs,F,dd⟩:=Qe I.Í e;refine wpAny_in_heap (F5 Z) (Ro I.Í Y) hd dd ?_;have q:=(F.val k).Œ;rw[Fg]at q
  rw[<-q,<-l];exact h _ (I.tok _)
def V7(I:AF X pins σ H s)(J:QU (H a))(G:Heap.SameBut a s.heap h')(F:∃q,h'.get? a=some q)(new:IV X.prog X.w (upd H a ob) h' a ob) :
 AF X pins σ (upd H a ob) { s with heap:=h',toks:=t' } :=
 I.write (x:=a) (e:=a) J (.inl rfl) (λb q hb z=>(G.2 b hb).trans z) F new
def XU(z:kvs.length<=sizeLine)(hd:(a==sysModules)=false)(F:KV kvs vs)(dd:h'.DictOf (Kg P w) a vs) :
 IV P w H' h' a (.dK kvs):=⟨z,hd,vs,F,dd⟩
def iq(hu:A.units+1<cLine)(I:AF X pins σ H s)(g:Mo H a y v H')(ry:AR y u)(rv:AR v r)(h:∀s',AF X pins σ H' s'->Q () s') :
 wpAny (model X.prog X.w) A (setItem (.ref a) u r) Q E s:=by
 rcases g with⟨F,k,e,ey,l,W⟩|⟨F,k,b,e,ey,eb,l,W⟩
 .subst ey W;obtain⟨z,hd,vs,G,dd⟩:=XT I.Í e;have hz:vs.length<=sizeLine:=by rw[<-G.length];exact z
  have Y:(EE F k v).length<=sizeLine:=by have:=SY F k v;lia
  refine wpAny_setItem_pairs (hsz:=hz) (Qc ry) dd λh' J Z=>h _ ?_
  have he:∃q,h'.get? a=some q:=let ⟨q,_,_,hq,_⟩:=J;⟨q,hq⟩
  exact V7 I (by rw[e];exact True.intro) Z he (XU Y hd (G.put k rv) J)
 .subst ey W;cases (ry);obtain⟨z,hd,xs,G,dd⟩:=ik I.Í e;have hz:xs.length<=sizeLine:=by rw[<-B4 G];exact z
  have Y:(EE F k v).length<=sizeLine:=by have:=SY F k v;lia
  refine wpAny_setItem_heap (hsz:=hz) (F5 hu) (Ro I.Í eb) dd λh' J Z=>h _ ?_
  revert J;refine FT λq es ep=>GH λhq h2 h3 h4 _ h5=>?_;refine V7 I (by rw[e];exact True.intro) Z ⟨q,hq⟩ ⟨Y,hd,_,(G.put k eb rv).keeps λc ys ec=>?_,q,es,ep,hq,h2,h3,h4,h5⟩;rw[BE (Kh ec e (λz=>nomatch z))];exact ec
end
def Rp(i:Expr):Prop:=∀G F,subscripted i false G F=operate [G,F] (getItem G F)
def ir{prog:Program}{w:World}{A:Around}{E:Value->Shared->Prop}{s:Shared}{env:Env}{value slice:Expr}{pos:Pos}{T id:String}{Q:Value->Shared->Prop}
 (hl:typeLookup (.type T) "__getitem__"=pure (some (.builtin id))) (hs:Rp slice)
 (h:wpAny (model prog w) A (eval value env) (λo J=>wpAny (model prog w) A (eval slice env) (λi F=>F.TypeIs o T/\wpAny (model prog w) A (getItem o i) Q E F) E J) E s) :
 wpAny (model prog w) A (eval (.Subscript value slice pos) env) Q E s:=by
 refine Subscript_ (Bv h (λo J W=>Bv W (λi F G=>?_) λ_ _ x=>x) λ_ _ x=>x);obtain⟨Z,G⟩:=G;unfold subscriptTail;refine A6 ?_;rw[getitemInPython_of_ne Z.not_modules];refine A6 (G5 Z hl ?_);have fin:wpAny (model prog w) A (subscripted slice false o i) (λr I=>wpAny (model prog w) A (letTemporaryGo value o r >>= λ_=>pure r) Q E I) E F:=by
  rw[hs o i];exact wpAny_operating (Bv G (λr I Y=>A6 (wpAny_letTemporaryGo (Ab Y))) λ_ _ x=>x)
 first
  | exact Ab (A6 fin)
  | exact A6 (Ab (A6 fin))
  | exact A6 fin
def iu(I:AF X pins σ H s)(g:GD H a y o):s.TypeIs (.ref a) "dict":=by
 rcases g with⟨F,k,e,_,_⟩|⟨F,k,b,e,_,_,_⟩
 .obtain⟨_,_,vs,_,dd⟩:=Qd I.Í e;exact dd.typeIs
 .obtain⟨_,_,xs,_,dd⟩:=Qe I.Í e;exact dd.typeIs
def iw(td ty:TE):TE:=λσ H Q=>td σ H λx H1=>ty σ H1 λy H2=>∃a v,x=.ref a/\GD H2 a y (some v)/\Q v H2
def V8(ty td:TE):TE:=λσ H Q=>ty σ H λy H1=>td σ H1 λx H2=>∃a o,x=.ref a/\GD H2 a y o/\Q (.bl o.isSome) H2
def ix(td ty tv:TE):TS:=λD σ H=>tv σ H λv H1=>td σ H1 λx H2=>ty σ H2 λy G=>∃a F,x=.ref a/\Mo G a y v F/\D.nx σ F
section
variable {X:Cx}{o i e value:Expr}{pos pos' tpos:Pos}{td ty tv:TE}
def iy(hu:X.A.units+1<cLine)(ho:PE X o td)(hi:PE X i ty)(hs:Rp i):PE X (.Subscript o i pos) (iw td ty):=by
 intro pins s σ H Q I h;refine ir PySem.F.slot_dict_getitem.lookup hs (AV (ho pins s σ H _ I h) λu s1 ⟨x,H1,Y,rx,q1⟩=>AV (hi pins s1 σ H1 _ Y q1) λiv s2 J=>?_);obtain⟨y,H2,W,ry,a,v,ex,g,q2⟩:=J;subst ex;obtain rfl:u=Value.ref a:=rx;exact⟨iu W g,ip hu W g ry λw' s3 Z G=>⟨v,H2,Z,G,q2⟩⟩
def XW(hu:X.A.units+1<cLine)(hi:PE X i ty)(Z:PE X o td):PC X .In i o (V8 ty td):=by
 intro pins s σ H Q I h;refine AV (hi pins s σ H _ I h) λiv s1 ⟨y,H1,G,ry,W⟩=>AV (Z pins s1 σ H1 _ G W) λu s2 F=>?_;obtain⟨x,H2,Y,rx,a,ov,ex,g,q2⟩:=F;subst ex;obtain rfl:u=Value.ref a:=rx;exact V6 hu Y g ry λs3 J=>⟨.bl ov.isSome,H2,J,rfl,q2⟩
def iz(hu:X.A.units+1<cLine)(ho:PE X o td)(hi:PE X i ty)(hv:PE X value tv)(hs:swapsWith value (some (.Subscript o i pos')) pos.line X.env=pure false) :
 PS X (.Assign [.Subscript o i pos'] value pos) (ix td ty tv):=by
 intro pins s σ H D I h;refine wpAny_Assign_Subscript (AV (hv pins s σ H _ I h) λr s1 ⟨v,H1,J,rv,q1⟩=>AV (ho pins s1 σ H1 _ J q1) λu Z ⟨x,H2,I2,rx,q2⟩=>AV (hi pins Z σ H2 _ I2 q2) λiv s3 F=>?_) hs;obtain⟨y,H3,W,ry,a,Y,ex,g,q3⟩:=F;subst ex;obtain rfl:u=Value.ref a:=rx;exact iq hu W g ry rv λs4 G=>⟨σ,Y,G,q3⟩
end
def iA(h:Heap)(hb:sysModules<h.objs.size):IV P w H (h.push { cls:=.type "dict",data:=.dict #[] }) h.objs.size (.dK []) :=
 ⟨Bj _,Cv.mpr (Cc (B8 hb)),[],.nil,Heap.DictOf.new h⟩
def iB(h:Heap)(hb:sysModules<h.objs.size):IV P w H (h.push { cls:=.type "dict",data:=.dict #[] }) h.objs.size (.dT []) :=
 ⟨Bj _,Cv.mpr (Cc (B8 hb)),[],.nil,_,#[],0,Ax _ rfl,⟨rfl,rfl,rfl⟩,rfl,rfl,Fh⟩
def iC:TE:=λ_ H Q=>∀p,H p=none->Q (.ref p) (upd H p (.dT []))
section
variable {X:Cx}{pos:Pos}
def iD:PE X (.Dict [] [] pos) iC:=λpins s σ H Q I h =>
 wpAny_Dict_empty ⟨.ref s.heap.objs.size,_,I.laid (a:=s.heap.objs.size) (o:=.dT []) (t':=s.toks) (λ_ _ q=>A7 _ q) (Aa _) (iB s.heap I.big),rfl,h _ (I.Í.fresh (Aa _))⟩
end
def V9:List (TE×TE)->St->Hp->(List (V×V)->Hp->Prop)->Prop
 | [],_,H,Q=>Q [] H
 | (tk,tv)::r,σ,H,Q=>tk σ H λx H1=>tv σ H1 λy H2=>V9 r σ H2 λps F=>Q ((x,y)::ps) F
abbrev VV:List (V×V)->List (Value×Value)->Prop:=Paired λp q=>AR p.1 q.1/\AR p.2 q.2
def SZ(X:Cx)(pos:Pos)(keys:List (Option Expr))(F:List Expr)(G:List (TE×TE)):Prop :=
 ∀(pins:List (Addr×Obj)) (s:Shared) (σ:St) (H:Hp) (Q:List (V×V)->Hp->Prop),AF X pins σ H s->V9 G σ H Q ->
  wpAny (model X.prog X.w) X.A (evalPairs (pairTrees keys F X.env pos)) (λvs s'=>∃ps H',AF X pins σ H' s'/\VV ps vs/\Q ps H') X.xe s
def iE:SZ X pos [] [] []:=λpins s σ H Q I h=>pairTrees_nil_walk ⟨[],H,I,.nil,h⟩
def iF(Y:PE X k tk)(hv:PE X v tv)(hr:SZ X pos ks vs trs) :
 SZ X pos (some k::ks) (v::vs) ((tk,tv)::trs):=λpins s σ H Q I h =>
 pairTrees_cons_walk (AV (Y pins s σ H _ I h) λu s1 ⟨x,H1,G,rx,q1⟩=>AV (hv pins s1 σ H1 _ G q1) λw2 Z ⟨y,H2,I2,ry,q2⟩ =>
  AV (hr pins Z σ H2 _ I2 q2) λws s3 ⟨ps,J,W,F,q3⟩=>⟨(x,y)::ps,J,W,.cons ⟨rx,ry⟩ F,q3⟩)
def DZ(G F:List (DD×V)):List (DD×V):=F.foldl (λI J=>EE I J.1 J.2) G
def KV.merge:∀{F:List (DD×V)}{rs:List (DD×Value)}{G:List (DD×V)}{vs:List (DD×Value)},KV F rs->KV G vs->KV (DZ G F) (merged vs rs):=by
 intro F rs G vs r;unfold KV at r;induction r generalizing G vs with
 | nil=>intro q;exact q
 | @cons p q ps qs h t ih =>
   intro I;have e:KV (EE G p.1 p.2) (stored vs q.1 q.2):=by
    have:=I.put p.1 h.2;rw[<-h.1];exact this
   exact ih e
theorem XX:∀(G F:List (DD×V)),(DZ F G).length<=F.length+G.length
 | [],F=>by show F.length<=F.length+0;lia
 | p::r,F=>by
   have h1:=XX r (EE F p.1 p.2);have h2:=SY F p.1 p.2;show(DZ (EE F p.1 p.2) r).length<=_;rw[Bw];lia
theorem XY:∀{F:List (DD×V)}{ws:List (Value×Value)},VV (F.map λG=>(kV G.1,G.2)) ws->∃rs,Carries (Kg P w) ws rs/\KV F rs
 | [],_,r=>by rw[J8]at r;cases r;exact⟨[],True.intro,.nil⟩
 | p::F,_,r=>by
   rw[Bl]at r
   cases r with
   | @cons a b as bs h t =>
     obtain⟨rs,c,q⟩:=XY (P:=P) (w:=w) t;obtain⟨b1,I⟩:=b;exact⟨(p.1,I)::rs,⟨Qc h.1,rfl,c⟩,.cons ⟨rfl,h.2⟩ q⟩
def iG(G:List (TE×TE)):TE:=λσ H Q=>∀p,H p=none->V9 G σ (upd H p (.dK [])) λps H2=>H2 p=some (.dK [])/\∃F:List (DD×V),ps=F.map (λI=>(kV I.1,I.2))/\F.length<=15/\Q (.ref p) (upd H2 p (.dK (DZ [] F)))
def iH(h:SZ X pos keys values trs)(G:keys.all (·.isSome)=true)(hl:keys.length=values.length)(h0:keys≠[])(h15:keys.length<=15):PE X (.Dict keys values pos) (iG trs):=by
 intro pins s σ H Q I q;refine wpAny_Dict_walk (knd:=Kg X.prog X.w) G hl h0 h15 (AV (h pins _ σ _ _ (I.laid (a:=s.heap.objs.size) (o:=.dK []) (h':=s.heap.push { cls:=.type "dict",data:=.dict #[] }) (t':=s.toks) (λ_ _ q=>A7 _ q) (Aa _) (iA s.heap I.big)) (q _ (I.Í.fresh (Aa s.heap.objs.size)))) λws s2 ⟨ps,H2,Y,W,e,F,ep,lk,q2⟩=>?_);subst ep;obtain⟨rs,c,rk⟩:=XY (P:=X.prog) (w:=X.w) W;obtain⟨z,hd,aa,Z,dd⟩:=XT Y.Í e;cases Z;refine⟨rs,c,dd,λh' J hs=>⟨.ref s.heap.objs.size,_,?_,rfl,q2⟩⟩;have hz:(DZ [] F).length<=sizeLine:=by
  have h1:=XX F [];rw[List.length_nil]at h1
  rw[Eg];lia
 have he:∃q,h'.get? s.heap.objs.size=some q:=let ⟨q,_,_,hq,_⟩:=J;⟨q,hq⟩
 exact V7 Y (by rw[e];exact True.intro) hs he (XU hz hd (rk.merge .nil) J)
structure M1(X:Cx)(o:Expr)(m:Str)(apos:Pos)(e:Expr)(cpos:Pos):Prop where
 base:attributeBase o m X.env (eval o X.env)=eval o X.env
 ő:((backTo cpos (starEach [e] X.env)).all (λx=>!x.1)&&(backToKw cpos (keywordEach [] X.env)).all (λx=>x.1.isSome)
  && decide (([e]:List Expr).length+([]:List Keyword).length+(if ([]:List Keyword).isEmpty then 0 else 1)<30))=true
 line:(apos.endLine==cpos.line)=true
 trees:backTo cpos (starEach [e] X.env)=[(false,eval e X.env)]
structure M2(X:Cx)(o:Expr)(m:Str)(apos:Pos)(e f:Expr)(cpos:Pos):Prop where
 base:attributeBase o m X.env (eval o X.env)=eval o X.env
 ő:((backTo cpos (starEach [e,f] X.env)).all (λx=>!x.1)&&(backToKw cpos (keywordEach [] X.env)).all (λx=>x.1.isSome)
  && decide (([e,f]:List Expr).length+([]:List Keyword).length+(if ([]:List Keyword).isEmpty then 0 else 1)<30))=true
 line:(apos.endLine==cpos.line)=true
 trees:backTo cpos (starEach [e,f] X.env)=[(false,eval e X.env),(false,eval f X.env)]
def XZ(H:Hp)(a:Addr):Prop:=(∃F,Rd H a (.dK F))\/∃F,Rd H a (.dT F)
def iI(I:AF X pins σ H s)(d:XZ H a) :
 s.TypeIs (.ref a) "dict"/\(∀b,Value.ref a=.ref b->∃ob,s.heap.get? b=some ob/\ob.dict=none)/\(a==sysModules)=false:=by
 rcases d with⟨F,e⟩|⟨F,e⟩
 .obtain⟨_,hd,vs,_,dd⟩:=Qd I.Í e;refine⟨dd.typeIs,λb q=>?_,hd⟩;cases q;obtain⟨ob,_,_,h1,h2,_⟩:=dd;exact⟨ob,h1,h2.2.1⟩
 .obtain⟨_,hd,xs,_,dd⟩:=Qe I.Í e;refine⟨dd.typeIs,λb q=>?_,hd⟩;cases q;obtain⟨ob,_,_,h1,h2,_⟩:=dd;exact⟨ob,h1,h2.2.1⟩
section
variable {X:Cx}{pins:List (Addr×Obj)}{σ:St}{H:Hp}{s:Shared}{a:Addr}{y d:V}{u r:Value}{o:Option V}{A:Around}{E:Value->Shared->Prop}
def iJ(hu:A.units+1<cLine)(I:AF X pins σ H s)(g:GD H a y o)(ry:AR y u)(Z:AR d r)(h:∀Y s',AF X pins σ H s'->AR (o.getD d) Y->Q Y s') :
 wpAny (model X.prog X.w) A (call (.builtin "dict.get") [.ref a,u,r]) Q E s:=by
 rcases g with⟨J,k,e,W,l⟩|⟨J,k,b,e,W,eb,l⟩
 .subst W;obtain⟨z,hd,vs,G,dd⟩:=Qd I.Í e;refine call_meetsIn Fo dd.typeIs Jd (Iu _ _ _) (meets_dict_get_default (Kg X.prog X.w) a (Qc ry) hd r) ⟨_,dd.mapOf,h _ _ (I.tok _) ?_⟩;rw[l];exact(G.val k).getD Z
 .subst W;cases (ry);obtain⟨z,hd,xs,G,dd⟩:=Qe I.Í e;refine call_meetsIn Fo dd.typeIs Jd (Iu _ _ _) (meetsH_dict_get_default (tupleKind (Kg X.prog X.w)) a b hd r) ⟨F5 hu,k,xs,Ro I.Í eb,dd,h _ _ (I.tok _) ?_⟩;rw[l];exact(G.val k).getD Z
end
def iK(td ty tx:TE):TE:=λσ H Q=>td σ H λx H1=>∃a,x=.ref a/\XZ H1 a/\ty σ H1 λy H2=>tx σ H2 λz F=>∃o,GD F a y o/\Q (o.getD z) F
section
variable {X:Cx}{o e f:Expr}{apos cpos:Pos}{td ty tx:TE}
def iL(hu:X.A.units+1<cLine)(ho:PE X o td)(he:PE X e ty)(hf:PE X f tx)(m:M2 X o "get" apos e f cpos):PE X (.Call (.Attribute o "get" apos) [e,f] [] cpos) (iK td ty tx):=by
 intro pins s σ H Q I h;refine wpAny_Call_method m.base m.ő m.line PySem.F.plainAttrs_dict Fo PySem.F.type_dict_get (AV (ho pins s σ H _ I h) λu s1 J=>?_);obtain⟨x,H1,W,rx,a,ex,d,q1⟩:=J;subst ex;obtain rfl:u=Value.ref a:=rx;refine FN (λt1 Y _=>?_) (iI W d);refine BQ t1 Y ?_;rw[m.trees];refine Fc rfl (G1 (F3 (AV (he pins s1 σ H1 _ W q1) λiv s2 ⟨y,H2,I2,ry,q2⟩ =>
  F3 (AV (hf pins s2 σ H2 _ I2 q2) λfv s3 ⟨z,H3,I3,rz,ov,g,q3⟩=>Hw ?_))))
 exact iJ hu I3 g ry rz λw' s4 Z G=>⟨_,H3,Z,G,q3⟩
end
end L2
namespace Cs
open PySem L2
def AZ(rs:List BN)(ws:List Str):Int:=List.sum (ws.map λx=>L8 rs x)
end Cs
namespace L2
open PySem
def iM:bootBuiltins "min"=some (.builtin "min"):=by decide +kernel
open PySem.Spec PyProof.Rows
def MY(g:Nat->Int)(n:Nat)(m:Int):Prop:=(∃i,i<n/\g i=m)/\∀i,i<n->m<=g i
def MY.one:MY g 1 (g 0):=⟨⟨0,by lia,rfl⟩,λi hi=>by
 have e:i=0:=by lia
 subst e;exact Hx _⟩
def MY.yes(h:MY g n m)(F:g n<m):MY g (n+1) (g n):=⟨⟨n,by lia,rfl⟩,λi hi=>by
 by_cases e:i=n
 .subst e;exact Hx _
 .have:=h.2 i (by lia)
  lia⟩
def MY.no(h:MY g n m)(F:¬g n<m):MY g (n+1) m:=⟨by obtain⟨i,hi,e⟩:=h.1;exact⟨i,by lia,e⟩,λi hi=>by
 by_cases e:i=n
 .subst e;lia
 .exact h.2 i (by lia)⟩
def Rq(g:Nat->Int)(j:Nat)(F:Array Value):Prop:=(j=0/\F=#[])\/∃m t,F=#[.int m t,.int m t]/\MY g j m
def OQ(g:Nat->Int)(n:Nat)(d v:Value):Prop:=(n=0/\v=d)\/∃m t,v=.int m t/\MY g n m
def Y0(F:Array Value)(c:Nat):Obj:={ cls:=.type "list",dict:=none,data:=.seq F c,slots:=#[] }
section
variable {P:Program}{w:World}{A:Around}{R:Result->Shared->Prop}{it:Addr}{fp wr:List Addr}{n:Nat}{Pr:Nat->Value->Prop}{St:Nat->Heap->Prop}
theorem iN(W:Walks P w A.in1 it fp wr n Pr St)(g:Nat->Int)(B:Addr)(hB:B∉fp)(d:Value)(s:Shared)(I:Array Value)(c:Nat)(st:St n s.heap)(ho:s.heap.get? B=some (Y0 I c))(hh:Rq g n I)
 (q:∀v h' tk,OQ g n d v->(∀b o,b∉wr->b≠B->s.heap.get? b=some o->h'.get? b=some o)->R (.ok (.ret v)) { s with heap:=h',toks:=tk }) :
 codeAny (model P w) A (.builtin "min.loop" ⟨[.ref it,.none,.ref B],[(("default":Str),d)]⟩) R s:=by
 have Z:=λh=>hB (W.sub _ h)
 refine F1 F.entry_min_loop ?_;rw[Du E2 _];refine A6 (m:=seqItems? (.ref B)) (Dc ho rfl ?_);rcases hh with⟨rfl,rfl⟩|⟨m,t,rfl,hl⟩
 .exact A6 (m:=tryCatch (pyNext (.ref it)) _) (Fi (W.done s _ _ st λh' tk J=>A6 (m:=rule _) (Gh (Ab (q d h' tk (.inl ⟨rfl,rfl⟩) λb o G _ e=>J b o G e)))))
 .refine A6 (m:=tryCatch (pyNext (.ref it)) _) (Fi (W.done s _ _ st λh' tk J=>?_));exact A6 (m:=updateSeq B (λ_=>#[])) (Dq (J B _ Z ho) rfl (A6 (Ek (Ab (q _ _ tk (.inr ⟨m,t,rfl,hl⟩) λb o G Y e=>(B2 _ _ (Cc Y)).trans (J b o G e))))))
def iO(W:Walks P w A.in1 it fp wr n Pr St)(g:Nat->Int)(hg:∀(i:Nat) (v:Value),Pr i v->∃t,v=Value.int (g i) t)(B:Addr)(hB:B∉fp)(d:Value) :
 ∀(k j:Nat) (s:Shared) (af:Array Value) (c:Nat),n-j=k->j<=n->St j s.heap->s.heap.get? B=some (Y0 af c)->Rq g j af ->
 (∀v h' tk,OQ g n d v->(∀b o,b∉wr->b≠B->s.heap.get? b=some o->h'.get? b=some o)->R (.ok (.ret v)) { s with heap:=h',toks:=tk }) ->
 codeAny (model P w) A (.builtin "min.loop" ⟨[.ref it,.none,.ref B],[(("default":Str),d)]⟩) R s:=by
 have ai:=λh=>hB (W.sub _ h)
 have ag:(toString "min"++toString ".loop":String)="min.loop":=by decide
 have ak:=CmpOf.ints_lt (prog:=P) (w:=w) (A:=A.in1) g hg;intro k;induction k with
 | zero =>
   intro j s af c hk hj st ho hh q;have e:j=n:=by lia
   grind[iN]
 | succ k ih =>
   intro j s af c hk hj st ho hh q;have Z:j<n:=by lia
   refine F1 F.entry_min_loop ?_;rw[Du E2 _];refine A6 (m:=seqItems? (.ref B)) (Dc ho rfl ?_);rcases hh with⟨rfl,rfl⟩|⟨m,t,rfl,hl⟩
   .refine A6 (m:=tryCatch (pyNext (.ref it)) _) (Fi (W.item 0 s _ _ Z st λv h' tk hP ae J=>?_));have Y:=J B _ ai ho;obtain⟨t,rfl⟩:=hg 0 v hP;refine A6 (m:=updateSeq B (λ_=>#[.int (g 0) t,.int (g 0) t])) (Dq Y rfl ?_);rw[ag];refine Ab ⟨Et E2 _,ih 1 _ _ _ (by lia) Z (W.frame _ _ _ ae λb ah o e=>?_) (Bn _ Y rfl) (.inr ⟨g 0,t,rfl,.one⟩) λv h2 ac ad aa=>?_⟩
    .grind[Heap.get?_update_other]
    .exact q v h2 ac ad λb o G I e=>aa b o G I ((B2 _ _ (Cc I)).trans (J b o G e))
   .refine A6 (m:=tryCatch (pyNext (.ref it)) _) (Fi (W.item j s _ _ Z st λv h' tk hP ae J=>?_));have Y:=J B _ ai ho;obtain⟨t2,rfl⟩:=hg j v hP;have aj:∀(s1:Shared) (Q:Value->Shared->Prop) (E:Value->Shared->Prop),Q (.bool (decide (g j<m))) s1->wpAny (model P w) A.in1 (richCompare .Lt (.int (g j) t2) (.int m t)) Q E s1:=λs1 Q E h =>
     richCompare_gives (op:=.Lt) (Ja s1 _ t2) (Ja s1 _ t) F.slot_int_lt F.entry_int_lt (F.args_int_lt_2 _ _) (gives_int_lt _ _ t2 t) (λx=>nomatch x) h
    refine A6 (m:=tryCatch (holding [_,_] (richCompare .Lt (.int (g j) t2) (.int m t) >>= _)) _) (Fi (Bo (A6 (aj _ _ _ (A6 (Bo (C2 (A6 (Ek (Ab ?_))))))))));by_cases hb:g j<m
    .rw[Ac hb];simp only[J9];refine A6 (m:=updateSeq B (λ_=>#[.int (g j) t2,.int (g j) t2])) (Dq Y rfl (A6 (Ek ?_)));rw[ag];refine Ab ⟨Et E2 _,ih (j+1) _ _ _ (by lia) Z (W.frame _ _ _ ae λb ah o e=>?_) (Bn _ Y rfl) (.inr ⟨g j,t2,rfl,hl.yes hb⟩) λv h2 ac ad aa=>?_⟩
     .exact(B2 _ _ (λh:B=b=>hB (h ▸ ah))).trans e
     .exact q v h2 ac ad λb o G I e=>aa b o G I ((B2 _ _ (Cc I)).trans (J b o G e))
    .rw[Ak hb];simp only[D5,G0];refine A6 (Ek ?_);rw[ag];exact Ab ⟨Et E2 _,ih (j+1) _ _ _ (by lia) Z ae Y (.inr ⟨m,t,rfl,hl.no hb⟩) λv h2 ac ad aa=>q v h2 ac ad λb o G I e=>aa b o G I (J b o G e)⟩
end
section
variable {P:Program}{w:World}{A:Around}{E:Value->Shared->Prop}{s:Shared}
def iP(a d:Value):argsOk "min" ⟨[a],[(("default":Str),d)]⟩:=by unfold argsOk;kernel_rfl
def iQ{id:String}{f:Builtin}{xs:List Value}{G:List (Str×Value)}{Q:Value->Shared->Prop}(k1:builtinKind id=none)(k2:plainId id=true)(k3:entryFor table id=some f)(k4:argsOk id ⟨xs,G⟩)
 (k5:wpAny (model P w) A.in1 (f ⟨xs,G⟩) (λz F=>match z with
   | .done y=>(match (Except.ok y:Result)with|.ok (.ret v)=>Q v F|.ok _=>False|.error e=>E e F)
   | .again y=>y.quiet=true/\codeAny (model P w) A y (λr F=>match r with|.ok (.ret v)=>Q v F|.ok _=>False|.error e=>E e F) F) E s) :
 wpAny (model P w) A (call (.builtin id) xs G) Q E s:=by
 refine Dl (Dv k2 k3 ?_);simp only[checkBuiltinCall,k1];cases e:Manifest.signature? id with
 | none=>exact Ab k5
 | some sg =>
   have k6:Bind.checkArgs id sg ⟨xs,G⟩=pure ():=by simpa only[argsOk,e]using k4
   simp only[k6];exact Ab k5
def iR(Z:A.handled=none)(I:s.heap.IsList l its)(hg:∀(i:Nat) (v:Value),its[i]?=some v->∃t,v=Value.int (g i) t)(q:∀v h' tk,OQ g its.size d v->(∀b o,s.heap.get? b=some o->h'.get? b=some o)->Q v { s with heap:=h',toks:=tk }) :
 wpAny (model P w) A (call (.builtin "min") [.ref l] [(("default":Str),d)]) Q E s:=by
 have J:(toString "min"++toString ".loop":String)="min.loop":=by decide
 have G:l<s.heap.objs.size:=by obtain⟨_,e,_⟩:=I;exact Am e
 refine iQ F.kind_min F.plain_min F.entry_min (iP _ _) (A6 (m:=Builtin.Builtins.bindParams "min" ["key","default"] 0 ⟨[],[(("default":Str),d)]⟩) (wpAny_of_eq (rfl) (A6 (Ab (A6 (m:=pyIter (.ref l)) (Ec I (A6 (C3 ?_))))))));rw[J];have hsz:(s.heap.push { cls:=.type "list_iterator",data:=.fields #[.ref l,.int 0 0] }).objs.size=s.heap.objs.size+1:=C0 ..;refine Ab ⟨Et E2 _,iO (Walks.list (prog:=P) (w:=w) (A:=A.in1) Z s.heap.objs.size l (B8 G) its) g hg _ ?_ d its.size 0 _ #[] 0 rfl (Bj _) ?_ (Ax _ rfl) (.inl ⟨rfl,rfl⟩) λv h' tk ht W=>?_⟩
 .grind
 .exact⟨⟨_,A7 _ (Ax _ rfl),rfl,rfl⟩,(I.push _).push _⟩
 .refine q v h' tk ht λb o e=>W b o ?_ ?_ (A7 _ (A7 _ e))
  .intro hm;rcases Aw.mp hm with Y|hm
   .exact absurd (Y ▸ Am e) (Ce _)
   .cases hm
  .rw[hsz];exact B8 (Fe (Am e))
end
def Qf:List Int->Option Int
 | []=>none
 | x::r=>some (r.foldl (λa b=>if b<a then b else a) x)
theorem Y1:∀(r:List Int) (x:Int),(r.foldl (λa b=>if b<a then b else a) x=x\/r.foldl (λa b=>if b<a then b else a) x∈r)/\r.foldl (λa b=>if b<a then b else a) x<=x/\∀y∈r,r.foldl (λa b=>if b<a then b else a) x<=y
 | [],x=>⟨.inl rfl,Hx _,λ_ h=>nomatch h⟩
 | z::r,x=>by
   obtain⟨h1,h2,I⟩:=Y1 r (if z<x then z else x);rw[E8];have G:(if z<x then z else x)=x\/(if z<x then z else x)=z:=by split<;>simp
   refine⟨?_,by lia,λy F=>?_⟩
   .rcases h1 with h1|h1
    .rcases G with e|e
     .exact .inl (h1.trans e)
     .exact .inr (by rw[h1,e];exact Al)
    .exact .inr (Ah _ h1)
   .rcases Aw.mp F with rfl|F
    .lia
    .exact I y F
def HI:Qf xs=some m↔m∈xs/\∀y∈xs,m<=y:=by
 cases xs with
 | nil=>exact⟨λh=>(by cases h),λh=>absurd h.1 Bt⟩
 | cons x r =>
   obtain⟨h1,h2,h3⟩:=Y1 r x;have G:r.foldl (λa b=>if b<a then b else a) x∈x::r:=by
    grind
   have F:∀y∈x::r,r.foldl (λa b=>if b<a then b else a) x<=y:=λy Z=>by
    grind
   constructor
   .intro h;cases h;exact⟨G,F⟩
   .intro ⟨I,J⟩;have W:=J _ G;have Y:=F _ I;show some _=some m
    grind
section
variable {X:Cx}
def Va(K:Frag):V->Hp->VK->Prop:=λv H Q=>∃a ns,v=.ref a/\AH K H a (ns.map V.int)/\Q (Mt.DN (Qf ns)) H
def iS:bootBuiltins "min"=some (.builtin "min"):=by decide +kernel
def iT:bootBuiltins "max"=some (.builtin "max"):=by decide +kernel
def iU(hc:X.calm=true)(hg:Gl X "min")(hm:X.mg "min"=none)(he:PE X e te)(h1:backTo pos (starEach [e] X.env)=(false,eval e X.env)::backTo pos (starEach [] X.env):=by rfl)(h2:(backTo pos (starEach [e] X.env)).any (·.1)=false:=by rfl)(h3:starEach [e] X.env=(false,eval e X.env)::starEach [] X.env:=by rfl) :
 PE X (.Call (.Name "min" p) [e] [⟨some "default",.Constant .none p0 p2,kpos⟩] pos) (λσ H Q=>te σ H λv H1=>Va X.K v H1 Q):=by
 intro pins s σ H Q I h;refine Bs (LH I hg hm iS (callWith_kw (AV ((AC he AE h3) pos pins s σ H (λvs H1=>match vs with|[v]=>Va X.K v H1 Q|_=>False) I h) λus s1 ⟨vs,H1,I1,J,F⟩=>?_) h1 h2) (by decide) (by decide));match vs,J,F with
 | [],_,F=>exact F.elim
 | _::_::_,_,F=>exact F.elim
 | [v],J,F =>
 obtain⟨u,rfl,ru⟩:=Kk J;refine AV ((fU JU fT) pos pins s1 σ H1 (λzs H2=>zs=[.non]/\H2=H1) I1 ⟨rfl,rfl⟩) λws s2 ⟨zs,H2,Z,rz,e1,e2⟩=>?_;subst e1 e2;obtain⟨w',rfl,W⟩:=Kk rz;cases W;obtain⟨a,ns,rfl,hq,q⟩:=F;cases ru;obtain⟨its,rv,pl,hz⟩:=Z.list hq;have hi:=UN rv;have at_:∀(i:Nat) (v:Value),its.toArray[i]?=some v->∃t,v=Value.int (ns.getD i 0) t:=λi v e=>by
  rw[List.getElem?_toArray]at e
  obtain⟨x,h4,h5⟩:=SU rv e;obtain⟨z,rfl,h6⟩:=SM h4;rw[Ba,h6];exact h5
 refine iR (g:=λi=>ns.getD i 0) (d:=.none) (Z.ok.hd hc) pl.isList at_ λv h' tk ht hk=>?_;rw[B1,hi.length]at ht
 have val:∃G,AR G v/\G=Mt.DN (Qf ns):=by
  rcases ht with⟨e,rfl⟩|⟨m,t,rfl,⟨i,aa,e⟩,hl⟩
  .have:ns=[]:=Dd.mp e;subst this;exact⟨.non,rfl,rfl⟩
  .refine⟨.int m,⟨t,rfl⟩,?_⟩;have:Qf ns=some m:=HI.mpr ⟨?_,λy hy=>?_⟩
   .rw[this];rfl
   .grind
   .obtain⟨j,hj,rfl⟩:=Ca hy
    grind
 obtain⟨G,Y,rfl⟩:=val;exact⟨_,H2,Z.kept hk,Y,q⟩
def Rr:List Int->Option Int
 | []=>none
 | x::r=>some (r.foldl (λa b=>if b > a then b else a) x)
theorem Y2:∀(r:List Int) (x:Int),(r.foldl (λa b=>if b > a then b else a) x=x\/r.foldl (λa b=>if b > a then b else a) x∈r)/\x<=r.foldl (λa b=>if b > a then b else a) x/\∀y∈r,y<=r.foldl (λa b=>if b > a then b else a) x
 | [],x=>⟨.inl rfl,Hx _,λ_ h=>nomatch h⟩
 | z::r,x=>by
   obtain⟨h1,h2,I⟩:=Y2 r (if z > x then z else x);rw[E8];have G:(if z > x then z else x)=x\/(if z > x then z else x)=z:=by split<;>simp
   refine⟨?_,by lia,λy F=>?_⟩
   .rcases h1 with h1|h1
    .rcases G with e|e
     .exact .inl (h1.trans e)
     .exact .inr (by rw[h1,e];exact Al)
    .exact .inr (Ah _ h1)
   .rcases Aw.mp F with rfl|F
    .lia
    .exact I y F
def HJ:Rr xs=some m↔m∈xs/\∀y∈xs,y<=m:=by
 cases xs with
 | nil=>exact⟨λh=>(by cases h),λh=>absurd h.1 Bt⟩
 | cons x r =>
   obtain⟨h1,h2,h3⟩:=Y2 r x;have G:r.foldl (λa b=>if b > a then b else a) x∈x::r:=by
    grind
   have F:∀y∈x::r,y<=r.foldl (λa b=>if b > a then b else a) x:=λy Z=>by
    grind
   constructor
   .intro h;cases h;exact⟨G,F⟩
   .intro ⟨I,J⟩;have W:=J _ G;have Y:=F _ I;show some _=some m
    grind
def iV(hc:X.calm=true):IW X (.builtin "max") (λxs H Q=>∃p ns m,xs=[.ref p]/\AH X.K H p (ns.map V.int)/\Rr ns=some m/\Q (.int m) H):=by
 rintro pins s σ H xs us Q I r ⟨p,ns,m,rfl,hq,Y,q⟩;obtain⟨u,rfl,ru⟩:=Kk r;cases ru;obtain⟨its,rv,pl,hz⟩:=I.list hq;have hi:=UN rv;obtain⟨xs,e⟩:=hi.allInts.items;have J:ns=xs.toList.map (·.1):=by rw[<-hi.numsOf,<-nums_intItems,<-e]
 obtain⟨hm,W⟩:=HJ.mp Y;have hsz:0<xs.size:=by
  grind
 have F:=pl.isList;rw[e]at F
 refine max_intList (I.ok.hd hc) F hsz λv h' tk hv Z=>?_;obtain⟨t,rfl⟩:=intItems_at hv;obtain⟨g1,g2⟩:=argBest_gt (numAt xs) (xs.size-1);have e3:numAt xs (argBest (λi j=>decide (numAt xs i > numAt xs j)) (xs.size-1))=m:=by
  have a1:numAt xs (argBest (λi j=>decide (numAt xs i > numAt xs j)) (xs.size-1))∈ns:=by
   rw[J,numAt_eq];exact getD_mem (by rw[A8,B0];lia)
  have a2:=W _ a1;have G:=hm;rw[J]at G
  obtain⟨j,hj,ej⟩:=mem_getD G;rw[A8,B0]at hj
  have a3:=g2 j (by lia);rw[numAt_eq,ej]at a3
  lia
 rw[e3];exact⟨.int m,H,I.kept Z,⟨t,rfl⟩,q⟩
end
section
variable {X:Cx}(K:Frag) (hK:X.K=K)
include hK
theorem iW(I:X.calm=true)(G:Gl X "min")(hm:X.mg "min"=none)(F:PE X e te)(h1:backTo pos (starEach [e] X.env)=(false,eval e X.env)::backTo pos (starEach [] X.env):=by rfl)(h2:(backTo pos (starEach [e] X.env)).any (·.1)=false:=by rfl)(h3:starEach [e] X.env=(false,eval e X.env)::starEach [] X.env:=by rfl) :
 PE X (.Call (.Name "min" p) [e] [⟨some "default",.Constant .none p0 p2,kpos⟩] pos) (λσ H Q=>te σ H λv H1=>Va K v H1 Q):=by subst hK;exact iU I G hm F h1 h2 h3
theorem iX(F:X.calm=true):IW X (.builtin "max") (λxs H Q=>∃p ns m,xs=[.ref p]/\AH K H p (ns.map V.int)/\Rr ns=some m/\Q (.int m) H):=by subst hK;exact iV F
end
section
variable {X:Cx}{a b:Expr}{rest:List Expr}{pos:Pos}{ta tb:TE}(K:Frag) (hK:X.K=K)
include hK
end
def Y3{ws:List Str}{i:Nat}{y:V}(h:(ws.map V.str)[i]?=some y):∃x,y=.str x/\ws[i]?=some x:=by
 rw[Ap]at h
 cases e:ws[i]? with
 | none=>rw[e]at h;cases h
 | some z=>rw[e]at h;exact⟨z,(Av h).symm,rfl⟩
def Y4{α:Type}(f:α->V)(xs:List α)(a b:Nat)(h:b<=xs.length):EJ (xs.map f) (some (a:Int)) (some (b:Int))=((xs.take b).drop a).map f:=by
 unfold EJ;rw[HT.SE,HT.SE,A8,F2 h,<-List.map_drop,<-List.map_take,List.drop_take];by_cases F:a<=xs.length
 .rw[F2 F]
 .rw[Nat.min_eq_right (by lia),Fj (Aa _),Fj (by lia)];simp
end L2
namespace Ln
open PySem L2
def misfit(sp m lo hi:Int):Int:=if m*hi<sp then sp-m*hi else if 0<sp-m*lo then 0 else sp-m*lo
def JO(sp m lo À hi:Int)(last:Bool):Option Int:=if last=true/\0<=sp-m*À then some 0 else if misfit sp m lo hi=0 then some ((sp-m*À)*(sp-m*À))else none
def iY(h1:last=true)(h2:0<=sp-m*À):JO sp m lo À hi last=some 0:=Au ⟨h1,h2⟩
def iZ(h:m*lo<=m*hi):misfit sp m lo hi=0↔m*lo<=sp/\sp<=m*hi:=by
 grind[misfit]
def j4(h:¬(last=true/\0<=sp-m*À))(h2:misfit sp m lo hi=0):JO sp m lo À hi last=some ((sp-m*À)*(sp-m*À)):=by
 unfold JO;rw[As h,Au h2]
def j6(h:¬(last=true/\0<=sp-m*À))(h2:¬misfit sp m lo hi=0):JO sp m lo À hi last=none:=by
 unfold JO;rw[As h,As h2]
def j7{m a:Int}(hm:0<=m)(I:m<=1000)(G:0<=a)(F:a<=1000):0<=m*a/\m*a<=1000000:=by
 refine⟨Fk hm G,?_⟩;have h1:=E4 F hm
 lia
def Y5(zs:List Int)(ms lo À hi:Int)(last:Bool):Option Int:=JO (ms-List.sum zs) ((zs.length:Int)-1) lo À hi last
theorem Y6:∀{zs:List Int}{B:Int},0<=B->(∀z∈zs,0<=z/\z<=B)->0<=List.sum zs/\List.sum zs<=zs.length*B
 | [],B,_,_=>⟨Hx _,by simp⟩
 | z::zs,B,G,h=>by
   obtain⟨h1,h2⟩:=Y6 (zs:=zs) G λy F=>h y (Ah _ F)
   obtain⟨J,I⟩:=h z Al;rw[Eu,Bw];refine⟨by lia,?_⟩;have e:(((zs.length+1:Nat):Int))*B=zs.length*B+B:=by
    rw[Jj,Int.add_mul];show _+1*B=_;rw[Int.one_mul]
   lia
abbrev Nu(ws:List Str):PyData:=.list (ws.map PyData.str)
theorem Vb:∀{ws:List Str},(∀x∈ws,PyData.canLay0 (.str x)=true)->IE K H (ws.map V.str) (ws.map PyData.str)
 | [],_=>.nil
 | x::ws,h=>.cons (.str _ (h x Al)) (Vb λy F=>h y (Ah _ F))
def j8(ws:List Str)(e:PyData)(h:PyData.depthAll (ws.map PyData.str)=0):min (PyData.list (ws.map PyData.str)).depth e.depth<=64:=by
 have q:(PyData.list (ws.map PyData.str)).depth=PyData.depthAll (ws.map PyData.str)+1:=rfl
 lia
theorem Vc:∀ws:List Str,PyData.depthAll (ws.map PyData.str)=0
 | []=>rfl
 | x::ws=>by
   show max (PyData.str x).depth (PyData.depthAll (ws.map PyData.str))=0;rw[Vc ws];rfl
def Nv(ws:List Str)(e:PyData):min (Nu ws).depth e.depth<=64:=j8 ws e (Vc ws)
end Ln
namespace L2
open PySem PySem.Spec PyProof.Rows
def Lp(lo st:Int)(n:Nat):It:=⟨λi _=>i<n,λi H x H'=>H'=H/\x=.int (lo+i*st),λi _=>n<=i⟩
def j9{P:Program}{w:World}{K:Frag}{tg:Expr}(it:Addr)(lo st:Int)(n:Nat):KI P w K tg (Lp lo st n) [it] it (λi h=>IsRangeIter h it (lo+(i:Nat)*st) ((n:Int)-(i:Nat)) st) where
 mem:=by simp
 obj:=λi h q b hb=>by
  have e:b=it:=by simpa using hb
  subst e;exact⟨_,q,λv z=>by
   have z':Data.fields _=Data.cell v:=z;cases z'⟩
 keep:=λi h h' q k=>k it (by simp) _ q
 item:=by
  intro X hP hw hK hc i pins s σ H E I hf q F;subst hP hw hK;refine GH (λG J f2 f3 Z Y=>?_) (hf it (by simp));refine(Walks.range (prog:=X.prog) (w:=X.w) (I.ok.hd hc) it lo st n).item i s _ _ F q λv h' tk hv q' kk=>?_;obtain⟨t,rfl⟩:=hv;have I1:AF X pins σ H { s with heap:=h',toks:=tk }:=I.turned (λb o hb e=>kk b o (by simpa using hb) e) G J f3 Z Y;exact AX _ (CC rfl (R3 (s:={ s with heap:=h',toks:=tk }) (n:="range_iterator") q' rfl rfl (by decide) ⟨.int (lo+i*st),H,I1,⟨t,rfl⟩,⟨rfl,rfl⟩,q',λb hb=>(hf b hb).1⟩))
 done:=by
  intro X hP hw hK hc i pins s σ H E I hf q F;subst hP hw hK;refine GH (λG J f2 f3 Z Y=>?_) (hf it (by simp));exact wpAny_pyNext_range_end (I.ok.hd hc) q (by have:n<=i:=F;lia) λh' eb=>⟨rfl,I.turned (t':=s.toks) (λb o hb e=>eb b o hb e) G J f3 Z Y⟩
 self:=λ_ _ _ _ _ q h=>F9 q h
section
variable {X:Cx}{tg:Expr}
def GM(a b c:Int):Nat:=(Builtin.Range.rangeSize a b c).toNat
def Y7(a b c:Int)(h:c≠0):0<=Builtin.Range.rangeSize a b c:=by
 unfold Builtin.Range.rangeSize;split
 .split
  .have:=Int.ediv_nonneg (show 0<=b-a-1 by lia) (show 0<=c by lia)
   lia
  .lia
 .split
  .have:=Int.ediv_nonneg (show 0<=a-b-1 by lia) (show 0<=-c by lia)
   lia
  .lia
def Y8(n:Nat):GM ((n:Int)-1) (-1) (-1)=n:=by
 unfold GM Builtin.Range.rangeSize
 lia
def ja(ta:TA):TI:=λσ H R=>ta σ H λvs H1=>∃i j k:Int,vs=[.int i,.int j,.int k]/\(-1000000<=i/\i<=1000000/\-1000000<=j/\j<=1000000)/\(k≠0/\-1000<=k/\k<=1000)/\R (Lp i k (GM i j k)) H1
def jc(h1:-1000000<=i)(h2:i<=1000000)(Y:-1000000<=j)(J:j<=1000000)(F:k≠0)(I:-1000<=k)(W:k<=1000):Builtin.Range.small i j k=true:=by
 have hn:=Y7 i j k F;have G:Builtin.Range.rangeSize i j k<=2000001:=by
  unfold Builtin.Range.rangeSize;split
  .split
   .have:=Int.ediv_le_self (b:=k) (show 0<=j-i-1 by lia)
    lia
   .lia
  .split
   .have:=Int.ediv_le_self (b:=-k) (show 0<=i-j-1 by lia)
    lia
   .lia
 unfold Builtin.Range.small;generalize Builtin.Range.rangeSize i j k=r at hn G⊢;have e:(if k > 0 then Builtin.Range.rangeFitsLong (j+(k-1))else Builtin.Range.rangeFitsLong (j+(k+1)))=true:=by
  split<;>simp only[Builtin.Range.rangeFitsLong,Ae,K7]<;>lia
 rw[e];simp only[Builtin.Range.rangeFitsLong,Ae,Je,K7,and_true]
 lia
def jd{u:Tok}(I:AF X pins σ H s)(G:Builtin.Range.small i j k=true)(J:k≠0)(q:R (Lp i k (GM i j k)) H):wpAny (model X.prog X.w) X.A (pyIter (.ref s.heap.objs.size)) (So X pins σ tg R) E { s with heap:=s.heap.push { cls:=.type "range",data:=.fields #[.int i t,.int j u,.int k v] },toks:=tk }:=by
 refine Gi (IsRange.new ..) G ?_;generalize Y:s.heap.push { cls:=.type "range",data:=.fields #[.int i t,.int j u,.int k v] }=g;have F:AF X pins σ H { s with heap:=g,toks:=tk }:=I.kept λb o e=>by rw[<-Y];exact A7 _ e
 refine DC g.objs.size [g.objs.size] _ _ H (GS rfl (F.kept (t':=tk) λb o e=>A7 _ e) (j9 _ i k (GM i j k)) ?_ (λb hb=>?_) q)
 .have W:i+((0:Nat):Int)*k=i:=by simp
  have Z:((GM i j k:Nat):Int)-((0:Nat):Int)=Builtin.Range.rangeSize i j k:=by
   have:=Y7 i j k J;unfold GM
   lia
  show IsRangeIter _ _ (i+((0:Nat):Int)*k) (((GM i j k:Nat):Int)-((0:Nat):Int)) k;rw[W,Z];exact Ax _ rfl
 .have e:b=g.objs.size:=by simpa using hb
  subst e;exact F.vG (Aa _) (F.Í.fresh (Aa _))
def je(hg:Gl X "range")(hm:X.mg "range"=none)(ha:PA X [a,b,c] ta)(hs:starEach [a,b,c] X.env=[(false,eval a X.env),(false,eval b X.env),(false,eval c X.env)]:=by rfl)(hs2:starEach [b,c] X.env=[(false,eval b X.env),(false,eval c X.env)]:=by rfl) :
 PI X tg (.Call (.Name "range" p) [a,b,c] [] pos) (ja ta):=by
 intro pins s σ H R I h;refine Call_ (LH I hg hm boot_range (Bq (AV (ha pos pins s σ H _ I h) λus s1 ⟨vs,H1,Z,Y,q1⟩=>?_) (by rw[hs,hs2]) (by rw[hs2];rfl)));obtain⟨i,j,k,rfl,⟨h1,h2,h3,h4⟩,⟨G,h6,h7⟩,q⟩:=q1;cases Y with
 | cons r F =>
   cases F with
   | cons W F =>
     cases F with
     | cons J F =>
       cases F;obtain⟨t,rfl⟩:=r;obtain⟨t',rfl⟩:=W;obtain⟨aa,rfl⟩:=J;exact call_range_3 G (jd Z (jc h1 h2 h3 h4 G h6 h7) G q) (Or.inl (J6 (by lia)))
end
def jf{lo st:Int}{n:Nat}{g:TG}{tb:TS}{D:DY}{σ:St}{H:Hp}(G:Nat->St->Hp->Prop)(Z:G 0 σ H)
 (hs:∀i σ H,i<n->G i σ H->g (.int (lo+i*st)) σ H λJ H2=>tb { D with nx:=G (i+1),ct:=G (i+1),bk:=D.nx } J H2) (hd:∀σ H,G n σ H->D.nx σ H) :
 ∃W:Nat->Nat->St->Hp->Prop,(∃m,W 0 m σ H)/\∀i m σ H,W i m σ H ->
  ((Lp lo st n).stop i H/\D.nx σ H)\/((Lp lo st n).go i H/\∃N:St->Hp->Prop,(∀I H',N I H'->∃Y,Y<m/\W (i+1) Y I H')/\∀x H',(Lp lo st n).wO i H x H'->g x σ H' λJ H2=>tb { D with nx:=N,ct:=N,bk:=D.nx } J H2):=by
 refine⟨λi m σ H=>m=n-i/\i<=n/\G i σ H,⟨n,by simp,Bj _,Z⟩,?_⟩;rintro i m σ H ⟨rfl,hi,p⟩;by_cases F:i<n
 .refine .inr ⟨F,G (i+1),λI H' p'=>⟨n-(i+1),by lia,rfl,F,p'⟩,λx H' y=>?_⟩;obtain⟨e,y⟩:=y;subst e y;exact hs i σ _ F p
 .have e:i=n:=by lia
  subst e;exact .inl ⟨Aa _,hd σ H p⟩
end L2
namespace Br
open PySem L2
structure EW where
 zs:List Int
 ms:Int
 lo:Int
 À:Int
 hi:Int
abbrev EW.n(p:EW):Nat:=p.zs.length
def Km(zs:List Int)(i j:Nat):List Int:=(zs.take j).drop i
def Y9(h:j<=zs.length):(Km zs i j).length=j-i:=by
 unfold Km;rw[Ci,Bb,F2 h]
def Ya(G:i<=j)(h:zs[j]?=some z):Km zs i (j+1)=Km zs i j++[z]:=by
 obtain⟨I,e⟩:=B9.mp h;unfold Km;rw[Ao,h,List.drop_append];have F:i-(zs.take j).length=0:=by
  rw[Bb]
  lia
 rw[F];rfl
def jg(zs:List Int)(i:Nat):Km zs i i=[]:=by
 unfold Km;rw[Jr,Bb]
 lia
def lc(p:EW)(i j:Nat):Option Int:=Ln.Y5 (Km p.zs i j) p.ms p.lo p.À p.hi (decide (j=p.n))
def Kn:Option Int->Option Int->Option Int
 | some a,some b=>some (a+b)
 | _,_=>none
def O6(p:EW)(f:Nat->Option Int)(i m:Nat):List Int:=(List.range m).filterMap λk=>Kn (lc p i (i+1+k)) (f (i+1+k))
def IH(p:EW)(f:Nat->Option Int)(i:Nat):Option Int:=Qf (O6 p f i (p.n-i))
def Qg{α:Type}(g:Nat->Option α)(m:Nat):(List.range (m+1)).filterMap g=(List.range m).filterMap g++(g m).toList:=by
 rw[List.range_succ,Fp];congr 1
def Yb(p:EW)(f:Nat->Option Int)(i m:Nat):O6 p f i (m+1)=O6 p f i m++(Kn (lc p i (i+1+m)) (f (i+1+m))).toList:=Qg _ m
def jh(h:∀k,k<m->f (i+1+k)=g (i+1+k)):O6 p f i m=O6 p g i m:=by
 induction m with
 | zero=>rfl
 | succ m ih=>rw[Yb,Yb,ih λk F=>h k (by lia),h m (by lia)]
def Ru{p:EW}{f g:Nat->Option Int}{i:Nat}(h:∀k,k<p.n-i->f (i+1+k)=g (i+1+k)):IH p f i=IH p g i:=C6 Qf (jh h)
structure HQ(p:EW)(f:Nat->Option Int)(k:Nat):Prop where
 last:f p.n=some 0
 rest:∀i,k<=i->i<p.n->f i=IH p f i
def HQ.uniq{p:EW}{f g:Nat->Option Int}{k:Nat}(hf:HQ p f k)(G:HQ p g k):∀d i,p.n-i=d->k<=i->i<=p.n->f i=g i:=by
 intro d;induction d using Nat.strongRecOn with
 | ind d ih =>
   intro i hd F hi;by_cases e:i=p.n
   .subst e;rw[hf.last,G.last]
   .rw[hf.rest i F (by lia),G.rest i F (by lia)];exact Ru λj I=>ih (p.n-(i+1+j)) (by lia) (i+1+j) rfl (by lia) (by lia)
def Ko(p:EW)(F:List (List DD×V))(D:Nat->Nat->Prop):Prop:=∀i j:Nat,i<j->j<=p.n->(D i j->CV F [.inl (i:Int),.inl (j:Int)]=(lc p i j).map V.int)/\(¬D i j->CV F [.inl (i:Int),.inl (j:Int)]=none)
def Rv(p:EW)(F:List (List DD×V)):Prop:=∀i j:Nat,i<j->j<=p.n->CV F [.inl (i:Int),.inl (j:Int)]=(lc p i j).map V.int
theorem Ko.all(h:Ko p kvs λa _=>a<p.n):Rv p kvs:=λi j F G=>(h i j F G).1 (by lia)
def Ko.nil(p:EW):Ko p [] λa _=>a<0:=λi j _ _=>⟨λh=>absurd h (Ds _),λ_=>rfl⟩
def Ko.iff{p:EW}{F:List (List DD×V)}{D E:Nat->Nat->Prop}(h:Ko p F D)(e:∀i j,i<j->j<=p.n->(D i j↔E i j)):Ko p F E:=λi j G I=>by
 have h1:=h i j G I;have h2:=e i j G I;exact⟨λz=>h1.1 (h2.mpr z),λz=>h1.2 λy=>z (h2.mp y)⟩
def Nw{i j a b:Nat}:([Sum.inl (i:Int),Sum.inl (j:Int)]:List DD)=[Sum.inl (a:Int),Sum.inl (b:Int)]↔i=a/\j=b:=by
 constructor
 .intro h;have h1:=Cg h;have F:=Sum.inl.inj h1.1;have G:=Sum.inl.inj (Cg h1.2).1
  lia
 .rintro⟨rfl,rfl⟩;rfl
def Ko.put{p:EW}{F:List (List DD×V)}{i k:Nat}{c:Int}(h:Ko p F λa b=>a<i\/(a=i/\b<i+1+k))(I:lc p i (i+1+k)=some c) :
 Ko p (EE F [.inl (i:Int),.inl ((i+1+k:Nat):Int)] (.int c)) λa b=>a<i\/(a=i/\b<i+1+(k+1)):=λa b G hb=>by
 have h1:=h a b G hb;by_cases e:a=i/\b=i+1+k
 .obtain⟨rfl,rfl⟩:=e;refine⟨λ_=>?_,λz=>absurd (.inr ⟨rfl,by lia⟩) z⟩;rw[V5,Au rfl,I];rfl
 .have ne:¬([Sum.inl (a:Int),Sum.inl (b:Int)]:List DD)=[Sum.inl (i:Int),Sum.inl ((i+1+k:Nat):Int)]:=λz=>e (Nw.mp z)
  rw[V5,As ne];exact⟨λz=>h1.1 (by lia),λz=>h1.2 (by lia)⟩
def Ko.skip(h:Ko p kvs λa b=>a<i\/(a=i/\b<i+1+k))(G:lc p i (i+1+k)=none) :
 Ko p kvs λa b=>a<i\/(a=i/\b<i+1+(k+1)):=λa b F hb=>by
 have h1:=h a b F hb;by_cases e:a=i/\b=i+1+k
 .obtain⟨rfl,rfl⟩:=e;refine⟨λ_=>?_,λz=>absurd (.inr ⟨rfl,by lia⟩) z⟩;rw[h1.2 (by lia),G];rfl
 .exact⟨λz=>h1.1 (by lia),λz=>h1.2 (by lia)⟩
def ji(hz:p.zs[i+k]?=some z):Ln.JO (p.ms-List.sum (Km p.zs i (i+k))-z) (k:Int) p.lo p.À p.hi (decide (i+1+k=p.n))=lc p i (i+1+k):=by
 obtain⟨I,_⟩:=B9.mp hz;unfold lc Ln.Y5;have e:i+1+k=i+k+1:=by lia
 rw[e,Y9 (by lia),Ya (by lia) hz,Jk];have G:(((i+k+1-i:Nat):Int))-1=k:=by lia
 rw[G];have F:p.ms-(List.sum (Km p.zs i (i+k))+List.sum [z])=p.ms-List.sum (Km p.zs i (i+k))-z:=by
  rw[Eu,List.sum_nil]
  lia
 rw[F]
def HR(p:EW)(f:Nat->Option Int)(i m:Nat):List (Int×Nat):=(List.range m).filterMap λk=>(Kn (lc p i (i+1+k)) (f (i+1+k))).map λc=>(c,i+1+k)
def ends(p:EW)(f:Nat->Option Int)(i m:Nat):List Nat:=(List.range m).filterMap λk=>(Kn (lc p i (i+1+k)) (f (i+1+k))).map λ_=>i+1+k
def T1{α:Type}(g:Nat->Option α)(m:Nat):((List.range m).filterMap g).length<=m:=by
 have:=Ik g (List.range m)
 rwa [K8]at this
def jj(p:EW)(f:Nat->Option Int)(i m:Nat):(HR p f i m).map (·.1)=O6 p f i m:=by
 induction m with
 | zero=>rfl
 | succ m ih =>
   unfold HR O6 at ih⊢;rw[Qg,Qg,Ai,ih];congr 1
   cases Kn (lc p i (i+1+m)) (f (i+1+m))<;>rfl
def Yc(p:EW)(f:Nat->Option Int)(i m:Nat):(HR p f i m).map (·.2)=ends p f i m:=by
 induction m with
 | zero=>rfl
 | succ m ih =>
   unfold HR ends at ih⊢;rw[Qg,Qg,Ai,ih];congr 1
   cases Kn (lc p i (i+1+m)) (f (i+1+m))<;>rfl
def Yd(h:x∈HR p f i m):i<x.2/\x.2<=i+m/\∃a b,lc p i x.2=some a/\f x.2=some b/\x.1=a+b:=by
 unfold HR at h;obtain⟨k,F,e⟩:=Di.mp h;have F:=C7.mp F;cases h1:lc p i (i+1+k)with
 | none=>rw[h1]at e;cases e
 | some a =>
   cases h2:f (i+1+k)with
   | none=>rw[h1,h2]at e;cases e
   | some b =>
     rw[h1,h2]at e
     have e:=Av e;subst e;exact⟨by show i<i+1+k;lia,by show i+1+k<=i+m;lia,a,b,h1,h2,rfl⟩
def Qh(H:Hp)(v:V)(x:Int×Nat):Prop:=∃a,v=.ref a/\H a=some (.tup [.int x.1,.int (x.2:Int)])
def Ye(h:Paired (Qh H) xs ys)(s:AD H H'):Paired (Qh H') xs ys:=Paired.à h λ_ _ ⟨a,e,z⟩=>⟨a,e,s _ _ z⟩
def jk(h:Paired (Qh H) xs zs)(F:H l=some ys)(hn:∀z,ys≠.tup z):Paired (Qh (upd H l o)) xs zs :=
 Paired.à h λx p ⟨t,e,ht⟩=>⟨t,e,by rw[BE (Kh ht F λz=>hn _ z.symm)];exact ht⟩
def Yf{tb:List (Option Int)}{i j:Nat}{v:Option Int}(hi:i<tb.length):(tb.set i v).getD j none=if j=i then v else tb.getD j none:=by
 rw[Ba,Ba,Fd];by_cases e:i=j
 .subst e;rw[Au rfl,Au rfl,Au hi];rfl
 .rw[As e,As (λz=>e z.symm)]
def HQ.set{p:EW}{tb:List (Option Int)}{i:Nat}(h:HQ p (λj=>tb.getD j none) (i+1))(J:tb.length=p.n+1)(hi:i<p.n):HQ p (λj=>(tb.set i (IH p (λj=>tb.getD j none) i)).getD j none) i:=by
 have e:∀j,i<j->(tb.set i (IH p (λj=>tb.getD j none) i)).getD j none=tb.getD j none:=λj I=>by
  rw[Yf (by lia),As (by lia)]
 refine⟨?_,λj I hn=>?_⟩
 .show(tb.set i _).getD p.n none=some 0;rw[e p.n (by lia)];exact h.last
 .show(tb.set i _).getD j none=_;by_cases G:j=i
  .subst G;rw[Yf (by lia),Au rfl];exact Ru λk F=>(e (j+1+k) (by lia)).symm
  .rw[e j (by lia),h.rest j (by lia) hn];exact Ru λk F=>(e (j+1+k) (by lia)).symm
def HQ.cons{p:EW}{tb:List (Option Int)}{c:Nat}(h:HQ p (λi=>tb.getD (i-(p.n-c)) none) (p.n-c))(hc:c<p.n)(hl:tb.length=c+1) :
 HQ p (λi=>(IH p (λi=>tb.getD (i-(p.n-c)) none) (p.n-(c+1))::tb).getD (i-(p.n-(c+1))) none) (p.n-(c+1)):=by
 have e:∀j x,p.n-(c+1)<j->(x::tb).getD (j-(p.n-(c+1))) none=tb.getD (j-(p.n-c)) none:=λj x J=>by
  have I:j-(p.n-(c+1))=(j-(p.n-c))+1:=by lia
  rw[I];rfl
 refine⟨?_,λj J hn=>?_⟩
 .show(_::tb).getD (p.n-_) none=some 0;rw[e p.n _ (by lia)];exact h.last
 .show(_::tb).getD (j-_) none=_;by_cases G:j=p.n-(c+1)
  .subst G;rw[Gc];show IH p _ _=IH p _ _;exact Ru λk F=>(e (p.n-(c+1)+1+k) _ (by lia)).symm
  .rw[e j _ (by lia)];show tb.getD (j-(p.n-c)) none=_;rw[h.rest j (by lia) hn];exact Ru λk F=>(e (j+1+k) _ (by lia)).symm
def HQ.one(p:EW):HQ p (λi=>([some 0]:List (Option Int)).getD (i-(p.n-0)) none) (p.n-0):=by
 refine⟨?_,λi hi hn=>by lia⟩;show([some 0]:List (Option Int)).getD (p.n-(p.n-0)) none=some 0;rw[show p.n-(p.n-0)=0 by lia];rfl
def HS(p:EW)(f:Nat->Option Int)(i e:Nat):Prop:=i<e/\e<=p.n/\∃a b,lc p i e=some a/\f e=some b/\f i=some (a+b)
def O7(p:EW)(f:Nat->Option Int)(i e:Nat):Prop:=HS p f i e/\∀F,HS p f i F->F<=e
def O7.uniq{p:EW}{f:Nat->Option Int}{i e F:Nat}(h:O7 p f i e)(h':O7 p f i F):e=F:=Nat.le_antisymm (h'.2 e h.1) (h.2 F h'.1)
def jm(hf:HQ p f k)(W:k<=i)(hi:i<p.n)(Y:f i≠none):∃e,HS p f i e:=by
 have h1:=hf.rest i W hi;cases h2:IH p f i with
 | none=>rw[h2]at h1;exact absurd h1 Y
 | some m =>
   rw[h2]at h1
   obtain⟨J,_⟩:=HI.mp h2;unfold O6 at J;obtain⟨j,I,e⟩:=Di.mp J;have I:=C7.mp I;cases F:lc p i (i+1+j)with
   | none=>rw[F]at e;cases e
   | some a =>
     cases G:f (i+1+j)with
     | none=>rw[F,G]at e;cases e
     | some b =>
       rw[F,G]at e
       have e:=Av e;exact⟨i+1+j,by lia,by lia,a,b,F,G,by rw[h1,e]⟩
inductive FH (p:EW) (f:Nat->Option Int):Nat->List Nat->Prop
 | done:FH p f p.n []
 | step {i e:Nat}{bs:List Nat}:i<p.n->O7 p f i e->FH p f e bs->FH p f i (e::bs)
def FH.uniq{p:EW}{f:Nat->Option Int}{i:Nat}{bs:List Nat}(h:FH p f i bs):∀{cs:List Nat},FH p f i cs->bs=cs:=by
 induction h with
 | done =>
   intro cs h;cases h with
   | done=>rfl
   | step h1 _ _=>exact absurd h1 (Ce _)
 | step h1 h2 _ ih =>
   intro cs h;cases h with
   | done=>exact absurd h1 (Ce _)
   | step I F G =>
     have e:=h2.uniq F;subst e;rw[ih G]
def HS.congr(h:∀i,i<=p.n->f i=g i)(hi:i<=p.n)(x:HS p f i e):HS p g i e:=by
 obtain⟨h1,h2,a,b,I,F,G⟩:=x;exact⟨h1,h2,a,b,I,by rw[<-h e h2];exact F,by rw[<-h i hi];exact G⟩
def O7.congr(h:∀i,i<=p.n->f i=g i)(hi:i<=p.n)(x:O7 p f i e):O7 p g i e :=
 ⟨x.1.congr h hi,λG y=>x.2 G (y.congr (λj F=>(h j F).symm) hi)⟩
def FH.congr(h:∀i,i<=p.n->f i=g i)(x:FH p f i bs):FH p g i bs:=by
 induction x with
 | done=>exact .done
 | step h1 h2 _ ih=>exact .step h1 (h2.congr h (J5 h1)) ih
theorem FH.len(x:FH p f i bs):bs.length+i<=p.n:=by
 induction x with
 | done=>simp
 | step h1 h2 _ ih =>
   have:=h2.1.1;rw[Bw]
   lia
def jn:(x∈HR p f i (p.n-i)/\f i=some x.1)->HS p f i x.2:=by
 rintro⟨h1,h2⟩;obtain⟨m1,m2,a,b,F,I,G⟩:=Yd h1;exact⟨m1,by lia,a,b,F,I,by rw[h2,G]⟩
def jo(h:HS p f i e):∃c,(c,e)∈HR p f i (p.n-i)/\f i=some c:=by
 obtain⟨h1,h2,a,b,J,G,I⟩:=h;refine⟨a+b,?_,I⟩;unfold HR;refine Di.mpr ⟨e-i-1,C7.mpr (by lia),?_⟩;have F:i+1+(e-i-1)=e:=by lia
 rw[F,J,G];rfl
end Br
namespace L2
open PySem PySem.Spec PyProof.Rows
section
variable {X:Cx}{pins:List (Addr×Obj)}{σ:St}{H:Hp}{s:Shared}{h':Heap}
def AF.wj{t':Nat}{ch:List Addr}(I:AF X pins σ H s)(k:∀b u,b∉ch->s.heap.get? b=some u->h'.get? b=some u)(hf:∀b∈ch,DH X pins H b):AF X pins σ H { s with heap:=h',toks:=t' }:=by
 have J:∀b u,H b=some u->b∉ch:=λb u e z=>by rw[(hf b z).1]at e;cases e
 refine I.step (g':=s.gens) (d':=s.drawn) (ch:=ch) (λb hb=>?_) (λb u _ _ F e _=>k b u F e) (λb u _ _ F e _=>⟨u.slots,k b u F e⟩)
  (λ_ _ _ _ n=>n) (λb u F e=>⟨u,k b u F e⟩) (λ_ _ e=>e) (λ_ _ _ e=>e) (λb ps e=>⟨#[],by rw[e];simp⟩) (λm hm=>?_) (λb u e=>?_) I.bare
 .refine GH (λf0 G f2 f3 f4 Y=>?_) (hf b hb);exact BP f3 G f4 Y
 .revert hm;refine FT λob es Z=>BW λW r=>?_;exact EB ob es Z (CC (k _ ob (λz=>(hf _ z).2.1 rfl) W) r)
 .refine(I.Í b u e).ű (λc v F q=>k c v ?_ q) (λ_ q=>q) λ_ _ q=>q
  grind
end
def Vd(K:Frag)(a b:Addr):It :=
 ⟨λi H=>∃xs ys x y,AH K H a xs/\AH K H b ys/\xs[i]?=some x/\ys[i]?=some y,
  λi H v H'=>∃t x y,v=.ref t/\H t=none/\(∀xs,AH K H a xs->xs[i]?=some x)/\(∀ys,AH K H b ys->ys[i]?=some y)/\H'=upd H t (.tup [x,y]),
  λi H=>∃xs ys,AH K H a xs/\AH K H b ys/\(xs.length<=i\/ys.length<=i)⟩
def jq{P:Program}{w:World}{K:Frag}{es:List Expr}{k1:Nat}{tp:Pos}(a b z TI TO i1 i2:Addr)(D:ZipApart z TI TO i1 i2 a b) :
 KI P w K (.Tuple es k1 tp) (Vd K a b) [z,TO,i1,i2,TI] z (λi h=>IsZip h z TI TO .none/\IsPair h TI (.ref i1) (.ref i2)/\(∃u v,IsPair h TO u v)/\h.IsListIter i1 a i/\h.IsListIter i2 b i) where
 mem:=by simp
 obj:=λi h st c F=>by
  obtain⟨e1,e2,⟨u,v,e3⟩,⟨o4,e4,c4,d4⟩,⟨o5,e5,c5,d5⟩⟩:=st;simp only[Aw,Bt,Ew]at F;rcases F with rfl|rfl|rfl|rfl|rfl
  .refine⟨_,e1,λv q=>?_⟩;have q':Data.fields _=Data.cell v:=q;cases q'
  .refine⟨_,e3,λv q=>?_⟩;have q':Data.seq _ _=Data.cell v:=q;cases q'
  .exact⟨o4,e4,λv q=>by rw[d4]at q;cases q⟩
  .exact⟨o5,e5,λv q=>by rw[d5]at q;cases q⟩
  .refine⟨_,e2,λv q=>?_⟩;have q':Data.seq _ _=Data.cell v:=q;cases q'
 keep:=λi h h' st k=>by
  obtain⟨e1,e2,⟨u,v,e3⟩,e4,e5⟩:=st;exact⟨k z (by simp) _ e1,k TI (by simp) _ e2,⟨u,v,k TO (by simp) _ e3⟩,e4.at λo e=>k i1 (by simp) o e,e5.at λo e=>k i2 (by simp) o e⟩
 item:=by
  intro X hP hw hK F i pins s σ H E I hf st hg;subst hP hw hK;obtain⟨xs,ys,x,y,ac,aa,hx,hy⟩:=hg;obtain⟨aw,rx,px,am⟩:=I.list ac;obtain⟨an,ry,py,av⟩:=I.list aa;obtain⟨ux,ap,ao⟩:=rx.get hx;obtain⟨uy,ak,al⟩:=ry.get hy;obtain⟨hz,J,⟨u,v,Z⟩,ľ,Y⟩:=st;have aj:z<s.heap.objs.size:=Am hz;refine wpAny_pyNext_zip_item D hz J Z ľ Y px.isList py.isList (x:=ux) (y:=uy) (by simpa using ap) (by simpa using ak) λh1 ax af ah ag ar ay ai=>⟨_,rfl,?_⟩
  refine wpAny_letOwnedTupleGo_zip ax λh2 aq G=>?_
  replace G:Heap.SameBut z h1 h2:=G
  have au:h2.get? s.heap.objs.size=some { cls:=.type "tuple",data:=.seq #[ux,uy] }:=(G.2 _ (Co aj)).trans ar;have kk:∀c o,c∉[z,TO,i1,i2]->s.heap.get? c=some o->h2.get? c=some o:=λc o F q=>by
   have n1:c≠z:=λe=>F (by simp[e])
   have n2:c≠TO:=λe=>F (by simp[e])
   have n3:c≠i1:=λe=>F (by simp[e])
   have n4:c≠i2:=λe=>F (by simp[e])
   exact(G.2 c n1).trans (ai c o n1 n2 n3 n4 q)
  have hn:H s.heap.objs.size=none:=I.Í.fresh (Aa _);have ad:∀c∈[z,TO,i1,i2],DH X pins H c:=λc F=>hf c (by
   simp only[Aw,Bt,Ew]at F⊢;rcases F with e|e|e|e<;>simp[e])
  have I2:AF X pins σ (upd H s.heap.objs.size (.tup [x,y])) { s with heap:=h2,toks:=s.toks } :=
   I.vj kk ad (Aa _) ⟨Bh rfl,[ux,uy],.cons ao (.cons al .nil),⟨_,au,rfl,0,rfl⟩⟩
  have ae:IsPair h2 TI (.ref i1) (.ref i2):=(G.2 _ D.TIz).trans (ai TI _ D.TIz D.TITO D.TIi1 D.TIi2 J);refine⟨.ref s.heap.objs.size,_,I2,rfl,⟨_,x,y,rfl,hn,λzs h=>by rw[I.Ŏ h ac];exact hx,λzs h=>by rw[I.Ŏ h aa];exact hy,rfl⟩,
   ⟨aq,ae,⟨ux,uy,(G.2 _ D.TOz).trans af⟩,ah.extBut G.extBut D.i1z,ag.extBut G.extBut D.i2z⟩,λc F=>?_⟩
  rw[BE]
  .exact(hf c F).1
  .have lt:∀d o,s.heap.get? d=some o->d≠s.heap.objs.size:=λd o e=>B8 (Am e)
   obtain⟨o4,e4,_⟩:=ľ;obtain⟨o5,e5,_⟩:=Y;simp only[Aw,Bt,Ew]at F;rcases F with rfl|rfl|rfl|rfl|rfl
   .exact lt _ _ hz
   .exact lt _ _ Z
   .exact lt _ _ e4
   .exact lt _ _ e5
   .exact lt _ _ J
 done:=by
  intro X hP hw hK F i pins s σ H E I hf st hg;subst hP hw hK;obtain⟨xs,ys,ac,aa,hx⟩:=hg;obtain⟨aw,rx,px,am⟩:=I.list ac;obtain⟨an,ry,py,av⟩:=I.list aa;obtain⟨hz,J,⟨u,v,Z⟩,ľ,Y⟩:=st;have az:=rx.length;have aA:=ry.length;refine wpAny_pyNext_zip_end (I.ok.hd F) D hz J Z ľ Y px.isList py.isList ?_ λh' eb=>⟨rfl,?_⟩
  .rcases hx with h|h
   .exact .inl (by simp;lia)
   .exact .inr (by simp;lia)
  .have ad:∀c∈[z,TO,i1,i2],DH X pins H c:=λc F=>hf c (by
    simp only[Aw,Bt,Ew]at F⊢;rcases F with e|e|e|e<;>simp[e])
   exact I.wj (t':=s.toks) (λc o F q=>eb c o (λe=>F (by simp[e])) (λe=>F (by simp[e])) (λe=>F (by simp[e])) (λe=>F (by simp[e])) q) ad
 self:=λ_ _ _ _ _ st h=>Iv st.1 h
def Yg:bootBuiltins "zip"=some (.type "zip"):=by decide +kernel
section
variable {X:Cx}{es:List Expr}{k1:Nat}{tp:Pos}
def Rx(K:Frag)(ta:TA):TI:=λσ H R=>ta σ H λvs H1=>∃a b,vs=[.ref a,.ref b]/\(∃xs,AH K H1 a xs)/\(∃ys,AH K H1 b ys)/\R (Vd K a b) H1
def jr{a b:Expr}{ta:TA}{p pos:Pos}(hg:Gl X "zip")(hm:X.mg "zip"=none)(ha:PA X [a,b] ta)(hs:starEach [a,b] X.env=[(false,eval a X.env),(false,eval b X.env)]:=by rfl)(hs2:starEach [b] X.env=[(false,eval b X.env)]:=by rfl) :
 PI X (.Tuple es k1 tp) (.Call (.Name "zip" p) [a,b] [] pos) (Rx X.K ta):=by
 intro pins s σ H R I h;refine Bs (LH I hg hm Yg (Bq (AV (ha pos pins s σ H _ I h) λus F ⟨vs,H1,J,r1,q1⟩=>?_) (by rw[hs,hs2]) (by rw[hs2];rfl)));obtain⟨l1,l2,rfl,⟨xs,Z⟩,⟨ys,ac⟩,q⟩:=q1;obtain⟨u1,u2,rfl,ae,ad⟩:=Sw r1;cases ae;cases ad;obtain⟨af,rx,px,ag⟩:=J.list Z;obtain⟨ai,ry,py,ah⟩:=J.list ac;have a1:l1<F.heap.objs.size:=by obtain⟨_,e,_⟩:=px.isList;exact Am e
 have a2:l2<F.heap.objs.size:=by obtain⟨_,e,_⟩:=py.isList;exact Am e
 refine call_zip_2 px.isList py.isList λh' hz W aa ľ Y hsz hk=>Iv hz ⟨F.heap.objs.size+4,[F.heap.objs.size+4,F.heap.objs.size+3,F.heap.objs.size,F.heap.objs.size+1,F.heap.objs.size+2],_,_,H1,rfl,J.kept (t':=F.toks) hk,jq l1 l2 _ _ _ _ _ (zipApart_new a1 a2),⟨hz,W,⟨_,_,aa⟩,ľ,Y⟩,λc hc=>?_,q⟩
 have G:F.heap.objs.size<=c:=by
  grind
 exact J.vG G (J.Í.fresh G)
end
def Yh{K:Frag}{a b:Addr}{xs ys:List V}{g:TG}{tc:TT}{te:TE}{D:Addr}{σ:St}{H:Hp}{Q:VK}(aa:ys.length<=xs.length)(G:Nat->List V->St->Hp->Prop)(h0:G 0 [] σ (upd H D (.lst [])))(hl:∀i zs σ H,i<=ys.length->G i zs σ H->AH K H a xs/\AH K H b ys)
 (hs:∀i x y t zs σ H,xs[i]?=some x->ys[i]?=some y->i<ys.length->G i zs σ H->H t=none->g (.ref t) σ (upd H t (.tup [x,y])) λF H4=>tc F H4 λb H5=>if b=true then te F H5 (O3 D ys.length i G F)else OO ys.length i G F H5)
 (hd:∀zs σ H,G ys.length zs σ H->Q (.ref D) H) :
 OL (Vd K a b) g tc te D Q σ H:=by
 refine AX (λi m σ H=>m=ys.length-i/\i<=ys.length/\∃zs,G i zs σ H) (CC ⟨ys.length,by simp,Bj _,[],h0⟩ ?_);rintro i m σ H ⟨rfl,hi,zs,p⟩;obtain⟨qx,qy⟩:=hl i zs σ H hi p;by_cases I:i<ys.length
 .have Z:i<xs.length:=by lia
  refine .inr ⟨⟨xs,ys,xs[i],ys[i],qx,qy,by simp[Z],by simp[I]⟩,λv H' y=>?_⟩;revert y;refine FT λt x y=>FL λJ hn hx hy Y=>?_;subst J;subst Y;exact hs i x y t zs σ _ (hx xs qx) (hy ys qy) I p hn
 .have e:i=ys.length:=by lia
  subst e;exact .inl ⟨⟨xs,ys,qx,qy,.inr (Aa _)⟩,hd zs σ H p⟩
section
variable {X:Cx}(K:Frag) (hK:X.K=K)
include hK
theorem Yi(F:Gl X "zip")(hm:X.mg "zip"=none)(ha:PA X [a,b] ta)(hs:starEach [a,b] X.env=[(false,eval a X.env),(false,eval b X.env)]:=by rfl)(hs2:starEach [b] X.env=[(false,eval b X.env)]:=by rfl) :
 PI X (.Tuple es k1 tp) (.Call (.Name "zip" p) [a,b] [] pos) (Rx K ta):=by subst hK;exact jr F hm ha hs hs2
end
end L2
namespace Lns
open PySem L2
def KC(no:Addr)(H:Hp)(v:V)(ws:List Str):Prop:=∃p,v=.ref p/\p≠no/\H p=some (.lst (ws.map V.str))
def KC.same(h:KC no H v ws)(s:AD H H'):KC no H' v ws:=let ⟨p,e,n,h⟩:=h;⟨p,e,n,s _ _ h⟩
def Yj(h:Paired (KC no H) xs ls)(s:AD H H'):Paired (KC no H') xs ls:=Paired.à h λ_ _ z=>z.same s
def Yk(h:Paired (KC no H) xs ls):Paired (KC no (upd H no o)) xs ls :=
 Paired.à h λ_ _ ⟨p,e,n,z⟩=>⟨p,e,n,by rw[BE n];exact z⟩
def Yl(h:Paired (KC no H) xs ls):xs.length=ls.length:=B4 h
abbrev Ve(ls:List (List Str)):PyData:=.list (ls.map Ln.Nu)
theorem Vf:∀{xs:List V}{ls:List (List Str)},Paired (KC no H) xs ls->(∀l∈ls,∀x∈l,PyData.canLay0 (.str x)=true)->IE K H xs (ls.map Ln.Nu)
 | _,_,.nil,_=>.nil
 | _,_,.cons ⟨p,e,_,h⟩ r,c=>by
   subst e;exact .cons (.lst (AH.of h) (Ln.Vb λx G=>c _ Al x G)) (Vf r λl F=>c l (Ah _ F))
theorem Ym:∀ls:List (List Str),PyData.depthAll (ls.map Ln.Nu)<=1
 | []=>Bj _
 | l::ls=>by
   show max (Ln.Nu l).depth (PyData.depthAll (ls.map Ln.Nu))<=1;have q:(Ln.Nu l).depth=PyData.depthAll (l.map PyData.str)+1:=rfl;have:=Ln.Vc l;have:=Ym ls
   lia
def jt(ls:List (List Str))(e:PyData):min (Ve ls).depth e.depth<=64:=by
 have q:(Ve ls).depth=PyData.depthAll (ls.map Ln.Nu)+1:=rfl;have:=Ym ls
 lia
def ju(x:Str):("":Str)++x=x:=by
 show(⟨(#[]:Array Nat)++x.cps⟩:Str)=x;rw[Array.empty_append]
theorem T3(x:Str):x++("":Str)=x:=by
 show(⟨x.cps++(#[]:Array Nat)⟩:Str)=x;rw[K2]
def L9(ws:List Str):Str:=Txt.join " " ws
def HU:List (List Str)->Str
 | []=>""
 | l::r=>L9 l++"/"++HU r
def jv(l:List Str):HU [l]=L9 l++"/":=T3 _
def jw:∀ls:List (List Str),Txt.join "" (ls.map λl=>L9 l++"/")=HU ls:=by
 intro ls;unfold Txt.join;rw[Cb];induction ls with
 | nil=>rfl
 | cons l r ih =>
   cases r with
   | nil=>exact(jv l).symm
   | cons F r =>
     grind[L9,Str.join,HU,T3]
def Qi(ls:List (List Str)):Prop:=ls.length<=100/\∀l∈ls,l.length<=100/\∀x∈l,x.length<=100
theorem T4{α:Type}(f:α->Nat)(B:Nat):∀l:List α,(∀x∈l,f x<=B)->(l.map f).sum<=l.length*B
 | [],_=>by simp
 | x::l,h=>by
   have h1:=h x Al;have h2:=T4 f B l λy F=>h y (Ah _ F)
   rw[Bl,Eu,Bw,Nat.succ_mul]
   lia
def T5{α:Type}(f:α->Nat)(B N:Nat)(l:List α)(h:∀x∈l,f x<=B)(hn:l.length<=N):(l.map f).sum<=N*B :=
 Bk (T4 f B l h) (Nat.mul_le_mul_right _ hn)
def Yn{l:List Str}(h1:l.length<=100)(h2:∀x∈l,x.length<=100):(l.map (·.length)).sum+l.length*(" ":Str).length<=16777216:=by
 have a:=T5 (λx:Str=>x.length) 100 100 l h2 h1;have e:(" ":Str).length=1:=by decide
 lia
def Yo(h1:l.length<=100)(h2:∀x∈l,x.length<=100):(L9 l).length<=10100:=by
 have a:=T5 (λx:Str=>x.length) 100 100 l h2 h1;have a:=a;have b:=StrLaws.join_length_le " " l;have e:(" ":Str).length=1:=by decide
 unfold L9 Txt.join;rw[Cb]
 lia
def jx(h:Qi ls):((ls.map λl=>L9 l++"/").map (·.length)).sum+(ls.map λl=>L9 l++"/").length*("":Str).length<=16777216:=by
 rw[List.map_map,A8];have a:=T5 ((λx:Str=>x.length)∘λl=>L9 l++"/") 10101 100 ls (λl F=>by
  obtain⟨h1,h2⟩:=h.2 l F;have:=Yo h1 h2;show(L9 l++"/").length<=10101;rw[Fl];have e:("/":Str).length=1:=by decide
  have e:=e
  lia) h.1
 have e:("":Str).length=0:=by decide
 lia
def jy{α:Type}(f:α->V)(F:List α)(last:α):EJ ((F++[last]).map f) none (some (-1))=F.map f:=by
 have G:((F++[last]).map f).length=F.length+1:=by rw[A8,B5];rfl
 have I:HT.CY (F.length+1) 0 none=0:=rfl;have h1:HT.CY (F.length+1) (F.length+1) (some (-1))=F.length:=by
  unfold HT.CY;simp
  lia
 unfold EJ
 grind
end Lns
namespace L2
open PySem PySem.Spec PyProof.Rows PySem.Builtin PySem.Builtin.Str
section
variable {X:Cx}
theorem Yp:∀(tk:Nat) (xs:List Str),AM (xs.map V.str) (strsFrom tk xs)
 | _,[]=>.nil
 | tk,x::r=>.cons ⟨tk,rfl⟩ (Yp (tk+1) r)
def jz(x y:Str):(partsBetween x (occurrences x y 0 x.length (x.length+1)) y.length).length<=x.length+2:=by
 unfold partsBetween;have:=StrLaws.occ_length_le x y 0 x.length (x.length+1)
 grind
def Vg(x y:Str):(Txt.split x y).length<=x.length+2:=by
 have:=jz x y;unfold Txt.split
 grind
def OR:V->List V->Hp->VK->Prop:=λx xs H Q=>∃z y,x=.str z/\xs=[.str y]/\1<=y.length/\z.length<=90000/\∀D,H D=none->Q (.ref D) (upd H D (.lst ((Txt.split z y).map V.str)))
def T6:OF X "str.split" OR:=by
 rintro pins s σ H v0 xs v us Q I W rs ⟨x,y,rfl,rfl,J,Z,q⟩;obtain⟨t,rfl⟩:=W;obtain⟨Y,rfl,u,rfl⟩:=Kk rs;have G:(y.length==0)=false:=by
  rw[Cv]
  lia
 have hq:=q s.heap.objs.size I.fresh;have hz:(Txt.split x y).length<=sizeLine:=Bk (Vg x y) (DU (by lia));cases h1:(decide (x.length<y.length)||decide (strKind x<strKind y))
 .cases hf:(occurrences x y 0 x.length (x.length+1)).isEmpty
  .have e:Txt.split x y=partsBetween x (occurrences x y 0 x.length (x.length+1)) y.length:=by
    unfold Txt.split
    lia
   rw[e]at hq hz
   exact Eh Iw (Fu _ _ _) Hy (Gn _ _) (meets_str_split_sep x y t u h1 G hf (DU (by lia)) hz) ⟨.ref _,_,I.vR (Yp _ _) (by rw[A8];exact hz),rfl,hq⟩
  .have e:Txt.split x y=[x]:=by
    unfold Txt.split
    lia
   rw[e]at hq
   exact Eh Iw (Fu _ _ _) Hy (Gn _ _) (meets_str_split_not_found x y t u h1 G hf)
    ⟨.ref _,_,I.vR (t':=s.toks) (its:=[.str x t]) (ys:=[.str x]) (.cons ⟨t,rfl⟩ .nil) (by show 1<=sizeLine;exact DU (by lia)),rfl,hq⟩
 .have e:Txt.split x y=[x]:=by
   unfold Txt.split;rw[Au h1]
  rw[e]at hq
  exact Eh Iw (Fu _ _ _) Hy (Gn _ _) (meets_str_split_cannot_occur x y t u h1)
   ⟨.ref _,_,I.vR (t':=s.toks) (its:=[.str x t]) (ys:=[.str x]) (.cons ⟨t,rfl⟩ .nil) (by show 1<=sizeLine;exact DU (by lia)),rfl,hq⟩
end
end L2
namespace Lns
open PySem L2
def Yq{x y:Str}(h:x.cps.toList=y.cps.toList):x=y:=Str.ext' (Array.toList_inj.mp h)
def T7(x y:Str):(x++y).cps.toList=x.cps.toList++y.cps.toList:=by rw[Str.cps_append,Jy]
def Vh{α:Type}(F:List α)(last:α):EN (F++[last]) (-1)=some last:=by
 have h:MW (F.length+1) (-1)=some F.length:=by
  unfold MW
  grind
 unfold EN
 grind
def Nx(H0:Hp)(no:Addr)(H:Hp)(v:V)(ws:List Str):Prop:=∃p,v=.ref p/\p≠no/\H0 p=none/\H p=some (.lst (ws.map V.str))
def Nx.n(h:Paired (Nx H0 no H) xs ls):Paired (KC no H) xs ls:=Paired.à h λ_ _ ⟨p,e,n,_,z⟩=>⟨p,e,n,z⟩
def jA(h:Paired (Nx H0 no H) xs ls)(s:AD H H'):Paired (Nx H0 no H') xs ls:=Paired.à h λ_ _ ⟨p,e,n,f,z⟩=>⟨p,e,n,f,s _ _ z⟩
def jB(h:Paired (Nx H0 no H) xs ls):Paired (Nx H0 no (upd H no o)) xs ls :=
 Paired.à h λ_ _ ⟨p,e,n,f,z⟩=>⟨p,e,n,f,by rw[BE n];exact z⟩
def Yr(h:Paired (Nx H0 no H) xs ls):xs.length=ls.length:=B4 h
def T8{α β:Type}{F:α->β->Prop}{a c:List α}{b d:List β}(x:Paired F a b)(h:Paired F c d):Paired F (a++c) (b++d):=by
 induction x with
 | nil=>exact h
 | cons r _ ih=>exact .cons r ih
def La(c:Nat):Bool:=!decide (c=32)&&!decide (c=47)
def Ld(rs:List Cs.BN):Bool->List Nat->Bool
 | _,[]=>true
 | p,c::r=>if La c=true then(Cs.DW rs (sg c)).isSome&&Ld rs true r else p&&Ld rs false r
def T9(rs:List Cs.BN)(ks:List Nat)(i:Nat):Bool :=
 match ks[i]? with
 | none=>false
 | some c=>if La c=true then(Cs.DW rs (sg c)).isSome else decide (0<i)&&(match ks[i-1]? with|none=>false|some d=>La d)
theorem Vi:∀{ks:List Nat}{p:Bool},Ld rs p ks=true->∀(i:Nat) c,ks[i]?=some c ->
 if La c=true then(Cs.DW rs (sg c)).isSome=true else(i=0/\p=true)\/∃j d,i=j+1/\ks[j]?=some d/\La d=true
 | [],_,_,i,c,h=>by simp at h
 | k::r,p,ok,0,c,h=>by
   have h:k=c:=by simpa using h
   subst h;unfold Ld at ok;by_cases F:La k=true
   .rw[Au F]at ok⊢
    exact(Ct.mp ok).1
   .rw[As F]at ok⊢
    exact .inl ⟨rfl,(Ct.mp ok).1⟩
 | k::r,p,ok,i+1,c,h=>by
   have h:r[i]?=some c:=by simpa using h
   unfold Ld at ok;by_cases F:La k=true
   .rw[Au F]at ok
    have ih:=Vi (Ct.mp ok).2 i c h;by_cases G:La c=true
    .rw[Au G]at ih⊢
     exact ih
    .rw[As G]at ih⊢
     rcases ih with⟨rfl,_⟩|⟨j,d,rfl,I,hd⟩
     .exact .inr ⟨0,k,rfl,rfl,F⟩
     .exact .inr ⟨j+1,d,rfl,by simpa using I,hd⟩
   .rw[As F]at ok
    have ih:=Vi (Ct.mp ok).2 i c h;by_cases G:La c=true
    .rw[Au G]at ih⊢
     exact ih
    .rw[As G]at ih⊢
     rcases ih with⟨_,e⟩|⟨j,d,rfl,I,hd⟩
     .cases e
     .exact .inr ⟨j+1,d,rfl,by simpa using I,hd⟩
def jC(ok:Ld rs false ks=true)(hi:i<ks.length):T9 rs ks i=true:=by
 have h:=Vi ok i ks[i] (A9 hi);unfold T9
 grind
end Lns
namespace L2
open PySem PySem.Spec PyProof.Rows
section
variable {M:Model}{A:Around}{E:Value->Shared->Prop}{s:Shared}
def Qj(S:List Addr)(ch:List Addr)(h h':Heap):Prop:=∀b o,h.get? b=some o->b∉ch->(b∉S->h'.get? b=some o)/\∃F,h'.get? b=some { o with slots:=F }
def jD(o:Obj)(f):(o.mapFields f).dict=o.dict:=by
 obtain⟨c,d,F,G⟩:=o;cases F<;>rfl
def KQ(P:Heap->Value->Prop)(h:Heap)(e:Addr)(cls:Value)(dx:Option Addr):Prop :=
 ∃F vs hd,h.get? e=some F/\F.cls=cls/\F.dict=dx/\F.data=.fields vs/\(vs[1]?=some hd/\vs[2]?=some .none)/\P h hd
def GN(F:Addr->Prop)(e:Addr)(x:Value)(h:Heap)(hd:Value):Prop:=∃T I G,hd=.ref T/\F T/\T≠e/\h.get? T=some I/\I.data=.fields G/\G[3]?=some x
def Ys(ad:A.frames=some (env::outer))(hl:s.heap.FunFrames base (env::outer))(hf:env.frame=some L)(he:s.heap.get? e=some oe)(hd:oe.data=.fields vs)(hsz:1<vs.size)(hcx:vs[2]?=some .none)(h:∀h',s.heap.objs.size<=h'.objs.size->Qj ((env::outer).filterMap (·.frame)) [e] s.heap h'->KQ (GN (λb=>s.heap.objs.size<=b) e (rawInt L)) h' e oe.cls oe.dict->Q () { s with heap:=h' }) :
 wpAny M A (do let a <- frameOf env;let pl <- entryPlaceOf L hadNext;let b <- EntryCells.newEntry head a .none (rawInt L) .none pl;setField (.ref e) 1 b) Q E s:=by
 have Z:e∉(env::outer).filterMap (·.frame):=λhm=>by
  obtain⟨_,o,ho,af⟩:=hl.mem hm
  grind
 refine A6 (wpAny_frameOf_fun ad hl hf λF G=>A6 (wpAny_entryPlaceOf λpl ae=>?_));unfold EntryCells.newEntry newFields;refine A6 (C3 ?_ (ae.sizeOk5 _ _ _ _ _));have I:=(G.2.1 e Z).trans he;have J:=A7 (h:=F) { cls:=.type "traceback",dict:=none,data:=.fields ([head,.ref L,.none,rawInt L,.none]++(if pl.isEmpty then List.replicate 6 Value.none else pl)).toArray } I;refine Gp J hd hsz ?_;have aa:=Co (Am I);have W:=Gq hd (·.setIfInBounds 1 (Value.ref F.objs.size));have Y:=(B2 (F.push { cls:=.type "traceback",dict:=none,data:=.fields ([head,.ref L,.none,rawInt L,.none]++(if pl.isEmpty then List.replicate 6 Value.none else pl)).toArray })
  (Obj.mapFields (·.setIfInBounds 1 (Value.ref F.objs.size))) (Cc aa)).trans (Ax F rfl)
 have ac:=G.1;refine h _ ?_ ?_ ?_
 .simp_all
 .intro b o hb hn;have ag:=λq=>hn (Az.mpr q)
  have keep:∀o,F.get? b=some o->((F.push { cls:=.type "traceback",dict:=none,data:=.fields ([head,.ref L,.none,rawInt L,.none]++(if pl.isEmpty then List.replicate 6 Value.none else pl)).toArray }).update e (Obj.mapFields (·.setIfInBounds 1 (Value.ref F.objs.size)))).get? b=some o:=λo hb=>by
   simp_all[B2,Cc,A7]
  refine⟨λhS=>keep o ((G.2.1 b hS).trans hb),?_⟩;obtain⟨sl,hs⟩:=G.2.2 b o hb;exact⟨sl,keep _ hs⟩
 .exact⟨_,_,.ref F.objs.size,Bn (Obj.mapFields (·.setIfInBounds 1 (Value.ref F.objs.size))) J (Do W),Obj.cls_mapFields _ _,jD _ _,W,⟨by simp[hsz],by rw[Array.getElem?_setIfInBounds_ne (by decide)];exact hcx⟩,F.objs.size,_,_,rfl,Fb ac.symm,aa,Y,rfl,by simp⟩
def KQ.mono(x:KQ P h e cls dx)(f:∀hd,P h hd->P' h hd):KQ P' h e cls dx :=
 let ⟨oe,vs,hd,a,b,c,d,g,p⟩:=x
 ⟨oe,vs,hd,a,b,c,d,g,f hd p⟩
def GN.mono{hd:Value}(t:GN F e x h hd)(f:∀b,F b->F' b):GN F' e x h hd :=
 let ⟨T,oT,ts,a,b,c⟩:=t
 ⟨T,oT,ts,a,f T b,c⟩
def Ry(F:Addr->Prop)(e L:Addr)(h:Heap)(hd:Value):Prop:=hd=.none\/∃x,GN F e x h hd
def OT(F:Addr->Prop)(h:Heap)(ch:List Addr):Prop:=∀b∈ch,F b/\∃o vs,h.get? b=some o/\o.data=.fields vs
def jE(S ch:List Addr)(h:Heap):Qj S ch h h:=λ_ o e _=>⟨λ_=>e,o.slots,e⟩
def Yt(ac:A.frames=some (env::outer))(hl:s.heap.FunFrames base (env::outer))(hf:env.frame=some L)(hF:∀b,s.heap.objs.size<=b->F b)(af:F e)(hx:KQ (Ry F e L) s.heap e cls dx)(h:∀h' ch,OT F s.heap ch->s.heap.objs.size<=h'.objs.size->Qj ((env::outer).filterMap (·.frame)) ch s.heap h'->KQ (GN F e (rawInt L)) h' e cls dx->Q () { s with heap:=h' }) :
 wpAny M A (noteFrame (.ref e) env) Q E s:=by
 obtain⟨oe,vs,hd,he,rfl,rfl,J,h1,hp⟩:=hx;have hsz:=(El.mp h1.1).1;unfold noteFrame;simp only[hf];refine A6 (Bz he J h1.1 ?_);rcases hp with rfl|⟨x,T,oT,ts,rfl,ag,ae,hT,W,h3⟩
 .rw[As (by decide)];exact Ys ac hl hf he J hsz h1.2 λh' hs aa hx=>h h' [e] (λb hb=>by rw[Az.mp hb];exact⟨af,_,_,he,J⟩) hs aa (hx.mono λhd t=>t.mono hF)
 by_cases Z:(x==rawInt L)=true
 .rw[Au (by simp)];refine A6 (Bz hT W h3 ?_);rw[Au Z];have h3:ts[3]?=some (rawInt L):=by rw[h3,eq_of_beq Z]
  exact Ab (h s.heap [] (λb hb=>nomatch hb) (Aa _) (jE _ _ _) ⟨oe,vs,_,he,rfl,rfl,J,h1,T,oT,ts,rfl,ag,ae,hT,W,h3⟩)
 .rw[Au (by simp)];refine A6 (Bz hT W h3 ?_);rw[As Z];refine A6 (Gp hT W (El.mp h3).1 ?_);have G:∀b,b≠T->(s.heap.update T (Obj.mapFields (·.setIfInBounds 3 Value.none))).get? b=s.heap.get? b:=λb hb=>B2 _ _ (Cc hb)
  have I:∀b o,s.heap.get? b=some o->(∀vs,o.data≠.fields vs)->b≠T:=λb o hb ad q=>by
   grind
  have Y:(s.heap.update T (Obj.mapFields (·.setIfInBounds 3 Value.none))).objs.size=s.heap.objs.size:=Fm ..;refine Ys (s:={ s with heap:=s.heap.update T (Obj.mapFields (·.setIfInBounds 3 Value.none)) }) ac (hl.of_keeps λb o hb ad=>⟨o,(G b (I b o hb ad)).trans hb,rfl⟩) hf ((G e (Cc ae)).trans he) J hsz h1.2 λh' hs aa hx=>h h' [e,T] (λb hb=>?_) (Bk (Fb Y.symm) hs) (λb o hb hn=>?_) (hx.mono λhd t=>t.mono λb hb=>hF b (Bk (Fb Y.symm) hb))
  .grind
  .have ah:b≠T:=λq=>hn (by rw[q];exact Ah _ Al)
   exact aa b o ((G b ah).trans hb) λq=>hn (by rw[Az.mp q];exact Al)
def jF(ac:F e)(hx:KQ (GN F e x) s.heap e cls dx)(h:∀h' ch,OT F s.heap ch->s.heap.objs.size<=h'.objs.size->Qj S ch s.heap h'->KQ (GN F e (fr.elim .none λf=>rawInt f)) h' e cls dx->Q () { s with heap:=h' }) :
 wpAny M A (setFlight (.ref e) fr) Q E s:=by
 obtain⟨oe,vs,hd,he,rfl,rfl,J,h1,T,oT,ts,rfl,Y,Z,hT,I,h3⟩:=hx;unfold setFlight;refine A6 (Bz he J h1.1 ?_);rw[Au (by simp)];have W:=(El.mp h3).1;refine Gp hT I W (h _ [T] (λb hb=>by rw[Az.mp hb];exact⟨Y,_,_,hT,I⟩) (Fb (Fm ..).symm) (λb o hb hn=>?_) ?_)
 .have aa:T≠b:=λq=>hn (by rw[q];exact Al)
  have k:=(B2 s.heap (Obj.mapFields (·.setIfInBounds 3 (fr.elim Value.none λf=>rawInt f))) aa).trans hb;exact⟨λ_=>k,o.slots,k⟩
 .have G:=Gq I (·.setIfInBounds 3 (fr.elim Value.none λf=>rawInt f));exact⟨oe,vs,_,(B2 _ _ Z).trans he,rfl,rfl,J,h1,T,_,_,rfl,Y,Z,Bn _ hT (Do G),G,by simp[W]⟩
end
def KS(X:Cx)(H:Hp)(b:Addr):Prop:=X.Ã.heap.objs.size<=b/\H b=none/\∀p∈X.pn,p.1≠b
section
variable {X:Cx}{pins:List (Addr×Obj)}{σ:St}{H:Hp}{s:Shared}
def jG{H:Hp}(Í:FP P w H h)(k:∀b o,h.get? b=some o->H b≠none->h'.get? b=some o):FP P w H h':=λa o e =>
 (Í a o e).ű (λb u hb q=>k b u q (by
   rcases hb with rfl|hb
   .rw[e];exact λz=>nomatch z
   .rw[hb];exact λz=>nomatch z)) (λ_ q=>q) λ_ _ q=>q
def AF.exc(I:AF X [] σ H s)(hr:OT (KS X H) s.heap ch)(st:Qj (Kw X.stack) ch s.heap h'):AF X [] σ H { s with heap:=h' }:=by
 have W:∀b,H b≠none->b∉ch:=λb hb q=>hb (hr b q).1.2.1
 have J:∀b,H b≠none->b∉Kw X.stack:=λb hb q=>hb (I.vi b q)
 refine AF.vD (ch:=ch) I rfl ⟨λb o q _ hb F=>(st b o q F).1 hb,λb o q _ _ F=>(st b o q F).2,λ_ _ _ q _=>q,λb o q F=>?_,λ_ _ q=>q,λ_ _ _ q=>q,λb ps q=>⟨#[],by rw[K2];exact q⟩⟩
  (jG I.Í λb o q hb=>(st b o q (W b hb)).1 (J b hb)) I.bare λb hb=>?_
 .obtain⟨sl,z⟩:=(st b o q F).2;exact⟨_,z⟩
 .obtain⟨⟨h1,h2,h3⟩,o,vs,ho,hd⟩:=hr b hb;refine⟨.inr h1,λq=>?_,λx c hc q=>?_,λp hp=>?_⟩
  .obtain⟨m,⟨Z,es,ep,Y,G,_⟩,_⟩:=I.loc
   lia
  .obtain⟨v,Z,Y,G⟩:=I.cell x c hc
   lia
  grind
end
def EF(X:Cx)(E:St->XK)(F:Value)(s:Shared):Prop:=∃e cls dx σ H L,F=.ref e/\X.env.frame=some L/\AF X [] σ H s/\KS X H e/\KQ (Ry (KS X H) e L) s.heap e cls dx/\E σ cls dx H
abbrev DG(P:Program)(w:World):KL:=λouter H s E F s'=>∃e cls dx H',F=.ref e/\s'.os=s.os/\AllBare s'.gens/\Un (Kw outer) [] H H' s.heap s'.heap/\FP P w H' s'.heap /\
 (s.heap.objs.size<=e/\H' e=none)/\KQ (GN (λb=>s.heap.objs.size<=b/\H' b=none) e .none) s'.heap e cls dx/\E cls dx H'
section
variable {X:Cx}{pins:List (Addr×Obj)}{σ:St}{H:Hp}{s:Shared}
def AF.Ŧ(I:AF X pins σ H s):AF X [] σ H s:=⟨I.ok,I.os,I.bare,I.base,I.loc,I.cell,I.free,I.ú,λp F=>I.pin p (Cd _ (by rwa [Be]at F)),I.Í,I.len⟩
def AF.vS(I:AF X pins σ H s)(h:s.heap.objs.size<=b):∀p∈X.pn,p.1≠b:=λp F q=>by
 have:=Am (I.pin p (Cd _ F)).1;exact absurd (Bc this h) (by rw[q];exact Ce _)
def AF.wL(I:AF X pins σ H s)(h:s.heap.objs.size<=b):KS X H b:=⟨Bk I.sz h,I.Í.fresh h,I.vS h⟩
def Vj(hA:A.frames=some X.stack)(F:X.stack=X.env::X.outer)(h:EF X E ev s)(q:∀h' e cls dx σ H L,ev=.ref e->X.env.frame=some L->AF X [] σ H { s with heap:=h' }->KS X H e->KQ (GN (KS X H) e (rawInt L)) h' e cls dx->E σ cls dx H->Q () { s with heap:=h' }) :
 wpAny M A (noteFrame ev X.env) Q N s:=by
 revert h;refine EM λe cls dx σ H=>ES λL=>GH λG W I Z hx hE=>?_;subst G;have Y:=I.stack;rw[F]at hA Y
 exact Yt hA Y W (λb hb=>I.wL hb) Z hx λh' ch hr hs st J=>q h' e cls dx σ H L rfl W (I.exc hr (by rw[F];exact st)) Z J hE
def Rz(I:AF X [] σ H s)(he:KS X H e)(hx:KQ (GN (KS X H) e x) s.heap e cls dx)(q:∀h',AF X [] σ H { s with heap:=h' }->KQ (GN (KS X H) e (fr.elim .none λf=>rawInt f)) h' e cls dx->Q () { s with heap:=h' }) :
 wpAny M A (setFlight (.ref e) fr) Q N s :=
 jF (S:=Kw X.stack) he hx λh' _ G _ st F=>q h' (I.exc G st) F
def O8(W:X.stack=X.env::X.outer):PassesOwn M X.A X.env (EF X E):=by
 intro ev s h;have hA:=let ⟨_,_,_,_,_,_,_,_,I,_⟩:=h;I.ok.frames
 refine Vj hA W h λh' e cls dx σ H L J Y I he Z hE=>?_;subst J;obtain⟨oe,vs,hd,ho,hc,aa,G,h1,T,oT,ts,rfl,r⟩:=id Z;unfold cameBackBy;refine A6 (Bz (s:={ s with heap:=h' }) ho G h1.1 ?_);rw[As (show ¬((Value.ref T==Value.none)=true)from by simp),Y];exact Rz (s:={ s with heap:=h' }) (fr:=some L) I he Z λh2 I2 F=>⟨e,cls,dx,σ,H,L,rfl,Y,I2,he,F.mono λhd t=>.inr ⟨_,t⟩,hE⟩
def IP.wG{F:Value->Shared->Prop}{st:List Stmt}{t:TS}(h:IP (X.Ü F) st t)(G:∀e s,F e s->X.xe e s):IP X st t:=λpins s σ H D I hw =>
 Bv (h pins s σ H D (I.Ü _) hw) (λ_ _ q=>q.ß) G
end
def Yu(sp:Sp)(E:St->XK)(t:TA):TE:=λσ H Q=>t σ H λvs H1=>sp vs H1 Q (E σ)
section
variable {X:Cx}{k:Nat}{f L:Addr}{fd:FuncData}{ps:List Str}{sp:Sp}{E:St->XK}{x:Str}{p pos:Pos}{e:Expr}{es:List Expr}{t:TA}
def Yv(Y:X.env.frame=some L)(F:AG X.prog X.w X.K X.mg X.base (DG X.prog X.w) k f fd ps sp)(hr:BO k X.A)(hb:Kl X.K fd ps [])(I:AF (X.Ü (EF X E)) pins σ H s)(r:AM vs us)(h:sp vs H Q (E σ)):wpAny (model X.prog X.w) X.A (call (.ref f) us) (EP (X.Ü (EF X E)) pins σ Q) (EF X E) s:=by
 have hl:(us++[]).length=ps.length:=by rw[Be,<-r.length];exact F.len _ _ _ _ h
 have G:=hb s us I.Ĝ hl;rw[Be]at G
 refine Dl (De (F.run X.A X.stack s H ⟨us,[]⟩ us vs Q (E σ) hr I.wI G r h) λr s' hq=>?_);cases r with
 | error ev =>
   have hq:=hq;obtain⟨e,cls,dx,H',rfl,os,bare,un,Í,⟨h1,h2⟩,hx,Z⟩:=hq;have J:=I.ß;have W:AF X pins σ H' s':=J.vD (ch:=[]) os un Í bare λb z=>absurd z (by simp)
   exact DC e cls dx σ H' (AX L (GS rfl Y W.Ŧ ⟨Bk J.sz h1,h2,J.vS h1⟩ (hx.mono λhd t=>.inr ⟨_,t.mono λb hb=>⟨Bk J.sz hb.1,hb.2,J.vS hb.1⟩⟩) Z))
 | ok fl =>
   cases fl with
   | ret u=>exact I.after hq
   | next=>exact False.elim hq
   | brk=>exact False.elim hq
   | cont=>exact False.elim hq
def jH(Z:X.env.frame=some L)(F:AG X.prog X.w X.K X.mg X.base (DG X.prog X.w) k f fd ps sp)(hr:BO k X.A)(J:Gl X x)(hm:X.mg x=some (.ref f))(Y:PySem.W.keepIn X.K (.ref f)=true)(hb:Kl X.K fd ps [])
 (ha:PA (X.Ü (EF X E)) (e::es) t) (hdb:(x==("__debug__":Str))=false:=by decide) (he:starEach (e::es) X.env=(false,eval e X.env)::starEach es X.env:=by rfl) (hpl:(backTo pos (starEach es X.env)).any (·.1)=false:=by rfl) :
 PE (X.Ü (EF X E)) (.Call (.Name x p) (e::es) [] pos) (Yu sp E t):=by
 intro pins s σ H Q I h;exact Bs (MU I J hm (Cr (h₀:=X.base) I.ok.mod.wQ Y (AV (ha pos pins s σ H _ I h) λus s1 ⟨vs,H1,G,r,q⟩=>⟨G.Ĝ,Yv Z F hr hb G r q⟩) he hpl) hdb)
end
section
variable {P:Program}{w:World}{K:Frag}{mg:Str->Option Value}{base:Heap}
noncomputable abbrev Yw (P:Program) (w:World) (K:Frag) (mg:Str->Option Value) (base:Heap) (N:List Str) (qual:Str) (scope:Scope) (f:Addr) (cd:Value) (A:Around) (outer:List Env) (s:Shared) (H:Hp) (E:XK):Cx :=
 (HM (DG P w) P w K mg base N qual scope f cd A outer s H E).Ü (EF (HM (DG P w) P w K mg base N qual scope f cd A outer s H E) λ_=>E)
def Yx{N:List Str}{qual:Str}{scope:Scope}{f:Addr}{cd:Value}{A:Around}{outer:List Env}{s:Shared}{H:Hp}{E:XK} :
 ∀F s',EF (HM (DG P w) P w K mg base N qual scope f cd A outer s H E) (λ_=>E) F s'->(HM (DG P w) P w K mg base N qual scope f cd A outer s H E).xe F s':=by
 intro F s' h;show wpAny (model P w) (A.deeper (envOfC qual scope s.heap.objs.size f cd)) (leaving (envOfC qual scope s.heap.objs.size f cd) F) _ _ s';unfold leaving;refine A6 (Vj (X:=HM (DG P w) P w K mg base N qual scope f cd A outer s H E) (let ⟨_,_,_,_,_,_,_,_,I,_⟩:=h;I.ok.frames) rfl h λh' e cls dx σ H1 L W hL I Y hx Z=>?_);subst W;exact Rz (s:={ s' with heap:=h' }) (fr:=none) I Y hx λh2 G J=>⟨e,cls,dx,H1,rfl,G.os,G.bare,G.base,G.Í,⟨Y.1,Y.2.1⟩,J.mono λhd t=>t.mono λb hb=>⟨hb.1,hb.2.1⟩,Z⟩
def O0.Ő{x qual:Str}{st:Stmt}{f:Addr}{fd:FuncData}{N ps:List Str}{k:Nat}{sp:Sp}(F:O0 K x qual st f fd)(S:DV N ps (FV st))(len:∀vs H Q E,sp vs H Q E->vs.length=ps.length)
 (hbody:∀(G:Value) (A:Around) (outer:List Env) (s:Shared) (H:Hp) (vs:List V) (Q:VK) (E:XK),BO k (A.deeper (envOfC qual (FV st) s.heap.objs.size f G))->sp vs H Q E ->
   ∃t,IP (Yw P w K mg base N qual (FV st) f G A outer s H E) (IS st) t/\t { nx:=λ_ H'=>Q .non H',rt:=Q } (start N vs) H):AG P w K mg base (DG P w) (k+1) f fd ps sp:=by
 refine Sm F.ex λoc od kV doc pm=>GJ λan G ct Z=>FN λI lk W=>?_;subst I;refine SD lk W S len λA outer s H vs Q E Y J=>?_;refine DQ (hbody G A outer s H vs Q E Y J) λt=>BW λh q=>?_;exact AX t (CC (h.wG Yx) q)
end
open PySem.W PySem.Calls
abbrev Mu:List Value:=[.type "ValueError",.type "Exception",.type "BaseException",.type "object"]
section
variable {prog:Program}{w:World}{A:Around}{R:Result->Shared->Prop}{h:Heap}{g:Array GenState}{d:Drawn}{t:Nat}{os:OsState}
variable {nm q:Str}{C N:Addr}{bs bm:List Value}{hdct:Bool}{sn:List Str}{sub:List Value}{ab:Bool}{col:Option Bool}{dd:Option Addr}{k0 k1 k2 k3 k5:Option Value}
abbrev JV(C:Addr)(t:Addr)(dx:Option Addr):Obj:={ cls:=.ref C,dict:=dx,data:=.fields #[.ref t,.none,.none,.none,.bool false,.none] }
def jI{E:Value->Shared->Prop}{f:Addr}{mN:Str->Option Value}{rest:List Value}{Q:Fin->Shared->Prop}(T:OwnTail h Mu bm)(J:h.get? C=some (excClassObj nm q C N bs bm hdct sn sub ab col dd k0 k1 k2 k3 k5 "ValueError.__new__"))(hn:h.Ns N mN)
 (hni:mN "__init__"=some (.ref f)) (hb:∀self,Looks (model prog w) h (bindSpecial (.ref f) self) (.ref f,[self])) (hrest:rest.length<=sizeLine)
 (hq:codeAny (model prog w) A (.call (.ref f) ⟨.ref (h.objs.size+1)::rest,[]⟩) (λr s'=>match r with|.ok (.ret v)=>v=.none/\Q (.done (.ret (.ref (h.objs.size+1)))) s'|.ok _=>False|.error x=>E x s')
   ⟨(h.push { cls:=.type "tuple",data:=.seq rest.toArray }).push (JV C h.objs.size none),g,d,t,os⟩) :
 wpAny (model prog w) A (Builtin.«type.__call__» ⟨.ref C::rest,[]⟩) Q E ⟨h,g,d,t,os⟩:=by
 have F:=Em;have Y:Mu.contains (.type "ValueError")=true:=by decide
 repeat (first|with_reducible refine C5 J ?_|with_reducible refine wpAny_madeBy_exc J ?_|wp_step)
 refine Gy (F6 _ F.quiet) (wpAny_check_new_subU F Y T J (codeAny_exc_new_subU F Y F T J ?_ hrest));show wpAny _ _ _ _ _ _;have G:=A7 { cls:=.ref C,data:=.fields #[.ref h.objs.size,.none,.none,.none,.bool false,.none] }
  (A7 { cls:=.type "tuple",data:=.seq rest.toArray } J)
 have I:((h.push { cls:=.type "tuple",data:=.seq rest.toArray }).push { cls:=.ref C,data:=.fields #[.ref h.objs.size,.none,.none,.none,.bool false,.none] }).Ns N mN :=
  let ⟨o,es,ep,e,r⟩:=hn;⟨o,es,ep,A7 _ (A7 _ e),r⟩
 have Z:((h.push { cls:=.type "tuple",data:=.seq rest.toArray }).push
  { cls:=.ref C,data:=.fields #[.ref h.objs.size,.none,.none,.none,.bool false,.none] }).get? (h.objs.size+1)=some
  { cls:=.ref C,data:=.fields #[.ref h.objs.size,.none,.none,.none,.bool false,.none] }:=by heap_get
 have aa:(Value.ref C::bm).contains (.ref C)=true:=by simp
 have W:=T.keeps (h':=(h.push { cls:=.type "tuple",data:=.seq rest.toArray }).push { cls:=.ref C,data:=.fields #[.ref h.objs.size,.none,.none,.none,.bool false,.none] })
  λb o e=>A7 _ (A7 _ e)
 have b1:=(hb (.ref (h.objs.size+1))).keeps (h':=(h.push { cls:=.type "tuple",data:=.seq rest.toArray }).push { cls:=.ref C,data:=.fields #[.ref h.objs.size,.none,.none,.none,.bool false,.none] })
  λb o e=>A7 _ (A7 _ e)
 unfold isInstance;repeat (first|with_reducible refine C5 Z ?_|(with_reducible refine Dy G ?_;rw[aa])|wp_step)
 show wpAny _ _ (typeLookup (.ref C) _) _ _ _;refine wpAny_typeLookup_tail G I W F.mroIs F.init.lookup ?_;rw[hni];refine Bo (A6 (b1.here (A6 (Dl (De hq λr s' z=>?_)))));rcases r with e|(v|_|_|_)<;>first|exact z|exact z.elim|skip
 obtain⟨rfl,z⟩:=z;exact Ab (Ab z)
def jJ{f:Addr}{G:Str->Option Value}{rest:List Value}(T:OwnTail h Mu bm)(F:h.get? C=some (excClassObj nm q C N bs bm hdct sn sub ab col dd k0 k1 k2 k3 k5 "ValueError.__new__"))(hn:h.Ns N G)
 (hni:G "__init__"=some (.ref f)) (hb:∀self,Looks (model prog w) h (bindSpecial (.ref f) self) (.ref f,[self])) (hrest:rest.length<=sizeLine)
 (hq:codeAny (model prog w) (A.under (.builtin "type.__call__" ⟨.ref C::rest,[]⟩)) (.call (.ref f) ⟨.ref (h.objs.size+1)::rest,[]⟩) (InitBack (h.objs.size+1) R)
   ⟨(h.push { cls:=.type "tuple",data:=.seq rest.toArray }).push (JV C h.objs.size none),g,d,t,os⟩) :
 codeAny (model prog w) A (.call (.ref C) ⟨rest,[]⟩) R ⟨h,g,d,t,os⟩:=by
 have I:=tc_lookup;have W:=PySem.tc_bind (.ref C);have J:(⟨h,g,d,t,os⟩:Shared).TypeIs (.ref C) "type":=⟨_,F,rfl⟩
 refine codeAny_of_tree ?_;show wpAny _ _ (callAny (.ref C) _) _ _ _;repeat (any_goals (first|assumption|with_reducible refine C5 F ?_|wp_step))
 refine⟨rfl,Iy (F6 _ (by decide +kernel)) entry_typeCall (Gz F ?_)⟩;exact jI T F hn hni hb hrest (De hq λr s' z=>by
  rcases r with e|(v|_|_|_)<;>first|exact z|exact z.elim)
end
def jK{K:Frag}{h:Heap}{N:Addr}{mg:Str->Option Value}{n:Str}{v:Value}(X:K.In h)(G:h.Ns N mg)(e:nsIn K N n=some (some v)):mg n=some v:=by
 obtain⟨o,es,ep,I,hd,_,hf⟩:=G;unfold nsIn at e;split at e
 .rename_i c d F Y Z q;have:=X _ _ q;rw[I]at this
  cases this;cases hd;split at e
  .rename_i en J;cases e;rw[<-hf];unfold nsFind findBy;rw[<-K1,J];rfl
  .split at e<;>cases e
 .cases e
noncomputable def IT (K:Frag) (C:Addr) (init:Option Addr):Bool:=match K.lookup C with
 | some ⟨.type "type",_,.cls cd,sl⟩=>(match cd.mro,sl.toList with
   | .ref F::bm,[_,_,_,_,some (.builtin n),_]=>F==C&&n=="ValueError.__new__"&&!cd.hasDel&&tailIn K Mu bm&&nsOkIn K cd.ns&&nsIn K cd.ns "__init__"==some (init.map Value.ref)
   | _,_=>false)
 | _=>false
def OU{K:Frag}{h:Heap}{C:Addr}{init:Option Addr}(X:K.In h)(q:IT K C init=true) :
 ∃bm N nm qn bs hd sn sub ab col dd k0 k1 k2 k3 k5 Z,h.get? C=some (excClassObj nm qn C N bs bm hd sn sub ab col dd k0 k1 k2 k3 k5 "ValueError.__new__")/\h.Ns N Z/\Z "__init__"=init.map Value.ref/\OwnTail h Mu bm:=by
 unfold IT at q;split at q
 .rename_i dd cd Y ho;split at q
  .rename_i C' bm k0 k1 k2 k3 n k5 hm hs;simp only[Ae,Bp,Ee]at q;obtain⟨⟨⟨⟨⟨rfl,rfl⟩,F⟩,ht⟩,Í⟩,I⟩:=q;obtain⟨nm,bs,mro,ns,qn,hd,sn,sub,ab,col,aa⟩:=cd;dsimp only at hm F Í I;subst hm F;have J:Y=#[k0,k1,k2,k3,some (.builtin "ValueError.__new__"),k5]:=by
    obtain⟨l⟩:=Y;simp only at hs;rw[hs]
   subst J;have G:h.Ns ns (h.nsMap ns):=.of_isNs (isNs_of_in X Í);refine⟨bm,ns,nm,qn,bs,hd,sn,sub,ab,col,dd,k0,k1,k2,k3,k5,_,X _ _ ho,G,?_,tail_of_in X ht⟩;cases init with
   | none=>exact ns_none_of X G I
   | some f=>exact jK X G I
  .cases q
 .cases q
def Yy{K:Frag}{h h':Heap}{C:Addr}{init:Option Addr}(X:K.In h)(G:K.In h')(q:IT K C init=true):h'.get? C=h.get? C:=by
 unfold IT at q;split at q
 .rename_i F;rw[X _ _ F,G _ _ F]
 .cases q
abbrev XO(e C:Addr)(dx:Option Addr):HO:=.ext λh=>∃t,h.get? e=some (JV C t dx)
structure Yz(K:Frag)(C f:Addr):Prop where
 cls:IT K C (some f)=true
 fn:PySem.W.isFn K (.ref f)=true
 kp:PySem.W.keepIn K (.ref C)=true
section
variable {X:Cx}{CX:KL}{k:Nat}{f C:Addr}{fd:FuncData}{ps:List Str}{sp:Sp}{x m:Str}{p pos apos:Pos}{e o:Expr}{es:List Expr}{ta:TE}{t:TA}{pins:List (Addr×Obj)}{σ:St}{H:Hp}{s:Shared}
def AF.xo{vs:List Value}(I:AF X pins σ H s):AF X pins σ (upd H (s.heap.objs.size+1) (XO (s.heap.objs.size+1) C none))
 { s with heap:=(s.heap.push { cls:=.type "tuple",data:=.seq vs.toArray }).push (JV C s.heap.objs.size none) }:=by
 have F:((s.heap.push { cls:=.type "tuple",data:=.seq vs.toArray }).push (JV C s.heap.objs.size none)).get? (s.heap.objs.size+1)=some (JV C s.heap.objs.size none):=by
  have:=Ax (s.heap.push { cls:=.type "tuple",data:=.seq vs.toArray }) (o:=JV C s.heap.objs.size none) rfl
  rwa [C0]at this
 refine I.laid (t':=s.toks) (λb u q=>A7 _ (A7 _ q)) (Dt _) ⟨⟨_,F⟩,⟨_,F⟩,?_⟩
 grind
def jL{Q:VK}{us:List Value}{vs:List V}(M:Yz X.K C f)(F:AG X.prog X.w X.K X.mg X.base BL k f fd ps sp)(hr:BO (k+1) X.A)(hb:Kl X.K fd ps [])(I:AF X pins σ H s)(r:AM vs us)(hlen:vs.length<=10)
 (hq:sp (.ref (s.heap.objs.size+1)::vs) (upd H (s.heap.objs.size+1) (XO (s.heap.objs.size+1) C none)) (λv H2=>v=.non/\Q (.ref (s.heap.objs.size+1)) H2) E0) :
 wpAny (model X.prog X.w) X.A (call (.ref C) us) (EP X pins σ Q) X.xe s:=by
 have Y:=AF.xo (C:=C) (vs:=us) I;have r2:AM (V.ref (s.heap.objs.size+1)::vs) (Value.ref (s.heap.objs.size+1)::us):=.cons rfl r;have hl:(Value.ref (s.heap.objs.size+1)::us++[]).length=ps.length:=by
  have e:=r2.length
  grind[F.len,List.append_nil]
 obtain⟨bm,N,nm,qn,bs,hd,sn,sub,ab,col,dd,k0,k1,k2,k3,k5,mN,hC,hn,aa,T⟩:=OU I.Ĝ M.cls;have W:us.length<=sizeLine:=DU (by have:=r.length;lia);have J:=hb { s with heap:=(s.heap.push { cls:=.type "tuple",data:=.seq us.toArray }).push (JV C s.heap.objs.size none) } (Value.ref (s.heap.objs.size+1)::us) Y.Ĝ hl;rw[Be]at J
 obtain⟨Z,g,d,tk,os⟩:=s;refine Dl (jJ T hC hn aa (λself=>bind_fn I.Ĝ self (Bp.mp M.fn)) W (De (F.run _ X.stack _ _ ⟨Value.ref (Z.objs.size+1)::us,[]⟩ (Value.ref (Z.objs.size+1)::us) _ _ E0 (hr.make C us [])
  (Y.wI.make C us []) J r2 hq) λr s' G=>?_))
 cases r with
 | error e=>exact False.elim G
 | ok fl =>
   cases fl with
   | ret u =>
     obtain⟨v,H',I3,rv,rfl,q3⟩:=Y.after G;exact⟨rv,⟨V.ref (Z.objs.size+1),H',I3,rfl,q3⟩⟩
   | next=>exact False.elim G
   | brk=>exact False.elim G
   | cont=>exact False.elim G
end
open Builtin Builtin.ObjectAttr
theorem jM{h:Heap}{o:Obj}{b:Addr}(hb:b<h.objs.size):(h.push o).get? b=h.get? b:=by
 simp_all[Heap.push,Array.getElem?_push,B8,Heap.get?]
def RA:List Value->Bool
 | []=>false
 | .ref c::r=>RA r
 | v::r=>(v::r)==Mu
theorem Vk(self:Value):∀{l:List Value},RA l=true->refuseLoop self "__setattr__" l=pure ()/\l.contains (.type "object")=true
 | [],e=>by cases e
 | v::r,e=>by
   cases v with
   | ref c =>
     have ih:=Vk self (l:=r) e;rw[refuseLoop_ref,Gr,ih.2];exact⟨ih.1,Je _⟩
   | _ =>
     have G:=Bp.mp (show((_::r)==Mu)=true from e);rw[G];exact⟨PySem.F.store_ValueError.passes self,by decide⟩
section
variable {prog:Program}{w:World}{A:Around}{K:Frag}{C x:Addr}{s:Shared}{R:Result->Shared->Prop}
def jN (X:K.In s.heap) (I:PySem.W.InstAt s.heap x ox C od) (Y:clsIn K C=some cd) (G:RA cd.mro=true) (Z:findIn K (.ref C) name=some none) (h:wpAny (model prog w) A.in1 (storeInOwnDict (.ref x) (.ref C) (.str name tk) name v false)
 (λfin s'=>match fin with|.done f=>R (.ok f) s'|.again J=>J.quiet=true/\codeAny (model prog w) A J R s') (λe s'=>R (.error e) s') s) :
 codeAny (model prog w) A (.call (.builtin "object.__setattr__") ⟨[.ref x,.str name tk,v],[]⟩) R s:=by
 have SF:=PySem.F.store_object;have ne:cd.mro.isEmpty=false:=by cases q:cd.mro with|nil=>rw[q]at G;cases G|cons _ _=>rfl
 have sub:Looks (model prog w) s.heap (isInstance (.ref x) (.type "object")) true:=I.type.andThen (looks_mroIn X (by unfold mroIn;rw[Y,Iz,As (by rw[ne];decide),(Vk (.ref x) G).2]));refine Dv SF.slot.plain SF.entry (@check_slot (model prog w) _ _ s "object.__setattr__" "object" "__setattr__" (.ref x) [.str name tk,v] [] _ SF.kind SF.split sub (SF.args (.ref x) (.str name tk) v) ?_);have hm:Looks (model prog w) s.heap (mroOf (.ref C)) cd.mro:=(looks_clsIn X Y).andThen .now;rw[osa_eq,refuse_eq];refine A6 (A6 (I.type.here (A6 (hm.here ?_))));rw[(Vk (.ref x) G).1];exact Ab (A6 (I.type.here (A6 ((looks_findIn X Z).here (A6 (Ab h))))))
structure XF(K:Frag)(C:Addr)(f:Str):Prop where
 cd:∃cd,clsIn K C=some cd/\RA cd.mro=true/\cd.hasDict=true
 sa:findIn K (.ref C) "__setattr__"=some (some (.builtin "object.__setattr__"))
 no:findIn K (.ref C) f=some none
def jO(X:K.In s.heap)(hx:s.heap.get? x=some (JV C t none))(F:XF K C name)(h:∀h' k,s.heap.objs.size<=h'.objs.size->(∀b o,b≠x->s.heap.get? b=some o->h'.get? b=some o)->h'.get? x=some (JV C t (some s.heap.objs.size))->h'.Ns1 s.heap.objs.size (λy=>if y=name then some v else none)->Q () { s with heap:=h',toks:=k }) :
 wpAny (model prog w) A (setAttr (.ref x) name v) Q E s:=by
 obtain⟨⟨cd,hc,ht,hd⟩,ac,aa⟩:=F;have J:PySem.W.InstAt s.heap x (JV C t none) C none:=⟨hx,rfl,rfl,True.intro⟩
 refine set_plain X J ac (jN (s:={ s with toks:=s.toks+1 }) X J hc ht aa ?_);have I:=B8 (Am hx);refine A6 (Ab (A6 (A6 (Gj (s:={ s with toks:=s.toks+1 }) hx (A6 (Dj (s:={ s with toks:=s.toks+1 }) (looks_clsIn X hc) ?_))))));rw[hd];show wpAny _ _ (do
  let d <- alloc { cls:=Value.type "dict",data:=Data.dict #[] }
  update x λo=>{ o with dict:=some d }
  dictMade (.ref C) x d) _ _ _
 refine A6 (wpAny_alloc (A6 ?_));have Y:=A7 (h:=s.heap) emptyDict hx;refine wpAny_update (o:=JV C t none) (s:={ s with heap:=s.heap.push emptyDict,toks:=s.toks+1 }) Y ?_;show wpAny _ _ (pure (some s.heap.objs.size)) _ _ _;refine Ab ?_;have e1:(s.heap.push emptyDict).get? s.heap.objs.size=some emptyDict:=Ax s.heap rfl;have e2:((s.heap.push emptyDict).update x λo=>{ o with dict:=some s.heap.objs.size }).get? s.heap.objs.size=some emptyDict:=(B2 _ _ I).trans e1;have e3:((s.heap.push emptyDict).update x λo=>{ o with dict:=some s.heap.objs.size }).get? x=some (JV C t (some s.heap.objs.size)):=Bn _ Y rfl;have n1:((s.heap.push emptyDict).update x λo=>{ o with dict:=some s.heap.objs.size }).Ns1 s.heap.objs.size (λ_=>none):=Heap.Ns1.of_empty ⟨emptyDict,#[],_,e2,rfl,(λe he=>absurd he (by simp)),λ_=>rfl⟩;have k1:∀b o,b≠x->s.heap.get? b=some o->((s.heap.push emptyDict).update x λo=>{ o with dict:=some s.heap.objs.size }).get? b=some o:=λb o hb q=>(B2 _ _ (Cc hb)).trans (A7 _ q)
 have z1:((s.heap.push emptyDict).update x λo=>{ o with dict:=some s.heap.objs.size }).objs.size=s.heap.objs.size+1:=by rw[Fm,C0]
 generalize ((s.heap.push emptyDict).update x λo=>{ o with dict:=some s.heap.objs.size })=h1 at e2 e3 n1 k1 z1⊢;refine A6 (Ab (A6 (wpAny_nsSet1 (s:={ s with heap:=h1,toks:=s.toks+1 }) n1 λh' Z G=>?_)));obtain⟨oD,ai,ah,af,ad,ae⟩:=Z.count (K5 (ns:=[]) name v (λy hy=>absurd rfl hy));refine A6 (wpAny_lookBehind af (by rw[ad];exact pastItsLine_dict (Bk ae (Bk (DU (show 1<=100000 by decide)) (Dt _)))) (Ab (h h' _ ?_ (λb o hb q=>?_) ?_ Z)))
 .rw[G.1];show s.heap.objs.size<=h1.objs.size
  lia
 .have ag:=B8 (Am q);exact(G.2 b ag).trans (k1 b o hb q)
 .exact(G.2 x I).trans e3
end
section
variable {X:Cx}{pins:List (Addr×Obj)}{σ:St}{H:Hp}{s:Shared}
def AF.xG{e C t:Addr}{y:V}{u:Value}{f:Str}{h':Heap}{k:Nat}(I:AF X pins σ H s)(he:H e=some (XO e C none))(ry:AR y u)
 (k1:∀b o,b≠e->s.heap.get? b=some o->h'.get? b=some o) (e3:h'.get? e=some (JV C t (some s.heap.objs.size))) (n1:h'.Ns1 s.heap.objs.size (λz=>if z=f then some u else none)) :
 AF X pins σ (upd (upd H s.heap.objs.size (.xd [(f,y)])) e (XO e C (some s.heap.objs.size))) { s with heap:=h',toks:=k }:=by
 refine PM (id n1) λY es ep=>BW λF r=>?_;have G:=(Heap.get?_some_iff.mp F).2;have Z:=Ax s.heap G;have J:=B8 (I.Í.lt he);have I1:=I.laid (a:=s.heap.objs.size) (o:=.xd [(f,y)]) (h':=s.heap.push Y) (t':=s.toks) (λb u q=>A7 _ q) (Aa _) ⟨_,⟨Y,es,ep,Z,r⟩,λg=>by
  show EC (List.lookup g [(f,y)]) (if g=f then some u else none);by_cases q:g=f
  .rw[Au q,q];simp;exact ry
  .rw[As q];have:List.lookup g [(f,y)]=none:=by simp[q]
   rw[this];exact True.intro⟩
 refine I1.write (x:=e) (e:=e) (h':=h') (o:=XO e C (some s.heap.objs.size)) (t':=k) (by rw[BE J,he];exact True.intro) (.inl rfl) (λb v hb q=>?_) ⟨_,e3⟩ ⟨⟨_,e3⟩,⟨_,e3⟩,?_⟩
 .by_cases W:b=s.heap.objs.size
  .subst W;rw[Z]at q
   cases q;exact F
  .refine k1 b v hb ?_;have aa:=Am q
   grind[Heap.size_push,Nat.lt_of_le_of_ne,Nat.lt_succ_iff.mp,jM]
 grind
def jP(K:Frag)(ta tv:TE)(f:Str):TS:=λD σ H=>tv σ H λy H1=>ta σ H1 λx H2=>∃e C,x=.ref e/\H2 e=some (XO e C none)/\XF K C f/\∀dx,H2 dx=none->D.nx σ (upd (upd H2 dx (.xd [(f,y)])) e (XO e C (some dx)))
def Ta(ha:PE X o ta)(hv:PE X value tv)(hs:swapsWith value (some (.Attribute o f pos')) pos.line X.env=pure false):PS X (.Assign [.Attribute o f pos'] value pos) (jP X.K ta tv f):=by
 intro pins s σ H D I h;refine Fn (AV (hv pins s σ H _ I h) λu Z ⟨y,H1,Y,ry,q⟩=>AV (ha pins Z σ H1 _ Y q) λov s2 J=>?_) hs;obtain⟨x,H2,G,rx,e,C,ex,W,F,q2⟩:=J;subst ex;obtain rfl:ov=Value.ref e:=rx;obtain⟨⟨t,he⟩,_⟩:=G.Í e _ W;exact jO G.Ĝ he F λh' k _ k1 e3 n1=>⟨σ,_,G.xG W ry k1 e3 n1,q2 _ G.fresh⟩
end
structure BI(K:Frag)(CB:Addr):Prop where
 reads:readsIn K CB (.type "type")=true
 find:findCls K (.ref CB) (.type "type") "__init__"=some (.val (.builtin "ValueError.__init__"))
 ga:specialIn K (.ref CB) "__getattribute__"=some (some (.builtin "type.__getattribute__"))
section
variable {X:Cx}{pins:List (Addr×Obj)}{σ:St}{H:Hp}{s:Shared}
def jQ{u:Value}(I:AF X pins σ H s)(he:H e=some (XO e C dx))(W:IT X.K C init=true)(q:Q .non H) :
 wpAny (model X.prog X.w) X.A (call (.builtin "ValueError.__init__") [.ref e,u]) (EP X pins σ Q) X.xe s:=by
 obtain⟨⟨t0,J⟩,_⟩:=I.Í e _ he;obtain⟨bm,N,nm,qn,bs,hd,sn,sub,ab,col,dd,k0,k1,k2,k3,k5,mN,W,hn,aa,T⟩:=OU I.Ĝ W;have F:=Em;obtain⟨G,g,d,tk,os⟩:=s;refine Dl (Dv F.init.plain F.initEntry (wpAny_check_init_subU F T W J rfl ?_))
 wp_walk
 have J:=J;have Y:((G.push { cls:=Value.type "tuple",data:=Data.seq #[u] }).update e (Obj.mapFields λx=>x.setIfInBounds 0 (Value.ref G.objs.size))).get? e=some (JV C G.objs.size dx) :=
  Bn _ (A7 _ J) rfl
 have Z:=(I.kept (h':=G.push { cls:=Value.type "tuple",data:=Data.seq #[u] }) (t':=tk) (λb u q=>A7 _ q)).write (x:=e) (e:=e) (o:=XO e C dx) (h':=(G.push { cls:=Value.type "tuple",data:=Data.seq #[u] }).update e (Obj.mapFields λx=>x.setIfInBounds 0 (Value.ref G.objs.size))) (t':=tk)
  (by rw[he];exact True.intro) (.inl rfl) (λb v hb q=>(B2 _ _ (Cc hb)).trans q) ⟨_,Y⟩ ⟨⟨_,Y⟩,⟨_,Y⟩,λh1 h2 ⟨t,z⟩ kk=>⟨t,kk _ z⟩⟩
 have eH:upd H e (XO e C dx)=H:=by
  grind[AA,BE]
 rw[eH]at Z
 exact⟨.non,H,Z,rfl,q⟩
def jR(K:Frag)(t:TA):TE:=λσ H Q=>t σ H λvs H1=>∃e C dx init x,vs=[.ref e,.str x]/\H1 e=some (XO e C dx)/\IT K C init=true/\Q .non H1
def Tb (F:BI X.K CB) (hg:Gl X x) (hm:X.mg x=some (.ref CB)) (ha:PA X (e::es) t) (hdb:(x==("__debug__":Str))=false:=by decide) (hst:starEach (e::es) X.env=(false,eval e X.env)::starEach es X.env:=by rfl) (hpl:(backTo pos (starEach es X.env)).any (·.1)=false:=by rfl) (ht:eval (.Call (.Attribute (.Name x np) "__init__" apos) (e::es) [] pos) X.env=(do
 let ov <- eval (.Name x np) X.env
 standAt apos.atName
 let (f,first) <- holding [ov] (getMethod ov "__init__" pl)
 callWith pos f first (backTo pos (starEach (e::es) X.env)) (backToKw pos (keywordEach [] X.env))):=by rfl) :
 PE X (.Call (.Attribute (.Name x np) "__init__" apos) (e::es) [] pos) (jR X.K t):=by
 intro pins s σ H Q I h;refine Ea (pl:=pl) (MU I hg hm (method_cls I.Ĝ F.ga (cls_value I.Ĝ F.reads F.find rfl ?_)) hdb) ht;have hA:=ha pos pins { s with toks:=s.toks+1 } σ H _ (I.tok _) h;rw[hst]at hA⊢
 refine Fc (by show(false||(backTo pos (starEach es X.env)).any (·.1))=false;rw[hpl]<;>rfl) (G1 (AV hA λus s2 J=>?_));obtain⟨vs,H2,I2,G,ex,C,dx,init,z,xc,he,Y,q⟩:=J;subst xc;cases G with
 | cons r1 G =>
   cases G with
   | cons G Z =>
     cases Z;obtain rfl:=(r1)
     exact jQ I2 he Y q
def Vl(tv:TE):TE:=λσ H Q=>tv σ H λv H1=>∃i:Int,v=.int i/\i.natAbs<=1000000000/\∀x:Str,x.length<=2000->Q (.str x) H1
def YA(h:n<=1000000000):n.log2<1920:=by
 by_cases F:n=0
 .subst F;decide
 .have h1:n<2^30:=F4 h (by decide);exact Gb ((Js F).mpr h1) (by decide)
def KD(Y:PE X value tv):PE X (.FormattedValue value (-1) none pos) (Vl tv):=by
 intro pins s σ H Q I h;refine Gs (AV (Y pins s σ H _ I h) λv s1 F=>?_);obtain⟨y,H1,G,W,i,Z,hi,q⟩:=F;subst Z;obtain⟨t,rfl⟩:=W;have J:(Str.ofString (toString i)).length<=2000:=by
  have e:=Gu (k:=1920) (by decide) (YA hi);rw[Fq]
  lia
 exact wpAny_formatField_int (YA hi) ⟨.str _,H1,G.tok _,⟨_,rfl⟩,q _ J⟩
def jS(I G:TE):TE:=λσ H Q=>I σ H λa H1=>∃x1:Str,a=.str x1/\x1.length<=2000/\G σ H1 λb H2=>∃F:Str,b=.str F/\F.length<=2000/\∀x,Q (.str x) H2
def jT(J I W:TE):TE:=λσ H Q=>J σ H λa H1=>∃x1:Str,a=.str x1/\x1.length<=2000/\I σ H1 λb H2=>∃G:Str,b=.str G/\G.length<=2000/\W σ H2 λc Y=>∃F:Str,c=.str F/\F.length<=2000/\∀x,Q (.str x) Y
end
def wy(H:Hp)(e:Addr):Hp:=λb=>if b=e then none else H b
theorem Tc{H:Hp}{e:Addr}:wy H e e=none:=by unfold wy;rw[Au rfl]
theorem Td(h:b≠e):wy H e b=H b:=by unfold wy;rw[As h]
section
variable {M:Model}{A:Around}{E:Value->Shared->Prop}{env:Env}
variable {nm q:Str}{C N:Addr}{bs bm:List Value}{hdct:Bool}{sn:List Str}{sub:List Value}{ab:Bool}{col:Option Bool}{dd:Option Addr}{k0 k1 k2 k3 k5:Option Value}{newId:String}
def YB{s:Shared}{x:Sem Value}{Q:Flow->Shared->Prop}(G:bm.contains (.type "BaseException")=true)(hh:A.handled=none)
 (h:wpAny M A x (λv F=>∃e t dx,v=.ref e/\F.heap.get? C=some (excClassObj nm q C N bs bm hdct sn sub ab col dd k0 k1 k2 k3 k5 newId)/\F.heap.get? e=some (JV C t dx)/\E (.ref e) F) E s) :
 wpAny M A (raiseStmt env (some x) none) Q E s:=by
 have Y:(Value.ref C::bm).contains (.type "BaseException")=true:=by rw[Gr,G,Je]
 unfold raiseStmt;refine A6 (Bv h (λv F I=>?_) λ_ _ x=>x);revert I;refine FT λe t dx=>DP λJ Z W hE=>?_;subst J;obtain⟨hp,g,d,tk,os⟩:=F;have W:hp.get? e=some { cls:=.ref C,dict:=dx,data:=.fields #[.ref t,.none,.none,.none,.bool false,.none] }:=W;repeat (first|with_reducible refine C5 W ?_|with_reducible refine C5 Z ?_|(with_reducible refine Dy Z ?_;rw[Y])|wp_step)
 exact wpAny_raiseNew_none hh hE
end
section
variable {prog:Program}{w:World}{A:Around}{E:Value->Shared->Prop}{h:Heap}{g:Array GenState}{d:Drawn}{t:Nat}{os:OsState}
variable {nm q:Str}{C N:Addr}{bs bm:List Value}{hdct:Bool}{sn:List Str}{sub:List Value}{ab:Bool}{col:Option Bool}{dd:Option Addr}{k0 k1 k2 k3 k5:Option Value}
def jU(T:OwnTail h Mu bm){Z:Str->Option Value}{rest:List Value}{Q:PySem.Fin->Shared->Prop}
 (hC:h.get? C=some (excClassObj nm q C N bs bm hdct sn sub ab col dd k0 k1 k2 k3 k5 "ValueError.__new__")) (hn:h.Ns N Z) (hni:Z "__init__"=none) (hrest:rest.length<=sizeLine)
 (hq:∀h' t2,(∀b o,h.get? b=some o->h'.get? b=some o)->h'.get? (h.objs.size+1)=some (JV C t2 none)->Q (.done (.ret (.ref (h.objs.size+1)))) ⟨h',g,d,t,os⟩) :
 wpAny (model prog w) A (Builtin.«type.__call__» ⟨.ref C::rest,[]⟩) Q E ⟨h,g,d,t,os⟩:=by
 have F:=Em;have Y:Mu.contains (.type "ValueError")=true:=by decide
 repeat (first|with_reducible refine C5 hC ?_|with_reducible refine wpAny_madeBy_exc hC ?_|wp_step)
 refine Gy (F6 _ F.quiet) (wpAny_check_new_subU F Y T hC (codeAny_exc_new_subU F Y F T hC ?_ hrest));show wpAny _ _ _ _ _ _;have G:=A7 { cls:=.ref C,data:=.fields #[.ref h.objs.size,.none,.none,.none,.bool false,.none] }
  (A7 { cls:=.type "tuple",data:=.seq rest.toArray } hC)
 have W:((h.push { cls:=.type "tuple",data:=.seq rest.toArray }).push { cls:=.ref C,data:=.fields #[.ref h.objs.size,.none,.none,.none,.bool false,.none] }).Ns N Z :=
  let ⟨o,es,ep,e,r⟩:=hn;⟨o,es,ep,A7 _ (A7 _ e),r⟩
 have I:((h.push { cls:=.type "tuple",data:=.seq rest.toArray }).push
  { cls:=.ref C,data:=.fields #[.ref h.objs.size,.none,.none,.none,.bool false,.none] }).get? (h.objs.size+1)=some
  { cls:=.ref C,data:=.fields #[.ref h.objs.size,.none,.none,.none,.bool false,.none] }:=by heap_get
 have aa:(Value.ref C::bm).contains (.ref C)=true:=by simp
 have J:=T.keeps (h':=(h.push { cls:=.type "tuple",data:=.seq rest.toArray }).push { cls:=.ref C,data:=.fields #[.ref h.objs.size,.none,.none,.none,.bool false,.none] })
  λb o e=>A7 _ (A7 _ e)
 unfold isInstance;repeat (first|with_reducible refine C5 I ?_|(with_reducible refine Dy G ?_;rw[aa])|wp_step)
 show wpAny _ _ (typeLookup (.ref C) _) _ _ _;refine wpAny_typeLookup_tail G W J F.mroIs F.init.lookup ?_;rw[hni];refine Bo (A6 (wpAny_of_eq (F.init.bind _) (A6 (Dl (Dv F.init.plain F.initEntry (wpAny_check_init_subU F J G I rfl ?_))))))
 wp_walk
 refine hq _ (h.objs.size+2) (λb o hb=>?_) ?_
 .rw[B2 _ _ (Co (Fe (Am hb)))]
  grind[Heap.get?_push_of_some]
 .rw[Bn _ (A7 _ I) rfl];simp only[C0];rfl
def jV(T:OwnTail h Mu bm){G:Str->Option Value}{rest:List Value}{Q:Value->Shared->Prop}
 (hC:h.get? C=some (excClassObj nm q C N bs bm hdct sn sub ab col dd k0 k1 k2 k3 k5 "ValueError.__new__")) (hn:h.Ns N G) (hni:G "__init__"=none) (hrest:rest.length<=sizeLine)
 (hq:∀h' F,(∀b o,h.get? b=some o->h'.get? b=some o)->h'.get? (h.objs.size+1)=some (JV C F none)->Q (.ref (h.objs.size+1)) ⟨h',g,d,t,os⟩) :
 wpAny (model prog w) A (call (.ref C) rest) Q E ⟨h,g,d,t,os⟩:=by
 have Y:=tc_lookup;have W:=PySem.tc_bind (.ref C);have Z:(⟨h,g,d,t,os⟩:Shared).TypeIs (.ref C) "type":=⟨_,hC,rfl⟩
 refine Dl (codeAny_of_tree ?_);show wpAny _ _ (callAny (.ref C) _) _ _ _;repeat (any_goals (first|assumption|with_reducible refine C5 hC ?_|wp_step))
 exact⟨rfl,Iy (F6 _ (by decide +kernel)) entry_typeCall (Gz hC (jU T hC hn hni hrest λh' F I J=>hq h' F I J))⟩
end
section
variable {X:Cx}{pins:List (Addr×Obj)}{σ:St}{H:Hp}{s:Shared}
def AF.wy{e:Addr}{F:Heap->Prop}(I:AF X pins σ H s)(he:H e=some (.ext F)):AF X pins σ (wy H e) s:=by
 have hn:∀b,H b=none->L2.wy H e b=none:=λb h=>by
  by_cases q:b=e
  .rw[q,Tc]
  .rw[Td q];exact h
 have J:∀b o,H b=some o->(∀F,o≠.ext F)->L2.wy H e b=some o:=λb o h Y=>by
  rw[Td (λq=>?_)]
  .exact h
  .rw[q,he]at h
   cases h;exact Y _ rfl
 refine⟨I.ok,I.os,I.bare,⟨I.base.keep,I.base.slot,λb o q n Z=>hn b (I.base.free b o q n Z),I.base.there,λb xs q=>J b _ (I.base.ţ b xs q) (λF z=>nomatch z),λb o u q=>J b _ (I.base.ş b o u q) (λF z=>nomatch z),λb ps q=>?_⟩,I.loc,I.cell,hn _ I.free,λx c h=>hn _ (I.ú x c h),λp W=>?_,λb o q=>?_,I.len⟩
 .obtain⟨G,z⟩:=I.base.ų b ps q;exact⟨G,J b _ z (λF w=>nomatch w)⟩
 .refine FN (λa b c=>?_) (I.pin p W);exact BQ a (hn _ b) c
 .have hb:b≠e:=λz=>by rw[z,Tc]at q;cases q
  rw[Td hb]at q
  exact(I.Í b o q).ű (λ_ _ _ z=>z) (λc z=>J c _ z (λF w=>nomatch w)) λc xs z=>J c _ z (λF w=>nomatch w)
def jW(C:Addr)(sp:Sp)(E:St->XK)(σ:St)(vs:List V)(H1:Hp):Prop:=vs.length<=10/\∀e,H1 e=none->sp (.ref e::vs) (upd H1 e (XO e C none)) (λv H2=>v=.non/\V.ref e=.ref e/\∃dx,H2 e=some (XO e C dx)/\E σ (.ref C) dx (L2.wy H2 e)) E0
def jX{E:St->XK}{R:St->List V->Hp->Prop}{k:Nat}{f C L:Addr}{fd:FuncData}{ps:List Str}{sp:Sp}{x:Str}{np cpos pos:Pos}{e:Expr}{es:List Expr}{t:TA}(hL:X.env.frame=some L)(ad:X.calm=true)
 (M:Yz X.K C f) (F:AG X.prog X.w X.K X.mg X.base BL k f fd ps sp) (hr:BO (k+1) X.A) (hg:Gl X x) (hm:X.mg x=some (.ref C)) (hb:Kl X.K fd ps []) (hR:∀σ vs H1,R σ vs H1->jW C sp E σ vs H1)
 (ha:PA (X.Ü (EF X E)) (e::es) t) (hdb:(x==("__debug__":Str))=false:=by decide) (he:starEach (e::es) X.env=(false,eval e X.env)::starEach es X.env:=by rfl) (hpl:(backTo cpos (starEach es X.env)).any (·.1)=false:=by rfl) :
 PS (X.Ü (EF X E)) (.Raise (some (.Call (.Name x np) (e::es) [] cpos)) none pos) (λ_ σ H=>t σ H (R σ)):=by
 intro pins s σ H D I h;obtain⟨bm,N,nm,qn,bs,hd,sn,sub,ab,col,dd,k0,k1,k2,k3,k5,mN,hC,hn,ag,T⟩:=OU I.Ĝ M.cls;have G:bm.contains (.type "BaseException")=true:=T.hasType (by decide);rw[arm_exec_Raise];refine A6 (Cm (YB (C:=C) (nm:=nm) (q:=qn) (N:=N) (bs:=bs) (bm:=bm) (hdct:=hd) (sn:=sn) (sub:=sub) (ab:=ab) (col:=col) (dd:=dd) (k0:=k0) (k1:=k1) (k2:=k2) (k3:=k3) (k5:=k5) (newId:="ValueError.__new__") G (I.ok.hd ad) ?_));show wpAny _ _ (do let v <- eval (.Call (.Name x np) (e::es) [] cpos) X.env;standAt pos;pure v) _ _ _;refine A6 (Bv (Bs (MU I hg hm (Cr (h₀:=X.base) I.ok.mod.wQ M.kp (AV (ha cpos pins s σ H _ I h) λus J ⟨vs,H1,Y,r,q0⟩=>⟨Y.Ĝ,?_⟩) he hpl) hdb)) (λv af Z=>A6 (Cm (Ab Z))) λ_ _ z=>z);obtain⟨hl,q⟩:=hR σ vs H1 q0;refine AV (jL (X:=X.Ü (EF X E)) (Q:=λv H2=>v=.ref (J.heap.objs.size+1)/\∃dx,H2 (J.heap.objs.size+1)=some (XO (J.heap.objs.size+1) C dx)/\E σ (.ref C) dx (L2.wy H2 (J.heap.objs.size+1))) M F hr hb Y r hl ?_) λv s2 ⟨y,H2,I2,ry,ey,dx,aa,ae⟩=>?_
 .exact q (J.heap.objs.size+1) (Y.Í.fresh (Dt _))
 .subst ey;obtain rfl:v=Value.ref (J.heap.objs.size+1):=ry;obtain⟨⟨t2,ac⟩,_⟩:=I2.Í _ _ aa;exact⟨_,t2,dx,rfl,(Yy I.Ĝ I2.Ĝ M.cls).trans hC,ac,_,.ref C,dx,σ,_,L,rfl,hL,(I2.ß.Ŧ).wy aa,⟨Bk Y.sz (Dt _),Tc,Y.ß.vS (Dt _)⟩,⟨_,_,.none,ac,rfl,rfl,rfl,⟨rfl,rfl⟩,.inl rfl⟩,ae⟩
def YC(C:Addr)(E:St->XK)(t:TA):TS:=λ_ σ H=>t σ H λvs H1=>vs.length<=10/\E σ (.ref C) none H1
structure Vm(K:Frag)(C:Addr):Prop where
 cls:IT K C none=true
 kp:PySem.W.keepIn K (.ref C)=true
def jY(hL:X.env.frame=some L)(ac:X.calm=true)(M:Vm X.K C)(hg:Gl X x)(hm:X.mg x=some (.ref C))(ha:PA (X.Ü (EF X E)) (e::es) t)(hdb:(x==("__debug__":Str))=false:=by decide)(he:starEach (e::es) X.env=(false,eval e X.env)::starEach es X.env:=by rfl)(hpl:(backTo cpos (starEach es X.env)).any (·.1)=false:=by rfl) :
 PS (X.Ü (EF X E)) (.Raise (some (.Call (.Name x np) (e::es) [] cpos)) none pos) (YC C E t):=by
 intro pins s σ H D I h;obtain⟨bm,N,nm,qn,bs,hd,sn,sub,ab,col,dd,k0,k1,k2,k3,k5,mN,hC,hn,am,T⟩:=OU I.Ĝ M.cls;have F:bm.contains (.type "BaseException")=true:=T.hasType (by decide);rw[arm_exec_Raise];refine A6 (Cm (YB (C:=C) (nm:=nm) (q:=qn) (N:=N) (bs:=bs) (bm:=bm) (hdct:=hd) (sn:=sn) (sub:=sub) (ab:=ab) (col:=col) (dd:=dd) (k0:=k0) (k1:=k1) (k2:=k2) (k3:=k3) (k5:=k5) (newId:="ValueError.__new__") F (I.ok.hd ac) ?_));show wpAny _ _ (do let v <- eval (.Call (.Name x np) (e::es) [] cpos) X.env;standAt pos;pure v) _ _ _;refine A6 (Bv (Bs (MU I hg hm (Cr (h₀:=X.base) I.ok.mod.wQ M.kp (AV (ha cpos pins s σ H _ I h) λus s1 ⟨vs,H1,Z,r,hl,q⟩=>⟨Z.Ĝ,?_⟩) he hpl) hdb)) (λv ah J=>A6 (Cm (Ab J))) λ_ _ z=>z);obtain⟨aq,N2,ao,aj,ai,al,an,af,ar,ag,ap,j0,j1,j2,j3,j5,ak,aa,ae,Y,T2⟩:=OU Z.Ĝ M.cls;have ad:us.length<=sizeLine:=DU (by have:=r.length;lia);obtain⟨hp,g,d,tk,os⟩:=s1;refine jV T2 aa ae Y ad λh' t2 hk G=>?_;have I2:=Z.kept (t':=tk) hk;exact⟨_,t2,none,rfl,(Yy I.Ĝ I2.Ĝ M.cls).trans hC,G,_,.ref C,none,σ,H1,L,rfl,hL,I2.ß.Ŧ,Z.ß.wL (Dt _),⟨_,_,.none,G,rfl,rfl,rfl,⟨rfl,rfl⟩,.inl rfl⟩,q⟩
end
section
variable {M:Model}{A:Around}{E:Value->Shared->Prop}{s:Shared}
theorem II{α:Type}{p:α->Bool}:∀{l:List α}{i:Nat},(∀x,l[i]?=some x->p x=false)->(l.eraseIdx i).find? p=l.find? p
 | [],_,_=>rfl
 | x::l,0,h=>by
   have G:=h x rfl;show l.find? p=(x::l).find? p;rw[Cz,G]
 | x::l,i+1,h=>by
   have ih:=II (l:=l) (i:=i) λy F=>h y (by simpa using F)
   show(x::l.eraseIdx i).find? p=(x::l).find? p;rw[Cz,Cz,ih]
def jZ{a:Addr}{m}{name:Str}{Q:Bool->Shared->Prop}(hn:s.heap.Ns a m)
 (hQ:∀h' G,h'.Ns a G->(∀y,y≠name->G y=m y)->Heap.SameBut a s.heap h'->Q (m name).isSome { s with heap:=h' }):wpAny M A (nsDel a name) Q E s:=by
 obtain⟨o,es,ep,W,hd,Z,hm⟩:=id hn;have ac:es.any (·.refKey)=false:=by
  rw[Array.any_eq_false'];intro e he;obtain⟨n,t,h⟩:=Z e he;simp[DictEntry.refKey,h]
 have F:(m name).isSome=es.any (·.key.isStr name):=by
  rw[<-hm name];simp only[nsFind,findBy,Fg];rw[Cy];simp only[Array.find?_isSome,Array.any_eq_true];constructor
  .rintro⟨x,hx,I⟩;obtain⟨i,hi,rfl⟩:=Array.mem_iff_getElem.mp hx;exact⟨i,hi,I⟩
  grind
 have J:nsHas name o=pure (es.any (·.key.isStr name)):=by
  rw[nsHas_eq];unfold nsHasByArray;rw[hd]
  lia
 unfold nsDel;refine A6 (Gj W ?_);rw[J];refine A6 (Ab ?_);rw[<-F];cases aa:(m name).isSome
 .have:=hQ s.heap m hn (λ_ _=>rfl) (.refl ..);rw[aa]at this
  exact Ab this
 .refine A6 (wpAny_updatePart W (Ab ?_));have key:∃G,(s.heap.update a (Obj.dropName name)).Ns a G/\∀y,y≠name->G y=m y:=by
   obtain⟨cl,d,dt,sl⟩:=o;subst hd;cases hi:es.findIdx? (·.key.isStr name)with
   | some i =>
     refine⟨_,⟨_,_,ep+1,Bn _ W (by simp only[G6,Obj.dropNameByArray,hi]<;>rfl),(by simp only[G6,Obj.dropNameByArray,hi]<;>rfl),Z.erase i,λ_=>rfl⟩,λy hy=>?_⟩;rw[<-hm y];show nsFind (es.eraseIdxIfInBounds i) y=nsFind es y;obtain⟨l⟩:=es;simp only[nsFind,findBy,List.eraseIdxIfInBounds_toArray,List.find?_toArray,List.findIdx?_toArray]at hi⊢;rw[L2.II λx hx=>?_];obtain⟨ae,I,_⟩:=C8.mp hi;have ex:l[i]=x:=by
      grind
     rw[ex]at I
     cases Y:x.key with
     | str z t =>
       rw[Y]at I
       have hz:z=name:=by simpa[Value.isStr]using I
       show(z==y)=false
       lia
     | _=>rfl
   | none=>exact⟨_,⟨_,_,ep,Bn _ W (by simp only[G6,Obj.dropNameByArray,hi]<;>rfl),(by simp only[G6,Obj.dropNameByArray,hi]<;>rfl),Z,λ_=>rfl⟩,λy _=>hm y⟩
  obtain⟨G,ad,hy⟩:=key
  grind[Heap.SameBut.update]
def ka(hl:env.kindOf n=some .local)(hn:s.heap.Ns env.locals m)(hp:(env.scope.kind==.class||(env.scope.kind==.module&&env.locals !=env.globals))=false)(h:∀h' m',h'.Ns env.locals m'->(∀y,y≠n->m' y=m y)->Heap.SameBut env.locals s.heap h'->Q () { s with heap:=h',toks:=s.toks+1 }) :
 wpAny M A (do bindName env n .none;unbindBehindTheSuite env n pos) Q E s:=by
 refine A6 (Jq (wpAny_storeName_local hl hn (λaa G F=>?_) hp));unfold unbindBehindTheSuite;refine Fy ?_;unfold unbindName;refine A6 (wpAny_point (A6 ?_));unfold deleteName;simp only[hl,hp];rw[As (by decide)];refine A6 (jZ G λY Z J hy I=>?_);simp only[J9,Gm,Bool.not_true,D5,G0];exact Ab (wpAny_point (h Y Z J (λy W=>by rw[hy y W,As W]) (F.trans I)))
end
section
variable {X:Cx}{pins:List (Addr×Obj)}{σ:St}{H:Hp}{s:Shared}
def Te(I:AF X pins σ H s)(hN:X.N.Nodup)(hi:X.N[i]?=some x)(hk:X.env.scope.names.lookup x=some .local)(h:∀s',AF X pins (σ.set i none) H s'->Q () s'):wpAny M A (do bindName X.env x .none;unbindBehindTheSuite X.env x pos) Q E s:=by
 obtain⟨m,hn,hl⟩:=id I.loc;have W:(X.env.scope.kind==.class||(X.env.scope.kind==.module&&X.env.locals !=X.env.globals))=false:=by rw[I.ok.kind];rfl
 have J:i<σ.length:=by rw[I.len];exact(B9.mp hi).1
 have wD:=I.wD;refine ka hk hn W λh' m' aa hy F=>?_;obtain⟨oL,_,_,ac,_⟩:=id hn;refine h _ ⟨I.ok,I.os,I.bare,⟨λb o e n hb Y=>?_,λb o e n hb Y=>?_,I.base.free,λb o e Y=>?_,I.base.ţ,I.base.ş,I.base.ų⟩,⟨_,aa,λj y v' G Z e3=>?_⟩,λy c e=>?_,I.free,I.ú,λp hp=>?_,λb ob e=>?_,by simpa using I.len⟩
 .exact(F.2 b (B8 (Bc (Am e) I.ok.above))).trans (I.base.keep b o e n hb Y)
 .obtain⟨sl,G⟩:=I.base.slot b o e n hb Y;exact⟨sl,(F.2 b (B8 (Bc (Am e) I.ok.above))).trans G⟩
 .obtain⟨o',G⟩:=I.base.there b o e Y;exact⟨o',(F.2 b (B8 (Bc (Am e) I.ok.above))).trans G⟩
 .by_cases hj:j=i
  .subst hj;rw[F8 J]at Z
   cases Z
  .rw[Ef (Cc hj)]at Z
   obtain⟨u',r',q⟩:=hl j y v' G Z e3;refine⟨u',r',?_⟩;rcases q with⟨k,e⟩|⟨k,c,e,z⟩
   .refine .inl ⟨k,?_⟩;have:y≠x:=λe=>hj (Ul hN G (e ▸ hi))
    rw[hy y this,e]
   .exact .inr ⟨k,c,e,z.sameBut F (wD y c e)⟩
 .obtain⟨w',z⟩:=I.cell y c e;exact⟨w',z.sameBut F (wD y c e)⟩
 .obtain⟨e,n,ne,nf,d⟩:=I.pin p hp;exact⟨(F.2 p.1 ne).trans e,n,ne,nf,d⟩
 .refine(I.Í b ob e).ű (λc w' hc q=>(F.2 c ?_).trans q) (λ_ q=>q) λ_ _ q=>q
  rintro rfl;rcases hc with rfl|hc
  .rw[I.free]at e;cases e
  .rw[I.free]at hc;cases hc
abbrev Cx.Ĥ(X:Cx)(e:Addr):Cx:={ X with A:=X.A.mark (some (.ref e)),calm:=false,xe:=λ_ _=>False }
def AF.Ĥ(I:AF X pins σ H s)(e:Addr):AF (X.Ĥ e) pins σ H s :=
 ⟨⟨I.ok.mod,I.ok.kind,I.ok.glob,I.ok.blt,I.ok.above,I.ok.inj,I.ok.has,I.ok.wR,(λz=>nomatch z),I.ok.frames,I.ok.xk,I.ok.x8,I.ok.bs,I.ok.wx,I.ok.vo,I.ok.ŵ,I.ok.ĸ,I.ok.wK⟩,I.os,I.bare,I.base,I.loc,I.cell,I.free,I.ú,I.pin,I.Í,I.len⟩
def AF.Š(hA:A.frames=some X.stack)(hd:c=true->A.handled=none)(I:AF (X.Ĥ e) pins σ H s):AF { X with A:=A,calm:=c,xe:=xe } pins σ H s :=
 ⟨⟨I.ok.mod,I.ok.kind,I.ok.glob,I.ok.blt,I.ok.above,I.ok.inj,I.ok.has,I.ok.wR,hd,hA,I.ok.xk,I.ok.x8,I.ok.bs,I.ok.wx,I.ok.vo,I.ok.ŵ,I.ok.ĸ,I.ok.wK⟩,I.os,I.bare,I.base,I.loc,I.cell,I.free,I.ú,I.pin,I.Í,I.len⟩
end
theorem kc{K:Frag}{h:Heap}{C:Addr}{init:Option Addr}{nm q:Str}{N:Addr}{bs bm:List Value}{hdct:Bool}{sn:List Str}{sub:List Value}{ab:Bool}{col:Option Bool}{dd:Option Addr}{k0 k1 k2 k3 k5:Option Value}{newId:String}
 (X:K.In h) (hq:IT K C init=true) (hC:h.get? C=some (excClassObj nm q C N bs bm hdct sn sub ab col dd k0 k1 k2 k3 k5 newId)) (v:Value):mroIn K C v=some ((Value.ref C::bm).contains v):=by
 unfold IT at hq;split at hq
 .rename_i F;have e:=X _ _ F;rw[hC]at e
  cases e;unfold mroIn clsIn;rw[F];rfl
 .cases hq
section
variable {M:Model}{A:Around}{E:Value->Shared->Prop}{h:Heap}{g:Array GenState}{d:Drawn}{t:Nat}{os:OsState}
def ke{K:Frag}{e C B:Addr}{Z:Obj}{init F:Option Addr}{b:Bool}{Q:Bool->Shared->Prop}(X:K.In h)(hC:IT K C init=true)(hB:IT K B F=true)(he:h.get? e=some Z)(G:Z.cls=.ref C)
 (hm:mroIn K C (.ref B)=some b) (hq:Q b ⟨h,g,d,t,os⟩):wpAny M A (excMatches (.ref e) (.ref B)) Q E ⟨h,g,d,t,os⟩:=by
 obtain⟨bm,N,nm,qn,bs,hd,sn,sub,ab,col,dd,k0,k1,k2,k3,k5,mN,oC,_,_,T⟩:=OU X hC;obtain⟨J,N2,ah,ag,ad,ae,af,aa,aj,ac,ai,j0,j1,j2,j3,j5,ak,oB,_,_,T2⟩:=OU X hB;have I:(Value.ref C::bm).contains (.ref B)=b:=by
  grind[kc,Option.some.inj]
 have Y:(Value.ref B::J).contains (.type "BaseException")=true:=by rw[Gr,T2.hasType (show Mu.contains (.type "BaseException")=true by decide),Je]
 have f:=tc_notTuple;unfold excMatches;repeat (first|(with_reducible refine C5 he ?_;rw[G])|with_reducible refine C5 oB ?_|with_reducible refine C5 oC ?_|(with_reducible refine Dy oB ?_;rw[Y])|(with_reducible refine Dy oC ?_;rw[I])|wp_step)
 cases b<;>(wp_walk;exact hq)
end
abbrev XE(e C:Addr)(dx:Option Addr):HO:=.ext λh=>∃o vs,h.get? e=some o/\o.cls=.ref C/\o.dict=dx/\o.data=.fields vs/\vs[2]?=some .none
abbrev RB:=DY->St->Value->Option Addr->Hp->Prop
def Qk(X:Cx)(F:List ExceptHandler)(th:RB):Prop:=∀(e:Addr) (cls:Value) (dx:Option Addr) (σ:St) (H:Hp) (s:Shared) (D:DY),AF X [] σ H s->KS X H e->KQ (GN (KS X H) e .none) s.heap e cls dx->th D σ cls dx H ->
 wpAny (model X.prog X.w) X.A (handleBy (.ref e) X.env F) (SP X [] D) X.xe s
def kg:RB:=λ_ _ _ _ _=>False
def kh:Qk X [] kg:=λ_ _ _ _ _ _ _ _ _ _ h=>h.elim
def Dg(i:Nat)(D:DY):DY:={ nx:=λσ H=>D.nx (σ.set i none) H,rt:=D.rt,bk:=λσ H=>D.bk (σ.set i none) H,ct:=λσ H=>D.ct (σ.set i none) H }
section
variable {X:Cx}{σ:St}{H:Hp}{s:Shared}
def AF.xD{e C:Addr}{dx:Option Addr}{o:Obj}{vs:Array Value}(I:AF X [] σ H s)(he:KS X H e)(ho:s.heap.get? e=some o)(hc:o.cls=.ref C)(hdx:o.dict=dx)(hd:o.data=.fields vs)(hcx:vs[2]?=some .none):AF X [] σ (upd H e (XE e C dx)) s:=by
 obtain⟨h1,h2,h3⟩:=he;have J:∀b u,H b=some u->upd H e (XE e C dx) b=some u:=λb u q=>by rw[BE (FB q h2)];exact q
 have F:∀b,b≠e->H b=none->upd H e (XE e C dx) b=none:=λb hb q=>by rw[BE hb];exact q
 have hl:X.env.locals≠e:=λq=>by
  obtain⟨m,⟨Z,es,ep,Y,W,_⟩,_⟩:=I.loc
  lia
 refine⟨I.ok,I.os,I.bare,⟨I.base.keep,I.base.slot,λb u q n hx=>F b (λz=>?_) (I.base.free b u q n hx),I.base.there,λb xs q=>J b _ (I.base.ţ b xs q),λb u v q=>J b _ (I.base.ş b u v q),λb ps q=>?_⟩,I.loc,I.cell,F _ hl I.free,λx c h=>F _ (λz=>?_) (I.ú x c h),λp hp=>?_,λb u q=>?_,I.len⟩
 .rw[z]at q
  exact absurd (Am q) (Nat.not_lt.mpr h1)
 .obtain⟨G,z⟩:=I.base.ų b ps q;exact⟨G,J b _ z⟩
 .obtain⟨v,Z,Y,W⟩:=I.cell x c h
  lia
 .obtain⟨p1,p2,p3⟩:=I.pin p hp
  grind
 .by_cases hb:b=e
  .subst hb;rw[AA]at q
   cases q;refine⟨⟨o,vs,ho,hc,hdx,hd,hcx⟩,⟨o,ho⟩,?_⟩
   grind
  .rw[BE hb]at q
   exact(I.Í b u q).ű (λ_ _ _ z=>z) (λc z=>J c _ z) λc xs z=>J c _ z
abbrev Cx.pinned(X:Cx)(pn:List (Addr×Obj)):Cx:={ X with pn:=pn }
def AF.xE{pins:List (Addr×Obj)}(I:AF X pins σ H s):AF (X.pinned (X.pn++pins)) [] σ H s :=
 ⟨⟨I.ok.mod,I.ok.kind,I.ok.glob,I.ok.blt,I.ok.above,I.ok.inj,I.ok.has,I.ok.wR,I.ok.hd,I.ok.frames,I.ok.xk,I.ok.x8,I.ok.bs,I.ok.wx,I.ok.vo,I.ok.ŵ,I.ok.ĸ,I.ok.wK⟩,I.os,I.bare,I.base,I.loc,I.cell,I.free,I.ú,λp F=>I.pin p (by rwa [Be]at F),I.Í,I.len⟩
def AF.ý{pins:List (Addr×Obj)}(I:AF (X.pinned (X.pn++pins)) [] σ H s):AF X pins σ H s :=
 ⟨⟨I.ok.mod,I.ok.kind,I.ok.glob,I.ok.blt,I.ok.above,I.ok.inj,I.ok.has,I.ok.wR,I.ok.hd,I.ok.frames,I.ok.xk,I.ok.x8,I.ok.bs,I.ok.wx,I.ok.vo,I.ok.ŵ,I.ok.ĸ,I.ok.wK⟩,I.os,I.bare,I.base,I.loc,I.cell,I.free,I.ú,λp F=>I.pin p (by rw[Be];exact F),I.Í,I.len⟩
def SP.ý{pins:List (Addr×Obj)}{D:DY}{f:Flow}{s':Shared}(h:SP (X.pinned (X.pn++pins)) [] D f s'):SP X pins D f s':=by
 cases f with
 | next=>obtain⟨F,H',I,q⟩:=h;exact⟨F,H',I.ý,q⟩
 | brk=>obtain⟨F,H',I,q⟩:=h;exact⟨F,H',I.ý,q⟩
 | cont=>obtain⟨F,H',I,q⟩:=h;exact⟨F,H',I.ý,q⟩
 | ret u=>obtain⟨v,F,H',I,r,q⟩:=h;exact⟨v,F,H',I.ý,r,q⟩
def ki{body:List Stmt}{h₀:ExceptHandler}{hs:List ExceptHandler}{pos:Pos}{tb:DY->TS}{th:RB}(J:X.stack=X.env::X.outer)(hb:∀D pn,IP ((X.pinned pn).Ü (EF (X.pinned pn) (th D))) body (tb D))(hh:∀pn,Qk (X.pinned pn) (h₀::hs) th) :
 PS X (.Try body (h₀::hs) [] [] pos) (λD σ H=>tb D D σ H):=by
 intro pins s σ H D I h;have I0:=I.xE;refine wpAny_Try_except (Bv (hb D (X.pn++pins) [] s σ H D (I0.Ü _) h) (λf Z q=>?_) λev Z q=>?_)
 .cases f with
  | next =>
    obtain⟨Y,H',I',q⟩:=q;exact Ez ⟨Y,H',I'.ß.ý,q⟩
  | ret v=>exact SP.ý (SP.ß q)
  | brk=>exact SP.ý (SP.ß q)
  | cont=>exact SP.ý (SP.ß q)
 .refine Vj (X:=X.pinned (X.pn++pins)) I0.ok.frames J q λh' e cls dx W H1 L G hL I1 he hx hE=>?_;subst G;exact Rz (s:={ Z with heap:=h' }) (fr:=none) I1 he hx λh2 I2 F=>AV (hh (X.pn++pins) e cls dx W H1 _ D I2 he F hE) λf s3 q=>SP.ý q
end
structure XG(K:Frag)(C:Addr):Prop where
 ga:findIn K (.ref C) "__getattribute__"=some (some (.builtin "BaseException.__getattribute__"))
 gt:findIn K (.ref C) "__getattr__"=some none
 be:mroIn K C (.type "BaseException")=some true
 ob:mroIn K C (.type "object")=some true
 cc:findIn K (.ref C) "__class__"=some (some (.builtin "object.__class__"))
 hd:∃cd,clsIn K C=some cd/\cd.hasDict=true
section
variable {prog:Program}{w:World}{A:Around}{E:Value->Shared->Prop}{s:Shared}{K:Frag}{x C:Addr}{ox:Obj}{od:Option Obj}{name:Str}
def Kq:Slot "ValueError" "__getattribute__" "BaseException.__getattribute__":=PySem.F.excAttr_ValueError.ga
def YD{J Y:Bool}{tk:Tok}{Q:Value->Shared->Prop}(X:K.In s.heap)(I:PySem.W.InstAt s.heap x ox C od)(G:XG K C)
 (h:wpAny (model prog w) A.in1 (Builtin.«object.__getattribute__» ⟨[.ref x,.str name tk],[]⟩) (λfin s'=>match fin with|.done (.ret v)=>wpAny (model prog w) A (handedOut v) Q E s'|_=>False) (λ_ _=>False) s) :
 wpAny (model prog w) A (getAttrBy (.ref x) (.str name tk) Y J) Q E s:=by
 have hf:(Value.builtin "BaseException.__getattribute__"==Value.builtin "object.__getattribute__")=false:=by decide +kernel
 unfold getAttrBy;refine Bo (A6 (I.type.here (A6 ((looks_findIn X G.ga).here ?_))));dsimp only;rw[hf,Gk,As (by decide)];unfold getAttrByItsOwn;have Z:Looks (model prog w) s.heap (hookBefore (.ref C)) none:=looks_hook X (by rw[Au (show onTheHeap (Value.ref C)=true from rfl)];exact G.gt);refine A6 (Z.here (A6 (Fz (Bo ?_))));unfold callGetattribute;rw[show(J&&onTheHeap (Value.builtin "BaseException.__getattribute__"))=false from Gk _,As (by decide)];unfold boundAndCalled;rw[Kq.bind];refine A6 (Ab ?_);show wpAny _ _ (call (.builtin "BaseException.__getattribute__") [.ref x,.str name tk]) _ _ _;refine Dl (Dv Kq.plain PySem.F.entry_bexc_ga ?_);refine@check_slot (model prog w) _ _ s "BaseException.__getattribute__" "BaseException" "__getattribute__" (.ref x) [.str name tk] [] _ (by decide +kernel) (by decide +kernel) (I.type.andThen (looks_mroIn X G.be)) (PySem.F.args_bexc_ga _ _) ?_;refine Bv h (λfin s' z=>?_) λ_ _ z=>z.elim
 rcases fin with(_|_|_|_)|_<;>first|exact z|exact z.elim
def kl(X:K.In s.heap)(I:PySem.W.InstAt s.heap x ox C od)(G:XG K C)(hf:findObj K C od name=some (.value v))(F:handedIn v=true)(h:Q v { s with toks:=s.toks+1 }) :
 wpAny (model prog w) A (getAttr (.ref x) name expr) Q E s:=by
 unfold getAttr;refine A6 (wpAny_mkText (YD (s:={ s with toks:=s.toks+1 }) X I G ?_));unfold Builtin.«object.__getattribute__»;refine A6 (Ab (A6 (Ab (A6 (Dj (s:={ s with toks:=s.toks+1 }) I.type (A6 (Dj (s:={ s with toks:=s.toks+1 }) (looks_find X I hf) (Ab ?_))))))));show wpAny _ _ (handedOut v) _ _ _;rw[handedOut_of F];exact Ab h
def km(X:K.In s.heap)(I:PySem.W.InstAt s.heap x ox C od)(G:XG K C)(hn:specialIn K (.builtin "object.__class__") "__get__"=some (some (.builtin "getset_descriptor.__get__")))(htk:takesIn K (.builtin "object.__class__")=some true)(h:Q (some (.ref C)) { s with toks:=s.toks+1 }):wpAny (model prog w) A (getAttr? (.ref x) "__class__") Q E s:=by
 have hf:findObj K C od "__class__"=some (.bind (.builtin "getset_descriptor.__get__") (.builtin "object.__class__")):=by
  obtain⟨cd,F,_⟩:=G.hd;unfold findObj;rw[F,Iz,G.cc,Iz];simp[hn,htk]
 unfold getAttr? getAttrBy?;refine A6 (wpAny_mkText (A6 (Fz (YD (s:={ s with toks:=s.toks+1 }) X I G ?_))));unfold Builtin.«object.__getattribute__»;refine A6 (Ab (A6 (Ab (A6 (Dj (s:={ s with toks:=s.toks+1 }) I.type (A6 (Dj (s:={ s with toks:=s.toks+1 }) (looks_find X I hf) ?_)))))));show wpAny _ _ (bindTo (.builtin "getset_descriptor.__get__") (.builtin "object.__class__") (.ref x) (.ref C)) _ _ _;unfold bindTo;refine A6 (Bo (Dl (class_get (s:={ s with toks:=s.toks+1 }) (ox:=ox) (od:=od) X I G.ob (Ab ?_))));show wpAny _ _ (handedOut (.ref C)) _ _ _;exact handed_on rfl (Ab h)
def ko(G:XG K C)(hn:specialIn K (.builtin "object.__class__") "__get__"=some (some (.builtin "getset_descriptor.__get__")))(htk:takesIn K (.builtin "object.__class__")=some true) :
 KitX K (.ref x) (.ref C) (λh=>∃ox od,PySem.W.InstAt h x ox C od) where
 ty:=λ_ _ _ ⟨_,_,I⟩=>I.type
 it:=λ_ _ X _=>by
  obtain⟨cd,F,_⟩:=G.hd;unfold clsIn at F;split at F
  .rename_i J;intro A' Q' Z s' k q;unfold isType loadHead;exact A6 (Gj (k _ _ (X _ _ J)) (Ab q))
  .cases F
 ne:=λh tp dd its n sl X Y=>by
  obtain⟨cd,F,_⟩:=G.hd;refine Hz.mpr λq=>?_;have e:C=tp:=K0 (Bp.mp q);subst e;unfold clsIn at F;split at F
  .rename_i J;have z:=(X _ _ J).symm.trans Y;cases z
  .cases F
 ca:=λX ⟨_,_,I⟩ k=>km X I G hn htk k
end
def kq{K:Frag}:specialIn K (.builtin "object.__class__") "__get__"=some (some (.builtin "getset_descriptor.__get__")):=by rfl
def kr{K:Frag}:takesIn K (.builtin "object.__class__")=some true:=by rfl
section
variable {X:Cx}{pins:List (Addr×Obj)}{σ:St}{H:Hp}{s:Shared}
def ku(I:AF X pins σ H s)(he:H e=some (XE e C dx))(hd:∀a,dx=some a->∃o,s.heap.get? a=some o):∃ox od,PySem.W.InstAt s.heap e ox C od:=by
 obtain⟨⟨o,vs,Y,Z,G,J,_⟩,_⟩:=I.Í e _ he;have F:notCls o=true:=by unfold notCls;rw[J]
 cases hq:dx with
 | none=>exact⟨o,none,Y,Z,F,by rw[G,hq];exact True.intro⟩
 | some a =>
   obtain⟨oa,ha⟩:=hd a hq;exact⟨o,some oa,Y,Z,F,by rw[G,hq];exact ha⟩
def YE(K:Frag)(ta:TE)(f:Str):TE:=λσ H Q=>ta σ H λx H1=>∃e C dx fs v,x=.ref e/\H1 e=some (XE e C (some dx))/\H1 dx=some (.xd fs)/\XG K C/\MV K C f/\fs.lookup f=some v/\Q v H1
def kv(he:PE X e ta)(hb:attributeBase e f X.env (eval e X.env)=eval e X.env):PE X (.Attribute e f pos) (YE X.K ta f):=by
 intro pins s σ H Q I h;refine X8 hb (AV (he pins s σ H _ I h) λu s1 ad=>?_);obtain⟨x,H1,F,rx,ea,C,dx,fs,v,ex,h1,h2,G,n,l,q⟩:=ad;subst ex;obtain rfl:u=Value.ref ea:=rx;obtain⟨⟨o,vs,ho,hc,Z,Y,_⟩,_⟩:=F.Í ea _ h1;refine DQ (F.Í dx _ h2) λmA=>BW λn1 r=>?_;refine DQ (X4 n1) λod=>BW λae hl=>?_;obtain⟨u,hu,ru⟩:=EC.some_of (v:=v) (o:=mA f) (by rw[<-l];exact r f);have J:PySem.W.InstAt s1.heap ea o C (some od):=⟨ho,hc,by unfold notCls;rw[Y],by rw[Z];exact ae⟩
 refine DQ G.hd λcd=>BW λac aa=>?_;have hh:hasDictIn X.K C=true:=by unfold hasDictIn;rw[ac];exact aa
 exact kl F.Ĝ J G (findObj_own hh n rfl (by rw[hl,hu])) (X7 ru) ⟨v,H1,F.tok _,ru,q⟩
def RC:V->Option Value
 | .ref B=>some (.ref B)
 | .ty n=>some (.type n)
 | _=>none
def kx{u:Value}(h:RC c=some v)(r:AR c u):u=v:=by
 cases c<;>cases h<;>exact r
def RD(K:Frag):List V->Hp->VK->Prop:=λxs H Q=>∃e C dx c v b,xs=[.ref e,c]/\H e=some (XE e C dx)/\(∀a,dx=some a->∃fs,H a=some (.xd fs))/\XG K C/\RC c=some v/\kitOne K (.ref C) v=some b/\Q (.bl b) H
def kz:IW X (.builtin "isinstance") (RD X.K):=by
 refine λpins s σ H xs us Q I r=>EM λe C dx c v=>ES λb=>LF λJ Z hd G hc W q=>?_;subst J;refine On (Sw r) λu w'=>FN λF Y rt=>?_;subst F;obtain rfl:u=Value.ref e:=Y;obtain rfl:=kx hc rt;exact kia_one (ko G kq kr) I.Ĝ (ku I Z λa ha=>let ⟨fs,z⟩:=hd a ha;let ⟨_,⟨o,_,_,z2,_⟩,_⟩:=(I.Í a _ z);⟨o,z2⟩) W (λz=>nomatch z) λtk=>⟨.bl b,H,I.tok _,rfl,q⟩
variable {K:Frag}(hK:X.K=K)
include hK
theorem Lq:IW X (.builtin "isinstance") (RD K):=by subst hK;exact kz
theorem YF(F:PE X e ta)(hb:attributeBase e f X.env (eval e X.env)=eval e X.env:=by rfl):PE X (.Attribute e f pos) (YE K ta f):=by subst hK;exact kv F hb
end
noncomputable def Ny (K:Frag) (C:Addr):Bool :=
 findIn K (.ref C) "__getattribute__"==some (some (.builtin "BaseException.__getattribute__"))&&findIn K (.ref C) "__getattr__"==some none&&mroIn K C (.type "BaseException")==some true&&mroIn K C (.type "object")==some true &&
 findIn K (.ref C) "__class__"==some (some (.builtin "object.__class__"))&&(clsIn K C).any (·.hasDict)&&PySem.W.keepIn K (.ref C)&&typeIn K (.ref C)==some (.type "type")&&mroIn K C (.type "ValueError")==some true
structure XQ(K:Frag)(C:Addr):Prop where
 g:XG K C
 kp:PySem.W.keepIn K (.ref C)=true
 ty:typeIn K (.ref C)=some (.type "type")
 ve:mroIn K C (.type "ValueError")=some true
def YG{K:Frag}{C:Addr}(h:Ny K C=true):XQ K C:=by
 simp only[Ny,Ae,Bp]at h;obtain⟨⟨⟨⟨⟨⟨⟨⟨h1,h2⟩,h3⟩,J⟩,Z⟩,F⟩,Y⟩,I⟩,G⟩:=h;obtain⟨cd,hc,hd⟩:=any_some F;exact⟨⟨h1,h2,h3,J,Z,cd,hc,hd⟩,Y,I,G⟩
def OV(K:Frag)(C f:Addr)(fld:Str):Bool :=
 (clsIn K C).any (λcd=>RA cd.mro&&cd.hasDict)&&findIn K (.ref C) "__setattr__"==some (some (.builtin "object.__setattr__"))&&findIn K (.ref C) fld==some none&&PySem.W.isFn K (.ref f)
def kA{K:Frag}{C f:Addr}{fld:Str}(h:OV K C f fld=true):XF K C fld/\PySem.W.isFn K (.ref f)=true:=by
 simp only[OV,Ae,Bp]at h;obtain⟨⟨⟨h1,h2⟩,G⟩,F⟩:=h;obtain⟨cd,I,hd⟩:=any_some h1;rw[Ae]at hd
 exact⟨⟨⟨cd,I,hd.1,hd.2⟩,h2,G⟩,F⟩
def YH{K:Frag}{C B:Addr}{F:Option Addr}{b:Bool}(hB:IT K B F=true)(q:XQ K B)(h:mroIn K C (.ref B)=some b)(I:C=B->b=true):kitOne K (.ref C) (.ref B)=some b:=by
 unfold kitOne;by_cases e:C=B
 .subst e;rw[Au (by simp),I rfl]
 .rw[As (λz=>e (K0 (Bp.mp z)))];unfold kitCls;have J:(clsIn K B).isSome=true:=by
   unfold IT at hB;split at hB
   .rename_i G;unfold clsIn;rw[G];rfl
   .cases hB
  show(if ((clsIn K B).isSome&&typeIn K (.ref B)==some (.type "type"))=true then subIn K (.ref C) (.ref B)else none)=some b;rw[J,q.ty,Au (by simp)];exact h
def OW{K:Frag}{C:Addr}(q:XQ K C):kitOne K (.ref C) (.type "ValueError")=some true:=by
 unfold kitOne;rw[As (λz=>by cases Bp.mp z)];exact q.ve
structure CI(K:Frag)(mg:Str->Option Value)(x qual:Str)(st:Stmt)(ps:List Str)(C f:Addr)(fd:FuncData)(fld:Str):Prop where
 mg:mg x=some (.ref C)
 cls:IT K C (some f)=true
 q:XQ K C
 xf:XF K C fld
 fn:PySem.W.isFn K (.ref f)=true
 fi:O0 K "__init__" qual st f fd
 ba:∀us:List Value,us.length=ps.length->bindArgs fd ⟨us,[]⟩=pure (ps.zip us)
structure CN(K:Frag)(mg:Str->Option Value)(x:Str)(C:Addr):Prop where
 mg:mg x=some (.ref C)
 cls:IT K C none=true
 q:XQ K C
def OX(C:Addr)(fld:Str):Sp:=λvs H Q _=>∃(e:Addr) (i:Int),vs=[.ref e,.int i]/\H e=some (XO e C none)/\i.natAbs<=1000000000/\∀dx,H dx=none->Q .non (upd (upd H dx (.xd [(fld,.int i)])) e (XO e C (some dx)))
def kB(C:Addr)(fld:Str)(E:St->XK)(t:TA):TS:=λ_ σ H=>t σ H λvs H1=>∃i:Int,vs=[.int i]/\i.natAbs<=1000000000/\∀dx,H1 dx=none->E σ (.ref C) (some dx) (upd H1 dx (.xd [(fld,.int i)]))
section
variable {X:Cx}{k j:Nat}{f C:Addr}{fd:FuncData}{ps:List Str}{sp:Sp}{x qual fld:Str}{st:Stmt}{p np cpos pos:Pos}{e:Expr}{es:List Expr}{t:TA}{E:St->XK}{L:Addr}
theorem kC(F:H1 ea=none)(hn:dx≠ea):wy (upd (upd (upd H1 ea o) dx y) ea o') ea=upd H1 dx y:=by
 grind[Tc,BE,Td,AA]
def RE(d:CI X.K X.mg x qual st ps C f fd fld)(F:AG X.prog X.w X.K X.mg X.base BL j f fd ps (OX C fld))(W:BO k X.A)(Z:Gl X x)(hL:X.env.frame=some L)(G:X.calm=true)(ha:PA (X.Ü (EF X E)) (e::es) t)(hjk:j+1<=k:=by decide)(hdb:(x==("__debug__":Str))=false:=by decide)
 (he:starEach (e::es) X.env=(false,eval e X.env)::starEach es X.env:=by rfl) (hpl:(backTo cpos (starEach es X.env)).any (·.1)=false:=by rfl) :
 PS (X.Ü (EF X E)) (.Raise (some (.Call (.Name x np) (e::es) [] cpos)) none pos) (kB C fld E t):=by
 refine jX (R:=λσ vs H1=>∃i:Int,vs=[.int i]/\i.natAbs<=1000000000/\∀dx,H1 dx=none->E σ (.ref C) (some dx) (upd H1 dx (.xd [(fld,.int i)]))) hL G ⟨d.cls,d.fn,d.q.kp⟩ F (W.mono hjk) Z d.mg (.all d.ba) (λσ vs H1 h1=>?_) ha hdb he hpl;obtain⟨i,rfl,hi,q⟩:=h1;refine⟨by show 1<=10;decide,λJ Y=>⟨J,i,rfl,AA,hi,λdx I=>⟨rfl,rfl,some dx,AA,?_⟩⟩⟩
 grind[AA,BE,kC]
def Lr(d:CN X.K X.mg x C)(G:Gl X x)(I:X.env.frame=some L)(F:X.calm=true)(ha:PA (X.Ü (EF X E)) (e::es) t)(hdb:(x==("__debug__":Str))=false:=by decide)
 (he:starEach (e::es) X.env=(false,eval e X.env)::starEach es X.env:=by rfl) (hpl:(backTo cpos (starEach es X.env)).any (·.1)=false:=by rfl) :
 PS (X.Ü (EF X E)) (.Raise (some (.Call (.Name x np) (e::es) [] cpos)) none pos) (YC C E t):=jY I F ⟨d.cls,d.q.kp⟩ G d.mg ha hdb he hpl
def FM(d:D X.K X.mg x st ps f fd)(F:AG X.prog X.w X.K X.mg X.base (DG X.prog X.w) j f fd ps sp)(G:BO k X.A)(I:Gl X x)(J:X.env.frame=some L)(ha:PA (X.Ü (EF X E)) (e::es) t)(hjk:j<=k:=by decide)(hdb:(x==("__debug__":Str))=false:=by decide)
 (he:starEach (e::es) X.env=(false,eval e X.env)::starEach es X.env:=by rfl) (hpl:(backTo pos (starEach es X.env)).any (·.1)=false:=by rfl) :
 PE (X.Ü (EF X E)) (.Call (.Name x p) (e::es) [] pos) (Yu sp E t):=jH J (F.mono hjk) G I d.mg d.fn.kp (.all d.ba) ha hdb he hpl
end
def kE:bootBuiltins "any"=some (.builtin "any"):=by decide +kernel
def RF(K:Frag):List V->Hp->VK->Prop:=λxs H Q=>∃(p:Addr) (bs:List Bool),xs=[.ref p]/\AH K H p (bs.map V.bl)/\Q (.bl (bs.any id)) H
def kF(hc:X.calm=true):IW X (.builtin "any") (RF X.K):=by
 rintro pins s σ H xs us Q I r ⟨p,bs,rfl,hq,q⟩;obtain⟨u,rfl,ru⟩:=Kk r;cases ru;obtain⟨its,rv,pl,hz⟩:=I.list hq;have hl:its.length=bs.length:=by rw[<-rv.length,A8]
 obtain⟨ol,F,W⟩:=id pl.isList;have Y:=Am F;refine call_any_walk (Ec pl.isList ⟨s.heap.objs.size,_,_,_,_,_,λi=>bs.getD i false,rfl,Walks.list (A:=X.A.in1) (I.ok.hd hc) s.heap.objs.size p (B8 Y) its.toArray,⟨⟨_,Ax _ rfl,rfl,rfl⟩,ol,A7 _ F,W⟩,λi v s' Q' E' hv J=>?_,λh' tk hk=>?_⟩)
 .have Z:its[i]?=some v:=by simpa using hv
  obtain⟨y,G,ry⟩:=SU rv Z;rw[Ap]at G
  cases e:bs[i]? with
  | none=>rw[e]at G;cases G
  | some b =>
    rw[e]at G
    have aa:=Av G;subst aa;cases ry;have J:Q' (bs.getD i false) s':=J;rw[Ba,e]at J
    exact C2 J
 .have e:(List.range its.toArray.size).any (λi=>bs.getD i false)=bs.any id:=by
   rw[B1,hl,Cy,Dh,Dh]
   grind[List.mem_range.mp,List.getD_eq_getElem?_getD,List.getElem?_eq_getElem,List.getElem_mem,List.getElem_of_mem,List.mem_range.mpr]
  rw[e];exact⟨.bl _,H,I.kept (λb o e=>hk b o (by simp;exact B8 (Am e)) (A7 _ e)),rfl,q⟩
def Vn(K:Frag)(hK:X.K=K)(F:X.calm=true):IW X (.builtin "any") (RF K):=by subst hK;exact kF F
end L2
namespace Cs
open PySem L2
def kG:∀c,c<128->(!(Builtin.Str.occurrences "abcdefghijklmnopqrstuvwxyz.,-'" (sg c) 0 ("abcdefghijklmnopqrstuvwxyz.,-'":Str).length 1).isEmpty)=decide (c∈FG):=by decide +kernel
def Ls(n:Nat)(x:Str):Prop:=x.length<=n/\∀c∈x.cps.toList,c<128
def Nz(x:Str):Bool:=match x.cps.toList with
 | [c]=>decide (c∈FG)
 | _=>false
noncomputable def RG (r:BN):Bool:=Nz r.s&&decide (1<=r.w/\r.w<=99)&&decide (0<=r.t/\r.t<=127)&&decide (0<=r.n/\r.n<=40)
def OY(F:List BN)(r:BN):Bool:=RG r&&(DW F r.s).isNone&&!decide (r.t∈F.map λx=>x.t)
def OZ(rs:List BN)(k:Nat):Prop:=∀i r,i<k->rs[i]?=some r->OY (rs.take i) r=true
inductive Looks (rs:List BN):Option Nat->Prop
 | none0:rs=[]->Looks rs (some 0)
 | bad {k:Nat}{r:BN}:OZ rs k->rs[k]?=some r->OY (rs.take k) r=false->Looks rs (some k)
 | good:rs≠[]->OZ rs rs.length->Looks rs none
def Looks.uniq(Z:Looks rs a)(hb:Looks rs b):a=b:=by
 have lt:∀{k:Nat}{r:BN},rs[k]?=some r->k<rs.length:=λh=>(B9.mp h).1
 cases Z with
 | none0 e =>
   cases hb with
   | none0 _=>rfl
   | bad _ h _=>rw[e]at h;simp at h
   | good n _=>exact absurd e n
 | bad G h1 J =>
   cases hb with
   | none0 e=>rw[e]at h1;simp at h1
   | bad F h2 I =>
     rename_i k r W Y;rcases Nat.lt_trichotomy k W with z|z|z
     .have:=F k r z h1;rw[J]at this
      cases this
     .rw[z]
     .have:=G W Y z h2;rw[I]at this
      cases this
   | good _ F =>
     have:=F _ _ (lt h1) h1;rw[J]at this
     cases this
 | good n G =>
   cases hb with
   | none0 e=>exact absurd e n
   | bad F h2 I =>
     have:=G _ _ (lt h2) h2;rw[I]at this
     cases this
   | good _ _=>rfl
theorem YI{α:Type}[DecidableEq α]:∀{xs ys:List α},xs.Nodup->(∀x∈xs,x∈ys)->xs.length<=ys.length
 | [],_,_,_=>Bj _
 | x::xs,ys,h,I=>by
   obtain⟨h1,h2⟩:=Bx.mp h;have J:=I x Al;have ih:=YI (xs:=xs) (ys:=ys.erase x) h2 λy G=>by
    have F:y≠x:=λe=>h1 (by rw[<-e];exact G)
    exact(List.mem_erase_of_ne F).mpr (I y (Ah _ G))
   rw[List.length_erase_of_mem J]at ih
   have:=List.length_pos_of_mem J;rw[Bw]
   lia
def OZ.succ(h:OZ rs k)(hr:rs[k]?=some r)(hs:OY (rs.take k) r=true):OZ rs (k+1):=λi G hi F=>by
 by_cases e:i=k
 .subst e;rw[hr]at F
  cases F;exact hs
 .exact h i G (by lia) F
end Cs
namespace L2
open PySem PySem.Spec PyProof.Rows
section
variable {X:Cx}
def P0:V->List V->Hp->VK->Prop:=λx vs H Q=>∃(l:Addr) (ns:List Int) (z:Int),x=.ref l/\vs=[.int z]/\H l=some (.lst (ns.map V.int))/\Q (.int (ns.count z:Nat)) H
theorem YJ(z:Int):∀(ns:List Int) (its:List Value),AM (ns.map V.int) its->its.countP (XJ z)=ns.count z
 | [],_,h=>by
   cases h;rfl
 | n::ns,_,h=>by
   cases h with
   | cons r t =>
     obtain⟨tk,rfl⟩:=r;rw[List.countP_cons,List.count_cons,YJ z ns _ t];rfl
def kH:OF X "list.count" P0:=by
 rintro pins s σ H x vs v us Q I rx W ⟨l,ns,z,rfl,rfl,hH,q⟩;cases rx;obtain⟨u,rfl,t,rfl⟩:=W.one;obtain⟨zz,its,n,r,Y,e⟩:=I.vk hH;rw[A8]at Y
 have at_:∀(m:Nat) (hm:m<its.length),∃t',its[m]=.int (ns[m]'(by lia)) t':=λm hm=>by
  obtain⟨u,G,ru⟩:=r.get (i:=m) (x:=.int (ns[m]'(by lia))) (by rw[Ap,A9 (by lia)];rfl);rw[A9 hm]at G
  obtain⟨t',rfl⟩:=ru;exact⟨t',Av G⟩
 refine Eh F.slot_list_count ⟨_,e,rfl⟩ F.entry_list_count (F.args_list_count_2 _ _)
  (MeetsSeq.list_count l its.toArray n (.int z t) (XJ z) (λy Z=>?_)) ⟨e,?_⟩
 .obtain⟨m,hm,ey⟩:=Ca (by simpa using Z);obtain⟨t',J⟩:=at_ m hm;rw[<-ey,J];exact MeetsSeq.EqGives.int _ _ _ _
 .rw[show its.toArray.toList=its from rfl,YJ z ns its r];exact⟨.int (ns.count z:Nat),H,I.tok _,⟨_,rfl⟩,q⟩
end
end L2
namespace Lan
open PySem L2
abbrev Mx:=Str×Int
def IU(H:Hp)(v:V)(m:Mx):Prop:=∃a,v=.ref a/\H a=some (.tup [.str m.1,.int m.2])
def YK(h:Paired (IU H) xs ms)(s:AD H H'):Paired (IU H') xs ms:=Paired.à h λ_ _ ⟨a,e,z⟩=>⟨a,e,s _ _ z⟩
def Vo(h:Paired (IU H) xs ms)(F:H p=some (.lst ys)):Paired (IU (upd H p o)) xs ms :=
 Paired.à h λ_ _ ⟨a,e,z⟩=>⟨a,e,by rw[BE (Kh z F (λq=>by cases q))];exact z⟩
theorem YL(h:IU H v m):∀n:Nat,Paired (IU H) (List.replicate n v) (List.replicate n m)
 | 0=>.nil
 | n+1=>.cons h (YL h n)
def P1(H0:Hp)(no:Addr)(H:Hp)(v:V)(ms:List Mx):Prop:=∃p xs,v=.ref p/\p≠no/\H0 p=none/\H p=some (.lst xs)/\Paired (IU H) xs ms
def kJ(h:Paired (P1 H0 no H) zs ls)(s:AD H H'):Paired (P1 H0 no H') zs ls :=
 Paired.à h λ_ _ ⟨p,xs,e,n,f,z,m⟩=>⟨p,xs,e,n,f,s _ _ z,YK m s⟩
def kK(h:Paired (P1 H0 no H) zs ls)(hn:H no=some (.lst ys)):Paired (P1 H0 no (upd H no o)) zs ls :=
 Paired.à h λ_ _ ⟨p,xs,e,n,f,z,m⟩=>⟨p,xs,e,n,f,by rw[BE n];exact z,Vo m hn⟩
def kL(h:Paired (P1 H0 no H) zs ls)(G:H p=none):V.ref p∉zs:=by
 intro hm;obtain⟨i,hi,e⟩:=Ca hm;obtain⟨_,_,p2,xs,F,_,_,z,_⟩:=Cs.IG h (A9 hi);rw[e]at F
 cases F;rw[G]at z
 cases z
end Lan
namespace L2
open PySem PySem.Spec PyProof.Rows
def P2(h:Heap)(z TI TO:Addr):Prop :=
 ∃(F:Value) (G:Bool),(F=.none\/∃T:Addr,F=rawInt T)/\h.get? z=some { cls:=.type "zip",dict:=none,data:=.fields #[F,.bool G,.bool false,.ref TI,.ref TO],slots:=#[] }
section
variable {prog:Program}{w:World}{A:Around}{E:Value->Shared->Prop}{s:Shared}
def kN(h:Q (s.heap.get? a) s):wpAny (model prog w) A (loadIfAlive a) Q E s:=by
 intro G p F;unfold loadIfAlive
 simp_all
def YM{z TI TO:Addr}{Q:Bool->Shared->Prop}(hz:P2 s.heap z TI TO)
 (h:∀b h',(∃J G,h'.get? z=some { cls:=.type "zip",dict:=none,data:=.fields #[J,.bool G,.bool false,.ref TI,.ref TO],slots:=#[] })->(b=false->P2 h' z TI TO)->Heap.SameBut z s.heap h'->Q b { s with heap:=h' }) :
 wpAny (model prog w) A (Builtin.SmallTypes.ownedTupleIsFree (.ref z)) Q E s:=by
 obtain⟨J,G,hf,hz⟩:=hz;unfold Builtin.SmallTypes.ownedTupleIsFree;refine A6 (Bz hz rfl (x:=J) rfl ?_);rcases hf with rfl|⟨T,rfl⟩
 .exact Ab (h true s.heap ⟨_,_,hz⟩ (λz=>nomatch z) ⟨rfl,λ_ _=>rfl⟩)
 .show wpAny _ _ (loadIfAlive (Int.toNat (T:Int)) >>= _) _ _ _;refine A6 (kN ?_);cases s.heap.get? (Int.toNat (T:Int))with
  | none=>exact Ab (h true s.heap ⟨_,_,hz⟩ (λz=>nomatch z) ⟨rfl,λ_ _=>rfl⟩)
  | some o =>
    show wpAny _ _ (field (.ref z) 1 >>= _) _ _ _;refine A6 (Bz hz rfl (x:=.bool G) rfl ?_);cases G with
    | true =>
      rw[As (by decide)];exact A6 (Ab (Ab (h false s.heap ⟨_,_,hz⟩ (λ_=>⟨_,_,.inr ⟨T,rfl⟩,hz⟩) ⟨rfl,λ_ _=>rfl⟩)))
    | false =>
      rw[Au (by decide)];exact A6 (D7 hz (by simp) λh' F I=>Ab (h false h' ⟨_,_,F⟩ (λ_=>⟨_,_,.inr ⟨T,rfl⟩,F⟩) I))
def kO{z TI TO i1 i2 l1 l2:Addr}{k1 k2:Nat}{xs ys:Array Value}{x y a b:Value}{Q:Value->Shared->Prop}(D:ZipApart z TI TO i1 i2 l1 l2)
 (hz:P2 s.heap z TI TO) (hTI:IsPair s.heap TI (.ref i1) (.ref i2)) (hTO:IsPair s.heap TO a b)
 (h1:s.heap.IsListIter i1 l1 k1) (h2:s.heap.IsListIter i2 l2 k2) (Ŝ:s.heap.IsList l1 xs) (ŏ:s.heap.IsList l2 ys) (hx:xs[k1]?=some x) (hy:ys[k2]?=some y)
 (hQ:∀h',P2 h' z TI TO->(∃u v,IsPair h' TO u v)->h'.IsListIter i1 l1 (k1+1)->h'.IsListIter i2 l2 (k2+1)->IsPair h' s.heap.objs.size x y->h'.objs.size=s.heap.objs.size+1 ->
   (∀c o,c≠z->c≠TO->c≠i1->c≠i2->s.heap.get? c=some o->h'.get? c=some o)->Q (.ref s.heap.objs.size) { s with heap:=h' }) :
 wpAny (model prog w) A (Builtin.«zip.__next__» ⟨[.ref z],[]⟩) (λfin s'=>∃v,fin=.done (.ret v)/\Q v s') E s:=by
 obtain⟨f0,f1,hf,aB⟩:=id hz;show wpAny _ _ (field (.ref z) 2 >>= _) _ _ _;refine A6 (Bz aB rfl (x:=.bool false) rfl ?_);show wpAny _ _ (field (.ref z) 3 >>= _) _ _ _;refine A6 (Bz aB rfl (x:=.ref TI) rfl (A6 (Dc hTI rfl ?_)));show wpAny _ _ (Builtin.SmallTypes.ownedTupleIsFree (.ref z) >>= _) _ _ _;refine A6 (YM hz λfr h₀ ao aE I=>?_);cases fr with
 | true =>
   obtain⟨aI,aJ,ao⟩:=ao;simp only[J9];refine A6 (Gh (A6 (Bz ao rfl (x:=.ref TO) rfl (A6 (D7 ao (by simp) λaC au ad=>?_)))));have J:Heap.SameBut z s.heap aC:=⟨ad.1.trans I.1,λc hc=>(ad.2 c hc).trans (I.2 c hc)⟩
   clear ad;refine A6 ?_;simp only[List.zipIdx_cons,List.zipIdx_nil,F0,Ei];refine A6 (A6 (Fy ?_));show wpAny _ _ (Builtin.SmallTypes.nextOf (.ref i1) >>= _) _ _ _;refine A6 (Cu (h1.extBut J.extBut D.i1z) (Ŝ.extBut J.extBut D.l1z) hx λaq ai F=>Ab ?_);have al:IsPair aq TO a b:=F.extBut _ _ D.TOi1 (J.extBut _ _ D.TOz hTO);refine A6 (Dc al rfl (A6 (G2 al λaD ae W=>?_)))
   replace ae:IsPair aD TO x b:=ae
   refine A6 (Ek (Ab (A6 (A6 (Fy ?_)))));show wpAny _ _ (Builtin.SmallTypes.nextOf (.ref i2) >>= _) _ _ _;refine A6 (Cu (((h2.extBut J.extBut D.i2z).extBut F.extBut D.i12.symm).extBut W.extBut D.TOi2.symm)
    (((ŏ.extBut J.extBut D.l2z).extBut F.extBut D.l2i1).extBut W.extBut D.l2TO) hy λac ag G=>Ab ?_)
   have aj:=G.extBut _ _ D.TOi2 ae;refine A6 (Dc aj rfl (A6 (G2 aj λaa Y Z=>?_)))
   replace Y:IsPair aa TO x y:=Y
   refine A6 (Ek (Ab (Ab (A6 (Dc Y rfl (A6 (wpAny_newTuple ?_)))))));have hsz:aa.objs.size=s.heap.objs.size:=by rw[Z.1,G.1,W.1,F.1,J.1]
   have an:=Z.extBut _ _ D.TOz.symm (G.extBut _ _ D.i2z.symm (W.extBut _ _ D.TOz.symm (F.extBut _ _ D.i1z.symm au)));have az:∀c o,c≠z->c≠TO->c≠i1->c≠i2->s.heap.get? c=some o->aa.get? c=some o:=λc o c1 c2 c3 c4 e =>
    Z.extBut _ _ c2 (G.extBut _ _ c4 (W.extBut _ _ c2 (F.extBut _ _ c3 (J.extBut _ _ c1 e))))
   have av:=((ai.extBut W.extBut D.TOi1.symm).extBut G.extBut D.i12).extBut Z.extBut D.TOi1.symm;have aw:=ag.extBut Z.extBut D.TOi2.symm;have ap:=Am an;show wpAny _ _ (Builtin.SmallTypes.ownedTupleHandOut (.ref z) (.ref aa.objs.size) >>= _) _ _ _;refine A6 ?_;unfold Builtin.SmallTypes.ownedTupleHandOut;refine A6 (D7 (A7 { cls:=.type "tuple",data:=.seq #[x,y] } an) (by simp) λaH ax af=>?_);refine D7 ax (by simp) λak ar ah=>?_;have up:∀c o,c≠z->aa.get? c=some o->ak.get? c=some o:=λc o c1 e=>ah.extBut _ _ c1 (af.extBut _ _ c1 (A7 _ e))
   have am:=ah.extBut _ _ (Co ap) (af.extBut _ _ (Co ap) (Ax _ rfl));have aA:ak.objs.size=aa.objs.size+1:=by rw[ah.1,af.1,C0]
   have aF:P2 ak z TI TO:=⟨_,_,.inr ⟨_,rfl⟩,ar⟩
   rw[hsz]at am aA
   refine Ab ⟨_,rfl,?_⟩;show Q (.ref aa.objs.size) _;rw[hsz];exact hQ ak aF ⟨_,_,up _ _ D.TOz Y⟩ (av.at λo e=>up _ o D.i1z e) (aw.at λo e=>up _ o D.i2z e) am aA λc o c1 c2 c3 c4 e=>up c o c1 (az c o c1 c2 c3 c4 e)
 | false =>
   have ay:=aE rfl;simp only[D5,G0];simp only[F0,Ei,<-K3];refine A6 (A6 (A6 (Bo ?_)));show wpAny _ _ (Builtin.SmallTypes.nextOf (.ref i1) >>= _) _ _ _;refine A6 (Cu (h1.extBut I.extBut D.i1z) (Ŝ.extBut I.extBut D.l1z) hx λaq ai F=>Ab (Ab (A6 (A6 (Bo ?_)))));show wpAny _ _ (Builtin.SmallTypes.nextOf (.ref i2) >>= _) _ _ _;refine A6 (Cu ((h2.extBut I.extBut D.i2z).extBut F.extBut D.i12.symm) ((ŏ.extBut I.extBut D.l2z).extBut F.extBut D.l2i1) hy λac ag G=>Ab (Ab (Ab ?_)));show wpAny _ _ (newTuple [x,y] >>= _) _ _ _;refine A6 (wpAny_newTuple ?_);have hsz:ac.objs.size=s.heap.objs.size:=by rw[G.1,F.1,I.1]
   refine Ab ⟨_,rfl,?_⟩;show Q (.ref ac.objs.size) _;have up:∀c o,c≠z->c≠i1->c≠i2->s.heap.get? c=some o->ac.get? c=some o:=λc o c1 c3 c4 e=>G.extBut _ _ c4 (F.extBut _ _ c3 (I.extBut _ _ c1 e))
   obtain⟨g0,g1,hg,aG⟩:=ay;have p1:=A7 { cls:=.type "tuple",data:=.seq #[x,y] } (G.extBut _ _ D.i2z.symm (F.extBut _ _ D.i1z.symm aG));have p2:IsPair (ac.push { cls:=.type "tuple",data:=.seq #[x,y] }) ac.objs.size x y:=Ax _ rfl;rw[hsz]at p2⊢
   refine hQ _ ⟨g0,g1,hg,p1⟩ ⟨a,b,A7 _ (up _ _ D.TOz D.TOi1 D.TOi2 hTO)⟩ (((ai.extBut G.extBut D.i12)).at λo e=>A7 _ e) (ag.at λo e=>A7 _ e) p2 (by rw[C0,hsz]) λc o c1 c2 c3 c4 e=>A7 _ (up c o c1 c3 c4 e)
def kP{z TI TO i1 i2 l1 l2:Addr}{k1 k2:Nat}{xs ys:Array Value}{a b:Value}{Q:Fin->Shared->Prop}(hh:A.handled=none)(D:ZipApart z TI TO i1 i2 l1 l2)
 (hz:P2 s.heap z TI TO) (hTI:IsPair s.heap TI (.ref i1) (.ref i2)) (hTO:IsPair s.heap TO a b)
 (h1:s.heap.IsListIter i1 l1 k1) (h2:s.heap.IsListIter i2 l2 k2) (Ŝ:s.heap.IsList l1 xs) (ŏ:s.heap.IsList l2 ys) (hend:xs[k1]?=none\/ys[k2]?=none)
 (hE:∀h' e,(∀c o,c≠z->c≠TO->c≠i1->c≠i2->s.heap.get? c=some o->h'.get? c=some o)->(∃o,h'.get? e=some o/\o.cls=.type "StopIteration")->E (.ref e) { s with heap:=h' }) :
 wpAny (model prog w) A (Builtin.«zip.__next__» ⟨[.ref z],[]⟩) Q E s:=by
 obtain⟨f0,f1,hf,ao⟩:=id hz;show wpAny _ _ (field (.ref z) 2 >>= _) _ _ _;refine A6 (Bz ao rfl (x:=.bool false) rfl ?_);show wpAny _ _ (field (.ref z) 3 >>= _) _ _ _;refine A6 (Bz ao rfl (x:=.ref TI) rfl (A6 (Dc hTI rfl ?_)));show wpAny _ _ (Builtin.SmallTypes.ownedTupleIsFree (.ref z) >>= _) _ _ _;refine A6 (YM hz λfr h₀ ai ar G=>?_);cases fr with
 | true =>
   obtain⟨av,au,ai⟩:=ai;simp only[J9];refine A6 (Gh (A6 (Bz ai rfl (x:=.ref TO) rfl (A6 (D7 ai (by simp) λan ah W=>?_)))));have I:Heap.SameBut z s.heap an:=⟨W.1.trans G.1,λc hc=>(W.2 c hc).trans (G.2 c hc)⟩
   clear W;refine A6 ?_;simp only[List.zipIdx_cons,List.zipIdx_nil,F0,Ei];refine A6 (A6 (Fy ?_));show wpAny _ _ (Builtin.SmallTypes.nextOf (.ref i1) >>= _) _ _ _;cases hx:xs[k1]? with
   | none =>
     refine A6 (Eb hh (h1.extBut I.extBut D.i1z) (Ŝ.extBut I.extBut D.l1z) hx λac e F he=>?_);obtain⟨oe,Z,af⟩:=he;have ad:=F _ _ D.i1z.symm ah;have al:e≠z:=λx=>by subst x;rw[ad]at Z;cases Z;simp at af
     refine D7 ad (by simp) λak _ J=>hE ak e (λc o c1 _ c3 _ x=>J.extBut _ _ c1 (F _ _ c3 (I.extBut _ _ c1 x))) ⟨oe,J.extBut _ _ al Z,af⟩
   | some x =>
     have hy:ys[k2]?=none:=by rcases hend with h|h;rw[hx]at h;cases h;exact h
     refine A6 (Cu (h1.extBut I.extBut D.i1z) (Ŝ.extBut I.extBut D.l1z) hx λac am F=>Ab ?_);have aa:=F.extBut _ _ D.TOi1 (I.extBut _ _ D.TOz hTO);refine A6 (Dc aa rfl (A6 (G2 aa λak aq J=>A6 (Ek (Ab (A6 (A6 (Fy ?_))))))));show wpAny _ _ (Builtin.SmallTypes.nextOf (.ref i2) >>= _) _ _ _;refine A6 (Eb hh (((h2.extBut I.extBut D.i2z).extBut F.extBut D.i12.symm).extBut J.extBut D.TOi2.symm)
      (((ŏ.extBut I.extBut D.l2z).extBut F.extBut D.l2i1).extBut J.extBut D.l2TO) hy λaj e Y he=>?_)
     obtain⟨oe,Z,af⟩:=he;have ag:=Y _ _ D.i2z.symm (J.extBut _ _ D.TOz.symm (F.extBut _ _ D.i1z.symm ah));have al:e≠z:=λx=>by subst x;rw[ag]at Z;cases Z;simp at af
     refine D7 ag (by simp) λap _ ae=>hE ap e (λc o c1 c2 c3 c4 x=>ae.extBut _ _ c1 (Y _ _ c4 (J.extBut _ _ c2 (F.extBut _ _ c3 (I.extBut _ _ c1 x))))) ⟨oe,ae.extBut _ _ al Z,af⟩
 | false =>
   simp only[D5,G0];simp only[F0,Ei,<-K3];refine A6 (A6 (A6 (Bo ?_)));show wpAny _ _ (Builtin.SmallTypes.nextOf (.ref i1) >>= _) _ _ _;cases hx:xs[k1]? with
   | none =>
     exact A6 (Eb hh (h1.extBut G.extBut D.i1z) (Ŝ.extBut G.extBut D.l1z) hx λac e F he=>hE ac e (λc o c1 _ c3 _ x=>F _ _ c3 (G.extBut _ _ c1 x)) he)
   | some x =>
     have hy:ys[k2]?=none:=by rcases hend with h|h;rw[hx]at h;cases h;exact h
     refine A6 (Cu (h1.extBut G.extBut D.i1z) (Ŝ.extBut G.extBut D.l1z) hx λac am F=>Ab (Ab (A6 (A6 (Bo ?_)))));show wpAny _ _ (Builtin.SmallTypes.nextOf (.ref i2) >>= _) _ _ _;exact A6 (Eb hh ((h2.extBut G.extBut D.i2z).extBut F.extBut D.i12.symm) ((ŏ.extBut G.extBut D.l2z).extBut F.extBut D.l2i1) hy λaj e Y he=>hE aj e (λc o c1 _ c3 c4 x=>Y _ _ c4 (F.extBut _ _ c3 (G.extBut _ _ c1 x))) he)
end
section
variable {X:Cx}(K:Frag) (hK:X.K=K)
include hK
end
section
variable {prog:Program}{w:World}{A:Around}{E:Value->Shared->Prop}{s:Shared}
theorem YN(Z:t≠it):∀(n i:Nat) (s:Shared) (Q:List Value->Shared->Prop),s.heap.IsListIter it t i->s.heap.IsList t items->i+n<=items.size ->
 (∀h',h'.IsListIter it t (i+n)->Heap.SameBut it s.heap h'->Q ((items.toList.drop i).take n) { s with heap:=h' })->wpAny (model prog w) A (draw (.ref it) n) Q E s
 | 0,i,s,Q,J,_,_,hQ=>by
   show wpAny _ _ (pure []) Q E s;exact Ab (by simpa using hQ s.heap J (Heap.SameBut.refl ..))
 | n+1,i,s,Q,J,ht,ad,hQ=>by
   have Y:i<items.size:=by lia
   show wpAny _ _ (pyNext (.ref it) >>= _) Q E s;refine A6 (wpAny_pyNext_list_item J ht (x:=items[i]) (by simp[Y]) λac G F=>?_);refine A6 (Bo (YN Z n (i+1) _ _ G (ht.extBut F.extBut Z) (by lia) λaa I W=>Ab ?_));have hd:items.toList.drop i=items[i]::items.toList.drop (i+1):=by simp[Ep,Y]
   have:=hQ aa (by rw[show i+(n+1)=i+1+n by lia];exact I) (F.trans W);rw[hd,List.take_succ_cons]at this
   exact this
def kQ(hh:A.handled=none)(ht:s.heap.IsList t items)(hQ:∀h',Heap.ExtBut s.heap.objs.size s.heap h'->Q items.toList { s with heap:=h' }):wpAny (model prog w) A (unpackItems (.ref t) items.size none) Q E s:=by
 have Y:t≠s.heap.objs.size:=by obtain⟨o,ho,_⟩:=ht;exact B8 (Am ho)
 unfold unpackItems;refine A6 ?_;unfold notIterableAtAll;refine A6 (G5 ht.typeIs slot_list_iter.lookup (Ab ?_));simp only[D5,G0];refine A6 (Bo (Ec ht (A6 (Bo (YN Y items.size 0 _ _ ⟨_,Ax _ rfl,rfl,rfl⟩ (ht.push _) (by lia) λaa G F=>?_)))));have W:List.take items.size (List.drop 0 items.toList)=items.toList:=by
  grind[List.drop_zero,List.take_of_length_le]
 rw[W,As (by simp)];have J:=(ht.push _).extBut F.extBut Y;refine A6 (Bo (wpAny_pyNext_list_end hh G J (by simp) λZ I=>?_));simp only[Option.isSome_none,D5,G0];refine Ab (hQ Z λb o hb e=>I b o hb (F.extBut b o hb (A7 _ e)))
def kR{x1}(hh:A.handled=none)(ht:s.heap.IsList t items)(hn:(assignEach elts env).length=items.size)(hstar:(assignEach elts env).findIdx? (·.1)=none)(h:∀h',Heap.ExtBut s.heap.objs.size s.heap h'->wpAny (model prog w) A (assignInOrder ((assignEach elts env).map (·.2)) items.toList) Q E { s with heap:=h' }) :
 wpAny (model prog w) A (assign (.Tuple elts x1 pos) env (.ref t)) Q E s:=by
 rw[assign_Tuple];refine A6 (Cm ?_);unfold unpack;rw[hn,hstar];exact A6 (Bo (kQ hh ht h))
end
section
variable {X:Cx}{pos:Pos}
def RH(K:Frag)(n:Nat)(t:Ov):TG:=λv σ H Q=>∃a xs,v=.ref a/\AH K H a xs/\xs.length=n/\t xs σ H Q
def kS(Z:X.calm=true)(h:Ow X es t)(hn:(assignEach es X.env).length=n:=by rfl)(F:(assignEach es X.env).findIdx? (·.1)=none:=by rfl):PG X (.Tuple es k pos) (RH X.K n t):=by
 rintro pins s σ H v u Q I r ⟨a,xs,rfl,hq,W,hw⟩;cases r;obtain⟨its,G,ht,hz⟩:=I.list hq;refine kR (I.ok.hd Z) ht.isList (by simp[hn,<-W,G.length]) F λh' Y=>?_;have J:AF X pins σ H { s with heap:=h' }:=I.kept (t':=s.toks) λb o e=>Y b o (B8 (Am e)) e
 exact h pins _ σ H xs _ Q J (by simpa using G) hw
def Vp(K:Frag)(hK:X.K=K)(G:X.calm=true)(h:Ow X es t)(hn:(assignEach es X.env).length=n:=by rfl)(F:(assignEach es X.env).findIdx? (·.1)=none:=by rfl) :
 PG X (.Tuple es k pos) (RH K n t):=by subst hK;exact kS G h hn F
end
structure FS(ns:List Str)(fs:List (Str×V))(vals:List (Option V)):Prop where
 lk:∀m,fs.lookup m=(ns.idxOf? m).bind λi=>(vals[i]?).join
 ln:vals.length=ns.length
 nd:(fs.map (·.1)).Nodup
 sb:∀x∈fs.map (·.1),x∈ns
 fw:ns.length<1000
theorem YO(f:Str)(v:V):∀fs:List (Str×V),(f∈fs.map (·.1)->(ED f v fs).map (·.1)=fs.map (·.1))/\(f∉fs.map (·.1)->(ED f v fs).map (·.1)=fs.map (·.1)++[f])
 | []=>⟨λh=>by simp at h,λ_=>rfl⟩
 | (k,x)::r=>by
   obtain⟨i1,i2⟩:=YO f v r;rw[show ED f v ((k,x)::r)=(if k=f then(k,v)::r else(k,x)::ED f v r)from rfl];by_cases F:k=f
   .rw[Au F];exact⟨λ_=>rfl,λh=>absurd (by rw[<-F];simp) h⟩
   .rw[As F];refine⟨λh=>?_,λh=>?_⟩
    .rw[Bl]at h
     rcases Aw.mp h with h|h
     .exact absurd h.symm F
     .rw[Bl,i1 h,Bl]
    .rw[Bl,i2 λz=>h (by rw[Bl];exact Ah _ z),Bl];rfl
def FS.nil(h:ns.length<1000):FS ns [] (List.replicate ns.length none):=by
 refine⟨λm=>?_,Ck,Fh,(λx F=>nomatch F),h⟩;cases e:ns.idxOf? m with
 | none=>rfl
 | some i =>
   grind
theorem FS.len{ns:List Str}{fs:List (Str×V)}{vals:List (Option V)}(h:FS ns fs vals):fs.length<1000:=by
 have h1:=Cs.YI h.nd h.sb;have h2:=h.fw;rw[A8]at h1
 lia
def FS.get{fs:List (Str×V)}{vals:List (Option V)}(h:FS ns fs vals)(hi:ns.idxOf? m=some i)(hv:vals[i]?=some (some v)):fs.lookup m=some v:=by
 rw[h.lk m,hi];show(vals[i]?).join=_;rw[hv];rfl
def FS.no{fs:List (Str×V)}{vals:List (Option V)}(h:FS ns fs vals)(hi:ns.idxOf? m=none):fs.lookup m=none:=by
 rw[h.lk m,hi];rfl
def YQ{ns:List Str}{f:Str}{i:Nat}(h:ns.idxOf? f=some i):ns[i]?=some f:=by
 unfold List.idxOf? at h;obtain⟨hi,e,_⟩:=C8.mp h;rw[A9 hi,Bp.mp e]
def FS.put{ns:List Str}{fs:List (Str×V)}{vals:List (Option V)}{f:Str}{i:Nat}(y:V)(h:FS ns fs vals)(hi:ns.idxOf? f=some i):FS ns (ED f y fs) (vals.set i (some y)):=by
 have F:=YQ hi;have J:i<vals.length:=by
  have:=(B9.mp F).1;rw[h.ln];exact this
 obtain⟨k1,k2⟩:=YO f y fs;refine⟨λm=>?_,by rw[E7];exact h.ln,?_,?_,h.fw⟩
 .rw[UG];by_cases e:m=f
  .rw[Au e,e,hi];show _=((vals.set i (some y))[i]?).join;rw[Fd,Au rfl,Au J];rfl
  .rw[As e,h.lk m];cases W:ns.idxOf? m with
   | none=>rfl
   | some j =>
     have Y:=YQ W;have I:i≠j:=λz=>by
      rw[z,Y]at F
      exact e (Av F)
     show(vals[j]?).join=((vals.set i (some y))[j]?).join;rw[Fd,As I]
 .by_cases e:f∈fs.map (·.1)
  .rw[k1 e];exact h.nd
  .rw[k2 e,Ig];refine⟨h.nd,by simp,λa Z b hb=>?_⟩;rw[Az.mp hb];exact λz=>e (z ▸ Z)
 .intro x G;by_cases e:f∈fs.map (·.1)
  .rw[k1 e]at G
   exact h.sb x G
  .rw[k2 e]at G
   rcases Cn.mp G with G|G
   .exact h.sb x G
   .rw[Az.mp G];exact Af F
def IJ(C:Addr)(ns:List Str)(H:Hp)(a:Addr)(vals:List (Option V)):Prop:=∃dx fs,H a=some (.ins C dx fs)/\FS ns fs vals
def IJ.same{vals:List (Option V)}(h:IJ C ns H a vals)(s:AD H H'):IJ C ns H' a vals:=let ⟨dx,fs,e,f⟩:=h;⟨dx,fs,s _ _ e,f⟩
def kU(C:Addr)(ns:List Str)(ta:TE)(i:Nat):TE:=λσ H Q=>ta σ H λx H1=>∃a vals v,x=.ref a/\IJ C ns H1 a vals/\vals[i]?=some (some v)/\Q v H1
def kW(C:Addr)(ns:List Str)(ta tv:TE)(i:Nat):TS:=λD σ H=>tv σ H λy H1=>ta σ H1 λx H2=>∃a vals,x=.ref a/\IJ C ns H2 a vals /\
 ∀F,IJ C ns F a (vals.set i (some y))->(∀b,b≠a->F b=H2 b)->D.nx σ F
def YR(C:Addr)(ns:List Str)(sp:Sp)(E:XK)(ta:TE)(t:TA):TE:=λσ H Q=>ta σ H λx H1=>∃a vals,x=.ref a/\IJ C ns H1 a vals/\t σ H1 λvs H2=>sp (x::vs) H2 Q E
structure DM(K:Frag)(x qual:Str)(st:Stmt)(ps:List Str)(C f:Addr)(fd:FuncData):Prop where
 fn:O0 K x qual st f fd
 ba:∀us:List Value,us.length=ps.length->bindArgs fd ⟨us,[]⟩=pure (ps.zip us)
 me:R7 K C x f
section
variable {X:Cx}{K:Frag}(hK:X.K=K) {ns:List Str}{C:Addr}{o e value:Expr}{es:List Expr}{f:Str}{i:Nat}{pos pos' apos:Pos}{ta tv:TE}{t:TA}{k j:Nat}{g:Addr}{fd:FuncData}{ps:List Str}{sp:Sp}{m qual:Str}{st:Stmt}
include hK
theorem BB(c:LJ K C)(n:MV K C f)(hi:ns.idxOf? f=some i)(he:PE X o ta)(hb:attributeBase o f X.env (eval o X.env)=eval o X.env:=by rfl):PE X (.Attribute o f pos) (kU C ns ta i):=by
 subst hK;intro pins s σ H Q I h;refine X8 hb (AV (he pins s σ H _ I h) λu s1 G=>?_);obtain⟨x,H1,J,Y,a,vals,v,ex,⟨dx,fs,ea,F⟩,Z,q⟩:=G;subst ex;obtain rfl:u=Value.ref a:=Y;exact fM J ea c n (F.get hi Z) λu' s2 W ru=>⟨v,H1,W,ru,q⟩
theorem GX(c:LJ K C)(n:MV K C f)(hi:ns.idxOf? f=some i)(ha:PE X o ta)(hv:PE X value tv)(hs:swapsWith value (some (.Attribute o f pos')) pos.line X.env=pure false:=by rfl):PS X (.Assign [.Attribute o f pos'] value pos) (kW C ns ta tv i):=by
 subst hK;intro pins s σ H D I h;refine Fn (AV (hv pins s σ H _ I h) λu Z ⟨y,H1,J,ry,q⟩=>AV (ha pins Z σ H1 _ J q) λov s2 G=>?_) hs;obtain⟨x,H2,Y,rx,a,vals,ex,⟨dx,fs,ea,F⟩,q2⟩:=G;subst ex;obtain rfl:ov=Value.ref a:=rx;exact fN Y ea c n F.len ry λs3 W=>⟨σ,_,W,q2 _ ⟨dx,_,AA,F.put y hi⟩ λb hb=>BE hb⟩
theorem JH (c:LJ K C) (d:DM K m qual st ps C g fd) (F:AG X.prog X.w X.K X.mg X.base BL j g fd ps sp) (hr:BO k X.A) (hi:ns.idxOf? m=none) (he:PE X o ta) (ha:PA X (e::es) t) (hjk:j<=k:=by decide) (J:starEach (e::es) X.env=(false,eval e X.env)::starEach es X.env:=by rfl) (hpl:(backTo pos (starEach es X.env)).any (·.1)=false:=by rfl) (ht:eval (.Call (.Attribute o m apos) (e::es) [] pos) X.env=(do
 let ov <- eval o X.env
 standAt apos.atName
 let (f,first) <- holding [ov] (getMethod ov m pl)
 callWith pos f first (backTo pos (starEach (e::es) X.env)) (backToKw pos (keywordEach [] X.env))):=by rfl) :
 PE X (.Call (.Attribute o m apos) (e::es) [] pos) (YR C ns sp E0 ta t):=by
 subst hK;intro pins s σ H Q I h;refine Ea (pl:=pl) (AV (he pins s σ H _ I h) λu s1 G=>?_) ht;obtain⟨x,H1,Y,rx,a,vals,ex,⟨dx,fs,ea,FF⟩,q⟩:=G;subst ex;obtain rfl:u=Value.ref a:=rx;exact UJ Y ea c d.me (FF.no hi) (Cr (first:=[.ref a]) (h₀:=X.base) I.ok.mod.wQ d.me.kp (AV (ha pos pins s1 σ H1 _ Y q) λus s2 G=>by obtain⟨vs,H2,Z,r,q2⟩:=G;exact⟨Z.Ĝ,Sy (us:=.ref a::us) (vs:=.ref a::vs) (F.mono hjk) hr (.all d.ba) .nil Q1 Z (.cons rfl r) (by rw[Be];exact q2)⟩) J hpl)
theorem IC (c:LJ K C) (d:DM K m qual st ps C g fd) (F:AG X.prog X.w X.K X.mg X.base BL j g fd ps sp) (Y:BO k X.A) (hi:ns.idxOf? m=none) (he:PE X o ta) (hjk:j<=k:=by decide) (ht:eval (.Call (.Attribute o m apos) [] [] pos) X.env=(do
 let ov <- eval o X.env
 standAt apos.atName
 let (f,first) <- holding [ov] (getMethod ov m pl)
 callWith pos f first (backTo pos (starEach [] X.env)) (backToKw pos (keywordEach [] X.env))):=by rfl) :
 PE X (.Call (.Attribute o m apos) [] [] pos) (YR C ns sp E0 ta LW):=by
 subst hK;intro pins s σ H Q I h;refine Ea (pl:=pl) (AV (he pins s σ H _ I h) λu s1 J=>?_) ht;obtain⟨x,H1,G,Z,a,vals,ex,⟨dx,fs,ea,FF⟩,q⟩:=J;subst ex;obtain rfl:u=Value.ref a:=Z;exact UJ G ea c d.me (FF.no hi) (Jx (first:=[.ref a]) G.Ĝ d.me.kp (Sy (us:=[.ref a]) (vs:=[.ref a]) (F.mono hjk) Y (.all d.ba) .nil Q1 G (.cons rfl .nil) q))
end
structure Lu(K:Frag)(x qual:Str)(st:Stmt)(f:Addr)(fd:FuncData):Prop where
 ex:∃(oc:Value) (od:Option Addr) (dV kV doc pm:Value) (an:Option Addr) (cdv ct:Value) (osl:Array (Option Value)),
  fd=PySem.W.fnOf x qual (JD st) (IS st) (FV st) dV kV doc pm an cdv ct/\K.lookup f=some ⟨oc,od,.func fd,osl⟩/\PySem.W.codeIn K cdv qual=true
 kp:PySem.W.keepIn K (.ref f)=true
section
variable {P:Program}{w:World}{K:Frag}{mg:Str->Option Value}{base:Heap}
def Lu.ok{x qual:Str}{st:Stmt}{f:Addr}{fd:FuncData}{N ps:List Str}{k:Nat}{sp:Sp}(F:Lu K x qual st f fd)(S:DV N ps (FV st))(len:∀vs H Q E,sp vs H Q E->vs.length=ps.length)
 (hbody:∀(G:Value) (A:Around) (outer:List Env) (s:Shared) (H:Hp) (vs:List V) (Q:VK) (E:XK),BO k (A.deeper (envOfC qual (FV st) s.heap.objs.size f G))->sp vs H Q E ->
   ∃t,IP (HM BL P w K mg base N qual (FV st) f G A outer s H E).xw (IS st) t/\t { nx:=λ_ H'=>Q .non H',rt:=Q } (start N vs) H):AG P w K mg base BL (k+1) f fd ps sp:=by
 refine Sm F.ex λoc od dV kV doc=>EM λpm an G ct Z=>FN λI lk W=>?_;subst I;refine SD lk W S len λA outer s H vs Q E Y J=>?_;refine DQ (hbody G A outer s H vs Q E Y J) λt=>BW λh q=>?_;exact AX t (CC h.xw q)
def Lu.Ő{x qual:Str}{st:Stmt}{f:Addr}{fd:FuncData}{N ps:List Str}{k:Nat}{sp:Sp}(F:Lu K x qual st f fd)(S:DV N ps (FV st))(len:∀vs H Q E,sp vs H Q E->vs.length=ps.length)
 (hbody:∀(G:Value) (A:Around) (outer:List Env) (s:Shared) (H:Hp) (vs:List V) (Q:VK) (E:XK),BO k (A.deeper (envOfC qual (FV st) s.heap.objs.size f G))->sp vs H Q E ->
   ∃t,IP (Yw P w K mg base N qual (FV st) f G A outer s H E) (IS st) t/\t { nx:=λ_ H'=>Q .non H',rt:=Q } (start N vs) H):AG P w K mg base (DG P w) (k+1) f fd ps sp:=by
 obtain⟨Z,od,dV,kV,doc,pm,an,G,ct,Y,rfl,lk,J⟩:=F.ex;refine SD lk J S len λA outer s H vs Q E W I=>?_;obtain⟨t,h,q⟩:=hbody G A outer s H vs Q E W I;exact⟨t,h.wG Yx,q⟩
def RI{P:List Value->Prop}(h:∀a (t:List Value),t.length=n->P (a::t))(us:List Value)(e:us.length=n+1):P us:=by
 cases us with
 | nil=>cases e
 | cons a t=>exact h a t (Nat.succ.inj e)
def kX{P:List Value->Prop}(h:P [])(us:List Value)(e:us.length=0):P us:=by
 cases us with
 | nil=>exact h
 | cons a t=>cases e
def YS{P:List Value->Prop}(h:∀a,P [a])(us:List Value)(e:us.length=1):P us:=RI (n:=0) (λa t F=>kX (P:=λt=>P (a::t)) (h a) t F) us e
def YT{P:List Value->Prop}(h:∀a b,P [a,b])(us:List Value)(e:us.length=2):P us:=RI (n:=1) (λa t F=>YS (P:=λt=>P (a::t)) (h a) t F) us e
def YU{P:List Value->Prop}(h:∀a b c,P [a,b,c])(us:List Value)(e:us.length=3):P us:=RI (n:=2) (λa t F=>YT (P:=λt=>P (a::t)) (h a) t F) us e
def Vq{P:List Value->Prop}(h:∀a b c d,P [a,b,c,d])(us:List Value)(e:us.length=4):P us:=RI (n:=3) (λa t F=>YU (P:=λt=>P (a::t)) (h a) t F) us e
def YV{P:List Value->Prop}(h:∀a b c d e,P [a,b,c,d,e])(us:List Value)(e:us.length=5):P us:=RI (n:=4) (λa t F=>Vq (P:=λt=>P (a::t)) (h a) t F) us e
def YW{us ds:List Value}{n:Nat}(h:(us++ds).length=n):us.length=n-ds.length:=by
 rw[B5]at h
 lia
structure DI(K:Frag)(mg:Str->Option Value)(x qual:Str)(st:Stmt)(ps:List Str)(C f:Addr)(fd:FuncData):Prop where
 mg:mg x=some (.ref C)
 cl:LJ K C
 xI:Mk K C f
 fn:Lu K "__init__" qual st f fd
 b0:Kl K fd ps []
 b1:Kl K fd ps [.none]
end
section
variable {X:Cx}{k j:Nat}{C f:Addr}{fd:FuncData}{ps:List Str}{sp:Sp}{x qual:Str}{st:Stmt}{p pos:Pos}{e:Expr}{es:List Expr}{t:TA}
def Vr(d:DI X.K X.mg x qual st ps C f fd)(F:AG X.prog X.w X.K X.mg X.base BL j f fd ps sp)(I:BO k X.A)(J:Gl X x)(G:PA X (e::es) t)(hjk:j+1<=k:=by decide)(hdb:(x==("__debug__":Str))=false:=by decide)
 (he:starEach (e::es) X.env=(false,eval e X.env)::starEach es X.env:=by rfl) (hpl:(backTo pos (starEach es X.env)).any (·.1)=false:=by rfl) :
 PE X (.Call (.Name x p) (e::es) [] pos) (UM C sp [.non] E0 t) :=
 Xa d.xI (F.mono (Aa j)) (I.mono hjk) J d.mg d.b1 (.cons rfl .nil) Q1 G hdb he hpl
end
def Vs(K:Frag):R2:=λx y H Q=>OG K x y H Q\/Ra x y H Q
def kY(K:Frag)(hK:X.K=K):OE X (Vs K):=by
 subst hK;intro value slice pins s σ H x y v u Q I F J h G;rcases h with h|h
 .exact Xk value slice pins s σ H x y v u Q I F J h G
 .exact OH value slice pins s σ H x y v u Q I F J h G
end L2
namespace Mc
open PySem L2
abbrev Mx:=Lan.Mx
abbrev EY:=Option Mx
structure Cf where
 rs:List Cs.BN
 keys:Str
 cast:Int
structure Ms where
 lanes:List (List Mx)
 line:List EY
 Å:List EY
 Ă:Int
 bar:List Mx
 texts:List Str
 at_:Nat
 done:Int
 Á:Int
def key(c:Cf)(m:Ms):Option Nat:=c.keys.cps.toList[m.at_]?
noncomputable def GY (c:Cf) (m:Ms):Str:=match key c m with
 | some k=>sg k
 | none=>""
def Ql(ls:List (List Mx))(k:Nat):Bool:=match ls[k]? with
 | some l=>l.isEmpty
 | none=>true
def JP(c:Cf)(m:Ms):Bool:=match Cs.DW c.rs (GY c m)with
 | some k=>Ql m.lanes k
 | none=>false
def Qm(c:Cf)(m:Ms):Bool:=JP c m&&m.Å.isEmpty&&m.bar.isEmpty
def P3(c:Cf)(m:Ms):Bool:=(key c m).isNone&&m.line.isEmpty&&m.Å.isEmpty&&m.bar.isEmpty
def LM(ls:List (List Mx))(k:Nat)(x:Mx):List (List Mx):=match ls[k]? with
 | some l=>ls.set k (l++[x])
 | none=>ls
def õ(c:Cf)(m:Ms):Ms:=match m.bar with
 | []=>m
 | x::r=>match Mt.LL (c.rs.map λr=>r.t) x.2 with
   | some k=>{ m with bar:=r,lanes:=LM m.lanes k x }
   | none=>m
def Kr:EY->Str
 | none=>" "
 | some x=>x.1
def O9(l:List EY):Str:=Txt.join "" (l.map Kr)
def CZ(l:List EY):List Mx:=l.filterMap id
def Ą(m:Ms):Ms:=if m.Å.isEmpty=true then m else
 if m.Ă-1<=0 then { m with Ă:=m.Ă-1,texts:=m.texts++[O9 m.Å],bar:=m.bar++CZ m.Å,Å:=[] }else { m with Ă:=m.Ă-1 }
def send(c:Cf)(m:Ms):Ms:=if m.Å.isEmpty=true then { m with Å:=m.line,Ă:=c.cast,line:=[],at_:=m.at_+1 }else m
def take(m:Ms)(p:EY):Ms:={ m with line:=m.line++[p],at_:=m.at_+1 }
noncomputable def pick (m:Ms) (k:Nat):Ms:=match m.lanes[k]? with
 | some (x::r)=>take { m with lanes:=m.lanes.set k r } (some x)
 | _=>m
noncomputable def î (c:Cf) (m:Ms):Ms:=match key c m with
 | none=>m
 | some k=>if k=47 then send c m else if k=32 then take m none else if JP c m=true then { m with Á:=m.Á+1 }else match Cs.DW c.rs (sg k)with
   | some j=>pick m j
   | none=>m
def tick(c:Cf)(m:Ms):Ms:=let m1:=î c (Ą (õ c m));{ m1 with done:=m1.done+1 }
def HV(c:Cf)(m:Ms):Bool:=P3 c m||Qm c m
def MZ(c:Cf)(x:Mx):Prop:=PyData.canLay0 (.str x.1)=true/\x.1.length<=1/\0<=x.2/\x.2<128/\∃k,Mt.LL (c.rs.map λr=>r.t) x.2=some k/\k<c.rs.length
def Mv(m:Ms):Nat:=(m.lanes.map List.length).sum+m.line.length+m.Å.length+m.bar.length
structure Tf(c:Cf):Prop where
 ő:c.rs.length<=30
 short:c.keys.length<=90000
 known:∀k∈c.keys.cps.toList,k=47\/k=32\/((Cs.DW c.rs (sg k)).isSome=true/\k≠47/\k≠32)
 ends:c.keys.cps.toList=[]\/∃a,c.keys.cps.toList=a++[47]
 wX:Cs.DW c.rs (sg 47)=none/\Cs.DW c.rs (sg 32)=none/\Cs.DW c.rs ""=none
 xb:1<=c.cast
 th:∀r∈c.rs,0<=r.t/\r.t<128
 lay:PyData.canLay0 (.str c.keys)=true
structure Ok(c:Cf)(m:Ms):Prop where
 cf:Tf c
 ln:m.lanes.length=c.rs.length
 lm:∀l∈m.lanes,∀x∈l,MZ c x
 im:∀x,some x∈m.line->MZ c x
 hm:∀x,some x∈m.Å->MZ c x
 bm:∀x∈m.bar,MZ c x
 le:m.at_<=c.keys.cps.toList.length
 en:m.at_=c.keys.cps.toList.length->m.line=[]
 sz:Mv m<=2000+m.at_
 tx:m.texts.length+(if m.Å.isEmpty=true then 0 else 1)<=m.at_
 tl:∀t∈m.texts,PyData.canLay0 (.str t)=true
 tg:m.Å≠[]->1<=m.Ă
def Vt(h:Ok c m):m.at_<=90000:=by
 have h1:=h.le;have h2:=h.cf.short;have F:c.keys.cps.toList.length=c.keys.length:=B0
 lia
def Vu(ls:List (List Mx))(k:Nat)(l F:List Mx)(h:ls[k]?=some l):((ls.set k F).map List.length).sum+l.length=(ls.map List.length).sum+F.length:=by
 induction ls generalizing k with
 | nil=>simp at h
 | cons a r ih =>
   cases k with
   | zero =>
     grind
   | succ j =>
     grind
def kZ{ls:List (List Mx)}{k:Nat}{l:List Mx}(h:ls[k]?=some l):l.length<=(ls.map List.length).sum:=by
 have:=Vu ls k l [] h
 grind
def Vv(l:List EY):(CZ l).length<=l.length:=Ik _ _
def l7(h:x∈CZ l):some x∈l:=by
 obtain⟨y,F,e⟩:=Di.mp h;have e:=e;rw[<-e];exact F
def Ok.õ(h:Ok c m):Ok c (õ c m):=by
 unfold Mc.õ;cases hb:m.bar with
 | nil=>exact h
 | cons x r =>
   have hx:=h.bm x (by rw[hb];exact Al);obtain⟨_,_,_,_,k,hk,J⟩:=hx;show Ok c (match Mt.LL (c.rs.map λr=>r.t) x.2 with
    | some k=>{ m with bar:=r,lanes:=LM m.lanes k x }
    | none=>m)
   rw[hk];have G:k<m.lanes.length:=by rw[h.ln];exact J
   have Y:m.lanes[k]?=some m.lanes[k]:=A9 G;have W:LM m.lanes k x=m.lanes.set k (m.lanes[k]++[x]):=by unfold LM;rw[Y]
   refine⟨h.cf,?_,?_,h.im,h.hm,?_,h.le,h.en,?_,h.tx,h.tl,h.tg⟩
   .show(LM m.lanes k x).length=_;rw[W,E7];exact h.ln
   .intro l I y F;have I:l∈LM m.lanes k x:=I;rw[W]at I
    rcases Er I with I|I
    .exact h.lm l I y F
    .rw[I]at F
     rcases Cn.mp F with F|F
     .exact h.lm _ (Fv G) y F
     .rw[Az.mp F];exact h.bm x (by rw[hb];exact Al)
   .intro y F;exact h.bm y (by rw[hb];exact Ah _ F)
   .have Z:=h.sz;have h1:=Vu m.lanes k _ (m.lanes[k]++[x]) Y;rw[B5]at h1
    unfold Mv at Z⊢;rw[hb]at Z
    show((LM m.lanes k x).map List.length).sum+m.line.length+m.Å.length+r.length<=2000+m.at_;rw[W];have e1:[x].length=1:=rfl;have e2:(x::r).length=r.length+1:=rfl
    lia
def l8(x:Str)(xs:List Str):Txt.join "" (x::xs)=x++Txt.join "" xs:=by
 unfold Txt.join;rw[Cb,Cb];cases xs with
 | nil=>exact(Lns.T3 x).symm
 | cons y r =>
   grind[Str.join,Lns.T3]
def Vw(G:PyData.canLay0 (.str x)=true)(F:PyData.canLay0 (.str y)=true):PyData.canLay0 (.str (x++y))=true:=by
 have G:(x.cps.all λc=>decide (c<0x110000))=true:=G;have F:(y.cps.all λc=>decide (c<0x110000))=true:=F;show((x++y).cps.all λc=>decide (c<0x110000))=true;have e:(x++y).cps.toList=x.cps.toList++y.cps.toList:=Jy;rw[<-Array.all_toList]at G F⊢
 rw[e,List.all_append,G,F];rfl
def l9(h:∀x,some x∈l->MZ c x):PyData.canLay0 (.str (O9 l))=true:=by
 unfold O9;induction l with
 | nil=>decide +kernel
 | cons p r ih =>
   have e:Txt.join "" ((p::r).map Kr)=Kr p++Txt.join "" (r.map Kr):=l8 _ _;rw[e];have F:PyData.canLay0 (.str (Kr p))=true:=by
    cases p with
    | none=>decide +kernel
    | some x=>exact(h x Al).1
   exact Vw F (ih λx G=>h x (Ah _ G))
def Ok.Ą(h:Ok c m):Ok c (Ą m):=by
 unfold Mc.Ą;split
 .exact h
 .rename_i I;have G:m.Å≠[]:=λz=>I (by rw[z];rfl)
  have ht:=h.tg G;split
  .refine⟨h.cf,h.ln,h.lm,h.im,(λx F=>by cases F),?_,h.le,h.en,?_,?_,?_,λz=>absurd rfl z⟩
   .intro x F;rcases Cn.mp F with F|F
    .exact h.bm x F
    .exact h.hm x (l7 F)
   .have J:=h.sz;have W:=Vv m.Å;unfold Mv at J⊢;show(m.lanes.map List.length).sum+m.line.length+0+(m.bar++CZ m.Å).length<=2000+m.at_;rw[B5]
    lia
   .have h1:=h.tx;rw[As I]at h1
    show(m.texts++[O9 m.Å]).length+0<=m.at_;rw[B5];show m.texts.length+1+0<=_
    lia
   .intro t ht;rcases Cn.mp ht with ht|ht
    .exact h.tl t ht
    .rw[Az.mp ht];exact l9 h.hm
  .rename_i Y;exact⟨h.cf,h.ln,h.lm,h.im,h.hm,h.bm,h.le,h.en,h.sz,h.tx,h.tl,λ_=>by show 1<=m.Ă-1;lia⟩
def Vx(h:key c m=some k):m.at_<c.keys.cps.toList.length:=(B9.mp h).1
def la(h:Tf c)(F:key c m=some k)(e:m.at_+1=c.keys.cps.toList.length):k=47:=by
 unfold key at F;rcases h.ends with z|⟨a,z⟩
 .rw[z]at e
  cases e
 .rw[z]at e F
  rw[B5]at e
  have e:m.at_+1=a.length+1:=e;rw[Ej (by lia),show m.at_-a.length=0 by lia]at F
  exact(Av F).symm
def Ok.send(h:Ok c m)(I:m.at_<c.keys.cps.toList.length):Ok c (send c m):=by
 unfold Mc.send;split
 .rename_i F;have hn:m.Å=[]:=E3.mp F;refine⟨h.cf,h.ln,h.lm,(λx J=>by cases J),h.im,h.bm,I,λ_=>rfl,?_,?_,h.tl,λ_=>h.cf.xb⟩
  .have G:=h.sz;unfold Mv at G⊢;rw[hn]at G
   have e:([]:List EY).length=0:=rfl;show(m.lanes.map List.length).sum+0+m.line.length+m.bar.length<=2000+(m.at_+1)
   lia
  .have h1:=h.tx;rw[Au F]at h1
   show m.texts.length+(if m.line.isEmpty=true then 0 else 1)<=m.at_+1;split<;>lia
 .exact h
def Ok.take(h:Ok c m)(I:key c m=some k)(G:k≠47)(J:∀x,p=some x->MZ c x)(Y:Mv m+1<=2000+(m.at_+1)):Ok c (take m p):=by
 have W:=Vx I;refine⟨h.cf,h.ln,h.lm,?_,h.hm,h.bm,W,?_,?_,?_,h.tl,h.tg⟩
 .intro x F;rcases Cn.mp F with F|F
  .exact h.im x F
  .exact J x (Az.mp F).symm
 .intro e;exact absurd (la h.cf I e) G
 .unfold Mv at Y⊢;show(m.lanes.map List.length).sum+(m.line++[p]).length+m.Å.length+m.bar.length<=2000+(m.at_+1)
  rw[B5];show(m.lanes.map List.length).sum+(m.line.length+1)+m.Å.length+m.bar.length<=2000+(m.at_+1)
  lia
 .have:=h.tx;show m.texts.length+(if m.Å.isEmpty=true then 0 else 1)<=m.at_+1
  lia
def Ok.pick(h:Ok c m)(Y:key c m=some k)(I:k≠47):Ok c (pick m j):=by
 unfold Mc.pick;split
 .rename_i x r W;have h1:=Vu m.lanes j _ r W;have Z:(x::r).length=r.length+1:=rfl;have hb:Ok c { m with lanes:=m.lanes.set j r }:=by
   refine⟨h.cf,by show(m.lanes.set j r).length=_;rw[E7];exact h.ln,?_,h.im,h.hm,h.bm,h.le,h.en,?_,h.tx,h.tl,h.tg⟩
   .intro l F y G;rcases Er F with F|F
    .exact h.lm l F y G
    .rw[F]at G
     exact h.lm _ (Af W) y (Ah _ G)
   .have J:=h.sz;unfold Mv at J⊢;show((m.lanes.set j r).map List.length).sum+m.line.length+m.Å.length+m.bar.length<=2000+m.at_
    lia
  refine hb.take Y I (λy e=>?_) ?_
  .cases e;exact h.lm _ (Af W) x Al
  .have J:=h.sz;unfold Mv at J⊢;show((m.lanes.set j r).map List.length).sum+m.line.length+m.Å.length+m.bar.length+1<=2000+(m.at_+1)
   lia
 .exact h
def Ok.î(h:Ok c m):Ok c (î c m):=by
 unfold Mc.î;split
 .exact h
 .rename_i k G;split
  .exact h.send (Vx G)
  .rename_i F;split
   .exact h.take G F (λx e=>by cases e) (by have:=h.sz;lia)
   .split
    .exact⟨h.cf,h.ln,h.lm,h.im,h.hm,h.bm,h.le,h.en,h.sz,h.tx,h.tl,h.tg⟩
    .split
     .exact h.pick G F
     .exact h
theorem Ok.tick(h:Ok c m):Ok c (tick c m):=by
 have g:=h.õ.Ą.î;exact⟨g.cf,g.ln,g.lm,g.im,g.hm,g.bm,g.le,g.en,g.sz,g.tx,g.tl,g.tg⟩
def wt(c:Cf)(k:Nat):Nat:=if k=47 then 1+c.cast.toNat else if k=32 then 1 else 2
def left(c:Cf)(m:Ms):Nat:=((c.keys.cps.toList.drop m.at_).map (wt c)).sum
def CM(c:Cf)(m:Ms):Nat:=left c m+(CZ m.line).length+(CZ m.Å).length+(if m.Å.isEmpty=true then 0 else m.Ă.toNat)+m.bar.length
def lg(h:key c m=some k):left c m=wt c k+((c.keys.cps.toList.drop (m.at_+1)).map (wt c)).sum:=by
 unfold left;have F:=Vx h;rw[Ep F];have e:c.keys.cps.toList[m.at_]=k:=by
  unfold key at h;rw[A9 F]at h
  exact Av h
 rw[e];rfl
def lj(h:Ok c m):CM c (õ c m)+(if m.bar.isEmpty=true then 0 else 1)=CM c m:=by
 unfold Mc.õ;cases hb:m.bar with
 | nil=>rfl
 | cons x r =>
   obtain⟨_,_,_,_,k,F,_⟩:=h.bm x (by rw[hb];exact Al);show CM c (match Mt.LL (c.rs.map λr=>r.t) x.2 with
    | some k=>{ m with bar:=r,lanes:=LM m.lanes k x }
    | none=>m)+1=CM c m
   grind[CM,left,CZ]
def ll(h:Ok c m):CM c (Ą m)+(if m.Å.isEmpty=true then 0 else 1)=CM c m:=by
 unfold Mc.Ą;split
 .rfl
 .rename_i G;have F:m.Å≠[]:=λz=>G (by rw[z];rfl)
  have ht:=h.tg F
  grind[CM,left,CZ,List.length_append]
def YX(h:Ok c m)(Y:key c m=some k)(W:k≠47)(J:k≠32)(F:JP c m=false):∃j,Cs.DW c.rs (sg k)=some j/\∃x r,m.lanes[j]?=some (x::r):=by
 have hm:=Af Y;rcases h.cf.known k hm with z|z|⟨z,_,_⟩
 .exact absurd z W
 .exact absurd z J
 obtain⟨j,G⟩:=Dw.mp z;refine⟨j,G,?_⟩;have I:j<m.lanes.length:=by rw[h.ln];exact Cs.SW G
 have Z:=A9 I;unfold JP GY at F;rw[Y]at F
 have F:=F;rw[G]at F
 have F:Ql m.lanes j=false:=F;unfold Ql at F;rw[Z]at F
 have F:=F;rw[Z];cases he:m.lanes[j]with
 | nil=>rw[he]at F;cases F
 | cons x r=>exact⟨x,r,rfl⟩
def Tg(c:Cf)(m:Ms):Bool:=match key c m with
 | none=>false
 | some k=>if k=47 then m.Å.isEmpty else if k=32 then true else !JP c m
def YY(l:List EY)(p:EY):(CZ (l++[p])).length=(CZ l).length+(match p with|none=>0|some _=>1):=by
 unfold CZ;rw[Fp,B5];cases p<;>rfl
def lp(h:Ok c m):CM c (î c m)+(if Tg c m=true then 1 else 0)<=CM c m:=by
 unfold Mc.î Tg;cases J:key c m with
 | none=>exact Aa _
 | some k =>
   have I:=lg J;have hc:=h.cf.xb;show CM c (if k=47 then Mc.send c m else if k=32 then Mc.take m none else if JP c m=true then { m with Á:=m.Á+1 }else match Cs.DW c.rs (sg k)with
    | some j=>Mc.pick m j
    | none=>m)+(if (if k=47 then m.Å.isEmpty else if k=32 then true else !JP c m)=true then 1 else 0)<=CM c m
   by_cases F:k=47
   .rw[Au F,Au F];unfold Mc.send;cases W:m.Å.isEmpty with
    | false=>exact Aa _
    | true =>
      have hn:=E3.mp W;rw[Au rfl,Au rfl];have e:wt c k=1+c.cast.toNat:=by unfold wt;rw[Au F]
      have e3:(if m.line.isEmpty=true then 0 else c.cast.toNat)<=c.cast.toNat:=by split<;>lia
      have e4:CM c m=wt c k+((c.keys.cps.toList.drop (m.at_+1)).map (wt c)).sum+(CZ m.line).length+0+0+m.bar.length:=by
       unfold CM;rw[I,Au W,hn];rfl
      rw[e4];show((c.keys.cps.toList.drop (m.at_+1)).map (wt c)).sum+0+(CZ m.line).length+(if m.line.isEmpty=true then 0 else c.cast.toNat)+m.bar.length+1<=_
      lia
   .rw[As F,As F];by_cases G:k=32
    .rw[Au G,Au G,Au rfl];unfold CM;rw[I];have e:wt c k=1:=by unfold wt;rw[As F,Au G]
     have Y:(CZ (m.line++[none])).length=(CZ m.line).length+0:=YY m.line none;show((c.keys.cps.toList.drop (m.at_+1)).map (wt c)).sum+(CZ (m.line++[none])).length+(CZ m.Å).length+(if m.Å.isEmpty=true then 0 else m.Ă.toNat)+m.bar.length+1<=_
     lia
    .rw[As G,As G];have e:wt c k=2:=by unfold wt;rw[As F,As G]
     cases wW:JP c m with
     | true=>exact Aa _
     | false =>
       rw[As (by decide),Au (by decide)];obtain⟨j,hj,x,r,Z⟩:=YX h J F G wW;rw[hj];show CM c (Mc.pick m j)+1<=_;have ep:Mc.pick m j=Mc.take { m with lanes:=m.lanes.set j r } (some x):=by unfold Mc.pick;rw[Z]
       rw[ep];unfold CM;rw[I];have Y:(CZ (m.line++[some x])).length=(CZ m.line).length+1:=YY m.line (some x);show((c.keys.cps.toList.drop (m.at_+1)).map (wt c)).sum+(CZ (m.line++[some x])).length+(CZ m.Å).length+(if m.Å.isEmpty=true then 0 else m.Ă.toNat)+m.bar.length+1<=_
       lia
def Vy(c:Cf)(m:Ms):(Mc.õ c m).at_=m.at_/\(Mc.õ c m).line=m.line/\(Mc.õ c m).Å=m.Å/\(Mc.õ c m).Ă=m.Ă/\(Mc.õ c m).texts=m.texts/\(Mc.õ c m).done=m.done/\(Mc.õ c m).Á=m.Á:=by
 unfold Mc.õ;split
 .exact DT rfl rfl rfl rfl rfl rfl rfl
 .split<;>exact⟨rfl,rfl,rfl,rfl,rfl,rfl,rfl⟩
def Vz(m:Ms):(Mc.Ą m).at_=m.at_/\(Mc.Ą m).line=m.line/\(Mc.Ą m).lanes=m.lanes/\(Mc.Ą m).done=m.done/\(Mc.Ą m).Á=m.Á:=by
 unfold Mc.Ą;split
 .exact⟨rfl,rfl,rfl,rfl,rfl⟩
 .split<;>exact⟨rfl,rfl,rfl,rfl,rfl⟩
theorem Qn(h:Ok c m)(F:HV c m=false):CM c (tick c m)<CM c m:=by
 have h1:=lj h;have h2:=ll h.õ;have J:=lp h.õ.Ą;have Z:CM c (tick c m)=CM c (Mc.î c (Mc.Ą (Mc.õ c m))):=rfl;rw[Z];refine LF (λf1 f2 f3 f4 f5 f6 f7=>?_) (Vy c m);refine FL (λc1 c2 c3 c4 c5=>?_) (Vz (Mc.õ c m));by_cases hb:m.bar.isEmpty=true
 .by_cases G:m.Å.isEmpty=true
  .have W:Mc.õ c m=m:=by
    unfold Mc.õ;rw[E3.mp hb]
   have Y:Mc.Ą m=m:=by
    unfold Mc.Ą;rw[Au G]
   rw[W,Y]at J⊢
   have ht:Tg c m=true:=by
    unfold HV P3 Qm at F;rw[hb,G,Im,Im,Im,Im,Jt]at F
    unfold Tg;cases I:key c m with
    | none =>
      have hl:m.at_=c.keys.cps.toList.length:=by
       have h1:=h.le;have h2:=List.getElem?_eq_none_iff.mp I
       lia
      rw[I,h.en hl]at F
      exact absurd F.1 (by decide)
    | some k =>
      lia
   rw[Au ht]at J
   lia
  .rw[f3,As G]at h2
   lia
 .rw[As hb]at h1
  lia
def BR(c:Cf):Nat->Ms->Ms
 | 0,m=>m
 | n+1,m=>if HV c m=true then m else BR c n (tick c m)
def fin(c:Cf)(m:Ms):Ms:=BR c (CM c m) m
theorem Mw(h:HV c m=true):∀n,BR c n m=m
 | 0=>rfl
 | n+1=>by
   show(if HV c m=true then m else BR c n (tick c m))=m;rw[Au h]
def Oa(h:HV c m=false)(n:Nat):BR c (n+1) m=BR c n (tick c m):=by
 grind[HV,BR,tick]
def VA(O:Ok c m)(h:CM c m=0):HV c m=true:=by
 grind[HV,Qn]
theorem VB:∀(n k:Nat) {m:Ms},Ok c m->CM c m<=n->CM c m<=k->BR c n m=BR c k m
 | 0,k,m,O,h,_=>by rw[Mw (VA O (by lia)),Mw (VA O (by lia))]
 | n+1,k,m,O,h1,h2=>by
   cases F:HV c m with
   | true=>rw[Mw F,Mw F]
   | false =>
     have hw:=Qn O F;obtain⟨j,rfl⟩:∃j,k=j+1:=⟨k-1,by lia⟩
     rw[Oa F,Oa F];exact VB n j O.tick (by lia) (by lia)
theorem YZ:∀(n:Nat) {m:Ms},Ok c m->CM c m<=n->HV c (BR c n m)=true/\Ok c (BR c n m)
 | 0,m,O,h=>show HV c m=true/\Ok c m from⟨VA O (by lia),O⟩
 | n+1,m,O,h=>by
   cases F:HV c m with
   | true =>
     rw[Mw F];exact⟨F,O⟩
   | false =>
     have hw:=Qn O F;rw[Oa F];exact YZ n O.tick (by lia)
def lr(h:HV c m=true):fin c m=m:=Mw h _
def Z0(O:Ok c m)(h:HV c m=false):fin c (tick c m)=fin c m:=by
 have hw:=Qn O h;unfold fin;obtain⟨j,F⟩:∃j,CM c m=j+1:=⟨CM c m-1,by lia⟩
 rw[F,Oa h];exact VB _ _ O.tick (Aa _) (by lia)
def Z1(O:Ok c m):HV c (fin c m)=true/\Ok c (fin c m):=YZ _ O (Aa _)
def Lv(H:Hp)(v:V):EY->Prop
 | none=>v=.str " "
 | some x=>Lan.IU H v x
def FQ(H:Hp)(a:Addr)(ms:List Mx):Prop:=∃xs,H a=some (.lst xs)/\Paired (Lan.IU H) xs ms
def P4(H:Hp)(a:Addr)(ps:List EY):Prop:=∃xs,H a=some (.lst xs)/\Paired (Lv H) xs ps
structure DS where
 L:Addr
 c:Addr
 l:Addr
 h:Addr
 b:Addr
 t:Addr
 ls:List Addr
def DS.all(A:DS):List Addr:=A.L::A.c::A.l::A.h::A.b::A.t::A.ls
def BU(S:Addr->Prop)(H H':Hp):Prop:=∀b o,H b=some o->(S b\/∃xs,o=.tup xs)->H' b=some o
def BU.of_same(s:AD H H'):BU S H H':=λb o h _=>s b o h
def BU.lst(h:H a=some (.lst ys)):BU (λb=>b≠a) H (upd H a o):=λb u hb F=>by
 rcases F with F|⟨xs,e⟩
 .rw[BE F];exact hb
 .subst e;rw[BE (Kh hb h λz=>by cases z)];exact hb
def BU.fld{fs:List (Str×V)}(h:H p=some (.ins C dx fs))(k:∀b,b≠p->H' b=H b):BU (λb=>b≠p) H H':=λb u hb F=>by
 rcases F with F|⟨xs,e⟩
 .rw[k b F];exact hb
 .subst e;rw[k b (Kh hb h λz=>by cases z)];exact hb
def RJ(k:BU S H H')(h:Lan.IU H v x):Lan.IU H' v x:=let ⟨a,e,z⟩:=h;⟨a,e,k _ _ z (.inr ⟨_,rfl⟩)⟩
def VC(k:BU S H H')(h:Lv H v x):Lv H' v x:=by
 cases x with
 | none=>exact h
 | some x=>exact RJ k h
def VD(k:BU S H H')(h:Paired (Lan.IU H) xs ms):Paired (Lan.IU H') xs ms:=Paired.à h λ_ _ z=>RJ k z
def Z2(k:BU S H H')(h:Paired (Lv H) xs ms):Paired (Lv H') xs ms:=Paired.à h λ_ _ z=>VC k z
def Ob(k:BU S H H')(h:Paired (Cs.HP H) xs rs):Paired (Cs.HP H') xs rs:=Paired.à h λ_ _ ⟨a,e,z⟩=>⟨a,e,k _ _ z (.inr ⟨_,rfl⟩)⟩
def FQ.keep(k:BU S H H')(F:S a)(h:FQ H a ms):FQ H' a ms:=let ⟨xs,e,z⟩:=h;⟨xs,k _ _ e (.inl F),VD k z⟩
def P4.keep(k:BU S H H')(F:S a)(h:P4 H a ms):P4 H' a ms:=let ⟨xs,e,z⟩:=h;⟨xs,k _ _ e (.inl F),Z2 k z⟩
def P5(k:BU S H H')(F:∀a∈ls,S a)(h:Paired (FQ H) ls ms):Paired (FQ H') ls ms:=by
 induction h with
 | nil=>exact .nil
 | cons r _ ih=>exact .cons (r.keep k (F _ Al)) (ih λa G=>F a (Ah _ G))
theorem Z3(k:BU (λb=>b≠p) H H')(I:FQ H' p ms'):∀{ls:List Addr}{ms:List (List Mx)}(i:Nat),Paired (FQ H) ls ms->ls.Nodup->ls[i]?=some p->Paired (FQ H') ls (ms.set i ms')
 | _,_,_,.nil,_,h=>by simp at h
 | _,_,0,.cons r t,hn,h=>by
   have h:_=p:=Av h;subst h;obtain⟨F,_⟩:=Bx.mp hn;exact .cons I (P5 k (λa J e=>F (e ▸ J)) t)
 | _,_,i+1,.cons r t,hn,h=>by
   obtain⟨F,G⟩:=Bx.mp hn;exact .cons (r.keep k λe=>F (e ▸ Af h)) (Z3 k I i t G h)
structure HK(c:Cf)(H:Hp)(A:DS)(m:Ms):Prop where
 rows:∃xs,H A.c=some (.lst xs)/\Paired (Cs.HP H) xs c.rs
 vX:H A.L=some (.lst (A.ls.map V.ref))
 wg:Paired (FQ H) A.ls m.lanes
 wN:P4 H A.l m.line
 het:P4 H A.h m.Å
 bar:FQ H A.b m.bar
 txt:H A.t=some (.lst (m.texts.map V.str))
def HK.keep(h:HK c H A m)(k:BU S H H')(F:∀a∈A.all,S a):HK c H' A m:=by
 unfold DS.all at F;obtain⟨xs,G,J⟩:=h.rows;exact⟨⟨xs,k _ _ G (.inl (F _ (by simp))),Ob k J⟩,k _ _ h.vX (.inl (F _ (by simp))),P5 k (λa I=>F a (by simp[I])) h.wg,h.wN.keep k (F _ (by simp)),h.het.keep k (F _ (by simp)),h.bar.keep k (F _ (by simp)),k _ _ h.txt (.inl (F _ (by simp)))⟩
def HK.is(h:HK c H A m):∀a∈A.all,∃xs,H a=some (.lst xs):=by
 intro a F;obtain⟨xs,G,_⟩:=h.rows;obtain⟨x2,W,_⟩:=h.wN;obtain⟨Z,I,_⟩:=h.het;obtain⟨Y,J,_⟩:=h.bar;unfold DS.all at F;simp only[Aw]at F;rcases F with rfl|rfl|rfl|rfl|rfl|rfl|F
 .exact⟨_,h.vX⟩
 .exact⟨_,G⟩
 .exact⟨_,W⟩
 .exact⟨_,I⟩
 .exact⟨_,J⟩
 .exact⟨_,h.txt⟩
 .obtain⟨i,hi,e⟩:=Ca F;obtain⟨_,_,xs,ex,_⟩:=Cs.IG h.wg (A9 hi);rw[e]at ex
  exact⟨xs,ex⟩
noncomputable def vals (c:Cf) (A:DS) (m:Ms):List (Option V):=[some (.ref A.L),some (.ref A.c),some (.str c.keys),some (.int (m.at_:Int)),some (.int c.cast),some (.ref A.l),some (.ref A.h),some (.int m.Ă),some (.ref A.b),some (.ref A.t),some (.int m.done),some (.int m.Á)]
structure EZ(C:Addr)(ns:List Str)(c:Cf)(H:Hp)(p:Addr)(A:DS)(m:Ms):Prop where
 ins:IJ C ns H p (vals c A m)
 nd:A.all.Nodup
 li:HK c H A m
structure AU(p:Addr)(A:DS)(H:Hp)(A':DS)(H':Hp):Prop where
 fr:∀b o,H b=some o->((b≠p/\b∉A.all)\/∃xs,o=.tup xs)->H' b=some o
 nw:∀b∈A'.all,b∈A.all\/H b=none
 al:∀b o,H b=some o->∃o',H' b=some o'
def AU.of_same(s:AD H H'):AU p A H A H':=⟨λb o h _=>s b o h,λb h=>.inl h,λb o h=>⟨o,s b o h⟩⟩
def AU.trans(a:AU p A H A1 H1)(b:AU p A1 H1 A2 H2):AU p A H A2 H2:=by
 refine⟨λx o h G=>?_,λx I=>?_,λx o h=>?_⟩
 .refine b.fr x o (a.fr x o h G) (G.imp (λ⟨h1,h2⟩=>⟨h1,λz=>?_⟩) id);rcases a.nw x z with z|z
  .exact h2 z
  .rw[h]at z
   cases z
 .rcases b.nw x I with z|z
  .exact a.nw x z
  .refine .inr ?_;cases e:H x with
   | none=>rfl
   | some o =>
     obtain⟨o',F⟩:=a.al x o e;rw[z]at F
     cases F
 .obtain⟨J,h1⟩:=a.al x o h;exact b.al x J h1
def EZ.x9(h:EZ C ns c H p A m):∀a∈A.all,a≠p:=λa F=>by
 obtain⟨xs,e⟩:=h.li.is a F;obtain⟨dx,fs,G,_⟩:=h.ins;exact Kh e G λz=>by cases z
def EZ.same(h:EZ C ns c H p A m)(s:AD H H'):EZ C ns c H' p A m:=⟨h.ins.same s,h.nd,h.li.keep (BU.of_same (S:=λ_=>True) s) λ_ _=>trivial⟩
def EZ.fields(G:IJ C ns H p vs)(h:IJ C ns H' p (vals c A' m'))(k:∀b,b≠p->H' b=H b)(l:HK c H A' m')(n:A'.all.Nodup):EZ C ns c H' p A' m':=by
 obtain⟨dx,fs,e,_⟩:=G;refine⟨h,n,l.keep (BU.fld e k) λa F=>?_⟩;obtain⟨xs,ex⟩:=l.is a F;exact Kh ex e λz=>by cases z
def AU.lst(F:a∈A.all)(h:H a=some (.lst ys)):AU p A H A (upd H a o):=by
 refine⟨λb u hb G=>?_,λb hb=>.inl hb,λb u hb=>?_⟩
 .exact BU.lst h b u hb (G.imp (λz e=>z.2 (e ▸ F)) id)
 grind[AA,BE]
def Th(h:IJ C ns H p vs)(G:H a=some (.lst ys)):IJ C ns (upd H a o) p vs:=by
 obtain⟨dx,fs,e,F⟩:=h;exact⟨dx,fs,by rw[BE (Kh e G λz=>by cases z)];exact e,F⟩
structure lu(A:DS):Prop where
 Lc:A.L≠A.c
 Ll:A.L≠A.l
 Lh:A.L≠A.h
 Lb:A.L≠A.b
 Lt:A.L≠A.t
 cl:A.c≠A.l
 ch:A.c≠A.h
 cb:A.c≠A.b
 ct:A.c≠A.t
 lh:A.l≠A.h
 lb:A.l≠A.b
 lt:A.l≠A.t
 hb:A.h≠A.b
 ht:A.h≠A.t
 bt:A.b≠A.t
 ls:∀q∈A.ls,q≠A.L/\q≠A.c/\q≠A.l/\q≠A.h/\q≠A.b/\q≠A.t
 nd:A.ls.Nodup
def Ti(h:A.all.Nodup):lu A:=by
 unfold DS.all at h;simp only[Bx,Aw,not_or]at h;obtain⟨⟨a1,a2,G,W,I,a6⟩,⟨b1,b2,F,b4,b5⟩,⟨J,Y,Z,c4⟩,⟨d1,d2,d3⟩,⟨e1,e2⟩,f1,n⟩:=h;refine⟨a1,a2,G,W,I,b1,b2,F,b4,J,Y,Z,d1,d2,e1,λq hq=>⟨?_,?_,?_,?_,?_,?_⟩,n⟩;all_goals
  intro e;rw[e]at hq
  contradiction
def EZ.vV(h:EZ C ns c H p A m)(hq:A.ls[k]?=some q)(hy:H q=some (.lst ys))(hx:Paired (Lan.IU H) xs l) :
 EZ C ns c (upd H q (.lst xs)) p A { m with lanes:=m.lanes.set k l }:=by
 have d:=Ti h.nd;have kp:BU (λb=>b≠q) H (upd H q (.lst xs)):=BU.lst hy;refine GH (λn1 n2 n3 n4 I F=>?_) (d.ls q (Af hq));refine DQ h.li.rows λzs=>BW λG J=>?_;exact⟨Th h.ins hy,h.nd,⟨⟨zs,kp _ _ G (.inl n2.symm),Ob kp J⟩,kp _ _ h.li.vX (.inl n1.symm),Z3 kp ⟨xs,AA,VD kp hx⟩ k h.li.wg d.nd hq,h.li.wN.keep kp n3.symm,h.li.het.keep kp n4.symm,h.li.bar.keep kp I.symm,kp _ _ h.li.txt (.inl F.symm)⟩⟩
def EZ.wF(h:EZ C ns c H p A m)(F:H A.b=some (.lst ys))(W:Paired (Lan.IU H) xs l) :
 EZ C ns c (upd H A.b (.lst xs)) p A { m with bar:=l }:=by
 have d:=Ti h.nd;have kp:BU (λb=>b≠A.b) H (upd H A.b (.lst xs)):=BU.lst F;obtain⟨zs,G,J⟩:=h.li.rows;exact⟨Th h.ins F,h.nd,⟨⟨zs,kp _ _ G (.inl d.cb),Ob kp J⟩,kp _ _ h.li.vX (.inl d.Lb),P5 kp (λa I=>(d.ls a I).2.2.2.2.1) h.li.wg,h.li.wN.keep kp d.lb,h.li.het.keep kp d.hb,⟨xs,AA,VD kp W⟩,kp _ _ h.li.txt (.inl d.bt.symm)⟩⟩
def EZ.xn(h:EZ C ns c H p A m)(F:H A.t=some (.lst ys)) :
 EZ C ns c (upd H A.t (.lst (l.map V.str))) p A { m with texts:=l }:=by
 have d:=Ti h.nd;have kp:BU (λb=>b≠A.t) H (upd H A.t (.lst (l.map V.str))):=BU.lst F;obtain⟨zs,G,J⟩:=h.li.rows;exact⟨Th h.ins F,h.nd,⟨⟨zs,kp _ _ G (.inl d.ct),Ob kp J⟩,kp _ _ h.li.vX (.inl d.Lt),P5 kp (λa I=>(d.ls a I).2.2.2.2.2) h.li.wg,h.li.wN.keep kp d.lt,h.li.het.keep kp d.ht,h.li.bar.keep kp d.bt,AA⟩⟩
def EZ.wY(h:EZ C ns c H p A m)(F:H A.l=some (.lst ys))(W:Paired (Lv H) xs l) :
 EZ C ns c (upd H A.l (.lst xs)) p A { m with line:=l }:=by
 have d:=Ti h.nd;have kp:BU (λb=>b≠A.l) H (upd H A.l (.lst xs)):=BU.lst F;obtain⟨zs,G,J⟩:=h.li.rows;exact⟨Th h.ins F,h.nd,⟨⟨zs,kp _ _ G (.inl d.cl),Ob kp J⟩,kp _ _ h.li.vX (.inl d.Ll),P5 kp (λa I=>(d.ls a I).2.2.1) h.li.wg,⟨xs,AA,Z2 kp W⟩,h.li.het.keep kp d.lh.symm,h.li.bar.keep kp d.lb.symm,kp _ _ h.li.txt (.inl d.lt.symm)⟩⟩
def Oc(m:Mx):PyData:=.tuple [.str m.1,.int m.2]
def LN:EY->PyData
 | none=>.str " "
 | some x=>Oc x
def Z4(h:Lan.IU H v x)(F:PyData.canLay0 (.str x.1)=true):JE K H v (Oc x):=by
 obtain⟨t,rfl,e⟩:=h;exact .tup (BS.of e) (.cons (.str _ F) (.cons (.int _) .nil))
def Z5(h:Lv H v p)(F:∀x,p=some x->PyData.canLay0 (.str x.1)=true):JE K H v (LN p):=by
 cases p with
 | none =>
   have h:=h;rw[h];exact .str _ (by decide +kernel)
 | some x=>exact Z4 h (F x rfl)
def lx(h:Paired (Lan.IU H) xs ms)(c:∀m∈ms,PyData.canLay0 (.str m.1)=true):IE K H xs (ms.map Oc):=by
 induction h with
 | nil=>exact .nil
 | cons h _ ih=>exact .cons (Z4 h (c _ Al)) (ih λx F=>c x (Ah _ F))
def ly(h:Paired (Lv H) xs ms)(c:∀x,some x∈ms->PyData.canLay0 (.str x.1)=true):IE K H xs (ms.map LN):=by
 induction h with
 | nil=>exact .nil
 | cons h _ ih=>exact .cons (Z5 h λx e=>c x (by rw[e];exact Al)) (ih λx F=>c x (Ah _ F))
def FQ.den(h:FQ H a ms)(F:∀m∈ms,PyData.canLay0 (.str m.1)=true):JE K H (.ref a) (.list (ms.map Oc)):=let ⟨_,e,z⟩:=h;.lst (AH.of e) (lx z F)
def P4.den(h:P4 H a ms)(F:∀x,some x∈ms->PyData.canLay0 (.str x.1)=true):JE K H (.ref a) (.list (ms.map LN)):=let ⟨_,e,z⟩:=h;.lst (AH.of e) (ly z F)
def Ks(h:H a=some (.lst [])):JE K H (.ref a) (.list []):=.lst (AH.of h) .nil
def NB{α:Type}(f:α->PyData)(l:List α):PyData.eqv (.list (l.map f)) (.list [])=l.isEmpty:=by
 cases l with
 | nil=>rfl
 | cons a r=>rfl
def LO(d:PyData):min d.depth (PyData.list []).depth<=64:=by
 have:(PyData.list []).depth=1:=rfl
 lia
def Z6(h:Cs.DW c.rs (GY c m)=none):JP c m=false:=by
 unfold JP;rw[h]
def lz(h:Cs.DW c.rs (GY c m)=some k):JP c m=Ql m.lanes k:=by
 unfold JP;rw[h]
def lB(h:ls[k]?=some l):Ql ls k=l.isEmpty:=by
 unfold Ql;rw[h]
def EZ.xQ(h:EZ C ns c H p A m)(O:Ok c m)(I:k<c.rs.length):∃q l,A.ls[k]?=some q/\m.lanes[k]?=some l/\FQ H q l/\EN (A.ls.map V.ref) (k:Int)=some (.ref q):=by
 have G:k<m.lanes.length:=by rw[O.ln];exact I
 obtain⟨q,hq,F⟩:=Cs.O4 h.li.wg (A9 G);exact⟨q,_,hq,A9 G,F,HZ (by rw[Ap,hq];rfl)⟩
def Ok.xP{c:Cf}{m:Ms}{k:Nat}{l:List Mx}(O:Ok c m)(h:m.lanes[k]?=some l):∀x∈l,PyData.canLay0 (.str x.1)=true:=λx F=>(O.lm l (Af h) x F).1
def Ok.vt(O:Ok c m):∀x,some x∈m.Å->PyData.canLay0 (.str x.1)=true:=λx F=>(O.hm x F).1
def Ok.xO(O:Ok c m):∀x,some x∈m.line->PyData.canLay0 (.str x.1)=true:=λx F=>(O.im x F).1
def Ok.xu(O:Ok c m):∀x∈m.bar,PyData.canLay0 (.str x.1)=true:=λx F=>(O.bm x F).1
def AU.vP(h:IJ C ns H p vs)(h':IJ C ns H' p vs')(k:∀b,b≠p->H' b=H b):AU p A H A H':=by
 obtain⟨dx,fs,e,_⟩:=h;obtain⟨F,fs',I,_⟩:=h';refine⟨λb o hb G=>?_,λb hb=>.inl hb,λb o hb=>?_⟩
 .grind
 grind
def EZ.wU(h:EZ C ns c H p A m)(i:IJ C ns H' p (vals c A m'))(k:∀b,b≠p->H' b=H b)(G:m'.lanes=m.lanes)(W:m'.line=m.line)(I:m'.Å=m.Å)(J:m'.bar=m.bar)(F:m'.texts=m.texts):EZ C ns c H' p A m':=by
 refine EZ.fields h.ins i k ⟨h.li.rows,h.li.vX,?_,?_,?_,?_,?_⟩ h.nd
 .rw[G];exact h.li.wg
 .rw[W];exact h.li.wN
 .rw[I];exact h.li.het
 .rw[J];exact h.li.bar
 .rw[F];exact h.li.txt
def Z7{H:Hp}{xs:List V}{ps:List EY}{i:Nat}{x:V}(h:Paired (Lv H) xs ps)(hx:xs[i]?=some x):∃p,ps[i]?=some p/\Lv H x p:=Cs.IG h hx
def Z8{ps:List EY}{i:Nat}{p:EY}(h:ps[i]?=some p):CZ (ps.take (i+1))=CZ (ps.take i)++p.toList:=by
 unfold CZ;rw[Ao,h,Fp];cases p<;>rfl
def Z9:∀(xs:List Addr) (i:Nat),xs.Nodup->e∉xs->(xs.set i e).Nodup:=by
 intro xs;induction xs with
 | nil=>exact λ_ n _=>n
 | cons x xs ih =>
   intro i n h;have n2:=Bx.mp n;have h2:e∉xs:=λz=>h (Ah _ z)
   cases i with
   | zero=>exact Bx.mpr ⟨h2,n2.2⟩
   | succ i =>
     refine Bx.mpr ⟨λz=>?_,ih i n2.2 h2⟩;rcases Er z with z|z
     .exact n2.1 z
     .exact h (by rw[<-z];exact Al)
def VE{A:DS}{e:Addr}(n:A.all.Nodup)(h:e∉A.all):({ A with h:=e }:DS).all.Nodup:=Z9 A.all 3 n h
def VF{A:DS}{e:Addr}(n:A.all.Nodup)(h:e∉A.all):({ A with h:=A.l,l:=e }:DS).all.Nodup :=
 (List.Perm.cons A.L (List.Perm.cons A.c (List.Perm.swap e A.l _))).nodup_iff.mp (Z9 A.all 3 n h)
def EZ.new(h:EZ C ns c H p A m)(F:H e=none):e∉A.all:=λz=>by
 obtain⟨xs,ex⟩:=h.li.is e z;rw[F]at ex
 cases ex
def lC{c:Cf}{l:List EY}(h:∀x,some x∈l->MZ c x)(G:l.length<=100000):((l.map Kr).map (·.length)).sum+(l.map Kr).length*("":Str).length<=16777216:=by
 have h1:=Lns.T5 (λx:Str=>x.length) 1 100000 (l.map Kr) (λx I=>by
  obtain⟨p,F,rfl⟩:=Cq.mp I;cases p with
  | none=>exact Aa 1
  | some x=>exact(h x F).2.1) (by rw[A8];exact G)
 have e:("":Str).length=0:=by decide
 lia
def lD:PyData.eqv (.str " ") (.str " ")=true:=by decide +kernel
theorem AU.free(s:AU p A H A' H')(h:H' b=none):H b=none:=by
 cases e:H b with
 | none=>rfl
 | some o =>
   obtain⟨o',F⟩:=s.al b o e;rw[h]at F
   cases F
def AU.to(s:AU p A H A1 H')(h:∀b∈A'.all,b∈A1.all\/H b=none):AU p A H A' H':=⟨s.fr,λb hb=>(h b hb).elim (s.nw b) .inr,s.al⟩
def lE{A:DS}{e:Addr}{H:Hp}(F:H e=none):∀b∈({ A with h:=e }:DS).all,b∈A.all\/H b=none:=by
 grind[DS.all,List.mem_cons]
def lF{A:DS}{e:Addr}{H:Hp}(F:H e=none):∀b∈({ A with h:=A.l,l:=e }:DS).all,b∈A.all\/H b=none:=by
 grind[DS.all,List.mem_cons]
def Za:decide (V.str (sg c)=V.str (sg d))=decide (c=d):=by
 rw[Cs.EV,D9];refine⟨λh=>?_,λh=>by rw[h]⟩;have h:(#[c]:Array Nat)=#[d]:=C6 Str.cps h;simpa using h
def lG(h:key c m=some k):GY c m=sg k:=by
 unfold GY;rw[h]
def lH(h:key c m=none):GY c m="":=by
 unfold GY;rw[h]
def My(rs:List Cs.BN):List (List Mx):=rs.map λr=>List.replicate r.n.toNat (r.s,r.t)
def start(rs:List Cs.BN):Ms:=⟨My rs,[],[],0,[],[],0,0,0⟩
def lI(h:Paired (Lan.P1 H0 no H) zs ms)(hn:zs.Nodup):∃ls:List Addr,zs=ls.map V.ref/\Paired (FQ H) ls ms/\(no::ls).Nodup/\∀z∈ls,H0 z=none:=by
 induction h with
 | nil=>exact⟨[],rfl,.nil,by simp,λz hz=>nomatch hz⟩
 | cons x t ih =>
   obtain⟨p,xs,e,n,f,z,m⟩:=x;obtain⟨G,F⟩:=Bx.mp hn;obtain⟨ls,J,h2,W,Z⟩:=ih F;obtain⟨Y,I⟩:=Bx.mp W;refine⟨p::ls,by rw[e,J];rfl,.cons ⟨xs,z,m⟩ h2,?_,λy hy=>?_⟩
   .grind
   grind
def CD(p:Addr)(H H':Hp):Prop:=∀b o,b≠p->H b=some o->H' b=some o
def CD.of_same(s:AD H H'):CD p H H':=λb o _ h=>s b o h
def CD.Â(k:∀b,b≠p->H' b=H b):CD p H H':=λb o hb h=>(k b hb).trans h
def CD.trans(a:CD p H H1)(b:CD p H1 H2):CD p H H2:=λx o F h=>b x o F (a x o F h)
theorem CD.free(o:CD p H H')(i:IJ C ns H' p vs)(h:H' b=none):H b=none:=by
 cases e:H b with
 | none=>rfl
 | some x =>
   have hb:b≠p:=λz=>by
    obtain⟨dx,fs,F,_⟩:=i;rw[z,F]at h
    cases h
   rw[o b x hb e]at h
   cases h
def CD.keep(i:IJ C ns H p vs)(o:CD p H H'):BU (λb=>b≠p) H H':=λb u hb F=>by
 obtain⟨dx,fs,e,_⟩:=i;rcases F with F|⟨xs,z⟩
 .exact o b u F hb
 .subst z;exact o b _ (Kh hb e λz=>by cases z) hb
def RK(i:IJ C ns H p vs)(h:H q=some (.lst xs)):q≠p:=by
 obtain⟨dx,fs,e,_⟩:=i;exact Kh h e λz=>by cases z
def P6(i:IJ C ns H p vs)(h:H q=none):q≠p:=λe=>by
 obtain⟨dx,fs,F,_⟩:=i;rw[e,F]at h
 cases h
def Le(h:JE K H v d):PyData.eqv d d=true:=PySem.SeqAt.eqv_refl d (Q4 d v h)
def lJ(c:Cf)(m:Ms):(send c m).done=m.done:=by
 unfold send;split<;>rfl
theorem lK(m:Ms)(k:Nat):(pick m k).done=m.done:=by
 unfold pick;split<;>rfl
def lL(c:Cf)(m:Ms):(î c m).done=m.done:=by
 unfold î;split
 .rfl
 .split
  .exact lJ c m
  .split
   .rfl
   grind[lK]
def Zb(c:Cf)(m:Ms):(tick c m).done=m.done+1:=by
 show(î c (Ą (õ c m))).done+1=_;rw[lL,(Vz (õ c m)).2.2.2.1,(Vy c m).2.2.2.2.2.1]
def AU.list(s:AU p A H A' H')(M:EZ C ns c H p A m)(h:H X=some (.lst ys))(n:X∉A.all):H' X=some (.lst ys)/\X∉A'.all:=by
 refine⟨s.fr X _ h (.inl ⟨RK M.ins h,n⟩),λz=>?_⟩;rcases s.nw X z with z|z
 .exact n z
 .rw[h]at z
  cases z
def Tj(F:H p=none)(hd:H dx=none)(o:CD p (upd (upd H dx (.own p)) p (.ins C dx [])) H'):AD H H':=λb u hb=>by
 have n1:=FB hb F;exact o b u n1 (by rw[BE n1,BE (FB hb hd)];exact hb)
def VG(F:H p=none)(hd:H dx=none)(h:upd (upd H dx (.own p)) p (.ins C dx []) b=none):H b=none:=by
 cases e:H b with
 | none=>rfl
 | some u =>
   rw[BE (FB e F),BE (FB e hd),e]at h
   cases h
def Zc(v:V)(vs:List V):seqIndex? 0 (v::vs).length=some 0:=by
 have h:decide ((0:Int)<((v::vs).length:Int))=true:=Ac (by rw[Bw];lia);show(if (decide ((0:Int)<=0)&&decide ((0:Int)<((v::vs).length:Int)))=true then some (Int.toNat 0)else none)=some 0;rw[h];rfl
def cps(t:Str):List Nat:=t.cps.toList
end Mc
namespace L2
open PySem PySem.Spec PyProof.Rows PySem.Builtin PySem.Builtin.Str
theorem Zd(c:Nat):∀{ps:List Str},ps≠[]->(∀p∈ps,c∉p.cps.toList)->(Str.join ⟨#[c]⟩ ps).cps.toList.count c+1=ps.length
 | [],h,_=>absurd rfl h
 | [p],_,h=>by
   show List.count c p.cps.toList+1=1;rw[K4.mpr (h p Al)]
 | p::p2::ps,_,h=>by
   have ih:=Zd c (ps:=p2::ps) (by simp) λx F=>h x (Ah _ F)
   show List.count c (p++⟨#[c]⟩++Str.join ⟨#[c]⟩ (p2::ps)).cps.toList+1=_;rw[Lns.T7,Lns.T7,K9,K9,K4.mpr (h p Al)];have e:List.count c (⟨#[c]⟩:Str).cps.toList=1:=by
    show List.count c [c]=1;simp
   rw[e];show 0+1+_+1=(p2::ps).length+1
   lia
def lM(x:Str)(c:Nat):(occurrences x ⟨#[c]⟩ 0 x.length (x.length+1)).length=x.cps.toList.count c:=by
 obtain⟨f,I,hn⟩:=StrLaws.occ_tight x ⟨#[c]⟩ (Aa 1);have G:Str.join ⟨#[c]⟩ (partsBetween x (occurrences x ⟨#[c]⟩ 0 x.length (x.length+1)) 1)=x:=by
  rw[<-Cb];exact StrLaws.glued_between_self x ⟨#[c]⟩ (x.length+1)
 have F:partsBetween x (occurrences x ⟨#[c]⟩ 0 x.length (x.length+1)) 1≠[]:=by
  rw[J0];obtain⟨p,r,e⟩:=StrLaws.partsFrom_ne x 1 0 (occurrences x ⟨#[c]⟩ 0 x.length (x.length+1));rw[e];simp
 have h:=Zd c F (by rw[J0];exact StrLaws.parts_free x c _ _ _ I hn);rw[G]at h
 unfold partsBetween at h
 grind
section
variable {X:Cx}
def NC:V->List V->Hp->VK->Prop:=λx xs H Q=>∃(z:Str) (c:Nat),x=.str z/\xs=[.str (sg c)]/\Q (.int (z.cps.toList.count c:Nat)) H
def lN:OF X "str.count" NC:=by
 rintro pins s σ H x xs v us Q I G rs ⟨z,c,rfl,rfl,q⟩;obtain⟨t,rfl⟩:=G;obtain⟨W,rfl,u,rfl⟩:=Kk rs;have e:=lM z c;have J:Q (.int ((occurrences z (sg c) 0 z.length (z.length+1)).length:Nat)) H:=by
  have e:(occurrences z (sg c) 0 z.length (z.length+1)).length=z.cps.toList.count c:=e;rw[e];exact q
 exact call_gives F.slot_str_count (Fu _ _ _) F.entry_str_count (F.args_str_count_2 _ _) (gives_str_count z (sg c) t u) ⟨.int _,H,I.tok _,⟨_,rfl⟩,J⟩
end
end L2
namespace Br
open PySem L2
inductive ND (c:Nat->Nat->Option Int):Nat->Prop
 | zero:ND c 0
 | step {i j:Nat}:ND c i->i<j->(c i j).isSome=true->ND c j
structure RL(c:Nat->Nat->Option Int)(n m:Nat):Prop where
 xX:ND c m
 le:m<=n
 top:∀j,j<=n->ND c j->j<=m
end Br
namespace Mc
open PySem L2
def EZ.xi(h:EZ C ns c H p A m)(J:H X=some (.lst ys))(n:X∉A.all):EZ C ns c (upd H X o) p A m:=by
 obtain⟨dx,fs,I,F⟩:=h.ins;have G:p≠X:=λe=>by rw[e,J]at I;cases I
 exact⟨⟨dx,fs,by rw[BE G];exact I,F⟩,h.nd,h.li.keep (BU.lst J) λa W e=>n (by rw[<-e];exact W)⟩
def AU.same(s:AU p A H1 A' H2)(h:AD H H1)(F:H p=none)(hA:∀b∈A.all,H b=none):AD H H2/\∀b∈A'.all,H b=none:=by
 refine⟨λb o hb=>s.fr b o (h b o hb) (.inl ⟨λe=>?_,λe=>?_⟩),λb hb=>?_⟩
 .rw[e,F]at hb;cases hb
 .rw[hA b e]at hb;cases hb
 .rcases s.nw b hb with z|z
  .exact hA b z
  .exact h.free z
def KU(x s:Str):Nat:=(cps x).count (s.cps.toList.headD 0)
def CG(rs:List Cs.BN)(x:Str):List Cs.BN:=rs.map λr=>⟨r.s,r.w,r.t,(KU x r.s:Int)⟩
def GO:List Cs.BN->List (List Mx)->List Int
 | r::rs,l::ls=>(r.n-((l.length:Nat):Int))::GO rs ls
 | _,_=>[]
def lO{rs:List Cs.BN}{ls:List (List Mx)}{i:Nat}{r:Cs.BN}{l:List Mx}(h1:rs[i]?=some r)(h2:ls[i]?=some l):(GO rs ls)[i]?=some (r.n-((l.length:Nat):Int)):=by
 induction rs generalizing ls i with
 | nil=>simp at h1
 | cons G rs ih =>
   cases ls with
   | nil=>simp at h2
   | cons F ls =>
     cases i with
     | zero=>cases h1;cases h2;rfl
     | succ i=>exact ih (ls:=ls) (i:=i) h1 h2
def Ze(h:ls.length=rs.length):(GO rs ls).length=rs.length:=by
 induction rs generalizing ls with
 | nil=>cases ls<;>rfl
 | cons G rs ih =>
   cases ls with
   | nil=>cases h
   | cons F ls=>exact C6 (·+ 1) (ih (Nat.succ.inj h))
def N4(d o:Int)(x:Int×Int):Int×Int:=if x.1<o then(o,d)else x
def JW(d:Int):List Int->List (Int×Int)->List (Int×Int)
 | o::os,x::xs=>N4 d o x::JW d os xs
 | _,xs=>xs
def VH(d:Int)(os:List Int)(ps:List (Int×Int)):(JW d os ps).length=ps.length:=by
 induction os generalizing ps with
 | nil=>cases ps<;>rfl
 | cons o os ih =>
   cases ps with
   | nil=>rfl
   | cons x xs=>exact C6 (·+ 1) (ih xs)
def VI(d:Int)(ps:List (Int×Int)):JW d [] ps=ps:=by cases ps<;>rfl
def lP(d:Int)(os:List Int)(ps:List (Int×Int))(h:os.length<=k):(JW d os ps)[k]?=ps[k]?:=by
 induction os generalizing ps k with
 | nil=>rw[VI]
 | cons o os ih =>
   cases ps with
   | nil=>rfl
   | cons x xs =>
     cases k with
     | zero=>simp at h
     | succ k=>exact ih xs (k:=k) (Nat.le_of_succ_le_succ h)
def lQ(d:Int)(os:List Int)(o:Int)(ps:List (Int×Int))(h:ps[os.length]?=some x):JW d (os++[o]) ps=(JW d os ps).set os.length (N4 d o x):=by
 induction os generalizing ps with
 | nil =>
   cases ps with
   | nil=>simp at h
   | cons y ys =>
     have h:y=x:=Av h;subst h;show N4 d o y::JW d [] ys=_;rw[VI];rfl
 | cons o' os ih =>
   cases ps with
   | nil=>simp at h
   | cons y ys =>
     show N4 d o' y::JW d (os++[o]) ys=(N4 d o' y::JW d os ys).set (os.length+1) _;rw[List.set_cons_succ,ih ys h]
inductive Pk (c:Cf):Ms->List (Int×Int)->List (Int×Int)->Prop
 | stop {m:Ms}{ps:List (Int×Int)}:HV c m=true->Pk c m ps ps
 | go {m:Ms}{ps qs:List (Int×Int)}:HV c m=false->Pk c (tick c m) (JW (tick c m).done (GO c.rs (tick c m).lanes) ps) qs->Pk c m ps qs
def Pk.uniq{qs:List (Int×Int)}(h:Pk c m ps qs)(h':Pk c m ps qs'):qs=qs':=by
 induction h with
 | stop G =>
   cases h' with
   | stop _=>rfl
   | go F _=>rw[G]at F;cases F
 | go G _ ih =>
   cases h' with
   | stop F=>rw[G]at F;cases F
   | go _ h2=>exact ih h2
structure HW(C:Addr)(ns:List Str)(c:Cf)(H0 H:Hp)(p n q f:Addr)(A:DS)(m:Ms)(fs:List V)(ps:List (Int×Int)):Prop where
 Ř:EZ C ns c H p A m
 sm:AD H0 H
 new:∀b∈A.all,H0 b=none
 pn:H0 p=none
 nn:H0 n=none
 qn:H0 q=none
 fn:H0 f=none
 nq:n≠q
 nf:n≠f
 qf:q≠f
 na:n∉A.all
 qa:q∉A.all
 fa:f∉A.all
 hn:H n=some (.lst ((ps.map λx=>x.1).map V.int))
 hq:H q=some (.lst ((ps.map λx=>x.2).map V.int))
 hf:H f=some (.lst fs)
 rows:Paired (Cs.HP H) fs c.rs
def HW.same{fs:List V}(h:HW C ns c H0 H p n q f A m fs ps)(s:AD H H'):HW C ns c H0 H' p n q f A m fs ps :=
 ⟨h.Ř.same s,h.sm.trans s,h.new,h.pn,h.nn,h.qn,h.fn,h.nq,h.nf,h.qf,h.na,h.qa,h.fa,s _ _ h.hn,s _ _ h.hq,s _ _ h.hf,Cs.KA h.rows s⟩
def HW.step{fs:List V}(h:HW C ns c H0 H p n q f A m fs ps)(s:AU p A H A' H')(M:EZ C ns c H' p A' m'):HW C ns c H0 H' p n q f A' m' fs ps:=by
 obtain⟨W,I⟩:=s.same h.sm h.pn h.new;obtain⟨n1,n2⟩:=s.list h.Ř h.hn h.na;obtain⟨J,Z⟩:=s.list h.Ř h.hq h.qa;obtain⟨G,F⟩:=s.list h.Ř h.hf h.fa;exact⟨M,W,I,h.pn,h.nn,h.qn,h.fn,h.nq,h.nf,h.qf,n2,Z,F,n1,J,G,Ob (S:=λb=>b≠p/\b∉A.all) (λb o hb Y=>s.fr b o hb Y) h.rows⟩
def HW.xx{fs:List V}(h:HW C ns c H0 H p n q f A m fs ps) :
 EZ C ns c (upd H n (.lst vs)) p A m/\AD H0 (upd H n (.lst vs))/\upd H n (.lst vs) q=some (.lst ((ps.map λx=>x.2).map V.int))/\upd H n (.lst vs) f=some (.lst fs)/\Paired (Cs.HP (upd H n (.lst vs))) fs c.rs :=
 ⟨h.Ř.xi h.hn h.na,EH h.sm h.nn,by rw[BE h.nq.symm];exact h.hq,by rw[BE h.nf.symm];exact h.hf,Cs.SV h.rows h.hn λz e=>by cases e⟩
def HW.set{fs:List V}{qs:List (Int×Int)}(h:HW C ns c H0 H p n q f A m fs ps)(s:AD (upd H n (.lst ((qs.map λx=>x.1).map V.int))) H1) :
 HW C ns c H0 (upd H1 q (.lst ((qs.map λx=>x.2).map V.int))) p n q f A m fs qs:=by
 obtain⟨I,J,W,G,Y⟩:=h.xx (vs:=(qs.map λx=>x.1).map V.int);have F:=s _ _ W;exact⟨(I.same s).xi F h.qa,EH (J.trans s) h.qn,h.new,h.pn,h.nn,h.qn,h.fn,h.nq,h.nf,h.qf,h.na,h.qa,h.fa,by rw[BE h.nq];exact s _ _ AA,AA,by rw[BE h.qf.symm];exact s _ _ G,Cs.SV (Cs.KA Y s) F λz e=>by cases e⟩
def Mz(n:Nat):List (Int×Int):=List.replicate n (0,0)
end Mc
namespace L2
open PySem PySem.Spec PyProof.Rows
section
variable {X:Cx}(K:Frag) (hK:X.K=K)
include hK
end
section
variable {X:Cx}(K:Frag) (hK:X.K=K)
include hK
end
section
variable {X:Cx}(K:Frag) (hK:X.K=K)
include hK
end
section
variable {X:Cx}
def lR(t1 W Y Z t5:TE):TE:=λσ H Q=>t1 σ H λa H1=>∃x1:Str,a=.str x1/\x1.length<=2000/\W σ H1 λb H2=>∃I:Str,b=.str I/\I.length<=2000/\Y σ H2 λc H3=>∃G:Str,c=.str G/\G.length<=2000/\Z σ H3 λd H4=>∃F:Str,d=.str F/\F.length<=2000/\t5 σ H4 λe H5=>∃J:Str,e=.str J/\J.length<=2000/\∀x,Q (.str x) H5
end
end L2
namespace Jb
open PySem L2
inductive KW where
 | ms (n:Int)
 | gp (a b c:Int)
 | st (ws:List Str)
def IK:Nat->Type
 | 0=>KW
 | d+1=>KW ⊕ (Nat×List (IK d))
abbrev St:=Int×List Int
abbrev DA:=Int×List Int×List Str
abbrev N7:=List DA×St
def xq:KW->St->N7
 | .ms n,s=>([],(n,s.2))
 | .gp a b c,s=>([],(s.1,[a,b,c]))
 | .st ws,s=>([(s.1,s.2,ws)],s)
def CP{α:Type}(f:α->St->N7):List α->St->N7
 | [],s=>([],s)
 | j::js,s=>((f j s).1++(CP f js (f j s).2).1,(CP f js (f j s).2).2)
def Lf(f:St->N7):Nat->St->N7
 | 0,s=>([],s)
 | n+1,s=>if (f s).1=[]then f s else((f s).1++(Lf f n (f s).2).1,(Lf f n (f s).2).2)
def HX:(d:Nat)->IK d->St->N7
 | 0,b,s=>xq b s
 | _+1,.inl b,s=>xq b s
 | d+1,.inr (n,js),s=>Lf (CP (HX d) js) n s
theorem Zf{α:Type}(f:α->St->N7):∀(F:List α) (j:α) (s:St),CP f (F++[j]) s=((CP f F s).1++(f j (CP f F s).2).1,(f j (CP f F s).2).2)
 | [],j,s=>by
   show((f j s).1++[],(f j s).2)=_;rw[Be];rfl
 | k::F,j,s=>by
   show((f k s).1++(CP f (F++[j]) (f k s).2).1,(CP f (F++[j]) (f k s).2).2)=_;rw[Zf f F j];show(_++(_++_),_)=((_++_)++_,_)
   rw[C4];rfl
theorem Zg{α:Type}(f:α->St->N7):∀(a b:List α) (s:St),CP f (a++b) s=((CP f a s).1++(CP f b (CP f a s).2).1,(CP f b (CP f a s).2).2)
 | [],b,s=>rfl
 | k::a,b,s=>by
   show((f k s).1++(CP f (a++b) (f k s).2).1,(CP f (a++b) (f k s).2).2)=_;rw[Zg f a b];show(_++(_++_),_)=((_++_)++_,_)
   rw[C4];rfl
def N8(ps:List DA):Nat:=(ps.map λp=>p.2.2.length).sum
def FI(ps:List DA):Prop:=ps.length<=60/\N8 ps<=400
theorem lS(a b:List DA):N8 (a++b)=N8 a+N8 b:=by
 grind[N8,List.map_append,List.sum_append]
theorem FI.left(h:FI (a++b)):FI a:=by
 grind[FI,List.length_append,lS]
noncomputable instance (ps:List DA):Decidable (FI ps):=by unfold FI;infer_instance
def AS(no:Addr)(H H':Hp):Prop:=∀a o,a≠no->H a=some o->H' a=some o
def AS.refl(no:Addr)(H:Hp):AS no H H:=λ_ _ _ h=>h
def AS.trans(h:AS no H1 H2)(h':AS no H2 H3):AS no H1 H3:=λa o n e=>h' a o n (h a o n e)
def AS.of(h:AD H H'):AS no H H':=λa o _ e=>h a o e
def AS.upd(h:AS no H H'):AS no H (upd H' no o):=λa o' n e=>by
 rw[BE n];exact h a o' n e
def AS.tup(h:AS no H H')(F:H no=some (.lst vs))(ht:H t=some (.tup xs)):H' t=some (.tup xs):=h t _ (λe=>by rw[e,F]at ht;cases ht) ht
def AS.wM(h:AS no H H')(F:H no=some (.lst vs))(ht:BS K H t xs):BS K H' t xs:=by
 rcases ht with ht|ht
 .rcases ht with ht|ht
  .exact .inl (.inl (h.tup F ht))
  .obtain⟨o,ht⟩:=ht;exact .inl (.inr ⟨o,h t _ (λe=>by rw[e,F]at ht;cases ht) ht⟩)
 .exact .inr ht
def NF(no:Addr)(H:Hp)(v:V):KW->Prop
 | .ms n=>∃t,v=.ref t/\H t=some (.tup [.str "measure",.int n])
 | .gp a b c=>∃t,v=.ref t/\H t=some (.tup [.str "gaps",.int a,.int b,.int c])
 | .st ws=>∃t p,v=.ref t/\H t=some (.tup [.str "set",.ref p])/\p≠no/\H p=some (.lst (ws.map V.str))
def DX(no:Addr)(H:Hp):(d:Nat)->V->IK d->Prop
 | 0,v,b=>NF no H v b
 | _+1,v,.inl b=>NF no H v b
 | d+1,v,.inr (n,js)=>n<=1000/\js.length<=1000/\∃t p xs,v=.ref t/\H t=some (.tup [.str "times",.int (n:Int),.ref p])/\p≠no/\H p=some (.lst xs)/\Paired (DX no H d) xs js
def NF.same(h:NF no H v b)(s:AS no H H')(F:H no=some (.lst vs)):NF no H' v b:=by
 cases b with
 | ms n=>obtain⟨t,e,z⟩:=h;exact⟨t,e,s.tup F z⟩
 | gp a b c=>obtain⟨t,e,z⟩:=h;exact⟨t,e,s.tup F z⟩
 | st ws=>obtain⟨t,p,e,z,n,y⟩:=h;exact⟨t,p,e,s.tup F z,n,s _ _ n y⟩
theorem DX.same(s:AS no H H')(F:H no=some (.lst vs)):∀(d:Nat) {v:V}{j:IK d},DX no H d v j->DX no H' d v j
 | 0,_,_,h=>NF.same h s F
 | _+1,_,.inl _,h=>NF.same h s F
 | d+1,_,.inr (_,_),h=>by
   obtain⟨b1,G,t,p,xs,e,z,n,y,w⟩:=h;exact⟨b1,G,t,p,xs,e,s.tup F z,n,s _ _ n y,Paired.à w λ_ _ q=>DX.same s F d q⟩
def DX.view:∀(d:Nat) {v:V}{j:IK d},DX no H d v j->(∃b,NF no H v b/\∀s,HX d j s=xq b s) \/
 ∃(d' n:Nat) (F:List (IK d')),d=d'+1/\n<=1000/\F.length<=1000/\(∃t p xs,v=.ref t/\H t=some (.tup [.str "times",.int (n:Int),.ref p])/\p≠no/\H p=some (.lst xs)/\Paired (DX no H d') xs F)/\∀s,HX d j s=Lf (CP (HX d') F) n s
 | 0,_,b,h=>.inl ⟨b,h,λ_=>rfl⟩
 | _+1,_,.inl b,h=>.inl ⟨b,h,λ_=>rfl⟩
 | d+1,_,.inr (n,F),⟨b1,G,h⟩=>.inr ⟨d,n,F,rfl,b1,G,h,λ_=>rfl⟩
def N9(K:Frag)(no:Addr)(H:Hp)(v:V)(p:DA):Prop:=∃t g w,v=.ref t/\H t=some (.tup [.int p.1,.ref g,.ref w])/\BS K H g (p.2.1.map V.int)/\w≠no/\H w=some (.lst (p.2.2.map V.str))
def N9.same(h:N9 K no H v p)(s:AS no H H')(F:H no=some (.lst vs)):N9 K no H' v p:=by
 revert h;refine FT λt g w=>FL λe z y n x=>?_;exact EB t g w (CQ e (s.tup F z) (s.wM F y) n (s _ _ n x))
structure Od(K:Frag)(q:Addr)(H:Hp)(ps:List DA):Prop where
 ex:∃vs,H q=some (.lst vs)/\Paired (N9 K q H) vs ps
def Od.add(hq:H q=some (.lst vs))(F:Paired (N9 K q H) vs ps)(h:N9 K q H v p):Paired (N9 K q (upd H q (.lst (vs++[v])))) (vs++[v]) (ps++[p]):=by
 have s:AS q H (upd H q (.lst (vs++[v]))):=(AS.refl q H).upd;exact By (Paired.à F λ_ _ z=>z.same s hq) (h.same s hq)
end Jb
namespace L2
open PySem PySem.Spec PyProof.Rows
theorem Zh:∀(n:Nat) (F:Array Nat),((List.replicate n xs).foldl (·++ ·) F).size=F.size+xs.size*n
 | 0,F=>by rw[Nat.mul_zero];rfl
 | n+1,F=>by
   rw[Cj,E8,Zh n,Ka,Nat.mul_succ]
   lia
section
variable {X:Cx}(K:Frag) (hK:X.K=K)
include hK
end
abbrev lT:=Nat×Nat×Bool
section
variable {X:Cx}{o i e value:Expr}{pos pos' tpos:Pos}{td ty tv:TE}
variable (P:Program) (w:World) (hP:X.prog=P) (hw:X.w=w)
include hP hw
end
end L2
namespace Jb
open PySem L2
structure VJ(x:Str):Prop where
 l1:1<=x.cps.toList.length
 l2:x.cps.toList.length<=12
 sn:∀c∈x.cps.toList,c∈Cs.FG
 ne:x≠"end"
def GZ(N:Addr->Prop)(H:Hp)(v:V):KW->Prop
 | .ms n=>∃t,v=.ref t/\H t=some (.tup [.str "measure",.int n])
 | .gp a b c=>∃t,v=.ref t/\H t=some (.tup [.str "gaps",.int a,.int b,.int c])
 | .st ws=>∃t p,v=.ref t/\H t=some (.tup [.str "set",.ref p])/\¬N p/\H p=some (.lst (ws.map V.str))
def BV(N:Addr->Prop)(H:Hp):(d:Nat)->V->IK d->Prop
 | 0,v,b=>GZ N H v b
 | _+1,v,.inl b=>GZ N H v b
 | d+1,v,.inr (n,js)=>n<=1000/\js.length<=1000/\∃t p xs,v=.ref t/\H t=some (.tup [.str "times",.int (n:Int),.ref p])/\¬N p/\H p=some (.lst xs)/\Paired (BV N H d) xs js
structure DE(N:Addr->Prop)(H H':Hp):Prop where
 tup:∀a xs,H a=some (.tup xs)->H' a=some (.tup xs)
 lst:∀a xs,¬N a->H a=some (.lst xs)->H' a=some (.lst xs)
def DE.of{N:Addr->Prop}{H H':Hp}(s:AD H H'):DE N H H':=⟨λa xs h=>s _ _ h,λa xs _ h=>s _ _ h⟩
def DE.upd{N:Addr->Prop}{H:Hp}{q:Addr}{ys:List V}{o:HO}(hq:H q=some (.lst ys))(F:N q):DE N H (upd H q o):=by
 refine⟨λa xs h=>?_,λa xs n h=>?_⟩
 .rw[BE (Kh h hq (λz=>by cases z))];exact h
 .rw[BE (λz=>n (by rw[z];exact F))];exact h
def DE.trans{N:Addr->Prop}{H1 H2 F:Hp}(h:DE N H1 H2)(h':DE N H2 F):DE N H1 F:=⟨λa xs e=>h'.tup a xs (h.tup a xs e),λa xs n e=>h'.lst a xs n (h.lst a xs n e)⟩
section
variable {N M:Addr->Prop}{H H':Hp}
def GZ.to(s:DE N H H')(hm:∀p xs,H p=some (.lst xs)->¬N p->¬M p)(h:GZ N H v b):GZ M H' v b:=by
 cases b with
 | ms n=>obtain⟨t,e,z⟩:=h;exact⟨t,e,s.tup _ _ z⟩
 | gp a b c=>obtain⟨t,e,z⟩:=h;exact⟨t,e,s.tup _ _ z⟩
 | st ws=>obtain⟨t,p,e,z,n,y⟩:=h;exact⟨t,p,e,s.tup _ _ z,hm _ _ y n,s.lst _ _ n y⟩
theorem BV.to(s:DE N H H')(hm:∀p xs,H p=some (.lst xs)->¬N p->¬M p):∀(d:Nat) {v:V}{j:IK d},BV N H d v j->BV M H' d v j
 | 0,_,_,h=>GZ.to s hm h
 | _+1,_,.inl _,h=>GZ.to s hm h
 | d+1,_,.inr (_,_),h=>by
   obtain⟨b1,F,t,p,xs,e,z,n,y,w⟩:=h;exact⟨b1,F,t,p,xs,e,s.tup _ _ z,hm _ _ y n,s.lst _ _ n y,Paired.à w λ_ _ q=>BV.to s hm d q⟩
def BV.same(s:DE N H H')(d:Nat){v:V}{j:IK d}(h:BV N H d v j):BV N H' d v j:=BV.to s (λ_ _ _ n=>n) d h
def BV.weak(w:∀a,M a->N a)(d:Nat){v:V}{j:IK d}(h:BV N H d v j):BV M H d v j:=BV.to (DE.of (AD.refl _)) (λ_ _ _ n z=>n (w _ z)) d h
def BV.fresh(w:∀a,M a->N a\/H a=none)(d:Nat){v:V}{j:IK d}(h:BV N H d v j):BV M H d v j:=BV.to (DE.of (AD.refl _)) (λp xs e n z=>by
 rcases w p z with h|h
 .exact n h
 .rw[e]at h;cases h) d h
def GZ.at{q:Addr}{v:V}{b:KW}(h:GZ (λa=>a=q) H v b):NF q H v b:=by
 cases b with
 | ms n=>exact h
 | gp a b c=>exact h
 | st ws=>exact h
theorem BV.at{q:Addr}:∀(d:Nat) {v:V}{j:IK d},BV (λa=>a=q) H d v j->DX q H d v j
 | 0,_,_,h=>GZ.at h
 | _+1,_,.inl _,h=>GZ.at h
 | d+1,_,.inr (_,_),h=>by
   obtain⟨b1,F,t,p,xs,e,z,n,y,w⟩:=h;exact⟨b1,F,t,p,xs,e,z,n,y,Paired.à w λ_ _ q=>BV.at d q⟩
end
end Jb
namespace L2
open PySem PySem.Spec PyProof.Rows
section
variable {X:Cx}
def Qo:IW X (.type "int") (λxs H Q=>∃(x:Str) (n:Int),xs=[.str x]/\PySem.intText? x=some n/\x.length<=640/\Q (.int n) H):=by
 rintro pins s σ H xs us Q I r ⟨x,n,rfl,hn,F,q⟩;obtain⟨u,rfl,t,rfl⟩:=Kk r;exact PySem.W.KIN.call_text hn F ⟨.int _,H,I.tok _,⟨_,rfl⟩,q⟩
def Qp:IW X (.type "str") (λxs H Q=>∃i:Int,xs=[.int i]/\i.natAbs<100000/\Q (.str (Str.ofString (toString i))) H):=by
 rintro pins s σ H xs us Q I r ⟨i,rfl,hi,q⟩;obtain⟨u,rfl,t,rfl⟩:=Kk r;refine P.str_of_int ?_ ⟨.str _,H,I.tok _,⟨_,rfl⟩,q⟩;have:i.natAbs.log2<17:=by
  rcases Nat.eq_zero_or_pos i.natAbs with e|e
  .rw[e];decide
  .exact(Js (by lia)).mpr (by lia)
 lia
end
end L2
namespace Cp
open PySem L2 Jb
def Qq(c:Nat):Bool:=decide (48<=c)&&decide (c<=57)
def GP(x:Str):Bool:=!(decide (1<x.cps.toList.length)&&decide (x.cps.toList[0]?=some 48))&&(decide (1<=x.cps.toList.length)&&decide (x.cps.toList.length<=4))&&x.cps.toList.all Qq
def GQ(x:Str):Int:=(PySem.intText? x).getD 0
def RM(h:GP x=true):1<=x.cps.toList.length/\x.cps.toList.length<=4:=by
 unfold GP at h
 lia
def Tn(h:GP x=true):PySem.intText? x=some (GQ x):=by
 have F:=RM h;unfold GP at h;simp only[Ae]at h;have hd:PySem.NumText.AllDigits x.cps.toList:=λc G=>by
  have:=Bf.mp h.2 c G;unfold Qq at this
  lia
 have e:x.cps.toList.length=x.length:=B0;have:=PySem.intText_digits hd (λz=>by rw[z]at F;exact absurd F.1 (by decide)) (by lia);unfold GQ;rw[this];rfl
def KE(x:Str):Bool:=decide (x≠"")&&decide (x≠"end")&&x.cps.toList.all λc=>decide (c∈Cs.FG)
def hd(r:List Str)(k:Nat):Str:=(r[k]?).getD ""
def JQ(x:Str)(lo hi:Int):Option Int:=if GP x=true/\lo<=GQ x/\GQ x<=hi then some (GQ x)else none
abbrev Rd(α:Type):=Option (α×Nat)
def Qr(r:List Str):Rd KW:=(JQ (hd r 1) 1 2000).map λn=>(.ms n,2)
noncomputable def RN (r:List Str):Rd KW:=match JQ (hd r 1) 0 99 with
 | none=>none
 | some lo=>match JQ (hd r 2) lo 99 with
   | none=>none
   | some À=>(JQ (hd r 3) À 99).map λhi=>(.gp lo À hi,4)
def IL(r:List Str):List Str:=(r.drop 1).takeWhile KE
def RO(r:List Str):Rd KW:=if IL r=[]then none else if hd r ((IL r).length+1)="end" then some (.st (IL r),(IL r).length+2)else none
def Oe(r:List Str):Bool:=decide (hd r 0="measure")||decide (hd r 0="gaps")||decide (hd r 0="set")
def LP(r:List Str):Rd KW:=if hd r 0="measure" then Qr r else if hd r 0="gaps" then RN r else if hd r 0="set" then RO r else none
def MB(r:List Str):Bool:=decide (r=[])||decide (hd r 0=")")
noncomputable def KF {α:Type}(f:List Str->Rd α):Nat->List Str->Rd (List α)
 | 0,_=>none
 | n+1,r=>if MB r=true then some ([],0)else match f r with
   | none=>none
   | some (x,k)=>(KF f n (r.drop k)).map λz=>(x::z.1,k+z.2)
noncomputable def NG {α:Type}(g:List Str->Rd (List α)) (r:List Str):Rd (Nat×List α):=match JQ (hd r 0) 1 9 with
 | none=>none
 | some n=>if hd r 1="times"/\hd r 2="(" then(match g (r.drop 3)with
    | none=>none
    | some (js,k)=>if js=[]then none else if hd r (3+k)=")" then some ((n.toNat,js),4+k)else none)
   else none
noncomputable def IZ:(d:Nat)->List Str->Rd (IK d)
 | 0,r=>LP r
 | d+1,r=>if Oe r=true then(LP r).map λz=>(Sum.inl z.1,z.2)else(NG (λr=>KF (IZ d) (r.length+1) r) r).map λz=>(Sum.inr z.1,z.2)
def EL(d:Nat)(r:List Str):Rd (List (IK d)):=KF (IZ d) (r.length+1) r
def Qs(h:hd r k≠""):k<r.length:=by
 cases e:r[k]? with
 | none =>
   unfold hd at h;rw[e]at h
   exact absurd rfl h
 | some x=>exact(B9.mp e).1
def KY(r:List Str)(a k:Nat):hd (r.drop a) k=hd r (a+k):=by
 unfold hd;rw[List.getElem?_drop]
def lU:GP ""=false:=by decide +kernel
def To(h:JQ x lo hi=some n):GP x=true/\lo<=n/\n<=hi/\n=GQ x:=by
 unfold JQ at h
 lia
def Zi(h:JQ x lo hi=some n):x≠"":=λz=>by
 have:=(To h).1;rw[z,lU]at this
 cases this
def lV(h:Qr r=some (b,k)):1<=k/\k<=r.length:=by
 unfold Qr at h;obtain⟨n,hn,e⟩:=Bi.mp h;have:=Qs (Zi hn);cases e
 lia
def lW(h:RN r=some (b,k)):1<=k/\k<=r.length:=by
 unfold RN at h;split at h
 .cases h
 .split at h
  .cases h
  .obtain⟨n,hn,e⟩:=Bi.mp h;have:=Qs (Zi hn);cases e
   lia
def lX(h:RO r=some (b,k)):1<=k/\k<=r.length:=by
 unfold RO at h;split at h
 .cases h
 .split at h
  .rename_i e;have F:hd r ((IL r).length+1)≠"":=by rw[e];decide +kernel
   have:=Qs F;cases h
   lia
  .cases h
def Zj{r:List Str}{b:KW}{k:Nat}(h:LP r=some (b,k)):1<=k/\k<=r.length:=by
 unfold LP at h;split at h
 .exact lV h
 .split at h
  .exact lW h
  .split at h
   .exact lX h
   .cases h
def lY{α:Type}{g:List Str->Rd (List α)}{r:List Str}{x:Nat×List α}{k:Nat}(h:NG g r=some (x,k)):1<=k/\k<=r.length:=by
 unfold NG at h;split at h
 .cases h
 .split at h
  .split at h
   .cases h
   .split at h
    .cases h
    .split at h
     .rename_i e;have:=Qs (r:=r) (λz=>absurd (e.symm.trans z) (by decide +kernel));cases h
      lia
     .cases h
  .cases h
theorem Qt:∀(d:Nat) {r:List Str}{j:IK d}{k:Nat},IZ d r=some (j,k)->1<=k/\k<=r.length
 | 0,r,j,k,h=>Zj (b:=j) h
 | d+1,r,j,k,h=>by
   unfold IZ at h;split at h
   .obtain⟨z,hz,e⟩:=Bi.mp h;cases e;exact Zj hz
   .obtain⟨z,hz,e⟩:=Bi.mp h;cases e;exact lY hz
theorem VL{α:Type}{f:List Str->Rd α}(hf:∀r x k,f r=some (x,k)->1<=k/\k<=r.length):∀(n:Nat) {r:List Str}{xs:List α}{k:Nat},KF f n r=some (xs,k)->k<=r.length
 | 0,r,xs,k,h=>by cases h
 | n+1,r,xs,k,h=>by
   unfold KF at h;split at h
   .cases h;exact Bj _
   .split at h
    .cases h
    .rename_i x G e;obtain⟨z,hz,F⟩:=Bi.mp h;have h1:=hf _ _ _ e;have h2:=VL hf n hz;cases F;rw[Ci]at h2
     lia
theorem Zk{α:Type}{f:List Str->Rd α}(hf:∀r x k,f r=some (x,k)->1<=k/\k<=r.length):∀(n m:Nat) (r:List Str),r.length<n->r.length<m->KF f n r=KF f m r
 | 0,_,r,h,_=>absurd h (Ds _)
 | _+1,0,r,_,h=>absurd h (Ds _)
 | n+1,m+1,r,hn,hm=>by
   unfold KF;split
   .rfl
   .split
    .rfl
    .rename_i x k e;have h1:=hf _ _ _ e;rw[Zk hf n m (r.drop k) (by rw[Ci];lia) (by rw[Ci];lia)]
theorem Zl{d:Nat}{r:List Str}:EL d r=if MB r=true then some ([],0)else match IZ d r with
 | none=>none
 | some (x,k)=>(EL d (r.drop k)).map λz=>(x::z.1,k+z.2):=by
 have G:EL d r=KF (IZ d) (r.length+1) r:=rfl;rw[G];unfold KF;by_cases F:MB r=true
 .rw[Au F,Au F]
 .rw[As F,As F];cases e:IZ d r with
  | none=>rfl
  | some z =>
    obtain⟨x,k⟩:=z;have h1:=Qt d e;have h2:KF (IZ d) r.length (r.drop k)=EL d (r.drop k):=Zk (λr x k=>Qt d) r.length ((r.drop k).length+1) (r.drop k) (by rw[Ci];lia) (Fs _)
    lia
def RP(ws:List Str):Option (List (IK 4)):=match EL 4 ws with
 | none=>none
 | some (js,k)=>if k<ws.length then none else some js
end Cp
namespace L2
open PySem PySem.Spec PyProof.Rows
section
variable {X:Cx}
def lZ(t1 J W Y:TE):TE:=λσ H Q=>t1 σ H λa1 H1=>∃x1:Str,a1=.str x1/\x1.length<=2000/\J σ H1 λa2 H2=>∃I:Str,a2=.str I/\I.length<=2000/\W σ H2 λa3 Z=>∃G:Str,a3=.str G/\G.length<=2000/\Y σ Z λa4 H4=>∃F:Str,a4=.str F/\F.length<=2000/\∀x,Q (.str x) H4
def ma(t1 Z t3 t4 t5 t6:TE):TE:=λσ H Q=>t1 σ H λa1 H1=>∃x1:Str,a1=.str x1/\x1.length<=2000/\Z σ H1 λa2 H2=>∃I:Str,a2=.str I/\I.length<=2000/\t3 σ H2 λa3 H3=>∃G:Str,a3=.str G/\G.length<=2000/\t4 σ H3 λa4 H4=>∃F:Str,a4=.str F/\F.length<=2000/\t5 σ H4 λa5 H5=>∃J:Str,a5=.str J/\J.length<=2000/\t6 σ H5 λa6 Y=>∃W:Str,a6=.str W/\W.length<=2000/\∀x,Q (.str x) Y
def mf(tv:TE):TE:=λσ H Q=>tv σ H λv H1=>∃y:Str,v=.str y/\(reprText y).length<=2000/\∀x:Str,x.length<=2000->Q (.str x) H1
def Tp(Y:PE X value tv):PE X (.FormattedValue value 114 none pos) (mf tv):=by
 intro pins s σ H Q I h;refine wpAny_FormattedValue_repr (AV (Y pins s σ H _ I h) λv s1 F=>?_);obtain⟨y,H1,G,W,z,Z,J,q⟩:=F;subst Z;obtain⟨t,rfl⟩:=W;exact wpAny_pyReprObj_str (wpAny_formatField_str ⟨.str _,H1,G.tok _,⟨_,rfl⟩,q _ J⟩ ⟨.str _,H1,(G.tok _).tok _,⟨_,rfl⟩,q _ J⟩ (DU (by lia))) (DU (by lia))
end
section
variable {X:Cx}
def JI{v:Expr}{t:TE}(h:PE X v t){pins:List (Addr×Obj)}{s:Shared}{σ:St}{H:Hp}{F:Str}{n:Nat}{rest:List (Sem Value)}{W:Str->Shared->Prop}{R:Hp->Prop}(I:AF X pins σ H s)
 (q:t σ H λa H1=>∃x:Str,a=.str x/\x.length<=2000/\R H1) (ha:F.length<=n) (hn:(n+2000).ble 100000=true)
 (hr:∀(x:Str) (G:Shared) (H1:Hp),AF X pins σ H1 G->R H1->(F++x).length<=n+2000->Joins (model X.prog X.w) X.A X.xe rest (F++x) W G):Joins (model X.prog X.w) X.A X.xe (eval v X.env::rest) F W s:=by
 refine AV (h pins s σ H _ I q) λa G z=>?_;obtain⟨y,H1,Z,Y,x,rfl,l,q1⟩:=z;obtain⟨t1,rfl⟩:=Y;have J:(F++x).length<=n+2000:=by rw[Fl];exact Nat.add_le_add ha l
 exact⟨x,t1,rfl,Bk J (DU (Bh hn)),hr x G H1 Z q1 J⟩
def RQ(I:AF X pins σ H s)(q:∀x,Q (.str x) H)(J:acc.length<=n)(hn:n.ble 100000=true) :
 Joins (model X.prog X.w) X.A X.xe (evalEach [] X.env) acc (λG F=>G.length<=sizeLine/\EP X pins σ Q (.str G F.toks) { F with toks:=F.toks+1 }) s :=
 ⟨Bk J (DU (Bh hn)),.str _,H,I.tok _,⟨_,rfl⟩,q _⟩
def Qu(h1:PE X v1 t1)(h2:PE X v2 t2):PE X (.JoinedStr [v1,v2] pos) (jS t1 t2):=λ_ _ _ _ _ I h =>
 E9 (JI h1 I h (Aa 0) rfl λ_ _ _ Y W F=>JI h2 Y W F rfl λ_ _ _ G Z J=>RQ G Z J rfl)
def P7(h1:PE X v1 t1)(h2:PE X v2 t2)(h3:PE X v3 t3):PE X (.JoinedStr [v1,v2,v3] pos) (jT t1 t2 t3):=λ_ _ _ _ _ I h =>
 E9 (JI h1 I h (Aa 0) rfl λ_ _ _ Z Y G=>JI h2 Z Y G rfl λ_ _ _ J q2 W=>JI h3 J q2 W rfl λ_ _ _ F q3 l3=>RQ F q3 l3 rfl)
def mh(h1:PE X v1 t1)(h2:PE X v2 t2)(h3:PE X v3 t3)(W:PE X v4 t4):PE X (.JoinedStr [v1,v2,v3,v4] pos) (lZ t1 t2 t3 t4):=λ_ _ _ _ _ I h =>
 E9 (JI h1 I h (Aa 0) rfl λ_ _ _ G Y l1=>JI h2 G Y l1 rfl λ_ _ _ I2 q2 l2=>JI h3 I2 q2 l2 rfl λ_ _ _ J Z l3=>JI W J Z l3 rfl λ_ _ _ F q4 l4=>RQ F q4 l4 rfl)
def ml(h1:PE X v1 t1)(h2:PE X v2 t2)(h3:PE X v3 t3)(Z:PE X v4 t4)(h5:PE X v5 t5):PE X (.JoinedStr [v1,v2,v3,v4,v5] pos) (lR t1 t2 t3 t4 t5):=λ_ _ _ _ _ I h =>
 E9 (JI h1 I h (Aa 0) rfl λ_ _ _ G q1 l1=>JI h2 G q1 l1 rfl λ_ _ _ I2 q2 l2=>JI h3 I2 q2 l2 rfl λ_ _ _ W q3 l3=>JI Z W q3 l3 rfl λ_ _ _ F q4 l4=>JI h5 F q4 l4 rfl λ_ _ _ Y q5 J=>RQ Y q5 J rfl)
def mr(h1:PE X v1 t1)(h2:PE X v2 t2)(h3:PE X v3 t3)(h4:PE X v4 t4)(h5:PE X v5 t5)(h6:PE X v6 t6):PE X (.JoinedStr [v1,v2,v3,v4,v5,v6] pos) (ma t1 t2 t3 t4 t5 t6):=λ_ _ _ _ _ I h =>
 E9 (JI h1 I h (Aa 0) rfl λ_ _ _ G q1 l1=>JI h2 G q1 l1 rfl λ_ _ _ I2 q2 l2=>JI h3 I2 q2 l2 rfl λ_ _ _ W q3 l3=>JI h4 W q3 l3 rfl λ_ _ _ F q4 l4=>JI h5 F q4 l4 rfl λ_ _ _ Z q5 J=>JI h6 Z q5 J rfl λ_ _ _ I6 Y l6=>RQ I6 Y l6 rfl)
end
def mu(h:env'.frame=env.frame):noteFrame ev env'=noteFrame ev env:=by
 unfold noteFrame PySem.frameOf;rw[h]
section
variable {prog:Program}{w:World}{A:Around}{R:Result->Shared->Prop}{s:Shared}
theorem mv (I:Nat->Shared->Prop) (EX:Value->Shared->Prop) (turn:∀n s,I n s->wpAny (model prog w) A (pyNext it) (λr G=>match r with
 | none=>R (.ok .next) G
 | some v=>wpAny (model prog w) A (letOwnedTupleGo target it v) (λ_ F=>wpAny (model prog w) A (assign target env v) (λ_ Z =>
    wpAny (model prog w) A (forIn ifs true λc r=>if r=true then do let ok <- isTrue c env (eval c env);pure (ForInStep.yield ok)else pure (ForInStep.yield r)) (λok W =>
     if ok=true then wpAny (model prog w) A (eval elt env) (λx Y =>
      wpAny (model prog w) A (call (.builtin "list.append") [acc,x]) (λ_ s5=>∃m,m<n/\I m s5) (λ_ _=>False) Y) EX W
     else ∃m,m<n/\I m W) (λ_ _=>False) Z) (λ_ _=>False) F) (λ_ _=>False) G) (λ_ _=>False) s) (hE:∀x s,EX x s->notedBy (model prog w) A env (λx s'=>R (.error x) s') x s) (n:Nat) (h:I n s) :
 codeAny (model prog w) A (.compLoop (.ListComp elt [⟨target,iter,ifs,0⟩] scope pos) 0 it acc env) R s:=by
 refine codeAny_loop rfl I (λn s hI=>?_) n h;show wpAny _ A ((compTurn (.ListComp elt [⟨target,iter,ifs,0⟩] scope pos) 0 it acc env).onRaise (λx=>do noteFrame x env;theTreesLotGoes x)) _ _ s;refine wpAny_noted ?_;rw[compTurn_list];refine A6 (Cm (A6 (Bv (turn n s hI) (λr G h1=>?_) λ_ _ h'=>False.elim h')));cases r with
 | none=>exact Ab h1
 | some v =>
   refine A6 (Bv h1 (λ_ F J=>A6 (Bv J (λ_ Z h2=>A6 (Bv h2 (λok W h3=>?_) λ_ _ h'=>False.elim h')) λ_ _ h'=>False.elim h')) λ_ _ h'=>False.elim h');cases ok with
   | false=>exact Ab ⟨rfl,h3⟩
   | true =>
     exact A6 (A6 (Bv h3 (λx Y h4=>A6 (Bv h4 (λ_ s5 h5=>Ab (Ab ⟨rfl,h5⟩)) λ_ _ h'=>False.elim h')) hE))
end
section
variable {X:Cx}
def mw (hL:X.env.frame=some L) (ak:X.stack=X.env::X.outer) (ad:X.calm=true) (hi:PI (X.Ü (EF X λ_=>E)) target iter wi) (B:DL X N' scope ms k) (hg:∀C cells Ã H₀ ex,PG (GL X N' scope C cells Ã H₀ ex) target g) (he:∀C cells Ã H₀ ex,PE ((GL X N' scope C cells Ã H₀ ex).Ü (EF (GL X N' scope C cells Ã H₀ ex) λ_=>E)) elt te) (hs:∀x,foldedSetIterable iter X.env x=pure x) (I:AF (X.Ü (EF X λ_=>E)) pins σ H s) (hw:IF wi g V0 te ms k σ H Qv) (hpost:∀(D:Addr) (H':Hp) (s':Shared) (C:Addr) (m:Str->Option Value),AF X pins σ H' s'->s'.heap.Ns C m->H' C=none->C≠X.env.locals->X.Ã.heap.objs.size<=C ->
 (∀x c,X.env.cells.lookup x=some c->c≠C)->(∀p∈X.pn++pins,p.1≠C)->Qv (.ref D) H'->compPost (model X.prog X.w) X.A (EF X λ_=>E) use Q (.ref D) C (.ok .next) s') :
 wpAny (model X.prog X.w) X.A (comprehension (.ListComp elt [⟨target,iter,[],0⟩] scope pos) scope X.env p (newList []) false (eval iter X.env) use) Q (EF X λ_=>E) s:=by
 have aj:=λx hx hk=>I.ok.has x.1 (B.free x hx hk)
 refine Ii (use:=use) rfl hs (Xx aj) B.kind (λx hx hl=>by rw[B.uniq x hx,hl]) (AV (hi pins s σ H _ I hw) λv s1 h1=>AV h1 λbd G h2=>?_);revert h2;refine EM λit fp tn J H2=>GH λaz I2 T aD f2 h2=>?_;subst az;have I2:=I2.ß;refine C3 ?_;have I3:AF X pins σ (upd H2 G.heap.objs.size (.lst [])) { G with heap:=G.heap.push { cls:=.type "list",data:=.seq ([]:List Value).toArray } }:=I2.vR (t':=G.toks) .nil (Bj _);obtain⟨W,⟨m0,w0⟩,aI⟩:=h2 G.heap.objs.size I2.fresh;have Z:∀b∈fp,DH X pins (upd H2 G.heap.objs.size (.lst [])) b/\b<(G.heap.push { cls:=.type "list",data:=.seq ([]:List Value).toArray }).objs.size:=λb hb=>by
  refine DQ (T.obj _ _ aD b hb) λo=>BW λe _=>?_;have aP:=Am e;obtain⟨f0,fr⟩:=f2 b hb;refine⟨⟨by rw[BE (B8 aP)];exact f0,fr⟩,?_⟩
  grind[Heap.size_push,Nat.lt_succ_of_lt]
 generalize aK:({ G with heap:=G.heap.push { cls:=.type "list",data:=.seq ([]:List Value).toArray } }:Shared)=F at I3;have aH:G.heap.push { cls:=.type "list",data:=.seq ([]:List Value).toArray }=F.heap:=by rw[<-aK]
 rw[aH]at Z
 refine XA ?_;have I4:=XB I3 B Z;have ai:tn 0 (pushCells (F.heap.push { cls:=.type "dict",data:=.dict #[] }) scope.names):=T.keep _ _ _ aD λb hb o e=>G4 _ _ b o (A7 _ (by rw[<-aH];exact A7 _ e))
 have a8:=λb hb=>(Z b hb).1.1
 generalize aZ:({ F with heap:=pushCells (F.heap.push { cls:=.type "dict",data:=.dict #[] }) scope.names }:Shared)=s4 at I4;have a0:pushCells (F.heap.push { cls:=.type "dict",data:=.dict #[] }) scope.names=s4.heap:=by rw[<-aZ]
 rw[a0]at ai
 have l3:=I3.lt;have up:∀{Y:St}{H':Hp}{s':Shared},AF (FE X N' scope F G.heap.objs.size H2 fp) [] Y H' s'->AF X pins σ H' s':=λ{Y H' s'} I6=>I3.vD I6.os I6.base I6.Í I6.bare λb hb=>by
  obtain⟨⟨_,f1,_,f3,f4,f5⟩,_⟩:=Z b hb;exact BP f3 f1 f4 f5
 have g1:∀x c,X.env.cells.lookup x=some c->c≠F.heap.objs.size:=λx c e z=>by
  obtain⟨v,hv⟩:=I3.cell x c e;have:=hv.lt;rw[z]at this
  exact Ce _ this
 have g2:∀p∈X.pn++pins,p.1≠F.heap.objs.size:=λp hp z=>by
  have:=Am (I3.pin p hp).1;rw[z]at this
  exact Ce _ this
 have af:∀ev s',EF (FE X N' scope F G.heap.objs.size H2 fp) (λ_=>E) ev s'->notedBy (model X.prog X.w) X.A (Ri scope X.env F.heap.objs.size (cellsFrom (F.heap.objs.size+1) scope.names (JF X.env scope.names []))) (λx aQ=>compPost (model X.prog X.w) X.A (EF X λ_=>E) use Q (.ref G.heap.objs.size) F.heap.objs.size (.error x) aQ) ev s':=by
  refine λev s'=>EM λe cls dx Y H'=>ES λL'=>GH λaE a2 IY ef hx hE=>?_;subst aE;have a4:=Av (a2.symm.trans hL);subst a4;have aq:∀b,KS (FE X N' scope F G.heap.objs.size H2 fp) H' b->KS X H' b:=λb hb=>⟨Bk I3.sz hb.1,hb.2.1,I3.vS hb.1⟩
  have hA:X.A.frames=some (X.env::X.outer):=by rw[<-ak];exact I3.ok.frames
  have hl:s'.heap.FunFrames X.base (X.env::X.outer):=by rw[<-ak];exact IY.stack
  show wpAny _ _ (noteFrame (.ref e) _) _ _ s';rw[mu (env:=X.env) (env':=Ri scope X.env F.heap.objs.size (cellsFrom (F.heap.objs.size+1) scope.names (JF X.env scope.names []))) rfl];refine Yt hA hl hL (λb hb=>IY.wL hb) ef hx λh' ch hr hsz st aV=>?_;have al:=IY.exc hr (by show Qj (Kw X.stack) ch s'.heap h';rw[ak];exact st);refine DQ al.loc λm=>BW λhn _=>?_;refine PM (id hn) λoc es ep=>FN λa5 aw _=>?_;refine AX m (CC hn (λac sb aC _=>?_));have aU:AF X [] σ H' { s' with heap:=ac }:=AF.Ŧ ((up al).turned (h':=ac) (t':=s'.toks) (λb o hb e=>(sb.2 b hb).trans e) al.free (Co l3) (.inr I3.sz) g1 g2);obtain⟨oe,vs,hd,ho,aR,aT,an,h1,T',oT,ts,rfl,a9,a1,hT,ay,h3⟩:=aV;have ax:∀{b:Addr}{o:Obj}{fs:Array Value},h'.get? b=some o->o.data=.fields fs->b≠F.heap.objs.size:=λ{b o fs} q1 q2 z=>by
   rw[z]at q1
   have q3:=a5.symm.trans q1;cases q3;rw[q2]at aw
   cases aw
  have aB:=(sb.2 e (ax ho an)).trans ho;have aL:=(sb.2 T' (ax hT ay)).trans hT;have aJ:KQ (GN (KS X H') e (rawInt L')) ac e cls dx:=⟨oe,vs,_,aB,aR,aT,an,h1,T',oT,ts,rfl,aq T' a9,a1,aL,ay,h3⟩
  unfold PySem.passOn;refine A6 (Bz (s:={ s' with heap:=ac }) aB an h1.1 ?_);rw[As (show ¬((Value.ref T'==Value.none)=true)from by simp)];exact A6 (Rz (X:=X) (s:={ s' with heap:=ac }) (fr:=aC.frame) aU (aq e ef) aJ λbc aM aO=>wpAny_throw ⟨e,cls,dx,σ,H',L',rfl,hL,aM,aq e ef,aO.mono λhd t=>.inr ⟨_,t⟩,hE⟩)
 have aa:∀{H':Hp}{aG:List (Addr×Obj)},aG=[]->(∀b∈fp,H' b=none)->∀b∈fp,DH (FE X N' scope F G.heap.objs.size H2 fp) aG H' b:=λhp hn b hb=>by
  obtain⟨x1,x2⟩:=I4.ok.x8 b hb;exact GS (hn b hb) x1 (I4.ok.ŵ b hb) (.inl hb) x2 (λp av=>by rw[hp]at av;exact absurd (show p∈([]:List (Addr×Obj))from av) (by simp))
 have ah:∀ar:Value,ar=.ref it->codeAny (model X.prog X.w) X.A (.compLoop (.ListComp elt [⟨target,iter,[],0⟩] scope pos) 0 ar (.ref G.heap.objs.size) (Ri scope X.env F.heap.objs.size (cellsFrom (F.heap.objs.size+1) scope.names (JF X.env scope.names []))))
  (compPost (model X.prog X.w) X.A (EF X λ_=>E) use Q (.ref G.heap.objs.size) F.heap.objs.size) s4:=by
  rintro ar rfl;refine mv (λn s'=>∃i Y H',AF (FE X N' scope F G.heap.objs.size H2 fp) [] Y H' s'/\tn i s'.heap/\(∀b∈fp,H' b=none)/\W i n Y H') (EF (FE X N' scope F G.heap.objs.size H2 fp) λ_=>E) ?_ af m0 ⟨0,_,_,I4,ai,a8,w0⟩;refine λn s5=>FT λi ae H5=>DP λI5 au aA w5=>?_;rcases aI i n ae H5 w5 with⟨stop,q⟩|⟨go,step⟩
  .refine AV (T.done (FE X N' scope F G.heap.objs.size H2 fp) rfl rfl rfl ad i [] s5 ae H5 (λ_ _=>False) I5 (aa rfl aA) au stop) λr s6 a3=>?_;obtain⟨hr,I6⟩:=a3;subst hr;refine DQ I6.loc λm=>BW λhn _=>?_;exact hpost _ H5 s6 _ m (up I6) hn I6.free (Co l3) I3.sz g1 g2 q
  .refine AV (T.item (FE X N' scope F G.heap.objs.size H2 fp) rfl rfl rfl ad i [] s5 ae H5 (λ_ _=>False) I5 (aa rfl aA) au go) λr s6=>ES λu=>BW λhr h6=>?_;subst hr;refine AV h6 λ_ s7=>FO λx H7=>FL λI7 r7 y7 am aS=>?_;refine AV (hg _ _ _ _ _ _ s7 ae H7 x u _ (I7.pinned (aa rfl aS) (T.obj _ _ am)) r7 (step x H7 y7)) λ_ s8 ⟨ap,H8,I8,q8⟩=>AV (HH (X:=FE X N' scope F G.heap.objs.size H2 fp) _ s8 ap H8 _ I8 q8) λb s9=>ES λH9=>BW λI9 q9=>?_;have again:∀{Y:St}{H':Hp}{s':Shared},AF (FE X N' scope F G.heap.objs.size H2 fp) ([]++PQ fp s7.heap) Y H' s' ->
    (∃m',m'<n/\W (i+1) m' Y H')->∃m,m<n/\∃i ag ao,AF (FE X N' scope F G.heap.objs.size H2 fp) [] ag ao s'/\tn i s'.heap/\(∀b∈fp,ao b=none)/\W i m ag ao:=λ{Y H' s'} I' ⟨m',hm,w'⟩=>by
    refine⟨m',hm,i+1,Y,H',I'.ĭ,T.keep _ _ _ am λb hb o e=>(I'.pin (b,o) (Bg _ (Bg _ (PR hb e)))).1,λb hb=>?_,w'⟩;refine DQ (T.obj _ _ am b hb) λo=>BW λe d=>?_;exact(I'.pin (b,o) (Bg _ (Bg _ (PR hb e)))).2.1
   cases b with
   | false =>
     rw[As Ay]at q9⊢
     exact again I9 q9
   | true =>
     rw[Au rfl]at q9⊢
     refine AV (he _ _ _ _ _ _ s9 ap H9 _ (I9.Ü _) q9) λy aN ⟨vy,aF,aW,aX,ys,aY,hz,a'⟩=>AV (IB _ aN ap aF (.ref G.heap.objs.size) [vy] (.ref G.heap.objs.size) [y] (λ_ H'=>H'=upd aF G.heap.objs.size (.lst (ys++[vy]))) aW.ß rfl (.cons aX .nil) ⟨_,ys,vy,rfl,rfl,aY,hz,rfl⟩) λ_ bb=>FO λ_ ba=>FN λa7 _ a6=>?_;subst a6;exact again a7 a'
 exact codeAny_compStart_list (ah _ rfl) (T.self _ 0 s4 _ _ ai (ah _ rfl))
def Zm(hL:X.env.frame=some L)(G:X.stack=X.env::X.outer)(hN:X.N.Nodup)(hx:X.N[i]?=some x)(hl:MT X.env.scope x)(hcalm:X.calm=true)(hi:PI (X.Ü (EF X λ_=>E)) target iter wi)(B:DL X N' scope ms k)(hg:∀C cells Ã H₀ ex,PG (GL X N' scope C cells Ã H₀ ex) target g)(he:∀C cells Ã H₀ ex,PE ((GL X N' scope C cells Ã H₀ ex).Ü (EF (GL X N' scope C cells Ã H₀ ex) λ_=>E)) elt te)(hsw:swapsWith (.ListComp elt [⟨target,iter,[],0⟩] scope pos) (some (.Name x px)) spos.line X.env=pure true:=by rfl)(hs:∀x,foldedSetIterable iter X.env x=pure x:=by intro _;rfl)(hf:X.fn x=true\/X.env.scope.names.lookup x=some .local:=by first|exact .inl rfl|exact .inr rfl|assumption) :
 PS (X.Ü (EF X λ_=>E)) (.Assign [.Name x px] (.ListComp elt [⟨target,iter,[],0⟩] scope pos) spos) (Lm (IF wi g V0 te ms k) (Nf i)):=by
 intro pins s σ H D I h;rw[exec_Assign_Name_used _ _ _ _ hsw];refine A6 (Cm (A6 ?_));show wpAny _ X.A (do let _ <- comprehension (.ListComp elt [⟨target,iter,[],0⟩] scope pos) scope X.env _ (newList []) false (eval iter X.env) (some (assign (.Name x px) X.env))) _ _ s;refine A6 (Bv (mw (X:=X) (E:=E) (L:=L) (use:=some (assign (.Name x px) X.env)) (Q:=λ_ s'=>∃F H',AF X pins F H' s'/\D.nx F H') hL G hcalm hi B hg he hs I h λDa H' s' C m J hn f0 f1 f3 f4 f5 q=>?_)
  (λ_ s' ⟨F,H',J,q⟩=>Ab (Ab ⟨F,H',J.Ü _,q⟩)) λ_ _ e=>e)
 show wpAny _ X.A (assign (.Name x px) X.env (.ref Da)) _ _ s';refine Hv (Um J hN hx hl (v:=.ref Da) rfl (λW aa ⟨b,sb,hb⟩=>?_) hf);have Z:C≠b:=by
  grind
 refine⟨m,hn.sameBut sb Z,λh' Y=>⟨_,H',aa.turned (t':=W.toks) (λb o hb e=>(Y.2 b hb).trans e) f0 f1 (.inr f3) f4 f5,q⟩⟩
end
end L2
namespace Hd
open PySem PySem.W PyProof.Rows L2
noncomputable section
abbrev qr(n:Nat):Value:=.ref n
abbrev qi(n:Nat):Value:=.int (Int.ofNat n) 0
abbrev qs(x:String)(t:Nat):Value:=.str (Str.ofString x) t
abbrev qt(x:String):Value:=.type x
abbrev qb(x:String):Value:=.builtin x
abbrev qe(P:Params)(x:String)(t:Nat)(v:Value):DictEntry:=⟨PyData.keyHash P (Str.ofString x),.str (Str.ofString x) t,v⟩
abbrev qF(x y:String)(st:Stmt)(dV kV doc pm:Value)(F:Option Addr)(cd ct:Value):Data:=.func (fnOf (Str.ofString x) (Str.ofString y) (JD st) (IS st) (FV st) dV kV doc pm F cd ct)
abbrev qG(g b:Addr)(x y:String)(st:Stmt)(dV kV doc pm:Value)(F:Option Addr)(cd ct:Value):Data:=.func { name:=Str.ofString x,qualname:=Str.ofString y,params:=JD st,body:=.stmts (IS st),scope:=FV st,globals:=g,closure:=[],defaults:=dV,kwdefaults:=kV,doc,pyModule:=pm,annotations:=F,code:=cd,closureTuple:=ct,builtins:=b }
abbrev qT(l:List Value):Obj:=⟨.type "tuple",.none,.seq l.toArray 0,#[]⟩
abbrev qN(l:List Value):Obj:=⟨.none,.none,.fields l.toArray,#[]⟩
abbrev qf(x y:String)(st:Stmt)(pm cd:Value):Obj:=⟨.type "function",.none,qF x y st .none .none .none pm .none cd .none,#[]⟩
abbrev qg(x y:String)(st:Stmt):Obj:=⟨.none,.none,qG 0 0 x y st .none .none .none .none .none .none .none,#[]⟩
noncomputable abbrev qC (x y:String) (t l a b d f I:Nat) (g:Bool) (F:Nat) (Y J W Z:Value) (k G:Nat):Obj:=⟨.type "code",.none,.fields #[qs x t,qs y (t+1),qs "/claim/cut.py" (t+2),qi l,qi a,qi b,qi d,qi f,qr I,.bool g,qi 181,qr F,Y,J,W,Z,qi k,qi l,qs "/claim/cut.py" G],#[]⟩
structure HD where
 N:Nat
 n1:Nat
 n2:Nat
 n3:Nat
 n4:Nat
 d1:Drawn
 k1:Nat
 d2:Drawn
 k2:Nat
 d3:Drawn
 k3:Nat
 many:Nat
 ő:Nat
 fp:Pos
 p1:Pos
 p2:Pos
 p3:Pos
 cd:Value
 fr:Nat
 ann:Option Value
def Zn:List Obj->List Obj×List Obj
 | []=>([],[])
 | a::l=>let r:=Zn l;(a::r.2,r.1)
def NH:Nat->List Obj->BT
 | 0,_=>.nil
 | n+1,l=>match l with
   | []=>.nil
   | a::l=>let r:=Zn l;.node a (NH n r.1) (NH n r.2)
abbrev Lx(p:Program)(D:HD):Env:={ scope:=p.main.scope,locals:=mainNs,globals:=mainNs,cells:=[],code:=D.cd,frame:=some D.fr }
abbrev Lg(p:Program)(D:HD):Code:=.body (behindTheImports p) (Lx p D)
abbrev S0(w:World)(os:OsState):Shared:=⟨boot_heap w.params,Array.mk [],boot_drawn,boot_toks,os⟩
abbrev SA(D:HD)(L:Life)(A:Params->List Obj)(w:World)(os:OsState):Shared:=⟨⟨⟨A w.params⟩,L⟩,Array.mk [],D.d1,D.k1,os⟩
abbrev SB(D:HD)(L:Life)(A:Params->List Obj)(w:World)(os:OsState):SharedT:=⟨NH 12 (A w.params),D.ő,L,Array.mk [],D.d2,D.k2,os⟩
abbrev SC(D:HD)(L:Life)(O:Params->List Obj)(w:World)(os:OsState):SharedT:=⟨NH 12 (O w.params),D.many,L,Array.mk [],D.d3,D.k3,os⟩
abbrev SF(D:HD)(L:Life)(O:Params->List Obj)(w:World)(os:OsState):Shared:=⟨⟨⟨O w.params⟩,L⟩,Array.mk [],D.d3,D.k3,os⟩
abbrev Qw:=PySem.W.Fast.tw14364793385576792824
abbrev VM(p:Program)(D:HD)(L:Life)(A:Params->List Obj):Prop:=∀(w:World) (os:OsState),PySem.W.Fast.tw15667345088766844465 Qw p w 11 D.ann D.n1 (S0 w os) (topStub p) =
 some (SA D L A w os,⟨PySem.W.Fast.tw11892475500146522536 Qw (Lg p D),Lg p D,D.p1,[topFrame D.fp]⟩)
abbrev VN(p:Program)(D:HD)(L:Life)(A:Params->List Obj):Prop:=∀(w:World) (os:OsState),PySem.W.Fast.tw14374325043358763698 Qw p w 11 D.ann 1 (D.n2+1) (SA D L A w os) (blockOf (behindTheImports p) (Lx p D) (Lg p D) D.p1 [topFrame D.fp]) =
 some (.next,(SB D L A w os).abs,Lg p D,D.p2)
abbrev Go(p:Program)(D:HD)(L:Life)(A O:Params->List Obj):Prop:=∀(w:World) (os:OsState),PySem.W.Fast.tw10110043849684766642 Qw p w 11 D.ann 1 (D.n3+1) (SB D L A w os) (piecesOf (behindTheImports p) (Lx p D) (Lg p D) D.p2 [topFrame D.fp]) =
 some (.next,SC D L O w os,Lg p D,D.p3)
abbrev Fin(p:Program)(D:HD)(L:Life)(O:Params->List Obj):Prop:=∀(w:World) (os:OsState),PySem.W.Fast.tw14082659384304107361 Qw p w 11 D.ann (D.n4+1) (SC D L O w os).abs ⟨doneF .next,Lg p D,D.p3,[topFrame D.fp]⟩=some (SF D L O w os)
def Tq:treeTable=Qw:=PySem.W.Fast.te14364793385576792824
def mx{p:Program}{D:HD}{L:Life}{A O:Params->List Obj}(h1:VM p D L A)(h2:VN p D L A)(Y:Go p D L A O)(I:Fin p D L O)(w:World)(os:OsState) :
 topRun treeTable p w 11 D.ann (D.n1+((D.n2+1)+((D.n3+1)+(D.n4+1)))) (S0 w os) (topStub p)=some (SF D L O w os):=by
 have F:topGo treeTable p w 11 D.ann D.n1 (S0 w os) (topStub p)=some (SA D L A w os,⟨denote treeTable (Lg p D),Lg p D,D.p1,[topFrame D.fp]⟩):=by
  rw[PySem.W.Fast.te15667345088766844465,PySem.W.Fast.te11892475500146522536,Tq];exact h1 w os
 have Z:segRun treeTable p w 11 D.ann 1 (D.n2+1) (SA D L A w os) (blockOf (behindTheImports p) (Lx p D) (Lg p D) D.p1 [topFrame D.fp])=some (.next,(SB D L A w os).abs,Lg p D,D.p2):=by
  rw[PySem.W.Fast.te14374325043358763698,Tq];exact h2 w os
 have G:segRunT treeTable p w 11 D.ann 1 (D.n3+1) (SB D L A w os) (piecesOf (behindTheImports p) (Lx p D) (Lg p D) D.p2 [topFrame D.fp])=some (.next,SC D L O w os,Lg p D,D.p3):=by
  rw[PySem.W.Fast.te10110043849684766642,Tq];exact Y w os
 have J:topRun treeTable p w 11 D.ann (D.n4+1) (SC D L O w os).abs ⟨doneF .next,Lg p D,D.p3,[topFrame D.fp]⟩=some (SF D L O w os):=by
  rw[PySem.W.Fast.te14082659384304107361,Tq];exact I w os
 refine go_top F (piece_block Z ?_);have:=piece_app (rest:=[]) (segRun_of G) (piece_nil (env:=Lx p D) J);rw[Be]at this
 exact this
abbrev HF(L:Life)(O:Params->List Obj)(w:World):Heap:=⟨⟨O w.params⟩,L⟩
abbrev P8:=PySem.W.Fast.tw5923862056798008813
def my:importedModules=P8:=PySem.W.Fast.te5923862056798008813
abbrev Zo(p:Program)(D:HD)(L:Life)(O:Params->List Obj):Prop:=∀(w:World) (os:OsState),
 (staticsOk (P8 p.main.body) (boot_heap w.params) (HF L O w)&&namesBound p (HF L O w)&&gensDone (SF D L O w os)&&laidKept (boot_heap w.params) (HF L O w))=true
abbrev VO(p q:Program)(D:HD)(L:Life)(O:Params->List Obj)(F:Shared->Bool):Prop:=∀(w:World) (os:OsState),
 PySem.W.Fast.tw4187177175401517315 q [] (P8 p.main.body) F true (SF D L O w os)=openGood q []
abbrev Zp(D:HD)(L:Life)(O:Params->List Obj)(K:Params->Frag)(as:List Addr):Prop:=∀(w:World) (os:OsState),
 as.map (SF D L O w os).heap.get?=(K w.params).map λx=>some x.2
def mz(w:World)(D:HD)(F:D.ann=some (.ref 6)):((boot_heap w.params).isNs mainGlobals&&(Array.mk []:Array GenState).size==0,(boot_heap w.params).objs.size,(boot_heap w.params).nsMap mainGlobals "__annotations__")=(true,11,D.ann):=by
 rw[F];kernel_rfl
def mB{p q:Program}{D:HD}{L:Life}{A O:Params->List Obj}{G:Shared->Bool}{K:Params->Frag}{as:List Addr}{N:Nat}{e:∀P,as=(K P).map (·.1)}
 (h0:opening p=plainProg p.main.scope.names) (h0':∀s,fenceModules? p s=some s) (h6:Nat.ble 600 N=true) (ha:D.ann=some (.ref 6)) (hn:Nat.ble (D.n1+((D.n2+1)+((D.n3+1)+(D.n4+1)))) N=true)
 (h1:VM p D L A) (h2:VN p D L A) (h3:Go p D L A O) (h4:Fin p D L O) (l1:Zo p D L O) (l2:VO p q D L O G) (l3:Zp D L O K as) :
 LeftO p q [] G (Hook.obs (kHook K as e)) (Hook.val (kHook K as e)) N :=
 LeftO.of_pieces (H₀:=boot_heap) (H₁:=λP=>⟨⟨O P⟩,L⟩) (gs₀:=Array.mk []) (gs₁:=Array.mk []) (d₁:=D.d3) (k₁:=D.k3) (m₀:=11) (ann:=D.ann) (boot_open h0 h6 h0') (λw=>mz w D ha) (mx h1 h2 h3 h4) hn λw=>funext λos=>by
  have I:=l1 w os;have F:=l2 w os;rw[<-my]at I F
  rw[<-PySem.W.Fast.te4187177175401517315]at F
  exact looks_pair I (looks_pair F (l3 w os))
abbrev Zq:=PySem.W.Fast.tw9446332074065402090
abbrev mC(s:Stmt):Pos:=match s with
 | .FunctionDef _ _ _ _ _ _ _ _ _ p=>p
 | _=>⟨0,0,0,0⟩
abbrev VP(x:String)(s:Stmt):DefRec:=⟨Str.ofString x,JD s,IS s,FV s,mC s⟩
abbrev Qx(l:OpenLaw)(q:Program):Shared->Bool:=λs=>xlAt q [] s&&recOk (RowW.records l.row.toRowW) s
def holds{l:OpenLaw}{q:Program}{K:Params->Frag}{as:List Addr}{e:∀P,as=(K P).map (·.1)}{N:Nat}{x:String}{st:Stmt}(F:Zq l=true)
 (left:LeftO l.row.prog q [] (Qx l q) (Hook.obs (kHook K as e)) (Hook.val (kHook K as e)) N) (hdef:defOf q l.row.name=some (VP x st,[]))
 (hp:l.row.prog.theDef l.row.name=some (JD st,IS st,FV st)) (hk:kwWritten? (JD st).kwonlyargs (JD st).kw_defaults=some []) (hwr:(!l.row.writes||l.row.records.isEmpty)=true)
 (ok:(chainsOk q&&opensWell l.row.prog&&(frees l.row.toRowW&&l.row.within.isEmpty))=true) (hb:l.row.prog.bare) (hw:l.row.toRowW.promised)
 (call:WalkO q [] (XL q []) (Hook.says (kHook K as e)) l.row.toRowW (VP x st) [] λf vs=>PySem.call f vs):l.Holds :=
 have F:l.wellSaid=true:=(congrFun PySem.W.Fast.te9446332074065402090 l).trans F
 holds_law F λrs=>holds_open (d:=VP x st) (kwd:=[]) left (Hook.of _) (Hook.keeps _) (λs z=>xl_of s (Ct.mp z).1) XL.keeps hdef hp hk (λs z=>recFacts_of (Ct.mp z).2) hwr rs ok hb hw call
end
end Hd
namespace Mc
open PySem L2
def mD(O:Tf c)(hm:∀r∈c.rs,MZ c (r.s,r.t))(hs:((My c.rs).map List.length).sum<=2000):Ok c (start c.rs):=by
 refine⟨O,?_,λl G x F=>?_,(λx F=>nomatch F),(λx F=>nomatch F),(λx F=>nomatch F),Bj _,λ_=>rfl,?_,Aa _,(λx F=>nomatch F),λz=>absurd rfl z⟩
 .show(My c.rs).length=c.rs.length;unfold My;rw[A8]
 .obtain⟨r,I,rfl⟩:=Cq.mp G;rw[Ex F];exact hm r I
 .show((My c.rs).map List.length).sum+0+0+0<=2000+0
  lia
end Mc
namespace L2
open PySem PySem.Spec PyProof.Rows
section
variable {X:Cx}(K:Frag) (hK:X.K=K)
include hK
end
open PySem.W PySem.Calls
def mE(C:Addr)(sp:Sp)(dvs:List V)(E:St->XK)(t:TA):TE:=λσ H Q=>t σ H λvs H1=>∀x dx,H1 x=none->H1 dx=none->dx≠x->sp (.ref x::(vs++dvs)) (upd (upd H1 dx (.own x)) x (.ins C dx [])) (λv H2=>v=.non/\Q (.ref x) H2) (E σ)
section
variable {X:Cx}{k j:Nat}{C f L:Addr}{fd:FuncData}{ps:List Str}{sp:Sp}{E:St->XK}{x qual:Str}{st:Stmt}{p pos:Pos}{e:Expr}{es:List Expr}{t:TA}{ds:List Value}{dvs:List V}
def mF(hL:X.env.frame=some L)(M:Mk X.K C f)(F:AG X.prog X.w X.K X.mg X.base (DG X.prog X.w) k f fd ps sp)(hr:BO (k+1) X.A)(hb:Kl X.K fd ps ds)(hd:AM dvs ds)(I:AF (X.Ü (EF X E)) pins σ H s)(r:AM vs us)(h:∀x dx,H x=none->H dx=none->dx≠x->sp (.ref x::(vs++dvs)) (upd (upd H dx (.own x)) x (.ins C dx [])) (λv H2=>v=.non/\Q (.ref x) H2) (E σ)) :
 wpAny (model X.prog X.w) X.A (call (.ref C) us) (EP (X.Ü (EF X E)) pins σ Q) (EF X E) s:=by
 have hq:=h (s.heap.objs.size+1) s.heap.objs.size (I.Í.fresh (Dt _)) (I.Í.fresh (Aa _)) (B8 (Fs _));have Y:=AF.made (C:=C) I;have Z:AM (V.ref (s.heap.objs.size+1)::(vs++dvs)) (Value.ref (s.heap.objs.size+1)::(us++ds)):=.cons rfl (r.append hd);have hl:(Value.ref (s.heap.objs.size+1)::us++ds).length=ps.length:=by
  have e:=Z.length;rw[F.len _ _ _ _ hq]at e
  exact e.symm
 refine Dl (X5 (f:=f) I.Ĝ M.makes M.init (Bp.mp M.fn) (De (F.run _ X.stack _ _ ⟨Value.ref (s.heap.objs.size+1)::us,[]⟩ (Value.ref (s.heap.objs.size+1)::(us++ds)) _ _ (E σ) (hr.make C us [])
  (Y.wI.make C us []) (hb _ (Value.ref (s.heap.objs.size+1)::us) Y.Ĝ hl) Z hq) λr s' G=>?_))
 cases r with
 | error ev =>
   have G:=G;obtain⟨e,cls,dx,H',rfl,os,bare,un,Í,⟨h1,h2⟩,hx,hE⟩:=G;have W:=Y.ß;have I1:AF X pins σ H' s':=W.vD (ch:=[]) os un Í bare λb z=>absurd z (by simp)
   exact DC e cls dx σ H' (AX L (GS rfl hL I1.Ŧ ⟨Bk W.sz h1,h2,W.vS h1⟩ (hx.mono λhd t=>.inr ⟨_,t.mono λb hb=>⟨Bk W.sz hb.1,hb.2,W.vS hb.1⟩⟩) hE))
 | ok fl =>
   cases fl with
   | ret u =>
     refine On (Y.after G) λv H'=>DP λI3 rv J q3=>?_;subst J;exact⟨rv,⟨V.ref (s.heap.objs.size+1),H',I3,rfl,q3⟩⟩
   | next=>exact False.elim G
   | brk=>exact False.elim G
   | cont=>exact False.elim G
end
def MC(K:Frag)(x:Str):Addr:=match nsIn K mainGlobals x with
 | some (some (.ref f))=>f
 | _=>0
def LQ(K:Frag)(C:Addr)(x:Str):Addr:=match findIn K (.ref C) x with
 | some (some (.ref f))=>f
 | _=>0
noncomputable def GF (K:Frag) (f:Addr) (x q:Str) (s:Stmt) (dV:Value):FuncData:=match K.lookup f with
 | some ⟨_,_,.func d,_⟩=>fnOf x q (JD s) (IS s) (FV s) dV d.kwdefaults d.doc d.pyModule d.annotations d.code d.closureTuple
 | _=>fnOf x q (JD s) (IS s) (FV s) dV .none .none .none none .none .none
def NI(K:Frag)(f:Addr)(d:FuncData):Option Obj:=(K.lookup f).map λo=>⟨o.cls,o.dict,.func d,o.slots⟩
abbrev TR:=Str×Stmt×List Str
def Zr(K:Frag)(r:TR):Bool:=(nsIn K mainGlobals r.1==some (some (.ref (MC K r.1))))&&codeIn K (GF K (MC K r.1) r.1 r.1 r.2.1 .none).code r.1&&keepIn K (.ref (MC K r.1))
def Zs(K:Frag)(t:List TR):Prop:=(t.map λr=>K.lookup (MC K r.1))=t.map λr=>NI K (MC K r.1) (GF K (MC K r.1) r.1 r.1 r.2.1 .none)
def BA(x q:Str)(s:Stmt)(ps:List Str):Prop:=∀(kV doc pm:Value) (G:Option Addr) (F ct:Value) (us:List Value),us.length=ps.length->bindArgs (fnOf x q (JD s) (IS s) (FV s) .none kV doc pm G F ct) ⟨us,[]⟩=pure (ps.zip us)
def Tr:List TR->Prop
 | []=>True
 | r::t=>BA r.1 r.1 r.2.1 r.2.2/\Tr t
theorem Zt:∀{t:List TR}{i:Nat}{x:Str}{s:Stmt}{ps:List Str},Tr t->t[i]?=some (x,s,ps)->BA x x s ps
 | _::_,0,_,_,_,h,e=>by cases e;exact h.1
 | _::_,i+1,_,_,_,h,e=>Zt (i:=i) h.2 e
def Qy{K:Frag}{f:Addr}{x q:Str}{s:Stmt}{dV:Value}:∃kV doc pm G F ct,GF K f x q s dV=fnOf x q (JD s) (IS s) (FV s) dV kV doc pm G F ct:=by
 unfold GF;split<;>exact⟨_,_,_,_,_,_,rfl⟩
def VQ{K:Frag}{f:Addr}(h:keepIn K (.ref f)=true):∃o,K.lookup f=some o:=by
 unfold keepIn at h
 grind
def P9{K:Frag}{f:Addr}{x q:Str}{s:Stmt}(e:K.lookup f=NI K f (GF K f x q s .none))(c:codeIn K (GF K f x q s .none).code q=true)(k:keepIn K (.ref f)=true):O0 K x q s f (GF K f x q s .none):=by
 obtain⟨o,G⟩:=VQ k;obtain⟨kV,doc,pm,I,F,ct,hd⟩:=Qy (K:=K) (f:=f) (x:=x) (q:=q) (s:=s) (dV:=.none);unfold NI at e;rw[G]at e
 rw[hd]at e c⊢
 exact⟨⟨_,_,kV,doc,pm,I,F,ct,_,rfl,G.trans e,c⟩,k⟩
theorem VR{α β:Type}{f g:α->β}:∀{l:List α}{i:Nat}{x:α},l.map f=l.map g->l[i]?=some x->f x=g x
 | _::_,0,_,h,e=>by cases e;exact(Cg h).1
 | _::_,i+1,_,h,e=>VR (i:=i) (Cg h).2 e
def Ts{α:Type}{f:α->Bool}{l:List α}{i:Nat}{x:α}(h:l.all f=true)(e:l[i]?=some x):f x=true:=Bf.mp h x (Af e)
section
variable {K:Frag}{h:Heap}{mg:Str->Option Value}
def Tt(K:Frag)(t:List TR)(i:Nat):Addr:=match t[i]? with
 | some r=>MC K r.1
 | none=>0
def Tu(K:Frag)(t:List TR)(i:Nat):FuncData:=match t[i]? with
 | some r=>GF K (MC K r.1) r.1 r.1 r.2.1 .none
 | none=>GF K 0 "" "" (.Pass ⟨0,0,0,0⟩) .none
def mG{t:List TR}(X:K.In h)(G:h.Ns mainGlobals mg)(c:t.all (Zr K)=true)(e:Zs K t)(b:Tr t)(i:Nat)(x:Str)(s:Stmt)(ps:List Str)(hi:t[i]?=some (x,s,ps)) :
 D K mg x s ps (Tt K t i) (Tu K t i):=by
 have hA:Tt K t i=MC K x:=by unfold Tt;rw[hi]
 have hD:Tu K t i=GF K (MC K x) x x s .none:=by unfold Tu;rw[hi]
 rw[hA,hD];have c:=Ts c hi;unfold Zr at c;rw[Ae,Ae]at c
 obtain⟨⟨I,J⟩,W⟩:=c;obtain⟨kV,doc,pm,Y,F,ct,hd⟩:=Qy (K:=K) (f:=MC K x) (x:=x) (q:=x) (s:=s) (dV:=.none);refine⟨P9 (VR e hi) J W,?_,mg_of X G (Bp.mp I)⟩;rw[hd];exact(Zt b hi) kV doc pm Y F ct
abbrev MR:=Str×Str×Stmt×List Str
def Zu(K:Frag)(C:Addr)(r:MR):Bool:=(findIn K (.ref C) r.1==some (some (.ref (LQ K C r.1))))&&codeIn K (GF K (LQ K C r.1) r.1 r.2.1 r.2.2.1 .none).code r.2.1&&keepIn K (.ref (LQ K C r.1))&&isFn K (.ref (LQ K C r.1))
def VS(K:Frag)(C:Addr)(t:List MR):Prop:=(t.map λr=>K.lookup (LQ K C r.1))=t.map λr=>NI K (LQ K C r.1) (GF K (LQ K C r.1) r.1 r.2.1 r.2.2.1 .none)
def RR:List MR->Prop
 | []=>True
 | r::t=>BA r.1 r.2.1 r.2.2.1 r.2.2.2/\RR t
theorem Zv:∀{t:List MR}{i:Nat}{x q:Str}{s:Stmt}{ps:List Str},RR t->t[i]?=some (x,q,s,ps)->BA x q s ps
 | _::_,0,_,_,_,_,h,e=>by cases e;exact h.1
 | _::_,i+1,_,_,_,_,h,e=>Zv (i:=i) h.2 e
def RS(K:Frag)(C:Addr)(t:List MR)(i:Nat):Addr:=match t[i]? with
 | some r=>LQ K C r.1
 | none=>0
def RT(K:Frag)(C:Addr)(t:List MR)(i:Nat):FuncData:=match t[i]? with
 | some r=>GF K (LQ K C r.1) r.1 r.2.1 r.2.2.1 .none
 | none=>GF K 0 "" "" (.Pass ⟨0,0,0,0⟩) .none
def Zw{C:Addr}{t:List MR}(c:t.all (Zu K C)=true)(e:VS K C t)(b:RR t)(i:Nat)(x q:Str)(s:Stmt)(ps:List Str)(hi:t[i]?=some (x,q,s,ps)) :
 DM K x q s ps C (RS K C t i) (RT K C t i):=by
 have hA:RS K C t i=LQ K C x:=by unfold RS;rw[hi]
 have hD:RT K C t i=GF K (LQ K C x) x q s .none:=by unfold RT;rw[hi]
 rw[hA,hD];have c:=Ts c hi;unfold Zu at c;rw[Ae,Ae,Ae]at c
 obtain⟨⟨⟨I,J⟩,G⟩,Y⟩:=c;obtain⟨kV,doc,pm,W,F,ct,hd⟩:=Qy (K:=K) (f:=LQ K C x) (x:=x) (q:=q) (s:=s) (dV:=.none);refine⟨P9 (VR e hi) J G,?_,Bp.mp I,Y,G⟩;rw[hd];exact(Zv b hi) kV doc pm W F ct
def Zx(K:Frag)(C:Addr)(x:Str):Bool:=findIn K (.ref C) x==some none
def Zy{C:Addr}{t:List Str}(c:t.all (Zx K C)=true)(i:Nat)(x:Str)(hi:t[i]?=some x):MV K C x:=by
 have e:=Ts c hi;unfold Zx at e;exact Bp.mp e
def Zz(K:Frag)(x:Str):Bool:=nsIn K mainGlobals x==some none
def mH{t:List Str}(X:K.In h)(G:h.Ns mainGlobals mg)(c:t.all (Zz K)=true)(i:Nat)(x:Str)(hi:t[i]?=some x):mg x=none:=by
 have e:=Ts c hi;unfold Zz at e;exact mg_none_of X G (Bp.mp e)
def ZA(K:Frag)(C f:Addr)(x q fld:Str)(s:Stmt):Bool:=(nsIn K mainGlobals x==some (some (.ref C)))&&IT K C (some f)&&Ny K C&&OV K C f fld&&codeIn K (GF K f "__init__" q s .none).code q&&keepIn K (.ref f)
def RU{C f:Addr}{x q fld:Str}{s:Stmt}{ps:List Str}(X:K.In h)(G:h.Ns mainGlobals mg)(c:ZA K C f x q fld s=true)(e:K.lookup f=NI K f (GF K f "__init__" q s .none))(b:BA "__init__" q s ps) :
 CI K mg x q s ps C f (GF K f "__init__" q s .none) fld:=by
 unfold ZA at c;rw[Ae,Ae,Ae,Ae,Ae]at c
 obtain⟨⟨⟨⟨⟨I,J⟩,Y⟩,c4⟩,Z⟩,c6⟩:=c;obtain⟨kV,doc,pm,an,F,ct,hd⟩:=Qy (K:=K) (f:=f) (x:="__init__") (q:=q) (s:=s) (dV:=.none);have W:=kA c4;refine⟨mg_of X G (Bp.mp I),J,YG Y,W.1,W.2,P9 e Z c6,?_⟩;rw[hd];exact b kV doc pm an F ct
def ZC(K:Frag)(C:Addr)(x:Str):Bool:=(nsIn K mainGlobals x==some (some (.ref C)))&&IT K C none&&Ny K C
def Qz(X:K.In h)(G:h.Ns mainGlobals mg)(c:ZC K C x=true):CN K mg x C:=by
 unfold ZC at c;rw[Ae,Ae]at c
 exact⟨mg_of X G (Bp.mp c.1.1),c.1.2,YG c.2⟩
def xS(h:∀kV doc pm G F ct a,bindArgs (fnOf x q (JD s) (IS s) (FV s) .none kV doc pm G F ct) ⟨[a],[]⟩=pure [(p1,a)]):BA x q s [p1]:=λ_ _ _ _ _ _=>YS (h _ _ _ _ _ _)
def xg(h:∀kV doc pm G F ct a b,bindArgs (fnOf x q (JD s) (IS s) (FV s) .none kV doc pm G F ct) ⟨[a,b],[]⟩=pure [(p1,a),(p2,b)]):BA x q s [p1,p2]:=λ_ _ _ _ _ _=>YT (h _ _ _ _ _ _)
def xM(h:∀kV doc pm G F ct a b c,bindArgs (fnOf x q (JD s) (IS s) (FV s) .none kV doc pm G F ct) ⟨[a,b,c],[]⟩=pure [(p1,a),(p2,b),(p3,c)]):BA x q s [p1,p2,p3]:=λ_ _ _ _ _ _=>YU (h _ _ _ _ _ _)
def xV(h:∀kV doc pm G F ct a b c d,bindArgs (fnOf x q (JD s) (IS s) (FV s) .none kV doc pm G F ct) ⟨[a,b,c,d],[]⟩=pure [(p1,a),(p2,b),(p3,c),(p4,d)]):BA x q s [p1,p2,p3,p4]:=λ_ _ _ _ _ _=>Vq (h _ _ _ _ _ _)
def xT(h:∀kV doc pm G F ct a b c d e,bindArgs (fnOf x q (JD s) (IS s) (FV s) .none kV doc pm G F ct) ⟨[a,b,c,d,e],[]⟩=pure [(p1,a),(p2,b),(p3,c),(p4,d),(p5,e)]):BA x q s [p1,p2,p3,p4,p5]:=λ_ _ _ _ _ _=>YV (h _ _ _ _ _ _)
end
noncomputable def ZD (K:Frag) (C f T:Addr) (x q:Str) (s:Stmt):Bool:=(nsIn K mainGlobals x==some (some (.ref C)))&&plainGet K C Str.empty&&hasDictIn K C&&plainOver K C&&(findIn K (.ref C) "__setattr__"==some (some (.builtin "object.__setattr__"))) &&
 makesIn K C&&(findIn K (.ref C) "__init__"==some (some (.ref f)))&&isFn K (.ref f)&&keepIn K (.ref C)&&codeIn K (GF K f "__init__" q s (.ref T)).code q&&keepIn K (.ref f)
def mI{K:Frag}{h:Heap}{mg:Str->Option Value}{C f T:Addr}{x q:Str}{s:Stmt}{ps:List Str}(X:K.In h)(G:h.Ns mainGlobals mg)(c:ZD K C f T x q s=true)(e:K.lookup f=NI K f (GF K f "__init__" q s (.ref T)))
 (b0:∀kV doc pm I F ct,Kl K (fnOf "__init__" q (JD s) (IS s) (FV s) (.ref T) kV doc pm I F ct) ps []) (b1:∀kV doc pm I F ct,Kl K (fnOf "__init__" q (JD s) (IS s) (FV s) (.ref T) kV doc pm I F ct) ps [.none]):DI K mg x q s ps C f (GF K f "__init__" q s (.ref T)):=by
 unfold ZD at c;simp only[Ae]at c;obtain⟨⟨⟨⟨⟨⟨⟨⟨⟨⟨c1,c2⟩,c3⟩,c4⟩,c5⟩,c6⟩,Z⟩,W⟩,Y⟩,d1⟩,d2⟩:=c;obtain⟨o,J⟩:=VQ d2;obtain⟨kV,doc,pm,I,F,ct,hd⟩:=Qy (K:=K) (f:=f) (x:="__init__") (q:=q) (s:=s) (dV:=.ref T);refine⟨mg_of X G (Bp.mp c1),⟨c2,c3,c4,Bp.mp c5⟩,⟨c6,Bp.mp Z,W,Y⟩,?_,by rw[hd];exact b0 kV doc pm I F ct,by rw[hd];exact b1 kV doc pm I F ct⟩;unfold NI at e;rw[J]at e
 rw[hd]at e d1⊢
 exact⟨⟨_,_,_,kV,doc,pm,I,F,ct,_,rfl,J.trans e,d1⟩,d2⟩
end L2
namespace Hd
open PySem PySem.W PyProof.Rows
noncomputable section
abbrev qP:Obj:=⟨qt "builtin_function_or_method",.none,.fields #[qb "type.__prepare__",qt "type"],#[]⟩
abbrev qU(n:Nat):Obj:=⟨qt "super",.none,.fields #[qr n,qr n,qr n],#[]⟩
abbrev qI(n:Nat):Obj:=⟨qt "builtin_function_or_method",.none,.fields #[qb "object.__init_subclass__",qr n],#[]⟩
abbrev qW(a b:Nat)(m:Value):Obj:=⟨qt "frame",.none,.plain,#[.some (qr a),.some (qr 3),.some (qr b),.none,.some m,.none,.some (qr 0)]⟩
abbrev qD(n:Nat)(l:List DictEntry):Obj:=⟨qt "dict",.none,.dict l.toArray n,#[]⟩
abbrev qv(P:Params)(x:String)(t r:Nat):DictEntry:=qe P x t (qr r)
noncomputable abbrev qX (x:String) (r c n b t u:Nat):Obj:=⟨qt "type",.none,.cls ⟨.ofString x,[qr r],[qr c,qr r,qt "ValueError",qt "Exception",qt "BaseException",qt "object"],n,.ofString x,true,[],[],false,.none,false⟩,#[.some (qr b),.none,.some (qs x t),.some (qs x u),.some (qb "ValueError.__new__"),.some (.bool true)]⟩
noncomputable abbrev qM (x:String) (t l n k:Nat):Obj:=qC x x t l 0 0 0 0 n false (n+1) .none .none .none .none k (k+1)
def z3:List Nat->List Value
 | a::b::c::r=>qi a::qi b::qr c::z3 r
 | _=>[]
def ZE:List String->Nat->List Value
 | [],_=>[]
 | x::r,t=>qs x t::ZE r (t+1)
noncomputable abbrev hA (n:Nat) (x y:String) (s:Stmt) (t l a:Nat) (ls:List Nat) (pm:Value) (ns:List String) (r:List Obj):List Obj:=qT []::qN (z3 ls)::qT (ZE ns (t+3))::qT []::qg x y s::qC x y t l a 0 0 3 n true (n+1) .none (qr (n+2)) (qr (n+3)) (qr (n+4)) (t+3+ns.length) (t+4+ns.length)::qf x y s pm (qr (n+5))::r
noncomputable abbrev hB (n:Nat) (x y:String) (s:Stmt) (t l a:Nat) (ls:List Nat) (pm:Value) (r:List Obj):List Obj:=qT []::qN (z3 ls)::qg x y s::qC x y t l a 0 0 3 n true (n+1) .none .none .none (qr (n+2)) (t+3) (t+4)::qf x y s pm (qr (n+3))::r
end
def fs{α β:Type}:α×β->α
 | (a,_)=>a
def md{α β γ δ ε F:Type}(x:α×β×γ×δ×ε×F):β×γ×δ×ε:=(x.2.1,x.2.2.1,x.2.2.2.1,x.2.2.2.2.1)
def me{α β γ δ ε F:Type}:α×β×γ×δ×ε×F->β×γ×δ×ε
 | (_,b,c,d,e,_)=>(b,c,d,e)
def sn{α β γ δ ε F:Type}:α×β×γ×δ×ε×F->F
 | (_,_,_,_,_,z)=>z
abbrev ZF(p q:Program)(D:HD)(L:Life)(O:Params->List Obj)(F:Shared->Bool):Prop:=∀(w:World) (os:OsState),(PySem.W.Fast.tw4187177175401517315 q [] (P8 p.main.body) F true (SF D L O w os)).1=fs (openGood q [])
abbrev ZG(p q:Program)(D:HD)(L:Life)(O:Params->List Obj)(F:Shared->Bool):Prop:=∀(w:World) (os:OsState),md (PySem.W.Fast.tw4187177175401517315 q [] (P8 p.main.body) F true (SF D L O w os))=me (openGood q [])
abbrev ZH(p q:Program)(D:HD)(L:Life)(O:Params->List Obj)(F:Shared->Bool):Prop:=∀(w:World) (os:OsState),(PySem.W.Fast.tw4187177175401517315 q [] (P8 p.main.body) F true (SF D L O w os)).2.2.2.2.2=sn (openGood q [])
def mJ{p q:Program}{D:HD}{L:Life}{O:Params->List Obj}{F:Shared->Bool}(a:ZF p q D L O F)(b:ZG p q D L O F)(c:ZH p q D L O F):VO p q D L O F:=λw os=>by
 have h1:=a w os;have h2:=b w os;have G:=c w os;generalize PySem.W.Fast.tw4187177175401517315 q [] (P8 p.main.body) F true (SF D L O w os)=X at h1 h2 G;generalize openGood q []=Y at h1 h2 G;obtain⟨x1,x2,J,I,x5,x6⟩:=X;obtain⟨Z,y2,y3,y4,y5,y6⟩:=Y;have h1:x1=Z:=h1;have h2:(x2,J,I,x5)=(y2,y3,y4,y5):=h2;have G:x6=y6:=G;cases h1;cases h2;cases G;rfl
end Hd
namespace L2
open PySem PySem.Spec PyProof.Rows PySem.W PySem.Calls
structure DJ(K:Frag)(mg:Str->Option Value)(x qual:Str)(st:Stmt)(ps:List Str)(C f:Addr)(fd:FuncData):Prop where
 mg:mg x=some (.ref C)
 cl:LJ K C
 xI:Mk K C f
 fn:Lu K "__init__" qual st f fd
 b0:Kl K fd ps []
def mK(C:Addr)(ns:List Str)(sp:Sp)(E:St->XK)(ta:TE)(t:TA):TE:=λσ H Q=>ta σ H λx H1=>∃a vals,x=.ref a/\IJ C ns H1 a vals/\t σ H1 λvs H2=>sp (x::vs) H2 Q (E σ)
section
variable {X:Cx}{k j:Nat}{C f L:Addr}{fd:FuncData}{ps:List Str}{sp:Sp}{E:St->XK}{x qual:Str}{st:Stmt}{p pos:Pos}{e:Expr}{es:List Expr}{t:TA}
def ZI(d:DJ X.K X.mg x qual st ps C f fd)(F:AG X.prog X.w X.K X.mg X.base (DG X.prog X.w) j f fd ps sp)(Z:BO k X.A)(J:Gl X x)(Y:X.env.frame=some L)(ha:PA (X.Ü (EF X E)) (e::es) t)(hjk:j+1<=k:=by decide)(hdb:(x==("__debug__":Str))=false:=by decide)
 (he:starEach (e::es) X.env=(false,eval e X.env)::starEach es X.env:=by rfl) (hpl:(backTo pos (starEach es X.env)).any (·.1)=false:=by rfl) :
 PE (X.Ü (EF X E)) (.Call (.Name x p) (e::es) [] pos) (mE C sp [] E t):=by
 intro pins s σ H Q I h;exact Bs (MU I J d.mg (Cr (h₀:=X.base) I.ok.mod.wQ d.xI.kp (AV (ha pos pins s σ H _ I h) λus s1 ⟨vs,H1,G,r,q⟩=>⟨G.Ĝ,mF (ds:=[]) (dvs:=[]) Y d.xI F (Z.mono hjk) d.b0 .nil G r q⟩) he hpl) hdb)
def ZJ(d:DJ X.K X.mg x qual st ps C f fd)(F:AG X.prog X.w X.K X.mg X.base BL j f fd ps sp)(I:BO k X.A)(J:Gl X x)(G:PA X (e::es) t)(hjk:j+1<=k:=by decide)(hdb:(x==("__debug__":Str))=false:=by decide)
 (he:starEach (e::es) X.env=(false,eval e X.env)::starEach es X.env:=by rfl) (hpl:(backTo pos (starEach es X.env)).any (·.1)=false:=by rfl) :
 PE X (.Call (.Name x p) (e::es) [] pos) (UM C sp [] E0 t) :=
 Xa d.xI (F.mono (Aa j)) (I.mono hjk) J d.mg d.b0 .nil Q1 G hdb he hpl
end
section
variable {X:Cx}{K:Frag}(hK:X.K=K) {ns:List Str}{C L:Addr}{o e:Expr}{es:List Expr}{pos apos:Pos}{ta:TE}{t:TA}{k j:Nat}{g:Addr}{fd:FuncData}{ps:List Str}{sp:Sp}{m qual:Str}{st:Stmt}{E:St->XK}
include hK
theorem VT (c:LJ K C) (d:DM K m qual st ps C g fd) (F:AG X.prog X.w X.K X.mg X.base (DG X.prog X.w) j g fd ps sp) (hr:BO k X.A) (Z:X.env.frame=some L) (hi:ns.idxOf? m=none) (he:PE (X.Ü (EF X E)) o ta) (ha:PA (X.Ü (EF X E)) (e::es) t) (hjk:j<=k:=by decide) (hst:starEach (e::es) X.env=(false,eval e X.env)::starEach es X.env:=by rfl) (hpl:(backTo pos (starEach es X.env)).any (·.1)=false:=by rfl) (ht:eval (.Call (.Attribute o m apos) (e::es) [] pos) X.env=(do
 let ov <- eval o X.env
 standAt apos.atName
 let (f,first) <- holding [ov] (getMethod ov m pl)
 callWith pos f first (backTo pos (starEach (e::es) X.env)) (backToKw pos (keywordEach [] X.env))):=by rfl) :
 PE (X.Ü (EF X E)) (.Call (.Attribute o m apos) (e::es) [] pos) (mK C ns sp E ta t):=by
 subst hK;intro pins s σ H Q I h;refine Ea (pl:=pl) (AV (he pins s σ H _ I h) λu s1 G=>?_) ht;obtain⟨x,H1,J,rx,a,vals,ex,⟨dx,fs,ea,FF⟩,q⟩:=G;subst ex;obtain rfl:u=Value.ref a:=rx;exact UJ J ea c d.me (FF.no hi) (Cr (first:=[.ref a]) (h₀:=X.base) I.ok.mod.wQ d.me.kp (AV (ha pos pins s1 σ H1 _ J q) λus s2 G=>by obtain⟨vs,H2,Y,r,q2⟩:=G;exact⟨Y.Ĝ,Yv (us:=.ref a::us) (vs:=.ref a::vs) Z (F.mono hjk) hr (.all d.ba) Y (.cons rfl r) q2⟩) hst hpl)
end
noncomputable def ZK (K:Frag) (C f:Addr) (x q:Str) (s:Stmt):Bool:=(nsIn K mainGlobals x==some (some (.ref C)))&&plainGet K C Str.empty&&hasDictIn K C&&plainOver K C&&(findIn K (.ref C) "__setattr__"==some (some (.builtin "object.__setattr__"))) &&
 makesIn K C&&(findIn K (.ref C) "__init__"==some (some (.ref f)))&&isFn K (.ref f)&&keepIn K (.ref C)&&codeIn K (GF K f "__init__" q s .none).code q&&keepIn K (.ref f)
def mL{K:Frag}{h:Heap}{mg:Str->Option Value}{C f:Addr}{x q:Str}{s:Stmt}{ps:List Str}(X:K.In h)(G:h.Ns mainGlobals mg)(c:ZK K C f x q s=true)(e:K.lookup f=NI K f (GF K f "__init__" q s .none))(b:BA "__init__" q s ps) :
 DJ K mg x q s ps C f (GF K f "__init__" q s .none):=by
 unfold ZK at c;simp only[Ae]at c;obtain⟨⟨⟨⟨⟨⟨⟨⟨⟨⟨c1,c2⟩,c3⟩,c4⟩,c5⟩,c6⟩,Z⟩,W⟩,Y⟩,d1⟩,d2⟩:=c;obtain⟨o,I⟩:=VQ d2;obtain⟨kV,doc,pm,J,F,ct,hd⟩:=Qy (K:=K) (f:=f) (x:="__init__") (q:=q) (s:=s) (dV:=.none);refine⟨mg_of X G (Bp.mp c1),⟨c2,c3,c4,Bp.mp c5⟩,⟨c6,Bp.mp Z,W,Y⟩,?_,.all (by rw[hd];exact b kV doc pm J F ct)⟩;unfold NI at e;rw[I]at e
 rw[hd]at e d1⊢
 exact⟨⟨_,_,_,kV,doc,pm,J,F,ct,_,rfl,I.trans e,d1⟩,d2⟩
def mM:typeLookup (.type "zip") "__len__"=pure none:=by rw[typeLookup_type,builtinLookup_eq_fast];kernel_rfl
def mO:typeLookup (.type "zip") "__length_hint__"=pure none:=by rw[typeLookup_type,builtinLookup_eq_fast];kernel_rfl
def Tv(H:Hp)(t:V)(p:V×V):Prop:=∃r,t=.ref r/\H r=some (.tup [p.1,p.2])
def NJ(z TI TO i1 i2 a b:Addr)(i:Nat)(h:Heap):Prop:=P2 h z TI TO/\IsPair h TI (.ref i1) (.ref i2)/\(∃u v,IsPair h TO u v)/\h.IsListIter i1 a i/\h.IsListIter i2 b i
def NJ.keep{TI TO:Addr}(st:NJ z TI TO i1 i2 a b i h)(k:∀c∈[z,TO,i1,i2,TI],∀o,h.get? c=some o->h'.get? c=some o):NJ z TI TO i1 i2 a b i h':=by
 obtain⟨⟨Z,I,hf,G⟩,Y,⟨u,v,J⟩,W,F⟩:=st;exact⟨⟨Z,I,hf,k z (by simp) _ G⟩,k TI (by simp) _ Y,⟨u,v,k TO (by simp) _ J⟩,W.at λo e=>k i1 (by simp) o e,F.at λo e=>k i2 (by simp) o e⟩
def NJ.lt{z TI TO i1 i2 a b:Addr}{i:Nat}{h:Heap}(st:NJ z TI TO i1 i2 a b i h):∀c∈[z,TO,i1,i2,TI],c<h.objs.size:=by
 obtain⟨⟨G,I,hf,Z⟩,W,⟨u,v,e3⟩,⟨Y,e4,_⟩,⟨J,F,_⟩⟩:=st
 simp_all[Aw,Bt,Am]
section
variable {X:Cx}{a b z TI TO i1 i2 D:Addr}{xs ys:List V}{A:Around}{R:Result->Shared->Prop}
def mP(hh:A.handled=none)(Dz:ZipApart z TI TO i1 i2 a b)(aM:xs.length=ys.length)(al:D≠a)(aq:D≠b)(aK:xs.length<=1000) :
 ∀(k i:Nat) (pins:List (Addr×Obj)) (s:Shared) (σ:St) (H:Hp) (ts:List V),xs.length-i=k->i<=xs.length->AF X pins σ H s->(∀c∈[z,TO,i1,i2,TI],DH X pins H c)->NJ z TI TO i1 i2 a b i s.heap ->
 AH X.K H a xs->AH X.K H b ys->H D=some (.lst ts)->Paired (Tv H) ts ((xs.zip ys).take i) ->
 (∀H' s' W,AF X pins σ H' s'->(∀c o,c≠D->H c=some o->H' c=some o)->H' D=some (.lst W)->Paired (Tv H') W (xs.zip ys)->R (.ok (.ret .none)) s') ->
 codeAny (model X.prog X.w) A (.builtin "list.extend.loop" ⟨[.ref D,.ref z,.none],[]⟩) R s:=by
 intro k;induction k with
 | zero =>
   intro i pins s σ H ts hk hi I hf st ac aa hD hp q;have e:i=xs.length:=by lia
   subst e;obtain⟨aE,rx,px,_⟩:=I.list ac;obtain⟨ay,ry,py,_⟩:=I.list aa;have ag:=rx.length;obtain⟨hz,Y,⟨u,v,ai⟩,ľ,af⟩:=st;refine F1 F.entry_extend_loop ?_;rw[Du Es _];show wpAny _ A.in1 (pyNext (.ref z) >>= _) _ _ s;have hT:s.TypeIs (.ref z) "zip":=by obtain⟨_,_,_,e⟩:=hz;exact⟨_,e,rfl⟩
   refine A6 ?_;unfold pyNext;refine A6 (Fz (E1 (name:=("__next__":Str)) hT G7
    (Ft G7 hT F.entry_zip_next (kP hh Dz hz Y ai ľ af px.isList py.isList (.inl (by simp;lia)) λh' e hk he=>?_) (F.args_zip_next_1 _))))
   obtain⟨o,ho,G⟩:=he;refine A6 (wpAny_isInstance (T:="StopIteration") (b:=true) ⟨o,ho,G⟩ isSubtype_stop (Ab (Ab ?_)));rw[Aj (by rw[Jl];lia)]at hp
   have ah:∀c∈[z,TO,i1,i2],DH X pins H c:=λc G=>hf c (by
    simp only[Aw,Bt,Ew]at G⊢;rcases G with e|e|e|e<;>simp[e])
   exact q H _ ts (I.wj (t':=s.toks) (λc o G e=>hk c o (λz=>G (by simp[z])) (λz=>G (by simp[z])) (λz=>G (by simp[z])) (λz=>G (by simp[z])) e) ah) (λc o _ e=>e) hD hp
 | succ k ih =>
   intro i pins s σ H ts hk hi I hf st ac aa hD hp q;have ag:i<xs.length:=by lia
   have aC:i<ys.length:=by lia
   obtain⟨aE,rx,px,_⟩:=I.list ac;obtain⟨ay,ry,py,_⟩:=I.list aa;obtain⟨ux,aA,az⟩:=rx.get (A9 ag);obtain⟨uy,aw,ax⟩:=ry.get (A9 aC);have av:=st.lt;obtain⟨hz,Y,⟨u,v,ai⟩,ľ,af⟩:=st;refine F1 F.entry_extend_loop ?_;rw[Du Es _];show wpAny _ A.in1 (pyNext (.ref z) >>= _) _ _ s;have hT:s.TypeIs (.ref z) "zip":=by obtain⟨_,_,_,e⟩:=hz;exact⟨_,e,rfl⟩
   refine A6 ?_;unfold pyNext;refine A6 (Fz (E1 (name:=("__next__":Str)) hT G7
    (Ft G7 hT F.entry_zip_next (kO Dz hz Y ai ľ af px.isList py.isList (x:=ux) (y:=uy) (by simpa using aA) (by simpa using aw) λh1 aF ak an am aD aJ ap=>Ab ?_) (F.args_zip_next_1 _))))
   have hn:=I.Í.fresh (Aa _);have ah:∀c∈[z,TO,i1,i2],DH X pins H c:=λc G=>hf c (by
    simp only[Aw,Bt,Ew]at G⊢;rcases G with e|e|e|e<;>simp[e])
   have I2:AF X pins σ (upd H s.heap.objs.size (.tup [xs[i],ys[i]])) { s with heap:=h1,toks:=s.toks } :=
    I.vj (λc o G e=>ap c o (λz=>G (by simp[z])) (λz=>G (by simp[z])) (λz=>G (by simp[z])) (λz=>G (by simp[z])) e) ah (Aa _) ⟨Bh rfl,[ux,uy],.cons az (.cons ax .nil),⟨_,aD,rfl,0,rfl⟩⟩
   have ar:D≠s.heap.objs.size:=λe=>by rw[e,hn]at hD;cases hD
   have J:=BC hn (.tup [xs[i],ys[i]]);have Z:=J _ _ hD;have ao:upd H s.heap.objs.size (.tup [xs[i],ys[i]]) s.heap.objs.size=some (.tup [xs[i],ys[i]]):=AA;have aj:∀c∈[z,TO,i1,i2,TI],DH X pins (upd H s.heap.objs.size (.tup [xs[i],ys[i]])) c:=λc G=>by
    obtain⟨f0,f⟩:=hf c G;exact⟨by rw[BE (B8 (av c G))];exact f0,f⟩
   have aB:NJ z TI TO i1 i2 a b (i+1) h1:=⟨aF,ap _ _ Dz.TIz Dz.TITO Dz.TIi1 Dz.TIi2 Y,ak,an,am⟩
   have ad:=J.seq ac;have ae:=J.seq aa;generalize upd H s.heap.objs.size (.tup [xs[i],ys[i]])=H2 at I2 J Z ao aj ad ae;obtain⟨zz,its,n,r,hl,e⟩:=I2.vk Z;have aI:ts.length=i:=by
    have:=hp.length
    grind
   have aL:=r.length;show wpAny _ A.in1 (updateSeq D (·.push (.ref s.heap.objs.size)) >>= _) _ _ _;refine A6 (Dq e rfl (Ab ⟨Et Es _,?_⟩) (by rw[B1,Eg];lia) (by show(its.toArray.push _).size<=sizeLine+1;rw[Array.size_push,B1,Eg];lia));have kD:∀c o,c≠D->H2 c=some o->upd H2 D (.lst (ts++[.ref s.heap.objs.size])) c=some o:=λc o G e=>by rw[BE G];exact e
   have aG:∀c∈[z,TO,i1,i2,TI],c≠D:=λc G e=>by
    have:=(aj c G).1;rw[e,Z]at this
    cases this
   refine ih (i+1) pins _ σ _ (ts++[.ref s.heap.objs.size]) (by lia) ag (I2.vQ (its':=its++[.ref s.heap.objs.size]) (ys:=ts++[.ref s.heap.objs.size]) (f:=(·.push (.ref s.heap.objs.size))) (t':=s.toks) Z e (by simp) (r.append (show AM [V.ref s.heap.objs.size] [Value.ref s.heap.objs.size]from .cons rfl .nil)) (by rw[B5,List.length_singleton,Eg];lia)) (λc G=>?_) (aB.keep λc G o e=>?_) ?_ ?_ AA ?_ λH' s' W I' k' aH au=>?_
   .obtain⟨f0,f⟩:=aj c G;exact⟨by rw[BE (aG c G)];exact f0,f⟩
   .grind[Heap.get?_update_other]
   .rcases ad with h|h
    .exact .inl (h.imp (kD _ _ (Cc al)) λ⟨o,h⟩=>⟨o,kD _ _ (Cc al) h⟩)
    .exact .inr h
   .rcases ae with h|h
    .exact .inl (h.imp (kD _ _ (Cc aq)) λ⟨o,h⟩=>⟨o,kD _ _ (Cc aq) h⟩)
    .exact .inr h
   .rw[Ao,show(xs.zip ys)[i]?=some (xs[i],ys[i]) by rw[A9 (by rw[Jl];lia),List.getElem_zip]];refine By (Paired.à hp λt p ⟨r,er,hr⟩=>⟨r,er,kD _ _ (λz=>?_) (J _ _ hr)⟩) ⟨_,rfl,kD _ _ (Cc ar) ao⟩;rw[z,hD]at hr
    cases hr
   .exact q H' s' W I' (λc o G e=>k' c o G (kD c o G (J c o e))) aH au
end
def ZL(K:Frag)(ta:TA):TE:=λσ H Q=>ta σ H λvs H1=>∃a b xs ys,vs=[.ref a,.ref b]/\AH K H1 a xs/\AH K H1 b ys/\xs.length=ys.length/\xs.length<=1000 /\
 ∀D F H2,H1 D=none->AD H1 H2->H2 D=some (.lst F)->Paired (Tv H2) F (xs.zip ys)->Q (.ref D) H2
def mQ(J:X.calm=true)(hg:Gl X "list")(hm:X.mg "list"=none)(aI:Gl X "zip")(aB:X.mg "zip"=none)(ha:PA X [a,b] ta)(hs:starEach [a,b] X.env=[(false,eval a X.env),(false,eval b X.env)]:=by rfl)(hs2:starEach [b] X.env=[(false,eval b X.env)]:=by rfl)(hs3:starEach [.Call (.Name "zip" p) [a,b] [] pos] X.env=(false,eval (.Call (.Name "zip" p) [a,b] [] pos) X.env)::starEach [] X.env:=by rfl) :
 PE X (.Call (.Name "list" p2) [.Call (.Name "zip" p) [a,b] [] pos] [] pos2) (ZL X.K ta):=by
 intro pins s σ H Q I h;refine Bs (LH I hg hm SL (Bq ?_ hs3 (by rfl)));rw[hs3];show wpAny _ _ (spliced ((false,eval (.Call (.Name "zip" p) [a,b] [] pos) X.env)::backTo pos2 (starEach [] X.env))) _ _ s;refine F3 (Bs (LH I aI aB Yg (Bq (AV (ha pos pins s σ H _ I h) λus G ⟨vs,H1,I1,r1,q1⟩=>?_) (by rw[hs,hs2]) (by rw[hs2];rfl))));obtain⟨l1,l2,xs,ys,rfl,am,ai,aC,av,q⟩:=q1;obtain⟨u1,u2,rfl,aG,aF⟩:=Sw r1;cases aG;cases aF;obtain⟨aP,rx,px,aL⟩:=I1.list am;obtain⟨aN,ry,py,aO⟩:=I1.list ai;have a1:l1<G.heap.objs.size:=by obtain⟨_,e,_⟩:=px.isList;exact Am e
 have a2:l2<G.heap.objs.size:=by obtain⟨_,e,_⟩:=py.isList;exact Am e
 refine call_zip_2 px.isList py.isList λh' hz aq aD ľ au hsz hk=>Hw ?_
 have I2:AF X pins σ H1 { G with heap:=h' }:=I1.kept (t':=G.toks) hk;have Dz:=zipApart_new a1 a2;have aE:∀c,G.heap.objs.size<=c->DH X pins H1 c:=λc ak=>I1.vG ak (I1.Í.fresh ak)
 have st:NJ (G.heap.objs.size+4) (G.heap.objs.size+2) (G.heap.objs.size+3) G.heap.objs.size (G.heap.objs.size+1) l1 l2 0 h':=⟨⟨_,_,.inl rfl,hz⟩,aq,⟨_,_,aD⟩,ľ,au⟩
 have ac:H1 h'.objs.size=none:=I2.Í.fresh (Aa _);refine callType_codes (Q₁:=λobj Z=>obj=.ref h'.objs.size/\Z={ G with heap:=h'.push { cls:=.type "list",data:=.seq #[] } }) F.called_list (F.typeCall_list_1 _) F.entry_list_init
  (code_list_new _ ⟨rfl,rfl⟩) λobj Z al=>?_
 obtain⟨rfl,rfl⟩:=al;have hS:(h'.push { cls:=.type "list",data:=.seq #[] }).get? h'.objs.size=some { cls:=.type "list",data:=.seq #[] }:=Ax _ rfl;have I3:AF X pins σ (upd H1 h'.objs.size (.lst [])) { G with heap:=h'.push { cls:=.type "list",data:=.seq #[] },toks:=G.toks }:=I2.laid (λb u e=>A7 _ e) (Aa _) ⟨DU (Bj _),[],0,.nil,hS⟩;have ax:=st.lt;have az:NJ (G.heap.objs.size+4) (G.heap.objs.size+2) (G.heap.objs.size+3) G.heap.objs.size (G.heap.objs.size+1) l1 l2 0 (h'.push { cls:=.type "list",data:=.seq #[] }):=st.keep λc J o e=>A7 _ e
 have aw:IsZip (h'.push { cls:=.type "list",data:=.seq #[] }) (G.heap.objs.size+4) (G.heap.objs.size+2) (G.heap.objs.size+3) .none:=A7 _ hz;have ay:h'.objs.size≠l1:=by rw[hsz];exact Co (Bc a1 (J4 _ _))
 have aH:h'.objs.size≠l2:=by rw[hsz];exact Co (Bc a2 (J4 _ _))
 have ah:h'.objs.size≠G.heap.objs.size+4:=by lia
 generalize aM:h'.objs.size=D at *;have an:upd H1 D (.lst []) D=some (.lst []):=AA;have ae:∀c∈[G.heap.objs.size+4,G.heap.objs.size+3,G.heap.objs.size,G.heap.objs.size+1,G.heap.objs.size+2],c≠D:=λc J=>B8 (ax c J)
 have aA:∀c∈[G.heap.objs.size+4,G.heap.objs.size+3,G.heap.objs.size,G.heap.objs.size+1,G.heap.objs.size+2],DH X pins (upd H1 D (.lst [])) c:=λc J=>by
  obtain⟨f0,f⟩:=aE c (by simp only[Aw,Bt,Ew]at J;lia);exact⟨by rw[BE (ae c J)];exact f0,f⟩
 have W:AD H1 (upd H1 D (.lst [])):=BC ac _;generalize aK:upd H1 D (.lst [])=H3 at *;generalize h'.push { cls:=.type "list",data:=.seq #[] }=h3 at *;refine⟨⟨_,hS,rfl⟩,F.args_list_init_2 _ _,?_⟩;show wpAny _ _ (do let old <- Builtin.List.listItems (.ref D);Builtin.List.listUpdate (.ref D) (λ_=>#[]);letGo old.toList.reverse;Builtin.List.listExtendWith (.ref D) (.ref (G.heap.objs.size+4)) .none) _ _ _;refine A6 ?_;unfold Builtin.List.listItems;refine A6 (Dc hS rfl (Ab ?_));show wpAny _ _ (updateSeq D (λ_=>#[]) >>= λ_=>letGo (#[]:Array Value).toList.reverse >>= λ_=>Builtin.List.listExtendWith (.ref D) (.ref (G.heap.objs.size+4)) .none) _ _ _;refine A6 (Dq hS rfl (A6 (Ek ?_)));have I4:=I3.vQ (its:=[]) (its':=[]) (ys:=[]) (f:=λ_=>#[]) (t':=G.toks) an hS rfl .nil (DU (Bj _));have ad:=Bn (Obj.mapSeq (λ_=>(#[]:Array Value))) hS rfl;have aa:∀c o,c≠D->h3.get? c=some o->(h3.update D (Obj.mapSeq (λ_=>(#[]:Array Value)))).get? c=some o:=λc o J e=>(B2 _ _ (Cc J)).trans e
 have Y:=aa _ _ (Cc ah) aw;generalize h3.update D (Obj.mapSeq (λ_=>(#[]:Array Value)))=h4 at *;unfold Builtin.List.listExtendWith;refine A6 (wpAny_typeOf (T:="zip") ⟨_,Y,rfl⟩ ?_);have g1:Builtin.List.listSameRef (.ref D) (.ref (G.heap.objs.size+4))=false:=by simp[Builtin.List.listSameRef,ah]
 have g2:(Value.type "zip"==Value.type "list")=false:=by decide
 have g3:(Value.type "zip"==Value.type "tuple")=false:=by decide
 simp only[g1,g2,g3,Bool.or_false,D5,G0];refine A6 (Iv Y ?_);refine A6 (Bo ?_);unfold Builtin.List.listLengthHint;refine A6 (G5 (T:="zip") ⟨_,Y,rfl⟩ mM ?_);show wpAny _ _ (specialOf (Value.ref (G.heap.objs.size+4)) ("__length_hint__":Str) >>= _) _ _ _;refine A6 (G5 (T:="zip") ⟨_,Y,rfl⟩ mO (Ab ?_));show wpAny _ _ (rule "list.extend.makes-room" >>= λ_=>Builtin.List.listTouch (.ref D) >>= λ_=>again (.builtin "list.extend.loop" ⟨[.ref D,.ref (G.heap.objs.size+4),.none],[]⟩)) _ _ _;refine A6 (Gh ?_);refine A6 ?_;show wpAny _ _ (updateSeq D (·.push .none) >>= λ_=>updateSeq D (·.pop)) _ _ _;refine A6 (Dq ad rfl ?_);have ag:=Bn (Obj.mapSeq (·.push Value.none)) ad rfl;refine Dq (hz:=by seq_fits) ag rfl ?_;have aj:upd H3 D (.lst []) D=some (.lst []):=AA;have I6:=(I4.vQ (its:=[]) (its':=[.none]) (ys:=[.non]) (f:=(·.push Value.none)) (t':=G.toks) aj ad rfl (.cons rfl .nil) (DU (by decide))).vQ (its:=[.none]) (its':=[]) (ys:=[]) (f:=(·.pop)) (t':=G.toks) AA ag rfl .nil (DU (Bj _));have af:∀c o,c≠D->h4.get? c=some o->((h4.update D (Obj.mapSeq (·.push Value.none))).update D (Obj.mapSeq (·.pop))).get? c=some o :=
  λc o J e=>(B2 _ _ (Cc J)).trans ((B2 _ _ (Cc J)).trans e)
 have eH:upd (upd (upd H3 D (.lst [])) D (.lst [.non])) D (.lst [])=H3:=by
  grind[AA,BE]
 rw[eH]at I6
 refine Ab ⟨Et Es _,mP (A:=X.A.in1) (I.ok.hd J) Dz aC ay aH av xs.length 0 pins _ σ H3 [] (Kb _) (Bj _) I6 aA (az.keep λc J o e=>af c o (ae c J) (aa c o (ae c J) e)) (W.seq am) (W.seq ai) an .nil λH' s' ap I' k' aJ ar=>⟨rfl,.ref D,H',I',rfl,q D ap H' ac (λc o e=>?_) aJ ar⟩⟩;have ao:c≠D:=λz=>by rw[z,ac]at e;cases e
 exact k' c o ao (W c o e)
def mR(K:Frag)(hK:X.K=K)(J:X.calm=true)(I:Gl X "list")(hm:X.mg "list"=none)(G:Gl X "zip")(F:X.mg "zip"=none)(ha:PA X [a,b] ta)(hs:starEach [a,b] X.env=[(false,eval a X.env),(false,eval b X.env)]:=by rfl)(hs2:starEach [b] X.env=[(false,eval b X.env)]:=by rfl)(hs3:starEach [.Call (.Name "zip" p) [a,b] [] pos] X.env=(false,eval (.Call (.Name "zip" p) [a,b] [] pos) X.env)::starEach [] X.env:=by rfl) :
 PE X (.Call (.Name "list" p2) [.Call (.Name "zip" p) [a,b] [] pos] [] pos2) (ZL K ta):=by subst hK;exact mQ J I hm G F ha hs hs2 hs3
section
variable {X:Cx}
def mS(tv:TE):TE:=λσ H Q=>tv σ H λv H1=>∃i:Int,v=.int i/\i.natAbs<=10^40/\((Str.ofString (toString i)).length<=2000->Q (.str (Str.ofString (toString i))) H1)
def RV{value:Expr}{pos:Pos}{tv:TE}(hv:PE X value tv):PE X (.FormattedValue value (-1) none pos) (mS tv):=by
 intro pins s σ H Q I h;refine Gs (AV (hv pins s σ H _ I h) λv s1 F=>?_);obtain⟨y,H1,W,Z,i,ey,hi,q⟩:=F;subst ey;obtain⟨t,rfl⟩:=Z;have J:i.natAbs.log2<1920:=by
  by_cases G:i.natAbs=0
  .rw[G];decide
  .exact Gb ((Js G).mpr (F4 hi (show 10^40<2^140 by decide))) (by decide)
 have Y:(Str.ofString (toString i)).length<=2000:=by
  have e:=Gu (k:=1920) (by decide) J;rw[Fq]
  lia
 exact wpAny_formatField_int J ⟨.str _,H1,W.tok _,⟨_,rfl⟩,q Y⟩
def mT(W I J:TE):TE:=λσ H Q=>W σ H λa H1=>∃x1:Str,a=.str x1/\x1.length<=2000/\I σ H1 λb H2=>∃G:Str,b=.str G/\G.length<=2000/\J σ H2 λc Y=>∃F:Str,c=.str F/\F.length<=2000/\Q (.str (x1++G++F)) Y
def VU{v:Expr}{t:TE}(h:PE X v t){pins:List (Addr×Obj)}{s:Shared}{σ:St}{H:Hp}{F:Str}{n:Nat}{rest:List (Sem Value)}{W:Str->Shared->Prop}{R:Str->Hp->Prop}(I:AF X pins σ H s)
 (q:t σ H λa H1=>∃x:Str,a=.str x/\x.length<=2000/\R x H1) (ha:F.length<=n) (hn:(n+2000).ble 100000=true)
 (hr:∀(x:Str) (G:Shared) (H1:Hp),AF X pins σ H1 G->R x H1->(F++x).length<=n+2000->Joins (model X.prog X.w) X.A X.xe rest (F++x) W G):Joins (model X.prog X.w) X.A X.xe (eval v X.env::rest) F W s:=by
 refine AV (h pins s σ H _ I q) λa G z=>?_;obtain⟨y,H1,Z,Y,x,rfl,l,q1⟩:=z;obtain⟨t1,rfl⟩:=Y;have J:(F++x).length<=n+2000:=by rw[Fl];exact Nat.add_le_add ha l
 exact⟨x,t1,rfl,Bk J (DU (Bh hn)),hr x G H1 Z q1 J⟩
def mU(I:AF X pins σ H s)(q:Q (.str x) H)(e:acc=x)(J:acc.length<=n)(hn:n.ble 100000=true) :
 Joins (model X.prog X.w) X.A X.xe (evalEach [] X.env) acc (λG F=>G.length<=sizeLine/\EP X pins σ Q (.str G F.toks) { F with toks:=F.toks+1 }) s:=by
 subst e;exact⟨Bk J (DU (Bh hn)),.str _,H,I.tok _,⟨_,rfl⟩,q⟩
def mV(x:Str):Str.empty++x=x:=(show Str.empty=("":Str) by decide) ▸ Lns.ju x
def mW(h1:PE X v1 t1):PE X (.JoinedStr [v1] pos) t1:=λpins s σ H Q I h=>wpAny_JoinedStr_one (h1 pins s σ H Q I h)
def ZM(h1:PE X v1 t1)(h2:PE X v2 t2)(h3:PE X v3 t3):PE X (.JoinedStr [v1,v2,v3] pos) (mT t1 t2 t3):=λ_ _ _ _ _ I h =>
 E9 (VU h1 I h (Aa 0) rfl λ_ _ _ Z Y G=>VU h2 Z Y G rfl λ_ _ _ J q2 W=>VU h3 J q2 W rfl λ_ _ _ F q3 l3=>mU F q3 (by rw[mV]) l3 rfl)
end
def mX:entryFor table "proto.unchain"=some Builtin.«proto.unchain»:=by kernel_rfl
def mY:plainId "proto.unchain"=true:=by kernel_rfl
def mZ{prog:Program}{w:World}{A:Around}{E:Value->Shared->Prop}{s:Shared}{it e:Addr}{x left step:Int}{o:Obj}{vs:Array Value}{Q:Option Value->Shared->Prop}
 (hh:A.handled=some (.ref e)) (he:s.heap.get? e=some o) (hd:o.data=.fields vs) (hc:vs[2]?=some .none) (hit:IsRangeIter s.heap it x left step) (hl:left<=0)
 (hQ:∀h',Heap.ExtBut it s.heap h'->Q none { s with heap:=h' }):wpAny (model prog w) A (pyNext (.ref it)) Q E s:=by
 have Y:s.TypeIs (.ref it) "range_iterator":=⟨_,hit,rfl⟩
 refine A6 (Fz (E1 Y Gv (Ft Gv Y F.entry_range_iterator_next ?_ (F.args_range_iterator_next_1 _))));refine A6 (Ab (A6 (Bz hit rfl rfl (A6 (Bz hit rfl rfl (A6 (Bz hit rfl rfl ?_)))))));show wpAny _ _ (if left<=0 then _ else _) _ _ s;rw[Au hl];refine A6 (Gh (A6 (A6 (A6 (C3 ?_ ?_)))))
 .refine A6 (Ab (C3 (A6 (wpAny_handled ?_)) (sizeOk_excFields _ _ _ _ _ _ _ _)));rw[show A.in1.handled=A.handled from rfl,hh];have G:=A7 (h:=s.heap) { cls:=.type "tuple",data:=.seq #[] } he;have I:e≠(s.heap.push { cls:=.type "tuple",data:=.seq #[] }).objs.size:=B8 (Am G);generalize W:s.heap.push { cls:=.type "tuple",data:=.seq #[] }=h1 at G I⊢;have J:∀b u,s.heap.get? b=some u->h1.get? b=some u:=λb u q=>by rw[<-W];exact A7 _ q
  show wpAny _ A.in1 (if (Value.ref e !=Value.ref h1.objs.size)=true then do
   let _ <- holding [Value.ref h1.objs.size] (runValue (Code.builtin "proto.unchain" { pos:=[Value.ref h1.objs.size,Value.ref e,Value.ref e,Value.bool false] }))
   let r <- updateField h1.objs.size 2 (Value.ref e)
   (λ_=>throw (Value.ref h1.objs.size)) r
   else throw (Value.ref h1.objs.size)) _ _ _
  rw[Au (by rw[bne_iff_ne];exact λz=>I (K0 z))];refine A6 (Bo (wpAny_runValue (F1 mX ?_)));rw[Du mY _];refine A6 (Bz (A7 _ G) hd hc ?_);rw[Au (by decide)];refine Ab ?_;show wpAny _ A.in1 (setField (Value.ref h1.objs.size) 2 (Value.ref e) >>= λ_=>throw (Value.ref h1.objs.size)) _ _ _;refine A6 (Gp (Ax _ (Do rfl)) rfl (by rw[Ka];exact Bc (show 2<6 by decide) (J4 _ _)) ?_);refine wpAny_throw (A6 (wpAny_isInstance ⟨_,Bn _ (Ax _ (Do rfl)) (Do (Gq rfl _)),rfl⟩ isSubtype_stop ?_));refine Ab (hQ _ λb u hb q=>?_);have Z:=Co (Am (J b u q))
  grind[Heap.get?_update_other,Heap.get?_push_of_some]
 .show(#[]:Array Value).size<=sizeLine;exact Bj _
def NK(ex:Addr)(lo:Int)(n:Nat):It:={ Nh lo n with stop:=λi H=>n<=i/\∃C dx,H ex=some (XE ex C dx) }
def n5(ex:Addr)(ta:TA):TI:=λσ H R=>ta σ H λvs H1=>∃j:Int,vs=[.int j]/\-(2^62)<=j/\j<2^62/\R (NK ex 0 j.toNat) H1
def n6{ex:Addr}{P:Program}{w:World}{K:Frag}{tg:Expr}(it:Addr)(lo:Int)(n:Nat):LZ (·.A.handled=some (.ref ex)) P w K tg (NK ex lo n) [it] it (λi h=>IsRangeIter h it (lo+(i:Nat)*1) ((n:Int)-(i:Nat)) 1) where
 mem:=(Sq (P:=P) (w:=w) (K:=K) (tg:=tg) it lo n).mem
 obj:=(Sq (P:=P) (w:=w) (K:=K) (tg:=tg) it lo n).obj
 keep:=(Sq (P:=P) (w:=w) (K:=K) (tg:=tg) it lo n).keep
 item:=by
  intro X hP hw hK _ i pins s σ H E I hf st F;subst hP hw hK;have F:i<n:=F;refine GH (λJ Y f2 f3 f4 Z=>?_) (hf it (by simp));refine wpAny_pyNext_range_item st (by lia) λh' aa kk=>?_;have G:IsRangeIter h' it (lo+((i+1:Nat):Int)*1) ((n:Int)-((i+1:Nat):Int)) 1:=by
   have e1:lo+((i+1:Nat):Int)*1=lo+(i:Int)*1+1:=by lia
   have e2:(n:Int)-((i+1:Nat):Int)=(n:Int)-(i:Int)-1:=by lia
   rw[e1,e2];exact aa
  have I1:AF X pins σ H { s with heap:=h',toks:=s.toks+1 }:=I.turned (λb o hb e=>(kk.2 b hb).trans e) J Y f3 f4 Z;refine AX _ (CC rfl (R3 (s:={ s with heap:=h',toks:=s.toks+1 }) (n:="range_iterator") G rfl rfl (by decide) ⟨.int (lo+i),H,I1,⟨s.toks,?_⟩,⟨rfl,rfl⟩,G,λb hb=>(hf b hb).1⟩));rw[Int.mul_one]
 done:=by
  intro X hP hw hK hh i pins s σ H E I hf st F;subst hP hw hK;refine GH (λJ Y f2 f3 f4 Z=>?_) (hf it (by simp));obtain⟨F,C,dx,hx⟩:=F;obtain⟨⟨o,vs,ho,_,_,hd,hc⟩,_⟩:=I.Í ex _ hx;exact mZ hh ho hd hc st (by have:n<=i:=F;lia) λh' eb=>⟨rfl,I.turned (t':=s.toks) (λb o hb e=>eb b o hb e) J Y f3 f4 Z⟩
 self:=λ_ _ _ _ _ st h=>F9 st h
section
variable {X:Cx}{ex:Addr}{tg:Expr}
def n8{pins:List (Addr×Obj)}{σ:St}{H:Hp}{s:Shared}{R:It->Hp->Prop}{E:Value->Shared->Prop}{lo hi:Int}{t u v:Tok}{tk:Nat}(I:AF X pins σ H s)(h1:-(2^62)<=lo)(h2:lo<2^62)(h3:-(2^62)<=hi)(Z:hi<2^62)
 (q:R (NK ex lo (hi-lo).toNat) H):wpAny (model X.prog X.w) X.A (pyIter (.ref s.heap.objs.size)) (λF W=>∃(it:Addr) (fp:List Addr) (Y:Nat->Heap->Prop) (J:It) (H':Hp),F=.ref it/\AF X pins σ H' W/\LZ (·.A.handled=some (.ref ex)) X.prog X.w X.K tg J fp it Y/\Y 0 W.heap/\(∀b∈fp,DH X pins H' b)/\R J H') E { s with heap:=s.heap.push { cls:=.type "range",data:=.fields #[.int lo t,.int hi u,.int 1 v] },toks:=tk }:=by
 refine Gi (IsRange.new ..) (small_one h1 h2 h3 Z) ?_;have G:AF X pins σ H { s with heap:=s.heap.push { cls:=.type "range",data:=.fields #[.int lo t,.int hi u,.int 1 v] },toks:=tk }:=I.kept λb o e=>A7 _ e
 refine⟨(s.heap.push { cls:=.type "range",data:=.fields #[.int lo t,.int hi u,.int 1 v] }).objs.size,[(s.heap.push { cls:=.type "range",data:=.fields #[.int lo t,.int hi u,.int 1 v] }).objs.size],_,_,H,rfl,
  G.kept (t':=tk) λb o e=>A7 _ e,n6 _ lo (hi-lo).toNat,?_,λb hb=>?_,q⟩
 .have e1:lo+((0:Nat):Int)*1=lo:=by simp
  have e2:(((hi-lo).toNat:Nat):Int)-((0:Nat):Int)=Builtin.Range.rangeSize lo hi 1:=by rw[rangeSize_one];split<;>lia
  show IsRangeIter _ _ (lo+((0:Nat):Int)*1) ((((hi-lo).toNat:Nat):Int)-((0:Nat):Int)) 1;rw[e1,e2];exact Ax _ rfl
 .have e:b=(s.heap.push { cls:=.type "range",data:=.fields #[.int lo t,.int hi u,.int 1 v] }).objs.size:=by simpa using hb
  subst e;exact G.vG (Aa _) (G.Í.fresh (Aa _))
def nc{a:Expr}{ta:TA}{p pos:Pos}(W:Gl X "range")(hm:X.mg "range"=none)(ha:PA X [a] ta)(hs:starEach [a] X.env=[(false,eval a X.env)]:=by rfl):SQ (·.A.handled=some (.ref ex)) X tg (.Call (.Name "range" p) [a] [] pos) (n5 ex ta):=by
 intro pins s σ H R I h;refine Call_ (LH I W hm boot_range (Bq (AV (ha pos pins s σ H _ I h) λus s1 ⟨vs,H1,J,G,F⟩=>?_) hs rfl));obtain⟨j,rfl,F,Z,q⟩:=F;cases G with
 | cons r Y =>
   cases Y;obtain⟨t,rfl⟩:=r;exact call_range_1 (n8 J (by lia) (by lia) F Z (by simpa using q))
end
def RW(K:Frag)(B:Addr)(i:Nat)(G:Addr->TS)(F:RB):RB:=λD σ cls dx H=>∃C init b,cls=.ref C/\IT K C init=true/\PySem.W.mroIn K C (.ref B)=some b /\
 (if b=true then ∀e,H e=none->G e (Dg i D) (σ.set i (some (.ref e))) (upd H e (XE e C dx))else F D σ cls dx H)
open PySem.W PySem.Calls
section
variable {X:Cx}{σ:St}{H:Hp}{s:Shared}
def ng{rest:List ExceptHandler}(hg:Gl X x)(hm:X.mg x=some (.ref B))(hB:IT X.K B initB=true)(Z:X.N.Nodup)(hi:X.N[i]?=some n)(hk:X.env.scope.names.lookup n=some .local)(hsuite:∀e,IP (X.Ĥ e) (b₀::Ĥ) (ts e))(hrest:Qk X rest tr)(hdb:(x==("__debug__":Str))=false:=by decide) :
 Qk X (.ExceptHandler (some (.Name x np)) (some n) (b₀::Ĥ) hpos::rest) (RW X.K B i ts tr):=by
 refine λe cls dx σ H s D I he hx=>FT λC init b=>DP λW hC af hb=>?_;subst W;refine PM (id hx) λoe vs hd=>GH λho hc am ai h1 hT=>?_;refine wpAny_handleBy_cons (codeAny_handlers_test (MU (X:=X.Ĥ e) (I.Ĥ e) hg hm ?_ hdb)) (by intro q;cases q);obtain⟨hp,g,d,tk,os⟩:=s;refine ke I.Ĝ hC hB ho hc af ?_;cases b with
 | false=>exact hrest e (.ref C) dx σ H _ D I he hx hb
 | true =>
   refine codeAny_handlers_suite_as (Rz (s:=⟨hp,g,d,tk,os⟩) (fr:=none) I he hx λh2 I2 ac=>?_);refine PM (id ac) λal ak ah=>GH λag ae aa Y ad aj=>?_;refine QV (v:=.ref e) (I2.xD he ag ae aa Y ad.2) Z hi (.inl hk) rfl (λs' I4=>?_) (.inr hk);refine Bv (hsuite e [] s' (σ.set i (some (.ref e))) _ (Dg i D) (I4.Ĥ e) (hb e he.2.1)) (λf s3 q=>?_) λ_ _ z=>z.elim
   cases f with
   | next =>
     revert q;refine FO λJ H'=>BW λF q=>?_;exact Te (X:=X) (F.Š (X:=X) (A:=X.A) (c:=X.calm) (xe:=X.xe) I.ok.frames I.ok.hd) Z hi hk λs5 G=>⟨_,H',G,q⟩
   | brk =>
     revert q;refine FO λJ H'=>BW λF q=>?_;exact Te (X:=X) (F.Š (X:=X) (A:=X.A) (c:=X.calm) (xe:=X.xe) I.ok.frames I.ok.hd) Z hi hk λs5 G=>⟨_,H',G,q⟩
   | cont =>
     revert q;refine FO λJ H'=>BW λF q=>?_;exact Te (X:=X) (F.Š (X:=X) (A:=X.A) (c:=X.calm) (xe:=X.xe) I.ok.frames I.ok.hd) Z hi hk λs5 G=>⟨_,H',G,q⟩
   | ret u =>
     revert q;refine FT λv J H'=>FN λF r5 q=>?_;exact Te (X:=X) (F.Š (X:=X) (A:=X.A) (c:=X.calm) (xe:=X.xe) I.ok.frames I.ok.hd) Z hi hk λs5 G=>⟨v,_,H',G,r5,q⟩
end
def nh(K:Frag)(hK:X.K=K){rest:List ExceptHandler}(F:Gl X x)(hm:X.mg x=some (.ref B))(hB:IT K B initB=true)(G:X.N.Nodup)(hi:X.N[i]?=some n)(hk:X.env.scope.names.lookup n=some .local)(hsuite:∀e,IP (X.Ĥ e) (b₀::Ĥ) (ts e))(hrest:Qk X rest tr)(hdb:(x==("__debug__":Str))=false:=by decide) :
 Qk X (.ExceptHandler (some (.Name x np)) (some n) (b₀::Ĥ) hpos::rest) (RW K B i ts tr):=by subst hK;exact ng F hm hB G hi hk hsuite hrest hdb
def AO(i:Nat)(F:X.N.Nodup)(hi:X.N[i]?=some x:=by exact rfl)(hx:MT X.env.scope x:=by first|exact .inl rfl|exact .inr rfl)(hf:X.fn x=true\/X.env.scope.names.lookup x=some .local:=by first|exact .inl rfl|exact .inr rfl|assumption):PG X (.Name x pos) (Nf i):=WT F hi hx hf
def BD(i:Nat)(F:N'.Nodup:=by decide +kernel)(hi:N'[i]?=some x:=by exact rfl)(hx:MT (GL X N' scope C cells Ã H₀ ex).env.scope x:=by first|exact .inl rfl|exact .inr rfl)(hf:(GL X N' scope C cells Ã H₀ ex).fn x=true\/(GL X N' scope C cells Ã H₀ ex).env.scope.names.lookup x=some .local:=by first|exact .inl rfl|exact .inr rfl|assumption):PG (GL X N' scope C cells Ã H₀ ex) (.Name x pos) (Nf i):=WT F hi hx hf
def BH(i:Nat)(F:X.N.Nodup)(G:PE X e te)(hi:X.N[i]?=some x:=by exact rfl)(hx:MT X.env.scope x:=by first|exact .inl rfl|exact .inr rfl)(hs:swapsWith e (some (.Name x pos')) pos.line X.env=pure false:=by rfl)(hf:X.fn x=true\/X.env.scope.names.lookup x=some .local:=by first|exact .inl rfl|exact .inr rfl|assumption):PS X (.Assign [.Name x pos'] e pos) (Lm te (Nf i)):=IQ F hi hx G hs hf
def DO(N':List Str)(ms:List Nat)(k:Nat)(hi:PI X target iter wi)(hg:∀{C cells Ã H₀ ex},PG (GL X N' scope C cells Ã H₀ ex) target g)(hc:∀{C cells Ã H₀ ex},OM (GL X N' scope C cells Ã H₀ ex) ifs tc)(he:∀{C cells Ã H₀ ex},PE (GL X N' scope C cells Ã H₀ ex) elt te)(hc0:X.calm=true:=by exact rfl)(hb:ON X.N X.env.kindOf N' scope ms k=true:=by rfl)(hs:∀x,foldedSetIterable iter X.env x=pure x:=by intro _;rfl):PE X (.ListComp elt [⟨target,iter,ifs,0⟩] scope pos) (IF wi g tc te ms k) :=
 gW hc0 hi (.of hb) (λ_ _ _ _ _=>hg) (λ_ _ _ _ _=>hc) (λ_ _ _ _ _=>he) hs
def Tw{t u:TS}{D:DY}{σ:St}{H:Hp}(h:let D':DY:={ D with nx:=u D };t D' σ H):Ou t u D σ H:=h
def hideAll{t u:TS}{D:DY}{σ:St}{H:Hp}(h:let D':DY:={ D with nx:=u D };let σ':St:=σ;t D' σ' H):Ou t u D σ H:=h
def Pa(h:Q (σ.set i (some v)) H):Nf i v σ H Q:=h
def VW(e:upd H p o=H1)(F:H p=none):AD H H1/\H1 p=some o:=e ▸ ⟨BC F _,AA⟩
end L2
local macro_rules | `(tactic| x_fa $H $s $r) => `(tactic| (generalize ee : L2.upd _ _ _ = $H; obtain ⟨$s, $r⟩ := L2.VW ee (by assumption); clear ee))
local macro_rules | `(tactic| fin2) => `(tactic| (intro _ _ _ _ h; repeat (first | (rw [h.1]; rfl) | (rw [h]; rfl) | (obtain ⟨_, h⟩ := h))))
namespace Lw
open PySem L2
open Br (HR IH Km Kn ND Qh RL Rv T1 Yc Ye)
open Cp (EL GP GQ IL IZ JQ KE KF KY LP MB NG Oe Qq Qr Qs Qt RM RN RO RP Tn To VL Zl)
open Cs (AZ BN DW EV FG IG JN KA L8 Ls Nt Nz O5 OY RG Rn SV SW)
open Jb (CP DA HX IK KW Lf N7 N8)
open Ln (JO Nv)
open Lns (HU L9 La Ld Qi T4 T7 T9 Vf Vh Yj Yk Yl Yn Yq Yr)
open Mc (BR CG CM CZ Cf GO GY HV JP JW KU Kr Ks LM LN LO Le Lv MZ Ms Mv Mw My Mz N4 NB O9 Oa Ob Oc P3 P5 P6 Qm Qn RJ RK Tj VC VG VH Vt Vv Vw Z0 Z1 Z6 Z7 Z8 Za Zb Zc Ze)
open Mt (DN LL Nq)
set_option maxHeartbeats 4000000
section
def top(i:Nat):Stmt:=PySem.Challenge.pw_linecaster_k60_rows_refused.main.body.getD i (.Pass ⟨0,0,0,0⟩)
local macro_rules | `(tactic| walk_at "sc") => `(tactic| exact ⟨rfl, rfl, rfl, by decide +kernel, rfl, by decide +kernel, by decide +kernel⟩)
abbrev sS(i:Nat)(N ps:List Str):Prop:=DV N ps (FV (top i))
abbrev sC(i j:Nat)(N ps:List Str):Prop:=DV N ps (FV (EG (top i) j))
def nj:sS 15 ["text"] ["text"]:=by walk_at "sc"
def RX:sS 16 ["channel","sign","width","teeth","many"] ["channel"]:=by walk_at "sc"
def RY:sS 17 ["ahead","channel","sign","width","teeth","many"] ["ahead","channel"]:=by walk_at "sc"
def VX:sS 18 ["case","at","channel"] ["case"]:=by walk_at "sc"
def VY:sS 19 ["case","sign","number","channel"] ["case","sign"]:=by walk_at "sc"
def nk:sS 20 ["case","word"] ["case","word"]:=by walk_at "sc"
def nr:sS 21 ["case","word"] ["case","word"]:=by walk_at "sc"
def nt:sS 22 ["case"] ["case"]:=by walk_at "sc"
def nu:sS 24 ["case","line"] ["case","line"]:=by walk_at "sc"
def Tz:sS 25 ["spare","many","gaps","low","ideal","high"] ["spare","many","gaps"]:=by walk_at "sc"
def ZN:sS 26 ["one","other"] ["one","other"]:=by walk_at "sc"
def ZO:sS 27 ["top","bottom","divisor"] ["top","bottom"]:=by walk_at "sc"
def TB:sS 28 ["case","line","measure","gaps","many","spare","off"] ["case","line","measure","gaps"]:=by walk_at "sc"
def TC:sS 29 ["case","line","measure","gaps","low","ideal","high"] ["case","line","measure","gaps"]:=by walk_at "sc"
def RZ:sS 31 ["spare","many","gaps","last","low","ideal","high","off"] ["spare","many","gaps","last"]:=by walk_at "sc"
def Of:sS 32 ["case","words","measure","gaps","widths","costs","start","spare","end","cost"] ["case","words","measure","gaps"]:=by walk_at "sc"
def nv:sS 33 ["costs","table","start","end"] ["costs","table","start","end"]:=by walk_at "sc"
def ZP:sS 34 ["costs","table","start","ends"] ["costs","table","start"]:=by walk_at "sc"
def VZ:sS 35 ["costs","many","table","start"] ["costs","many"]:=by walk_at "sc"
def W0:sS 36 ["costs","many","reached","end"] ["costs","many"]:=by walk_at "sc"
def QA:sS 37 ["case","words","measure","gaps","costs","table","breaks","at"] ["case","words","measure","gaps"]:=by walk_at "sc"
def ny:sS 38 ["words","breaks"] ["words","breaks"]:=by walk_at "sc"
def nz:sS 42 ["word"] ["word"]:=by walk_at "sc"
def nB:sS 43 ["word"] ["word"]:=by walk_at "sc"
def nC:sS 44 ["words","at"] ["words","at"]:=by walk_at "sc"
def ZQ:sS 45 ["words","at","low","high","word"] ["words","at","low","high"]:=by walk_at "sc"
def nD:sS 46 ["words","at","word"] ["words","at","word"]:=by walk_at "sc"
def nE:sS 47 ["words","at"] ["words","at"]:=by walk_at "sc"
def TF:sS 48 ["words","at","low","ideal","high"] ["words","at"]:=by walk_at "sc"
def W2:sS 49 ["words","at","end"] ["words","at"]:=by walk_at "sc"
def TH:sS 50 ["words","at","brackets","many","jobs","end"] ["words","at","brackets"]:=by walk_at "sc"
def nF:sS 51 ["words","at","brackets"] ["words","at","brackets"]:=by walk_at "sc"
def TJ:sS 52 ["words","at","brackets","jobs","job"] ["words","at","brackets"]:=by walk_at "sc"
def TK:sS 53 ["text","words","jobs","end"] ["text"]:=by walk_at "sc"
def nG:sS 56 ["word"] ["word"]:=by walk_at "sc"
def TN:sS 57 ["word","teeth","figure"] ["word"]:=by walk_at "sc"
def S1:sS 58 ["words","sign","width","teeth","many"] ["words"]:=by walk_at "sc"
def QB:sS 59 ["at","row","words","sign","width","teeth","many"] ["at","row"]:=by walk_at "sc"
def ZR:sS 60 ["text","case"] ["text"]:=by walk_at "sc"
def nH:sS 66 ["paragraphs","paragraph"] ["paragraphs","paragraph"]:=by walk_at "sc"
def S3:sS 67 ["many","jobs","measure","gaps","paragraphs","again","ahead"] ["many","jobs","measure","gaps","paragraphs"]:=by walk_at "sc"
def QC:sS 68 ["jobs","measure","gaps","paragraphs","job"] ["jobs","measure","gaps","paragraphs"]:=by walk_at "sc"
def ZS:sS 69 ["jobs","paragraphs"] ["jobs"]:=by walk_at "sc"
def nI:sS 73 ["lines"] ["lines"]:=by walk_at "sc"
def nJ:sS 74 ["key"] ["key"]:=by walk_at "sc"
def nK:sS 75 ["case","keys","at"] ["case","keys","at"]:=by walk_at "sc"
def ZT:sS 76 ["case","keys","at"] ["case","keys"]:=by walk_at "sc"
def nL:sS 78 ["teeth","others"] ["teeth","others"]:=by walk_at "sc"
def W5:sS 79 ["codes","teeth","channel","code"] ["codes","teeth"]:=by walk_at "sc"
def ME:sS 82 ["case","broken","channels","ahead","at","part","channel","lost","sign","width","own","many"] ["case","broken"]:=by walk_at "sc"
def nM:sS 87 ["case","keys"] ["case","keys"]:=by walk_at "sc"
def nN:sS 88 ["free","machine"] ["free","machine"]:=by walk_at "sc"
def Pb:sS 89 ["case","keys","casting","free","machine","needs","peaks","channel","out"] ["case","keys","casting"]:=by walk_at "sc"
def W6:sS 90 ["case","keys","casting","needs","peaks"] ["case","keys","casting"]:=by walk_at "sc"
def nO:sS 95 ["words"] ["words"]:=by walk_at "sc"
def nP:sS 96 ["word"] ["word"]:=by walk_at "sc"
def ZU:sS 97 ["case","lines","measure","gaps","full"] ["case","lines","measure","gaps"]:=by walk_at "sc"
def QD:sS 98 ["case","paragraph","measure","gaps","words","word","lines"] ["case","paragraph"]:=by walk_at "sc"
def W7:sS 99 ["case","text","rows","paragraph"] ["case","text"]:=by walk_at "sc"
def W8:sS 100 ["gap","top","bottom"] ["gap"]:=by walk_at "sc"
def nQ:sS 101 ["machine"] ["machine"]:=by walk_at "sc"
def W9:sS 102 ["machine","often","done"] ["machine","often"]:=by walk_at "sc"
def nR:sS 105 ["_law_script","_law_k"] ["_law_script","_law_k"]:=by walk_at "sc"
def Ly:sS 106 ["_law_some","_law_found","_law_number","_law_text"] []:=by walk_at "sc"
def nS:sS 107 ["_law_desk","_law_row"] ["_law_desk","_law_row"]:=by walk_at "sc"
def NL:sS 108 ["_law_desk","_law_row","_law_found","e","_law_some","_law_names","_law_told"] ["_law_desk","_law_row"]:=by walk_at "sc"
def Pc:sS 109 ["_law_case","_law_cell_here","_law_far","_law_time","_law_texts","_law_text","_law_due","_law_at"] ["_law_case","_law_cell_here"]:=by walk_at "sc"
def nT:sS 110 ["_law_desk"] ["_law_desk"]:=by walk_at "sc"
def NM:sS 111 ["_law_script","_law_case","_law_desk","_law_rows_here","_law_before","_law_cell_here","_law_row","_law_kind_here","_law_field"] ["_law_script"]:=by walk_at "sc"
def nU:sC 3 0 ["self","at"] ["self","at"]:=by walk_at "sc"
def nV:sC 5 0 ["self","by"] ["self","by"]:=by walk_at "sc"
def nW:sC 6 0 ["self","by"] ["self","by"]:=by walk_at "sc"
def nX:sC 7 0 ["self","words"] ["self","words"]:=by walk_at "sc"
noncomputable abbrev FY:List Str:=["lying","case","played","struck","casting","line","heated","to_go","hanging","texts","done","waits"]
def S4:FY.idxOf? ("lying":Str)=some 0:=by decide +kernel
def TQ:FY.idxOf? ("case":Str)=some 1:=by decide +kernel
def Wa:FY.idxOf? ("played":Str)=some 2:=by decide +kernel
def Pd:FY.idxOf? ("struck":Str)=some 3:=by decide +kernel
def ZV:FY.idxOf? ("casting":Str)=some 4:=by decide +kernel
def S5:FY.idxOf? ("line":Str)=some 5:=by decide +kernel
def NN:FY.idxOf? ("heated":Str)=some 6:=by decide +kernel
def S6:FY.idxOf? ("to_go":Str)=some 7:=by decide +kernel
def QE:FY.idxOf? ("hanging":Str)=some 8:=by decide +kernel
def Wb:FY.idxOf? ("texts":Str)=some 9:=by decide +kernel
def QF:FY.idxOf? ("done":Str)=some 10:=by decide +kernel
def TU:FY.idxOf? ("waits":Str)=some 11:=by decide +kernel
def nY:sC 85 0 ["self","case","keys","casting","broken"] ["self","case","keys","casting","broken"]:=by walk_at "sc"
def nZ:sC 85 1 ["self"] ["self"]:=by walk_at "sc"
def Wc:FY.idxOf? ("next_key":Str)=none:=by decide +kernel
def ZW:sC 85 2 ["self","channel"] ["self"]:=by walk_at "sc"
def ZX:FY.idxOf? ("lacks_matrix":Str)=none:=by decide +kernel
def o6:sC 85 3 ["self"] ["self"]:=by walk_at "sc"
def ZY:FY.idxOf? ("stuck":Str)=none:=by decide +kernel
def o9:sC 85 4 ["self"] ["self"]:=by walk_at "sc"
def ZZ:FY.idxOf? ("resting":Str)=none:=by decide +kernel
def b3:sC 85 5 ["self","matrix"] ["self"]:=by walk_at "sc"
def og:FY.idxOf? ("move_bar":Str)=none:=by decide +kernel
def oh:sC 85 6 ["self"] ["self"]:=by walk_at "sc"
def oj:FY.idxOf? ("move_caster":Str)=none:=by decide +kernel
def b6:sC 85 7 ["self","key"] ["self"]:=by walk_at "sc"
def om:FY.idxOf? ("move_line":Str)=none:=by decide +kernel
def oo:sC 85 8 ["self"] ["self"]:=by walk_at "sc"
def oq:FY.idxOf? ("send_line":Str)=none:=by decide +kernel
def ot:sC 85 9 ["self","part"] ["self","part"]:=by walk_at "sc"
def b8:FY.idxOf? ("take":Str)=none:=by decide +kernel
def ou:sC 85 10 ["self"] ["self"]:=by walk_at "sc"
def We:FY.idxOf? ("tick":Str)=none:=by decide +kernel
def b9:sC 85 11 ["self","ahead"] ["self"]:=by walk_at "sc"
def oy:FY.idxOf? ("run":Str)=none:=by decide +kernel
def oz:sC 85 12 ["self"] ["self"]:=by walk_at "sc"
def oA:FY.idxOf? ("ticks":Str)=none:=by decide +kernel
def oE:sC 85 13 ["self"] ["self"]:=by walk_at "sc"
def oF:FY.idxOf? ("slugs":Str)=none:=by decide +kernel
def oG:sC 85 14 ["self"] ["self"]:=by walk_at "sc"
def oH:FY.idxOf? ("waited":Str)=none:=by decide +kernel
def oI:sC 85 16 ["self"] ["self"]:=by walk_at "sc"
def oJ:FY.idxOf? ("numbers_lying":Str)=none:=by decide +kernel
abbrev LR:List Str:=["case","casting","composed","machine"]
def S7:LR.idxOf? ("case":Str)=some 0:=by decide +kernel
def Wf:LR.idxOf? ("casting":Str)=some 1:=by decide +kernel
def QG:LR.idxOf? ("composed":Str)=some 2:=by decide +kernel
def Pe:LR.idxOf? ("machine":Str)=some 3:=by decide +kernel
def oK:sC 103 0 ["self","case_text","casting"] ["self","case_text","casting"]:=by walk_at "sc"
def oM:sC 103 1 ["self"] ["self"]:=by walk_at "sc"
def Wg:LR.idxOf? ("copy_keys":Str)=none:=by decide +kernel
def bX:sC 103 2 ["self","row","words"] ["self","row"]:=by walk_at "sc"
def JX:LR.idxOf? ("say":Str)=none:=by decide +kernel
def oN:sC 103 3 ["self","text"] ["self","text"]:=by walk_at "sc"
def oO:LR.idxOf? ("take_copy":Str)=none:=by decide +kernel
def oP:sC 103 4 ["self","word"] ["self","word"]:=by walk_at "sc"
def oQ:LR.idxOf? ("tell_copy":Str)=none:=by decide +kernel
def oR:sC 103 5 ["self","word"] ["self","word"]:=by walk_at "sc"
def oS:LR.idxOf? ("play":Str)=none:=by decide +kernel
noncomputable abbrev tb:List TR:=("_wall",top 0,["k"])::("is_sign",top 15,["text"])::("is_channel",top 16,["channel"])::("can_stand",top 17,["ahead","channel"])::("look_at_case",top 18,["case"])::("channel_of",top 19,["case","sign"])::("can_set",top 20,["case","word"])::("width_of",top 21,["case","word"])::("codes_of",top 22,["case"])::("body_of",top 24,["case","line"])::("misfit",top 25,["spare","many","gaps"])::("greatest_divisor",top 26,["one","other"])::("lowest_terms",top 27,["top","bottom"])::("full_gap",top 28,["case","line","measure","gaps"])::("last_gap",top 29,["case","line","measure","gaps"])::("cost_of",top 31,["spare","many","gaps","last"])::("costs_of",top 32,["case","words","measure","gaps"])::("can_follow",top 33,["costs","table","start","end"])::("choices",top 34,["costs","table","start"])::("table_of",top 35,["costs","many"])::("most_in_full_lines",top 36,["costs","many"])::("breaks_of",top 37,["case","words","measure","gaps"])::("broken_lines",top 38,["words","breaks"])::("is_number",top 42,["word"])::("is_set_word",top 43,["word"])::("word_at",top 44,["words","at"])::("read_number",top 45,["words","at","low","high"])::("look_for",top 46,["words","at","word"])::("read_measure",top 47,["words","at"])::("read_gaps",top 48,["words","at"])::("read_set",top 49,["words","at"])::("read_times",top 50,["words","at","brackets"])::("read_job",top 51,["words","at","brackets"])::("read_jobs",top 52,["words","at","brackets"])::("read_copy",top 53,["text"])::("is_teeth",top 56,["word"])::("read_teeth",top 57,["word"])::("is_row",top 58,["words"])::("read_row",top 59,["at","row"])::("read_case",top 60,["text"])::("add_paragraph",top 66,["paragraphs","paragraph"])::("do_times",top 67,["many","jobs","measure","gaps","paragraphs"])::("do_jobs",top 68,["jobs","measure","gaps","paragraphs"])::("opened_jobs",top 69,["jobs"])::("keys_of",top 73,["lines"])::("is_sign_key",top 74,["key"])::("goes_on",top 75,["case","keys","at"])::("look_at_keys",top 76,["case","keys"])::("has_all",top 78,["teeth","others"])::("falls_at",top 79,["codes","teeth"])::("can_break",top 81,["case","ahead","channel","teeth"])::("channels_of",top 82,["case","broken"])::("free_case",top 87,["case","keys"])::("numbers_out",top 88,["free","machine"])::("needs_and_peaks",top 89,["case","keys","casting"])::("need_of",top 90,["case","keys","casting"])::("is_known",top 95,["words"])::("read_ticks",top 96,["word"])::("gaps_of",top 97,["case","lines","measure","gaps"])::("set_paragraph",top 98,["case","paragraph"])::("set_copy",top 99,["case","text"])::("shown_gap",top 100,["gap"])::("state_of",top 101,["machine"])::("tick_often",top 102,["machine","often"])::("_law_cell",top 105,["_law_script","_law_k"])::("_law_rows",top 106,[])::("_law_tried",top 107,["_law_desk","_law_row"])::("_law_kind",top 108,["_law_desk","_law_row"])::("_law_not_made",top 109,["_law_case","_law_cell_here"])::("_law_seen",top 110,["_law_desk"])::("law",top 111,["_law_script"])::[]
noncomputable abbrev TV:List MR:=("next_key","Machine.next_key",EG (top 85) 1,["self"])::("lacks_matrix","Machine.lacks_matrix",EG (top 85) 2,["self"])::("stuck","Machine.stuck",EG (top 85) 3,["self"])::("resting","Machine.resting",EG (top 85) 4,["self"])::("move_bar","Machine.move_bar",EG (top 85) 5,["self"])::("move_caster","Machine.move_caster",EG (top 85) 6,["self"])::("move_line","Machine.move_line",EG (top 85) 7,["self"])::("send_line","Machine.send_line",EG (top 85) 8,["self"])::("take","Machine.take",EG (top 85) 9,["self","part"])::("tick","Machine.tick",EG (top 85) 10,["self"])::("run","Machine.run",EG (top 85) 11,["self"])::("ticks","Machine.ticks",EG (top 85) 12,["self"])::("slugs","Machine.slugs",EG (top 85) 13,["self"])::("waited","Machine.waited",EG (top 85) 14,["self"])::("channels","Machine.channels",EG (top 85) 15,["self"])::("numbers_lying","Machine.numbers_lying",EG (top 85) 16,["self"])::[]
noncomputable abbrev TX:List MR:=("copy_keys","Desk.copy_keys",EG (top 103) 1,["self"])::("say","Desk.say",EG (top 103) 2,["self","row"])::("take_copy","Desk.take_copy",EG (top 103) 3,["self","text"])::("tell_copy","Desk.tell_copy",EG (top 103) 4,["self","word"])::("play","Desk.play",EG (top 103) 5,["self","word"])::[]
noncomputable abbrev tu:List Str:=["ValueError","all","any","enumerate","int","isinstance","len","list","max","min","range","str","sum","zip"]
set_option genInjectivity false
set_option genSizeOf false
structure Ad where
 f:Nat->Addr
 d:Nat->FuncData
 Ñ:Nat->Addr
 Ð:Nat->FuncData
 ħ:Nat->Addr
 Ī:Nat->FuncData
 û:Addr
 ĵ:Addr
 į:Addr
 ē:Addr
 þ:Addr
 æ:Addr
 Ę:Addr
 Ó:Addr
 Ė:Addr
 ğ:Addr
 ć:Addr
 Ġ:Addr
 Ý:Addr
 č:Addr
 É:Addr
 Ń:Addr
 Ų:Addr
 ï:Addr
 ë:Addr
 Ķ:Addr
 Ć:Addr
 Đ:Addr
 Č:Addr
 ī:FuncData
 ď:FuncData
 ļ:FuncData
 Ō:FuncData
 Ŀ:FuncData
 Ĭ:FuncData
 Ŵ:FuncData
 wZ:Tok
 wo:Tok
 Ş:Tok
 ň:Tok
 ŝ:Tok
 Ł:Tok
 vh:Tok
 wq:Tok
 vU:Tok
 wV:Tok
 Ũ:Tok
def cs(a:Ad)(i:Fin 11):Addr:=[a.þ,a.æ,a.Ó,a.Ė,a.ć,a.Ý,a.É,a.Ń,a.ï,a.ë,a.Ķ].getD i.1 0
structure Tx(K:Frag)(mg:Str->Option Value)(a:Ad):Prop where
 f:∀i {x s ps},tb[i]?=some (x,s,ps)->D K mg x s ps (a.f i) (a.d i)
 b:∀(i:Nat) {x},tu[i]?=some x->mg x=none
 Ê:∀i {x q s ps},TV[i]?=some (x,q,s,ps)->DM K x q s ps a.û (a.Ñ i) (a.Ð i)
 Ô:∀(i:Nat) {x},FY[i]?=some x->MV K a.û x
 Machine:DI K mg "Machine" "Machine.__init__" (EG (top 85) 0) ["self","case","keys","casting","broken"] a.û a.ĵ a.ī
 ķ:∀i {x q s ps},TX[i]?=some (x,q,s,ps)->DM K x q s ps a.į (a.ħ i) (a.Ī i)
 Ŋ:∀(i:Nat) {x},LR[i]?=some x->MV K a.į x
 Ù:DJ K mg "Desk" "Desk.__init__" (EG (top 103) 0) ["self","case_text","casting"] a.į a.ē a.ď
 Û:CN K mg "CasterError" a.þ
 Æ:CI K mg "NoCase" "NoCase.__init__" (EG (top 3) 0) ["self","at"] a.æ a.Ę a.ļ "at"
 Î:CN K mg "TooMany" a.Ó
 á:CI K mg "Loose" "Loose.__init__" (EG (top 5) 0) ["self","by"] a.Ė a.ğ a.Ō "by"
 ä:CI K mg "Tight" "Tight.__init__" (EG (top 6) 0) ["self","by"] a.ć a.Ġ a.Ŀ "by"
 Ä:CI K mg "NoBreak" "NoBreak.__init__" (EG (top 7) 0) ["self","words"] a.Ý a.č a.Ĭ "words"
 Ì:CN K mg "NoCopy" a.É
 ì:CI K mg "NoKeys" "NoKeys.__init__" (EG (top 9) 0) ["self","at"] a.Ń a.Ų a.Ŵ "at"
 Ö:CN K mg "NoText" a.ï
 Ë:CN K mg "NoNumber" a.ë
 ã:CN K mg "NoRow" a.Ķ
 bi:BI K a.þ
 m:∀i j:Fin 11,PySem.W.mroIn K (cs a i) (.ref (cs a j))=some (Nat.beq j.1 0||Nat.beq i.1 j.1)
 ŋ:mg "FIRST_GAPS"=some (.ref a.Ć)
 ń:∀H,BS K H a.Ć [.int 2,.int 4,.int 8]
 ı:mg "COPY_ROWS"=some (.ref a.Đ)
 Ħ:∀H,BS K H a.Đ [.str "lines",.str "gaps",.str "keys",.str "need"]
 Ĵ:mg "MACHINE_ROWS"=some (.ref a.Č)
 Ĩ:∀H,BS K H a.Č [.str "start",.str "run",.str "slugs",.str "state",.str "waited"]
 wk:mg "SIGNS"=some (.str "abcdefghijklmnopqrstuvwxyz.,-'" a.wZ)
 Ÿ:mg "FIGURES"=some (.str "0123456789" a.wo)
 ģ:mg "MOST_BRACKETS"=some (.int 4 a.Ş)
 đ:mg "NUMBER_OF_TEETH"=some (.int 7 a.ň)
 Ģ:mg "FIRST_MEASURE"=some (.int 100 a.ŝ)
 ö:mg "MOST_PARAGRAPHS"=some (.int 60 a.Ł)
 ĝ:mg "MOST_WORDS"=some (.int 400 a.vh)
 ŕ:mg "GAP_KEY"=some (.str " " a.wq)
 Ĉ:mg "SEND_KEY"=some (.str "/" a.vU)
 vx:mg "WEDGE"=some (.str " " a.wV)
 ĉ:mg "MOST_CASTING"=some (.int 20 a.Ũ)
section
variable {K:Frag}{mg:Str->Option Value}{a:Ad}(T:Tx K mg a)
include T
def Tx.vn:=T.f 1 rfl
def Tx.ŭ:=T.f 2 rfl
def Tx.ż:=T.f 3 rfl
def Tx.ł:=T.f 4 rfl
def Tx.ñ:=T.f 5 rfl
def Tx.vY:=T.f 6 rfl
def Tx.ť:=T.f 7 rfl
def Tx.œ:=T.f 8 rfl
def Tx.vm:=T.f 9 rfl
def Tx.misfit:=T.f 10 rfl
def Tx.ě:=T.f 11 rfl
def Tx.ō:=T.f 12 rfl
def Tx.Ť:=T.f 13 rfl
def Tx.vK:=T.f 14 rfl
def Tx.vZ:=T.f 15 rfl
def Tx.vE:=T.f 16 rfl
def Tx.Ů:=T.f 17 rfl
def Tx.vp:=T.f 18 rfl
def Tx.vH:=T.f 19 rfl
def Tx.ċ:=T.f 20 rfl
def Tx.Ż:=T.f 21 rfl
def Tx.ņ:=T.f 22 rfl
def Tx.Ě:=T.f 23 rfl
def Tx.Ś:=T.f 24 rfl
def Tx.š:=T.f 25 rfl
def Tx.ò:=T.f 26 rfl
def Tx.ĥ:=T.f 27 rfl
def Tx.Ň:=T.f 28 rfl
def Tx.ŷ:=T.f 29 rfl
def Tx.vI:=T.f 30 rfl
def Tx.ů:=T.f 31 rfl
def Tx.vO:=T.f 32 rfl
def Tx.Ŕ:=T.f 33 rfl
def Tx.ž:=T.f 34 rfl
def Tx.vN:=T.f 35 rfl
def Tx.Ū:=T.f 36 rfl
def Tx.wJ:=T.f 37 rfl
def Tx.vF:=T.f 38 rfl
def Tx.Ź:=T.f 39 rfl
def Tx.ĺ:=T.f 40 rfl
def Tx.vJ:=T.f 41 rfl
def Tx.vr:=T.f 42 rfl
def Tx.ŗ:=T.f 43 rfl
def Tx.wb:=T.f 44 rfl
def Tx.ĩ:=T.f 45 rfl
def Tx.wh:=T.f 46 rfl
def Tx.Ņ:=T.f 47 rfl
def Tx.w4:=T.f 48 rfl
def Tx.vL:=T.f 49 rfl
def Tx.wm:=T.f 50 rfl
def Tx.Ŗ:=T.f 51 rfl
def Tx.Ž:=T.f 52 rfl
def Tx.ř:=T.f 53 rfl
def Tx.ġ:=T.f 54 rfl
def Tx.vW:=T.f 55 rfl
def Tx.vz:=T.f 56 rfl
def Tx.Ţ:=T.f 57 rfl
def Tx.we:=T.f 58 rfl
def Tx.Ľ:=T.f 59 rfl
def Tx.vB:=T.f 60 rfl
def Tx.ź:=T.f 61 rfl
def Tx.vM:=T.f 62 rfl
def Tx.ŧ:=T.f 63 rfl
def Tx.Ű:=T.f 64 rfl
def Tx.vA:=T.f 65 rfl
def Tx.Ŷ:=T.f 66 rfl
def Tx.Ŭ:=T.f 67 rfl
def Tx.ŀ:=T.f 68 rfl
def Tx.ū:=T.f 69 rfl
def Tx.law:=T.f 70 rfl
def Tx.vw:=T.b 0 rfl
def Tx.wc:=T.b 1 rfl
def Tx.xC:=T.b 2 rfl
def Tx.ó:=T.b 3 rfl
def Tx.ũ:=T.b 4 rfl
def Tx.È:=T.b 5 rfl
def Tx.Ò:=T.b 6 rfl
def Tx.vq:=T.b 7 rfl
def Tx.xF:=T.b 8 rfl
def Tx.xj:=T.b 9 rfl
def Tx.ĕ:=T.b 10 rfl
def Tx.vg:=T.b 11 rfl
def Tx.wH:=T.b 12 rfl
def Tx.wz:=T.b 13 rfl
def Tx.í:=T.Ê 0 rfl
def Tx.ê:=T.Ê 1 rfl
def Tx.ė:=T.Ê 2 rfl
def Tx.Ā:=T.Ê 3 rfl
def Tx.ę:=T.Ê 4 rfl
def Tx.ă:=T.Ê 5 rfl
def Tx.Ď:=T.Ê 6 rfl
def Tx.Ē:=T.Ê 7 rfl
def Tx.Ğ:=T.Ê 8 rfl
def Tx.ą:=T.Ê 9 rfl
def Tx.ś:=T.Ê 10 rfl
def Tx.Ĺ:=T.Ê 11 rfl
def Tx.Ļ:=T.Ê 12 rfl
def Tx.Ĳ:=T.Ê 13 rfl
def Tx.ù:=T.Ê 15 rfl
def Tx.è:=T.Ô 0 rfl
def Tx.ø:=T.Ô 1 rfl
def Tx.ü:=T.Ô 2 rfl
def Tx.Õ:=T.Ô 3 rfl
def Tx.Ĕ:=T.Ô 4 rfl
def Tx.é:=T.Ô 5 rfl
def Tx.Ç:=T.Ô 6 rfl
def Tx.ç:=T.Ô 7 rfl
def Tx.Ø:=T.Ô 8 rfl
def Tx.ā:=T.Ô 9 rfl
def Tx.â:=T.Ô 10 rfl
def Tx.ð:=T.Ô 11 rfl
def Tx.ô:=T.ķ 0 rfl
def Tx.Ï:=T.ķ 1 rfl
def Tx.Į:=T.ķ 2 rfl
def Tx.İ:=T.ķ 3 rfl
def Tx.vf:=T.ķ 4 rfl
def Tx.ÿ:=T.Ŋ 0 rfl
def Tx.Ċ:=T.Ŋ 1 rfl
def Tx.Þ:=T.Ŋ 2 rfl
def Tx.Ú:=T.Ŋ 3 rfl
end
abbrev lawLevel:Nat:=40
end
set_option maxHeartbeats 4000000
section
variable {P:Program}{w:World}{K:Frag}{mg:Str->Option Value}{base:Heap}{a:Ad}
local macro_rules | `(tactic| walk_at "0") => `(tactic| first | assumption | exact AA | exact BC (by assumption) _ _ _ (by walk_at "0"))
local macro_rules | `(tactic| walk_at "5") => `(tactic| first | (with_reducible refine hideAll ?_; intro Dzz σzz) | with_reducible refine Pa ?_ | refine ⟨_, rfl, ?_⟩ | refine ⟨_, _, rfl, rfl, ?_⟩ | refine ⟨_, _, _, _, rfl, rfl, AH.of (by walk_at "0"), (by assumption), ?_⟩ | refine And.intro rfl ?_ | refine And.intro (Bh rfl) ?_ | refine And.intro (by first | decide | lia | omega) ?_ | refine And.intro ⟨by first | decide | lia | omega, by first | decide | lia | omega⟩ ?_ | refine And.intro (.inl ⟨by first | decide | lia | omega, by first | decide | lia | omega⟩) ?_ | refine And.intro (.inr ⟨by first | decide | lia | omega, by first | decide | lia | omega⟩) ?_ | refine ⟨_, _, rfl, BS.of (by first | exact AA | assumption), rfl, ?_⟩)
local macro_rules | `(tactic| walk_at "3") => `(tactic| first | walk_at "5" | refine ⟨_, _, _, rfl, (by assumption), rfl, ?_⟩ | refine ⟨_, _, rfl, (by assumption), ?_⟩)
local macro_rules | `(tactic| walk_at "2") => `(tactic| repeat (walk_at "3"))
local macro_rules | `(tactic| walk) => `(tactic| walk_at "2")
local macro_rules | `(tactic| walk_at "1") => `(tactic| refine ⟨_, _, rfl, ?_⟩)
local macro_rules | `(tactic| x_go) => `(tactic| walk_at "1")
local macro_rules | `(tactic| walk_at "4") => `(tactic| repeat (walk_at "5"))
local macro_rules | `(tactic| z_run) => `(tactic| walk_at "4")
def bY(T:Tx K mg a):AG P w K mg base BL 1 a.Ę a.ļ ["self","at"] (OX a.æ "at"):=by
 refine T.Æ.fi.ok nU (λvs H Q E h=>?_) (λI A outer s H vs Q E W h=>?_)
 .obtain⟨e,i,rfl,_⟩:=h;rfl
 obtain⟨e,i,rfl,G,hi,q⟩:=h;exact⟨_,(AI (DR (Tb T.bi rfl T.Û.mg (AC (pv 0) (AC (P7 AN (KD (pv 1)) AN) AE)))) (AJ (Ta (pv 0) (pv 1) rfl))),_,rfl,_,rfl,by decide,_,rfl,i,rfl,hi,λx J=>⟨x,rfl,J,_,rfl,by decide,λy=>⟨e,a.æ,none,some a.Ę,y,rfl,G,T.Æ.cls,_,rfl,_,rfl,e,a.æ,rfl,G,T.Æ.xf,λdx F=>q dx F⟩⟩⟩
def oU(T:Tx K mg a):AG P w K mg base BL 1 a.ğ a.Ō ["self","by"] (OX a.Ė "by"):=by
 refine T.á.fi.ok nV (λvs H Q E h=>?_) (λI A outer s H vs Q E W h=>?_)
 .obtain⟨e,i,rfl,_⟩:=h;rfl
 obtain⟨e,i,rfl,G,hi,q⟩:=h;exact⟨_,(AI (DR (Tb T.bi rfl T.Û.mg (AC (pv 0) (AC (Qu AN (KD (pv 1))) AE)))) (AJ (Ta (pv 0) (pv 1) rfl))),_,rfl,_,rfl,by decide,_,rfl,i,rfl,hi,λx J=>⟨x,rfl,J,λy=>⟨e,a.Ė,none,some a.ğ,y,rfl,G,T.á.cls,_,rfl,_,rfl,e,a.Ė,rfl,G,T.á.xf,λdx F=>q dx F⟩⟩⟩
def oV(T:Tx K mg a):AG P w K mg base BL 1 a.Ġ a.Ŀ ["self","by"] (OX a.ć "by"):=by
 refine T.ä.fi.ok nW (λvs H Q E h=>?_) (λI A outer s H vs Q E W h=>?_)
 .obtain⟨e,i,rfl,_⟩:=h;rfl
 obtain⟨e,i,rfl,G,hi,q⟩:=h;exact⟨_,(AI (DR (Tb T.bi rfl T.Û.mg (AC (pv 0) (AC (Qu AN (KD (pv 1))) AE)))) (AJ (Ta (pv 0) (pv 1) rfl))),_,rfl,_,rfl,by decide,_,rfl,i,rfl,hi,λx J=>⟨x,rfl,J,λy=>⟨e,a.ć,none,some a.Ġ,y,rfl,G,T.ä.cls,_,rfl,_,rfl,e,a.ć,rfl,G,T.ä.xf,λdx F=>q dx F⟩⟩⟩
def oW(T:Tx K mg a):AG P w K mg base BL 1 a.č a.Ĭ ["self","words"] (OX a.Ý "words"):=by
 refine T.Ä.fi.ok nX (λvs H Q E h=>?_) (λI A outer s H vs Q E W h=>?_)
 .obtain⟨e,i,rfl,_⟩:=h;rfl
 obtain⟨e,i,rfl,G,hi,q⟩:=h;exact⟨_,(AI (DR (Tb T.bi rfl T.Û.mg (AC (pv 0) (AC (P7 AN (KD (pv 1)) AN) AE)))) (AJ (Ta (pv 0) (pv 1) rfl))),_,rfl,_,rfl,by decide,_,rfl,i,rfl,hi,λx J=>⟨x,rfl,J,_,rfl,by decide,λy=>⟨e,a.Ý,none,some a.č,y,rfl,G,T.Ä.cls,_,rfl,_,rfl,e,a.Ý,rfl,G,T.Ä.xf,λdx F=>q dx F⟩⟩⟩
def oX(K:Frag):Sp:=λvs H Q _=>∃(l:Addr) (k:Int) (ns:List Int),vs=[.ref l,.int k]/\AH K H l (ns.map V.int)/\0<=k/\∀z,Q (.int z) H
def bZ(T:Tx K mg a):AG P w K mg base BL 1 (a.f 64) (a.d 64) ["_law_script","_law_k"] (oX K):=by
 refine T.Ű.fn.ok nR (by fin2) (λJ A outer s H vs Q E W h=>?_);obtain⟨l,k,ns,rfl,G,I,q⟩:=h;refine⟨_,(AI (BY (BX NX (pv 1) (CS (GA K rfl) rfl T.Ò ET (AC (pv 0) AE)) (BF _)) (AJ (AY (CT (EO K rfl) (pv 0) (pv 1) (λ_ _=>rfl)))) CH)
  (AJ (AY AL))),?_⟩
 walk;refine⟨l,_,rfl,.inl G,?_⟩;walk;refine å (λc=>?_) (λc=>?_)
 .have F:=Ag c;rw[A8]at F
  walk;exact⟨l,_,_,_,rfl,rfl,G,gN I F,q _⟩
 .exact q _
def oY:Sp:=λvs H Q _=>∃t o:Int,vs=[.int t,.int o]/\0<=t/\0<=o/\o<128/\Q (.bl (Mt.has t o)) H
def oZ(T:Tx K mg a):AG P w K mg base BL 1 (a.f 48) (a.d 48) ["teeth","others"] oY:=by
 refine T.w4.fn.ok nL (by fin2) (λF A outer s H vs Q E I h=>?_);obtain⟨t,o,rfl,h1,h2,G,q⟩:=h;refine⟨_,(AJ (AY (FU EI (BG fD (pv 0) (pv 1)) (pv 1) (BF _)))),?_⟩;walk;rw[OK,Mt.i0 h1 h2 G];exact q
def pb(K:Frag):Sp:=λvs H Q _=>∃(l:Addr) (t:Int) (cs:List Int),vs=[.ref l,.int t]/\AH K H l (cs.map V.int)/\(∀c∈cs,0<=c)/\0<=t/\t<128/\∀H',AD H H'->Q (Nq (LL cs t)) H'
def pf(T:Tx K mg a):AG P w K mg base BL 2 (a.f 49) (a.d 49) ["codes","teeth"] (pb K):=by
 refine T.vL.fn.ok W5 (by fin2) (λac A outer s H vs Q E hr h=>?_);obtain⟨l,t,cs,rfl,hS,hc,h0,h1,q⟩:=h;refine⟨_,(AI (IR Bm rfl (Q8 K rfl rfl T.ó (AC (pv 0) AE)) (FX K rfl (n:=2) rfl (BJ (AO 2 W5.nd) (BJ (AO 3 W5.nd) FD))) (AJ (BY (GU (CK T.w4 (oZ T) hr rfl (AC (pv 3) (AC (pv 1) AE)))) (AJ (AY (pv 2))) CH)))
  (AJ (AY JU))),?_⟩
 walk;refine⟨⟨_,hS⟩,?_⟩;refine Rg (a:=l) (xs:=cs.map V.int) (λi σ H2=>∃(W Y:Option V),σ=[some (.ref l),some (.int t),W,Y]/\AD H H2/\∀(j:Nat) F,j<i->cs[j]?=some F->Mt.has F t=false)
  ⟨none,none,rfl,AD.refl _,λj _ h=>absurd h (Ds _)⟩ (by rintro i σ H2 _ ⟨_,_,_,I,_⟩;exact I.seq hS) ?_ ?_
 .rintro i y p σ H2 hy ⟨W,Y,rfl,I,hb⟩ hp;obtain⟨c,rfl,J⟩:=SM hy;have G:=EU (o:=.tup [.int i,.int c]) I hp;walk;x_go;x_go;walk;refine⟨_,_,rfl,hc c (Af J),h0,h1,?_⟩;walk;cases e:Mt.has c t with
  | true =>
    refine AQ ?_;walk;have:=q _ G;rw[Mt.i3 J e hb]at this
    exact this
  | false =>
    refine AK ⟨_,_,rfl,G,λj F Z aa=>?_⟩
    grind
 .rintro σ H2 ⟨W,Y,rfl,I,hb⟩;have:=q _ I;rw[Mt.i4 (λj F Z=>hb j F (by rw[A8];exact Z))]at this
  exact this
def pj(K:Frag):Sp:=λvs H Q _=>∃(l:Addr) (x:Str) (rs:List BN),vs=[.ref l,.str x]/\Cs.JG K H l rs/\∀H',AD H H'->Q (Nq (DW rs x)) H'
def QH(T:Tx K mg a):AG P w K mg base BL 1 (a.f 5) (a.d 5) ["case","sign"] (pj K):=by
 refine T.ñ.fn.ok VY (by fin2) (λac A outer s H vs Q E hr h=>?_);obtain⟨l,x,rs,rfl,⟨xs,hS,hp⟩,q⟩:=h;refine⟨_,(AI (IR Bm rfl (Q8 K rfl rfl T.ó (AC (pv 0) AE)) (FX K rfl (n:=2) rfl (BJ (AO 2 VY.nd) (BJ (AO 3 VY.nd) FD))) (AJ (BY (BX EI (CT (KP K rfl) (pv 3) AL (λ_ _=>rfl)) (pv 1) (BF _)) (AJ (AY (pv 2))) CH)))
  (AJ (AY JU))),?_⟩
 walk;try refine⟨⟨_,hS⟩,?_⟩
 let Izz:zT:=λi σ H2=>∃(J W:Option V),σ=[some (.ref l),some (.str x),J,W]/\AD H H2/\∀(j:Nat) r,j<i->rs[j]?=some r->r.s≠x
 refine Rg (a:=l) (xs:=xs) Izz
  ⟨none,none,rfl,AD.refl _,λj _ h=>absurd h (Ds _)⟩ (by rintro i σ H2 _ ⟨_,_,_,I,_⟩;exact I.seq hS) ?_ ?_
 .rintro i y p σ H2 hy ⟨J,W,rfl,I,hb⟩ Y;obtain⟨r,Z,t,rfl,ht⟩:=IG hp hy;have F:=EU (o:=.tup [.int i,.ref t]) I Y;walk;x_go;x_go;walk;refine CA t _ _ _ (CQ rfl rfl (BS.of (F _ _ ht)) rfl ?_);walk;rw[EV];by_cases e:r.s=x
  .rw[Ac e];refine AQ ?_;walk;have:=q _ F;rw[Cs.ia Z e hb]at this
   exact this
  .rw[Ak e];refine AK ⟨_,_,rfl,F,λj r' hj aa=>?_⟩
   grind
 .refine λσ H2=>FO λJ W=>FN λG I hb=>?_;subst G;have:=q _ I;rw[Cs.ic (λj r hj=>hb j r (by rw[Nt hp];exact hj))]at this
  exact this
def pw(K:Frag):Sp:=λvs H Q _=>∃(l:Addr) (rs:List BN),vs=[.ref l]/\Cs.JG K H l rs/\rs.length<=1000/\∀(r:Addr) H',H r=none->AD H H'->H' r=some (.lst ((rs.map λx=>x.t).map V.int))->Q (.ref r) H'
def cg(T:Tx K mg a):AG P w K mg base BL 1 (a.f 8) (a.d 8) ["case"] (pw K):=by
 refine T.œ.fn.ok nt (by fin2) (λac A outer s H vs Q E hr h=>?_);obtain⟨l,rs,rfl,⟨xs,hS,Y⟩,hl,q⟩:=h;refine⟨_,(AJ (AY (DO ["case","sign","width","teeth","many"] [] 4 (GC K rfl (pv 0)) (FX K rfl (n:=4) rfl (BJ (BD 1) (BJ (BD 2) (BJ (BD 3) (BJ (BD 4) FD))))) HH (pv 3)))),?_⟩;have aa:=Nt Y;z_run;intro D hD;refine IX (a:=l) (xs:=xs) (λi ys σ H2=>∃(W Z J v4:Option V),ys=((rs.take i).map λx=>x.t).map V.int/\σ=[some (.ref l),W,Z,J,v4]/\AD H H2/\H2 D=some (.lst ys))
  ?_ ?_ ?_ ?_
 .exact⟨none,none,none,none,rfl,rfl,BC hD _,AA⟩
 .exact λi ys σ H2 _ ⟨_,_,_,_,_,_,F,_⟩=>F.seq hS
 .rintro i y ys σ H2 hy G ⟨W,Z,J,v4,rfl,rfl,F,hh⟩;obtain⟨r,I,t,rfl,ht⟩:=IG Y hy;refine⟨_,_,rfl,BS.of (F _ _ ht),rfl,?_⟩;x_go;x_go;x_go;x_go;z_run;refine FW G hh ?_ ⟨_,_,_,_,?_,rfl,EH F hD,AA⟩
  .grind
  .rw[Ao,I,Ai,Ai];rfl
 grind
theorem cj(z:Int):∀zs:List Int,L7 (.int z) (zs.map V.int)=decide (z∈zs)
 | []=>rfl
 | y::zs=>by
   have ih:=cj z zs;unfold L7 at ih⊢;rw[Bl,Df,ih];have e:LX (V.int y) (V.int z)=decide (z=y):=by
    show(y==z)=_;rw[Cy,Bp,B6];exact eq_comm
   rw[e,<-Bool.decide_or,D9];exact Aw.symm
theorem ck:∀zs:List Int,(zs.map V.int).all MX=true
 | []=>rfl
 | y::zs=>by
   rw[Bl,Fw,ck zs];rfl
def pz:Sp:=λvs H Q _=>∃x:Str,vs=[.str x]/\Ls 1000 x/\Q (.bl (Nz x)) H
def cm(T:Tx K mg a):AG P w K mg base BL 1 (a.f 1) (a.d 1) ["text"] pz:=by
 refine T.vn.fn.ok nj (by fin2) (λY A outer s H vs Q E Z h=>?_);obtain⟨x,rfl,J,q⟩:=h;have W:x.cps.toList.length=x.length:=B0;refine⟨_,(AJ (AY (HL (FU EI (CS Q0 rfl T.Ò ET (AC (pv 0) AE)) AL (BF _)) (Ki (FU UF (pv 0) (FC (v:=.str "abcdefghijklmnopqrstuvwxyz.,-'") rfl T.wk ⟨_,rfl⟩) (by with_unfolding_all rfl)))))),?_⟩;z_run;refine⟨DU (by have:=J.1;lia),?_⟩;z_run;refine å (λF=>?_) (λF=>?_)
 .have F:=Ag F;have F:=V.int.inj F;obtain⟨c,I⟩:∃c,x.cps.toList=[c]:=List.length_eq_one_iff.mp (by lia);have ex:x=sg c:=Yq I;have G:c<128:=J.2 c (by rw[I];exact Az.mpr rfl);z_run;unfold Nz at q;rw[I]at q
  rw[ex];have e:=Cs.kG c G
  lia
 .have F:=λz=>F (Ac (C6 V.int z))
  have e:Nz x=false:=by
   unfold Nz
   grind
  rw[e]at q
  exact q
def pA(K:Frag):Sp:=λvs H Q _=>∃(t:Addr) (r:BN),vs=[.ref t]/\H t=some (.tup (JN r))/\Ls 1000 r.s/\Q (.bl (RG r)) H
def pC(T:Tx K mg a):AG P w K mg base BL 2 (a.f 2) (a.d 2) ["channel"] (pA K):=by
 refine T.ŭ.fn.ok RX (by fin2) (λZ A outer s H vs Q E hr h=>?_);obtain⟨t,r,rfl,ht,hs,q⟩:=h;have iff:RG r=true↔Nz r.s=true/\(1<=r.w/\r.w<=99)/\(0<=r.t/\r.t<=127)/\(0<=r.n/\r.n<=40):=by
  unfold RG
  lia
 have qt:Nz r.s=true/\(1<=r.w/\r.w<=99)/\(0<=r.t/\r.t<=127)/\(0<=r.n/\r.n<=40)->Q (.bl true) H:=λh=>by rw[iff.mpr h]at q;exact q
 have qf:¬(Nz r.s=true/\(1<=r.w/\r.w<=99)/\(0<=r.t/\r.t<=127)/\(0<=r.n/\r.n<=40))->Q (.bl false) H:=λh=>by
  lia
 clear q iff;refine⟨_,(AI (HY (pv 0) (FX K rfl (n:=4) rfl (BJ (AO 1 RX.nd) (BJ (AO 2 RX.nd) (BJ (AO 3 RX.nd) (BJ (AO 4 RX.nd) FD))))))
  (AJ (AY (HL (CK T.vn (cm T) hr rfl (AC (pv 1) AE)) (HL (Sv L6 L6 AL (pv 2) AL) (HL (Sv L6 L6 AL (pv 3) AL) (Ki (Sv L6 L6 AL (pv 4) AL)))))))),?_⟩
 z_run;try refine⟨_,_,rfl,BS.of ht,rfl,?_⟩
 x_go;x_go;x_go;x_go;z_run;try refine⟨r.s,rfl,hs,?_⟩
 try refine⟨_,rfl,?_⟩
 cases I:Nz r.s with
 | false =>
   lia
 | true =>
   rw[I]at qt qf
   try refine AQ ?_
   z_run;refine å (λF=>?_) (λF=>?_)
   .have F:=Ag F;z_run;refine å (λG=>?_) (λG=>?_)
    .have G:=Ag G;z_run;refine å (λJ=>?_) (λJ=>?_)
     .have J:=Ag J;z_run;refine å (λY=>?_) (λY=>?_)
      .have Y:=Ag Y;z_run;refine å (λW=>?_) (λW=>?_)
       .have W:=Ag W;z_run
        lia
       lia
      lia
     lia
    lia
   lia
def pD(K:Frag):Sp:=λvs H Q _=>∃(l t:Addr) (F:List BN) (r:BN),vs=[.ref l,.ref t]/\Cs.JG K H l F/\F.length<=1000/\H t=some (.tup (JN r))/\Ls 1000 r.s/\∀H',AD H H'->Q (.bl (OY F r)) H'
def pE(T:Tx K mg a):AG P w K mg base BL 3 (a.f 3) (a.d 3) ["ahead","channel"] (pD K):=by
 refine T.ż.fn.ok RY (by fin2) (λac A outer s H vs Q E Z h=>?_);revert h;refine GJ λl t I r=>GH λJ hC hl ht hs q=>?_;subst J;unfold OY at q;refine⟨_,(AI (HY (pv 1) (FX K rfl (n:=4) rfl (BJ (AO 2 RY.nd) (BJ (AO 3 RY.nd) (BJ (AO 4 RY.nd) (BJ (AO 5 RY.nd) FD))))))
  (AJ (AY (HL (CK T.ŭ (pC T) Z rfl (AC (pv 1) AE)) (HL (Oo (QX (CK T.ñ (QH T) Z rfl (AC (pv 0) (AC (pv 2) AE))))) (Ki (FU (hV K rfl) (pv 4) (CK T.œ (cg T) Z rfl (AC (pv 0) AE)) (by with_unfolding_all rfl)))))))),?_⟩
 z_run;try refine⟨_,_,rfl,BS.of ht,rfl,?_⟩
 x_go;x_go;x_go;x_go;try refine And.intro rfl ?_
 refine⟨_,rfl,t,r,rfl,ht,hs,?_⟩;try refine⟨_,rfl,?_⟩
 cases W:RG r with
 | false =>
   rw[W]at q
   try refine AK ?_
   exact q H (AD.refl _)
 | true =>
   rw[W]at q
   try refine AQ ?_
   refine⟨_,rfl,_,rfl,l,r.s,I,rfl,hC,λH1 F=>?_⟩;try refine⟨_,rfl,?_⟩
   cases G:DW I r.s with
   | some k =>
     rw[G]at q
     try refine⟨_,rfl,?_⟩
     try refine AK ?_
     exact q H1 F
   | none =>
     rw[G]at q
     try refine⟨_,rfl,?_⟩
     try refine AQ ?_
     refine AX _ (CC rfl ?_);try refine⟨_,rfl,?_⟩
     refine BK l I (BP rfl (hC.same F) hl (λp H2 ad aa hp=>?_));have Y:L7 (.int r.t) ((I.map λx=>x.t).map V.int)=decide (r.t∈I.map λx=>x.t):=cj _ _;refine BK p _ (CQ rfl (.inl (AH.of hp)) rfl (ck _) ?_);rw[Y];exact q H2 (F.trans aa)
def pF(xs:List V)(n:Nat)(h:n<=xs.length):EJ xs none (some (n:Int))=xs.take n:=by
 unfold EJ;have F:HT.CY xs.length 0 none=0:=rfl;rw[HT.SE,F,List.drop_zero,F2 h,Kb]
theorem cn{α β:Type}{F:α->β->Prop}:∀(n:Nat) {xs:List α}{ys:List β},Paired F xs ys->Paired F (xs.take n) (ys.take n)
 | 0,_,_,_=>.nil
 | _+1,_,_,.nil=>.nil
 | n+1,_,_,.cons r t=>.cons r (cn n t)
def pG(K:Frag)(C:Addr):Sp:=λvs H Q E=>∃(l:Addr) (xs:List V) (rs:List BN),vs=[.ref l]/\H l=some (.lst xs)/\Paired (Cs.HP H) xs rs/\rs.length<=1000/\(∀r∈rs,Ls 1000 r.s) /\
 (∀H' dx (k:Nat),AD H H'->H' dx=none->Cs.Looks rs (some k)->E (.ref C) (some dx) (upd H' dx (.xd [("at",.int (k:Int))]))) /\
 (∀H',AD H H'->Cs.Looks rs none->Q .non H')
def pH(T:Tx K mg a):AG P w K mg base (DG P w) 4 (a.f 4) (a.d 4) ["case"] (pG K a.æ):=by
 refine T.ł.fn.Ő VX (by fin2) (λam A outer s H vs Q E hr h=>?_);obtain⟨l,xs,rs,rfl,hl,W,an,ah,qx,q⟩:=h;have Z:=Nt W;refine⟨_,(AI (BY (BX EI (CS (GA K rfl) rfl T.Ò ET (AC (pv 0) AE)) AL (BF _)) (AJ (RE T.Æ (bY T) hr rfl rfl rfl (AC AL AE))) CH)
  (AJ (IR (O8 rfl) rfl (Q8 K rfl rfl T.ó (AC (pv 0) AE)) (FX K rfl (n:=2) rfl (BJ (AO 1 VX.nd) (BJ (AO 2 VX.nd) FD))) (AJ (BY (LV (GU (CK T.ż (pE T) hr rfl (AC (NZ (Q7 K rfl) (pv 0) SG (LK (pv 1))) (AC (pv 2) AE))))) (AJ (RE T.Æ (bY T) hr rfl rfl rfl (AC (pv 1) AE))) CH))))),?_⟩
 refine⟨_,rfl,l,_,rfl,.inl (AH.of hl),And.intro rfl ⟨_,rfl,å (λc=>?_) (λc=>?_)⟩⟩
 .have c:=Ag c;have c:=V.int.inj c;have ag:rs=[]:=Dd.mp (by lia);z_run;exact λdx J=>qx H dx 0 (AD.refl _) J (.none0 ag)
 have c:=λz=>c (Ac (C6 V.int z))
 have af:rs≠[]:=λz=>c (by rw[Z,z];rfl)
 z_run;try refine⟨⟨_,AH.of hl⟩,?_⟩
 refine Rg (a:=l) (xs:=xs) (λi σ H2=>∃(v1 v2:Option V),σ=[some (.ref l),v1,v2]/\AD H H2/\Cs.OZ rs i)
  ⟨none,none,rfl,AD.refl _,λi r h=>absurd h (Ds _)⟩ (λi σ H2 _ ⟨_,_,_,hs,_⟩=>hs.seq (AH.of hl)) ?_ ?_
 .rintro i y p σ H2 hy ⟨v1,v2,rfl,hs,F⟩ al;obtain⟨r,Y,t,rfl,ht⟩:=IG W hy;have I:=EU (o:=.tup [.int i,.ref t]) hs al;have ai:=I _ _ ht;z_run;x_go;x_go;try refine And.intro rfl ?_
  generalize upd H2 p (.tup [.int i,.ref t])=H3 at I ai⊢;z_run;refine⟨l,_,rfl,AH.of (I _ _ hl),λp4 ak=>?_⟩;have aj:i<=xs.length:=by
   grind
  rw[pF xs i aj];have G:=EU (o:=.lst (xs.take i)) I ak;have ae:upd H3 p4 (.lst (xs.take i)) p4=some (.lst (xs.take i)):=AA;have ad:=G _ _ ht;generalize upd H3 p4 (.lst (xs.take i))=H4 at G ae ad⊢;refine⟨_,rfl,p4,t,rs.take i,r,rfl,⟨_,AH.of ae,cn i (KA W G)⟩,by rw[Bb];lia,ad,ah r (Af Y),λH5 aa=>⟨_,rfl,?_⟩⟩;cases ac:OY (rs.take i) r with
  | true =>
    exact AK ⟨_,_,rfl,G.trans aa,F.succ Y ac⟩
  | false =>
    refine AQ ?_;z_run;exact λdx J=>qx H5 dx i (G.trans aa) J (.bad F Y ac)
 .rintro σ H2 ⟨v1,v2,rfl,hs,F⟩;rw[Z]at F
  exact q H2 hs (.good af F)
def pI(K:Frag):Sp:=λvs H Q _=>∃(l:Addr) (x:Str) (rs:List BN),vs=[.ref l,.str x]/\Cs.JG K H l rs/\x.length<=1000/\(∀c∈x.cps.toList,(DW rs (sg c)).isSome=true)/\∀H',AD H H'->Q (.int (L8 rs x)) H'
def cq(T:Tx K mg a):AG P w K mg base BL 2 (a.f 7) (a.d 7) ["case","word"] (pI K):=by
 refine T.ť.fn.ok nr (by fin2) (λad A outer s H vs Q E hr h=>?_);obtain⟨l,x,rs,rfl,hC,hx,W,q⟩:=h;refine⟨_,(AJ (AY (CS (OP K rfl rfl) rfl T.wH US (AC (DO ["case","word","sign"] [] 1 (Qa (pv 1)) (BD 2) HH (CT (KP K rfl) (CT (EO K rfl) (pv 0) (CK T.ñ (QH T) hr rfl (AC (pv 0) (AC (pv 2) AE))) (λ_ _=>rfl)) AL (λ_ _=>rfl))) AE)))),?_⟩;have ac:x.cps.size<=1000:=hx;walk;intro D hD;refine Rl (x:=x) (λi ys σ H2=>∃(v2:Option V),ys=((x.cps.toList.take i).map λc=>Rn rs (sg c)).map V.int/\σ=[some (.ref l),some (.str x),v2]/\AD H H2/\H2 D=some (.lst ys))
  ?_ ?_ ?_
 .exact⟨none,rfl,rfl,BC hD _,AA⟩
 .rintro i c ys σ H2 hc aa ⟨v2,rfl,rfl,J,Y⟩;have I:x.cps.toList[i]?=some c:=by simpa using hc
  obtain⟨k,hk⟩:=Dw.mp (W c (Af I));walk;refine⟨l,sg c,rs,rfl,hC.same J,λH3 F=>?_⟩;rw[hk];obtain⟨xs,hS,hp⟩:=hC.same (J.trans F);have G:=SW hk;obtain⟨y,hy,t,et,ht⟩:=Cs.O4 hp (A9 G);have Z:EN xs (k:Int)=some (.ref t):=by rw[<-et];exact HZ hy
  refine⟨l,_,_,_,rfl,rfl,hS,Z,?_⟩;walk;refine⟨t,_,_,_,rfl,rfl,BS.of ht,rfl,FW aa (F _ _ Y) ?_ ⟨_,?_,rfl,EH (J.trans F) hD,AA⟩⟩
  .grind
  .rw[Ao,I,Ai,Ai];show _=_++[V.int (Rn rs (sg c))]
   rw[Cs.ie hk G]
 .rintro ys σ H2 ⟨v2,rfl,rfl,J,Y⟩;rw[Aj (by simp)]at Y
  exact⟨D,_,rfl,AH.of Y,q _ J⟩
def pJ(K:Frag):Sp:=λvs H Q _=>∃(l p:Addr) (rs:List BN) (ws:List Str),vs=[.ref l,.ref p]/\Cs.JG K H l rs/\AH K H p (ws.map V.str)/\ws.length<=1000/\(∀x∈ws,x.length<=1000/\∀c∈x.cps.toList,(DW rs (sg c)).isSome=true)/\∀H',AD H H'->Q (.int (AZ rs ws)) H'
def cu(T:Tx K mg a):AG P w K mg base BL 3 (a.f 9) (a.d 9) ["case","line"] (pJ K):=by
 refine T.vm.fn.ok nu (by fin2) (λac A outer s H vs Q E hr h=>?_);obtain⟨l,p,rs,ws,rfl,hC,Z,aa,hw,q⟩:=h;refine⟨_,(AJ (AY (CS (OP K rfl rfl) rfl T.wH US (AC (DO ["case","line","word"] [] 1 (GC K rfl (pv 1)) (BD 2) HH (CK T.ť (cq T) hr rfl (AC (pv 0) (AC (pv 2) AE)))) AE)))),?_⟩;walk;try refine⟨⟨_,Z⟩,?_⟩
 intro D hD;refine IX (a:=p) (xs:=ws.map V.str) (λi ys σ H2=>∃(W:Option V),ys=((ws.take i).map λx=>L8 rs x).map V.int/\σ=[some (.ref l),some (.ref p),W]/\AD H H2/\H2 D=some (.lst ys))
  ?_ ?_ ?_ ?_
 .exact⟨none,rfl,rfl,BC hD _,AA⟩
 .exact λi ys σ H2 _ ⟨_,_,_,F,_⟩=>F.seq Z
 .rintro i y ys σ H2 hy Y ⟨W,rfl,rfl,F,J⟩;obtain⟨x,rfl,I⟩:=Y3 hy;obtain⟨h1,h2⟩:=hw x (Af I);walk;refine⟨l,x,rs,rfl,hC.same F,h1,h2,λH3 G=>FW Y (G _ _ J) ?_ ⟨_,?_,rfl,EH (F.trans G) hD,AA⟩⟩
  .grind
  .rw[Ao,I,Ai,Ai];rfl
 .rintro ys σ H2 ⟨W,rfl,rfl,F,J⟩;rw[A8,Aj (Aa _)]at J
  exact⟨D,_,rfl,AH.of J,q _ F⟩
def Pf{K:Frag}(e:AD H H')(h:BS K H b xs):BS K H' b xs:=h.imp (λh=>h.imp (e _ _) λ⟨o,h⟩=>⟨o,e _ _ h⟩) id
def pK(K:Frag):Sp:=λvs H Q _=>∃(sp m lo À hi:Int) (g:Addr),vs=[.int sp,.int m,.ref g]/\BS K H g [.int lo,.int À,.int hi]/\0<=m/\m<=1000/\Q (.int (Ln.misfit sp m lo hi)) H
def cw(T:Tx K mg a):AG P w K mg base BL 1 (a.f 10) (a.d 10) ["spare","many","gaps"] (pK K):=by
 refine T.misfit.fn.ok Tz (by fin2) (λJ A outer s H vs Q E Y h=>?_);revert h;refine EM λsp m lo À hi=>ES λg=>FL λF W G I q=>?_;subst F;unfold Ln.misfit at q;refine⟨_,(AI (HY (pv 2) (FX K rfl (n:=3) rfl (BJ (AO 3 Tz.nd) (BJ (AO 4 Tz.nd) (BJ (AO 5 Tz.nd) FD)))))
  (AI (BY (BX NY (pv 0) (BG OD (pv 1) (pv 5)) (BF _)) (AJ (AY (BG Kj (pv 0) (BG OD (pv 1) (pv 5))))) CH)
  (AJ (AY (CS (fH rfl) rfl T.xj iM (AC (BG Kj (pv 0) (BG OD (pv 1) (pv 3))) (AC AL AE))))))),?_⟩
 walk;try refine⟨_,_,rfl,W,rfl,?_⟩
 x_go;x_go;x_go;walk;refine å (λc=>?_) (λc=>?_)
 .rw[Au (Ag c)]at q
  walk;exact q
 .rw[As (λz=>c (Ac z))]at q
  walk;exact BK _ _ (CC rfl q)
def pL:Sp:=λvs H Q _=>∃a b:Nat,vs=[.int (a:Int),.int (b:Int)]/\∀H',AD H H'->Q (.int ((Nat.gcd a b:Nat):Int)) H'
def pM(T:Tx K mg a):AG P w K mg base BL 1 (a.f 11) (a.d 11) ["one","other"] pL:=by
 refine T.ě.fn.ok ZN (by fin2) (λZ A outer s H vs Q E hr h=>?_);obtain⟨x,y,rfl,q⟩:=h;refine⟨_,(AI (Oy Bm (BX Kx (pv 1) AL (BF _)) (AJ (fh (i:=0) (j:=1) rfl ZN.nd rfl rfl (by decide) rfl rfl (AC (pv 1) (AC (BG NV (pv 0) (pv 1)) AE)) rfl)))
  (AJ (AY (pv 0)))),?_⟩
 refine⟨λm σ H2=>∃u v:Nat,σ=[some (.int (u:Int)),some (.int (v:Int))]/\H2=H/\Nat.gcd u v=Nat.gcd x y/\v=m,⟨y,x,y,rfl,rfl,rfl,rfl⟩,?_⟩;rintro m σ H2 ⟨u,v,rfl,rfl,J,rfl⟩;z_run;refine å (λc=>?_) (λc=>?_)
 .have W:v≠0:=λz=>by
   rw[z]at c
   exact absurd c (by decide)
  refine⟨λG H'=>∃I F:Nat,G=[some (.int (I:Int)),some (.int (F:Int))]/\H'=H2/\Nat.gcd I F=Nat.gcd x y/\F<v,λG H' ⟨I,F,e1,Y,e3,e4⟩=>⟨F,e4,I,F,e1,Y,e3,rfl⟩,?_⟩;z_run;refine⟨_,_,rfl,v,u%v,by rw[Int.natCast_emod];rfl,rfl,?_,Nat.mod_lt _ (by lia)⟩;rw[Nat.gcd_comm v,<-Nat.gcd_rec v u,Nat.gcd_comm v u];exact J
 .have W:v=0:=by
   lia
  z_run;subst W;rw[Nat.gcd_zero_right]at J
  have q:=q _ (AD.refl _);rw[<-J]at q
  exact q
def KZ(F many:Int):Int×Int:=if 0<many then(F/(Nat.gcd F.toNat many.toNat:Nat),many/(Nat.gcd F.toNat many.toNat:Nat))else(0,1)
def pN:Sp:=λvs H Q _=>∃u v:Nat,vs=[.int (u:Int),.int (v:Int)]/\0<v/\v<=1000000/\∀t H',H t=none->AD H H'->H' t=some (.tup [.int ((u:Int)/(Nat.gcd u v:Nat)),.int ((v:Int)/(Nat.gcd u v:Nat))])->Q (.ref t) H'
def pO(T:Tx K mg a):AG P w K mg base BL 2 (a.f 12) (a.d 12) ["top","bottom"] pN:=by
 refine T.ō.fn.ok ZO (by fin2) (λW A outer s H vs Q E Z h=>?_);obtain⟨x,y,rfl,F,I,q⟩:=h;have hg:0<Nat.gcd x y:=Nat.gcd_pos_of_pos_right _ F;refine⟨_,(AI (BH 2 ZO.nd (CK T.ě (pM T) Z rfl (AC (pv 0) (AC (pv 1) AE))))
  (AJ (AY (GV (AC (BG PU (pv 0) (pv 2)) (AC (BG PU (pv 1) (pv 2)) AE)))))),?_⟩
 z_run;refine⟨x,y,rfl,λH1 G=>?_⟩;have J:(0:Int)<((Nat.gcd x y:Nat):Int):=by lia
 have Y:Nat.gcd x y<=y:=Nat.gcd_le_right _ F;z_run;intro t ht;exact q t _ (G.free ht) (EU G ht) AA
def pP(K:Frag)(G F:Addr):Sp:=λvs H Q E=>∃(l p g:Addr) (m lo À hi:Int) (rs:List BN) (ws:List Str),vs=[.ref l,.ref p,.int m,.ref g]/\Cs.JG K H l rs/\AH K H p (ws.map V.str)/\BS K H g [.int lo,.int À,.int hi]/\ws≠[]/\ws.length<=100 /\
 (∀x∈ws,x.length<=1000/\∀c∈x.cps.toList,(DW rs (sg c)).isSome=true)/\0<=lo/\lo<=hi/\hi<=1000/\0<=m/\m<=100000/\0<=AZ rs ws/\AZ rs ws<=10000000 /\
 (∀H' dx,AD H H'->H' dx=none->0<Ln.misfit (m-AZ rs ws) ((ws.length:Int)-1) lo hi->E (.ref G) (some dx) (upd H' dx (.xd [("by",.int (Ln.misfit (m-AZ rs ws) ((ws.length:Int)-1) lo hi))]))) /\
 (∀H' dx,AD H H'->H' dx=none->Ln.misfit (m-AZ rs ws) ((ws.length:Int)-1) lo hi<0->E (.ref F) (some dx) (upd H' dx (.xd [("by",.int (-Ln.misfit (m-AZ rs ws) ((ws.length:Int)-1) lo hi))]))) /\
 (∀t H',H t=none->AD H H'->Ln.misfit (m-AZ rs ws) ((ws.length:Int)-1) lo hi=0->H' t=some (.tup [.int (KZ (m-AZ rs ws) ((ws.length:Int)-1)).1,.int (KZ (m-AZ rs ws) ((ws.length:Int)-1)).2])->Q (.ref t) H')
def cy(T:Tx K mg a):AG P w K mg base (DG P w) 4 (a.f 13) (a.d 13) ["case","line","measure","gaps"] (pP K a.Ė a.ć):=by
 refine T.Ť.fn.Ő TB (by fin2) (λap A outer s H vs Q E hr h=>?_);revert h;refine EM λl p g m lo=>GJ λÀ hi rs ws=>Kf λZ hC hS hG aa al hw=>Kf λW af an am ao aq ar=>FN λq1 q2 q3=>?_;subst Z;refine⟨_,(AI (BH 4 TB.nd (BG Kj (CS (GA K rfl) rfl T.Ò ET (AC (pv 1) AE)) AL))
  (AI (BH 5 TB.nd (BG Kj (pv 2) (CK T.vm (cu T) hr rfl (AC (pv 0) (AC (pv 1) AE)))))
  (AI (BH 6 TB.nd (CK T.misfit (cw T) hr rfl (AC (pv 5) (AC (pv 4) (AC (pv 3) AE)))))
  (AI (BY (BX NY (pv 6) AL (BF _)) (AJ (RE T.á (oU T) hr rfl rfl rfl (AC (pv 6) AE))) CH)
  (AI (BY (BX NX (pv 6) AL (BF _)) (AJ (RE T.ä (oV T) hr rfl rfl rfl (AC (NU NW (pv 6)) AE))) CH)
  (AJ (AY (Nd (BX NY (pv 4) AL (BF _)) (CK T.ō (pO T) hr rfl (AC (pv 5) (AC (pv 4) AE))) (GV (AC AL (AC AL AE))))))))))),?_⟩
 have ai:=Ga.mpr aa;z_run;refine BK p _ (BQ rfl (.inl hS) ?_);rw[A8];z_run;refine CA l p rs ws (GS rfl hC hS (by lia) hw (λH1 F=>?_));z_run;generalize G:Ln.misfit (m-AZ rs ws) ((ws.length:Int)-1) lo hi=off at q1 q2 q3;refine DC _ _ lo À hi (AX g (CQ rfl (Pf F hG) (by lia) (by lia) ?_));rw[G];have ak:-100000000<=off/\off<=100000000:=by
  have h1:(0:Int)<=((ws.length:Int)-1)*hi:=Fk (by lia) (by lia);have h2:((ws.length:Int)-1)*lo<=100*1000:=Int.mul_le_mul (by lia) (by lia) W (by lia);have h3:(0:Int)<=((ws.length:Int)-1)*lo:=Fk (by lia) W;rw[<-G];unfold Ln.misfit;split
  .lia
  .split<;>lia
 z_run;refine å (λc=>?_) (λc=>?_)
 .have c:=Ag c;z_run;exact λdx I=>q1 H1 dx F I c
 .have c:¬0<off:=λz=>c (Ac z)
  z_run;refine å (λY=>?_) (λY=>?_)
  .have Y:=Ag Y;z_run;exact λdx I=>q2 H1 dx F I Y
  .have Y:¬off<0:=λz=>Y (Ac z)
   have h0:off=0:=by lia
   have aj:=(Ln.iZ (sp:=m-AZ rs ws) (E4 af (by lia))).mp (G.trans h0);have ag:0<=m-AZ rs ws:=by
    have h3:(0:Int)<=((ws.length:Int)-1)*lo:=Fk (by lia) W
    lia
   z_run;refine å (λJ=>?_) (λJ=>?_)
   .have J:=Ag J;obtain⟨u,hu⟩:=C1 ag;have hv:(ws.length:Int)-1=((ws.length-1:Nat):Int):=by lia
    have ac:(m-AZ rs ws).toNat=u:=by lia
    have ae:((ws.length:Int)-1).toNat=ws.length-1:=by lia
    z_run;refine BK u (ws.length-1) (BP (by show [V.int (m-AZ rs ws),V.int ((ws.length:Int)-1)]=_;rw[hu,hv]) (by lia) (by lia) (λt H2 ht ad ah=>q3 t H2 (F.free ht) (F.trans ad) h0 ?_));rw[ah];unfold KZ;rw[Au J,ac,ae,hu,hv]
   .have J:=λz=>J (Ac z)
    z_run;intro t ht;refine q3 t _ (F.free ht) (EU F ht) h0 ?_;rw[AA];unfold KZ;rw[As J]
structure Kt(K:Frag)(H:Hp)(l p g:Addr)(m lo À hi:Int)(rs:List BN)(ws:List Str):Prop where
 case:Cs.JG K H l rs
 line:AH K H p (ws.map V.str)
 xv:BS K H g [.int lo,.int À,.int hi]
 ne:ws≠[]
 ő:ws.length<=100
 ok:∀x∈ws,x.length<=1000/\∀c∈x.cps.toList,(DW rs (sg c)).isSome=true
 xa:0<=lo
 xA:lo<=hi
 ľ:hi<=1000
 m0:0<=m
 m1:m<=100000
 b0:0<=AZ rs ws
 b1:AZ rs ws<=10000000
def Kt.same{K:Frag}(h:Kt K H l p g m lo À hi rs ws)(s:AD H H'):Kt K H' l p g m lo À hi rs ws :=
 ⟨h.case.same s,s.seq h.line,Pf s h.xv,h.ne,h.ő,h.ok,h.xa,h.xA,h.ľ,h.m0,h.m1,h.b0,h.b1⟩
abbrev Pg(m lo hi:Int)(rs:List BN)(ws:List Str):Int:=Ln.misfit (m-AZ rs ws) ((ws.length:Int)-1) lo hi
abbrev QI(m À:Int)(rs:List BN)(ws:List Str):Prop:=AZ rs ws+((ws.length:Int)-1)*À<=m
def pQ(K:Frag)(F:Addr):Sp:=λvs H Q E=>∃(l p g:Addr) (m lo À hi:Int) (rs:List BN) (ws:List Str),vs=[.ref l,.ref p,.int m,.ref g]/\Kt K H l p g m lo À hi rs ws/\lo<=À/\À<=hi /\
 (∀H' dx,AD H H'->H' dx=none->¬QI m À rs ws->Pg m lo hi rs ws<0->E (.ref F) (some dx) (upd H' dx (.xd [("by",.int (-Pg m lo hi rs ws))]))) /\
 (∀t H',H t=none->AD H H'->QI m À rs ws->H' t=some (.tup [.int À,.int 1])->Q (.ref t) H') /\
 (∀t H',H t=none->AD H H'->¬QI m À rs ws->Pg m lo hi rs ws=0->H' t=some (.tup [.int (KZ (m-AZ rs ws) ((ws.length:Int)-1)).1,.int (KZ (m-AZ rs ws) ((ws.length:Int)-1)).2])->Q (.ref t) H')
def pR(T:Tx K mg a):AG P w K mg base (DG P w) 5 (a.f 14) (a.d 14) ["case","line","measure","gaps"] (pQ K a.ć):=by
 refine T.vK.fn.Ő TC (by fin2) (λai A outer s H vs Q E hr h=>?_);revert h;refine EM λl p g m lo=>GJ λÀ hi rs ws=>LF λZ G aj ac q1 q2 q3=>?_;subst Z;have W:=Ga.mpr G.ne;have ae:=G.ő;have ľ:=G.ľ;have xa:=G.xa;have ag:(0:Int)<=((ws.length:Int)-1)*À:=Fk (by lia) (by lia);have ah:((ws.length:Int)-1)*À<=100*1000:=Int.mul_le_mul (by lia) (by lia) (by lia) (by lia);have af:((ws.length:Int)-1)*À<=((ws.length:Int)-1)*hi:=E4 ac (by lia);have b0:=G.b0;have b1:=G.b1;have m1:=G.m1;refine⟨_,(AI (HY (pv 3) (FX K rfl (n:=3) rfl (BJ (AO 4 TC.nd) (BJ (AO 5 TC.nd) (BJ (AO 6 TC.nd) FD)))))
  (AI (BY (BX L6 (BG GK (CK T.vm (cu T) hr rfl (AC (pv 0) (AC (pv 1) AE))) (BG OD (BG Kj (CS (GA K rfl) rfl T.Ò ET (AC (pv 1) AE)) AL) (pv 5))) (pv 2) (BF _)) (AJ (AY (GV (AC (pv 5) (AC AL AE))))) CH)
  (AJ (AY (FM T.Ť (cy T) hr rfl rfl (AC (pv 0) (AC (pv 1) (AC (pv 2) (AC (pv 3) AE))))))))),?_⟩
 z_run;try refine⟨_,_,rfl,G.xv,rfl,?_⟩
 x_go;x_go;x_go;z_run;refine CA l p rs ws (GS rfl G.case G.line (by lia) G.ok (λH1 F=>?_));z_run;refine BK p _ (BQ rfl (.inl (F.seq G.line)) ?_);rw[A8];z_run;refine å (λc=>?_) (λc=>?_)
 .have c:=Ag c;z_run;intro t ht;exact q2 t _ (F.free ht) (EU F ht) c AA
 .have c:=λz=>c (Ac z)
  have c':=c;have I:=G.same F;z_run;refine DC l p g m lo (CA À hi rs ws (DT rfl I.case I.line I.xv I.ne I.ő (DT I.ok I.xa I.xA I.ľ I.m0 I.m1 (CQ I.b0 I.b1 (λH3 dx J Y W=>?_) (λH3 dx J Y aa=>?_) (λt H3 ht J h0 ad=>?_)))))
  .exfalso;unfold Ln.misfit at W
   lia
  .exact q1 H3 dx (F.trans J) Y c aa
  .exact q3 t H3 (F.free ht) (F.trans J) c h0 ad
def pS(K:Frag):Sp:=λvs H Q _=>∃(sp m lo À hi:Int) (g:Addr) (last:Bool),vs=[.int sp,.int m,.ref g,.bl last]/\BS K H g [.int lo,.int À,.int hi]/\0<=m/\m<=1000/\-1000000000<=sp/\sp<=1000000000/\0<=À/\À<=1000/\∀H',AD H H'->Q (DN (JO sp m lo À hi last)) H'
def pT(T:Tx K mg a):AG P w K mg base BL 2 (a.f 15) (a.d 15) ["spare","many","gaps","last"] (pS K):=by
 refine T.vZ.fn.ok RZ (by fin2) (λac A outer s H vs Q E hr h=>?_);revert h;refine EM λsp m lo À hi=>FO λg last=>Kf λJ Z F G aa ae Y=>BW λľ q=>?_;subst J;obtain⟨ad,af⟩:=Ln.j7 F G Y ľ;refine⟨_,(AI (HY (pv 2) (FX K rfl (n:=3) rfl (BJ (AO 4 RZ.nd) (BJ (AO 5 RZ.nd) (BJ (AO 6 RZ.nd) FD)))))
  (AI (BH 7 RZ.nd (BG Kj (pv 0) (BG OD (pv 1) (pv 5))))
  (AI (BY (PW.pt (Ot (GU (pv 3)) (Oq (BX X0 (pv 7) AL (BF _))))) (AJ (AY AL)) CH)
  (AJ (AY (Nd (BX EI (CK T.misfit (cw T) hr rfl (AC (pv 0) (AC (pv 1) (AC (pv 2) AE)))) AL (BF _)) (BG OD (pv 7) (pv 7)) JU)))))),?_⟩
 z_run;try refine⟨_,_,rfl,Z,rfl,?_⟩
 x_go;x_go;x_go;have rest:∀W:V->Hp->Prop,(∀H',AD H H'->W (DN (JO sp m lo À hi last)) H')->¬(last=true/\0<=sp-m*À) ->
  (if Ln.misfit sp m lo hi=0 then W (.int ((sp-m*À)*(sp-m*À))) H else W .non H):=λW q' hn=>by
  have I:=q' H (AD.refl _);split
  .rename_i hz;rw[Ln.j4 hn hz]at I
   exact I
  .rename_i hz;rw[Ln.j6 hn hz]at I
   exact I
 cases last with
 | false =>
   z_run;try refine AK ?_
   try refine AK ?_
   z_run;refine DC _ _ lo À hi (AX g (CQ rfl Z F G ?_));z_run;have r:=rest _ q (λz=>by cases z.1);refine å (λc=>?_) (λc=>?_)
   .rw[Au (V.int.inj (Ag c))]at r
    z_run;exact r
   .rw[As (λz=>c (Ac (C6 V.int z)))]at r
    exact r
 | true =>
   z_run;try refine AQ ?_
   z_run;refine å (λc=>?_) (λc=>?_)
   .have I:=q H (AD.refl _);rw[Ln.iY rfl (Ag c)]at I
    exact I
   .z_run;refine DC _ _ lo À hi (AX g (CQ rfl Z F G ?_));z_run;have r:=rest _ q (λz=>c (Ac z.2));refine å (λc=>?_) (λc=>?_)
    .rw[Au (V.int.inj (Ag c))]at r
     z_run;exact r
    .rw[As (λz=>c (Ac (C6 V.int z)))]at r
     exact r
abbrev CW(rs:List BN)(ws:List Str)(ms lo À hi:Int):Br.EW:=⟨ws.map λx=>L8 rs x,ms,lo,À,hi⟩
def pU(K:Frag):Sp:=λvs H Q _=>∃(l p g:Addr) (rs:List BN) (ws:List Str) (ms lo À hi:Int),vs=[.ref l,.ref p,.int ms,.ref g]/\Cs.JG K H l rs/\AH K H p (ws.map V.str)/\ws.length<=63/\(∀x∈ws,x.length<=1000/\∀c∈x.cps.toList,(DW rs (sg c)).isSome=true)/\(∀x∈ws,0<=L8 rs x/\L8 rs x<=100000) /\
 BS K H g [.int lo,.int À,.int hi]/\0<=À/\À<=1000/\0<=ms/\ms<=1000000/\∀(d:Addr) (F:List (List DD×V)) (H':Hp),H d=none->AD H H'->H' d=some (.dT F)->Rv (CW rs ws ms lo À hi) F->Q (.ref d) H'
def pV(T:Tx K mg a):AG P w K mg base BL 3 (a.f 16) (a.d 16) ["case","words","measure","gaps"] (pU K):=by
 refine T.vE.fn.ok Of (by fin2) (λaP A outer s H vs Q E hr h=>?_);revert h;refine EM λl p g rs ws=>GJ λms lo À hi=>Kf λan hC hL aQ hw aL hG=>FL λaE ľ aM aR q=>?_;subst an;refine⟨_,(AI (SS (i:=4) Of.nd rfl NT rfl (GC K rfl (pv 1)) (DL.of (N':=["case","words","measure","gaps","widths","costs","start","spare","end","cost","word"]) (ms:=[]) (k:=1) (by rfl)) (λ_ _ _ _ _=>(BD 10)) (λ_ _ _ _ _=>HH) (λ_ _ _ _ _=>(CK T.ť (cq T) hr rfl (AC (pv 0) (AC (pv 10) AE)))))
  (AI (BH 5 Of.nd iD)
  (AI (IR Bm rfl (Uz rfl T.ĕ (AC (CS (GA K rfl) rfl T.Ò ET (AC (pv 1) AE)) AE)) (AO 6 Of.nd) (AI (BH 7 Of.nd (pv 2))
  (AJ (IR Bm rfl (UA rfl T.ĕ (AC (BG GK (pv 6) AL) (AC (BG GK (CS (GA K rfl) rfl T.Ò ET (AC (pv 1) AE)) AL) AE))) (AO 8 Of.nd) (AI (BH 7 Of.nd (BG Kj (pv 7) (CT (EO K rfl) (pv 4) (BG Kj (pv 8) AL) (λ_ _=>rfl))))
  (AI (BH 9 Of.nd (CK T.vZ (pT T) hr rfl (AC (pv 7) (AC (BG Kj (BG Kj (pv 8) (pv 6)) AL) (AC (pv 3) (AC (FU EI (pv 8) (CS (GA K rfl) rfl T.Ò ET (AC (pv 1) AE)) (BF _)) AE))))))
  (AJ (BY (QZ (QY (pv 9))) (AJ (iz (Re hr) (pv 5) (GV (AC (pv 6) (AC (pv 8) AE))) (pv 9) rfl)) CH))))))))
  (AJ (AY (pv 5)))))),?_⟩
 generalize ac:CW rs ws ms lo À hi=pr at q;have al:pr.zs=ws.map λx=>L8 rs x:=by rw[<-ac]
 have ax:pr.zs.length=ws.length:=by rw[al,A8]
 have aI:pr.n=ws.length:=ax;have aJ:pr.ms=ms:=by rw[<-ac]
 have ay:pr.lo=lo:=by rw[<-ac]
 have aA:pr.À=À:=by rw[<-ac]
 have az:pr.hi=hi:=by rw[<-ac]
 have am:∀z∈pr.zs,0<=z/\z<=100000:=λz hz=>by
  grind
 have aq:∀i j,j<=pr.zs.length->0<=List.sum (Km pr.zs i j)/\List.sum (Km pr.zs i j)<=6300000:=λi j hj=>by
  have h1:=Ln.Y6 (zs:=Km pr.zs i j) (B:=100000) (by decide) λz hz=>am z (List.mem_of_mem_take (List.mem_of_mem_drop hz))
  have h2:=Br.Y9 (i:=i) hj
  lia
 z_run;try refine⟨⟨_,hL⟩,?_⟩
 intro D hD
 let Izz:zU:=λi ys σ H2=>∃(aB:Option V),ys=((ws.take i).map λx=>L8 rs x).map V.int/\σ=[some (.ref l),some (.ref p),some (.int ms),some (.ref g),none,none,none,none,none,none,aB]/\AD H H2/\H2 D=some (.lst ys)
 refine IX (a:=p) (xs:=ws.map V.str) Izz
  ?_ ?_ ?_ ?_
 .exact AX none (BP rfl rfl (BC hD _) AA)
 .exact λi ys σ H2 _ ⟨_,_,_,hs,_⟩=>hs.seq hL
 .refine λi y ys σ H2 hy aH=>ES λv2=>DP λG Z hs hh=>?_;subst G;subst Z;refine DQ (Y3 hy) λx=>BW λG ap=>?_;subst G;obtain⟨h1,h2⟩:=hw x (Af ap);z_run;refine EB l x rs (CQ rfl (hC.same hs) h1 h2 (λH3 I=>FW aH (I _ _ hh) ?_ ⟨_,?_,rfl,EH (hs.trans I) hD,AA⟩))
  .grind
  .rw[Ao,ap,Ai,Ai];rfl
 .refine λys σ H2=>ES λv2=>DP λG Z Y ar=>?_;subst G;subst Z;rw[A8,Aj (Aa _),<-al]at ar
  z_run;intro d hd;have aD:=Y.free hd;z_run;refine BK p _ (BQ rfl (.inl ((EU Y hd).seq hL)) ?_);rw[A8];refine AX _ (BP rfl (by lia) (by lia) ?_)
  let Izz:zT:=λi σ H3=>∃(F:List (List DD×V)) (v6 v7 v8 v9:Option V),σ=[some (.ref l),some (.ref p),some (.int ms),some (.ref g),some (.ref D),some (.ref d),v6,v7,v8,v9]/\AD H2 H3/\H3 d=some (.dT F)/\F.length<=i*100/\Br.Ko pr F λa _=>a<i
  refine R5 (n:=ws.length) Izz
   ⟨[],none,none,none,none,rfl,BC hd _,AA,Bj _,Br.Ko.nil pr⟩ ?_ ?_
  .refine λi σ H3 aS=>EM λF v6 v7 v8 v9=>FL λaa I ah au aj=>?_;subst aa;z_run;refine BK p _ (BQ rfl (.inl ((Y.trans I).seq hL)) ?_);rw[A8];refine⟨_,_,rfl,rfl,_,_,rfl,⟨by lia,by lia,by lia,by lia⟩,?_⟩
   let Izz:zT:=λk σ H4=>∃(F:List (List DD×V)) (v8 v9:Option V),σ=[some (.ref l),some (.ref p),some (.int ms),some (.ref g),some (.ref D),some (.ref d),some (.int (0+(i:Int))),some (.int (ms-List.sum (Km pr.zs i (i+k)))),v8,v9]/\AD H2 H4/\H4 d=some (.dT F)/\F.length<=i*100+k/\Br.Ko pr F λa b=>a<i\/(a=i/\b<i+1+k)
   refine R5 (n:=((ws.length:Int)+1-(0+(i:Int)+1)).toNat) Izz
    ⟨F,v8,v9,?_,I,ah,au,aj.iff λa b aF hb=>?_⟩ ?_ ?_
   .rw[Jf,Br.jg];show _=[_,_,_,_,_,_,_,some (V.int (ms-0)),_,_]
    rw[Int.sub_zero];rfl
   .constructor<;>intro z<;>lia
   .refine λk σ H4 hk=>FT λF v8 v9=>FL λad J ag aw W=>?_;subst ad;have av:i+k<pr.zs.length:=by lia
    have af:=A9 av;have aG:EN (pr.zs.map V.int) (0+(i:Int)+1+(k:Int)-1)=some (.int pr.zs[i+k]):=by
     rw[show 0+(i:Int)+1+(k:Int)-1=((i+k:Nat):Int) by lia];exact HZ (by rw[Ap,af]<;>rfl)
    have ao:=am _ (Fv av);have aO:=aq i (i+k) (by lia);have ai:=Br.ji af;rw[aJ,ay,aA,az]at ai
    generalize pr.zs[i+k]=z at af aG ao ai;have aN:=J _ _ ar;have aC:=Pf (Y.trans J) hG;have e3:0+(i:Int)+1+(k:Int)-(0+(i:Int))-1=(k:Int):=by lia
    have e4:decide (V.int (0+(i:Int)+1+(k:Int))=V.int (ws.length:Int))=decide (i+1+k=pr.n):=by
     rw[OK,D9]
     lia
    have e5:ms-List.sum (Km pr.zs i (i+k))-z=ms-List.sum (Km pr.zs i (i+(k+1))):=by
     rw[show i+(k+1)=i+k+1 by lia,Br.Ya (by lia) af,Jk,Eu,List.sum_nil]
     lia
    have ek:([Sum.inl (0+(i:Int)),Sum.inl (0+(i:Int)+1+(k:Int))]:List DD)=[Sum.inl (i:Int),Sum.inl ((i+1+k:Nat):Int)]:=by
     lia
    z_run;refine BK p _ (BQ rfl (.inl ((Y.trans J).seq hL)) ?_);rw[A8];z_run;refine DC _ _ lo À hi (BK g _ (DT rfl aC (by lia) (by lia) (by lia) (by lia) (BQ aE ľ (λH5 ae=>?_))));rw[e3,e4,ai];cases xK:Br.lc pr i (i+1+k)with
    | none =>
      z_run;try refine AK ?_
      exact EB F _ _ (CQ (by rw[<-e5];rfl) (J.trans ae) (ae _ _ ag) (by lia) (W.skip xK))
    | some c =>
      z_run;try refine AQ ?_
      z_run;intro b hb;refine BK d _ (BQ rfl (Mo.t (k:=[Sum.inl (0+(i:Int)),Sum.inl (0+(i:Int)+1+(k:Int))]) (BC hb (.tup [.int (0+(i:Int)),.int (0+(i:Int)+1+(k:Int))]) _ _ (ae _ _ ag)) AA (Kz (by lia))) ?_);rw[ek];have aK:=SY F [Sum.inl (i:Int),Sum.inl ((i+1+k:Nat):Int)] (V.int c);have ak:(EE F [Sum.inl (i:Int),Sum.inl ((i+1+k:Nat):Int)] (V.int c)).length<=i*100+(k+1):=by lia
      exact EB _ _ _ (CQ (by rw[<-e5];rfl) (EH (EU (J.trans ae) hb) hd) AA ak (W.put xK))
   .refine λσ H4=>FT λF v8 v9=>FL λad J ag aw W=>?_;subst ad;refine DC F _ _ _ _ (CQ rfl J ag (by lia) (W.iff λa b aF hb=>?_));constructor<;>intro z<;>lia
  .refine λσ H3=>EM λF v6 v7 v8 v9=>FL λaa I ah au aj=>?_;subst aa;z_run;exact q d F H3 aD (Y.trans I) ah (Br.Ko.all (aj.iff λa b _ _=>by rw[aI]))
def pW(K:Frag):Sp:=λvs H Q _=>∃(d t:Addr) (F:List (List DD×V)) (tb:List (Option Int)) (i j:Nat),vs=[.ref d,.ref t,.int (i:Int),.int (j:Int)]/\H d=some (.dT F)/\AH K H t (tb.map DN)/\j<tb.length /\
 ∀H',AD H H'->Q (.bl ((CV F [.inl (i:Int),.inl (j:Int)]).isSome&&(tb.getD j none).isSome)) H'
def pX(T:Tx K mg a):AG P w K mg base BL 1 (a.f 17) (a.d 17) ["costs","table","start","end"] (pW K):=by
 refine T.Ů.fn.ok nv (by fin2) (λZ A outer s H vs Q E hr h=>?_);revert h;refine EM λd t J tb i=>ES λj=>FL λG hd Y W q=>?_;subst G;refine AX _ (CC (AJ (AY (HL (Oo (XW (Re hr) (GV (AC (pv 2) (AC (pv 3) AE))) (pv 0))) (Ki (Oo (QY (CT (EO K rfl) (pv 1) (pv 3) (λ_ _=>rfl)))))))) ?_);have F:EN (tb.map DN) (j:Int)=some (DN (tb.getD j none)):=HZ (by rw[Ap,A9 W,Ba,A9 W]<;>rfl);z_run;intro b hb;z_run;refine BK d _ (BQ rfl (GD.t (k:=[Sum.inl (i:Int),Sum.inl (j:Int)]) (BC hb (.tup [.int (i:Int),.int (j:Int)]) _ _ hd) AA) ?_);have I:=q _ (BC hb (.tup [.int (i:Int),.int (j:Int)]));generalize CV J [Sum.inl (i:Int),Sum.inl (j:Int)]=vv at I⊢;generalize tb.getD j none=tv at I F⊢;cases vv with
 | none =>
   exact AX _ (CC rfl (AK I))
 | some c =>
   refine AX _ (CC rfl (AQ ⟨_,rfl,_,rfl,t,_,_,_,rfl,rfl,(BC hb _).seq Y,F,?_⟩));cases tv with
   | none=>exact I
   | some c2=>exact I
def pY(K:Frag):Sp:=λvs H Q _=>∃(d t:Addr) (F:List (List DD×V)) (tb:List (Option Int)) (pr:Br.EW) (i:Nat),vs=[.ref d,.ref t,.int (i:Int)]/\H d=some (.dT F)/\Rv pr F/\AH K H t (tb.map DN)/\tb.length=pr.n+1/\i<pr.n/\pr.n<=63 /\
 ∀(r:Addr) (xs:List V) (H':Hp),H r=none->AD H H'->H' r=some (.lst xs)->Paired (Qh H') xs (HR pr (λj=>tb.getD j none) i (pr.n-i))->Q (.ref r) H'
def cz(T:Tx K mg a):AG P w K mg base BL 2 (a.f 18) (a.d 18) ["costs","table","start"] (pY K):=by
 refine T.vp.fn.ok ZP (by fin2) (λax A outer s H vs Q E hr h=>?_);revert h;refine EM λd t aq tb pr=>ES λi=>Kf λao hd an hT av hi hn q=>?_;subst ao;refine⟨_,(AI (SS (i:=3) ZP.nd rfl NT rfl (UA rfl T.ĕ (AC (BG GK (pv 2) AL) (AC (CS (GA K rfl) rfl T.Ò ET (AC (pv 1) AE)) AE))) (DL.of (N':=["costs","table","start","ends","end"]) (ms:=[]) (k:=1) (by rfl)) (λ_ _ _ _ _=>(BD 4)) (λ_ _ _ _ _=>(SR (GU (CK T.Ů (pX T) hr rfl (AC (pv 0) (AC (pv 1) (AC (pv 2) (AC (pv 4) AE)))))))) (λ_ _ _ _ _=>(pv 4)))
  (AJ (AY (DO ["costs","table","start","ends","end"] [] 1 (GC K rfl (pv 3)) (BD 4) HH (GV (AC (BG GK (iy (Re hr) (pv 0) (GV (AC (pv 2) (AC (pv 4) AE))) (λ_ _=>rfl)) (CT (EO K rfl) (pv 1) (pv 4) (λ_ _=>rfl))) (AC (pv 4) AE))))))),?_⟩
 have al:(tb.map DN).length=pr.n+1:=by rw[A8,av]
 z_run;refine BK t _ (BQ rfl (.inl hT) ?_);rw[al];refine BK _ _ (BQ rfl ⟨by lia,by lia,by lia,by lia⟩ (λD hD=>?_));generalize aw:(λj=>tb.getD j none)=f at q;have hf:∀j,tb.getD j none=f j:=λj=>by rw[<-aw]
 let Izz:zU:=λk ys σ H2=>∃(v4:Option V),ys=(Br.ends pr f i k).map (λe:Nat=>V.int (e:Int))/\σ=[some (.ref d),some (.ref t),some (.int (i:Int)),none,v4]/\AD H H2/\H2 D=some (.lst ys)
 refine gY (n:=(((pr.n+1:Nat):Int)-((i:Int)+1)).toNat) Izz
  ?_ ?_ ?_
 .exact AX none (BP rfl rfl (BC hD _) AA)
 .refine λk ys σ H2 hk=>ES λv4=>DP λG J hs hh=>?_;subst G;subst J;have af:=T1 (λk=>(Kn (Br.lc pr i (i+1+k)) (f (i+1+k))).map λ_=>i+1+k) k;have af:(Br.ends pr f i k).length<=k:=af;have I:Br.ends pr f i (k+1)=Br.ends pr f i k++((Kn (Br.lc pr i (i+1+k)) (f (i+1+k))).map λ_=>i+1+k).toList:=Br.Qg _ k;have ej:(i:Int)+1+(k:Int)=((i+1+k:Nat):Int):=by lia
  rw[ej];z_run;refine DC d t aq tb i (AX (i+1+k) (CQ rfl (hs _ _ hd) (hs.seq hT) (by lia) (λZ F=>?_)));rw[an i (i+1+k) (by lia) (by lia),hf];z_run;cases h1:Br.lc pr i (i+1+k)with
  | none =>
    rw[h1]at I
    refine AK (Rj hk ⟨_,?_,rfl,hs.trans F,F _ _ hh⟩);rw[I];show _=(_++[]).map _;rw[Be]
  | some c =>
    cases h2:f (i+1+k)with
    | none =>
      rw[h1,h2]at I
      refine AK (Rj hk ⟨_,?_,rfl,hs.trans F,F _ _ hh⟩);rw[I];show _=(_++[]).map _;rw[Be]
    | some c2 =>
      rw[h1,h2]at I
      refine AQ ?_;z_run;refine FW hk (F _ _ hh) (by rw[A8];lia) ⟨_,?_,rfl,EH (hs.trans F) hD,AA⟩;rw[I,Ai];rfl
 .refine λys σ H2=>ES λv4=>DP λG J ad ag=>?_;subst G;subst J;have en:(((pr.n+1:Nat):Int)-((i:Int)+1)).toNat=pr.n-i:=by lia
  rw[en]at ag
  have ay:=hD;z_run;try refine⟨⟨_,AH.of ag⟩,?_⟩
  intro D2 ac;have af:(Br.ends pr f i (pr.n-i)).length<=pr.n-i:=T1 _ _;have Y:(HR pr f i (pr.n-i)).length=(Br.ends pr f i (pr.n-i)).length:=by rw[<-Yc,A8]
  let Izz:zU:=λk ys σ Z=>∃(v4:Option V),σ=[some (.ref d),some (.ref t),some (.int (i:Int)),some (.ref D),v4]/\AD H2 Z/\Z D2=some (.lst ys)/\Paired (Qh Z) ys ((HR pr f i (pr.n-i)).take k)
  refine IX (a:=D) (xs:=(Br.ends pr f i (pr.n-i)).map (λe:Nat=>V.int (e:Int))) Izz
   ?_ ?_ ?_ ?_
  .exact AX none (BP rfl (BC ac _) AA .nil)
  .exact λk ys σ Z _ ⟨_,_,F,_⟩=>AH.of (F _ _ ag)
  .refine λk y ys σ Z hy ai=>ES λv4=>DP λG F aj W=>?_;subst G;have ak:=ai;rw[A8,<-Y]at ai
   obtain⟨x,hx⟩:∃x,(HR pr f i (pr.n-i))[k]?=some x:=⟨_,A9 ai⟩
   obtain⟨m1,m2,c1,c2,e1,e2,e3⟩:=Br.Yd (Af hx);have ap:y=.int ((x.2:Nat):Int):=by
    rw[<-Yc,List.map_map,Ap,hx]at hy
    exact(Av hy).symm
   subst ap;have ar:(HR pr f i (pr.n-i)).take (k+1)=(HR pr f i (pr.n-i)).take k++[x]:=by rw[Ao,hx];rfl
   have az:ys.length<=63:=by
    rw[B4 W,Bb]
    lia
   have aa:=ad.trans F;have au:EN (tb.map DN) ((x.2:Nat):Int)=some (.int c2):=by
    have am:x.2<tb.length:=by lia
    have e4:=hf x.2;rw[e2,Ba,A9 am]at e4
    have e4:tb[x.2]=some c2:=e4;exact HZ (by rw[Ap,A9 am,e4]<;>rfl)
   z_run;intro b hb;have hg:=GD.t (k:=[Sum.inl (i:Int),Sum.inl ((x.2:Nat):Int)]) (BC hb (.tup [.int (i:Int),.int ((x.2:Nat):Int)]) _ _ (aa _ _ hd)) AA;rw[an i x.2 m1 (by lia),e1]at hg
   z_run;refine BK d _ (BQ rfl hg ?_);z_run;refine CA t _ _ _ (CQ rfl rfl ((EU (o:=.tup [.int (i:Int),.int ((x.2:Nat):Int)]) aa hb).seq hT) au ?_);z_run;intro b2 ae;have ah:=BC ae (.tup [.int (c1+c2),.int ((x.2:Nat):Int)]) _ _ (BC hb (.tup [.int (i:Int),.int ((x.2:Nat):Int)]) _ _ aj);refine FW (ys:=ys) ak ah (by lia) ⟨_,rfl,EH (EU (EU F hb) ae) ac,AA,?_⟩;rw[ar];refine By (Br.jk (Ye (Ye W (BC hb _)) (BC ae _)) ah (λz e=>by cases e)) ⟨b2,rfl,?_⟩;rw[BE (Kh AA ah (λe=>by cases e)),AA,e3]
  .refine λys σ Z=>ES λv4=>DP λG F aj W=>?_;subst G;rw[A8,<-Y,Aj (Aa _)]at W
   exact q D2 ys Z (ad.free ac) (ad.trans F) aj W
def S8(h:k<n):MW n (k:Int)=some k:=by
 unfold MW
 grind
def pZ(n:Nat):(List.replicate n [V.non]).flatten++[V.int 0]=((List.replicate n (none:Option Int))++[some 0]).map DN:=by
 induction n with
 | zero=>rfl
 | succ n ih =>
   rw[Cj,Ed,Cj];show V.non::((List.replicate n [V.non]).flatten++[V.int 0])=DN none::_;rw[ih];rfl
def qd(pr:Br.EW):Br.HQ pr (λj=>((List.replicate pr.n (none:Option Int))++[some 0]).getD j none) pr.n:=by
 refine⟨?_,λi h1 h2=>absurd h1 (Nat.not_le_of_lt h2)⟩;show((List.replicate pr.n (none:Option Int))++[some 0]).getD pr.n none=some 0;rw[Ba,Ej (by rw[Ck];exact Aa _),Ck,Gc];rfl
def map_set{tb:List (Option Int)}{i:Nat}{v:Option Int}:(tb.map DN).set i (DN v)=(tb.set i v).map DN:=by rw[Ge]
def qh(K:Frag):Sp:=λvs H Q _=>∃(d:Addr) (F:List (List DD×V)) (pr:Br.EW),vs=[.ref d,.int (pr.n:Int)]/\H d=some (.dT F)/\Rv pr F/\pr.n<=63 /\
 ∀(r:Addr) (tb:List (Option Int)) (H':Hp),H r=none->AD H H'->H' r=some (.lst (tb.map DN))->tb.length=pr.n+1->Br.HQ pr (λj=>tb.getD j none) 0->Q (.ref r) H'
def qj(T:Tx K mg a):AG P w K mg base BL 3 (a.f 19) (a.d 19) ["costs","many"] (qh K):=by
 refine T.vH.fn.ok VZ (by fin2) (λap A outer s H vs Q E hr h=>?_);revert h;refine FT λd aj pr=>FL λI hd an hn q=>?_;subst I;refine⟨_,(AI (BH 2 VZ.nd (BG Nm (BG SJ (BM (AC JU AE)) (pv 1)) (BM (AC AL AE))))
  (AI (IR Bm rfl (je rfl T.ĕ (AC (BG Kj (pv 1) AL) (AC (NU NW AL) (AC (NU NW AL) AE)))) (AO 3 VZ.nd) (AJ (HY (iW K rfl rfl rfl T.xj (DO ["costs","many","table","start","cost","end"] [] 2 (GC K rfl (CK T.vp (cz T) hr rfl (AC (pv 0) (AC (pv 2) (AC (pv 3) AE))))) (FX K rfl (n:=2) rfl (BJ (BD 4) (BJ (BD 5) FD))) HH (pv 4))) (PP (pv 2) (pv 3) PZ))))
  (AJ (AY (pv 2))))),?_⟩
 z_run;intro p1 ad;refine⟨_,rfl,p1,_,_,rfl,rfl,AA,by lia,by lia,DU (by show 1*_<=_;lia),λp2 ag=>?_⟩;z_run;intro p3 af;have ar:((List.replicate ((pr.n:Int)).toNat [V.non]).flatten).length<=63:=by
  rw[Xt];show _*1<=_
  lia
 refine CA p2 p3 _ _ (GS rfl rfl (by walk_at "0") AA (DU (by show _+1<=_;lia)) (λp4 ah=>?_));rw[show((pr.n:Int)).toNat=pr.n by lia,pZ pr.n]at *
 have h0:=(EU (o:=.lst [.int 0]) (EU (o:=.lst (List.replicate pr.n [V.non]).flatten) (BC ad (.lst [V.non])) ag) af).free ah;z_run;refine EB _ _ _ (BP rfl ⟨by lia,by lia,by lia,by lia⟩ ⟨by decide,by decide,by decide⟩ ?_);refine  jf (lo:=(pr.n:Int)-1) (st:=-1) (n:=GM ((pr.n:Int)-1) (-1) (-1)) (λc σ H5=>∃(tb:List (Option Int)) (v3:Option V),σ=[some (.ref d),some (.int (pr.n:Int)),some (.ref p4),v3]/\AD H H5/\H5 p4=some (.lst (tb.map DN))/\tb.length=pr.n+1/\Br.HQ pr (λj=>tb.getD j none) (pr.n-c))
  ⟨_,none,rfl,EU (o:=.lst ((List.replicate pr.n (none:Option Int)++[some 0]).map DN)) (EU (o:=.lst [.int 0]) (EU (o:=.lst (List.replicate pr.n [V.non]).flatten) (BC ad (.lst [V.non])) ag) af) ah,AA,by rw[B5,Ck];rfl,qd pr⟩ ?_ ?_
 .refine λc σ H5 hc=>FO λtb v3=>FL λF Y h5 W G=>?_;subst F;rw[Y8]at hc
  have ev:(pr.n:Int)-1+(c:Int)*-1=((pr.n-(c+1):Nat):Int):=by lia
  rw[ev];have ac:pr.n-(c+1)<pr.n:=by lia
  have G:Br.HQ pr (λj=>tb.getD j none) (pr.n-(c+1)+1):=by rw[show pr.n-(c+1)+1=pr.n-c by lia];exact G
  generalize pr.n-(c+1)=st at ac G⊢;z_run;refine DC d p4 aj tb pr (AX st (DT rfl (Y _ _ hd) an (AH.of h5) W ac (CC hn (λr xs H6 aq al ae ai=>⟨r,rfl,⟨_,AH.of ae⟩,λD hD=>?_⟩))));have ao:(HR pr (λj=>tb.getD j none) st (pr.n-st)).length<=pr.n-st:=T1 _ _
  let Izz:zU:=λk ys σ H7=>∃(v4 v5:Option V),ys=(((HR pr (λj=>tb.getD j none) st (pr.n-st)).take k).map λx=>x.1).map V.int/\σ=[some (.ref d),some (.int (pr.n:Int)),some (.ref p4),some (.int (st:Int)),v4,v5]/\AD H6 H7/\H7 D=some (.lst ys)
  refine IX (a:=r) (xs:=xs) Izz
   ?_ ?_ ?_ ?_
  .exact BK none none (BP rfl rfl (BC hD _) AA)
  .exact λk ys σ H7 _ ⟨_,_,_,_,J,_⟩=>AH.of (J _ _ ae)
  .refine λk y ys σ H7 hy ak=>FO λv4 v5=>DP λF I J Z=>?_;subst F;subst I;obtain⟨x,am,t,rfl,ht⟩:=IG ai hy;refine BK _ _ (BP rfl (BS.of (J _ _ ht)) rfl ?_);x_go;x_go;z_run;refine FW ak Z ?_ ⟨_,_,?_,rfl,EH J hD,AA⟩
   .grind
   .rw[Ao,am,Ai,Ai];rfl
  .refine λys σ H7=>FO λv4 v5=>DP λF I J Z=>?_;subst F;subst I;rw[B4 ai,Aj (Aa _),Br.jj]at Z
   have aa:=al.trans J;refine BK D _ (BQ rfl (AH.of Z) ?_);z_run;refine⟨p4,_,_,st,rfl,rfl,aa _ _ h5,S8 (by rw[A8];lia),tb.set st (IH pr (λj=>tb.getD j none) st),_,rfl,EH (Y.trans aa) h0,?_,by rw[E7];exact W,?_⟩
   .rw[AA];exact C6 (λz=>some (HO.lst z)) map_set
   .exact G.set W ac
 .refine λσ H5=>FO λtb v3=>FL λF Y h5 W G=>?_;subst F;rw[Y8,Gc]at G
  z_run;exact q p4 tb H5 h0 Y h5 W G
abbrev FR:Nat->V:=λb=>V.int (b:Int)
def qk(K:Frag):Sp:=λvs H Q _=>∃(d:Addr) (F:List (List DD×V)) (pr:Br.EW),vs=[.ref d,.int (pr.n:Int)]/\H d=some (.dT F)/\pr.n<=63/\Rv pr F/\∀(m:Nat) (H':Hp),RL (Br.lc pr) pr.n m->AD H H'->Q (.int (m:Int)) H'
def ql(T:Tx K mg a):AG P w K mg base BL 1 (a.f 20) (a.d 20) ["costs","many"] (qk K):=by
 refine T.ċ.fn.ok W0 (by fin2) (λaw A outer s H vs Q E hr h=>?_);revert h;refine FT λd ai pr=>FL λI hd hn aa q=>?_;subst I;refine⟨_,(AI (BH 2 W0.nd (BM (AC AL AE)))
  (AI (IR Bm rfl (UA rfl T.ĕ (AC AL (AC (BG GK (pv 1) AL) AE))) (AO 3 W0.nd) (AJ (BY (GU (CS (Vn K rfl rfl) rfl T.xC kE (AC (DO ["costs","many","reached","end","start"] [] 1 (GC K rfl (pv 2)) (BD 4) HH (Oo (XW (Re hr) (GV (AC (pv 4) (AC (pv 3) AE))) (pv 0)))) AE))) (AJ (DR (ER K rfl An Aq Ar IB (pv 2) (AC (pv 3) AE)))) CH)))
  (AJ (AY (CT (EO K rfl) (pv 2) (NU NW AL) (λ_ _=>rfl)))))),?_⟩
 have aa:∀i j:Nat,i<j->j<=pr.n->CV ai [.inl (i:Int),.inl (j:Int)]=(Br.lc pr i j).map V.int:=aa;generalize pr.n=n at hn aa q⊢;generalize Br.lc pr=lc at aa q;z_run;intro p1 aj;have al:=BC aj (.lst [V.int 0]);have ak:upd H p1 (.lst [V.int 0]) p1=some (.lst (([]++[0]).map FR)):=AA;generalize upd H p1 (.lst [V.int 0])=H1 at al ak⊢;z_run;refine BK _ _ (BQ rfl ⟨by lia,by lia,by lia,by lia⟩ ?_)
 let Izz:zT:=λi σ H5=>∃(v3:Option V) (G:List Nat) (m:Nat),σ=[some (.ref d),some (.int (n:Int)),some (.ref p1),v3]/\AD H H5/\H5 p1=some (.lst ((G++[m]).map FR))/\G.length<=i/\(∀j∈G++[m],j<=i/\j<=m/\ND lc j)/\∀j,j<=i->ND lc j->j∈G++[m]
 refine R5 (lo:=1) (n:=((n:Int)+1-1).toNat) Izz
  ⟨none,[],0,rfl,al,ak,Bj _,λj hj=>by rw[Az.mp hj];exact⟨Aa _,Aa _,.zero⟩,λj hj _=>by rw[Nat.le_zero.mp hj];exact Az.mpr rfl⟩ ?_ ?_
 .refine λi σ H5 hi=>FT λv3 G m=>GH λI ad h5 aq Y W=>?_;subst I;have ev:(1:Int)+(i:Int)=((i+1:Nat):Int):=by lia
  rw[ev];have ľ:i+1<=n:=by lia
  z_run;refine⟨⟨_,AH.of h5⟩,λD hD=>?_⟩
  let Izz:zU:=λj zs σ H6=>∃(v4:Option V) (bs:List Bool),zs=bs.map V.bl/\σ=[some (.ref d),some (.int (n:Int)),some (.ref p1),some (.int ((i+1:Nat):Int)),v4]/\AD H5 H6/\H6 D=some (.lst zs)/\bs=((G++[m]).take j).map λy=>(lc y (i+1)).isSome
  refine IX (a:=p1) (xs:=(G++[m]).map FR) Izz
   ?_ ?_ ?_ ?_
  .exact BK none [] (CQ rfl rfl (BC hD _) AA rfl)
  .refine λj zs σ H6 hj=>FO λ_ _=>DP λ_ _ hs _=>?_;exact hs.seq (AH.of h5)
  .refine λj x zs σ H6 hx ao=>FO λv4 bs=>FL λJ I Z ah ac=>?_;subst J;subst I;rw[Ap]at hx
   refine DQ (Bi.mp hx) λy=>BW λhy J=>?_;subst J;have ax:bs.length<=64:=by
    grind
   have av:=(Y y (Af hy)).1;z_run;intro b hb;have ae:=BC hb (.tup [.int (y:Int),.int ((i+1:Nat):Int)]);z_run;refine BK d _ (BQ rfl (GD.t (k:=[Sum.inl (y:Int),Sum.inl ((i+1:Nat):Int)]) (ae _ _ ((ad.trans Z) _ _ hd)) AA) ?_);generalize upd H6 b (.tup [.int (y:Int),.int ((i+1:Nat):Int)])=H7 at ae⊢;refine FW ao (ae _ _ ah) (by rw[A8];lia) ⟨_,bs++[(CV ai [Sum.inl (y:Int),Sum.inl ((i+1:Nat):Int)]).isSome],?_,rfl,EH (Z.trans ae) hD,AA,?_⟩
   .rw[Ai];rfl
   .rw[(aa y (i+1) (by lia) ľ),Fg,ac,Ao,hy,Ai];rfl
  .refine λzs σ H6=>FO λv4 bs=>FL λJ I Z ah ac=>?_;subst J;subst I;rw[A8,Aj (Aa _)]at ac
   refine⟨D,bs,rfl,AH.of ah,_,rfl,?_⟩;have h6:=Z _ _ h5;have ag:=ad.trans Z;have af:bs.any id=true↔∃y∈G++[m],(lc y (i+1)).isSome=true:=by
    rw[ac,List.any_map,Dh];rfl
   refine å (λc=>?_) (λc=>?_)
   .refine DQ (af.mp c) λy=>BW λhy hc=>?_;have ap:=Y y hy;z_run;refine⟨.inl ⟨rfl,_,AH.of h6⟩,?_⟩;z_run;refine⟨p1,_,_,rfl,rfl,h6,Kz (by rw[A8,B5];show _+1<=_;lia),_,G++[m],i+1,rfl,EH ag aj,?_,?_,?_,?_⟩
    .rw[AA,Ai (l₁:=G++[m])];rfl
    .grind
    .intro j hj;rcases Cn.mp hj with h|h
     .grind
     .rw[Az.mp h];exact BQ (Aa _) (Aa _) (.step ap.2.2 (by lia) hc)
    grind
   .refine EB _ G m (GS rfl ag h6 (by lia) (λj hj=>?_) (λj hj hr=>?_))
    .grind
    .by_cases e:j=i+1
     .subst e;refine absurd (af.mpr ?_) c;cases hr with
      | step am au hc=>exact⟨_,W _ (by lia) am,hc⟩
     .exact W j (by lia) hr
 .refine λσ H5=>FT λv3 G m=>GH λI ad h5 aq Y W=>?_;subst I;have ar:EN ((G++[m]).map FR) (-1)=some (FR m):=by rw[Ai];exact Vh (G.map FR) (FR m)
  refine⟨_,rfl,_,rfl,p1,_,_,_,rfl,rfl,AH.of h5,ar,?_⟩;have an:=Y m (Bg _ (Az.mpr rfl));exact q m H5 ⟨an.2.2,by lia,λj hj hr=>(Y j (W j (by lia) hr)).2.1⟩ ad
def qm(W:f i=some c)(he:Br.HS pr f i e) :
 ∃m:Nat,Br.O7 pr f i m/\Rr ((((HR pr f i (pr.n-i)).filter λx=>decide (x.1=c)).map λx=>((x.2:Nat):Int)))=some (m:Int):=by
 have mem:∀z:Int,z∈(((HR pr f i (pr.n-i)).filter λx=>decide (x.1=c)).map λx=>((x.2:Nat):Int))↔∃e:Nat,z=(e:Int)/\Br.HS pr f i e:=λz=>by
  constructor
  .intro h;obtain⟨x,Z,rfl⟩:=Cq.mp h;obtain⟨h1,h2⟩:=G3.mp Z;exact⟨x.2,rfl,Br.jn ⟨h1,by rw[W,Ag h2]⟩⟩
  .rintro⟨e,rfl,F⟩;obtain⟨J,h1,h2⟩:=Br.jo F;have Y:J=c:=by rw[W]at h2;exact(Av h2).symm
   subst Y;exact Cq.mpr ⟨(J,e),G3.mpr ⟨h1,Ac rfl⟩,rfl⟩
 generalize (((HR pr f i (pr.n-i)).filter λx=>decide (x.1=c)).map λx=>((x.2:Nat):Int))=zs at mem;cases hz:Rr zs with
 | none =>
   cases zs with
   | nil=>exact absurd ((mem e).mpr ⟨e,rfl,he⟩) Bt
   | cons z r=>cases hz
 | some m =>
   obtain⟨h1,h2⟩:=HJ.mp hz;obtain⟨e1,rfl,F⟩:=(mem m).mp h1;exact⟨e1,⟨F,λI G=>by
    have:=h2 (I:Int) ((mem _).mpr ⟨I,rfl,G⟩)
    lia⟩,rfl⟩
def qo(K:Frag)(C:Addr):Sp:=λvs H Q E=>∃(l p g:Addr) (rs:List BN) (ws:List Str) (ms lo À hi:Int),vs=[.ref l,.ref p,.int ms,.ref g]/\Cs.JG K H l rs/\AH K H p (ws.map V.str)/\ws.length<=63/\(∀x∈ws,x.length<=1000/\∀c∈x.cps.toList,(DW rs (sg c)).isSome=true)/\(∀x∈ws,0<=L8 rs x/\L8 rs x<=100000) /\
 BS K H g [.int lo,.int À,.int hi]/\0<=À/\À<=1000/\0<=ms/\ms<=1000000/\
 (∀H' dx (m:Nat) f,AD H H'->H' dx=none->Br.HQ (CW rs ws ms lo À hi) f 0->f 0=none->RL (Br.lc (CW rs ws ms lo À hi)) (CW rs ws ms lo À hi).n m->E (.ref C) (some dx) (upd H' dx (.xd [("words",.int (m:Int))]))) /\
 ∀(r:Addr) (bs:List Nat) (f:Nat->Option Int) (H':Hp),H r=none->AD H H'->H' r=some (.lst (bs.map λb:Nat=>V.int (b:Int)))->Br.HQ (CW rs ws ms lo À hi) f 0->Br.FH (CW rs ws ms lo À hi) f 0 bs->Q (.ref r) H'
def qp(T:Tx K mg a):AG P w K mg base (DG P w) 4 (a.f 21) (a.d 21) ["case","words","measure","gaps"] (qo K a.Ý):=by
 refine T.Ż.fn.Ő QA (by fin2) (λaW A outer s H vs Q E hr h=>?_);revert h;refine EM λl p g rs ws=>GJ λms lo À hi=>Kf λav hC hL aO hw aI hG=>GH λaN ľ aJ aQ qx q=>?_;subst av;refine⟨_,(AI (BH 4 QA.nd (CK T.vE (pV T) hr rfl (AC (pv 0) (AC (pv 1) (AC (pv 2) (AC (pv 3) AE))))))
  (AI (BH 5 QA.nd (CK T.vH (qj T) hr rfl (AC (pv 4) (AC (CS (GA K rfl) rfl T.Ò ET (AC (pv 1) AE)) AE))))
  (AI (BY (QZ (QX (CT (EO K rfl) (pv 5) AL (λ_ _=>rfl)))) (AJ (RE T.Ä (oW T) hr rfl rfl rfl (AC (CK T.ċ (ql T) hr rfl (AC (pv 4) (AC (CS (GA K rfl) rfl T.Ò ET (AC (pv 1) AE)) AE))) AE))) CH)
  (AI (BH 6 QA.nd (BM AE))
  (AI (BH 7 QA.nd AL)
  (AI (Oy (O8 rfl) (BX NX (pv 7) (CS (GA K rfl) rfl T.Ò ET (AC (pv 1) AE)) (BF _)) (AI (BH 7 QA.nd (CS (iX K rfl rfl) rfl T.xF iT (AC (DO ["case","words","measure","gaps","costs","table","breaks","at","cost","end"] [] 2 (GC K rfl (CK T.vp (cz T) hr rfl (AC (pv 4) (AC (pv 5) (AC (pv 7) AE))))) (FX K rfl (n:=2) rfl (BJ (BD 8) (BJ (BD 9) FD))) (SR (BX EI (pv 8) (CT (EO K rfl) (pv 5) (pv 7) (λ_ _=>rfl)) (BF _))) (pv 9)) AE)))
  (AJ (DR (ER K rfl An Aq Ar IB (pv 6) (AC (pv 7) AE))))))
  (AJ (AY (pv 6))))))))),?_⟩
 have ao:(CW rs ws ms lo À hi).n=ws.length:=A8 _;z_run;refine DC l p g rs ws (CA ms lo À hi (DT rfl hC hL aO hw aI (GS hG aN ľ aJ aQ (λd am H1 aY aB al ae=>?_))));z_run;refine BK p _ (BQ rfl (.inl (aB.seq hL)) ?_);rw[A8];refine EB d am (CW rs ws ms lo À hi) (CQ (by rw[ao];rfl) al ae (by lia) (λr tb H2 aX ai ah aD Y=>?_));have W:=aB.trans ai;generalize aM:CW rs ws ms lo À hi=pr at q qx ao ae aD Y;have au:EN (tb.map DN) 0=some (DN (tb.getD 0 none)):=by
  have h1:0<tb.length:=by lia
  have h2:EN (tb.map DN) ((0:Nat):Int)=some (DN (tb.getD 0 none)):=HZ (by rw[Ap,A9 h1,Ba,A9 h1]<;>rfl);exact h2
 refine⟨_,rfl,r,_,_,_,rfl,rfl,AH.of ah,au,?_⟩;cases aF:tb.getD 0 none with
 | none =>
   refine AX _ (CC rfl (AQ ?_));z_run;refine BK p _ (BQ rfl (.inl (W.seq hL)) ?_);rw[A8];z_run;refine EB d am pr (CQ (by rw[ao];rfl) (ai _ _ al) (by lia) ae (λm H3 hm I=>?_));have aT:=hm.le;z_run;exact λdx aL=>qx H3 dx m _ (W.trans I) aL Y aF hm
 | some c0 =>
 refine AX _ (CC rfl (AK ?_));z_run;intro br ak;have aq:=W.free ak
 let Izz:zT:=λm σ H3=>∃(k:Nat) (bs:List Nat),m=pr.n-k/\k<=pr.n/\σ=[some (.ref l),some (.ref p),some (.int ms),some (.ref g),some (.ref d),some (.ref r),some (.ref br),some (.int (k:Int))]/\AD H2 H3/\H3 br=some (.lst (bs.map λb:Nat=>V.int (b:Int)))/\bs.length<=k/\tb.getD k none≠none/\∀rest,Br.FH pr (λj=>tb.getD j none) k rest->Br.FH pr (λj=>tb.getD j none) 0 (bs++rest)
 refine⟨Izz,
  ⟨_,0,[],rfl,Bj _,rfl,BC ak (.lst []),AA,Aa _,by rw[aF];exact λz=>(by cases z),λrest h=>h⟩,?_⟩
 refine λm σ H3=>FO λk bs=>Kf λG hk aC I ax aU ap aa=>?_;subst G;subst aC;z_run;refine BK p _ (BQ rfl (.inl ((W.trans I).seq hL)) ?_);rw[A8];z_run;refine å (λaj=>?_) (λaj=>?_)
 .have aj:=Ag aj;have an:k<pr.n:=by lia
  have ag:k<tb.length:=by lia
  cases Z:tb.getD k none with
  | none=>exact absurd Z ap
  | some c =>
  have a0:EN (tb.map DN) (k:Int)=some (.int c):=HZ (by
   rw[Ba,A9 ag]at Z
   have Z:tb[k]=some c:=Z;rw[Ap,A9 ag,Z]<;>rfl)
  obtain⟨e0,aH⟩:=Br.jm Y (Bj k) an ap;obtain⟨gm,ay,xp⟩:=qm (f:=λj=>tb.getD j none) Z aH;refine AX _ (CC (λa1 H' h=>h) ?_);z_run;refine DC d r am tb pr (AX k (DT rfl ((ai.trans I) _ _ al) ae (AH.of (I _ _ ah)) aD an (CC (by lia) (λrc xs H4 aS aA az aw=>⟨rc,rfl,⟨_,AH.of az⟩,λD hD=>?_⟩))));have aR:(HR pr (λj=>tb.getD j none) k (pr.n-k)).length<=pr.n-k:=T1 _ _
  let Izz:zU:=λj ys σ H5=>∃(v8 v9:Option V),ys=((((HR pr (λj=>tb.getD j none) k (pr.n-k)).take j).filter λx=>decide (x.1=c)).map λx=>((x.2:Nat):Int)).map V.int/\σ=[some (.ref l),some (.ref p),some (.int ms),some (.ref g),some (.ref d),some (.ref r),some (.ref br),some (.int (k:Int)),v8,v9]/\AD H4 H5/\H5 D=some (.lst ys)
  refine IX (a:=rc) (xs:=xs) Izz
   ?_ ?_ ?_ ?_
  .exact BK none none (BP rfl rfl (BC hD _) AA)
  .exact λj ys σ H5 _ ⟨_,_,_,_,J,_⟩=>AH.of (J _ _ az)
  .refine λj y ys σ H5 hy ar=>FO λv8 v9=>DP λG ad J ac=>?_;subst G;subst ad;obtain⟨x,aP,t,rfl,ht⟩:=IG aw hy;have aV:H5 r=some (.lst (tb.map DN)):=((I.trans aA).trans J) _ _ ah;have aZ:(HR pr (λj=>tb.getD j none) k (pr.n-k)).take (j+1)=(HR pr (λj=>tb.getD j none) k (pr.n-k)).take j++[x]:=by rw[Ao,aP];rfl
   have aK:=Jm (λx:Int×Nat=>decide (x.1=c)) ((HR pr (λj=>tb.getD j none) k (pr.n-k)).take j);rw[Bb]at aK
   refine BK _ _ (BP rfl (BS.of (J _ _ ht)) rfl ?_);x_go;x_go;z_run;rw[OK];refine å (λc1=>?_) (λc1=>?_)
   .z_run;refine FW ar ac (by rw[A8,A8];lia) ⟨_,_,?_,rfl,EH J hD,AA⟩
    grind
   .refine Rj ar ⟨_,_,?_,rfl,J,ac⟩
    grind
  .refine λys σ H5=>FO λv8 v9=>DP λG ad J ac=>?_;subst G;subst ad;rw[B4 aw,Aj (Aa _)]at ac
   have af:=aA.trans J;have aG:=af _ _ ax;refine EB D _ _ (BP rfl (AH.of ac) xp ?_);z_run;refine⟨.inl ⟨rfl,_,AH.of aG⟩,?_⟩;z_run;refine EB br _ _ (CQ rfl rfl aG (Kz (by rw[A8];lia)) ?_);obtain⟨g1,g2,ga,gb,g3,g4,g5⟩:=ay.1;refine⟨pr.n-gm,by lia,gm,bs++[gm],rfl,g2,rfl,EH (I.trans af) ak,by rw[AA,Ai];rfl,by rw[B5];show _+1<=_;lia,?_,λrest h=>?_⟩
   .lia
   .rw[C4];exact aa _ (.step an ay h)
 .have aE:k=pr.n:=by
   lia
  subst aE;z_run;have hb:=aa [] .done;rw[Be]at hb
  subst aM;exact q br bs _ H3 aq (W.trans I) ax Y hb
def CU(ws:List Str):Nat->List Nat->List (List Str)
 | _,[]=>[]
 | s,e::r=>(ws.take e).drop s::CU ws e r
theorem cD:∀{bs:List Nat}{s i a b:Nat},(s::bs)[i]?=some a->bs[i]?=some b->(CU ws s bs)[i]?=some ((ws.take b).drop a)
 | [],_,_,_,_,_,h=>by simp at h
 | e::r,s,0,a,b,h1,h2=>by
   have h1:s=a:=Av h1;have h2:e=b:=Av h2;subst h1;subst h2;rfl
 | e::r,s,i+1,a,b,h1,h2=>cD (bs:=r) (s:=e) (i:=i) h1 h2
theorem S9(ws:List Str):∀(bs:List Nat) (s:Nat),(CU ws s bs).length=bs.length
 | [],_=>rfl
 | e::r,s=>C6 (·+ 1) (S9 ws r e)
theorem cE:∀{bs:List Nat}{s:Nat}{x:List Str},x∈CU ws s bs->∃a b,x=(ws.take b).drop a
 | e::r,s,x,h=>by
   rcases Aw.mp h with h|h
   .exact⟨s,e,h⟩
   .exact cE h
def qq(K:Frag):Sp:=λvs H Q _=>∃(p b:Addr) (ws:List Str) (bs:List Nat),vs=[.ref p,.ref b]/\AH K H p (ws.map V.str)/\H b=some (.lst (bs.map FR))/\ws.length<=63/\bs.length<=63/\(∀e∈bs,e<=ws.length) /\
 ∀(D:Addr) (zs:List V) H',H D=none->AD H H'->H' D=some (.lst zs)->Paired (Lns.Nx H D H') zs (CU ws 0 bs)->Q (.ref D) H'
def qu(T:Tx K mg a):AG P w K mg base BL 1 (a.f 22) (a.d 22) ["words","breaks"] (qq K):=by
 refine T.ņ.fn.ok ny (by fin2) (λav A outer s H vs Q E hr h=>?_);obtain⟨p,b,ws,bs,rfl,hP,hB,au,ar,ai,q⟩:=h;refine⟨_,(AJ (AY (DO ["words","breaks","start","end"] [] 2 (Yi K rfl rfl T.wz (AC (BG Nm (BM (AC AL AE)) (pv 1)) (AC (pv 1) AE))) (FX K rfl (n:=2) rfl (BJ (BD 2) (BJ (BD 3) FD))) HH (NZ (Q7 K rfl) (pv 0) (LK (pv 2)) (LK (pv 3)))))),?_⟩;z_run;intro p1 aq;x_fa H1 ae ak;z_run;refine⟨p1,b,_,_,rfl,rfl,ak,ae _ _ hB,DU (by rw[A8];show 1+_<=_;lia),λp2 al=>?_⟩;have e1:[V.int 0]++bs.map FR=(0::bs).map FR:=rfl;rw[e1];have F:=EU (o:=.lst ((0::bs).map FR)) ae al;have Y:upd H1 p2 (.lst ((0::bs).map FR)) p2=some (.lst ((0::bs).map FR)):=AA;generalize upd H1 p2 (.lst ((0::bs).map FR))=H2 at F Y⊢;z_run;refine⟨p2,b,rfl,⟨_,AH.of Y⟩,⟨_,AH.of (F _ _ hB)⟩,λD hD=>?_⟩;refine Yh (a:=p2) (b:=b) (xs:=(0::bs).map FR) (ys:=bs.map FR) (by rw[A8,A8];exact Dt _) (λi zs σ W=>∃(v2 v3:Option V),σ=[some (.ref p),some (.ref b),v2,v3]/\AD H2 W/\W D=some (.lst zs)/\Paired (Lns.Nx H D W) zs ((CU ws 0 bs).take i))
  ?_ ?_ ?_ ?_
 .exact⟨none,none,rfl,BC hD _,AA,.nil⟩
 .rintro i zs σ W hi ⟨_,_,_,Z,_⟩;exact⟨Z.seq (AH.of Y),Z.seq (AH.of (F _ _ hB))⟩
 .rintro i x y t zs σ W hx hy hi ⟨v2,v3,rfl,Z,hh,hz⟩ ht;rw[Ap]at hx hy
  obtain⟨a0,an,rfl⟩:=Bi.mp hx;obtain⟨b0,ad,rfl⟩:=Bi.mp hy;have ap:=ai b0 (Af ad);have aj:=Yr hz;rw[Bb,S9]at aj
  rw[A8]at hi
  x_fa H7 I ao;refine⟨_,_,rfl,BS.of ao,rfl,?_⟩;x_go;x_go;try refine And.intro rfl ?_
  z_run;refine⟨p,_,rfl,(F.trans (Z.trans I)).seq hP,λpn J=>?_⟩;rw[Y4 V.str ws a0 b0 (by lia)];have G:=EU (o:=.lst (((ws.take b0).drop a0).map V.str)) I J;have ac:pn≠D:=λe=>by rw[e,I _ _ hh]at J;cases J
  have ag:upd H7 pn (.lst (((ws.take b0).drop a0).map V.str)) pn=some (.lst (((ws.take b0).drop a0).map V.str)):=AA;have af:=F.free (Z.free (I.free J));generalize upd H7 pn (.lst (((ws.take b0).drop a0).map V.str))=H8 at G ag⊢;refine FW (by rw[A8];exact hi) (G _ _ hh) (by lia) ⟨_,_,rfl,EH (Z.trans G) hD,AA,?_⟩;rw[Ao,cD (ws:=ws) an ad];exact By (Lns.jB (Lns.jA hz G)) ⟨pn,rfl,ac,af,by rw[BE ac];exact ag⟩
 .rintro zs σ W ⟨v2,v3,rfl,am,ah,aa⟩;rw[A8,Aj (by rw[S9];exact Aa _)]at aa
  exact q D zs W (F.free hD) (F.trans am) ah aa
def qw(K:Frag):Sp:=λvs H Q _=>∃(p no:Addr) (xs:List V) (ls:List (List Str)),vs=[.ref p]/\AH K H p xs/\Paired (Lns.KC no H) xs ls/\Qi ls/\∀H',AD H H'->Q (.str (HU ls)) H'
def qz(T:Tx K mg a):AG P w K mg base BL 1 (a.f 44) (a.d 44) ["lines"] (qw K):=by
 refine T.wb.fn.ok nI (by fin2) (λaa A outer s H vs Q E hr h=>?_);obtain⟨p,no,xs,ls,rfl,hS,Z,hf,q⟩:=h;have ac:=hf.1;refine⟨_,(AJ (AY (ER K rfl Bu D0 D3 (Qb K rfl) AN (AC (DO ["lines","line"] [] 1 (GC K rfl (pv 0)) (BD 1) HH (BG LI (ER K rfl Bu D0 D3 (Qb K rfl) AN (AC (pv 1) AE)) (FC (v:=.str "/") rfl T.Ĉ ⟨_,rfl⟩))) AE)))),?_⟩;z_run;intro D hD;refine IX (a:=p) (xs:=xs) (λi ys σ H2=>∃(J:Option V),ys=((ls.take i).map λl=>L9 l++"/").map V.str/\σ=[some (.ref p),J]/\AD H H2/\H2 D=some (.lst ys))
  ?_ ?_ ?_ ?_
 .exact⟨none,rfl,rfl,BC hD _,AA⟩
 .rintro i ys σ H2 hi ⟨J,_,_,G,_⟩;exact G.seq hS
 .rintro i x ys σ H2 hx Y ⟨J,rfl,rfl,G,I⟩;obtain⟨l,hl,p2,rfl,_,W⟩:=IG Z hx;obtain⟨Ŝ,ŏ⟩:=hf.2 l (Af hl);z_run;refine⟨_,p2,l,rfl,rfl,AH.of (G _ _ W),Yn Ŝ ŏ,?_⟩;z_run;refine⟨DU ?_,?_⟩
  .have e:("/":Str).length=1:=by decide
   have e2:(Txt.join " " l).length<=10100:=Lns.Yo Ŝ ŏ
   lia
  refine FW Y I ?_ ⟨_,?_,rfl,EH G hD,AA⟩
  .grind
  .rw[Ao,hl,Ai,Ai];rfl
 .rintro ys σ H2 ⟨J,rfl,rfl,G,I⟩;rw[Yl Z,Aj (Aa _)]at I
  refine⟨_,D,_,rfl,rfl,AH.of I,Lns.jx hf,?_⟩;have q:=q _ G;rw[<-(Lns.jw ls)]at q
  exact q
def qB(h:sg c=sg d):c=d:=by
 have h:(#[c]:Array Nat)=#[d]:=C6 Str.cps h;simpa using h
def Wh:decide (V.str (sg c)=V.str (sg d))=decide (c=d):=by
 rw[EV,D9];exact⟨λh=>qB h,λh=>by rw[h]⟩
def qE:Sp:=λvs H Q _=>∃c:Nat,vs=[.str (sg c)]/\Q (.bl (La c)) H
def cF(T:Tx K mg a):AG P w K mg base BL 1 (a.f 45) (a.d 45) ["key"] qE:=by
 refine T.ĩ.fn.ok nJ (by fin2) (λG A outer s H vs Q E W h=>?_);obtain⟨c,rfl,q⟩:=h;have I:decide (V.str (sg c)=V.str " ")=decide (c=32):=Wh (d:=32);have J:decide (V.str (sg c)=V.str "/")=decide (c=47):=Wh (d:=47);unfold La at q;refine⟨_,(AJ (AY (HL (FU Kx (pv 0) (FC (v:=.str " ") rfl T.ŕ ⟨_,rfl⟩) (BF _)) (Ki (FU Kx (pv 0) (FC (v:=.str "/") rfl T.Ĉ ⟨_,rfl⟩) (BF _)))))),?_⟩;walk;rw[I];cases F:decide (c=32)with
 | true =>
   rw[F]at q
   exact q
 | false =>
   rw[F]at q
   refine AQ ?_;walk;rw[J];exact q
def qH(K:Frag):Sp:=λvs H Q _=>∃(l:Addr) (x:Str) (i:Nat) (rs:List BN),vs=[.ref l,.str x,.int (i:Int)]/\Cs.JG K H l rs/\x.length<=90000/\i<x.cps.toList.length/\∀H',AD H H'->Q (.bl (T9 rs x.cps.toList i)) H'
def qJ(T:Tx K mg a):AG P w K mg base BL 2 (a.f 46) (a.d 46) ["case","keys","at"] (qH K):=by
 refine T.wh.fn.ok nK (by fin2) (λaa A outer s H vs Q E W h=>?_);revert h;refine GJ λl x i rs=>FL λG hC hx hi q=>?_;subst G;have F:x.length<=sizeLine:=DU (by lia);have I:=HZ (A9 hi);unfold T9 at q;rw[A9 hi]at q
 generalize x.cps.toList[i]=c at I q;have q:∀H',AD H H'->Q (.bl (if La c=true then(DW rs (sg c)).isSome else decide (0<i)&&(match x.cps.toList[i-1]? with|none=>false|some d=>La d))) H':=q;refine⟨_,(AI (BY (GU (CK T.ĩ (cF T) W rfl (AC (CT OH (pv 1) (pv 2) (λ_ _=>rfl)) AE))) (AJ (AY (Oo (QY (CK T.ñ (QH T) W rfl (AC (pv 0) (AC (CT OH (pv 1) (pv 2) (λ_ _=>rfl)) AE))))))) CH)
  (AJ (AY (HL (FU NY (pv 2) AL (BF _)) (Ki (CK T.ĩ (cF T) W rfl (AC (CT OH (pv 1) (BG Kj (pv 2) AL) (λ_ _=>rfl)) AE))))))),?_⟩
 walk;refine EB _ _ _ (CQ rfl rfl F I ?_);walk;try refine⟨_,rfl,?_⟩
 cases Y:La c with
 | true =>
   rw[Y]at q
   refine AQ ?_;walk;refine EB _ _ _ (CQ rfl rfl F I ?_);walk;refine EB l (sg c) rs (BQ rfl hC (λH1 ac=>?_));have e:(!decide (Nq (DW rs (sg c))=V.non))=(DW rs (sg c)).isSome:=by
    cases DW rs (sg c)<;>rfl
   grind
 | false =>
   rw[Y]at q
   refine AK ?_;walk;have q:=q H (AD.refl _);rw[As (by decide)]at q
   cases i with
   | zero =>
     exact AK q
   | succ j =>
     have Z:j<x.cps.toList.length:=by lia
     have J:EN x.cps.toList (((j+1:Nat):Int)-1)=some x.cps.toList[j]:=by
      rw[show(((j+1:Nat):Int)-1)=((j:Nat):Int) by lia];exact HZ (A9 Z)
     rw[show j+1-1=j from rfl,A9 Z]at q
     have e0:decide ((0:Int)<((j+1:Nat):Int))=true:=Ac (by lia);rw[e0];refine AQ ?_;walk;refine EB _ _ _ (CQ rfl rfl F J ?_);walk
     lia
def qK(K:Frag):Sp:=λvs H Q _=>∃(l:Addr) (x:Str) (rs:List BN),vs=[.ref l,.str x]/\Cs.JG K H l rs/\x.length<=90000/\Ld rs false x.cps.toList=true/\(x.cps.toList=[]\/∃a,x.cps.toList=a++[47])/\∀H',AD H H'->Q .non H'
def qL(T:Tx K mg a):AG P w K mg base BL 3 (a.f 47) (a.d 47) ["case","keys"] (qK K):=by
 refine T.Ņ.fn.ok ZT (by fin2) (λac A outer s H vs Q E hr h=>?_);obtain⟨l,x,rs,rfl,hC,hx,Í,F,q⟩:=h;have Y:x.length<=sizeLine:=DU (by lia);have aa:x.cps.toList.length=x.length:=B0;refine⟨_,(AI (IR Bm rfl (Uz rfl T.ĕ (AC (CS Q0 rfl T.Ò ET (AC (pv 1) AE)) AE)) (AO 2 ZT.nd) (AJ (BY (LV (GU (CK T.wh (qJ T) hr rfl (AC (pv 0) (AC (pv 1) (AC (pv 2) AE)))))) (AJ Uv) CH)))
  (AJ (BY (PW.pt (Ot (BX Kx (pv 1) AN (BF _)) (Oq (BX Kx (CT OH (pv 1) (NU NW AL) (λ_ _=>rfl)) (FC (v:=.str "/") rfl T.Ĉ ⟨_,rfl⟩) (BF _))))) (AJ Uv) CH))),?_⟩
 walk;refine R5 (n:=x.length) (λi σ H2=>∃Z:Option V,σ=[some (.ref l),some (.str x),Z]/\AD H H2) ⟨none,rfl,AD.refl _⟩ ?_ ?_
 .rintro i σ H2 hi ⟨Z,rfl,G⟩;walk;refine⟨l,x,i,rs,by rw[Kc];rfl,hC.same G,hx,by lia,λH3 W=>?_⟩;rw[Lns.jC Í (by lia)];exact⟨_,rfl,AK ⟨_,rfl,G.trans W⟩⟩
 .rintro σ H2 ⟨Z,rfl,G⟩;walk;rcases F with I|⟨a0,I⟩
  .have ex:x="":=Yq I;subst ex;have e1:(!decide (V.str ""=V.str ""))=false:=by rw[Ac rfl];rfl
   rw[e1];try refine AK ?_
   exact q H2 G
  .have J:x≠"":=λe=>by
    rw[e]at I
    have h:=C6 List.length I;rw[B5]at h
    have h:0=a0.length+1:=h
    lia
   have e1:(!decide (V.str x=V.str ""))=true:=by rw[EV,Ak J];rfl
   rw[e1];try refine AQ ?_
   have ec:EN x.cps.toList (-1)=some 47:=by
    rw[I];exact Vh a0 47
   walk;refine⟨_,_,_,rfl,rfl,Y,ec,?_⟩;walk;have e2:(!decide (V.str ({ cps:=#[47] }:Str)=V.str "/"))=false:=by rw[show("/":Str)=({ cps:=#[47] }:Str)from rfl,Ac rfl];rfl
   rw[e2];try refine AK ?_
   exact q H2 G
def AW(x:Str):Prop:=x.cps.toList.length<=90000/\∀c∈x.cps.toList,c<128
theorem AW.len(h:AW x):x.length<=90000:=by rw[<-show x.cps.toList.length=x.length from B0];exact h.1
def qO:∀c,c<128->(!(Builtin.Str.occurrences "0123456789" (sg c) 0 ("0123456789":Str).length 1).isEmpty)=Qq c:=by decide +kernel
def qQ:Sp:=λvs H Q _=>∃x:Str,vs=[.str x]/\AW x/\∀H',AD H H'->Q (.bl (GP x)) H'
def TY(T:Tx K mg a):AG P w K mg base BL 1 (a.f 23) (a.d 23) ["word"] qQ:=by
 refine T.Ě.fn.ok nz (by fin2) (λaa A outer s H vs Q E hr h=>?_);obtain⟨x,rfl,hx,q⟩:=h;have hl:x.cps.toList.length=x.length:=B0;have hsz:x.length<=sizeLine:=DU (by have:=hx.len;lia);have no:∀H',AD H H'->GP x=false->Q (.bl false) H':=λH' s e=>by rw[<-e];exact q H' s
 refine⟨_,(AI (Rf (BY (PW.pt (Ot (BX NY (CS Q0 rfl T.Ò ET (AC (pv 0) AE)) AL (BF _)) (Oq (BX EI (CT OH (pv 0) AL (λ_ _=>rfl)) AN (BF _))))) (AJ (AY LG)) CH))
  (AJ (AY (HL (Sv L6 L6 AL (CS Q0 rfl T.Ò ET (AC (pv 0) AE)) AL) (Ki (CS (Nr K rfl rfl) rfl T.wc SK (AC (DO ["word","figure"] [] 1 (Qa (pv 0)) (BD 1) HH (FU UF (pv 1) (FC (v:=.str "0123456789") rfl T.Ÿ ⟨_,rfl⟩) (by with_unfolding_all rfl))) AE))))))),?_⟩
 refine⟨λσ H2=>σ=[some (.str x)]/\H2=H/\(decide (1<x.cps.toList.length)&&decide (x.cps.toList[0]?=some 48))=false,?_,?_⟩
 .z_run;try refine⟨hsz,?_⟩
  z_run;by_cases hg:1<x.length
  .rw[Ac (show(1:Int)<(x.length:Int) by lia)];refine AQ ?_;have e0:EN x.cps.toList 0=some (x.cps.toList[0]'(by lia)):=HZ (j:=0) (A9 (by lia));have e1:x.cps.toList[0]?=some (x.cps.toList[0]'(by lia)):=A9 (by lia);generalize x.cps.toList[0]'(by lia)=c at e0 e1;refine⟨_,rfl,_,_,_,rfl,rfl,hsz,e0,?_⟩;z_run;rw[show decide (V.str ({ cps:=#[c] }:Str)=V.str "0")=decide (c=48)from Wh (d:=48)];refine å (λI=>?_) (λI=>?_)
   .have I:=Ag I;z_run;refine no _ (AD.refl _) ?_;unfold GP
    lia
   .refine⟨rfl,rfl,?_⟩
    lia
  .rw[Ak (show ¬(1:Int)<(x.length:Int) by lia)];refine AK ⟨rfl,rfl,?_⟩
   lia
 rintro σ H2 ⟨rfl,rfl,F⟩;have en:GP x=((decide (1<=x.cps.toList.length)&&decide (x.cps.toList.length<=4))&&x.cps.toList.all Qq):=by
  unfold GP;rw[F];rfl
 z_run;try refine⟨hsz,?_⟩
 z_run;by_cases h1:1<=x.length
 .rw[Ac (by lia)];refine AQ ?_;z_run;by_cases h2:x.length<=4
  .rw[Ac (by lia)];refine AQ ?_;rw[Ac (by lia),Ac (by lia)]at en
   z_run;intro D hD;refine Rl (x:=x) (λj zs σ J=>∃(Y:Option V),σ=[some (.str x),Y]/\AD H2 J/\J D=some (.lst zs)/\zs=((x.cps.toList.take j).map Qq).map V.bl)
    ?_ ?_ ?_
   .exact⟨none,rfl,BC hD _,AA,rfl⟩
   .rintro j c zs σ J I W ⟨Y,rfl,hs,Z,rfl⟩;have G:x.cps.toList[j]?=some c:=by rw[Dn];exact I
    z_run;rw[qO c (hx.2 c (Af G))];refine FW W Z (by rw[A8,A8,Bb];lia) ⟨_,rfl,EH hs hD,AA,?_⟩;rw[Ao,G,Ai,Ai];rfl
   .rintro zs σ J ⟨Y,rfl,hs,Z,rfl⟩;refine⟨D,_,rfl,AH.of Z,?_⟩;have e2:((x.cps.toList.take x.cps.size).map Qq).all id=GP x:=by
     rw[en,Aj (by rw[B0];exact Aa _),Jc];rfl
    rw[e2];exact q _ hs
  .rw[Ak (by lia)];try refine AK ?_
   refine no _ (AD.refl _) ?_
   lia
 .rw[Ak (by lia)];try refine AK ?_
  refine⟨_,rfl,?_⟩;try refine AK ?_
  refine no _ (AD.refl _) ?_
  lia
def qR:Sp:=λvs H Q _=>∃x:Str,vs=[.str x]/\AW x/\∀H',AD H H'->Q (.bl (KE x)) H'
def qS(T:Tx K mg a):AG P w K mg base BL 2 (a.f 24) (a.d 24) ["word"] qR:=by
 refine T.Ś.fn.ok nB (by fin2) (λac A outer s H vs Q E hr h=>?_);obtain⟨x,rfl,hx,q⟩:=h;have hl:x.cps.toList.length=x.length:=B0;have aa:=hx.1;have no:∀H',AD H H'->KE x=false->Q (.bl false) H':=λH' s e=>by rw[<-e];exact q H' s
 have Z:∀y:Str,decide (V.str x=V.str y)=decide (x=y):=λy=>EV
 refine⟨_,(AJ (AY (HL (FU Kx (pv 0) AN (BF _)) (HL (FU Kx (pv 0) AN (BF _)) (Ki (CS (Nr K rfl rfl) rfl T.wc SK (AC (DO ["word","sign"] [] 1 (Qa (pv 0)) (BD 1) HH (CK T.vn (cm T) hr rfl (AC (pv 1) AE))) AE))))))),?_⟩;z_run;rw[Z];by_cases h1:x=""
 .rw[Ac h1];try refine AK ?_
  refine no _ (AD.refl _) ?_;unfold KE
  lia
 rw[Ak h1];try refine AQ ?_
 z_run;rw[Z];by_cases h2:x="end"
 .rw[Ac h2];try refine AK ?_
  refine no _ (AD.refl _) ?_;unfold KE
  lia
 rw[Ak h2];try refine AQ ?_
 z_run;intro D hD;refine Rl (x:=x) (λj zs σ G=>∃(J:Option V),σ=[some (.str x),J]/\AD H G/\G D=some (.lst zs)/\zs=((x.cps.toList.take j).map λc=>decide (c∈FG)).map V.bl)
  ?_ ?_ ?_
 .exact⟨none,rfl,BC hD _,AA,rfl⟩
 .rintro j c zs σ G hc I ⟨J,rfl,Y,W,rfl⟩;have F:x.cps.toList[j]?=some c:=by rw[Dn];exact hc
  z_run;refine⟨⟨Bh rfl,λd hd=>(Az.mp hd) ▸ hx.2 c (Af F)⟩,FW I W (by rw[A8,A8,Bb];lia) ⟨_,rfl,EH Y hD,AA,?_⟩⟩;rw[Ao,F,Ai,Ai];rfl
 .rintro zs σ G ⟨J,rfl,Y,W,rfl⟩;refine⟨D,_,rfl,AH.of W,?_⟩;have e2:((x.cps.toList.take x.cps.size).map λc=>decide (c∈FG)).all id=KE x:=by
   unfold KE;rw[Ac h1,Ac (p:=x≠("end":Str)) h2,Aj (by rw[B0];exact Aa _),Jc];rfl
  rw[e2];exact q _ Y
structure Lz(H:Hp)(wl:Addr)(ws:List Str):Prop where
 at_:H wl=some (.lst (ws.map V.str))
 ő:ws.length<=90000
 ok:∀x∈ws,AW x
def Lz.same(h:Lz H wl ws)(s:AD H H'):Lz H' wl ws:=⟨s _ _ h.at_,h.ő,h.ok⟩
def qV:AW "":=⟨by decide +kernel,λc F=>by rw[show("":Str).cps.toList=[] by decide]at F;cases F⟩
def Lz.hd(h:Lz H wl ws)(k:Nat):AW (Cp.hd ws k):=by
 unfold Cp.hd;cases e:ws[k]? with
 | none=>exact qV
 | some x=>exact h.ok x (Af e)
def qY:Sp:=λvs H Q _=>∃(F:Addr) (ws:List Str) (n:Nat),vs=[.ref F,.int (n:Int)]/\Lz H F ws/\Q (.str (Cp.hd ws n)) H
def Wi(T:Tx K mg a):AG P w K mg base BL 1 (a.f 25) (a.d 25) ["words","at"] qY:=by
 refine T.š.fn.ok nC (by fin2) (λI A outer s H vs Q E J h=>?_);obtain⟨G,ws,n,rfl,W,q⟩:=h;refine⟨_,(AJ (AY (Nd (BX NX (pv 1) (CS (GA K rfl) rfl T.Ò ET (AC (pv 0) AE)) (BF _)) (CT (EO K rfl) (pv 0) (pv 1) (λ_ _=>rfl)) AN))),?_⟩;z_run;refine⟨G,_,rfl,.inl (AH.of W.at_),?_⟩;rw[A8];z_run;by_cases h:n<ws.length
 .rw[Ac (by lia)];refine AQ ?_;have F:EN (ws.map V.str) (n:Int)=some (.str (Cp.hd ws n)):=HZ (by
   unfold Cp.hd;rw[Ap,A9 h];rfl)
  exact⟨_,rfl,_,rfl,G,_,_,_,rfl,rfl,AH.of W.at_,F,q⟩
 .rw[Ak (by lia)];refine AK ?_;have e:Cp.hd ws n="":=by
   unfold Cp.hd;rw[Jn (by lia)];rfl
  rw[e]at q
  exact q
def qZ:∀x∈([("times":Str),("(":Str),(")":Str),("end":Str)]:List Str),(reprText x).length<=2000:=by decide +kernel
def r9(C:Addr):Sp:=λvs H Q E=>∃(F:Addr) (ws:List Str) (m:Nat) (lo hi:Int),vs=[.ref F,.int (m:Int),.int lo,.int hi]/\Lz H F ws/\m<=100000/\lo.natAbs<=2000/\hi.natAbs<=2000/\(∀n,JQ (Cp.hd ws m) lo hi=some n->∀H',AD H H'->Q (.int n) H')/\(JQ (Cp.hd ws m) lo hi=none->∀H',AD H H'->E (.ref C) none H')
def Sa(T:Tx K mg a):AG P w K mg base (DG P w) 2 (a.f 26) (a.d 26) ["words","at","low","high"] (r9 a.É):=by
 have F:=@Wi P w K mg base a T;refine T.ò.fn.Ő ZQ (by fin2) (λad A outer s H vs Q E hr h=>?_);revert h;refine EM λwl ws m lo hi=>LF λaa W hm af ac q x=>?_;subst aa;have hx:=W.hd m;have hl:(Cp.hd ws m).cps.toList.length=(Cp.hd ws m).length:=B0;refine⟨_,(AI (BH 4 ZQ.nd (CK T.š F hr rfl (AC (pv 0) (AC (pv 1) AE))))
  (AI (BY (PW.pt (Nc (LV (GU (CK T.Ě (TY T) hr rfl (AC (pv 4) AE)))) (Os (LV (X3 L6 L6 (pv 2) (Ky Qo rfl T.ũ OJ (AC (pv 4) AE)) (pv 3)))))) (AJ (Lr T.Ì rfl rfl rfl (AC (mr AN (KD (pv 1)) AN (KD (pv 2)) AN (KD (pv 3))) AE))) CH)
  (AJ (AY (Ky Qo rfl T.ũ OJ (AC (pv 4) AE)))))),?_⟩
 z_run;refine EB wl ws m (BQ rfl W ?_);z_run;first|intro H1 Z|refine⟨Cp.hd ws m,rfl,hx,?_⟩;intro H1 Z
 by_cases h1:GP (Cp.hd ws m)=true
 .have ae:=(RM h1).2;have ht:=Tn h1;rw[h1];z_run;refine BK (Cp.hd ws m) _ (BP rfl ht (by lia) ?_);z_run;by_cases h2:lo<=GQ (Cp.hd ws m)
  .rw[Ac h2];refine AQ ?_;z_run;by_cases h3:GQ (Cp.hd ws m)<=hi
   .have Í:JQ (Cp.hd ws m) lo hi=some (GQ (Cp.hd ws m)):=by
     unfold JQ;rw[Au ⟨h1,h2,h3⟩]
    rw[Ac h3];z_run;try refine AK ?_
    z_run;exact BK (Cp.hd ws m) _ (BP rfl ht (by lia) (q _ Í H1 Z))
   .have G:JQ (Cp.hd ws m) lo hi=none:=by
     unfold JQ;rw[As λz=>h3 z.2.2]
    rw[Ak h3];z_run;try refine AQ ?_
    try z_run
    intro x2 I;refine AX x2 (BQ rfl I ?_);z_run;intro x4 Y;refine AX x4 (BQ rfl Y ?_);z_run;intro x6 J;refine AX x6 (BQ rfl J ?_);z_run;exact λ_=>⟨(by show 1<=10;decide),x G _ Z⟩
  .have G:JQ (Cp.hd ws m) lo hi=none:=by
    unfold JQ;rw[As λz=>h2 z.2.1]
   rw[Ak h2];refine AK ?_;z_run;try refine AQ ?_
   try z_run
   intro x2 I;refine AX x2 (BQ rfl I ?_);z_run;intro x4 Y;refine AX x4 (BQ rfl Y ?_);z_run;intro x6 J;refine AX x6 (BQ rfl J ?_);z_run;exact λ_=>⟨(by show 1<=10;decide),x G _ Z⟩
 .have G:JQ (Cp.hd ws m) lo hi=none:=by
   unfold JQ;rw[As λz=>h1 z.1]
  rw[Hz.mpr h1];z_run;intro x2 I;refine AX x2 (BQ rfl I ?_);z_run;intro x4 Y;refine AX x4 (BQ rfl Y ?_);z_run;intro x6 J;refine AX x6 (BQ rfl J ?_);z_run;exact λ_=>⟨(by show 1<=10;decide),x G _ Z⟩
def ra(C:Addr):Sp:=λvs H Q E=>∃(F:Addr) (ws:List Str) (m:Nat) (x:Str),vs=[.ref F,.int (m:Int),.str x]/\Lz H F ws/\m<=100000/\x∈([("times":Str),("(":Str),(")":Str),("end":Str)]:List Str)/\(Cp.hd ws m=x->Q .non H)/\(Cp.hd ws m≠x->∀H',AD H H'->E (.ref C) none H')
def TZ(T:Tx K mg a):AG P w K mg base (DG P w) 2 (a.f 27) (a.d 27) ["words","at","word"] (ra a.É):=by
 have F:=@Wi P w K mg base a T;refine T.ĥ.fn.Ő nD (by fin2) (λaa A outer s H vs Q E hr h=>?_);revert h;refine GJ λwl ws m x=>GH λG W hm hx q qx=>?_;subst G;have Z:∀x y:Str,decide (V.str x=V.str y)=decide (x=y):=λx y=>EV
 refine AX _ (CC (AJ (BY (BX Kx (CK T.š F hr rfl (AC (pv 0) (AC (pv 1) AE))) (pv 2) (BF _)) (AJ (Lr T.Ì rfl rfl rfl (AC (mh AN (KD (pv 1)) AN (Tp (pv 2))) AE))) CH)) ?_);z_run;refine EB wl ws m (BQ rfl W ?_);z_run;rw[Z];by_cases h:Cp.hd ws m=x
 .rw[Ac h];try refine AK ?_
  z_run;exact q h
 .rw[Ak h];try refine AQ ?_
  z_run;intro x2 I;refine AX x2 (BQ rfl I ?_);z_run;try refine⟨qZ x hx,?_⟩
  intro Y J;refine AX Y (BQ rfl J ?_);z_run;exact λ_=>⟨(by show 1<=10;decide),qx h _ (AD.refl _)⟩
def rf(H:Hp)(e:Int)(b:KW)(H':Hp)(v:V):Prop:=∃t F,v=.ref t/\H' t=some (.tup [F,.int e])/\Jb.GZ (λa=>H a≠none) H' F b
def U0(C:Addr)(f:List Str->Cp.Rd KW):Sp:=λvs H Q E=>∃(F:Addr) (ws:List Str) (n:Nat),vs=[.ref F,.int (n:Int)]/\Lz H F ws/\n<ws.length/\(∀b k,f (ws.drop n)=some (b,k)->∀v H',AD H H'->rf H ((n+k:Nat):Int) b H' v->Q v H')/\(f (ws.drop n)=none->∀H',AD H H'->E (.ref C) none H')
def rg(T:Tx K mg a):AG P w K mg base (DG P w) 3 (a.f 28) (a.d 28) ["words","at"] (U0 a.É Qr):=by
 refine T.Ň.fn.Ő nE (by fin2) (λad A outer s H vs Q E hr h=>?_);revert h;refine FT λwl ws n=>FL λG W ac q x=>?_;subst G;have aa:=W.ő;have Y:Qr (ws.drop n)=(JQ (Cp.hd ws (n+1)) 1 2000).map λn=>(KW.ms n,2):=by
  unfold Qr;rw[KY]
 refine AX _ (CC (AJ (AY (GV (AC (GV (AC AN (AC (FM T.ò (Sa T) hr rfl rfl (AC (pv 0) (AC (BG GK (pv 1) AL) (AC AL (AC AL AE))))) AE))) (AC (BG GK (pv 1) AL) AE))))) ?_);z_run;refine DC wl ws (n+1) 1 2000 (DT rfl W (by lia) (by decide) (by decide) (λm hm H1 F=>?_) (λJ H1 F=>?_))
 .z_run;intro Z ae;x_fa H2 s2 h2;z_run;intro t2 I;exact q (.ms m) 2 (by rw[Y,hm];rfl) _ _ (F.trans (EU s2 I)) ⟨t2,.ref Z,rfl,AA,Z,rfl,BC I _ _ _ h2⟩
 .exact x (by rw[Y,J];rfl) H1 F
def rh(T:Tx K mg a):AG P w K mg base (DG P w) 3 (a.f 29) (a.d 29) ["words","at"] (U0 a.É RN):=by
 refine T.ŷ.fn.Ő TF (by fin2) (λad A outer s H vs Q E hr h=>?_);revert h;refine FT λwl ws n=>FL λY W ac q x=>?_;subst Y;have aa:=W.ő;unfold RN at q x;rw[KY,KY,KY]at q x
 refine⟨_,(AI (BH 2 TF.nd (FM T.ò (Sa T) hr rfl rfl (AC (pv 0) (AC (BG GK (pv 1) AL) (AC AL (AC AL AE))))))
  (AI (BH 3 TF.nd (FM T.ò (Sa T) hr rfl rfl (AC (pv 0) (AC (BG GK (pv 1) AL) (AC (pv 2) (AC AL AE))))))
  (AI (BH 4 TF.nd (FM T.ò (Sa T) hr rfl rfl (AC (pv 0) (AC (BG GK (pv 1) AL) (AC (pv 3) (AC AL AE))))))
  (AJ (AY (GV (AC (GV (AC AN (AC (pv 2) (AC (pv 3) (AC (pv 4) AE))))) (AC (BG GK (pv 1) AL) AE)))))))),?_⟩
 z_run;refine DC wl ws (n+1) 0 99 (DT rfl W (by lia) (by decide) (by decide) (λlo e1 H1 F=>?_) (λG H1 F=>x (by rw[G]) H1 F));have b1:=To e1;rw[e1]at q x
 dsimp only at q x;z_run;refine DC wl ws (n+2) lo 99 (DT rfl (W.same F) (by lia) (by lia) (by decide) (λÀ e2 H2 I=>?_) (λG H2 I=>x (by rw[G]) H2 (F.trans I)));have b2:=To e2;rw[e2]at q x
 dsimp only at q x;z_run;refine DC wl ws (n+3) À 99 (DT rfl (W.same (F.trans I)) (by lia) (by lia) (by decide) (λhi e3 H3 J=>?_) (λG H3 J=>x (by rw[G];rfl) H3 (F.trans (I.trans J))));z_run;intro t1 ae;x_fa H4 s2 h2;z_run;intro t2 Z;exact q (.gp lo À hi) 4 (by rw[e3];rfl) _ _ ((F.trans (I.trans J)).trans (EU s2 Z)) ⟨t2,.ref t1,rfl,AA,t1,rfl,BC Z _ _ _ h2⟩
def cG:KE ""=false:=by decide +kernel
def rj(h1:∀i,i<k->KE (Cp.hd r i)=true)(h2:KE (Cp.hd r k)=false):(r.takeWhile KE)=r.take k/\(r.takeWhile KE).length=k:=by
 induction r generalizing k with
 | nil =>
   cases k with
   | zero=>exact⟨rfl,rfl⟩
   | succ k =>
     have:=h1 0 (Nat.succ_pos _);rw[show Cp.hd [] 0="" from rfl,cG]at this
     cases this
 | cons x r ih =>
   cases k with
   | zero =>
     have h2:KE x=false:=h2;rw[Jz,h2];exact⟨rfl,rfl⟩
   | succ k =>
     have F:KE x=true:=h1 0 (Nat.succ_pos _);obtain⟨G,I⟩:=ih (k:=k) (λi hi=>h1 (i+1) (by lia)) h2;rw[Jz,F]
     grind
def rm(T:Tx K mg a):AG P w K mg base (DG P w) 3 (a.f 30) (a.d 30) ["words","at"] (U0 a.É RO):=by
 have G:=@Wi P w K mg base a T;refine T.vI.fn.Ő W2 (by fin2) (λam A outer s H vs Q E hr h=>?_);revert h;refine FT λwl ws n=>FL λI W ac q x=>?_;subst I;have al:=W.ő;refine⟨_,(AI (BH 2 W2.nd (BG GK (pv 1) AL))
  (AI (Oy (O8 rfl) (GU (CK T.Ś (qS T) hr rfl (AC (CK T.š G hr rfl (AC (pv 0) (AC (pv 2) AE))) AE))) (AJ (BH 2 W2.nd (BG GK (pv 2) AL))))
  (AI (BY (BX EI (pv 2) (BG GK (pv 1) AL) (BF _)) (AJ (Lr T.Ì rfl rfl rfl (AC (Qu AN (KD (pv 2))) AE))) CH)
  (AI (DR (FM T.ĥ (TZ T) hr rfl rfl (AC (pv 0) (AC (pv 2) (AC AN AE)))))
  (AJ (AY (GV (AC (GV (AC AN (AC (NZ (Q7 K rfl) (pv 0) (LK (BG GK (pv 1) AL)) (LK (pv 2))) AE))) (AC (BG GK (pv 2) AL) AE))))))))),?_⟩
 z_run
 let Izz:zT:=λmm σ H3=>∃(e:Nat),mm=ws.length+1-(n+1+e)/\n+1+e<=ws.length/\σ=[some (.ref wl),some (.int (n:Int)),some (.int ((n+1+e:Nat):Int))]/\AD H H3/\∀i,i<e->KE (Cp.hd ws (n+1+i))=true
 refine⟨Izz,
  ⟨_,0,rfl,ac,by rfl,AD.refl _,λi hi=>absurd hi (Ds _)⟩,?_⟩
 refine λmm σ H3=>ES λe=>FL λY ah I J aa=>?_;subst Y;subst I;have W3:=W.same J;z_run;refine⟨wl,ws,n+1+e,rfl,W3,Cp.hd ws (n+1+e),rfl,W3.hd _,λH4 ai=>?_⟩;have F:=J.trans ai;refine AX _ (CC rfl (å (λc=>?_) (λc=>?_)))
 .have ad:Cp.hd ws (n+1+e)≠"":=λz=>by rw[z,cG]at c;cases c
  have ak:=Qs ad;refine AX _ (CC (λao H' h=>h) ?_);z_run;refine⟨_,by lia,e+1,rfl,by lia,by rw[show n+1+(e+1)=n+1+e+1 from rfl];rfl,F,λi hi=>?_⟩
  grind
 .have c:KE (Cp.hd ws (n+1+e))=false:=by
   lia
  obtain⟨a1,a2⟩:=rj (r:=(ws.drop n).drop 1) (k:=e) (λi hi=>by rw[KY,KY,<-Ey];exact aa i hi) (by rw[KY,KY,<-Ey];exact c);have a1:IL (ws.drop n)=((ws.drop n).drop 1).take e:=a1;have a2:(IL (ws.drop n)).length=e:=a2;unfold RO at q x;have W4:=W.same F;have el:(IL (ws.drop n)).length=0↔e=0:=by rw[a2]
  rw[a2,KY,show n+(e+1)=n+1+e by lia]at q x
  z_run;refine å (λz=>?_) (λz=>?_)
  .have z:=V.int.inj (Ag z);have z0:IL (ws.drop n)=[]:=Dd.mp (el.mpr (by lia));z_run;intro x2 af;refine AX x2 (BQ rfl af ?_);z_run;exact λ_=>⟨(by show 1<=10;decide),x (by rw[Au z0]) _ F⟩
  have e0:e≠0:=λy=>z (Ac (C6 V.int (by rw[y];lia)))
  have z0:¬IL (ws.drop n)=[]:=λy=>e0 (el.mp (by rw[y];rfl))
  rw[As z0]at q x
  z_run;refine CA wl ws (n+1+e) ("end") (GS rfl W4 (by lia) (by simp) (λz1=>?_) (λz1 H5 ag=>x (by rw[As z1]) H5 (F.trans ag)));rw[Au z1]at q
  z_run;refine BK wl _ (BQ rfl (AH.of W4.at_) (λp1 ae=>?_));have Z:EJ (ws.map V.str) (some ((n:Int)+1)) (some ((n+1+e:Nat):Int))=(IL (ws.drop n)).map V.str:=by
   rw[show(n:Int)+1=((n+1:Nat):Int) by lia,Y4 V.str ws (n+1) (n+1+e) ah,a1,Ju,List.drop_take]
   grind
  rw[Z];x_fa H5 s5 h5;z_run;intro t1 an;x_fa H6 s6 h6;z_run;intro t2 aj;have s7:=BC aj (.tup [.ref t1,.int (((n+1+e:Nat):Int)+1)]);refine(q _ _ rfl) _ _ (F.trans (s5.trans (s6.trans s7))) ⟨t2,.ref t1,rfl,?_,t1,p1,rfl,s7 _ _ h6,λz=>z (F.free ae),s7 _ _ (s6 _ _ h5)⟩;rw[AA]
  lia
def ro{α:Type}{f:List Str->Cp.Rd α}(hf:∀r x k,f r=some (x,k)->1<=k/\k<=r.length):∀(n:Nat) {r:List Str}{xs:List α}{k:Nat},KF f n r=some (xs,k)->xs.length<=k:=by
 intro n;induction n with
 | zero=>intro r xs k h;cases h
 | succ n ih =>
   intro r xs k h;unfold KF at h;split at h
   .cases h;exact Aa _
   .split at h
    .cases h
    .rename_i x F e;obtain⟨z,hz,G⟩:=Bi.mp h
     grind
def rp{d:Nat}{r:List Str}{F:List (IK d)}{k:Nat}(h:EL d r=some (F,k)):F.length<=k:=ro (λr x k=>Qt d) _ (show KF (IZ d) _ r=some (F,k)from h)
def cH{P:Program}{w:World}{K:Frag}{mg:Str->Option Value}{base:Heap}:AG P w K mg base CX k f fd ps (λ_ _ _ _=>False):=⟨λ_ _ _ _ h=>h.elim,λ_ _ _ _ _ _ _ _ _ _ _ _ _ h=>h.elim⟩
def Sb(C:Addr)(d:Nat):Sp:=λvs H Q E=>∃(G:Addr) (ws:List Str) (n:Nat),vs=[.ref G,.int (n:Int),.int ((4-d:Nat):Int)]/\Lz H G ws/\ws.length<=1000/\n<=ws.length/\d<=4 /\
 (∀I k,EL d (ws.drop n)=some (I,k)->∀(t F:Addr) (xs:List V) H',AD H H'->H' t=some (.tup [.ref F,.int ((n+k:Nat):Int)])->H F=none->H' F=some (.lst xs)->Paired (Jb.BV (λa=>a=F\/H a≠none) H' d) xs I->Q (.ref t) H') /\
 (EL d (ws.drop n)=none->∀H',AD H H'->E (.ref C) none H')
def cJ(C:Addr)(d:Nat):Sp:=λvs H Q E=>∃(F:Addr) (ws:List Str) (n:Nat),vs=[.ref F,.int (n:Int),.int ((4-d:Nat):Int)]/\Lz H F ws/\ws.length<=1000/\n<ws.length/\d<=4 /\
 (∀j k,IZ d (ws.drop n)=some (j,k)->∀(t:Addr) (G:V) H',AD H H'->H' t=some (.tup [G,.int ((n+k:Nat):Int)])->Jb.BV (λa=>H a≠none) H' d G j->Q (.ref t) H') /\
 (IZ d (ws.drop n)=none->∀H',AD H H'->E (.ref C) none H')
def cK(C:Addr)(d:Nat):Sp:=λvs H Q E=>∃(F:Addr) (ws:List Str) (n:Nat),vs=[.ref F,.int (n:Int),.int ((4-d:Nat):Int)]/\Lz H F ws/\ws.length<=1000/\n<ws.length/\d<=4 /\
 (∀d',d=d'+1->∀m G k,NG (λr=>EL d' r) (ws.drop n)=some ((m,G),k)->∀(t:Addr) (I:V) H',AD H H'->H' t=some (.tup [I,.int ((n+k:Nat):Int)])->Jb.BV (λa=>H a≠none) H' (d'+1) I (Sum.inr (m,G))->Q (.ref t) H') /\
 ((∀d',d=d'+1->NG (λr=>EL d' r) (ws.drop n)=none)->∀H',AD H H'->E (.ref C) none H')
def cL(T:Tx K mg a)(hL:2<=L)(hJ:∀d',d=d'+1->∀vs H Q E,Sb a.É d' vs H Q E->spJ vs H Q E)(G_read_jobs:AG P w K mg base (DG P w) L (a.f 33) (a.d 33) ["words","at","brackets"] spJ):AG P w K mg base (DG P w) (L+1) (a.f 31) (a.d 31) ["words","at","brackets"] (cK a.É d):=by
 refine T.ů.fn.Ő TH (by fin2) (λap A outer s H vs Q E hr h=>?_);revert h;refine FT λwl ws n=>LF λaa W af aq av q x=>?_;subst aa;unfold NG at q x;rw[KY,KY,KY,Jf,Ju]at q x
 refine⟨_,(AI (BH 3 TH.nd (FM T.ò (Sa T) hr rfl rfl (AC (pv 0) (AC (pv 1) (AC AL (AC AL AE)))) (hjk:=by lia)))
  (AI (DR (FM T.ĥ (TZ T) hr rfl rfl (AC (pv 0) (AC (BG GK (pv 1) AL) (AC AN AE))) (hjk:=by lia)))
  (AI (DR (FM T.ĥ (TZ T) hr rfl rfl (AC (pv 0) (AC (BG GK (pv 1) AL) (AC AN AE))) (hjk:=by lia)))
  (AI (BY (BX EI (pv 2) (FC (v:=.int 4) rfl T.ģ ⟨_,rfl⟩) (BF _)) (AJ (Lr T.Ì rfl rfl rfl (AC (ml AN (KD (pv 1)) AN (KD (pv 2)) AN) AE))) CH)
  (AI (HY (FM T.Ŕ G_read_jobs hr rfl rfl (AC (pv 0) (AC (BG GK (pv 1) AL) (AC (BG GK (pv 2) AL) AE))) (hjk:=by lia)) (FX K rfl (n:=2) rfl (BJ (AO 4 TH.nd) (BJ (AO 5 TH.nd) FD))))
  (AI (BY (BX EI (CS (GA K rfl) rfl T.Ò ET (AC (pv 4) AE)) AL (BF _)) (AJ (Lr T.Ì rfl rfl rfl (AC (Qu AN (KD (pv 1))) AE))) CH)
  (AI (DR (FM T.ĥ (TZ T) hr rfl rfl (AC (pv 0) (AC (pv 5) (AC AN AE))) (hjk:=by lia)))
  (AJ (AY (GV (AC (GV (AC AN (AC (pv 3) (AC (pv 4) AE)))) (AC (BG GK (pv 5) AL) AE)))))))))))),?_⟩
 z_run;refine DC wl ws n 1 9 (DT rfl W (by lia) (by decide) (by decide) (λmm e1 H1 F=>?_) (λag H1 F=>x (λ_ _=>by rw[ag]) H1 F));have ao:=To e1;have al:((mm.toNat:Nat):Int)=mm:=by lia
 rw[e1]at q x
 dsimp only at q x;have W1:=W.same F;z_run;refine CA wl ws (n+1) ("times") (GS rfl W1 (by lia) (by simp) (λe2=>?_) (λe2 H2 G=>x (λ_ _=>by rw[As λz=>e2 z.1]) H2 (F.trans G)));z_run;refine CA wl ws (n+2) ("(") (GS rfl W1 (by lia) (by simp) (λI=>?_) (λI H2 G=>x (λ_ _=>by rw[As λz=>I z.2]) H2 (F.trans G)));have an:n+2<ws.length:=Qs (λz=>absurd (I.symm.trans z) (by decide +kernel));z_run;refine å (λz=>?_) (λz=>?_)
 .have z:=V.int.inj (Ag z);z_run;intro x2 Y;refine AX x2 (BQ rfl Y ?_);z_run;intro x4 ak;refine AX x4 (BQ rfl ak ?_);z_run;exact λ_=>⟨(by show 1<=10;decide),x (λd' e=>absurd e (by lia)) _ F⟩
 cases d with
 | zero=>exact absurd (Ac (C6 V.int (by rfl))) z
 | succ d =>
 have q:=q d rfl;have x:_->_:=λy=>x (λd' e=>by cases e;exact y)
 rw[Au ⟨e2,I⟩]at q x
 z_run;refine hJ d rfl _ _ _ _ ⟨wl,ws,n+3,by rw[show((4-d:Nat):Int)=((4-(d+1):Nat):Int)+1 by lia];rfl,W1,af,by lia,by lia,λjs k' Z t jl xs H2 G ht ad J ac=>?_,λZ H2 G=>x (by rw[Z]) H2 (F.trans G)⟩;have au:=rp Z;rw[Z]at q x
 dsimp only at q x;refine BK _ _ (BP rfl (BS.of ht) rfl ?_);x_go;x_go;have ah:=B4 ac;z_run;refine BK jl _ (BQ rfl (.inl (AH.of J)) ?_);z_run;refine å (λz=>?_) (λz=>?_)
 .have z:=V.int.inj (Ag z);have e4:js=[]:=Dd.mp (by lia);z_run;intro x2 Y;refine AX x2 (BQ rfl Y ?_);z_run;exact λ_=>⟨(by show 1<=10;decide),x (by rw[Au e4]) _ (F.trans G)⟩
 have e4:¬js=[]:=λy=>z (Ac (C6 V.int (by rw[ah,y];rfl)))
 rw[As e4,KY]at q x
 z_run;refine CA wl ws (n+3+k') (")") (GS rfl (W1.same G) ?_ (by simp) (λe5=>?_) (λe5 H3 ai=>x (by rw[As (by rw[<-Ey];exact e5)]) H3 (F.trans (G.trans ai))))
 .have:=VL (λr x k=>Qt d) _ (show KF (IZ d) _ (ws.drop (n+3))=some (js,k')from Z);rw[Ci]at this
  lia
 rw[Au (by rw[<-Ey];exact e5)]at q
 have aj:=VL (λr x k=>Qt d) _ (show KF (IZ d) _ (ws.drop (n+3))=some (js,k')from Z);rw[Ci]at aj
 z_run;intro t1 ar;x_fa H3 s3 h3;z_run;intro t2 am;have s4:=BC am (.tup [.ref t1,.int (((n+3+k':Nat):Int)+1)]);refine(q _ _ _ rfl) t2 (.ref t1) _ (F.trans (G.trans (s3.trans s4))) ?_ ?_
 .rw[AA]
  lia
 .have ae:=s3.trans s4;refine⟨by lia,by lia,t1,jl,xs,rfl,by rw[al];exact s4 _ _ h3,λz=>z (F.free ad),ae _ _ J,Paired.à ac λ_ _ z=>Jb.BV.same (.of ae) d (Jb.BV.weak (λb hb=>.inr λy=>hb (F.free y)) d z)⟩
def cM{ws:List Str}{n:Nat}(h:n<ws.length):EN (ws.map V.str) (n:Int)=some (.str (Cp.hd ws n)):=HZ (by
 unfold Cp.hd;rw[Ap,A9 h];rfl)
theorem cO(hb:Oe r=true):∀d:Nat,(∀b k,LP r=some (b,k)->∃j,IZ d r=some (j,k)/\∀{M:Addr->Prop}{H':Hp}{v:V},Jb.GZ M H' v b->Jb.BV M H' d v j)/\(LP r=none->IZ d r=none)
 | 0=>⟨λb k h=>⟨b,h,λz=>z⟩,λh=>h⟩
 | d+1=>by
   refine⟨λb k h=>⟨Sum.inl b,?_,λz=>z⟩,λh=>?_⟩
   .unfold IZ;rw[Au hb,h];rfl
   .unfold IZ;rw[Au hb,h];rfl
def cP(T:Tx K mg a){L d:Nat}(hL:3<=L)(G_read_times:AG P w K mg base (DG P w) L (a.f 31) (a.d 31) ["words","at","brackets"] (cK a.É d)):AG P w K mg base (DG P w) (L+1) (a.f 32) (a.d 32) ["words","at","brackets"] (cJ a.É d):=by
 refine T.vO.fn.Ő nF (by fin2) (λae A outer s H vs Q E hr h=>?_);revert h;refine FT λJ ws n=>LF λaa W ac G ad q x=>?_;subst aa;have ev:∀x y:Str,decide (V.str x=V.str y)=decide (x=y):=λx y=>EV
 have I:=cM G;have F:Cp.hd (ws.drop n) 0=Cp.hd ws n:=by rw[KY];rfl
 have xq:∀f:List Str->Cp.Rd KW,Oe (ws.drop n)=true->LP (ws.drop n)=f (ws.drop n)->U0 a.É f [.ref J,.int (n:Int)] H Q E:=λf hb hf =>
  ⟨J,ws,n,rfl,W,G,λb k h v H' s ⟨t,v1,e,h1,h2⟩=>by
    refine DQ ((cO hb d).1 b k (hf.trans h)) λj=>BW λhj mk=>?_;rw[e];exact q j k hj t v1 H' s h1 (mk h2),λh H' s=>x ((cO hb d).2 (hf.trans h)) H' s⟩
 refine⟨_,(AI (BY (BX EI (CT (EO K rfl) (pv 0) (pv 1) (λ_ _=>rfl)) AN (BF _)) (AJ (AY (FM T.Ň (rg T) hr rfl rfl (AC (pv 0) (AC (pv 1) AE)) (hjk:=by lia)))) CH)
  (AI (BY (BX EI (CT (EO K rfl) (pv 0) (pv 1) (λ_ _=>rfl)) AN (BF _)) (AJ (AY (FM T.ŷ (rh T) hr rfl rfl (AC (pv 0) (AC (pv 1) AE)) (hjk:=by lia)))) CH)
  (AI (BY (BX EI (CT (EO K rfl) (pv 0) (pv 1) (λ_ _=>rfl)) AN (BF _)) (AJ (AY (FM T.vI (rm T) hr rfl rfl (AC (pv 0) (AC (pv 1) AE)) (hjk:=by lia)))) CH)
  (AJ (AY (FM T.ů G_read_times hr rfl rfl (AC (pv 0) (AC (pv 1) (AC (pv 2) AE))) (hjk:=by lia))))))),?_⟩
 z_run;try refine⟨J,_,_,_,rfl,rfl,AH.of W.at_,I,?_⟩
 z_run;rw[ev];by_cases h1:Cp.hd ws n="measure"
 .rw[Ac h1];refine AQ ?_;z_run;exact xq _ (by unfold Oe;rw[F,Ac h1];rfl) (by unfold LP;rw[F,Au h1])
 rw[Ak h1];refine AK ?_;z_run;try refine⟨J,_,_,_,rfl,rfl,AH.of W.at_,I,?_⟩
 z_run;rw[ev];by_cases h2:Cp.hd ws n="gaps"
 .rw[Ac h2];refine AQ ?_;z_run;exact xq _ (by unfold Oe;rw[F,Ak h1,Ac h2];rfl) (by unfold LP;rw[F,As h1,Au h2])
 rw[Ak h2];refine AK ?_;z_run;try refine⟨J,_,_,_,rfl,rfl,AH.of W.at_,I,?_⟩
 z_run;rw[ev];by_cases Y:Cp.hd ws n="set"
 .rw[Ac Y];refine AQ ?_;z_run;exact xq _ (by unfold Oe;rw[F,Ak h1,Ak h2,Ac Y];rfl) (by unfold LP;rw[F,As h1,As h2,Au Y])
 rw[Ak Y];refine AK ?_;have hb:Oe (ws.drop n)=false:=by unfold Oe;rw[F,Ak h1,Ak h2,Ak Y];rfl
 z_run;have Z:∀d',d=d'+1->(∀m js k,NG (λr=>EL d' r) (ws.drop n)=some ((m,js),k)->∃j,IZ d (ws.drop n)=some (j,k)/\∀{M:Addr->Prop}{H':Hp}{v:V},Jb.BV M H' (d'+1) v (Sum.inr (m,js))->Jb.BV M H' d v j)/\(NG (λr=>EL d' r) (ws.drop n)=none->IZ d (ws.drop n)=none):=λd' e=>by
  subst e;have Z:IZ (d'+1) (ws.drop n)=(NG (λr=>EL d' r) (ws.drop n)).map λz=>(Sum.inr z.1,z.2):=by
   rw[IZ,As (by rw[hb];exact Ay)];rfl
  exact⟨λm js k h=>⟨_,by rw[Z,h];rfl,λz=>z⟩,λh=>by rw[Z,h];rfl⟩
 refine EB J ws n (DT rfl W ac G ad (λd' e m js k h t v1 H' s ht hv=>?_) (λh=>x ?_))
 .refine DQ ((Z d' e).1 m js k h) λj=>BW λhj mk=>?_;exact q j k hj t v1 H' s ht (mk hv)
 .cases d with
  | zero =>
    show LP (ws.drop n)=none;unfold LP;rw[F,As h1,As h2,As Y]
  | succ d'=>exact(Z d' rfl).2 (h d' rfl)
def HA:MB (ws.drop n)=false↔n<ws.length/\Cp.hd ws n≠")":=by
 unfold MB;rw[KY,Jf,Jt,F7,F7,Jr]
 lia
def cQ(T:Tx K mg a)(G_read_job:AG P w K mg base (DG P w) L (a.f 32) (a.d 32) ["words","at","brackets"] (cJ a.É d)):AG P w K mg base (DG P w) (L+1) (a.f 33) (a.d 33) ["words","at","brackets"] (Sb a.É d):=by
 refine T.Ŕ.fn.Ő TJ (by fin2) (λav A outer s H vs Q E hr h=>?_);revert h;refine FT λwl ws n=>LF λag W ak hn ap q x=>?_;subst ag;have ev:∀x y:Str,decide (V.str x=V.str y)=decide (x=y):=λx y=>EV
 refine⟨_,(AI (BH 3 TJ.nd (BM AE))
  (AI (Oy (O8 rfl) (PW.pt (Ot (BX NX (pv 1) (CS (GA K rfl) rfl T.Ò ET (AC (pv 0) AE)) (BF _)) (Oq (BX Kx (CT (EO K rfl) (pv 0) (pv 1) (λ_ _=>rfl)) AN (BF _))))) (AI (HY (FM T.vO G_read_job hr rfl rfl (AC (pv 0) (AC (pv 1) (AC (pv 2) AE))) (hjk:=by lia)) (FX K rfl (n:=2) rfl (BJ (AO 4 TJ.nd) (BJ (AO 1 TJ.nd) FD))))
  (AJ (DR (ER K rfl An Aq Ar IB (pv 3) (AC (pv 4) AE))))))
  (AJ (AY (GV (AC (pv 3) (AC (pv 1) AE))))))),?_⟩
 z_run;intro jl ad;x_fa H1 ao h1;z_run
 let Izz:zT:=λmm σ H3=>∃(e:Nat) (xs:List V) (I:List (IK d)) (v4:Option V),mm=ws.length-(n+e)/\n+e<=ws.length/\σ=[some (.ref wl),some (.int ((n+e:Nat):Int)),some (.int ((4-d:Nat):Int)),some (.ref jl),v4]/\AD H H3/\H3 jl=some (.lst xs)/\Paired (Jb.BV (λa=>a=jl\/H a≠none) H3 d) xs I/\I.length<=e/\EL d (ws.drop n)=(EL d (ws.drop (n+e))).map λz=>(I++z.1,e+z.2)
 refine⟨Izz,
  ⟨_,0,[],[],none,rfl,hn,rfl,ao,h1,.nil,Aa _,by rw[Jf];cases EL d (ws.drop n)with
    | none=>rfl
    | some z=>show some z=some ([]++z.1,0+z.2);rw[Nat.zero_add];rfl⟩,?_⟩
 refine λmm σ H3=>GJ λe xs I v4=>Kf λaj au ah J Y ae ar G=>?_;subst aj;subst ah;have W3:=W.same J;have done:MB (ws.drop (n+e))=true->∀t,H3 t=none->Q (.ref t) (upd H3 t (.tup [.ref jl,.int ((n+e:Nat):Int)])):=λhs t ht=>by
  rw[Zl (r:=ws.drop (n+e)),Au hs]at G
  have st:=BC ht (.tup [.ref jl,.int ((n+e:Nat):Int)]);refine q I e (by rw[G];show some (I++[],e+0)=_;rw[Be];rfl) t jl xs _ (J.trans st) AA ad (st _ _ Y) (Paired.à ae λ_ _ z=>Jb.BV.same (.of st) d z)
 z_run;refine BK wl _ (BQ rfl (.inl (AH.of W3.at_)) ?_);rw[A8];z_run;by_cases ac:n+e<ws.length
 .rw[Ac (show((n+e:Nat):Int)<(ws.length:Int) by lia)];refine AQ ?_;have af:=cM ac;refine⟨_,rfl,_,rfl,wl,_,_,_,rfl,rfl,AH.of W3.at_,af,?_⟩;clear af;z_run;rw[ev];by_cases hb:Cp.hd ws (n+e)=")"
  .rw[Ac hb];refine AK ?_;have hs:MB (ws.drop (n+e))=true:=by
    cases z:MB (ws.drop (n+e))with
    | true=>rfl
    | false=>exact absurd hb (HA.mp z).2
   z_run;exact λt ht=>done hs t ht
  .rw[Ak hb];refine AQ ?_;have hs:¬MB (ws.drop (n+e))=true:=λz=>by
    rw[HA.mpr ⟨ac,hb⟩]at z
    cases z
   rw[Zl (r:=ws.drop (n+e)),As hs]at G
   refine AX _ (CC (λaw H' h=>h) ?_);z_run;refine EB wl ws (n+e) (DT rfl W3 ak ac ap (λj kj hj t v1 H4 Z an am=>?_) (λal H4 Z=>x (by rw[G,al];rfl) H4 (J.trans Z)));rw[hj]at G
   have ai:=Qt d hj;rw[Ci]at ai
   refine BK _ _ (BP rfl (BS.of an) rfl ?_);x_go;x_go;have aa:=Z _ _ Y;have aq:=B4 ae;z_run;refine⟨.inl ⟨rfl,_,AH.of aa⟩,?_⟩;z_run;refine EB jl _ _ (CQ rfl rfl aa (Kz (by lia)) ?_);have su:Jb.DE (λa=>a=jl\/H a≠none) H4 (upd H4 jl (.lst (xs++[v1]))):=Jb.DE.upd aa (.inl rfl);refine⟨ws.length-(n+(e+kj)),by lia,e+kj,xs++[v1],I++[j],_,rfl,by lia,by rw[<-Ey];rfl,EH (J.trans Z) ad,AA,By (Paired.à ae λ_ _ z=>Jb.BV.same ((Jb.DE.of (N:=λa=>a=jl\/H a≠none) Z).trans su) d z) (Jb.BV.same su d (Jb.BV.weak (λb hb=>?_) d am)),?_,?_⟩
   .rcases hb with y|y
    .rw[y,Y];exact λz=>(nomatch z)
    .exact λz=>y (J.free z)
   .grind
   .rw[G];dsimp only;rw[Ju,Ey];cases EL d (ws.drop (n+(e+kj)))with
    | none=>rfl
    | some z =>
      grind
 .rw[Ak (show ¬((n+e:Nat):Int)<(ws.length:Int) by lia)];refine AK ?_;have hs:MB (ws.drop (n+e))=true:=by
   cases z:MB (ws.drop (n+e))with
   | true=>rfl
   | false=>exact absurd (HA.mp z).1 ac
  z_run;exact λt ht=>done hs t ht
def rq(T:Tx K mg a):AG P w K mg base (DG P w) 17 (a.f 33) (a.d 33) ["words","at","brackets"] (Sb a.É 4):=by
 have F:∀{L d:Nat},2<=L->AG P w K mg base (DG P w) L (a.f 33) (a.d 33) ["words","at","brackets"] (Sb a.É d)->AG P w K mg base (DG P w) (L+1+1+1) (a.f 33) (a.d 33) ["words","at","brackets"] (Sb a.É (d+1)):=λ{L d} I G =>
  cQ T (cP T (by lia) (cL T I (λd' e vs H Q E h=>by cases e;exact h) G))
 exact F (by lia) (F (by lia) (F (by lia) (F (by lia) (cQ T (cP (L:=3) T (by decide) (cL (L:=2) (d:=0) T (by decide) (λd' e=>absurd e (by lia)) cH))))))
def Ku(x:Str):List Str:=if x="" then []else Txt.split x " "
def rr(C:Addr):Sp:=λvs H Q E=>∃(x:Str),vs=[.str x]/\x.length<=80000/\(Ku x).length<=1000/\(∀y∈Ku x,AW y) /\
 (∀G,RP (Ku x)=some G->∀(F:Addr) (xs:List V) H',AD H H'->H F=none->H' F=some (.lst xs)->Paired (Jb.BV (λa=>a=F) H' 4) xs G->Q (.ref F) H') /\
 (RP (Ku x)=none->∀H',AD H H'->E (.ref C) none H')
def rA(T:Tx K mg a):AG P w K mg base (DG P w) 18 (a.f 34) (a.d 34) ["text"] (rr a.É):=by
 refine T.ž.fn.Ő TK (by fin2) (λaf A outer s H vs Q E hr h=>?_);obtain⟨x,rfl,hx,hm,hw,q,qx⟩:=h;have ev:∀y:Str,decide (V.str x=V.str y)=decide (x=y):=λy=>EV
 have ac:(Ku x).length<=90000:=by
  lia
 unfold RP at q qx;refine⟨_,(AI (Rf (BH 1 TK.nd (Nd (BX Kx (pv 0) AN (BF _)) (ER K rfl Bu E5 E6 T6 (pv 0) (AC AN AE)) (BM AE))))
  (AI (HY (FM T.Ŕ (rq T) hr rfl rfl (AC (pv 1) (AC AL (AC AL AE)))) (FX K rfl (n:=2) rfl (BJ (AO 2 TK.nd) (BJ (AO 3 TK.nd) FD))))
  (AI (BY (BX NX (pv 3) (CS (GA K rfl) rfl T.Ò ET (AC (pv 1) AE)) (BF _)) (AJ (Lr T.Ì rfl rfl rfl (AC (P7 AN (KD (pv 3)) AN) AE))) CH)
  (AJ (AY (pv 2)))))),?_⟩
 refine⟨λσ H1=>∃J,σ=[some (.str x),some (.ref J),none,none]/\AD H H1/\H1 J=some (.lst ((Ku x).map V.str)),?_,?_⟩
 .z_run;rw[ev];by_cases Z:x=""
  .rw[Ac Z];refine AK ?_;z_run;intro J G;refine⟨J,rfl,BC G _,?_⟩;rw[AA];unfold Ku;rw[Au Z];rfl
  .rw[Ak Z];refine AQ ?_;z_run;try refine⟨rfl,?_⟩
   z_run;intro J G;refine⟨J,rfl,BC G _,?_⟩;rw[AA];unfold Ku;rw[As Z]
 rintro σ H1 ⟨J,rfl,Y,G⟩;have W:Lz H1 J (Ku x):=⟨G,ac,hw⟩
 z_run;refine⟨J,Ku x,0,rfl,W,hm,Bj _,Aa _,λjs k e1 t jl xs H2 I ht aa ae hp=>?_,λe1 H2 I=>qx (by rw[show EL 4 (Ku x)=none from e1]) H2 (Y.trans I)⟩;have e1:EL 4 (Ku x)=some (js,k):=e1;rw[e1]at q qx
 dsimp only at q qx;refine⟨_,_,rfl,BS.of ht,rfl,?_⟩;x_go;x_go;z_run;refine⟨J,_,rfl,.inl (AH.of (W.same I).at_),?_⟩;rw[A8];z_run;refine å (λz=>?_) (λz=>?_)
 .have z:=Ag z;z_run;intro x2 ad;refine⟨x2,rfl,ad,?_⟩;z_run;exact λ_=>⟨(by show 1<=10;decide),qx (by rw[Au (by lia)]) _ (Y.trans I)⟩
 have z:¬k<(Ku x).length:=λy=>z (Ac (by lia))
 z_run;exact q js (by rw[As z]) jl xs H2 (Y.trans I) (Y.free aa) ae (Paired.à hp λ_ _ z=>Jb.BV.weak (λ_ y=>.inl y) 4 z)
def QJ(c:Nat):Bool:=decide (c=48)||decide (c=49)
def MF(x:Str):Bool:=decide (x.cps.toList.length=7)&&x.cps.toList.all QJ
def LA(cs:List Nat):Nat:=cs.foldl (λn c=>n*2+(c-48)) 0
def rB:∀c,c<128->(!(Builtin.Str.occurrences "01" (sg c) 0 ("01":Str).length 1).isEmpty)=QJ c:=by decide +kernel
def rC(h:QJ c=true):c=48\/c=49:=by
 unfold QJ at h
 lia
def rD:Sp:=λvs H Q _=>∃x:Str,vs=[.str x]/\AW x/\∀H',AD H H'->Q (.bl (MF x)) H'
def rE(T:Tx K mg a):AG P w K mg base BL 1 (a.f 35) (a.d 35) ["word"] rD:=by
 refine T.vN.fn.ok nG (by fin2) (λaa A outer s H vs Q E hr h=>?_);obtain⟨x,rfl,hx,q⟩:=h;have hl:x.cps.toList.length=x.length:=B0;have hsz:x.length<=sizeLine:=DU (by have:=hx.len;lia);refine⟨_,(AJ (AY (HL (FU EI (CS Q0 rfl T.Ò ET (AC (pv 0) AE)) (FC (v:=.int 7) rfl T.đ ⟨_,rfl⟩) (BF _)) (Ki (CS (Nr K rfl rfl) rfl T.wc SK (AC (DO ["word","figure"] [] 1 (Qa (pv 0)) (BD 1) HH (FU UF (pv 1) AN (by with_unfolding_all rfl))) AE)))))),?_⟩;z_run;try refine⟨hsz,?_⟩
 z_run;refine å (λF=>?_) (λF=>?_)
 .have F:=V.int.inj (Ag F);z_run;intro D hD;refine Rl (x:=x) (λj zs σ I=>∃(W:Option V),σ=[some (.str x),W]/\AD H I/\I D=some (.lst zs)/\zs=((x.cps.toList.take j).map QJ).map V.bl)
   ?_ ?_ ?_
  .exact⟨none,rfl,BC hD _,AA,rfl⟩
  .rintro j c zs σ I hc J ⟨W,rfl,Z,Y,rfl⟩;have G:x.cps.toList[j]?=some c:=by rw[Dn];exact hc
   z_run;rw[rB c (hx.2 c (Af G))];refine FW J Y (by rw[A8,A8,Bb];lia) ⟨_,rfl,EH Z hD,AA,?_⟩;rw[Ao,G,Ai,Ai];rfl
  .rintro zs σ I ⟨W,rfl,Z,Y,rfl⟩;refine⟨D,_,rfl,AH.of Y,?_⟩;have e2:((x.cps.toList.take x.cps.size).map QJ).all id=MF x:=by
    unfold MF;rw[Ac (by lia),Aj (by rw[B0];exact Aa _),Jc];rfl
   rw[e2];exact q _ Z
 .have F:¬x.cps.toList.length=7:=λz=>F (Ac (C6 V.int (by lia)))
  have e:MF x=false:=by
   unfold MF;rw[Ak F];rfl
  rw[e]at q
  exact q _ (AD.refl _)
def rF{cs:List Nat}{j c:Nat}(h:cs[j]?=some c):LA (cs.take (j+1))=LA (cs.take j)*2+(c-48):=by
 unfold LA;rw[Ao,h,Option.toList_some,List.foldl_append];rfl
def rG:∀c,c=48\/c=49->PySem.intText? (sg c)=some ((c-48:Nat):Int):=by
 intro c h;rcases h with rfl|rfl<;>decide +kernel
def rH:Sp:=λvs H Q _=>∃x:Str,vs=[.str x]/\MF x=true/\∀H',AD H H'->Q (.int (LA x.cps.toList:Nat)) H'
def rJ(T:Tx K mg a):AG P w K mg base BL 1 (a.f 36) (a.d 36) ["word"] rH:=by
 refine T.Ū.fn.ok TN (by fin2) (λaa A outer s H vs Q E hr h=>?_);obtain⟨x,rfl,Y,q⟩:=h;unfold MF at Y;obtain⟨G,I⟩:=Ct.mp Y;have G:=Ag G;refine⟨_,(AI (BH 1 TN.nd AL)
  (AI (IR Bm rfl (Qa (pv 0)) (AO 2 TN.nd) (AJ (BH 1 TN.nd (BG GK (BG OD (pv 1) AL) (Ky Qo rfl T.ũ OJ (AC (pv 2) AE))))))
  (AJ (AY (pv 1))))),?_⟩
 z_run;refine i6 (x:=x) (λj σ H2=>∃(J:Option V),σ=[some (.str x),some (.int (LA (x.cps.toList.take j):Nat)),J]/\AD H H2) ⟨none,rfl,AD.refl _⟩ ?_ ?_
 .rintro j c σ H2 hc Z ⟨J,rfl,W⟩;have F:x.cps.toList[j]?=some c:=by rw[Dn];exact hc
  z_run;refine⟨sg c,_,rfl,rG c (rC (Bf.mp I c (Af F))),by show 1<=640;decide,?_⟩;z_run;refine⟨some (.str (sg c)),?_,W⟩;rw[rF F,Jj,Int.natCast_mul];rfl
 .rintro σ H2 ⟨J,rfl,W⟩;z_run
  grind
noncomputable def Og:List Str->Bool
 | [s,w,t,n]=>decide (s≠"")&&GP w&&MF t&&GP n
 | _=>false
def rK:Sp:=λvs H Q _=>∃(p:Addr) (ws:List Str),vs=[.ref p]/\H p=some (.lst (ws.map V.str))/\ws.length<=90100/\(∀x∈ws,AW x)/\∀H',AD H H'->Q (.bl (Og ws)) H'
def rL(T:Tx K mg a):AG P w K mg base BL 2 (a.f 37) (a.d 37) ["words"] rK:=by
 refine T.wJ.fn.ok S1 (by fin2) (λaa A outer s H vs Q E hr h=>?_);obtain⟨p,ws,rfl,hp,hl,hw,q⟩:=h;have ev:∀x y:Str,decide (V.str x=V.str y)=decide (x=y):=λx y=>EV
 refine⟨_,(AI (BY (BX Kx (CS (GA K rfl) rfl T.Ò ET (AC (pv 0) AE)) AL (BF _)) (AJ (AY LG)) CH)
  (AI (HY (pv 0) (Vp K rfl (n:=4) rfl (BJ (AO 1 S1.nd) (BJ (AO 2 S1.nd) (BJ (AO 3 S1.nd) (BJ (AO 4 S1.nd) FD))))))
  (AJ (AY (HL (FU Kx (pv 1) AN (BF _)) (HL (CK T.Ě (TY T) hr rfl (AC (pv 2) AE)) (HL (CK T.vN (rE T) hr rfl (AC (pv 3) AE)) (Ki (CK T.Ě (TY T) hr rfl (AC (pv 4) AE)))))))))),?_⟩
 z_run;refine⟨p,_,rfl,.inl (AH.of hp),?_⟩;rw[A8];z_run;refine å (λc=>?_) (λc=>?_)
 .have c:ws.length≠4:=λz=>by
   rw[z]at c
   exact absurd c (by decide)
  have e:Og ws=false:=by
   unfold Og;split
   .exact absurd rfl c
   .rfl
  rw[e]at q
  z_run;exact q _ (AD.refl _)
 have c:ws.length=4:=by
  lia
 obtain⟨Z,W,J,Y,rfl⟩:∃a b c d,ws=[a,b,c,d]:=by
  match ws,c with
  | [a,b,c,d],_=>exact⟨a,b,c,d,rfl⟩
 have a1:=hw W (by simp);have a2:=hw J (by simp);have a3:=hw Y (by simp);have hS:AH K H p [.str Z,.str W,.str J,.str Y]:=AH.of hp;have q:∀H',AD H H'->Q (.bl (decide (Z≠"")&&GP W&&MF J&&GP Y)) H':=q;z_run;refine⟨p,_,rfl,hS,rfl,?_⟩;x_go;x_go;x_go;x_go;try refine And.intro rfl ?_
 z_run;rw[ev];by_cases h1:Z=""
 .rw[Ac h1];rw[Ak (λz=>z h1)]at q
  try refine AK ?_
  exact q _ (AD.refl _)
 rw[Ak h1];rw[Ac h1]at q
 try refine AQ ?_
 z_run;first|intro H1 F|refine⟨W,rfl,a1,λH1 F=>?_⟩
 cases h2:GP W with
 | false =>
   rw[h2]at q
   z_run;try refine AK ?_
   exact q _ F
 | true =>
 rw[h2]at q
 z_run;try refine AQ ?_
 z_run;first|intro H2 G|refine⟨J,rfl,a2,λH2 G=>?_⟩
 cases h3:MF J with
 | false =>
   rw[h3]at q
   z_run;try refine AK ?_
   exact q _ (F.trans G)
 | true =>
 rw[h3]at q
 z_run;try refine AQ ?_
 z_run;first|intro H3 I|refine⟨Y,rfl,a3,λH3 I=>?_⟩
 have q:=q _ (F.trans (G.trans I))
 lia
def Wj:∀{ws:List Str}{y:Str},y∈ws->(∀c∈y.cps.toList,c∈(Str.join ⟨#[d]⟩ ws).cps.toList)/\y.cps.toList.length<=(Str.join ⟨#[d]⟩ ws).cps.toList.length:=by
 intro ws;induction ws with
 | nil=>intro y F;cases F
 | cons a r ih =>
   intro y F;cases r with
   | nil=>rw[Az.mp F];exact⟨λc G=>G,Aa _⟩
   | cons b r =>
     have e:(Str.join ⟨#[d]⟩ (a::b::r)).cps.toList=a.cps.toList++[d]++(Str.join ⟨#[d]⟩ (b::r)).cps.toList:=by
      show(a++⟨#[d]⟩++Str.join ⟨#[d]⟩ (b::r)).cps.toList=_;rw[T7,T7]
     grind
def Wk:∀y∈Txt.split x ⟨#[d]⟩,AW x->AW y:=λy G F=>by
 have h:=Wj (d:=d) G;rw[Gw]at h
 exact⟨Bk h.2 F.1,λc I=>F.2 c (h.1 c I)⟩
def rM:List Str->BN
 | [s,w,t,n]=>⟨s,GQ w,((LA t.cps.toList:Nat):Int),GQ n⟩
 | _=>⟨"",0,0,0⟩
def KG(x:Str):Option BN:=if Og (Txt.split x " ")=true then some (rM (Txt.split x " "))else none
def cR(h:Og ws=true):∃s w t n,ws=[s,w,t,n]/\s≠""/\GP w=true/\MF t=true/\GP n=true:=by
 unfold Og at h
 grind
def rN(C:Addr):Sp:=λvs H Q E=>∃(i:Nat) (x:Str),vs=[.int (i:Int),.str x]/\AW x/\i<=100000/\(∀r,KG x=some r->∀p H',AD H H'->H p=none->H' p=some (.tup (JN r))->Q (.ref p) H')/\(KG x=none->∀H',AD H H'->E (.ref C) none H')
def rO(T:Tx K mg a):AG P w K mg base (DG P w) 3 (a.f 38) (a.d 38) ["at","row"] (rN a.ï):=by
 refine T.vF.fn.Ő QB (by fin2) (λaj A outer s H vs Q E hr h=>?_);revert h;refine FO λi x=>FL λY hx hi q qx=>?_;subst Y;have ah:=hx.len;have Z:∀y∈Txt.split x " ",AW y:=λy hy=>Wk (d:=32) y hy hx
 have ae:=Vg x (" ":Str);unfold KG at q qx;refine⟨_,(AI (BH 2 QB.nd (ER K rfl Bu E5 E6 T6 (pv 1) (AC AN AE)))
  (AI (BY (LV (GU (CK T.wJ (rL T) hr rfl (AC (pv 2) AE)))) (AJ (Lr T.Ö rfl rfl rfl (AC (P7 AN (KD (pv 0)) AN) AE))) CH)
  (AI (HY (pv 2) (Vp K rfl (n:=4) rfl (BJ (AO 3 QB.nd) (BJ (AO 4 QB.nd) (BJ (AO 5 QB.nd) (BJ (AO 6 QB.nd) FD))))))
  (AJ (AY (GV (AC (pv 3) (AC (Ky Qo rfl T.ũ OJ (AC (pv 4) AE)) (AC (CK T.Ū (rJ T) hr rfl (AC (pv 5) AE)) (AC (Ky Qo rfl T.ũ OJ (AC (pv 6) AE)) AE)))))))))),?_⟩
 z_run;intro D hD;x_fa H1 af W;generalize Txt.split x (" ":Str)=ws at q qx Z ae W;z_run;refine BK D ws (CQ rfl W (by lia) Z (λH2 aa=>?_));have G:=af.trans aa;cases I:Og ws with
 | false =>
   z_run;try refine AQ ?_
   z_run;intro x2 ad;refine AX x2 (BQ rfl ad ?_);z_run;exact λ_=>⟨(by show 1<=10;decide),qx (by rw[I];rfl) _ G⟩
 | true =>
   refine Uh (cR I) λs0 w0 t0 n0=>FL λac h1 h2 h3 h4=>?_;subst ac;have ag:AH K H2 D [.str s0,.str w0,.str t0,.str n0]:=AH.of (aa _ _ W);have l1:=RM h2;have l2:=RM h4;have ai:w0.cps.toList.length=w0.length:=B0;have ak:n0.cps.toList.length=n0.length:=B0;z_run;try refine AK ?_
   refine BK D _ (BP rfl ag rfl ?_);x_go;x_go;x_go;x_go;try refine And.intro rfl ?_
   z_run;try refine⟨w0,_,rfl,Tn h2,by lia,?_⟩
   z_run;first|intro H3 J|refine⟨t0,rfl,h3,λH3 J=>?_⟩|refine⟨h3,λH3 J=>?_⟩
   z_run;try refine⟨n0,_,rfl,Tn h4,by lia,?_⟩
   z_run;intro p hp;exact(q _ (by rw[Au I])) p _ (G.trans (J.trans (BC hp _))) ((G.trans J).free hp) AA
def JR:List Str->Option (List BN)
 | []=>some []
 | x::xs=>match KG x with
   | none=>none
   | some r=>(JR xs).map (r::·)
theorem cS:∀{xs:List Str}{rs:List BN},xs.map KG=rs.map some->JR xs=some rs
 | [],[],_=>rfl
 | [],_::_,h=>by cases h
 | _::_,[],h=>by cases h
 | x::xs,r::rs,h=>by
   have h1:KG x=some r:=(Cg h).1;have h2:JR xs=some rs:=cS (Cg h).2;show(match KG x with|none=>none|some r=>(JR xs).map (r::·))=_;rw[h1,h2];rfl
theorem cT:∀{xs:List Str}{i:Nat}{x:Str},xs[i]?=some x->KG x=none->JR xs=none
 | [],_,_,h,_=>by simp at h
 | y::xs,0,x,h,hn=>by
   have h:some y=some x:=h;have h:=Av h;show(match KG y with|none=>none|some r=>(JR xs).map (r::·))=_;rw[h,hn]
 | y::xs,i+1,x,h,hn=>by
   have h2:JR xs=none:=cT (i:=i) h hn;show(match KG y with|none=>none|some r=>(JR xs).map (r::·))=_;rw[h2];cases KG y<;>rfl
def rP{x:Str}{r:BN}(h:KG x=some r)(G:AW x)(I:x.length<=1000):Ls 1000 r.s:=by
 unfold KG at h;by_cases c:Og (Txt.split x " ")=true
 .rw[Au c]at h
  obtain⟨F,J,Z,W,e,_⟩:=cR c;rw[e]at h
  cases h;have hm:F∈Txt.split x ⟨#[32]⟩:=by
   show F∈Txt.split x (" ":Str);rw[e];exact Al
  have h2:=Wj (d:=32) hm;rw[Gw]at h2
  have Y:x.cps.toList.length=x.length:=B0;exact⟨by have:=h2.2;show F.cps.toList.length<=1000;lia,(Wk F hm G).2⟩
 .rw[As c]at h
  cases h
def rQ(G F:Addr):Sp:=λvs H Q E=>∃(x:Str),vs=[.str x]/\AW x/\(Txt.split x ("\n":Str)).length<=1000/\(∀y∈Txt.split x ("\n":Str),y.length<=1000) /\
 (∀rs,JR (Txt.split x ("\n":Str))=some rs->Cs.Looks rs none->∀D xs H',H D=none->AD H H'->H' D=some (.lst xs)->Paired (Cs.HP H') xs rs->Q (.ref D) H') /\
 (∀rs k,JR (Txt.split x ("\n":Str))=some rs->Cs.Looks rs (some k)->∀H' dx,AD H H'->H' dx=none->E (.ref F) (some dx) (upd H' dx (.xd [("at",.int (k:Int))]))) /\
 (JR (Txt.split x ("\n":Str))=none->∀H',AD H H'->E (.ref G) none H')
def rR(T:Tx K mg a):AG P w K mg base (DG P w) 5 (a.f 39) (a.d 39) ["text"] (rQ a.ï a.æ):=by
 refine T.Ź.fn.Ő ZR (by fin2) (λaz A outer s H vs Q E hr h=>?_);revert h;refine ES λx=>LF λal hx hm ah q qc qt=>?_;subst al;have ax:=hx.len;have aa:∀y∈Txt.split x "\n",AW y:=λy hy=>Wk (d:=10) y hy hx
 refine⟨_,(AI (Zm (i:=1) rfl rfl ZR.nd rfl NT rfl (Q8 K rfl rfl T.ó (AC (ER K rfl Bu E5 E6 T6 (pv 0) (AC AN AE)) AE)) (DL.of (N':=["text","case","at","row"]) (ms:=[]) (k:=2) (by rfl)) (λ_ _ _ _ _=>(FX K rfl (n:=2) rfl (BJ (BD 2) (BJ (BD 3) FD)))) (λ_ _ _ _ _=>(FM T.vF (rO T) hr rfl rfl (AC (pv 2) (AC (pv 3) AE)))))
  (AI (DR (FM T.ł (pH T) hr rfl rfl (AC (pv 1) AE)))
  (AJ (AY (pv 1))))),?_⟩
 z_run;intro p1 aA;x_fa H1 Y ae;generalize Txt.split x ("\n":Str)=ls at hm ah q qc qt aa ae;refine AX p1 (BQ rfl ⟨_,AH.of ae⟩ (λD hD=>?_))
 let Izz:zU:=λj zs σ H6=>∃(v2 v3:Option V) (rs:List BN),σ=[some (.str x),none,v2,v3]/\AD H1 H6/\H6 D=some (.lst zs)/\Paired (Cs.HP H6) zs rs/\(∀v∈zs,v≠.ref D)/\(ls.take j).map KG=rs.map some
 refine gX (a:=p1) (xs:=ls.map V.str) Izz
  ?_ ?_ ?_ ?_
 .exact EB none none [] (GS rfl (BC hD _) AA .nil (λv h=>(nomatch h)) rfl)
 .refine λj zs σ H6 hj=>FT λ_ _ _=>FN λ_ hs _=>?_;exact hs.seq (AH.of ae)
 .rintro j y t zs σ H6 hy ao ⟨v2,v3,rs,rfl,hs,hh,hz,au,I⟩ ht;rw[Ap]at hy
  refine DQ (Bi.mp hy) λy=>BW λW af=>?_;subst af;have av:=(B9.mp W).1;x_fa H7 G ay;have aw:=Nt hz;have aj:rs.length=j:=by
   have:=C6 List.length I
   grind
  z_run;x_go;x_go;try refine And.intro rfl ?_
  z_run;refine BK j y (CQ rfl (aa y (Af W)) (by lia) (λr hr pr H8 ad ak ag=>?_) (λap H8 ad=>?_))
  .have J:=G.trans ad;have am:=J _ _ hh;have ai:pr≠D:=λe=>by rw[e,G _ _ hh]at ak;cases ak
   refine FW ao am (by lia) ⟨_,_,rs++[r],rfl,EH (hs.trans J) hD,AA,?_,λv hv=>?_,?_⟩
   .exact By (SV (KA hz J) am (λz e=>by cases e)) ⟨pr,rfl,by rw[BE ai];exact ag⟩
   .grind
   .rw[Ao,W,Ai,Ai,I];show _++[KG y]=_++[some r]
    rw[hr]
  .exact qt (cT W ap) _ ((Y.trans hs).trans (G.trans ad))
 .refine λzs σ H6=>FT λv2 v3 rs=>GH λan hs hh hz au I=>?_;subst an;rw[A8,Aj (Aa _)]at I
  have Z:=cS I;have aj:rs.length=ls.length:=by
   have:=C6 List.length I
   grind
  have aq:∀r∈rs,Ls 1000 r.s:=λr hr=>by
   have:some r∈ls.map KG:=by rw[I];exact Cq.mpr ⟨r,hr,rfl⟩
   refine DQ (Cq.mp this) λy=>BW λhy e=>?_;exact rP e (aa y hy) (ah y hy)
  z_run;refine EB D zs rs (DT rfl hh hz (by lia) aq (λH7 dx k G ar ac=>?_) (λH7 G ac=>?_))
  .exact qc rs k Z ac H7 dx ((Y.trans hs).trans G) ar
  .z_run;exact q rs Z ac D zs H7 (Y.free hD) ((Y.trans hs).trans G) (G _ _ hh) (KA hz G)
def rS(K:Frag)(C:Addr):Sp:=λF H Q E=>∃(q t:Addr) (ps:List DA) (p:DA) (vs:List V),F=[.ref q,.ref t]/\H q=some (.lst vs)/\Paired (Jb.N9 K q H) vs ps/\Jb.N9 K q H (.ref t) p/\Jb.FI ps /\
 (Jb.FI (ps++[p])->∀H',Jb.AS q H H'->H' q=some (.lst (vs++[.ref t]))->Q .non H')/\(¬Jb.FI (ps++[p])->∀H',Jb.AS q H H'->E (.ref C) none H')
def rT(T:Tx K mg a):AG P w K mg base (DG P w) 1 (a.f 40) (a.d 40) ["paragraphs","paragraph"] (rS K a.Ó):=by
 refine T.ĺ.fn.Ő nH (by fin2) (λak A outer s H vs Q E hr h=>?_);revert h;refine EM λq t ps p us=>LF λad hq ae hp hf qg qx=>?_;subst ad;have ag:=B4 ae;have al:=hf.1;have G:=Jb.Od.add hq ae hp;have Y:Jb.AS q H (upd H q (.lst (us++[.ref t]))):=(Jb.AS.refl q H).upd;have I:upd H q (.lst (us++[.ref t])) q=some (.lst (us++[.ref t])):=AA;refine⟨_,(AI (DR (ER K rfl An Aq Ar IB (pv 0) (AC (pv 1) AE)))
  (AI (BY (BX NY (CS (GA K rfl) rfl T.Ò ET (AC (pv 0) AE)) (FC (v:=.int 60) rfl T.ö ⟨_,rfl⟩) (BF _)) (AJ (Lr T.Î rfl rfl rfl (AC (P7 AN (KD (FC (v:=.int 60) rfl T.ö ⟨_,rfl⟩)) AN) AE))) CH)
  (AJ (BY (BX NY (CS (OP K rfl rfl) rfl T.wH US (AC (DO ["paragraphs","paragraph","measure","gaps","words"] [] 3 (GC K rfl (pv 0)) (FX K rfl (n:=3) rfl (BJ (BD 2) (BJ (BD 3) (BJ (BD 4) FD)))) HH (CS (GA K rfl) rfl T.Ò ET (AC (pv 4) AE))) AE)) (FC (v:=.int 400) rfl T.ĝ ⟨_,rfl⟩) (BF _)) (AJ (Lr T.Î rfl rfl rfl (AC (P7 AN (KD (FC (v:=.int 400) rfl T.ĝ ⟨_,rfl⟩)) AN) AE))) CH)))),?_⟩
 z_run;refine⟨.inl ⟨rfl,_,AH.of hq⟩,?_⟩;z_run;refine EB q _ _ (CQ rfl rfl hq (Kz (by lia)) ?_);have ŏ:(us++[V.ref t]).length=(ps++[p]).length:=by rw[B5,B5,ag];rfl
 generalize upd H q (.lst (us++[.ref t]))=H1 at G Y I⊢;generalize us++[V.ref t]=ws at G I ŏ qg⊢;generalize ps++[p]=qs at G ŏ qg qx⊢;z_run;refine BK q _ (BQ rfl (.inl (AH.of I)) ?_);rw[ŏ];z_run;refine å (λh1=>?_) (λh1=>?_)
 .have h1:=Ag h1;z_run;intro x2 aa;refine AX x2 (BQ rfl aa ?_);z_run;exact λ_=>⟨(by show 1<=10;decide),qx (λz=>by have:=z.1;lia) _ Y⟩
 .have h1:¬(60:Int)<((qs.length:Nat):Int):=λz=>h1 (Ac z)
  have ai:qs.length<=60:=by lia
  z_run;refine⟨⟨_,AH.of I⟩,λD hD=>?_⟩
  let Izz:zU:=λj zs σ H6=>∃(v2 v3 v4:Option V),σ=[some (.ref q),some (.ref t),v2,v3,v4]/\AD H1 H6/\H6 D=some (.lst zs)/\zs=((qs.take j).map λp=>((p.2.2.length:Nat):Int)).map V.int
  refine IX (a:=q) (xs:=ws) Izz
   ?_ ?_ ?_ ?_
  .exact EB none none none (BP rfl (BC hD _) AA rfl)
  .refine λj zs σ H6 hj=>FT λ_ _ _=>FN λ_ Z _=>?_;exact AH.of (Z _ _ I)
  .refine λj y zs σ H6 hy ah=>FT λv2 v3 v4=>DP λJ Z hh W=>?_;subst J;subst W;obtain⟨r,af,t',g,w',rfl,ht,hg,hn,hw⟩:=IG G hy;have aj:qs.take (j+1)=qs.take j++[r]:=by rw[Ao,af];rfl
   refine BK _ _ (BP rfl (BS.of (Z _ _ ht)) rfl ?_);x_go;x_go;x_go;z_run;refine BK w' _ (BQ rfl (.inl (AH.of (Z _ _ hw))) ?_);rw[A8];refine FW ah hh ?_ ⟨_,_,_,rfl,EH Z hD,AA,?_⟩
   .grind
   grind
  .refine λzs σ H6=>FT λv2 v3 v4=>DP λJ Z hh W=>?_;subst J;subst W;rw[Aj (by lia)]at hh
   have ac:List.sum (qs.map λp=>((p.2.2.length:Nat):Int))=((N8 qs:Nat):Int):=by
    unfold N8;generalize qs=l;induction l with
    | nil=>rfl
    | cons p l ih=>rw[Bl,Bl,Eu,Eu,ih,Jj]
   refine BK D _ (BQ rfl (AH.of hh) ?_);rw[ac];z_run;refine å (λh2=>?_) (λh2=>?_)
   .have h2:=Ag h2;z_run;intro x2 aa;refine AX x2 (BQ rfl aa ?_);z_run;exact λ_=>⟨(by show 1<=10;decide),qx (λz=>by have:=z.2;lia) _ (Y.trans (.of Z))⟩
   .have h2:¬(400:Int)<((N8 qs:Nat):Int):=λz=>h2 (Ac z)
    z_run;exact qg ⟨by lia,by lia⟩ _ (Y.trans (.of Z)) (Z _ _ I)
def cU(K:Frag)(H:Hp)(v:V)(x:DA×Addr):Prop:=∃t g,v=.ref t/\H t=some (.tup [.int x.1.1,.ref g,.ref x.2])/\BS K H g (x.1.2.1.map V.int)/\H x.2=some (.lst (x.1.2.2.map V.str))
def GR(K:Frag)(H0:Hp)(q:Addr)(H:Hp)(vs:List V)(ps:List DA):Prop:=∃xs:List (DA×Addr),ps=xs.map (·.1)/\Paired (cU K H) vs xs/\(xs.map (·.2)).Nodup/\∀x∈xs,H0 x.2=none/\x.2≠q
theorem GR.len{K:Frag}(h:GR K H0 q H vs ps):vs.length=ps.length:=by
 obtain⟨xs,rfl,h2,_⟩:=h;rw[A8];exact B4 h2
theorem cV{α β γ:Type}{F:α->β->Prop}{G:α->γ->Prop}{f:β->γ}:∀{xs:List α}{ys:List β},Paired F xs ys->(∀x y,y∈ys->F x y->G x (f y))->Paired G xs (ys.map f)
 | _,_,.nil,_=>.nil
 | _,_,.cons r t,h=>.cons (h _ _ Al r) (cV t λx y I=>h x y (Ah _ I))
theorem Wl{α β:Type}{F G:α->β->Prop}:∀{xs:List α}{ys:List β},Paired F xs ys->(∀x y,y∈ys->F x y->G x y)->Paired G xs ys
 | _,_,.nil,_=>.nil
 | _,_,.cons r t,h=>.cons (h _ _ Al r) (Wl t λx y I=>h x y (Ah _ I))
def GR.at{K:Frag}{H0 H:Hp}{q:Addr}{vs:List V}{ps:List DA}(h:GR K H0 q H vs ps):Paired (Jb.N9 K q H) vs ps:=by
 obtain⟨xs,rfl,h2,_,F⟩:=h;exact cV h2 λv x G ⟨t,g,e,z,y,w⟩=>⟨t,g,x.2,e,z,y,(F x G).2,w⟩
def GR.same{K:Frag}{H0 H H':Hp}{q:Addr}{vs us:List V}{ps:List DA}(h:GR K H0 q H vs ps)(s:Jb.AS q H H')(hq:H q=some (.lst us)):GR K H0 q H' vs ps:=by
 obtain⟨xs,e,h2,G,F⟩:=h;exact⟨xs,e,Wl h2 λv x I ⟨t,g,e,z,y,w⟩=>⟨t,g,e,s.tup hq z,s.wM hq y,s _ _ (F x I).2 w⟩,G,F⟩
theorem O4{α β:Type}{F:α->β->Prop}:∀{xs:List α}{ys:List β},Paired F xs ys->∀y∈ys,∃x,F x y
 | _,_,.nil,y,h=>nomatch h
 | _,_,.cons r t,y,h=>by
   rcases Aw.mp h with e|h
   .rw[e];exact⟨_,r⟩
   .exact O4 t y h
def GR.add{K:Frag}{H0 H H':Hp}{q w:Addr}{vs us:List V}{ps:List DA}{p:DA}{v:V}(h:GR K H0 q H vs ps)(sm:Jb.AS q H0 H)(hq:H q=some (.lst us))(hw:H w=none)(s:Jb.AS q H H')(Y:cU K H' v (p,w)):GR K H0 q H' (vs++[v]) (ps++[p]):=by
 have G:w≠q:=λz=>by rw[z,hq]at hw;cases hw
 have h0:H0 w=none:=by
  cases e:H0 w with
  | none=>rfl
  | some o=>rw[sm w o G e]at hw;cases hw
 obtain⟨xs,rfl,h2,Z,J⟩:=h;refine⟨xs++[(p,w)],by rw[Ai];rfl,By (Wl h2 λv x F ⟨t,g,e,z,y,w⟩=>⟨t,g,e,s.tup hq z,s.wM hq y,s _ _ (J x F).2 w⟩) Y,?_,λx F=>?_⟩
 .rw[Ai];refine Ig.mpr ⟨Z,Bx.mpr ⟨Bt,Fh⟩,λa ha b hb z=>?_⟩;obtain⟨x,F,rfl⟩:=Cq.mp ha;have hb:=Az.mp hb;obtain⟨_,_,_,_,_,_,I⟩:=O4 h2 x F;rw[z,hb,hw]at I
  cases I
 grind
structure IM(K:Frag)(H0 H:Hp)(jl g q:Addr)(d:Nat)(js:List (IK d))(gs:List Int)(ps:List DA):Prop where
 jb:∃xs,H jl=some (.lst xs)/\Paired (Jb.DX q H d) xs js
 ne:jl≠q
 gp:BS K H g (gs.map V.int)
 pr:∃vs,H q=some (.lst vs)/\GR K H0 q H vs ps
 ft:Jb.FI ps
 ő:js.length<=1000
 sm:Jb.AS q H0 H
def Ph(K:Frag)(C:Addr)(H0 H:Hp)(q:Addr)(ps:List DA)(o:N7)(Q:VK)(E:XK):Prop :=
 (Jb.FI (ps++o.1)->∀(r g:Addr) H',Jb.AS q H H'->H r=none->H' r=some (.tup [.int o.2.1,.ref g])->BS K H' g (o.2.2.map V.int)->(∃vs,H' q=some (.lst vs)/\GR K H0 q H' vs (ps++o.1))->Q (.ref r) H') /\
 (¬Jb.FI (ps++o.1)->∀H',Jb.AS q H H'->E (.ref C) none H')
def Sd(K:Frag)(C:Addr)(H0:Hp)(d:Nat):Sp:=λF H Q E=>∃(J g q:Addr) (m:Int) (G:List (IK d)) (I:List Int) (ps:List DA),F=[.ref J,.int m,.ref g,.ref q]/\IM K H0 H J g q d G I ps/\Ph K C H0 H q ps (CP (HX d) G (m,I)) Q E
def cW(K:Frag)(C:Addr)(H0:Hp)(d:Nat):Sp:=λF H Q E=>∃(J g q:Addr) (m:Int) (n:Nat) (G:List (IK d)) (I:List Int) (ps:List DA),F=[.int (n:Int),.ref J,.int m,.ref g,.ref q]/\n<=1000/\IM K H0 H J g q d G I ps/\Ph K C H0 H q ps (Lf (CP (HX d) G) n (m,I)) Q E
def IM.same{K:Frag}(h:IM K H0 H jl g q d js gs ps)(s:Jb.AS q H H')(J:BS K H' g' (gs'.map V.int))(F:∃vs,H' q=some (.lst vs)/\GR K H0 q H' vs ps')(hf:Jb.FI ps'):IM K H0 H' jl g' q d js gs' ps':=by
 obtain⟨⟨xs,Y,G⟩,ne,_,⟨vs,I,_⟩,_,ő,sm⟩:=h;exact⟨⟨xs,s _ _ ne Y,Paired.à G λ_ _ z=>Jb.DX.same s I d z⟩,ne,J,F,hf,ő,sm.trans s⟩
def rV(h:Jb.AS q H H2)(hq:H2 q=some o)(F:H2 r=none):H r=none:=by
 cases e:H r with
 | none=>rfl
 | some o' =>
   have G:r≠q:=λz=>by rw[z,hq]at F;cases F
   rw[h r o' G e]at F
   cases F
def Ph.fin{K:Frag}(h:Ph K C H0 H q ps o Q E)(s:Jb.AS q H H2)(J:IM K H0 H2 jl g2 q d js o.2.2 (ps++o.1))(I:H2 r=none):Q (.ref r) (upd H2 r (.tup [.int o.2.1,.ref g2])):=by
 obtain⟨vs,F,Y⟩:=J.pr;have G:AD H2 (upd H2 r (.tup [.int o.2.1,.ref g2])):=BC I _;exact h.1 J.ft r g2 _ (s.trans (.of G)) (rV s F I) AA (Jb.AS.wM (.of G) F J.gp) ⟨vs,G _ _ F,Y.same (.of G) F⟩
def rW(T:Tx K mg a)(G_do_jobs:AG P w K mg base (DG P w) L (a.f 42) (a.d 42) ["jobs","measure","gaps","paragraphs"] (Sd K a.Ó H0 d)):AG P w K mg base (DG P w) (L+1) (a.f 41) (a.d 41) ["many","jobs","measure","gaps","paragraphs"] (cW K a.Ó H0 d):=by
 refine T.vJ.fn.Ő S3 (by fin2) (λaq A outer s H vs Q E hr h=>?_);revert h;refine EM λjl g q m n=>FT λjs gs ps=>FL λai hn J qg qx=>?_;subst ai;generalize hf:CP (HX d) js=f at qg qx;refine⟨_,(AI (IR (O8 rfl) rfl (Uz rfl T.ĕ (AC (pv 0) AE)) (AO 5 S3.nd) (AI (BH 6 S3.nd (CS (GA K rfl) rfl T.Ò ET (AC (pv 4) AE)))
  (AI (HY (FM T.vr G_do_jobs hr rfl rfl (AC (pv 1) (AC (pv 2) (AC (pv 3) (AC (pv 4) AE)))) (hjk:=by lia)) (FX K rfl (n:=2) rfl (BJ (AO 2 S3.nd) (BJ (AO 3 S3.nd) FD))))
  (AJ (BY (BX EI (CS (GA K rfl) rfl T.Ò ET (AC (pv 4) AE)) (pv 6) (BF _)) (AJ eY) CH)))))
  (AJ (AY (GV (AC (pv 2) (AC (pv 3) AE)))))),?_⟩
 z_run
 let Izz:zT:=λi σ H2=>∃(F:List DA) (st:Jb.St) (g2:Addr) (v5 v6:Option V),σ=[some (.int (n:Int)),some (.ref jl),some (.int st.1),some (.ref g2),some (.ref q),v5,v6]/\Jb.AS q H H2/\IM K H0 H2 jl g2 q d js st.2 (ps++F)/\Lf f n (m,gs)=(F++(Lf f (n-i) st).1,(Lf f (n-i) st).2)
 refine R5 (n:=n) Izz
  ⟨[],(m,gs),g,none,none,rfl,.refl _ _,by rw[Be];exact J,by rw[Kb];rfl⟩ ?_ ?_
 .refine λi σ H2 hi=>EM λF st g2 v5 v6=>DP λI Y J2 ht=>?_;subst I;refine DQ J2.pr λae=>BW λak an=>?_;have ŏ:=an.len;obtain⟨k,hk⟩:∃k,n-i=k+1:=⟨n-i-1,by lia⟩
  have al:n-(i+1)=k:=by lia
  rw[hk]at ht
  have ap:CP (HX d) js (st.1,st.2)=f st:=by rw[hf]
  z_run;refine BK q _ (BQ rfl (.inl (AH.of ak)) ?_);z_run;refine DC jl g2 q st.1 js (BK st.2 (ps++F) (BQ rfl J2 ?_));rw[ap];have G:Lf f (k+1) st=if (f st).1=[]then f st else((f st).1++(Lf f k (f st).2).1,(Lf f k (f st).2).2):=rfl
  generalize f st=o at G⊢;refine⟨λag r3 g3 H3 W ar h3 am af=>?_,λaj H3 W=>?_⟩
  .have J3:=J2.same W am af ag;revert af;refine ES λad=>BW λao ah=>?_;have xh:=ah.len;have aa:=Y.trans W;refine BK _ _ (BP rfl (BS.of h3) rfl ?_);x_go;x_go;z_run;refine BK q _ (BQ rfl (.inl (AH.of ao)) ?_);z_run;by_cases Z:o.1=[]
   .rw[Au Z]at G
    rw[G,Z]at ht
    have e1:V.int ((ad.length:Nat):Int)=V.int ((ae.length:Nat):Int):=by rw[xh,ŏ,Z,Be]
    rw[Ac e1];refine AQ ?_;rw[Be]at ht
    rw[ht]at qg qx
    rw[Z,Be]at J3
    unfold WS;dsimp +zetaDelta only;z_run;intro r ac;exact Ph.fin (o:=(F,o.2)) ⟨qg,qx⟩ aa J3 ac
   .rw[As Z]at G
    rw[G]at ht
    have e1:¬V.int ((ad.length:Nat):Int)=V.int ((ae.length:Nat):Int):=λz=>by
     have z:=V.int.inj z;rw[xh,ŏ,B5 (as:=ps++F)]at z
     have:0<o.1.length:=Ga.mpr Z
     lia
    rw[Ak e1];refine AK ⟨F++o.1,o.2,g3,_,_,rfl,aa,by rw[<-C4];exact J3,?_⟩;rw[al,ht,C4]
  .refine qx (λz=>aj ?_) H3 (Y.trans W);rw[ht]at z
   by_cases Z:o.1=[]
   .grind
   .rw[G,As Z,show ps++(F++(o.1++(Lf f k o.2).1))=(ps++F++o.1)++(Lf f k o.2).1 by simp only[C4]]at z
    exact z.left
 .refine λσ H2=>EM λF st g2 v5 v6=>DP λI Y J2 ht=>?_;subst I;rw[Gc]at ht
  have ht:Lf f n (m,gs)=(F++[],st):=ht;rw[Be]at ht
  rw[ht]at qg qx
  z_run;intro r ac;exact Ph.fin ⟨qg,qx⟩ Y J2 ac
def cX(T:Tx K mg a)(hL:1<=L)(hT:∀(d':Nat),d=d'+1->∀vs H Q E,cW K a.Ó H0 d' vs H Q E->spT vs H Q E)(G_do_times:AG P w K mg base (DG P w) L (a.f 41) (a.d 41) ["many","jobs","measure","gaps","paragraphs"] spT):AG P w K mg base (DG P w) (L+1) (a.f 42) (a.d 42) ["jobs","measure","gaps","paragraphs"] (Sd K a.Ó H0 d):=by
 refine T.vr.fn.Ő QC (by fin2) (λaJ A outer s H vs Q E hr h=>?_);revert h;refine EM λjl g q m Z=>FO λgs ps=>DP λau J qg qx=>?_;subst au;refine DQ J.jb λxs=>BW λhx hj=>?_;have ao:=B4 hj;refine⟨_,(AI (IR (O8 rfl) rfl (GC K rfl (pv 0)) (AO 4 QC.nd) (AJ (BY (BX EI (CT (KP K rfl) (pv 4) AL (λ_ _=>rfl)) AN (BF _)) (AJ (BH 1 QC.nd (CT (KP K rfl) (pv 4) AL (λ_ _=>rfl)))) (AJ (BY (BX EI (CT (KP K rfl) (pv 4) AL (λ_ _=>rfl)) AN (BF _)) (AJ (BH 2 QC.nd (NZ (hU K rfl) (pv 4) (LK AL) SG))) (AJ (BY (BX EI (CT (KP K rfl) (pv 4) AL (λ_ _=>rfl)) AN (BF _)) (AJ (DR (FM T.ĺ (rT T) hr rfl rfl (AC (pv 3) (AC (GV (AC (pv 1) (AC (pv 2) (AC (Ky (V2 K rfl) rfl T.vq SL (AC (CT (KP K rfl) (pv 4) AL (λ_ _=>rfl)) AE)) AE)))) AE)) (hjk:=by lia)))) (AJ (HY (FM T.vJ G_do_times hr rfl rfl (AC (CT (KP K rfl) (pv 4) AL (λ_ _=>rfl)) (AC (CT (KP K rfl) (pv 4) AL (λ_ _=>rfl)) (AC (pv 1) (AC (pv 2) (AC (pv 3) AE))))) (hjk:=by lia)) (FX K rfl (n:=2) rfl (BJ (AO 1 QC.nd) (BJ (AO 2 QC.nd) FD))))))))))))
  (AJ (AY (GV (AC (pv 1) (AC (pv 2) AE)))))),?_⟩
 z_run;refine⟨⟨_,AH.of hx⟩,?_⟩;refine R4 (a:=jl) (xs:=xs) (λi σ H2=>∃(g2:Addr) (v4:Option V),σ=[some (.ref jl),some (.int (CP (HX d) (Z.take i) (m,gs)).2.1),some (.ref g2),some (.ref q),v4]/\Jb.AS q H H2/\IM K H0 H2 jl g2 q d Z (CP (HX d) (Z.take i) (m,gs)).2.2 (ps++(CP (HX d) (Z.take i) (m,gs)).1))
  ⟨g,none,rfl,.refl _ _,by show IM K H0 H jl g q d Z gs (ps++[]);rw[Be];exact J⟩ (λi σ H2 _ aD=>by obtain⟨_,_,_,hs,_⟩:=aD;exact AH.of (hs _ _ J.ne hx)) ?_ ?_
 .refine λi y σ H2 hy=>FO λg2 v4=>FN λW Y I=>?_;subst W;refine DQ (IG hj hy) λj=>BW λaz aE=>?_;refine DQ I.pr λaq=>BW λG ah=>?_;refine DQ J.pr λaH=>BW λaG _=>?_;have aF:Z.take (i+1)=Z.take i++[j]:=by rw[Ao,az];rfl
  have af:=Jb.Zf (HX d) (Z.take i) j (m,gs);rw[<-aF]at af
  rw[af];have pre:∃r,ps++(CP (HX d) Z (m,gs)).1=ps++(CP (HX d) (Z.take (i+1)) (m,gs)).1++r:=by
   have e:=Jb.Zg (HX d) (Z.take (i+1)) (Z.drop (i+1)) (m,gs);rw[List.take_append_drop]at e
   grind
  rw[af]at pre
  generalize CP (HX d) (Z.take i) (m,gs)=o at af I ah pre⊢;have bad:¬Jb.FI (ps++o.1++(HX d j o.2).1)->¬Jb.FI (ps++(CP (HX d) Z (m,gs)).1):=λh z=>by
   obtain⟨r,e⟩:=pre;rw[e]at z
   have z:=z.left
   grind
  have am:ps++(o.1++(HX d j o.2).1,(HX d j o.2).2).1=ps++o.1++(HX d j o.2).1:=(C4 ..).symm;z_run;rcases Jb.DX.view d (Jb.DX.same Y aG d aE)with⟨b,hb,eb⟩|⟨d',n,aB,ed,hn,aw,⟨t,p,ay,rfl,ht,ap,hp,aA⟩,ej⟩
  .cases b with
   | ms k =>
     revert hb;refine ES λt=>BW λac ht=>?_;subst ac;have e0:HX d j o.2=([],(k,o.2.2)):=eb _;rw[e0];refine CA t _ _ _ (CQ rfl rfl (BS.of ht) rfl ?_);z_run;exact⟨t,_,_,_,rfl,rfl,BS.of ht,rfl,g2,_,rfl,Y,by show IM K H0 H2 jl g2 q d Z o.2.2 (ps++(o.1++[]));rw[Be];exact I⟩
   | gp x1 x2 x3 =>
     revert hb;refine ES λt=>BW λac ht=>?_;subst ac;have e0:HX d j o.2=([],(o.2.1,[x1,x2,x3])):=eb _;rw[e0];refine CA t _ _ _ (CQ rfl rfl (BS.of ht) rfl ?_);z_run;refine CA t _ _ _ (CQ rfl rfl (BS.of ht) rfl ?_);z_run;refine BK t _ (BP rfl (BS.of ht) (λz=>absurd z.1 (by show ¬((1:Nat)=0);decide)) (λr an=>?_));rw[show EJ [V.str "gaps",V.int x1,V.int x2,V.int x3] (some 1) none=[V.int x1,V.int x2,V.int x3]from rfl];have sr:AD H2 (upd H2 r (.tup [.int x1,.int x2,.int x3])):=BC an _;refine BK r _ (BQ rfl (Y.trans (.of sr)) ?_);show IM K H0 _ jl r q d Z [x1,x2,x3] (ps++(o.1++[]));rw[Be];exact I.same (.of sr) (gs':=[x1,x2,x3]) (BS.of AA) ⟨aq,sr _ _ G,ah.same (.of sr) G⟩ I.ft
   | st ws =>
     revert hb;refine FO λt p=>DP λW ht ap hp=>?_;subst W;have e0:HX d j o.2=([(o.2.1,o.2.2,ws)],o.2):=eb _;rw[e0]at am bad⊢
     refine CA t _ _ _ (CQ rfl rfl (BS.of ht) rfl ?_);z_run;refine CA t _ _ _ (CQ rfl rfl (BS.of ht) rfl ?_);z_run;refine CA t _ _ _ (CQ rfl rfl (BS.of ht) rfl ?_);z_run;refine CA t _ _ _ (CQ rfl rfl (BS.of ht) rfl ?_);z_run;refine BK p _ (BQ rfl (.inl (AH.of hp)) (λw hw=>?_));have sw:AD H2 (upd H2 w (.lst (ws.map V.str))):=BC hw _;have ak:upd H2 w (.lst (ws.map V.str)) w=some (.lst (ws.map V.str)):=AA;have ar:w≠q:=λz=>by rw[z,G]at hw;cases hw
     generalize upd H2 w (.lst (ws.map V.str))=H3 at sw ak⊢;z_run;intro t2 aC;have ag:AD H3 (upd H3 t2 (.tup [.int o.2.1,.ref g2,.ref w])):=BC aC _;have aj:upd H3 t2 (.tup [.int o.2.1,.ref g2,.ref w]) t2=some (.tup [.int o.2.1,.ref g2,.ref w]):=AA;generalize upd H3 t2 (.tup [.int o.2.1,.ref g2,.ref w])=H4 at ag aj⊢;have s4:=sw.trans ag;have ae:=s4 _ _ G;have ai:=Y.trans (.of s4);z_run;refine DC q t2 (ps++o.1) (o.2.1,o.2.2,ws) aq (DT rfl ae (Paired.à ah.at λ_ _ z=>z.same (.of s4) G) ⟨t2,g2,w,rfl,aj,Jb.AS.wM (.of s4) G I.gp,ar,ag _ _ ak⟩ I.ft (λaa H5 F h5=>⟨g2,_,rfl,ai.trans F,?_⟩) (λal H5 F=>qx (bad al) H5 (ai.trans F)));rw[am];exact I.same (Jb.AS.trans (.of s4) F) (Jb.AS.wM F ae (Jb.AS.wM (.of s4) G I.gp)) ⟨_,h5,ah.add I.sm G hw (Jb.AS.trans (.of s4) F) ⟨t2,g2,rfl,F.tup ae aj,Jb.AS.wM F ae (Jb.AS.wM (.of s4) G I.gp),F _ _ ar (ag _ _ ak)⟩⟩ aa
  .refine CA t _ _ _ (CQ rfl rfl (BS.of ht) rfl ?_);z_run;refine CA t _ _ _ (CQ rfl rfl (BS.of ht) rfl ?_);z_run;refine CA t _ _ _ (CQ rfl rfl (BS.of ht) rfl ?_);z_run;refine CA t _ _ _ (CQ rfl rfl (BS.of ht) rfl ?_);z_run;refine CA t _ _ _ (CQ rfl rfl (BS.of ht) rfl ?_);z_run;refine hT d' ed _ _ _ _ ⟨p,g2,q,o.2.1,n,aB,o.2.2,ps++o.1,rfl,hn,⟨⟨ay,hp,aA⟩,ap,I.gp,I.pr,I.ft,aw,I.sm⟩,?_⟩;rw[show((o.2.1,o.2.2):Jb.St)=o.2 from rfl,<-ej o.2];refine⟨λaa r3 g3 H3 ad aI h3 ax av=>⟨_,_,rfl,BS.of h3,rfl,?_⟩,λal H3 ad=>qx (bad al) H3 (Y.trans ad)⟩;x_go;x_go;refine⟨rfl,g3,_,rfl,Y.trans ad,?_⟩;rw[am];exact I.same ad ax av aa
 .refine λσ H2=>FO λg2 v4=>FN λW Y I=>?_;subst W;rw[ao,Aj (Aa _)]at I
  rw[ao,Aj (Aa _)];z_run;intro r an;exact Ph.fin ⟨qg,qx⟩ Y I an
def rX(T:Tx K mg a):AG P w K mg base (DG P w) 10 (a.f 42) (a.d 42) ["jobs","measure","gaps","paragraphs"] (Sd K a.Ó H0 4):=by
 have F:∀{L d:Nat},1<=L->AG P w K mg base (DG P w) L (a.f 42) (a.d 42) ["jobs","measure","gaps","paragraphs"] (Sd K a.Ó H0 d)->AG P w K mg base (DG P w) (L+1+1) (a.f 42) (a.d 42) ["jobs","measure","gaps","paragraphs"] (Sd K a.Ó H0 (d+1)):=λ{L d} I G =>
  cX T (by lia) (λd' e vs H Q E h=>by cases e;exact h) (rW T G)
 exact F (by lia) (F (by lia) (F (by lia) (F (by lia) (cX (L:=1) T (by decide) (λd' e=>absurd e (by lia)) cH))))
def JA(F:List (IK 4)):N7:=CP (HX 4) F (100,[2,4,8])
def rY(K:Frag)(C:Addr):Sp:=λG H Q E=>∃(I:Addr) (N:Addr->Prop) (F:List (IK 4)) (xs:List V),G=[.ref I]/\H I=some (.lst xs)/\Paired (Jb.BV N H 4) xs F/\F.length<=1000 /\
 (Jb.FI (JA F).1->∀(q:Addr) H',H q=none->AD H H'->(∃vs,H' q=some (.lst vs)/\GR K H q H' vs (JA F).1)->Q (.ref q) H')/\(¬Jb.FI (JA F).1->∀H',AD H H'->E (.ref C) none H')
def rZ(T:Tx K mg a):AG P w K mg base (DG P w) 11 (a.f 43) (a.d 43) ["jobs"] (rY K a.Ó):=by
 refine T.ŗ.fn.Ő ZS (by fin2) (λae A outer s H vs Q E hr h=>?_);revert h;refine GJ λjl no js xs=>GH λZ Y hj hl qg qx=>?_;subst Z;have F:=(λH0=>rX (P:=P) (w:=w) (base:=base) (H0:=H0) T) H;refine⟨_,(AI (BH 1 ZS.nd (BM AE))
  (AI (DR (FM T.vr F hr rfl rfl (AC (pv 0) (AC (FC (v:=.int 100) rfl T.Ģ ⟨_,rfl⟩) (AC (FC (v:=.ref a.Ć) rfl T.ŋ rfl) (AC (pv 1) AE))))))
  (AJ (AY (pv 1))))),?_⟩
 z_run;intro q hq;have J:AD H (upd H q (.lst [])):=BC hq _;have G:upd H q (.lst []) q=some (.lst []):=AA;have ac:jl≠q:=λz=>by rw[z,hq]at Y;cases Y
 have aa:Paired (Jb.DX q (upd H q (.lst [])) 4) xs js:=by
  exact Paired.à hj λ_ _ z=>Jb.BV.at 4 (Jb.BV.same (Jb.DE.of J) 4 (Jb.BV.fresh (λa ha=>.inr (by rw[ha];exact hq)) 4 z))
 generalize upd H q (.lst [])=H1 at J G aa⊢;have I:∀{H':Hp},Jb.AS q H1 H'->AD H H':=λ{H'} s b o e=>s b o (λz=>by rw[z,hq]at e;cases e) (J _ _ e)
 z_run;refine DC jl a.Ć q 100 js (BK [2,4,8] [] (BQ rfl ⟨⟨xs,J _ _ Y,aa⟩,ac,T.ń _,⟨[],G,[],rfl,.nil,Fh,λx Y=>(nomatch Y)⟩,⟨by decide,by decide⟩,hl,.of J⟩ ?_));refine⟨λW r g H' hs af h1 h2 h3=>?_,λad H' hs=>qx ad H' (I hs)⟩;z_run;exact qg W q H' hq (I hs) h3
abbrev MA(a:Ad)(c:Cf)(H:Hp)(p:Addr)(A:Mc.DS)(m:Ms):Prop:=Mc.EZ a.û FY c H p A m
abbrev IA(a:Ad)(H:Hp)(p:Addr)(vs:List (Option V)):Prop:=IJ a.û FY H p vs
def se(a:Ad):Sp:=λvs H Q _=>∃(p:Addr) (A:Mc.DS) (c:Cf) (m:Ms),vs=[.ref p]/\MA a c H p A m/\Mc.Ok c m/\Q (.str (GY c m)) H
def Wm(T:Tx K mg a):AG P w K mg base BL 1 (a.Ñ 0) (a.Ð 0) ["self"] (se a):=by
 refine T.í.fn.ok nZ (by fin2) (λW A outer s H vs Q E Y h=>?_);obtain⟨p,A,c,m,rfl,M,O,q⟩:=h;have I:=M.ins;have G:c.keys.cps.toList.length=c.keys.length:=B0;have J:=O.cf.short;have hsz:c.keys.length<=sizeLine:=DU (by lia);refine⟨_,(AJ (AY (Nd (BX NX (BB (K:=K) rfl T.Machine.cl T.Õ Pd (pv 0)) (CS Q0 rfl T.Ò ET (AC (BB (K:=K) rfl T.Machine.cl T.ü Wa (pv 0)) AE)) (BF _)) (CT OH (BB (K:=K) rfl T.Machine.cl T.ü Wa (pv 0)) (BB (K:=K) rfl T.Machine.cl T.Õ Pd (pv 0)) (λ_ _=>rfl)) AN))),?_⟩;walk;unfold GY Mc.key at q;by_cases F:m.at_<c.keys.cps.toList.length
 .rw[Ac (by lia)];refine AQ ?_;walk;refine⟨_,_,_,rfl,rfl,hsz,HZ (A9 F),?_⟩;rw[A9 F]at q
  exact q
 .rw[Ak (by lia)];refine AK ?_;rw[Jn (by lia)]at q
  exact q
def Se(a:Ad)(f:Cf->Ms->V):Sp:=λvs H Q _=>∃(p:Addr) (A:Mc.DS) (c:Cf) (m:Ms),vs=[.ref p]/\MA a c H p A m/\Mc.Ok c m/\∀H',AD H H'->Q (f c m) H'
def cY(T:Tx K mg a):AG P w K mg base BL 2 (a.Ñ 1) (a.Ð 1) ["self"] (Se a λc m=>.bl (JP c m)):=by
 refine T.ê.fn.ok ZW (by fin2) (λac A outer s H vs Q E hr h=>?_);revert h;refine GJ λp A c m=>DP λJ M O q=>?_;subst J;have I:=M.ins;refine⟨_,(AI (BH 1 ZW.nd (CK T.ñ (QH T) hr rfl (AC (BB (K:=K) rfl T.Machine.cl T.ø TQ (pv 0)) (AC (IC (K:=K) rfl T.Machine.cl T.í (Wm T) hr Wc (pv 0)) AE))))
  (AJ (AY (HL (Oo (QY (pv 1))) (Ki (FU (HN K rfl hr.units) (CT (EO K rfl) (BB (K:=K) rfl T.Machine.cl T.è S4 (pv 0)) (pv 1) (λ_ _=>rfl)) (BM AE) (BF _))))))),?_⟩
 walk;refine CA p A c m (BP rfl M O ?_);walk;refine DQ M.li.rows λxs=>BW λY W=>?_;refine EB A.c _ c.rs (BQ rfl ⟨xs,AH.of Y,W⟩ (λH1 F=>?_));have q:∀H',AD H H'->Q (.bl (JP c m)) H':=q;cases Z:DW c.rs (GY c m)with
 | none =>
   rw[Z6 Z]at q
   walk;exact q H1 F
 | some k =>
   rw[Mc.lz Z]at q
   refine On (M.xQ O (SW Z)) λlq l=>DP λh1 h2 h3 h4=>?_;rw[Mc.lB h2]at q
   have M1:=M.same F;refine⟨_,rfl,true,rfl,AQ ⟨_,rfl,_,_,_,rfl,M1.ins,rfl,_,rfl,A.L,_,(k:Int),_,rfl,rfl,AH.of M1.li.vX,h4,And.intro (Bj _) λe he=>?_⟩⟩;have G:=BC he (.lst []);have aa:=Mc.FQ.keep (Mc.BU.of_same (S:=λ_=>True) (F.trans G)) trivial h3;refine BK _ _ (BP (aa.den (O.xP h2)) (Ks AA) (LO _) ?_);have q:=q _ (F.trans G);rw[<-NB Oc l]at q
   exact q
def cZ(T:Tx K mg a):AG P w K mg base BL 3 (a.Ñ 2) (a.Ð 2) ["self"] (Se a λc m=>.bl (Qm c m)):=by
 refine T.ė.fn.ok o6 (by fin2) (λaa A outer s H vs Q E Y h=>?_);obtain⟨p,A,c,m,rfl,M,O,q⟩:=h;have q:∀H',AD H H'->Q (.bl (JP c m&&m.Å.isEmpty&&m.bar.isEmpty)) H':=q;have I:=M.ins;refine⟨_,(AJ (AY (HL (IC (K:=K) rfl T.Machine.cl T.ê (cY T) Y ZX (pv 0)) (HL (FU (HN K rfl Y.units) (BB (K:=K) rfl T.Machine.cl T.Ç NN (pv 0)) (BM AE) (BF _)) (Ki (FU (HN K rfl Y.units) (BB (K:=K) rfl T.Machine.cl T.Ø QE (pv 0)) (BM AE) (BF _))))))),?_⟩;walk;refine⟨p,A,c,m,rfl,M,O,λH1 G=>?_⟩;have I1:=(M.same G).ins;refine⟨_,rfl,?_⟩;cases hl:JP c m with
 | false =>
   rw[hl]at q
   exact AK (q H1 G)
 | true =>
   rw[hl]at q
   refine AQ ?_;walk;refine λe Z=>?_;have W:=BC Z (.lst []);have F:=G.trans W;have M2:=M.same F;refine⟨_,_,M2.li.het.den O.vt,Ks AA,LO _,?_⟩;rw[NB LN m.Å];generalize upd H1 e (.lst [])=H2 at W F M2⊢;have I2:=M2.ins;refine⟨_,rfl,?_⟩;cases hh:m.Å.isEmpty with
   | false =>
     rw[hh]at q
     exact AK (q H2 F)
   | true =>
     rw[hh]at q
     refine AQ ?_;walk;refine λe Z=>?_;have J:=BC Z (.lst []);refine⟨_,_,(M2.same J).li.bar.den O.xu,Ks AA,LO _,?_⟩;have q:=q _ (F.trans J);rw[<-NB Oc m.bar]at q
     exact q
def d6(T:Tx K mg a):AG P w K mg base BL 3 (a.Ñ 3) (a.Ð 3) ["self"] (Se a λc m=>.bl (P3 c m)):=by
 refine T.Ā.fn.ok o9 (by fin2) (λaa A outer s H vs Q E Z h=>?_);revert h;refine GJ λp A c m=>DP λW M O q=>?_;subst W;have q:∀H',AD H H'->Q (.bl ((Mc.key c m).isNone&&m.line.isEmpty&&m.Å.isEmpty&&m.bar.isEmpty)) H':=q;have I:=M.ins;refine AX _ (CC (AJ (AY (HL (FU EI (IC (K:=K) rfl T.Machine.cl T.í (Wm T) Z Wc (pv 0)) AN (BF _)) (HL (FU (HN K rfl Z.units) (BB (K:=K) rfl T.Machine.cl T.é S5 (pv 0)) (BM AE) (BF _)) (HL (FU (HN K rfl Z.units) (BB (K:=K) rfl T.Machine.cl T.Ç NN (pv 0)) (BM AE) (BF _)) (Ki (FU (HN K rfl Z.units) (BB (K:=K) rfl T.Machine.cl T.Ø QE (pv 0)) (BM AE) (BF _)))))))) ?_);walk;refine CA p A c m (BP rfl M O ?_);walk;have ek:decide (V.str (GY c m)=V.str "")=(Mc.key c m).isNone:=by
  rw[EV];unfold GY;cases Mc.key c m with
  | none=>exact Ac rfl
  | some k=>exact Ak λe=>by cases e
 rw[ek];cases hl:(Mc.key c m).isNone with
 | false =>
   rw[hl]at q
   exact AK (q H (AD.refl _))
 | true =>
   rw[hl]at q
   refine AQ ?_;walk;refine λe Y=>?_;have G:=BC Y (.lst []);have M2:=M.same G;refine BK _ _ (BP (M2.li.wN.den O.xO) (Ks AA) (LO _) ?_);rw[NB LN m.line];generalize upd H e (.lst [])=H2 at G M2⊢;have I2:=M2.ins;refine AX _ (CC rfl ?_);cases hh:m.line.isEmpty with
   | false =>
     rw[hh]at q
     exact AK (q H2 G)
   | true =>
     rw[hh]at q
     refine AQ ?_;walk;refine λe Y=>?_;have F:=EU (o:=.lst []) G Y;have M3:=M.same F;refine BK _ _ (BP (M3.li.het.den O.vt) (Ks AA) (LO _) ?_);rw[NB LN m.Å];generalize upd H2 e (.lst [])=H3 at F M3⊢;have I3:=M3.ins;refine AX _ (CC rfl ?_);cases hg:m.Å.isEmpty with
     | false =>
       rw[hg]at q
       exact AK (q H3 F)
     | true =>
       rw[hg]at q
       refine AQ ?_;walk;refine λe Y=>?_;have J:=EU (o:=.lst []) F Y;refine BK _ _ (BP ((M.same J).li.bar.den O.xu) (Ks AA) (LO _) ?_);have q:=q _ J;rw[<-NB Oc m.bar]at q
       exact q
theorem T8{α β:Type}{F:α->β->Prop}:∀{xs I:List α}{ys G:List β},Paired F xs ys->Paired F I G->Paired F (xs++I) (ys++G)
 | _,_,_,_,.nil,h=>h
 | _,_,_,_,.cons r t,h=>.cons r (T8 t h)
def U1(a:Ad)(f:Cf->Ms->Ms):Sp:=λvs H Q _=>∃(p:Addr) (A:Mc.DS) (c:Cf) (m:Ms),vs=[.ref p]/\MA a c H p A m/\Mc.Ok c m/\∀F H',MA a c H' p F (f c m)->Mc.AU p A H F H'->Q .non H'
def sf(T:Tx K mg a):AG P w K mg base BL 3 (a.Ñ 4) (a.Ð 4) ["self"] (U1 a Mc.õ):=by
 have J:=@pf P w K mg base a T;have G:=@cg P w K mg base a T;refine T.ę.fn.ok b3 (by fin2) (λaz A outer s H vs Q E hr h=>?_);obtain⟨p,A,c,m,rfl,M,O,q⟩:=h;have I:=M.ins;refine⟨_,(AJ (BY (BX (GW K rfl hr.units) (BB (K:=K) rfl T.Machine.cl T.Ø QE (pv 0)) (BM AE) (BF _)) (AI (BH 1 b3.nd (ER K rfl An Jo Jp Xs (BB (K:=K) rfl T.Machine.cl T.Ø QE (pv 0)) (AC AL AE)))
  (AJ (DR (ER K rfl An Aq Ar IB (CT (EO K rfl) (BB (K:=K) rfl T.Machine.cl T.è S4 (pv 0)) (CK T.vL J hr rfl (AC (CK T.œ G hr rfl (AC (BB (K:=K) rfl T.Machine.cl T.ø TQ (pv 0)) AE)) (AC (CT (KP K rfl) (pv 1) AL (λ_ _=>rfl)) AE))) (λ_ _=>rfl)) (AC (pv 1) AE))))) CH)),?_⟩
 walk;refine λe he=>?_;have aa:=BC he (.lst []);have M1:=M.same aa;refine⟨_,_,M1.li.bar.den O.xu,Ks AA,LO _,?_⟩;rw[NB Oc m.bar];generalize upd H e (.lst [])=H1 at aa M1⊢;have I1:=M1.ins;refine⟨_,rfl,?_⟩;unfold Mc.õ at q;cases hb:m.bar with
 | nil =>
   rw[hb]at q
   refine AK ?_;exact q A H1 M1 (Mc.AU.of_same aa)
 | cons x r =>
   rw[hb]at q
   obtain⟨o1,o2,o3,o4,k,hk,aB⟩:=O.bm x (by rw[hb];exact Al);have q:∀A' H',MA a c H' p A' (match LL (c.rs.map λr=>r.t) x.2 with
    | some k=>{ m with bar:=r,lanes:=LM m.lanes k x }
    | none=>m)->Mc.AU p A H A' H'->Q .non H':=q
   rw[hk]at q
   refine AQ ?_;walk;obtain⟨bs,Y,ai⟩:=M1.li.bar;rw[hb]at ai
   obtain⟨v,vs,rfl,hv,ap⟩:∃v vs,bs=v::vs/\Lan.IU H1 v x/\Paired (Lan.IU H1) vs r:=by
    cases ai with
    | cons h1 h2=>exact⟨_,_,rfl,h1,h2⟩
   refine⟨.inl ⟨rfl,_,AH.of Y⟩,?_⟩;walk;refine⟨A.b,_,0,0,v,rfl,rfl,Y,by decide,by decide,Zc _ _,rfl,?_⟩;have M2:MA a c (upd H1 A.b (.lst vs)) p A { m with bar:=r }:=M1.wF Y ap;have ac:Mc.AU p A H A (upd H1 A.b (.lst vs)):=(Mc.AU.of_same aa).trans (Mc.AU.lst (by unfold Mc.DS.all;simp) Y);have aj:=RJ (Mc.BU.lst (o:=.lst vs) Y) hv;have aq:((v::vs).eraseIdx 0)=vs:=rfl;rw[aq];generalize upd H1 A.b (.lst vs)=H2 at M2 ac aj⊢;have I2:=M2.ins;obtain⟨t,rfl,ht⟩:=aj;walk;obtain⟨ws,ao,an⟩:=M2.li.rows;have ax:=O.cf.ő;refine⟨A.c,c.rs,rfl,⟨ws,AH.of ao,an⟩,by lia,λpr H3 aA ae ar=>?_⟩;have M3:=M2.same ae;have ak:=ae _ _ ht;walk;refine⟨t,_,_,_,rfl,rfl,BS.of ak,rfl,?_⟩;refine⟨pr,x.2,_,rfl,AH.of ar,?_,o3,o4,λH4 af=>?_⟩
   .intro y hy;obtain⟨r',am,rfl⟩:=Cq.mp hy;exact(O.cf.th r' am).1
   rw[hk];have M4:=M3.same af;have aw:=af _ _ ak;have al:=ac.trans (Mc.AU.of_same (ae.trans af));have ay:m.lanes.length=c.rs.length:=O.ln;have W:k<m.lanes.length:=by lia
   obtain⟨lq,ad,av⟩:=Cs.O4 M4.li.wg (A9 W);obtain⟨ys,Z,ah⟩:=av;have au:EN (A.ls.map V.ref) (k:Int)=some (.ref lq):=HZ (by rw[Ap,ad];rfl);refine⟨A.L,_,(k:Int),_,rfl,rfl,AH.of M4.li.vX,au,?_⟩;refine⟨.inl ⟨rfl,_,AH.of Z⟩,?_⟩;refine⟨_,rfl,?_⟩;have ag:ys.length<=100000:=by
    have h1:=B4 ah;have h2:=Mc.kZ (A9 W);have h3:=O.sz;have h4:=Vt O;unfold Mv at h3
    lia
   refine⟨lq,ys,_,rfl,rfl,Z,Kz ag,?_⟩;have ea:LM m.lanes k x=m.lanes.set k (m.lanes[k]++[x]):=by
    unfold LM;rw[A9 W]
   have M5:MA a c (upd H4 lq (.lst (ys++[.ref t]))) p A { m with bar:=r,lanes:=m.lanes.set k (m.lanes[k]++[x]) }:=M4.vV ad Z (By ah ⟨t,rfl,aw⟩);have q:∀A' H',MA a c H' p A' { m with bar:=r,lanes:=LM m.lanes k x }->Mc.AU p A H A' H'->Q .non H':=q;rw[ea]at q
   have q:=q A _ M5 (al.trans (Mc.AU.lst (by unfold Mc.DS.all;simp[Af ad]) Z));exact q
def sh(T:Tx K mg a):AG P w K mg base BL 2 (a.Ñ 5) (a.Ð 5) ["self"] (U1 a λ_ m=>Mc.Ą m):=by
 refine T.ă.fn.ok oh (by fin2) (λaJ A outer s H vs Q E hr h=>?_);obtain⟨p,A,c,m,rfl,M,O,q⟩:=h;have q:∀A' H',MA a c H' p A' (Mc.Ą m)->Mc.AU p A H A' H'->Q .non H':=q;have I:=M.ins;refine⟨_,(AI (BY (BX (HN K rfl hr.units) (BB (K:=K) rfl T.Machine.cl T.Ç NN (pv 0)) (BM AE) (BF _)) (AJ fb) CH)
  (AI (GX (K:=K) rfl T.Machine.cl T.ç S6 (pv 0) (BG Kj (BB (K:=K) rfl T.Machine.cl T.ç S6 (pv 0)) AL))
  (AJ (BY (BX L6 (BB (K:=K) rfl T.Machine.cl T.ç S6 (pv 0)) AL (BF _)) (AI (DR (ER K rfl An Aq Ar IB (BB (K:=K) rfl T.Machine.cl T.ā Wb (pv 0)) (AC (ER K rfl Bu D0 D3 (Qb K rfl) AN (AC (DO ["self","part"] [] 1 (GC K rfl (BB (K:=K) rfl T.Machine.cl T.Ç NN (pv 0))) (BD 1) HH (CT (kY K rfl) (pv 1) AL (λ_ _=>rfl))) AE)) AE)))
  (AI (DR (ER K rfl An Io Iq Xr (BB (K:=K) rfl T.Machine.cl T.Ø QE (pv 0)) (AC (DO ["self","part"] [] 1 (GC K rfl (BB (K:=K) rfl T.Machine.cl T.Ç NN (pv 0))) (BD 1) (SR (BX (GW K rfl hr.units) (pv 1) (FC (v:=.str " ") rfl T.vx ⟨_,rfl⟩) (BF _))) (pv 1)) AE)))
  (AJ (GX (K:=K) rfl T.Machine.cl T.Ç NN (pv 0) (BM AE))))) CH)))),?_⟩
 walk;refine λe he=>?_;have ag:=BC he (.lst []);have M1:=M.same ag;refine⟨_,_,M1.li.het.den O.vt,Ks AA,LO _,?_⟩;rw[NB LN m.Å];generalize upd H e (.lst [])=H1 at ag M1⊢;have I1:=M1.ins;refine⟨_,rfl,?_⟩;unfold Mc.Ą at q;cases hh:m.Å.isEmpty with
 | true =>
   rw[Au hh]at q
   refine AQ ?_;exact q A H1 M1 (Mc.AU.of_same ag)
 | false =>
   rw[As (by rw[hh];decide)]at q
   refine AK ?_;walk;refine λH2 I2 k2=>?_;have I2:IA a H2 p (Mc.vals c A { m with Ă:=m.Ă-1 }):=I2;have M2:=M1.wU I2 k2 rfl rfl rfl rfl rfl;have az:=(Mc.AU.of_same (p:=p) (A:=A) ag).trans (Mc.AU.vP I1 I2 k2);have aH:m.Å≠[]:=λz=>by rw[z]at hh;cases hh
   have O2:∀x,some x∈m.Å->MZ c x:=O.hm;walk;by_cases ht:m.Ă-1<=0
   .rw[Au ht]at q
    rw[Ac ht];refine AQ ?_;walk;have hsz:=O.sz;have aK:=Vt O;unfold Mv at hsz;obtain⟨hv,aq,af⟩:=M2.li.het;have af:Paired (Lv H2) hv m.Å:=af;have aC:=B4 af;refine⟨.inl ⟨rfl,_,AH.of M2.li.txt⟩,?_⟩;walk;refine⟨⟨_,AH.of aq⟩,λD hD=>?_⟩;refine IX (a:=A.h) (xs:=hv) (λi ys σ H3=>∃(v2:Option V),ys=((m.Å.take i).map Kr).map V.str/\σ=[some (.ref p),v2]/\AD H2 H3/\H3 D=some (.lst ys))
     ?_ ?_ ?_ ?_
    .exact⟨none,rfl,rfl,BC hD _,AA⟩
    .rintro i ys σ H3 hi ⟨v2,_,_,Z,_⟩;exact Z.seq (AH.of aq)
    .rintro i y ys σ H3 hy ad ⟨v2,rfl,rfl,Z,ac⟩;obtain⟨pt,aa,an⟩:=Z7 af hy;have ai:=VC (Mc.BU.of_same (S:=λ_=>True) Z) an;have J:(((m.Å.take i).map Kr).map V.str).length<=100000:=by
      grind
     have aA:(((m.Å.take (i+1)).map Kr).map V.str)=(((m.Å.take i).map Kr).map V.str)++[V.str (Kr pt)]:=by
      rw[Ao,aa,Ai,Ai];rfl
     walk;cases pt with
     | none =>
       have e:y=.str " ":=ai;subst e;refine .inr ⟨_,_,32,rfl,rfl,DU (by decide),rfl,?_⟩;exact FW ad ac J ⟨_,aA.symm,rfl,EH Z hD,AA⟩
     | some x =>
       obtain⟨t,rfl,aD⟩:=ai;refine .inl ⟨t,_,_,_,rfl,rfl,BS.of aD,rfl,?_⟩;exact FW ad ac J ⟨_,aA.symm,rfl,EH Z hD,AA⟩
    .rintro ys σ H3 ⟨v2,rfl,rfl,ap,ac⟩;rw[aC,Aj (Aa _)]at ac
     have M3:=M2.same ap;refine⟨_,D,_,rfl,rfl,AH.of ac,Mc.lC O2 (by lia),?_⟩;have aL:=O.tx;refine⟨A.t,_,_,rfl,rfl,M3.li.txt,Kz (by rw[A8];show m.texts.length<=_;lia),?_⟩;have et:(m.texts.map V.str)++[V.str (Txt.join "" (m.Å.map Kr))]=(m.texts++[O9 m.Å]).map V.str:=by
      rw[Ai];rfl
     have M4:MA a c (upd H3 A.t (.lst ((m.texts.map V.str)++[V.str (Txt.join "" (m.Å.map Kr))]))) p A { m with Ă:=m.Ă-1,texts:=m.texts++[O9 m.Å] }:=by
      rw[et];exact M3.xn M3.li.txt
     have ao:Mc.AU p A H A (upd H3 A.t (.lst ((m.texts.map V.str)++[V.str (Txt.join "" (m.Å.map Kr))]))):=(az.trans (Mc.AU.of_same ap)).trans (Mc.AU.lst (by unfold Mc.DS.all;simp) M3.li.txt);generalize upd H3 A.t (.lst ((m.texts.map V.str)++[V.str (Txt.join "" (m.Å.map Kr))]))=H4 at M4 ao⊢;have I4:=M4.ins;obtain⟨hw,au,ae⟩:=M4.li.het;have ae:Paired (Lv H4) hw m.Å:=ae;have aF:=B4 ae;obtain⟨bv,ah,aw⟩:=M4.li.bar;have ay:=B4 aw;have ay:bv.length=m.bar.length:=ay;walk;refine⟨.inl ⟨rfl,_,AH.of ah⟩,?_⟩;walk;refine⟨⟨_,AH.of au⟩,λD2 ar=>?_⟩;refine IX (a:=A.h) (xs:=hw) (λi ys σ H5=>∃(v2:Option V),Paired (Lan.IU H5) ys (CZ (m.Å.take i))/\σ=[some (.ref p),v2]/\AD H4 H5/\H5 D2=some (.lst ys))
      ?_ ?_ ?_ ?_
     .exact⟨none,.nil,rfl,BC ar _,AA⟩
     .rintro i ys σ H5 hi ⟨v2,_,_,Z,_⟩;exact Z.seq (AH.of au)
     .rintro i y ys σ H5 hy ad ⟨v2,G,rfl,Z,W⟩;obtain⟨pt,aa,an⟩:=Z7 ae hy;have aj:=VC (Mc.BU.of_same (S:=λ_=>True) Z) an;have ax:=Af aa;have J:ys.length<=100000:=by
       have h1:=B4 G;have h2:=Vv (m.Å.take i);rw[Bb]at h2
       lia
      walk;refine⟨_,_,Mc.Z5 aj (λx e=>O.vt x (e ▸ ax)),.str _ (by decide +kernel),by show min _ 0<=64;lia,?_⟩;refine⟨_,rfl,?_⟩;cases pt with
      | none =>
        have e:(if true=true then !PyData.eqv (LN none) (.str " ")else PyData.eqv (LN none) (.str " "))=false:=by
         show(!PyData.eqv (.str " ") (.str " "))=false;rw[Mc.lD];rfl
        rw[e];refine AK ?_;refine Rj ad ⟨_,?_,rfl,Z,W⟩;rw[Z8 aa,Option.toList_none,Be];exact G
      | some x =>
        have e:(if true=true then !PyData.eqv (LN (some x)) (.str " ")else PyData.eqv (LN (some x)) (.str " "))=true:=rfl;rw[e];refine AQ ?_;walk;refine FW ad W J ⟨_,?_,rfl,EH Z ar,AA⟩;rw[Z8 aa];exact By (Lan.Vo G W) (RJ (Mc.BU.lst W) aj)
     .rintro ys σ H5 ⟨v2,G,rfl,Y,W⟩;rw[aF,Aj (Aa _)]at G
      have M5:=M4.same Y;have aM:=B4 G;have aI:=Vv m.Å;refine⟨A.b,D2,bv,ys,rfl,rfl,Y _ _ ah,W,DU (by lia),?_⟩;have aG:=Lan.YK aw Y;have M6:MA a c (upd H5 A.b (.lst (bv++ys))) p A { m with Ă:=m.Ă-1,texts:=m.texts++[O9 m.Å],bar:=m.bar++CZ m.Å }:=M5.wF (Y _ _ ah) (T8 aG G);have ak:Mc.AU p A H A (upd H5 A.b (.lst (bv++ys))):=(ao.trans (Mc.AU.of_same Y)).trans (Mc.AU.lst (by unfold Mc.DS.all;simp) (Y _ _ ah));generalize upd H5 A.b (.lst (bv++ys))=H6 at M6 ak⊢;walk;refine λe7 al=>?_;have am:=BC al (.lst []);have M7:=M6.same am;have I7:=M7.ins;have av:upd H6 e7 (.lst []) e7=some (.lst []):=AA;have aB:=M6.new al;generalize upd H6 e7 (.lst [])=H7 at am M7 I7 av⊢;walk;refine λH8 I8 k8=>?_;have I8:IA a H8 p (Mc.vals c { A with h:=e7 } { m with Ă:=m.Ă-1,texts:=m.texts++[O9 m.Å],bar:=m.bar++CZ m.Å,Å:=[] }):=I8;have aE:=(ak.trans (Mc.AU.of_same am)).trans (Mc.AU.vP I7 I8 k8);exact q _ H8 (Mc.EZ.fields I7 I8 k8 ⟨M7.li.rows,M7.li.vX,M7.li.wg,M7.li.wN,⟨[],av,.nil⟩,M7.li.bar,M7.li.txt⟩ (Mc.VE M7.nd aB)) (aE.to (Mc.lE (ak.free al)))
   .rw[As ht]at q
    rw[Ak ht];refine AK ?_;exact q A H2 M2 az
def si(T:Tx K mg a):AG P w K mg base BL 1 (a.Ñ 7) (a.Ð 7) ["self"] (U1 a Mc.send):=by
 refine T.Ē.fn.ok oo (by fin2) (λah A outer s H vs Q E hr h=>?_);obtain⟨p,A,c,m,rfl,M,O,q⟩:=h;have I:=M.ins;refine⟨_,(AJ (BY (BX (HN K rfl hr.units) (BB (K:=K) rfl T.Machine.cl T.Ç NN (pv 0)) (BM AE) (BF _)) (AI (GX (K:=K) rfl T.Machine.cl T.Ç NN (pv 0) (BB (K:=K) rfl T.Machine.cl T.é S5 (pv 0)))
  (AI (GX (K:=K) rfl T.Machine.cl T.ç S6 (pv 0) (BB (K:=K) rfl T.Machine.cl T.Ĕ ZV (pv 0)))
  (AI (GX (K:=K) rfl T.Machine.cl T.é S5 (pv 0) (BM AE))
  (AJ (GX (K:=K) rfl T.Machine.cl T.Õ Pd (pv 0) (BG GK (BB (K:=K) rfl T.Machine.cl T.Õ Pd (pv 0)) AL)))))) CH)),?_⟩
 walk;refine λe he=>?_;have G:=BC he (.lst []);have M1:=M.same G;refine⟨_,_,M1.li.het.den O.vt,Ks AA,LO _,?_⟩;rw[NB LN m.Å];generalize upd H e (.lst [])=H1 at G M1⊢;have I1:=M1.ins;refine⟨_,rfl,?_⟩;unfold Mc.send at q;cases hh:m.Å.isEmpty with
 | false =>
   rw[As (by rw[hh];decide)]at q
   exact AK (q A H1 M1 (Mc.AU.of_same G))
 | true =>
   rw[Au hh]at q
   refine AQ ?_;walk;refine λH2 I2 k2=>?_;walk;refine λH3 I3 k3=>?_;walk;refine λY J=>?_;have F:=BC J (.lst []);have af:upd H3 Y (.lst []) Y=some (.lst []):=AA;have I4:=I3.same F;have ag:=F;generalize upd H3 Y (.lst [])=H4 at F af I4 ag⊢;walk;refine λH5 I5 k5=>?_;walk;refine λH6 W k6=>?_;have W:IA a H6 p (Mc.vals c { A with h:=A.l,l:=Y } { m with Å:=m.line,Ă:=c.cast,line:=[],at_:=m.at_+1 }):=by
    have e:((m.at_:Int)+1)=((m.at_+1:Nat):Int):=by lia
    have W:IA a H6 p [some (.ref A.L),some (.ref A.c),some (.str c.keys),some (.int ((m.at_:Int)+1)),some (.int c.cast),some (.ref Y),some (.ref A.l),some (.int c.cast),some (.ref A.b),some (.ref A.t),some (.int m.done),some (.int m.Á)]:=W;rw[e]at W
    exact W
   have ad:=λb hb=>(k3 b hb).trans (k2 b hb)
   have aa:=λb hb=>(k6 b hb).trans (k5 b hb)
   have M3:Mc.HK c H3 A m:=M1.li.keep (by obtain⟨_,_,z,_⟩:=I1;exact Mc.BU.fld z ad) (M1.x9);have Z:=M3.keep (Mc.BU.of_same (S:=λ_=>True) F) λ_ _=>trivial
   have ae:Y∉A.all:=λz=>by
    obtain⟨xs,ex⟩:=M3.is Y z;rw[J]at ex
    cases ex
   have ac:=(Mc.AU.of_same (p:=p) (A:=A) G).trans (Mc.AU.vP I1 I3 ad);exact q _ H6 (Mc.EZ.fields I4 W aa ⟨Z.rows,Z.vX,Z.wg,⟨[],af,.nil⟩,Z.wN,Z.bar,Z.txt⟩ (Mc.VF M.nd ae)) (((ac.trans (Mc.AU.of_same F)).trans (Mc.AU.vP I4 W aa)).to (Mc.lF (ac.free J)))
def sj(a:Ad):Sp:=λvs H Q _=>∃(p:Addr) (A:Mc.DS) (c:Cf) (m:Ms) (v:V) (pt:Mc.EY),vs=[.ref p,v]/\MA a c H p A m/\Lv H v pt/\m.line.length<=99999/\∀F H',MA a c H' p F (Mc.take m pt)->Mc.AU p A H F H'->Q .non H'
def d7(T:Tx K mg a):AG P w K mg base BL 1 (a.Ñ 8) (a.Ð 8) ["self","part"] (sj a):=by
 refine T.Ğ.fn.ok ot (by fin2) (λad A outer s H vs Q E hr h=>?_);revert h;refine EM λp A c m v=>ES λpt=>FL λW M aa hsz q=>?_;subst W;have I:=M.ins;refine DQ M.li.wN λY=>BW λŜ ŏ=>?_;have ac:=B4 ŏ;refine⟨_,(AI (DR (ER K rfl An Aq Ar IB (BB (K:=K) rfl T.Machine.cl T.é S5 (pv 0)) (AC (pv 1) AE)))
  (AJ (GX (K:=K) rfl T.Machine.cl T.Õ Pd (pv 0) (BG GK (BB (K:=K) rfl T.Machine.cl T.Õ Pd (pv 0)) AL)))),?_⟩
 walk;refine⟨.inl ⟨rfl,_,AH.of Ŝ⟩,?_⟩;walk;refine EB A.l Y v (CQ rfl rfl Ŝ (Kz (by lia)) ?_);have M2:MA a c (upd H A.l (.lst (Y++[v]))) p A { m with line:=m.line++[pt] }:=M.wY Ŝ (By ŏ aa);have J:Mc.AU p A H A (upd H A.l (.lst (Y++[v]))):=Mc.AU.lst (by unfold Mc.DS.all;simp) Ŝ;generalize upd H A.l (.lst (Y++[v]))=H2 at M2 J⊢;have I2:=M2.ins;walk;refine λZ G k3=>?_;have G:IA a Z p (Mc.vals c A (Mc.take m pt)):=by
  have e:((m.at_:Int)+1)=((m.at_+1:Nat):Int):=by lia
  have G:IA a Z p [some (.ref A.L),some (.ref A.c),some (.str c.keys),some (.int ((m.at_:Int)+1)),some (.int c.cast),some (.ref A.l),some (.ref A.h),some (.int m.Ă),some (.ref A.b),some (.ref A.t),some (.int m.done),some (.int m.Á)]:=G;rw[e]at G
  exact G
 exact q A Z (M2.wU G k3 rfl rfl rfl rfl rfl) (J.trans (Mc.AU.vP I2 G k3))
def sk(T:Tx K mg a):AG P w K mg base BL 3 (a.Ñ 6) (a.Ð 6) ["self"] (U1 a Mc.î):=by
 refine T.Ď.fn.ok b6 (by fin2) (λap A outer s H vs Q E hr h=>?_);revert h;refine GJ λp A c m=>DP λae M O q=>?_;subst ae;have I:=M.ins;have hsz:=O.sz;have an:=Vt O;unfold Mv at hsz;refine⟨_,(AI (BH 1 b6.nd (IC (K:=K) rfl T.Machine.cl T.í (Wm T) hr Wc (pv 0)))
  (AJ (BY (BX EI (pv 1) (FC (v:=.str "/") rfl T.Ĉ ⟨_,rfl⟩) (BF _)) (AJ (DR (IC (K:=K) rfl T.Machine.cl T.Ē (si T) hr oq (pv 0)))) (AJ (BY (BX EI (pv 1) (FC (v:=.str " ") rfl T.ŕ ⟨_,rfl⟩) (BF _)) (AJ (DR (JH (K:=K) rfl T.Machine.cl T.Ğ (d7 T) hr b8 (pv 0) (AC (FC (v:=.str " ") rfl T.vx ⟨_,rfl⟩) AE)))) (AJ (BY (GU (IC (K:=K) rfl T.Machine.cl T.ê (cY T) hr ZX (pv 0))) (AJ (GX (K:=K) rfl T.Machine.cl T.ð TU (pv 0) (BG GK (BB (K:=K) rfl T.Machine.cl T.ð TU (pv 0)) AL))) (AJ (BY (BX Kx (pv 1) AN (BF _)) (AJ (DR (JH (K:=K) rfl T.Machine.cl T.Ğ (d7 T) hr b8 (pv 0) (AC (ER K rfl An Jo Jp Xs (CT (EO K rfl) (BB (K:=K) rfl T.Machine.cl T.è S4 (pv 0)) (CK T.ñ (QH T) hr rfl (AC (BB (K:=K) rfl T.Machine.cl T.ø TQ (pv 0)) (AC (pv 1) AE))) (λ_ _=>rfl)) (AC AL AE)) AE)))) CH))))))))),?_⟩
 walk;refine CA p A c m (BP rfl M O ?_);unfold Mc.î at q;walk;cases hk:Mc.key c m with
 | none =>
   rw[hk]at q
   have es:=Mc.lH hk;have wW:JP c m=false:=Z6 (by rw[es];exact O.cf.wX.2.2);rw[es,show decide (V.str ""=V.str "/")=false from by rw[EV];decide +kernel];refine AK ?_;walk;refine CA p A c m (BP rfl M O (λH1 G=>⟨_,rfl,?_⟩));rw[wW];refine AK ?_;walk;try rw[show(!decide (V.str ""=V.str ""))=false from by rw[Ac rfl];rfl]
   try refine AK ?_
   exact q A H1 (M.same G) (Mc.AU.of_same G)
 | some k =>
   rw[hk]at q
   have q:∀(A':Mc.DS) (H':Hp),MA a c H' p A' (if k=47 then Mc.send c m else if k=32 then Mc.take m none else if JP c m=true then { m with Á:=m.Á+1 }else match DW c.rs (sg k)with
    | some j=>Mc.pick m j
    | none=>m)->Mc.AU p A H A' H'->Q V.non H':=q
   have ag:decide (V.str (sg k)=V.str "/")=decide (k=47):=Za (d:=47);have af:decide (V.str (sg k)=V.str " ")=decide (k=32):=Za (d:=32);rw[Mc.lG hk,ag];by_cases Y:k=47
   .rw[Au Y]at q
    rw[Ac Y];refine AQ ?_;walk;exact CA p A c m (BP rfl M O q)
   .rw[As Y]at q
    rw[Ak Y];refine AK ?_;walk;rw[af];by_cases W:k=32
    .rw[Au W]at q
     rw[Ac W];refine AQ ?_;walk;exact DC p A c m _ (AX none (CQ rfl M rfl (by lia) q))
    .rw[As W]at q
     rw[Ak W];refine AK ?_;walk;refine CA p A c m (BP rfl M O (λH1 G=>?_));have M1:=M.same G;have I1:=M1.ins;refine AX _ (CC rfl ?_);cases wW:JP c m with
     | true =>
       rw[Au wW]at q
       refine AQ ?_;walk;refine λH2 I2 k2=>?_;have I2:IA a H2 p (Mc.vals c A { m with Á:=m.Á+1 }):=I2;exact q A H2 (M1.wU I2 k2 rfl rfl rfl rfl rfl) ((Mc.AU.of_same G).trans (Mc.AU.vP I1 I2 k2))
     | false =>
       rw[As (by rw[wW];decide)]at q
       refine AK ?_;obtain⟨j,hj,x,r,hx⟩:=Mc.YX O hk Y W wW;rw[hj]at q
       have q:∀(A':Mc.DS) (H':Hp),MA a c H' p A' (Mc.pick m j)->Mc.AU p A H A' H'->Q V.non H':=q;have ep:Mc.pick m j=Mc.take { m with lanes:=m.lanes.set j r } (some x):=by unfold Mc.pick;rw[hx]
       rw[ep]at q
       walk;refine DQ M1.li.rows λws=>BW λal ai=>?_;refine EB A.c _ c.rs (BQ rfl ⟨ws,AH.of al,ai⟩ (λH2 ad=>?_));rw[hj];have M2:=M1.same ad;have ao:=SW hj;obtain⟨lq,Z,ys,J,aj⟩:=Cs.O4 M2.li.wg hx;obtain⟨v,vs,rfl,hv,am⟩:∃v vs,ys=v::vs/\Lan.IU H2 v x/\Paired (Lan.IU H2) vs r:=by
        cases aj with
        | cons h1 h2=>exact⟨_,_,rfl,h1,h2⟩
       have ah:EN (A.ls.map V.ref) (j:Int)=some (.ref lq):=HZ (by rw[Ap,Z];rfl);refine CA A.L _ (j:Int) _ (GS rfl rfl (AH.of M2.li.vX) ah (.inl ⟨rfl,_,AH.of J⟩) ?_);walk;refine DC lq _ 0 0 v (DT rfl rfl J (by decide) (by decide) (Zc _ _) (CC rfl ?_));have M3:MA a c (upd H2 lq (.lst vs)) p A { m with lanes:=m.lanes.set j r }:=M2.vV Z J am;have aa:Mc.AU p A H A (upd H2 lq (.lst vs)):=(Mc.AU.of_same (G.trans ad)).trans (Mc.AU.lst (by unfold Mc.DS.all;simp[Af Z]) J);have ac:=RJ (Mc.BU.lst (o:=.lst vs) J) hv;have ak:((v::vs).eraseIdx 0)=vs:=rfl;rw[ak];generalize upd H2 lq (.lst vs)=H3 at M3 aa ac⊢;exact DC p A c _ v (AX (some x) (CQ rfl M3 ac (by show m.line.length<=99999;lia) (λA' H' M' s'=>q A' H' M' (aa.trans s'))))
def so(a:Ad):Sp:=λvs H Q _=>∃(p:Addr) (A:Mc.DS) (c:Cf) (m:Ms),vs=[.ref p]/\MA a c H p A m/\Mc.Ok c m/\(HV c m=true->∀H',AD H H'->Q (.bl false) H')/\(HV c m=false->∀F H',MA a c H' p F (Mc.tick c m)->Mc.AU p A H F H'->Q (.bl true) H')
def Wn(T:Tx K mg a):AG P w K mg base BL 4 (a.Ñ 9) (a.Ð 9) ["self"] (so a):=by
 refine T.ą.fn.ok ou (by fin2) (λac A outer s H vs Q E Y h=>?_);revert h;refine GJ λp A c m=>FL λZ M O qf qt=>?_;subst Z;have I:=M.ins;unfold HV at qf qt;refine⟨_,(AI (BY (PW.pt (Nc (GU (IC (K:=K) rfl T.Machine.cl T.Ā (d6 T) Y ZZ (pv 0))) (Os (GU (IC (K:=K) rfl T.Machine.cl T.ė (cZ T) Y ZY (pv 0)))))) (AJ (AY LG)) CH)
  (AI (DR (IC (K:=K) rfl T.Machine.cl T.ę (sf T) Y og (pv 0)))
  (AI (DR (IC (K:=K) rfl T.Machine.cl T.ă (sh T) Y oj (pv 0)))
  (AI (DR (IC (K:=K) rfl T.Machine.cl T.Ď (sk T) Y om (pv 0)))
  (AI (GX (K:=K) rfl T.Machine.cl T.â QF (pv 0) (BG GK (BB (K:=K) rfl T.Machine.cl T.â QF (pv 0)) AL))
  (AJ (AY LG))))))),?_⟩
 walk;refine CA p A c m (BP rfl M O (λH1 J=>?_));have M1:=M.same J;have I1:=M1.ins;refine AX _ (CC rfl ?_);cases G:P3 c m with
 | true =>
   refine AQ ?_;exact qf (by rw[G];rfl) H1 J
 | false =>
   refine AK ?_;walk;refine CA p A c m (BP rfl M1 O (λH2 aa=>?_));have F:=J.trans aa;have M2:=M.same F;have I2:=M2.ins;refine AX _ (CC rfl ?_);cases W:Qm c m with
   | true =>
     refine AQ ?_;exact qf (by rw[G,W];rfl) H2 F
   | false =>
     refine AK ?_;walk;refine CA p A c m (BP rfl M2 O (λA3 H3 M3 s3=>?_));have I3:=M3.ins;walk;refine CA p A3 c _ (BP rfl M3 O.õ (λA4 H4 M4 s4=>?_));have I4:=M4.ins;walk;refine CA p A4 c _ (BP rfl M4 O.õ.Ą (λA5 H5 M5 s5=>?_));have I5:=M5.ins;walk;refine λH6 I6 k6=>?_;have I6:IA a H6 p (Mc.vals c A5 (Mc.tick c m)):=I6;exact qt (by rw[G,W];rfl) A5 H6 (M5.wU I6 k6 rfl rfl rfl rfl rfl) (((((Mc.AU.of_same F).trans s3).trans s4).trans s5).trans (Mc.AU.vP I5 I6 k6))
def sq(a:Ad):Sp:=λvs H Q _=>∃(p:Addr) (A:Mc.DS) (c:Cf) (m:Ms),vs=[.ref p]/\MA a c H p A m/\Mc.Ok c m/\∀F H',MA a c H' p F (Mc.fin c m)->Mc.AU p A H F H'->Q (.int ((Mc.fin c m).done-m.done)) H'
def sv(T:Tx K mg a):AG P w K mg base BL 5 (a.Ñ 10) (a.Ð 10) ["self"] (sq a):=by
 refine T.ś.fn.ok b9 (by fin2) (λac A outer s H vs Q E hr h=>?_);obtain⟨p,A,c,m,rfl,M,O,q⟩:=h;have I:=M.ins;refine⟨_,(AI (BH 1 b9.nd (BB (K:=K) rfl T.Machine.cl T.â QF (pv 0)))
  (AI (Oy Bm (GU (IC (K:=K) rfl T.Machine.cl T.ą (Wn T) hr We (pv 0))) (AJ eX))
  (AJ (AY (BG Kj (BB (K:=K) rfl T.Machine.cl T.â QF (pv 0)) (pv 1)))))),?_⟩
 walk;refine⟨λn σ H1=>∃G m1,σ=[some (.ref p),some (.int m.done)]/\MA a c H1 p G m1/\Mc.Ok c m1/\Mc.AU p A H G H1/\Mc.fin c m1=Mc.fin c m/\CM c m1=n,⟨_,A,m,rfl,M,O,Mc.AU.of_same (AD.refl _),rfl,rfl⟩,?_⟩;rintro n σ H1 ⟨G,m1,rfl,M1,Z,F,hf,rfl⟩;have I1:=M1.ins;refine⟨_,rfl,?_⟩;refine⟨_,_,rfl,I1,?_⟩;refine⟨p,G,c,m1,rfl,M1,Z,λY H2 J=>?_,λY A2 H2 M2 aa=>?_⟩
 .refine⟨_,rfl,?_⟩;refine AK ?_;have M2:=M1.same J;have I2:=M2.ins;walk;have e:=Mc.lr Y;rw[hf]at e
  rw[e]at q
  exact q G H2 M2 (F.trans (Mc.AU.of_same J))
 .refine⟨_,rfl,?_⟩;refine AQ ?_;refine⟨λW H'=>W=[some (.ref p),some (.int m.done)]/\H'=H2,?_,⟨rfl,rfl⟩⟩;rintro W H' ⟨rfl,rfl⟩;exact⟨_,Qn Z Y,A2,_,rfl,M2,Z.tick,F.trans aa,(Z0 Z Y).trans hf,rfl⟩
def sx(T:Tx K mg a):AG P w K mg base BL 1 (a.Ñ 11) (a.Ð 11) ["self"] (Se a λc m=>.int m.done):=by
 refine T.Ĺ.fn.ok oz (by fin2) (λG A outer s H vs Q E J h=>?_);revert h;refine GJ λp A c m=>DP λF M O q=>?_;subst F;have I:=M.ins;refine AX _ (CC (AJ (AY (BB (K:=K) rfl T.Machine.cl T.â QF (pv 0)))) ?_);walk;exact q H (AD.refl _)
def sy(T:Tx K mg a):AG P w K mg base BL 1 (a.Ñ 13) (a.Ð 13) ["self"] (Se a λc m=>.int m.Á):=by
 refine T.Ĳ.fn.ok oG (by fin2) (λF A outer s H vs Q E G h=>?_);obtain⟨p,A,c,m,rfl,M,O,q⟩:=h;have I:=M.ins;refine⟨_,(AJ (AY (BB (K:=K) rfl T.Machine.cl T.ð TU (pv 0)))),?_⟩;walk;exact q H (AD.refl _)
def d8(a:Ad)(F:Cf->Ms->Hp->Hp->Addr->Prop):Sp:=λvs H Q _=>∃(p:Addr) (A:Mc.DS) (c:Cf) (m:Ms),vs=[.ref p]/\MA a c H p A m/\Mc.Ok c m/\∀r H',H r=none->AD H H'->F c m H H' r->Q (.ref r) H'
def sA(T:Tx K mg a):AG P w K mg base BL 1 (a.Ñ 12) (a.Ð 12) ["self"] (d8 a λc m H H' r=>H' r=some (.lst (m.texts.map V.str))):=by
 refine T.Ļ.fn.ok oE (by fin2) (λJ A outer s H vs Q E G h=>?_);revert h;refine GJ λp A c m=>DP λF M O q=>?_;subst F;have I:=M.ins;refine AX _ (CC (AJ (AY (Ky (V2 K rfl) rfl T.vq SL (AC (BB (K:=K) rfl T.Machine.cl T.ā Wb (pv 0)) AE)))) ?_);walk;exact BK A.t _ (BQ rfl (.inl (AH.of M.li.txt)) (λr G=>q r _ G (BC G _) AA))
def d9:Sp:=λ_ _ _ _=>False
def sD:AG P w K mg base CX k f fd ps d9:=⟨λ_ _ _ _ h=>h.elim,λ_ _ _ _ _ _ _ _ _ _ _ _ _ h=>h.elim⟩
def sE:Sp:=λvs H Q _=>∃(c:Addr) (xs:List V) (rs:List BN),vs=[.ref c,.non]/\H c=some (.lst xs)/\Paired (Cs.HP H) xs rs/\rs.length<=100/\(∀r∈rs,0<=r.n/\r.n<=1000) /\
 (∀(D:Addr) (ls:List Addr) H',H D=none->AD H H'->H' D=some (.lst (ls.map V.ref))->Paired (Mc.FQ H') ls (My rs)->(D::ls).Nodup->(∀z∈ls,H z=none)->Q (.ref D) H')
def sF(T:Tx K mg a):AG P w K mg base BL 2 (a.f 51) (a.d 51) ["case","broken"] sE:=by
 have G:AG P w K mg base BL 1 (a.f 50) (a.d 50) ["case","ahead","channel","teeth"] d9:=sD;refine T.Ŗ.fn.ok ME (by fin2) (λaN A outer s H vs Q E hr h=>?_);revert h;refine FT λc xs rs=>GH λay hc ap aL aA q=>?_;subst ay;have aE:=Nt ap;refine⟨_,(AI (SS (i:=2) ME.nd rfl NT rfl (GC K rfl (pv 0)) (DL.of (N':=["case","broken","channels","ahead","at","part","channel","lost","sign","width","own","many","teeth"]) (ms:=[8,9,11]) (k:=1) (by rfl)) (λ_ _ _ _ _=>(FX K rfl (n:=4) rfl (BJ (BD 8) (BJ (BD 9) (BJ (BD 12) (BJ (BD 11) FD)))))) (λ_ _ _ _ _=>HH) (λ_ _ _ _ _=>(BG SJ (BM (AC (GV (AC (pv 8) (AC (pv 12) AE))) AE)) (pv 11))))
  (AI (BH 3 ME.nd (BM AE))
  (AI (IR Bm rfl (Q8 K rfl rfl T.ó (AC (Nd (QZ (QX (pv 1))) (BM AE) (pv 1)) AE)) (FX K rfl (n:=2) rfl (BJ (AO 4 ME.nd) (BJ (AO 5 ME.nd) FD))) (AI (HY (pv 5) (FX K rfl (n:=2) rfl (BJ (AO 6 ME.nd) (BJ (AO 7 ME.nd) FD))))
  (AI (BY (LV (GU (CK T.wm G hr rfl (AC (pv 0) (AC (pv 3) (AC (pv 6) (AC (pv 7) AE))))))) (AJ Uv) CH)
  (AI (HY (CT (EO K rfl) (pv 0) (pv 6) (λ_ _=>rfl)) (FX K rfl (n:=4) rfl (BJ (AO 8 ME.nd) (BJ (AO 9 ME.nd) (BJ (AO 10 ME.nd) (BJ (AO 11 ME.nd) FD))))))
  (AI (HY (GV (AC (pv 8) (AC (BG Kj (pv 10) (pv 7)) AE))) (PP (CT (EO K rfl) (pv 2) (pv 6) (λ_ _=>rfl)) (ER K rfl An PySem.F.slot_list_count PySem.F.type_list_count kH (pv 3) (AC (pv 6) AE)) PZ))
  (AJ (DR (ER K rfl An Aq Ar IB (pv 3) (AC (pv 6) AE)))))))))
  (AJ (AY (pv 2)))))),?_⟩
 walk;refine⟨⟨_,AH.of hc⟩,λD hD=>?_⟩
 let Izz:zU:=λj zs σ H2=>∃(w8 w9 aj al:Option V),σ=[some (.ref c),some .non,none,none,none,none,none,none,w8,w9,none,aj,al]/\AD H H2/\H2 D=some (.lst zs)/\Paired (Lan.P1 H D H2) zs ((My rs).take j)/\zs.Nodup
 refine IX (a:=c) (xs:=xs) Izz
  ?_ ?_ ?_ ?_
 .exact CA none none none none (CQ rfl (BC hD _) AA .nil Fh)
 .refine λj zs σ H2 hj=>GJ λ_ _ _ _=>FN λ_ hs _=>?_;exact hs.seq (AH.of hc)
 .refine λj y zs σ H2 hy aB=>GJ λw8 w9 aj al=>FL λaa Y ac W ai=>?_;subst aa;obtain⟨r,ax,t,rfl,ht⟩:=IG ap hy;have aP:=aA r (Af ax);have aC:=B4 W;rw[Bb]at aC
  refine BK _ _ (BP rfl (BS.of (Y _ _ ht)) rfl ?_);x_go;x_go;x_go;x_go;try refine And.intro rfl ?_
  walk;intro pt aM;x_fa H3 J aD;walk;intro p1 aO;x_fa H4 I aG;walk;refine EB p1 _ _ (DT rfl rfl aG (by lia) (by lia) (DU (by show 1*r.n.toNat<=_;lia)) (λp2 ak=>?_));have aF:(List.replicate r.n.toNat [V.ref pt]).flatten=List.replicate r.n.toNat (V.ref pt):=by
   generalize r.n.toNat=n;induction n with
   | zero=>rfl
   | succ n ih=>rw[Cj,Ed,ih];rfl
  rw[aF];x_fa H5 an aI;have Z:=J.trans (I.trans an);have ah:=Z _ _ ac;have aq:p2≠D:=λe=>by rw[e,(J.trans I) _ _ ac]at ak;cases ak
  have ad:=J.free (I.free ak);refine FW aB ah (by lia) ⟨_,_,_,_,rfl,EH (Y.trans Z) hD,AA,?_,?_⟩
  .have e0:(My rs)[j]?=some (List.replicate r.n.toNat (r.s,r.t)):=by
    unfold My;rw[Ap,ax];rfl
   rw[Ao,e0];refine By (Lan.kK (Lan.kJ W Z) ah) ⟨p2,_,rfl,aq,Y.free ad,by rw[BE aq];exact aI,Lan.Vo (Lan.YL ⟨pt,rfl,(I.trans an) _ _ aD⟩ _) ah⟩
  .rw[Ig];refine BQ ai (by simp) (λx hx y hy=>?_);rw[Az.mp hy];exact λe=>Lan.kL W ad (e ▸ hx)
 .refine λzs σ H2=>GJ λw8 w9 aj al=>FL λaa Y ac W ai=>?_;subst aa;rw[aE,Aj (by unfold My;rw[A8];exact Aa _)]at W
  refine DQ (Mc.lI W ai) λls=>DP λav aH aK aJ=>?_;subst av;walk;intro ph az;have J:=EU (o:=.lst []) Y az;have ae:=BC az (.lst []);generalize upd H2 ph (.lst [])=H3 at J ae⊢;walk;intro pe aw;have I:=EU (o:=.lst []) ae aw;have af:=EU (o:=.lst []) J aw;have ag:upd H3 pe (.lst []) pe=some (.lst []):=AA;generalize upd H3 pe (.lst [])=H4 at I af ag⊢;refine AX pe (BQ rfl ⟨_,AH.of ag⟩ ?_)
  let Izz:zT:=λi σ H5=>∃(v4 v5 v6 v7 v8 v9 au am:Option V),σ=[some (.ref c),some .non,some (.ref D),some (.ref ph),v4,v5,v6,v7,v8,v9,au,am]/\H5=H4
  refine Rg (a:=pe) (xs:=[]) Izz
   ⟨none,none,none,none,none,none,none,none,rfl,rfl⟩ (by rintro i σ H5 _ ⟨_,_,_,_,_,_,_,_,_,e⟩;exact by rw[e];exact AH.of ag) ?_ ?_
  .rintro i y tp σ H5 hy _ _;cases hy
  .refine λσ H5=>EM λv4 v5 v6 v7 v8=>FT λv9 au am=>BW λar ao=>?_;subst ar;subst ao;exact AX _ (CC rfl (q D ls H5 hD af (I _ _ ac) (P5 (Mc.BU.of_same (S:=λ_=>True) I) (λ_ _=>trivial) aH) aK aJ))
def OX(a:Ad):Sp:=λvs H Q _=>∃(p F dx:Addr) (c:Cf) (xs:List V),vs=[.ref p,.ref F,.str c.keys,.int c.cast,.non]/\H p=some (.ins a.û dx [])/\H F=some (.lst xs)/\Paired (Cs.HP H) xs c.rs/\Mc.Tf c/\Ld c.rs false c.keys.cps.toList=true/\(∀r∈c.rs,0<=r.n/\r.n<=1000) /\
 ∀A H',MA a c H' p A (Mc.start c.rs)->Mc.CD p H H'->(∀b∈A.all,H b=none)->Q .non H'
def Wo(T:Tx K mg a):AG P w K mg base BL 4 a.ĵ a.ī ["self","case","keys","casting","broken"] (OX a):=by
 refine T.Machine.fn.ok nY (by fin2) (λbo A outer s H vs Q E hr h=>?_);revert h;refine EM λp pc dx c xs=>Kf λaT hp hc aE OC Í a5 q=>?_;subst aT;have bd:=OC.ő;have I0:IA a H p (List.replicate FY.length none):=⟨dx,[],hp,FS.nil (by decide)⟩
 refine⟨_,(AI (DR (CK T.Ņ (qL T) hr rfl (AC (pv 1) (AC (pv 2) AE))))
  (AI (GX (K:=K) rfl T.Machine.cl T.è S4 (pv 0) (CK T.Ŗ (sF T) hr rfl (AC (pv 1) (AC (pv 4) AE))))
  (AI (GX (K:=K) rfl T.Machine.cl T.ø TQ (pv 0) (Ky (V2 K rfl) rfl T.vq SL (AC (pv 1) AE)))
  (AI (GX (K:=K) rfl T.Machine.cl T.ü Wa (pv 0) (pv 2))
  (AI (GX (K:=K) rfl T.Machine.cl T.Õ Pd (pv 0) AL)
  (AI (GX (K:=K) rfl T.Machine.cl T.Ĕ ZV (pv 0) (pv 3))
  (AI (GX (K:=K) rfl T.Machine.cl T.é S5 (pv 0) (BM AE))
  (AI (GX (K:=K) rfl T.Machine.cl T.Ç NN (pv 0) (BM AE))
  (AI (GX (K:=K) rfl T.Machine.cl T.ç S6 (pv 0) AL)
  (AI (GX (K:=K) rfl T.Machine.cl T.Ø QE (pv 0) (BM AE))
  (AI (GX (K:=K) rfl T.Machine.cl T.ā Wb (pv 0) (BM AE))
  (AI (GX (K:=K) rfl T.Machine.cl T.â QF (pv 0) AL)
  (AJ (GX (K:=K) rfl T.Machine.cl T.ð TU (pv 0) AL)))))))))))))),?_⟩
 walk;refine EB pc _ c.rs (GS rfl ⟨xs,AH.of hc,aE⟩ OC.short Í OC.ends (λH1 Z=>?_));walk;refine EB pc xs c.rs (GS rfl (Z _ _ hc) (KA aE Z) (by lia) a5 (λD ls H2 hD aP Y aV bb aW=>?_));have I2:=I0.same (Z.trans aP);walk;refine λH3 I3 k3=>?_;have o3:=(Mc.CD.of_same (p:=p) (Z.trans aP)).trans (Mc.CD.Â k3);walk;refine BK pc xs (BQ rfl (.inl (AH.of (o3 _ _ (RK I0 hc) hc))) (λe4 am=>?_));have aI:=BC am (.lst xs);have ad:upd H3 e4 (.lst xs) e4=some (.lst xs):=AA;have I4:=I3.same aI;generalize upd H3 e4 (.lst xs)=H4 at aI ad I4⊢;walk;refine λH5 I5 k5=>?_;have o5:=(Mc.CD.of_same (p:=p) aI).trans (Mc.CD.Â k5);walk;refine λH6 I6 k6=>?_;walk;refine λH7 I7 k7=>?_;walk;refine λH8 I8 k8=>?_;have o8:=((Mc.CD.Â k6).trans (Mc.CD.Â k7)).trans (Mc.CD.Â k8);walk;refine λe9 ac=>?_;have aL:=BC ac (.lst []);have ap:upd H8 e9 (.lst []) e9=some (.lst []):=AA;have I9:=I8.same aL;generalize upd H8 e9 (.lst [])=H9 at aL ap I9⊢;walk;refine λaU aG an=>?_;have af:=(Mc.CD.of_same (p:=p) aL).trans (Mc.CD.Â an);walk;refine λav J=>?_;have ao:=BC J (.lst []);have aa:upd aU av (.lst []) av=some (.lst []):=AA;have a':=aG.same ao;generalize upd aU av (.lst [])=be at ao aa a'⊢;walk;refine λbj bg aw=>?_;walk;refine λa2 aJ au=>?_;have W:=((Mc.CD.of_same (p:=p) ao).trans (Mc.CD.Â aw)).trans (Mc.CD.Â au);walk;refine λar I=>?_;have ak:=BC I (.lst []);have al:upd a2 ar (.lst []) ar=some (.lst []):=AA;have ba:=aJ.same ak;generalize upd a2 ar (.lst [])=bi at ak al ba⊢;walk;refine λaO aC aH=>?_;have ag:=(Mc.CD.of_same (p:=p) ak).trans (Mc.CD.Â aH);walk;refine λaq G=>?_;have aj:=BC G (.lst []);have ay:upd aO aq (.lst []) aq=some (.lst []):=AA;have a9:=aC.same aj;generalize upd aO aq (.lst [])=bh at aj ay a9⊢;walk;refine λbn bp a1=>?_;walk;refine λbf bl aY=>?_;walk;refine λa8 aK a0=>?_;have aQ:=(((Mc.CD.of_same (p:=p) aj).trans (Mc.CD.Â a1)).trans (Mc.CD.Â aY)).trans (Mc.CD.Â a0);have aK:=aK;have aX:=(o3.trans o5).trans o8;have ax:=aX.trans af;have aB:=ax.trans W;have aA:=aB.trans ag;have az:=aA.trans aQ;have aS:=aQ;have a3:=ag.trans aS;have aZ:=W.trans a3;have f5:=o8.trans (af.trans aZ);have f2:=(Mc.CD.Â k3).trans (o5.trans f5);have ae:=RK I2 Y;have a4:=λz hz=>P6 (I0.same Z) (aW z hz)
 have n4:=P6 I3 am;have n9:=P6 I8 ac;have aD:=P6 aG J;have aR:=P6 aJ I;have a6:=P5 (Mc.CD.keep I2 f2) a4 aV;have ai:∀z∈ls,∃ws,H2 z=some (.lst ws):=λz hz=>by
  obtain⟨i,hi,e⟩:=Ca hz;obtain⟨_,_,ws,hw,_⟩:=IG aV (A9 hi);rw[e]at hw
  exact⟨ws,hw⟩
 have F:∀{x e:Addr}{Hk:Hp}{ws:List V},Hk x=some (.lst ws)->Hk e=none->x≠e:=λh1 h2 z=>by rw[z,h2]at h1;cases h1
 obtain⟨a7,bc⟩:=Bx.mp bb;have g3:=Mc.CD.Â k3;have g8:=(g3.trans o5).trans o8;have aF:=g8.trans af;have aM:=aF.trans W;have aN:=aM.trans ag;have ah:∀{e:Addr}{Hk:Hp},Mc.CD p H2 Hk->Hk e=none->e∉ls:=λo h hz=>by
  obtain⟨ws,hw⟩:=ai _ hz;rw[o _ _ (a4 _ hz) hw]at h
  cases h
 refine q ⟨D,e4,e9,av,ar,aq,ls⟩ a8 ⟨aK,?_,⟨⟨xs,((Mc.CD.Â k5).trans f5) _ _ n4 ad,?_⟩,f2 _ _ ae Y,a6,⟨[],((Mc.CD.Â an).trans aZ) _ _ n9 ap,.nil⟩,⟨[],(((Mc.CD.Â aw).trans (Mc.CD.Â au)).trans a3) _ _ aD aa,.nil⟩,⟨[],((Mc.CD.Â aH).trans aS) _ _ aR al,.nil⟩,(((Mc.CD.Â a1).trans (Mc.CD.Â aY)).trans (Mc.CD.Â a0)) _ _ (P6 aC G) ay⟩⟩ az ?_
 .unfold Mc.DS.all;simp only[Bx,Aw,not_or];exact⟨⟨F (g3 _ _ ae Y) am,F (g8 _ _ ae Y) ac,F (aF _ _ ae Y) J,F (aM _ _ ae Y) I,F (aN _ _ ae Y) G,a7⟩,
   ⟨F (((Mc.CD.Â k5).trans o8) _ _ n4 ad) ac,F ((((Mc.CD.Â k5).trans o8).trans af) _ _ n4 ad) J,F (((((Mc.CD.Â k5).trans o8).trans af).trans W) _ _ n4 ad) I,F ((((((Mc.CD.Â k5).trans o8).trans af).trans W).trans ag) _ _ n4 ad) G,ah g3 am⟩,
   ⟨F ((Mc.CD.Â an) _ _ n9 ap) J,F (((Mc.CD.Â an).trans W) _ _ n9 ap) I,F ((((Mc.CD.Â an).trans W).trans ag) _ _ n9 ap) G,ah g8 ac⟩,
   ⟨F (((Mc.CD.Â aw).trans (Mc.CD.Â au)) _ _ aD aa) I,F ((((Mc.CD.Â aw).trans (Mc.CD.Â au)).trans ag) _ _ aD aa) G,ah aF J⟩,
   ⟨F ((Mc.CD.Â aH) _ _ aR al) G,ah aM I⟩,ah aN G,bc⟩
 .exact Ob (Mc.CD.keep I0 az) aE
 .unfold Mc.DS.all;intro b hb;simp only[Aw]at hb;rcases hb with rfl|rfl|rfl|rfl|rfl|rfl|hb
  .exact Z.free hD
  .exact o3.free I3 am
  .exact aX.free I8 ac
  .exact ax.free aG J
  .exact aB.free aJ I
  .exact aA.free aC G
  .exact Z.free (aW b hb)
def sG(T:Tx K mg a):AG P w K mg base BL 1 (a.Ñ 15) (a.Ð 15) ["self"] (d8 a λc m H H' r=>H' r=some (.lst ((m.lanes.map λl=>((l.length:Nat):Int)).map V.int))):=by
 refine T.ù.fn.ok oI (by fin2) (λad A outer s H vs Q E hr h=>?_);obtain⟨p,A,c,m,rfl,M,O,q⟩:=h;have I:=M.ins;have ac:=B4 M.li.wg;have ae:=O.ln;have aa:=O.cf.ő;refine⟨_,(AJ (AY (DO ["self","matrices"] [] 1 (GC K rfl (BB (K:=K) rfl T.Machine.cl T.è S4 (pv 0))) (BD 1) HH (CS (GA K rfl) rfl T.Ò ET (AC (pv 1) AE))))),?_⟩;walk;refine⟨⟨_,AH.of M.li.vX⟩,λD hD=>?_⟩;refine IX (a:=A.L) (xs:=A.ls.map V.ref) (λi ys σ H2=>∃(v2:Option V),ys=((m.lanes.take i).map λl=>((l.length:Nat):Int)).map V.int/\σ=[some (.ref p),v2]/\AD H H2/\H2 D=some (.lst ys))
  ?_ ?_ ?_ ?_
 .exact⟨none,rfl,rfl,BC hD _,AA⟩
 .rintro i ys σ H2 hi ⟨_,_,_,F,_⟩;exact F.seq (AH.of M.li.vX)
 .rintro i y ys σ H2 Z Y ⟨v2,rfl,rfl,F,hh⟩;rw[Ap]at Z
  obtain⟨q1,G,rfl⟩:=Bi.mp Z;obtain⟨l,hl,xs,W,J⟩:=IG M.li.wg G;walk;refine⟨q1,xs,rfl,.inl (AH.of (F _ _ W)),?_⟩;rw[B4 J];refine FW Y hh ?_ ⟨_,?_,rfl,EH F hD,AA⟩
  .grind
  .rw[Ao,hl,Ai,Ai];rfl
 grind
def sH(K:Frag):Sp:=λvs H Q _=>∃(l:Addr) (x:Str) (rs:List BN),vs=[.ref l,.str x]/\Cs.JG K H l rs/\rs.length<=30/\(∀r∈rs,∃c∈FG,r.s=sg c)/\∀(r:Addr) (ys:List V) H',H r=none->AD H H'->H' r=some (.lst ys)->Paired (Cs.HP H') ys (CG rs x)->Q (.ref r) H'
def sI(T:Tx K mg a):AG P w K mg base BL 1 (a.f 52) (a.d 52) ["case","keys"] (sH K):=by
 refine T.Ž.fn.ok nM (by fin2) (λag A outer s H vs Q E hr h=>?_);obtain⟨l,x,rs,rfl,⟨xs,hS,hp⟩,ah,ad,q⟩:=h;refine AX _ (CC (AJ (AY (DO ["case","keys","sign","width","teeth","many"] [] 4 (GC K rfl (pv 0)) (FX K rfl (n:=4) rfl (BJ (BD 2) (BJ (BD 3) (BJ (BD 4) (BJ (BD 5) FD))))) HH (GV (AC (pv 2) (AC (pv 3) (AC (pv 4) (AC (ER K rfl Bu PySem.F.slot_str_count PySem.F.type_str_count lN (pv 1) (AC (pv 2) AE)) AE)))))))) ?_);have af:=Nt hp;walk;intro D hD
 let Izz:zU:=λi ys σ H2=>∃(v1 v2 v3 v4:Option V),σ=[some (.ref l),some (.str x),v1,v2,v3,v4]/\AD H H2/\H2 D=some (.lst ys)/\Paired (Cs.HP H2) ys (CG (rs.take i) x)
 refine IX (a:=l) (xs:=xs) Izz
  ?_ ?_ ?_ ?_
 .exact CA none none none none (BP rfl (BC hD _) AA .nil)
 .exact λi ys σ H2 _ ⟨_,_,_,_,_,hs,_⟩=>hs.seq hS
 .refine λi y ys σ H2 hy ae=>GJ λv1 v2 v3 v4=>DP λZ hs hh W=>?_;subst Z;obtain⟨r,aa,t,rfl,ht⟩:=IG hp hy;refine DQ (ad r (Af aa)) λd=>BW λhd ed=>?_;have Y:=Nt W;refine BK _ _ (BP rfl (BS.of (hs _ _ ht)) rfl ?_);x_go;x_go;x_go;x_go;walk;refine BK _ d (BP rfl (by rw[<-ed]) (Bh rfl) (λtn ac=>?_));have G:=BC ac (.tup (JN ⟨r.s,r.w,r.t,(KU x r.s:Int)⟩));have J:upd H2 tn (.tup (JN ⟨r.s,r.w,r.t,(KU x r.s:Int)⟩)) tn=some (.tup (JN ⟨r.s,r.w,r.t,(KU x r.s:Int)⟩)):=AA;have en:x.cps.toList.count d=KU x r.s:=by rw[ed];rfl
  rw[en];show O3 _ _ _ _ _ _ (upd H2 tn (.tup (JN ⟨r.s,r.w,r.t,(KU x r.s:Int)⟩)));generalize upd H2 tn (.tup (JN ⟨r.s,r.w,r.t,(KU x r.s:Int)⟩))=H3 at G J⊢;have I:=G _ _ hh;unfold CG at Y;rw[A8,Bb]at Y
  refine FW ae I (by lia) ⟨_,_,_,_,rfl,EH (hs.trans G) hD,AA,?_⟩;unfold CG;rw[Ao,aa,Ai];exact By (SV (KA W G) I (λz e=>by cases e)) ⟨tn,rfl,by rw[BE (Kh J I (λe=>by cases e))];exact J⟩
 grind
def sJ(a:Ad):Sp:=λvs H Q _=>∃(l p:Addr) (A:Mc.DS) (c:Cf) (m:Ms) (xs:List V),vs=[.ref l,.ref p]/\MA a c H p A m/\Mc.Ok c m/\H l=some (.lst xs)/\Paired (Cs.HP H) xs c.rs/\(∀r∈c.rs,0<=r.n/\r.n<=100000)/\∀(r:Addr) H',H r=none->AD H H'->H' r=some (.lst ((GO c.rs m.lanes).map V.int))->Q (.ref r) H'
def sL(T:Tx K mg a):AG P w K mg base BL 2 (a.f 53) (a.d 53) ["free","machine"] (sJ a):=by
 refine T.ř.fn.ok nN (by fin2) (λao A outer s H vs Q E hr h=>?_);revert h;refine EM λl p A c m=>ES λxs=>LF λad M O hl hp hn q=>?_;subst ad;have Z:=O.ln;have an:=O.cf.ő;have I:=M.ins;refine AX _ (CC (AJ (AY (DO ["free","machine","channel","lying"] [] 2 (Yi K rfl rfl T.wz (AC (pv 0) (AC (IC (K:=K) rfl T.Machine.cl T.ù (sG T) hr oJ (pv 1)) AE))) (FX K rfl (n:=2) rfl (BJ (BD 2) (BJ (BD 3) FD))) HH (BG Kj (CT (KP K rfl) (pv 2) AL (λ_ _=>rfl)) (pv 3))))) ?_);walk;refine CA p A c m (BP rfl M O (λr H1 ap J ae=>?_));have Ŝ:=J _ _ hl;have af:=KA hp J;have aq:=Ze (rs:=c.rs) (ls:=m.lanes) Z;have G:(m.lanes.map λl=>((l.length:Nat):Int)).length=m.lanes.length:=A8 _;refine BK l r (BP rfl ⟨_,AH.of Ŝ⟩ ⟨_,AH.of ae⟩ (λD hD=>?_));have ai:=J.free hD;refine Yh (a:=l) (b:=r) (xs:=xs) (ys:=(m.lanes.map λl=>((l.length:Nat):Int)).map V.int) (by rw[A8,G,Z,Nt hp];exact Aa _) (λi zs σ H6=>∃(v2 v3:Option V),zs=((GO c.rs m.lanes).take i).map V.int/\σ=[some (.ref l),some (.ref p),v2,v3]/\AD H1 H6/\H6 D=some (.lst zs))
  ?_ ?_ ?_ ?_
 .exact BK none none (BP rfl rfl (BC hD _) AA)
 .refine λi zs σ H6 hi=>FO λ_ _=>DP λ_ _ hs _=>?_;exact⟨hs.seq (AH.of Ŝ),hs.seq (AH.of ae)⟩
 .rintro i x y t zs σ H6 hx hy hi ⟨v2,v3,rfl,rfl,hs,hh⟩ ht;obtain⟨r0,W,t0,rfl,al⟩:=IG af hx;rw[Ap,Ap]at hy
  refine DQ (Bi.mp hy) λy0=>BW λam F=>?_;subst F;refine DQ (Bi.mp am) λl0=>BW λah F=>?_;subst F;have ar:=hn r0 (Af W);rw[A8,G]at hi
  x_fa H7 Y ak;have ag:=Y _ _ (hs _ _ al);refine BK _ _ (BP rfl (BS.of ak) rfl ?_);x_go;x_go;try refine And.intro rfl ?_
  refine AX _ (CC rfl ?_);refine CA t0 _ _ _ (CQ rfl rfl (BS.of ag) rfl ?_);walk;refine FW (by rw[A8,G];exact hi) (Y _ _ hh) (by rw[A8,Bb];lia) ⟨_,_,?_,rfl,EH (hs.trans Y) hD,AA⟩;rw[Ao,Mc.lO W ah,Ai];rfl
 .refine λzs σ H6=>FO λv2 v3=>DP λF ac aj aa=>?_;subst F;subst ac;rw[A8,G,Z,Aj (by lia)]at aa
  exact q D H6 ai (J.trans aj) aa
def da(n:Nat):(List.replicate n [V.int 0]).flatten=((Mz n).map λx=>x.1).map V.int/\(List.replicate n [V.int 0]).flatten=((Mz n).map λx=>x.2).map V.int:=by
 unfold Mz;induction n with
 | zero=>exact⟨rfl,rfl⟩
 | succ n ih =>
   grind
abbrev NA(a:Ad)(c:Cf)(H0 H:Hp)(p n q f:Addr)(A:Mc.DS)(m:Ms)(fs:List V)(ps:List (Int×Int)):Prop:=Mc.HW a.û FY c H0 H p n q f A m fs ps
def sM(K:Frag):Sp:=λvs H Q _=>∃(l:Addr) (x:Str) (z:Int) (xs:List V) (rs:List BN),vs=[.ref l,.str x,.int z]/\H l=some (.lst xs)/\Paired (Cs.HP H) xs rs/\rs.length<=30/\(∀r∈rs,∃c∈FG,r.s=sg c)/\Mc.Ok ⟨CG rs x,x,z⟩ (Mc.start (CG rs x))/\Ld (CG rs x) false x.cps.toList=true/\(∀r∈CG rs x,0<=r.n/\r.n<=1000) /\
 ∀(t n q:Addr) (qs:List (Int×Int)) H',H t=none->H n=none->H q=none->n≠q->AD H H'->H' t=some (.tup [.ref n,.ref q])->H' n=some (.lst ((qs.map λx=>x.1).map V.int))->H' q=some (.lst ((qs.map λx=>x.2).map V.int))->Mc.Pk ⟨CG rs x,x,z⟩ (Mc.start (CG rs x)) (Mz rs.length) qs->Q (.ref t) H'
def sN(T:Tx K mg a):AG P w K mg base BL 6 (a.f 54) (a.d 54) ["case","keys","casting"] (sM K):=by
 refine T.ġ.fn.ok Pb (by fin2) (λbi A outer s H vs Q E hr h=>?_);revert h;refine EM λl x z xs rs=>Kf λaf hl hp a5 a3 OS Í=>BW λhn q=>?_;subst af;have aH:=Nt hp;have a4:(CG rs x).length=rs.length:=A8 _;refine⟨_,(AI (BH 3 Pb.nd (CK T.Ž (sI T) hr rfl (AC (pv 0) (AC (pv 1) AE))))
  (AI (BH 4 Pb.nd (Vr T.Machine (Wo T) hr rfl (AC (pv 3) (AC (pv 1) (AC (pv 2) AE)))))
  (AI (BH 5 Pb.nd (BG SJ (BM (AC AL AE)) (CS (GA K rfl) rfl T.Ò ET (AC (pv 0) AE))))
  (AI (BH 6 Pb.nd (BG SJ (BM (AC AL AE)) (CS (GA K rfl) rfl T.Ò ET (AC (pv 0) AE))))
  (AI (Oy Bm (GU (IC (K:=K) rfl T.Machine.cl T.ą (Wn T) hr We (pv 4))) (AJ (IR Bm rfl (Q8 K rfl rfl T.ó (AC (CK T.ř (sL T) hr rfl (AC (pv 3) (AC (pv 4) AE))) AE)) (FX K rfl (n:=2) rfl (BJ (AO 7 Pb.nd) (BJ (AO 8 Pb.nd) FD))) (AJ (BY (BX NY (pv 8) (CT (EO K rfl) (pv 5) (pv 7) (λ_ _=>rfl)) (BF _)) (AI (HY (pv 8) (PP (pv 5) (pv 7) PZ))
  (AJ (HY (IC (K:=K) rfl T.Machine.cl T.Ĺ (sx T) hr oA (pv 4)) (PP (pv 6) (pv 7) PZ)))) CH)))))
  (AJ (AY (GV (AC (pv 5) (AC (pv 6) AE)))))))))),?_⟩
 walk;refine EB l x rs (CQ rfl ⟨xs,AH.of hl,hp⟩ a5 a3 (λf fs H1 bc ad al av=>?_));generalize bl:CG rs x=fr at OS Í hn av a4 q;walk;refine λp0 bb ai Z be=>⟨p0,f,bb,⟨fr,x,z⟩,fs,rfl,AA,?_,?_,OS.cf,Í,hn,λA0 H7 M0 an wL=>⟨rfl,?_⟩⟩
 .rw[BE (FB al ai),BE (FB al Z)];exact al
 .exact KA av λb u hb=>by rw[BE (FB hb ai),BE (FB hb Z)];exact hb
 have W:=Tj ai Z an;have am:∀b∈A0.all,H1 b=none:=λb hb=>VG ai Z (wL b hb)
 have aA:=W _ _ (ad _ _ hl);walk;refine λe1 bg=>?_;x_fa H8 ac aY;walk;refine BK l _ (BQ rfl (.inl (AH.of (ac _ _ aA))) ?_);rw[aH];refine EB e1 _ _ (DT rfl rfl aY (by lia) (by lia) (DU (by show 1*_<=_;lia)) (λnA aC=>?_));have aO:((rs.length:Int)).toNat=rs.length:=by lia
 rw[aO,(da rs.length).1];x_fa H9 aV aB;have I:=ac.trans aV;walk;refine λe2 bn=>?_;x_fa bj F aq;walk;refine BK l _ (BQ rfl (.inl (AH.of ((I.trans F) _ _ aA))) ?_);rw[aH];refine EB e2 _ _ (DT rfl rfl aq (by lia) (by lia) (DU (by show 1*_<=_;lia)) (λqA aj=>?_));rw[aO,(da rs.length).2];x_fa a0 ah ar;have G:=I.trans (F.trans ah);have az:=W _ _ al;have N0:NA a ⟨fr,x,z⟩ H a0 p0 nA qA f A0 (Mc.start fr) fs (Mz rs.length):=by
  refine⟨M0.same G,ad.trans (W.trans G),λb hb=>ad.free (am b hb),ad.free ai,ad.free (W.free (ac.free aC)),ad.free (W.free (I.free (F.free aj))),bc,?_,?_,?_,?_,?_,?_,(F.trans ah) _ _ aB,ar,G _ _ az,KA av (W.trans G)⟩
  .exact FB (F _ _ aB) aj
  .exact(FB (ac _ _ az) aC).symm
  .exact(FB ((I.trans F) _ _ az) aj).symm
  .exact(M0.same ac).new aC
  .exact(M0.same (I.trans F)).new aj
  grind
 clear G I ah ar F aq aV aB ac aY aA am W an M0 wL
 let Izz:zT:=λn σ aK=>∃(A1:Mc.DS) (m1:Ms) (ps:List (Int×Int)) (v7 v8:Option V),σ=[some (.ref l),some (.str x),some (.int z),some (.ref f),some (.ref p0),some (.ref nA),some (.ref qA),v7,v8]/\NA a ⟨fr,x,z⟩ H aK p0 nA qA f A1 m1 fs ps/\Mc.Ok ⟨fr,x,z⟩ m1/\ps.length=rs.length/\(∀qs,Mc.Pk ⟨fr,x,z⟩ m1 ps qs->Mc.Pk ⟨fr,x,z⟩ (Mc.start fr) (Mz rs.length) qs)/\CM ⟨fr,x,z⟩ m1=n
 refine⟨Izz,
  ⟨_,A0,Mc.start fr,Mz rs.length,none,none,rfl,N0,OS,Ck,λqs h=>h,rfl⟩,?_⟩
 refine λn σ aK=>EM λA1 m1 ps v7 v8=>GH λaf N1 O1 a9 aW ay=>?_;subst af;subst ay;have I1:=N1.Ř.ins;refine⟨_,rfl,_,_,rfl,I1,p0,A1,_,m1,rfl,N1.Ř,O1,λhs bd aL=>?_,λhs A2 bd M2 a'=>?_⟩
 .refine AX _ (CC rfl (AK ?_));have J:=N1.same aL;walk;exact λt ht=>q t nA qA ps _ (J.sm.free ht) J.nn J.qn J.nq (EU J.sm ht) AA (BC ht _ _ _ J.hn) (BC ht _ _ _ J.hq) (aW ps (.stop hs))
 .refine AX _ (CC rfl (AQ ?_));have J:=N1.step a' M2;have O2:=O1.tick;have aE:=Qn O1 hs;have xp:=λqs h=>aW qs (.go hs h)
  have aI:=Ze (rs:=fr) (ls:=(Mc.tick ⟨fr,x,z⟩ m1).lanes) O2.ln;generalize Mc.tick ⟨fr,x,z⟩ m1=m2 at J O2 aE xp aI;generalize a6:GO fr m2.lanes=os at xp aI
  let Izz:zS:=λaX H'=>∃(v7 v8:Option V),aX=[some (.ref l),some (.str x),some (.int z),some (.ref f),some (.ref p0),some (.ref nA),some (.ref qA),v7,v8]/\NA a ⟨fr,x,z⟩ H H' p0 nA qA f A2 m2 fs (JW m2.done os ps)
  refine AX Izz (CC ?_ ?_)
  .refine λaX H'=>FO λw7 w8=>BW λaD N3=>?_;subst aD;exact⟨_,aE,A2,m2,_,w7,w8,rfl,N3,O2,by rw[VH];exact a9,xp,rfl⟩
  have I2:=J.Ř.ins;walk;refine DC f p0 A2 ⟨fr,x,z⟩ m2 (AX fs (DT rfl J.Ř O2 J.hf J.rows (λr hr=>by have:=hn r hr;lia) (λr a1 ak aJ Y=>?_)));have Y:a1 r=some (.lst (os.map V.int)):=by rw[<-a6];exact Y
  have aZ:r≠nA:=λe=>by rw[e,J.hn]at ak;cases ak
  have a7:r≠qA:=λe=>by rw[e,J.hq]at ak;cases ak
  refine AX r (BQ rfl ⟨_,AH.of Y⟩ ?_)
  let Izz:zT:=λi σ aa=>∃(v7 v8:Option V),σ=[some (.ref l),some (.str x),some (.int z),some (.ref f),some (.ref p0),some (.ref nA),some (.ref qA),v7,v8]/\NA a ⟨fr,x,z⟩ H aa p0 nA qA f A2 m2 fs (JW m2.done (os.take i) ps)/\aa r=some (.lst (os.map V.int))
  refine Rg (a:=r) (xs:=os.map V.int) Izz
   ⟨_,_,rfl,by rw[Jv,Mc.VI];exact J.same aJ,Y⟩ (by rintro i σ aa _ ⟨_,_,_,_,h⟩;exact AH.of h) ?_ ?_
  .rintro i y tp σ aa hy ⟨w7,w8,rfl,N5,a8⟩ ba;refine DQ (SM hy) λo=>BW λaT aM=>?_;subst aT;have bo:i<os.length:=(B9.mp aM).1;have aU:(os.take i).length=i:=by rw[Bb];lia
   have aN:=VH m2.done (os.take i) ps;obtain⟨px,aR⟩:∃px,ps[i]?=some px:=⟨_,A9 (by lia)⟩
   have aQ:(JW m2.done (os.take i) ps)[i]?=some px:=by rw[Mc.lP _ _ _ (by lia)];exact aR
   have ae:JW m2.done (os.take (i+1)) ps=(JW m2.done (os.take i) ps).set i (N4 m2.done o px):=by
    rw[Ao,aM];have:=Mc.lQ m2.done (os.take i) o ps (x:=px) (by rw[aU];exact aR);rw[aU]at this
    exact this
   have aw:=BC ba (.tup [.int i,.int o]);have a2:upd aa tp (.tup [.int i,.int o]) tp=some (.tup [.int i,.int o]):=AA;have N6:=N5.same aw;have ax:=aw _ _ a8;generalize upd aa tp (.tup [.int i,.int o])=au at aw a2 N6 ax⊢;generalize JW m2.done (os.take i) ps=us at aQ ae aN N6;walk;x_go;x_go;have aF:i<us.length:=by lia
   have ap:EN ((us.map λx=>x.1).map V.int) (i:Int)=some (.int px.1):=HZ (by rw[Ap,Ap,aQ];rfl);have aP:=N6.hn;have bp:=N6.hq;walk;try refine⟨nA,_,_,_,rfl,rfl,AH.of aP,ap,?_⟩
   clear ap;walk;refine å (λc=>?_) (λc=>?_)
   .have c:px.1<o:=Ag c;have e1:N4 m2.done o px=(o,m2.done):=Au c;rw[e1]at ae
    have en:((us.map λx=>x.1).map V.int).set i (V.int o)=((us.set i (o,m2.done)).map λx=>x.1).map V.int:=by rw[Ge,Ge]
    have eq:((us.map λx=>x.2).map V.int).set i (V.int m2.done)=((us.set i (o,m2.done)).map λx=>x.2).map V.int:=by rw[Ge,Ge]
    walk;refine CA nA _ _ i (CQ rfl rfl aP (S8 (by rw[A8,A8];exact aF)) ?_);rw[en];obtain⟨M7,_,aS,_,_⟩:=N6.xx (vs:=((us.set i (o,m2.done)).map λx=>x.1).map V.int);have aG:upd au nA (.lst (((us.set i (o,m2.done)).map λx=>x.1).map V.int)) r=some (.lst (os.map V.int)):=by rw[BE aZ];exact ax
    have ao:=λ{H8:Hp}(s8:AD (upd au nA (.lst (((us.set i (o,m2.done)).map λx=>x.1).map V.int))) H8)=>N6.set (qs:=us.set i (o,m2.done)) s8
    generalize upd au nA (.lst (((us.set i (o,m2.done)).map λx=>x.1).map V.int))=bh at M7 aS aG ao⊢;have I7:=M7.ins;walk;refine CA p0 A2 _ m2 (BP rfl M7 O2 (λbf ag=>?_));walk;refine CA qA _ _ i (CQ rfl rfl (ag _ _ aS) (S8 (by rw[A8,A8];exact aF)) ?_);rw[eq];refine BK _ _ (BQ rfl (by rw[ae];exact ao ag) (by rw[BE a7];exact ag _ _ aG))
   .have c:¬px.1<o:=λh=>c (Ac h)
    have e1:N4 m2.done o px=px:=As c;have e2:us.set i px=us:=by
     apply List.ext_getElem?
     grind
    rw[e1,e2]at ae
    walk;exact BK _ _ (BQ rfl (by rw[ae];exact N6) ax)
  grind
def sO(K:Frag)(w:Bool):Sp:=λvs H Q _=>∃(l:Addr) (x:Str) (z:Int) (xs:List V) (rs:List BN),vs=[.ref l,.str x,.int z]/\H l=some (.lst xs)/\Paired (Cs.HP H) xs rs/\rs.length<=30/\(∀r∈rs,∃c∈FG,r.s=sg c)/\Mc.Ok ⟨CG rs x,x,z⟩ (Mc.start (CG rs x))/\Ld (CG rs x) false x.cps.toList=true/\(∀r∈CG rs x,0<=r.n/\r.n<=1000) /\
 ∀(n:Addr) (qs:List (Int×Int)) H',H n=none->AD H H'->H' n=some (.lst ((qs.map λx=>if w then x.1 else x.2).map V.int))->Mc.Pk ⟨CG rs x,x,z⟩ (Mc.start (CG rs x)) (Mz rs.length) qs->Q (.ref n) H'
def sP(T:Tx K mg a):AG P w K mg base BL 7 (a.f 55) (a.d 55) ["case","keys","casting"] (sO K true):=by
 refine T.vW.fn.ok W6 (by fin2) (λad A outer s H vs Q E hr h=>?_);revert h;refine EM λl x z xs rs=>Kf λF hl hp Z W OS Í=>BW λhn q=>?_;subst F;refine⟨_,(AI (HY (CK T.ġ (sN T) hr rfl (AC (pv 0) (AC (pv 1) (AC (pv 2) AE)))) (FX K rfl (n:=2) rfl (BJ (AO 3 W6.nd) (BJ (AO 4 W6.nd) FD))))
  (AJ (AY (pv 3)))),?_⟩
 walk;refine DC l x z xs rs (DT rfl hl hp Z W OS (BQ Í hn (λt n q' qs H' ht aa ac af G I J ae Y=>⟨_,_,rfl,BS.of I,rfl,?_⟩)));x_go;x_go;try refine And.intro rfl ?_
 walk;exact q n qs H' aa G J Y
theorem QK(x:Str):∀ws:List Str,L7 (.str x) (ws.map V.str)=decide (x∈ws)
 | []=>rfl
 | y::ws=>by
   have ih:=QK x ws;unfold L7 at ih⊢;rw[Bl,Df,ih];have e:LX (V.str y) (V.str x)=decide (x=y):=by
    show(y==x)=_;rw[Cy,Bp,B6];exact eq_comm
   rw[e,<-Bool.decide_or,D9];exact Aw.symm
theorem QL:∀ws:List Str,(ws.map V.str).all MX=true
 | []=>rfl
 | y::ws=>by
   rw[Bl,Fw,QL ws];rfl
def JS:List Str:=["lines","gaps","keys","need"]
def LS:List Str:=["start","run","slugs","state","waited"]
noncomputable def EA (ws:List Str):Bool:=!decide (("":Str)∈ws)&&match ws with
 | []=>false
 | x::_=>if x="copy" then decide (2<=ws.length)else if x="tick" then decide (ws.length=2)else decide (ws.length=1)&&(decide (x∈JS)||decide (x∈LS))
def sQ:Sp:=λvs H Q _=>∃(p:Addr) (x:Str) (ws:List Str),vs=[.ref p]/\H p=some (.lst ((x::ws).map V.str))/\ws.length<=2000/\Q (.bl (EA (x::ws))) H
def sR(T:Tx K mg a):AG P w K mg base BL 1 (a.f 56) (a.d 56) ["words"] sQ:=by
 refine T.vz.fn.ok nO (by fin2) (λaa A outer s H vs Q E hr h=>?_);obtain⟨p,x,ws,rfl,G,hl,q⟩:=h;have W:∀y:Str,decide (V.str x=V.str y)=decide (x=y):=λy=>EV
 unfold EA at q;refine⟨_,(AI (BY (BX (Rk K rfl) AN (pv 0) (by with_unfolding_all rfl)) (AJ (AY LG)) CH)
  (AI (BY (BX EI (CT (EO K rfl) (pv 0) AL (λ_ _=>rfl)) AN (BF _)) (AJ (AY (FU X0 (CS (GA K rfl) rfl T.Ò ET (AC (pv 0) AE)) AL (BF _)))) CH)
  (AI (BY (BX EI (CT (EO K rfl) (pv 0) AL (λ_ _=>rfl)) AN (BF _)) (AJ (AY (FU EI (CS (GA K rfl) rfl T.Ò ET (AC (pv 0) AE)) AL (BF _)))) CH)
  (AJ (AY (HL (FU EI (CS (GA K rfl) rfl T.Ò ET (AC (pv 0) AE)) AL (BF _)) (Ki (eV (FU (Rk K rfl) (CT (EO K rfl) (pv 0) AL (λ_ _=>rfl)) (FC (v:=.ref a.Đ) rfl T.ı rfl) (by with_unfolding_all rfl)) (Ki (FU (Rk K rfl) (CT (EO K rfl) (pv 0) AL (λ_ _=>rfl)) (FC (v:=.ref a.Č) rfl T.Ĵ rfl) (by with_unfolding_all rfl))))))))))),?_⟩
 walk;refine⟨p,_,rfl,.inl (AH.of G),rfl,QL _,?_⟩;rw[show ∀b:Bool,(if false=true then !b else b)=b from λ_=>rfl,QK];have Z:EN ((x::ws).map V.str) 0=some (V.str x):=HZ (j:=0) rfl;have F:((((x::ws).map V.str).length:Nat):Int)=(ws.length:Int)+1:=by rw[A8];rfl
 refine⟨_,rfl,?_⟩;by_cases J:("":Str)∈x::ws
 .rw[Ac J]at q⊢
  exact AQ q
 rw[Ak J]at q⊢
 refine AK ?_;have q:Q (.bl (if x="copy" then decide (2<=(x::ws).length)else if x="tick" then decide ((x::ws).length=2)else decide ((x::ws).length=1)&&(decide (x∈JS)||decide (x∈LS)))) H:=q;have eI:∀k:Nat,decide (V.int ((ws.length:Int)+1)=V.int (k:Int))=decide ((x::ws).length=k):=λk=>D9.mpr (by rw[V.int.injEq,Bw];lia)
 walk;rw[W];refine å (λh1=>?_) (λh1=>?_)
 .rw[Au (Ag h1)]at q
  walk;refine⟨p,_,rfl,.inl (AH.of G),?_⟩;rw[F];walk;show Q (.bl (decide ((2:Int)<=(ws.length:Int)+1))) H;rw[show decide ((2:Int)<=(ws.length:Int)+1)=decide (2<=(x::ws).length)from D9.mpr (by rw[Bw];lia)];exact q
 rw[As (λz=>h1 (Ac z))]at q
 walk;rw[W];refine å (λh2=>?_) (λh2=>?_)
 .rw[Au (Ag h2)]at q
  walk;refine⟨p,_,rfl,.inl (AH.of G),?_⟩;rw[F];walk
  grind
 rw[As (λz=>h2 (Ac z))]at q
 walk;refine⟨p,_,rfl,.inl (AH.of G),?_⟩;rw[F];walk;rw[show decide (V.int ((ws.length:Int)+1)=V.int 1)=decide ((x::ws).length=1)from eI 1];refine å (λY=>?_) (λY=>?_)
 .rw[Y,Bool.true_and]at q
  walk;refine⟨_,_,rfl,.inr (T.Ħ H),rfl,QL JS,?_⟩;rw[show ∀b:Bool,(if false=true then !b else b)=b from λ_=>rfl,show L7 (.str x) [.str ("lines":Str),.str ("gaps":Str),.str ("keys":Str),.str ("need":Str)]=decide (x∈JS)from QK x JS];refine⟨_,rfl,å (λI=>?_) (λI=>?_)⟩
  .rw[I]at q
   exact q
  rw[Hz.mpr I,Bool.false_or]at q
  walk;refine⟨_,_,rfl,.inr (T.Ĩ H),rfl,QL LS,?_⟩;rw[show ∀b:Bool,(if false=true then !b else b)=b from λ_=>rfl,show L7 (.str x) [.str ("start":Str),.str ("run":Str),.str ("slugs":Str),.str ("state":Str),.str ("waited":Str)]=decide (x∈LS)from QK x LS];exact q
 lia
def sT(C:Addr):Sp:=λvs H Q E=>∃x:Str,vs=[.str x]/\AW x/\(reprText x).length<=2000/\(GP x=true->∀H',AD H H'->Q (.int (GQ x)) H')/\(GP x=false->∀H',AD H H'->E (.ref C) none H')
def sU(T:Tx K mg a):AG P w K mg base (DG P w) 2 (a.f 57) (a.d 57) ["word"] (sT a.ë):=by
 refine T.Ţ.fn.Ő nP (by fin2) (λI A outer s H vs Q E J h=>?_);obtain⟨x,rfl,Y,G,q,e⟩:=h;refine⟨_,(AI (BY (LV (GU (CK T.Ě (TY T) J rfl (AC (pv 0) AE)))) (AJ (Lr T.Ë rfl rfl rfl (AC (Qu (Tp (pv 0)) AN) AE))) CH)
  (AJ (AY (Ky Qo rfl T.ũ OJ (AC (pv 0) AE))))),?_⟩
 walk;intro H1 F;refine⟨_,rfl,?_⟩;cases hn:GP x with
 | true =>
   refine AK ?_;walk;exact⟨x,_,rfl,Tn hn,by have:=RM hn;rw[<-show x.cps.toList.length=x.length from B0];lia,q hn _ F⟩
 | false =>
   refine AQ ?_;walk;intro y W;walk;intro z;walk;exact e hn _ F
def MG(g:Int×Int):Str:=if g.2=1 then Str.ofString (toString g.1)else Str.ofString (toString g.1)++"/"++Str.ofString (toString g.2)
def sV:Sp:=λvs H Q _=>∃(t:Addr) (g:Int×Int),vs=[.ref t]/\H t=some (.tup [.int g.1,.int g.2])/\g.1.natAbs<=10^40/\g.2.natAbs<=10^40/\Q (.str (MG g)) H
def sW(T:Tx K mg a):AG P w K mg base BL 1 (a.f 61) (a.d 61) ["gap"] sV:=by
 refine T.ź.fn.ok W8 (by fin2) (λI A outer s H vs Q E Y h=>?_);obtain⟨t,⟨u,v⟩,rfl,ht,F,G,q⟩:=h;have ht:=ht;have F:=F;have G:=G;unfold MG at q;have q:=q;refine⟨_,(AI (HY (pv 0) (FX K rfl (n:=2) rfl (BJ (AO 1 W8.nd) (BJ (AO 2 W8.nd) FD))))
  (AJ (AY (Nd (BX EI (pv 2) AL (BF _)) (mW (RV (pv 1))) (ZM (RV (pv 1)) AN (RV (pv 2))))))),?_⟩
 walk;try refine⟨_,_,rfl,BS.of ht,rfl,?_⟩
 x_go;x_go;walk;rw[show decide (V.int v=V.int 1)=decide (v=1)from D9.mpr (by rw[V.int.injEq])];refine å (λh1=>?_) (λh1=>?_)
 .rw[Au (Ag h1)]at q
  exact⟨_,rfl,u,rfl,F,λ_=>q⟩
 rw[As (λz=>h1 (Ac z))]at q
 exact⟨_,rfl,u,rfl,F,λJ=>⟨_,rfl,J,"/",rfl,by decide,_,rfl,v,rfl,G,λW=>⟨_,rfl,W,q⟩⟩⟩
def Pj(c:Cf)(m:Ms):Str:=if P3 c m=true then "rest" else if Qm c m=true then "stuck" else "going"
def sX(a:Ad):Sp:=λvs H Q _=>∃(p:Addr) (A:Mc.DS) (c:Cf) (m:Ms),vs=[.ref p]/\MA a c H p A m/\Mc.Ok c m/\∀H',AD H H'->Q (.str (Pj c m)) H'
def sY(T:Tx K mg a):AG P w K mg base BL 5 (a.f 62) (a.d 62) ["machine"] (sX a):=by
 refine T.vM.fn.ok nQ (by fin2) (λZ A outer s H vs Q E Y h=>?_);revert h;refine GJ λp B c m=>DP λW M O q=>?_;subst W;unfold Pj at q;have hI:=M.ins;refine⟨_,(AI (BY (GU (IC (K:=K) rfl T.Machine.cl T.Ā (d6 T) Y ZZ (pv 0))) (AJ (AY AN)) CH)
  (AJ (AY (Nd (GU (IC (K:=K) rfl T.Machine.cl T.ė (cZ T) Y ZY (pv 0))) AN AN)))),?_⟩
 walk;refine CA p B c m (BP rfl M O (λH1 F=>?_));have M1:=M.same F;have I1:=M1.ins;refine AX _ (CC rfl ?_);cases I:P3 c m with
 | true =>
   rw[I]at q
   exact AQ (q H1 F)
 | false =>
   rw[I]at q
   refine AK ?_;walk;refine CA p B c m (BP rfl M1 O (λH2 J=>⟨_,rfl,?_⟩));cases G:Qm c m with
   | true =>
     rw[G]at q
     exact AQ (q H2 (F.trans J))
   | false =>
     rw[G]at q
     exact AK (q H2 (F.trans J))
def sZ(a:Ad):Sp:=λvs H Q _=>∃(p:Addr) (A:Mc.DS) (c:Cf) (m:Ms) (n:Nat),vs=[.ref p,.int (n:Int)]/\MA a c H p A m/\Mc.Ok c m/\∀F H',MA a c H' p F (BR c n m)->Mc.AU p A H F H'->Q (.int ((BR c n m).done-m.done)) H'
def tf(T:Tx K mg a):AG P w K mg base BL 5 (a.f 63) (a.d 63) ["machine","often"] (sZ a):=by
 refine T.ŧ.fn.ok W9 (by fin2) (λae A outer s H vs Q E hr h=>?_);revert h;refine EM λp B c m n=>DP λW M O q=>?_;subst W;refine⟨_,(AI (BH 2 W9.nd AL)
  (AI (Oy Bm (PW.pt (Ot (BX NX (pv 2) (pv 1) (BF _)) (Oq (GU (IC (K:=K) rfl T.Machine.cl T.ą (Wn T) hr We (pv 0)))))) (AJ (BH 2 W9.nd (BG GK (pv 2) AL))))
  (AJ (AY (pv 2))))),?_⟩
 walk
 let Izz:zT:=λj σ H1=>∃I m1 k,σ=[some (.ref p),some (.int (n:Int)),some (.int (k:Nat))]/\MA a c H1 p I m1/\Mc.Ok c m1/\Mc.AU p B H I H1/\BR c (n-k) m1=BR c n m/\m1.done=m.done+(k:Int)/\k<=n/\j=n-k
 refine AX Izz (CC ⟨_,B,m,0,rfl,M,O,Mc.AU.of_same (AD.refl _),rfl,(Int.add_zero _).symm,Bj _,rfl⟩ ?_);refine λj σ H1=>FT λI m1 k=>Kf λJ M1 O1 G hf hd ad F=>?_;subst J;subst F;walk;by_cases aa:k<n
 .rw[Ac (by lia)];refine AQ ⟨_,rfl,_,_,rfl,M1.ins,p,I,c,m1,rfl,M1,O1,λhs H2 Y=>?_,λhs A2 H2 M2 ac=>?_⟩
  .refine AX _ (CC rfl (AK ?_));rw[Mw hs]at hf
   rw[<-hf,hd,show m.done+(k:Int)-m.done=(k:Int) by lia]at q
   walk;exact q I H2 (M1.same Y) (G.trans (Mc.AU.of_same Y))
  .refine AX _ (CC rfl (AQ ⟨λZ H'=>Z=[some (.ref p),some (.int (n:Int)),some (.int ((k+1:Nat):Int))]/\H'=H2,?_,?_⟩))
   .rintro Z H' ⟨rfl,rfl⟩;exact⟨n-(k+1),by lia,A2,Mc.tick c m1,k+1,rfl,M2,O1.tick,G.trans ac,by rw[<-hf,show n-k=(n-(k+1))+1 by lia,Oa hs],by rw[Zb,hd];lia,aa,rfl⟩
   .walk;exact rfl
 .rw[Ak (by lia)];refine AK (AK ?_);have e:n-k=0:=by lia
  rw[e]at hf
  have hf:m1=BR c n m:=hf;rw[<-hf,hd,show m.done+(k:Int)-m.done=(k:Int) by lia]at q
  walk;exact q I H1 M1 G
def ti(K:Frag):Sp:=λvs H Q _=>∃(l:Addr) (x:Str) (rs:List BN),vs=[.ref l,.str x]/\Cs.JG K H l rs/\x.length<=1000/\∀H',AD H H'->Q (.bl (O5 rs x)) H'
def tj(T:Tx K mg a):AG P w K mg base BL 2 (a.f 6) (a.d 6) ["case","word"] (ti K):=by
 refine T.vY.fn.ok nk (by fin2) (λac A outer s H vs Q E hr h=>?_);obtain⟨l,x,rs,rfl,Z,hx,q⟩:=h;refine⟨_,(AJ (AY (HL (FU Kx (pv 1) AN (BF _)) (Ki (CS (Nr K rfl rfl) rfl T.wc SK (AC (DO ["case","word","sign"] [] 1 (Qa (pv 1)) (BD 2) HH (Oo (QY (CK T.ñ (QH T) hr rfl (AC (pv 0) (AC (pv 2) AE)))))) AE)))))),?_⟩;have aa:x.cps.size<=1000:=hx;z_run;rw[EV];unfold O5 at q;by_cases e:x=""
 .rw[Ac e]at q⊢
  exact q _ (AD.refl _)
 .rw[Ak e]at q⊢
  z_run;intro D hD;refine Rl (x:=x) (λi ys σ H2=>∃(W:Option V),ys=((x.cps.toList.take i).map λc=>(DW rs (sg c)).isSome).map V.bl/\σ=[some (.ref l),some (.str x),W]/\AD H H2/\H2 D=some (.lst ys))
   ?_ ?_ ?_
  .exact⟨none,rfl,rfl,BC hD _,AA⟩
  .rintro i c ys σ H2 hc Y ⟨W,rfl,rfl,I,G⟩;have J:x.cps.toList[i]?=some c:=by simpa using hc
   z_run;refine⟨l,sg c,rs,rfl,Z.same I,λH3 F=>?_⟩;z_run;refine FW Y (F _ _ G) ?_ ⟨_,?_,rfl,EH (I.trans F) hD,AA⟩
   .grind
   .rw[Ao,J,Ai,Ai,Cs.ig];rfl
  .rintro ys σ H2 ⟨W,rfl,rfl,I,G⟩;rw[Aj (by simp)]at G
   refine⟨D,_,rfl,AH.of G,?_⟩;rw[Cs.all_map];exact q _ I
structure tm(rs:List BN)(ws:List Str):Prop where
 ne:ws≠[]
 ő:ws.length<=100
 ok:∀x∈ws,x.length<=1000/\∀c∈x.cps.toList,(DW rs (sg c)).isSome=true
 b0:0<=AZ rs ws
 b1:AZ rs ws<=10000000
structure Pl(m lo À hi:Int):Prop where
 xa:0<=lo
 li:lo<=À
 ih:À<=hi
 ľ:hi<=1000
 m0:0<=m
 m1:m<=100000
def Sf(rs:List BN)(m:Int)(l:List Str):Int×Int:=KZ (m-AZ rs l) ((l.length:Int)-1)
def Oh(rs:List BN)(m À:Int)(l:List Str):Int×Int:=if QI m À rs l then(À,1)else Sf rs m l
def Pm(H:Hp)(v:V)(g:Int×Int):Prop:=∃t,v=.ref t/\H t=some (.tup [.int g.1,.int g.2])
def U2(h:Paired (Pm H) xs gs)(s:AD H H'):Paired (Pm H') xs gs:=Paired.à h λ_ _ ⟨t,e,z⟩=>⟨t,e,s _ _ z⟩
def tq(h:Paired (Pm H) xs gs)(F:H l=some ys)(hn:∀z,ys≠.tup z):Paired (Pm (upd H l o)) xs gs :=
 Paired.à h λx p ⟨t,e,ht⟩=>⟨t,e,by rw[BE (Kh ht F λz=>hn _ z.symm)];exact ht⟩
theorem dc{α β:Type}{F:α->β->Prop}{b:β}:∀{bs:List β}{xs:List α},Paired F xs (bs++[b])->∃ys y,xs=ys++[y]/\Paired F ys bs/\F y b
 | [],_,.cons r .nil=>⟨[],_,rfl,.nil,r⟩
 | _::bs,_,.cons r t=>by
   obtain⟨ys,y,e,h1,h2⟩:=dc (bs:=bs) t;exact⟨_::ys,y,by rw[e];rfl,.cons r h1,h2⟩
def tw(K:Frag):Sp:=λvs H Q _=>∃(l q g:Addr) (m lo À hi:Int) (rs:List BN) (zs:List V) (no:Addr) (F:List (List Str)) (last:List Str),vs=[.ref l,.ref q,.int m,.ref g]/\Cs.JG K H l rs/\H q=some (.lst zs)/\Paired (Lns.KC no H) zs (F++[last])/\F.length<=400/\BS K H g [.int lo,.int À,.int hi]/\Pl m lo À hi/\(∀x∈F++[last],tm rs x)/\(∀x∈F,Pg m lo hi rs x=0)/\(QI m À rs last\/Pg m lo hi rs last=0) /\
 ∀(r:Addr) (ys:List V) H',H r=none->AD H H'->H' r=some (.lst ys)->Paired (Pm H') ys (F.map (Sf rs m)++[Oh rs m À last])->Q (.ref r) H'
def tD(T:Tx K mg a):AG P w K mg base (DG P w) 6 (a.f 58) (a.d 58) ["case","lines","measure","gaps"] (tw K):=by
 refine T.we.fn.Ő ZU (by fin2) (λaC A outer s H vs Q E hr h=>?_);revert h;refine EM λl q g m lo=>EM λÀ hi rs zs no=>FO λaw last=>Kf λag hC hq hz aD hG Y=>DP λai al aA k=>?_;subst ag;obtain⟨zi,zl,rfl,ap,pl,rfl,_,ax⟩:=dc hz;have ar:EJ (zi++[V.ref pl]) none (some (-1))=zi:=by
  have:=Lns.jy (id:V->V) zi (V.ref pl)
  rwa [List.map_id,List.map_id]at this
 refine⟨_,(AI (Zm (i:=4) rfl rfl ZU.nd rfl NT rfl (GC K rfl (NZ (Q7 K rfl) (pv 1) SG (LK (NU NW AL)))) (DL.of (N':=["case","lines","measure","gaps","full","line"]) (ms:=[]) (k:=1) (by rfl)) (λ_ _ _ _ _=>(BD 5)) (λ_ _ _ _ _=>(FM T.Ť (cy T) hr rfl rfl (AC (pv 0) (AC (pv 5) (AC (pv 2) (AC (pv 3) AE)))))))
  (AJ (AY (BG Nm (pv 4) (BM (AC (FM T.vK (pR T) hr rfl rfl (AC (pv 0) (AC (CT (EO K rfl) (pv 1) (NU NW AL) (λ_ _=>rfl)) (AC (pv 2) (AC (pv 3) AE))))) AE)))))),?_⟩
 z_run;refine BK q _ (BQ rfl (AH.of hq) (λpn aE=>?_));rw[ar];x_fa H1 aq ak;refine AX pn (BQ rfl ⟨_,AH.of ak⟩ (λD hD=>?_))
 let Izz:zU:=λi ys σ H2=>∃(v5:Option V),σ=[some (.ref l),some (.ref q),some (.int m),some (.ref g),none,v5]/\AD H1 H2/\H2 D=some (.lst ys)/\Paired (Pm H2) ys ((aw.take i).map (Sf rs m))
 refine IX (a:=pn) (xs:=zi) Izz
  ?_ ?_ ?_ ?_
 .exact AX none (BP rfl (BC hD _) AA .nil)
 .refine λi ys σ H2 hi=>ES λv5=>FN λ_ hs _=>?_;exact hs.seq (AH.of ak)
 .refine λi x ys σ H2 hx ah=>ES λv5=>DP λac hs hh hp=>?_;subst ac;obtain⟨x0,aj,p0,rfl,_,aB⟩:=IG ap hx;have am:=Af aj;have L:=ai x0 (Cd _ am);have o0:=al x0 am;have Z:=aq.trans hs;have af:=B4 hp;rw[A8,Bb]at af
  z_run;refine DC l p0 g m lo (CA À hi rs x0 (DT rfl (hC.same Z) (AH.of (Z _ _ aB)) (Pf Z hG) L.ne L.ő (DT L.ok Y.xa (Int.le_trans Y.li Y.ih) Y.ľ Y.m0 Y.m1 (CQ L.b0 L.b1 (λH3 dx F an hc=>?_) (λH3 dx F an hc=>?_) (λt H3 ht F _ I=>?_)))))
  .lia
  .lia
  .have au:=F _ _ hh;have ay:t≠D:=λe=>by rw[e,hh]at ht;cases ht
   refine FW ah au (by lia) ⟨_,rfl,EH (hs.trans F) hD,AA,?_⟩;rw[Ao,aj,Ai];exact By (tq (U2 hp F) au λz e=>by cases e) ⟨t,rfl,by rw[BE ay];exact I⟩
 .refine λys σ H2=>ES λv5=>DP λac Z ao ad=>?_;subst ac;rw[Yl ap,Aj (Aa _)]at ad
  have af:=B4 ad;rw[A8]at af
  have G:=aq.trans Z;have L:=ai last (Bg _ (Az.mpr rfl));have az:EN (zi++[V.ref pl]) (-1)=some (V.ref pl):=Vh zi _;z_run;refine CA q _ _ _ (CQ rfl rfl (AH.of (G _ _ hq)) az ?_);z_run;have GI:Kt K H2 l pl g m lo À hi rs last:=⟨hC.same G,AH.of (G _ _ ax),Pf G hG,L.ne,L.ő,L.ok,Y.xa,Int.le_trans Y.li Y.ih,Y.ľ,Y.m0,Y.m1,L.b0,L.b1⟩
  refine DC l pl g m lo (CA À hi rs last (DT rfl GI Y.li Y.ih (λH3 dx F an hf hc=>?_) (λt H3 ht F hf I=>?_) (λt H3 ht F hf hc I=>?_)))
  .lia
  .have I:H3 t=some (.tup [.int (Oh rs m À last).1,.int (Oh rs m À last).2]):=by unfold Oh;rw[Au hf];exact I
   z_run;intro p4 av;x_fa H4 J ae;z_run;refine CA D p4 _ _ (GS rfl rfl ((F.trans J) _ _ ao) ae (DU (by show _+1<=_;lia)) (λr W=>?_));have aa:=EU (o:=.lst (ys++[.ref t])) (F.trans J) W;exact k r _ _ (G.free ((F.trans J).free W)) (G.trans aa) AA (By (U2 ad aa) ⟨t,rfl,BC W _ _ _ (J _ _ I)⟩)
  .have I:H3 t=some (.tup [.int (Oh rs m À last).1,.int (Oh rs m À last).2]):=by unfold Oh Sf;rw[As hf];exact I
   z_run;intro p4 av;x_fa H4 J ae;z_run;refine CA D p4 _ _ (GS rfl rfl ((F.trans J) _ _ ao) ae (DU (by show _+1<=_;lia)) (λr W=>?_));have aa:=EU (o:=.lst (ys++[.ref t])) (F.trans J) W;exact k r _ _ (G.free ((F.trans J).free W)) (G.trans aa) AA (By (U2 ad aa) ⟨t,rfl,BC W _ _ _ (J _ _ I)⟩)
def MH(p:Br.EW):Nat->List (Option Int)
 | 0=>[some 0]
 | c+1=>IH p (λi=>(MH p c).getD (i-(p.n-c)) none) (p.n-(c+1))::MH p c
theorem de(p:Br.EW):∀c,c<=p.n->(MH p c).length=c+1/\Br.HQ p (λi=>(MH p c).getD (i-(p.n-c)) none) (p.n-c)
 | 0,_=>⟨rfl,Br.HQ.one p⟩
 | c+1,h=>by
   obtain⟨h1,h2⟩:=de p c (by lia);exact⟨C6 (·+ 1) h1,Br.HQ.cons h2 (by lia) h1⟩
def L0(p:Br.EW)(i:Nat):Option Int:=(MH p p.n).getD i none
def df(p:Br.EW):Br.HQ p (L0 p) 0:=by
 have h:=(de p p.n (Aa _)).2;rw[Gc]at h
 exact h
def Wp(h:Br.HQ p f 0)(hi:i<=p.n):f i=L0 p i:=Br.HQ.uniq h (df p) _ i rfl (Bj _) hi
def QM(p:Br.EW)(i e:Nat):Bool:=decide (i<e)&&decide (e<=p.n)&&match Br.lc p i e,L0 p e,L0 p i with
 | some a,some b,some c=>decide (c=a+b)
 | _,_,_=>false
def JJ:QM p i e=true↔Br.HS p (L0 p) i e:=by
 unfold QM Br.HS;rw[Ae,Ae,B6,B6];constructor
 .grind
 lia
def NO(p:Br.EW):Nat->List Nat->Bool
 | i,[]=>decide (i=p.n)
 | i,e::bs=>decide (i<p.n)&&QM p i e&&((List.range (p.n+1)).all λj=>decide (j<=e)||!QM p i j)&&NO p e bs
theorem U3:∀{bs:List Nat}{i:Nat},NO p i bs=true->Br.FH p (L0 p) i bs
 | [],i,h=>by
   have h:i=p.n:=Ag h;subst h;exact .done
 | e::bs,i,h=>by
   have h:(decide (i<p.n)&&QM p i e&&((List.range (p.n+1)).all λj=>decide (j<=e)||!QM p i j)&&NO p e bs)=true:=h;simp only[Ae,B6]at h;obtain⟨⟨⟨h1,h2⟩,W⟩,I⟩:=h;refine .step h1 ⟨JJ.mp h2,λj G=>?_⟩ (U3 I);have J:=Bf.mp W j (C7.mpr (by have:=G.2.1;lia));rcases(Bool.or_eq_true _ _).mp J with F|F
   .exact Ag F
   .rw[JJ.mpr G]at F
    cases F
def dg(ht:Br.HQ p f 0)(h:Br.FH p f i bs):f i≠none:=by
 cases h with
 | done=>rw[ht.last];exact λz=>nomatch z
 | step _ g _ =>
   obtain⟨⟨_,_,x,y,_,_,e⟩,_⟩:=g;rw[e];exact λz=>nomatch z
def rl(c:Nat->Nat->Option Int):Nat->List Nat
 | 0=>[0]
 | j+1=>if (rl c j).any (λi=>(c i (j+1)).isSome)=true then rl c j++[j+1]else rl c j
theorem Wq:∀n j,j<=n->ND c j->j∈rl c n
 | 0,j,h,_=>by rw[Nat.le_zero.mp h];exact Al
 | n+1,j,h,x=>by
   show j∈if (rl c n).any (λi=>(c i (n+1)).isSome)=true then rl c n++[n+1]else rl c n
   by_cases e:j=n+1
   .subst e;cases x with
    | step G F I =>
      rw[Au (Dh.mpr ⟨_,Wq n _ (by lia) G,I⟩)];exact Bg _ (Az.mpr rfl)
   .have:=Wq n j (by lia) x;split
    .exact Cd _ this
    .exact this
theorem U4:∀n j,j∈rl c n->j<=n/\ND c j
 | 0,j,h=>by rw[Az.mp h];exact⟨Aa _,.zero⟩
 | n+1,j,h=>by
   have h:j∈if (rl c n).any (λi=>(c i (n+1)).isSome)=true then rl c n++[n+1]else rl c n:=h
   split at h
   .rename_i F;obtain⟨i,h1,h2⟩:=Dh.mp F;have hi:=U4 n i h1;rcases Cn.mp h with h|h
    .have:=U4 n j h;exact⟨by lia,this.2⟩
    .rw[Az.mp h];exact⟨Aa _,.step hi.2 (by lia) h2⟩
   .have:=U4 n j h;exact⟨by lia,this.2⟩
inductive PO where
 | text
 | brk (m:Nat)
 | rows (bs:List Nat)
abbrev L1:=List Str×(Int×Int)
def dh(rs:List BN)(ws:List Str):Bool:=decide (ws≠[])&&decide (ws.length<=100)&&decide (0<=AZ rs ws)&&decide (AZ rs ws<=10000000)
def Wr(m lo À hi:Int):Bool:=decide (0<=lo)&&decide (lo<=À)&&decide (À<=hi)&&decide (hi<=1000)&&decide (0<=m)&&decide (m<=100000)
def tE(h:Wr m lo À hi=true):Pl m lo À hi:=by
 unfold Wr at h;simp only[Ae,B6]at h;obtain⟨⟨⟨⟨⟨h1,h2⟩,J⟩,G⟩,I⟩,F⟩:=h;exact⟨h1,h2,J,G,I,F⟩
noncomputable def JT (rs:List BN) (m lo À hi:Int) (ws:List Str):PO->Bool
 | .text=>ws.any λx=>!O5 rs x
 | .brk k=>(ws.all λx=>O5 rs x)&&decide (L0 (CW rs ws m lo À hi) 0=none)&&decide (k∈rl (Br.lc (CW rs ws m lo À hi)) (CW rs ws m lo À hi).n)&&(rl (Br.lc (CW rs ws m lo À hi)) (CW rs ws m lo À hi).n).all λj=>decide (j<=k)
 | .rows bs=>(ws.all λx=>O5 rs x)&&(NO (CW rs ws m lo À hi) 0 bs&&decide (0<bs.length))&&(bs.all λb=>decide (b<=ws.length))&&((CU ws 0 bs).all (dh rs)&&((CU ws 0 bs).dropLast.all λl=>decide (Pg m lo hi rs l=0)))&&match (CU ws 0 bs).getLast? with
   | some l=>decide (QI m À rs l)||decide (Pg m lo hi rs l=0)
   | none=>false
def U5(rs:List BN)(m À:Int)(ws:List Str)(bs:List Nat):List L1:=(CU ws 0 bs).zip ((CU ws 0 bs).dropLast.map (Sf rs m)++[Oh rs m À ((CU ws 0 bs).getLast?.getD [])])
def HB(S:Addr->Prop)(H:Hp)(v:V)(x:L1):Prop:=∃t p g,v=.ref t/\H t=some (.tup [.ref p,.ref g])/\S p/\H p=some (.lst (x.1.map V.str))/\H g=some (.tup [.int x.2.1,.int x.2.2])
def di(h:Paired (HB S H) xs ys)(s:AD H H'):Paired (HB S H') xs ys:=Paired.à h λ_ _ ⟨t,p,g,e,I,F,z3,G⟩=>⟨t,p,g,e,s _ _ I,F,s _ _ z3,s _ _ G⟩
theorem dj:∀{G zs ys:List V}{ls:List (List Str)}{F:List (Int×Int)},Paired (Tv H) G (zs.zip ys)->Paired (λv l=>∃p,v=.ref p/\S p/\H p=some (.lst (l.map V.str))) zs ls->Paired (Pm H) ys F->Paired (HB S H) G (ls.zip F)
 | _,_,_,_,_,h,.nil,_=>by
   cases h;exact .nil
 | _,_,_,_,_,h,.cons _ _,.nil=>by
   cases h;exact .nil
 | _,_,_,_,_,h,.cons ⟨p,Y,W,hp⟩ hz,.cons ⟨g,I,hg⟩ hy=>by
   cases h with
   | cons h1 J =>
   obtain⟨t,e,ht⟩:=h1;have ht:H t=some (.tup [_,_]):=ht;rw[Y,I]at ht
   exact .cons ⟨t,p,g,e,ht,W,hp,hg⟩ (dj J hz hy)
abbrev Oi(x:Str):Prop:=AW x/\(reprText x).length<=2000/\x.length<=1000
def tF(K:Frag)(I G:Addr):Sp:=λvs H Q E=>∃(l t g p:Addr) (m lo À hi:Int) (rs:List BN) (ws:List Str) (o:PO),vs=[.ref l,.ref t]/\Cs.JG K H l rs/\H t=some (.tup [.int m,.ref g,.ref p])/\BS K H g [.int lo,.int À,.int hi]/\H p=some (.lst (ws.map V.str))/\ws.length<=63/\(∀x∈ws,Oi x)/\(∀x∈ws,0<=L8 rs x/\L8 rs x<=100000)/\Pl m lo À hi/\JT rs m lo À hi ws o=true /\
 (o=.text->∀H',AD H H'->E (.ref I) none H')/\(∀k,o=.brk k->∀H' dx,AD H H'->H' dx=none->E (.ref G) (some dx) (upd H' dx (.xd [("words",.int (k:Int))]))) /\
 ∀bs,o=.rows bs->∀(D:Addr) (F:List V) H',H D=none->AD H H'->H' D=some (.lst F)->Paired (HB (λb=>H b=none) H') F (U5 rs m À ws bs)->Q (.ref D) H'
def tG(T:Tx K mg a):AG P w K mg base (DG P w) 7 (a.f 59) (a.d 59) ["case","paragraph"] (tF K a.ï a.Ý):=by
 refine T.Ľ.fn.Ő QD (by fin2) (λaU A outer s H vs Q E hr h=>?_);revert h;refine EM λl t g p m=>EM λlo À hi rs ws=>ES λo=>Kf λal hC ht hG hp aA ay=>GH λaJ hg F qt qb q=>?_;subst al;refine⟨_,(AI (HY (pv 1) (FX K rfl (n:=3) rfl (BJ (AO 2 QD.nd) (BJ (AO 3 QD.nd) (BJ (AO 4 QD.nd) FD)))))
  (AI (IR (O8 rfl) rfl (GC K rfl (pv 4)) (AO 5 QD.nd) (AJ (BY (LV (GU (CK T.vY (tj T) hr rfl (AC (pv 0) (AC (pv 5) AE))))) (AJ (Lr T.Ö rfl rfl rfl (AC (P7 AN (Tp (pv 5)) AN) AE))) CH)))
  (AI (BH 6 QD.nd (CK T.ņ (qu T) hr rfl (AC (pv 4) (AC (FM T.Ż (qp T) hr rfl rfl (AC (pv 0) (AC (pv 4) (AC (pv 2) (AC (pv 3) AE))))) AE))))
  (AJ (AY (mR K rfl rfl rfl T.vq rfl T.wz (AC (pv 6) (AC (FM T.we (tD T) hr rfl rfl (AC (pv 0) (AC (pv 6) (AC (pv 2) (AC (pv 3) AE))))) AE)))))))),?_⟩
 z_run;try refine⟨_,_,rfl,BS.of ht,rfl,?_⟩
 x_go;x_go;x_go;z_run;refine⟨⟨_,AH.of hp⟩,?_⟩
 let Izz:zT:=λi σ H1=>∃(v5:Option V),σ=[some (.ref l),some (.ref t),some (.int m),some (.ref g),some (.ref p),v5,none]/\AD H H1/\∀x∈ws.take i,O5 rs x=true
 refine R4 (K:=K) (a:=p) (xs:=ws.map V.str) Izz
  ⟨none,rfl,AD.refl _,λx J=>by rw[Jv]at J;cases J⟩ (by rintro i σ H1 _ ⟨_,_,hs,_⟩;exact hs.seq (AH.of hp)) ?_ ?_
 .refine λi y σ H1 hy=>ES λv5=>FN λag hs Z=>?_;subst ag;rw[Ap]at hy
  refine DQ (Bi.mp hy) λx=>BW λJ ad=>?_;subst ad;refine FN (λa0 aR aI=>?_) (ay x (Af J));z_run;refine EB l x rs (BP rfl (hC.same hs) aI (λH2 ac=>⟨_,rfl,?_⟩));cases aS:O5 rs x with
  | true =>
    refine AK ⟨_,rfl,hs.trans ac,λz hz=>?_⟩;rw[Ao,J]at hz
    grind
  | false =>
    refine AQ ?_;z_run;intro y hy;z_run;intro z;z_run;refine qt ?_ _ (hs.trans ac);cases o with
    | text=>rfl
    | brk k =>
      unfold JT at F
      grind
    | rows bs =>
      unfold JT at F
      grind
 .refine λσ H1=>ES λv5=>FN λag ae Z=>?_;subst ag;rw[A8,Aj (Aa _)]at Z
  have hw:∀x∈ws,x.length<=1000/\∀c∈x.cps.toList,(DW rs (sg c)).isSome=true:=λx J=>⟨(ay x J).2.2,λc hc=>by
   have:=Z x J;unfold O5 at this;exact Bf.mp ((Ae _ _).mp this).2 c hc⟩
  have ah:o≠.text:=λe=>by
   subst e;refine DQ (Dh.mp (F)) λx=>BW λJ h=>?_;rw[Z x J]at h
   cases h
  have ľ:=hg.ľ;have aY:=hg.ih;have aX:=hg.li;have aQ:=hg.xa;have aZ:=hg.m1;have a1:(CW rs ws m lo À hi).n=ws.length:=A8 _;z_run;refine DC l p g rs ws (CA m lo À hi (DT rfl (hC.same ae) (AH.of (ae _ _ hp)) aA hw aJ (DT (Pf ae hG) (by lia) (by lia) hg.m0 (by lia) (λH2 dx k f ac aL I h0 Y=>?_) (λr bs f H2 aV ac aG I W=>?_))))
  .cases o with
   | text=>exact absurd rfl ah
   | brk k' =>
     have hk:k'=k:=by
      unfold JT at F;simp only[Ae,B6]at F;have h1:=U4 _ _ F.1.2;exact Nat.le_antisymm (Y.top k' h1.1 h1.2) (Ag (Bf.mp F.2 k (Wq _ _ Y.le Y.xX)))
     subst hk;exact qb k' rfl H2 dx (ae.trans ac) aL
   | rows bs =>
     exfalso;unfold JT at F;simp only[Ae,B6]at F;rw[Wp I (Bj _)]at h0
     exact dg (df _) (U3 F.1.1.1.2.1) h0
  .cases o with
   | text=>exact absurd rfl ah
   | brk k' =>
     exfalso;unfold JT at F;simp only[Ae,B6]at F;have h0:=F.1.1.2;rw[<-Wp I (Bj _)]at h0
     exact dg I W h0
   | rows aH =>
     unfold JT at F;simp only[Ae,B6]at F;obtain⟨⟨⟨⟨_,aN,aT⟩,an⟩,ar,ap⟩,G⟩:=F;have W:=Br.FH.congr (λi hi=>Wp I hi) W;obtain rfl:bs=aH:=W.uniq (U3 aN);have an:=λe he=>Ag (Bf.mp an e he)
     have af:=ae.trans ac;have aq:bs.length<=63:=by
      have:=W.len
      lia
     z_run;refine CA p r ws bs (DT rfl (AH.of (af _ _ hp)) aG aA aq an (λD zs H3 aW aF aE hz=>?_));have q:=q bs rfl;unfold U5 at q;have az:=S9 ws bs 0;have av:∀x∈CU ws 0 bs,∀y∈x,y∈ws:=λx J y hy=>by
      refine On (cE J) λu v ad=>?_;subst ad
      grind
     generalize CU ws 0 bs=ls at av ar ap G hz q az;cases ak:ls.getLast? with
     | none=>rw[ak]at G;cases G
     | some last =>
     rw[ak]at G q
     obtain⟨am,rfl⟩:=Hu.mp ak;rw[List.dropLast_concat]at ap q
     have q:=q;have aa:=af.trans aF;have aj:=Yr hz;rw[B5]at az aj
     have aK:Paired (Lns.KC D H3) zs (am++[last]):=Paired.à hz λ_ _ ⟨p',e,n,_,z⟩=>⟨p',e,n,z⟩
     z_run;refine⟨l,D,g,m,lo,À,hi,rs,zs,D,am,last,rfl,hC.same aa,aE,aK,by lia,Pf aa hG,hg,λx J=>?_,λx J=>Ag (Bf.mp ap x J),?_,λr2 ys H4 aP ao aD aw=>?_⟩
     .have h1:=Bf.mp ar x J;unfold dh at h1;simp only[Ae,B6]at h1;exact⟨h1.1.1.1,h1.1.1.2,λy hy=>hw y (av x J y hy),h1.1.2,h1.2⟩
     .lia
     .have aB:=B4 aw;rw[B5,A8]at aB
      refine CA D r2 zs ys (GS rfl (AH.of (ao _ _ aE)) (AH.of aD) (by rw[aj,aB];rfl) (by rw[aj];show am.length+1<=_;lia) (λD2 ts H5 ax au aC aO=>?_));have ai:=ao.trans au;exact q D2 ts H5 (aa.free (ao.free ax)) (aa.trans ai) aC (dj aO (Paired.à hz λ_ _ aM=>by obtain⟨p',e,n,h0,z⟩:=aM;exact⟨p',e,af.free h0,ai _ _ z⟩) (U2 aw au))
def JB(x:Str):Bool:=decide (x.length<=1000)&&(x.cps.toList.all λc=>decide (c<128))&&decide ((reprText x).length<=2000)
def NP{x:Str}(h:JB x=true):Oi x:=by
 unfold JB at h;simp only[Ae,B6]at h;obtain⟨⟨h1,h2⟩,F⟩:=h;have e:x.cps.toList.length=x.length:=B0;exact⟨⟨by lia,λc G=>Ag (Bf.mp h2 c G)⟩,F,h1⟩
noncomputable def L3 (rs:List BN):List DA->List PO->Bool
 | [],[]=>true
 | (m,[lo,À,hi],ws)::ps,o::os=>decide (ws.length<=63)&&ws.all JB&&(ws.all λx=>decide (0<=L8 rs x)&&decide (L8 rs x<=100000))&&Wr m lo À hi&&JT rs m lo À hi ws o&&match o with
   | .rows _=>L3 rs ps os
   | _=>os.isEmpty
 | _,_=>false
def tH(h:L3 rs (p::ps) []=true):False:=by
 unfold L3 at h;split at h<;>contradiction
def tI{rs:List BN}{o:PO}{os:List PO}(h:L3 rs [] (o::os)=true):False:=nomatch h
def dk(rs:List BN)(p:DA)(o:PO):List L1:=match p,o with
 | (m,[_,À,_],ws),.rows bs=>U5 rs m À ws bs
 | _,_=>[]
def L4(rs:List BN)(ps:List DA)(os:List PO):List L1:=((ps.zip os).map λx=>dk rs x.1 x.2).flatten
def tJ{rs:List BN}{ps:List DA}{os:List PO}{p:DA}{o:PO}(h:ps.length=os.length):L4 rs (ps++[p]) (os++[o])=L4 rs ps os++dk rs p o:=by
 unfold L4;rw[List.zip_append h,Ai,List.flatten_append];exact C6 (_++·) (Be _)
def dm{D:Addr}(h:Paired (HB S H) xs zs)(hD:H D=some (.lst ys))(J:∀b,S b->b≠D):Paired (HB S (upd H D o)) xs zs :=
 Paired.à h λ_ _ ⟨t,p,g,e,I,F,z3,G⟩=>⟨t,p,g,e,by rw[BE (Kh I hD nofun)];exact I,F,by rw[BE (J p F)];exact z3,by rw[BE (Kh G hD nofun)];exact G⟩
def LB(H:Hp)(l:Addr)(rs:List BN):Prop:=∃xs,H l=some (.lst xs)/\Paired (Cs.HP H) xs rs
def LB.same(h:LB H l rs)(s:AD H H'):LB H' l rs:=let ⟨xs,h1,h2⟩:=h;⟨xs,s _ _ h1,KA h2 s⟩
def LB.at{K:Frag}(h:LB H l rs):Cs.JG K H l rs:=let ⟨xs,h1,h2⟩:=h;⟨xs,AH.of h1,h2⟩
def LB.off{D:Addr}(h:LB H l rs)(s:Jb.AS D H H')(hD:H D=some (.lst ys))(F:l≠D):LB H' l rs:=let ⟨xs,h1,h2⟩:=h;⟨xs,s _ _ F h1,Paired.à h2 λ_ _ ⟨p,e,z⟩=>⟨p,e,s.tup hD z⟩⟩
inductive CO where
 | copy
 | many
 | run (os:List PO)
def LU(x:Str):List DA:=match RP (Ku x)with
 | some F=>(JA F).1
 | none=>[]
noncomputable def LC (rs:List BN) (x:Str) (o:CO):Bool:=decide (x.length<=80000)&&decide ((Ku x).length<=1000)&&((Ku x).all JB)&&match o,RP (Ku x)with
 | .copy,none=>true
 | .many,some F=>decide (F.length<=1000)&&!decide ((JA F).1.length<=60/\N8 (JA F).1<=400)
 | .run os,some F=>decide (F.length<=1000)&&decide ((JA F).1.length<=60/\N8 (JA F).1<=400)&&L3 rs (JA F).1 os
 | _,_=>false
def Oj(a:Ad)(H:Hp)(E:XK)(R:Prop):Option PO->Prop
 | some .text=>∀H',AD H H'->E (.ref a.ï) none H'
 | some (.brk k)=>∀H' dx,AD H H'->H' dx=none->E (.ref a.Ý) (some dx) (upd H' dx (.xd [("words",.int (k:Int))]))
 | _=>R
def Ol(a:Ad)(H:Hp)(rs:List BN)(x:Str)(E:XK)(R:List L1->Prop):CO->Prop
 | .copy=>∀H',AD H H'->E (.ref a.É) none H'
 | .many=>∀H',AD H H'->E (.ref a.Ó) none H'
 | .run os=>Oj a H E (R (L4 rs (LU x) os)) os.getLast?
def tK(K:Frag)(a:Ad):Sp:=λvs H Q E=>∃(l:Addr) (x:Str) (rs:List BN) (o:CO),vs=[.ref l,.str x]/\LB H l rs/\LC rs x o=true/\Ol a H rs x E (λrw=>∀(D:Addr) (F:List V) H',H D=none->AD H H'->H' D=some (.lst F)->Paired (HB (λb=>H b=none/\b≠D) H') F rw->Q (.ref D) H') o
def tL(T:Tx K mg a):AG P w K mg base (DG P w) 19 (a.f 60) (a.d 60) ["case","text"] (tK K a):=by
 have ac:=@rA P w K mg base a T;have Y:=@rZ P w K mg base a T;have I:=@tG P w K mg base a T;refine T.vB.fn.Ő W7 (λvs H Q E h=>?_) (λbf A outer s H vs Q E hr h=>?_)
 .revert h;refine GJ λl x rs o=>BW λJ _=>?_;subst J;rfl
 revert h;refine GJ λl x rs o=>DP λJ hC G hO=>?_;subst J;unfold LC at G;simp only[Ae,B6]at G;obtain⟨⟨⟨bh,bc⟩,aX⟩,G⟩:=G;refine⟨_,(AI (BH 2 W7.nd (BM AE))
  (AI (IR (O8 rfl) rfl (GC K rfl (FM T.ŗ Y hr rfl rfl (AC (FM T.ž ac hr rfl rfl (AC (pv 1) AE)) AE))) (AO 3 W7.nd) (AJ (DR (ER K rfl An Io Iq Xr (pv 2) (AC (FM T.Ľ I hr rfl rfl (AC (pv 0) (AC (pv 3) AE))) AE)))))
  (AJ (AY (pv 2))))),?_⟩
 z_run;intro D hD;have aB:=BC hD (.lst []);have ao:upd H D (.lst []) D=some (.lst []):=AA;generalize upd H D (.lst [])=H1 at aB ao⊢;z_run;refine BQ (λy hy=>(NP (Bf.mp aX y hy)).1) (λjs aN jl xs H2 ah ba aF aI=>?_) (λaW H2 ah=>?_)
 rotate_left
 .rw[aW]at G
  cases o with
  | copy=>exact hO H2 (aB.trans ah)
  | many=>cases G
  | run os=>cases G
 have aK:LU x=(JA js).1:=by unfold LU;rw[aN]
 rw[aN]at G
 have aw:=aB.trans ah;z_run;cases o with
 | copy=>cases G
 | many =>
   simp only[Ae,B6,Ee,F7]at G;refine CA jl _ js xs (GS rfl aF aI G.1 (λhf=>absurd hf G.2) (λ_ H3 al=>hO H3 (aw.trans al)))
 | run os =>
 simp only[Ae,B6]at G;obtain⟨⟨aL,aj⟩,aO⟩:=G;refine CA jl _ js xs (GS rfl aF aI aL (λ_ q H3 aH al aV=>?_) (λaY=>absurd aj aY));obtain⟨vs,hq,af,aZ,aJ,_,aQ⟩:=aV;rw[aZ]at aO aK aj
 have ak:=aw.trans al;have aq:=al _ _ (ah _ _ ao);have aS:l≠D:=λe=>by
  revert hC;refine ES λ_=>BW λh1 _=>?_;rw[e,hD]at h1
  cases h1
 have a4:q≠D:=λe=>by rw[e,ah _ _ ao]at aH;cases aH
 have aM:=B4 aJ;have a0:=aj.1;rw[A8]at a0
 have hO:Oj a H E (∀(D:Addr) (ts:List V) H',H D=none->AD H H'->H' D=some (.lst ts)->Paired (HB (λb=>H b=none/\b≠D) H') ts (L4 rs (LU x) os)->Q (.ref D) H') os.getLast?:=hO;rw[aK]at hO
 refine AX q (BQ rfl ⟨_,AH.of hq⟩ ?_)
 let Izz:zT:=λi σ H4=>∃(v3:Option V) (ts:List V) (ag W:List PO),σ=[some (.ref l),some (.str x),some (.ref D),v3]/\Jb.AS D H3 H4/\H4 D=some (.lst ts)/\os=ag++W/\(∀o∈ag,∃bs,o=.rows bs)/\ag.length=i/\L3 rs ((af.drop i).map (·.1)) W=true/\ts.length<=i*63/\Paired (HB (λb=>H b=none/\b≠D) H4) ts (L4 rs ((af.take i).map (·.1)) ag)
 refine R4 (K:=K) (a:=q) (xs:=vs) Izz
  ⟨none,[],[],os,rfl,.refl _ _,aq,rfl,(λo h=>nomatch h),rfl,aO,Bj _,.nil⟩ (by rintro i σ H4 _ ⟨_,_,_,_,_,hs,_⟩;exact AH.of (hs _ _ a4 hq)) ?_ ?_
 .refine λi v σ H4 hv=>GJ λv3 ts ag W=>Kf λJ ae ad ai az aE Z=>BW λa7 ap=>?_;subst J;obtain⟨⟨⟨m,gs,ws⟩,wa⟩,an,t,g,rfl,ht,hg,aC⟩:=IG aJ hv;have a8:i<af.length:=(B9.mp an).1;obtain⟨au,_⟩:=aQ _ (Af an);have aG:wa≠D:=λe=>by rw[e,ah _ _ ao]at au;cases au
  have a9:af.drop i=((m,gs,ws),wa)::af.drop (i+1):=by rw[Ep a8,(B9.mp an).2]
  rw[a9,Bl]at Z
  cases W with
  | nil=>exact(tH Z).elim
  | cons o2 W =>
  unfold L3 at Z;split at Z
  .contradiction
  rotate_left
  .cases Z
  rename_i m2 lo À hi bd be o3 bg e1 e2;have e1:=Cg e1;obtain⟨rfl,e3⟩:=Ke e1.1;obtain⟨rfl,rfl⟩:=Ke e3;obtain⟨rfl,rfl⟩:=Cg e2;have e1:=e1.2;simp only[Ae,B6]at Z;obtain⟨⟨⟨⟨⟨aU,aT⟩,a3⟩,aR⟩,am⟩,ax⟩:=Z;have hg:BS K H3 g [.int lo,.int À,.int hi]:=hg;have ht:H3 t=some (.tup [.int m,.ref g,.ref wa]):=ht;have aC:H3 wa=some (.lst (ws.map V.str)):=aC;have a6:(af.take (i+1)).map (·.1)=(af.take i).map (·.1)++[(m,[lo,À,hi],ws)]:=by rw[Ao,an,Ai];rfl
  have a':Cs.JG K H4 l rs:=((hC.same ak).off ae aq aS).at
  have ay:∀{H':Hp},AD H4 H'->AD H H':=λ{H'} hs b u e=>hs b u (ae b u (λz=>by rw[z,hD]at e;cases e) (ak _ _ e))
  z_run;refine⟨.inl ⟨rfl,_,AH.of ad⟩,?_⟩;z_run;refine⟨l,t,g,wa,m,lo,À,hi,rs,ws,o2,rfl,a',ae.tup aq ht,ae.wM aq hg,ae _ _ aG aC,aU,λy hy=>NP (Bf.mp aT y hy),λy hy=>?_,tE aR,am,λe H5 aa=>?_,λk e H5 dx aa a2=>?_,λbs e D2 aD H5 av aa aP ar=>?_⟩
  .have:=Bf.mp a3 y hy;simp only[Ae,B6]at this;exact this
  .subst e;have e:W=[]:=E3.mp ax;subst e;rw[ai,Jw]at hO
   exact hO H5 (ay aa)
  .subst e;have e:W=[]:=E3.mp ax;subst e;rw[ai,Jw]at hO
   exact hO H5 dx (ay aa) a2
  .subst e;have ŏ:aD.length<=63:=by
    have:=B4 ar;rw[this];unfold U5;rw[Jl,S9];unfold JT at am;simp only[Ae]at am;have:=(U3 am.1.1.1.2.1).len;rw[show(CW rs ws m lo À hi).n=ws.length from A8 _]at this
    lia
   refine CA D D2 ts aD (GS rfl rfl (aa _ _ ad) aP (DU (by lia)) ?_);have bb:D2≠D:=λe=>by rw[e,ad]at av;cases av
   have a1:∀b,H4 b=none->H b=none/\b≠D:=λb hb=>⟨(ay (AD.refl _)).free hb,λz=>by rw[z,ad]at hb;cases hb⟩
   refine CA _ (ts++aD) (ag++[.rows bs]) W (DT rfl ((ae.trans (.of aa)).upd) AA (by rw[ai,C4];rfl) (λo ho=>?_) ?_ (BQ ?_ ?_ ?_))
   .rcases Cn.mp ho with h|h
    .exact az o h
    .exact⟨bs,Az.mp h⟩
   .rw[B5,aE];rfl
   .rw[e1];exact ax
   .rw[B5]
    lia
   .rw[a6,tJ (by rw[A8,Bb,aE];lia)];exact Lns.T8 (dm (di ap aa) (aa _ _ ad) λb hb=>hb.2) (dm (Paired.à ar λ_ _ a5=>by obtain⟨t,p,g,e,z1,z2,z3,z4⟩:=a5;exact⟨t,p,g,e,z1,a1 p z2,z3,z4⟩) (aa _ _ ad) λb hb=>hb.2)
 .refine λσ H4=>GJ λv3 ts ag W=>Kf λJ ae ad ai az aE Z=>BW λa7 ap=>?_;subst J;rw[aM,Fj (Aa _)]at Z
  rw[aM,Aj (Aa _)]at ap
  cases W with
  | cons o2 W=>exact(tI Z).elim
  | nil =>
  rw[Be]at ai
  subst ai;z_run;have xl:∀(D:Addr) (ts:List V) H',H D=none->AD H H'->H' D=some (.lst ts)->Paired (HB (λb=>H b=none/\b≠D) H') ts (L4 rs (af.map (·.1)) os)->Q (.ref D) H':=by
   cases aA:os.getLast? with
   | none=>rw[aA]at hO;exact hO
   | some o =>
     obtain⟨bs,rfl⟩:=az o (List.mem_of_getLast? aA);rw[aA]at hO
     exact hO
  exact xl D ts H4 hD (λb u e=>ae b u (λz=>by rw[z,hD]at e;cases e) (ak _ _ e)) ad ap
structure Dk where
 rs:List BN
 cast:Int
 comp:List L1
 keys:Str
 m:Ms
structure Da where
 l:Addr
 q:Addr
 pm:Addr
 A:Mc.DS
abbrev Dk.cf(d:Dk):Cf:=⟨d.rs,d.keys,d.cast⟩
abbrev ID(a:Ad)(H:Hp)(p:Addr)(vs:List (Option V)):Prop:=IJ a.į LR H p vs
structure Na(a:Ad)(H0 H:Hp)(p:Addr)(D:Da)(d:Dk):Prop where
 case:LB H D.l d.rs
 comp:∃ts,H D.q=some (.lst ts)/\Paired (HB (λb=>b∉D.A.all) H) ts d.comp
 Ř:MA a d.cf H D.pm D.A d.m
 x9:D.pm≠p
 lA:D.l∉D.A.all
 qA:D.q∉D.A.all
 ok:Mc.Ok d.cf d.m
 sm:AD H0 H
 np:H0 p=none
 nm:H0 D.pm=none
 nA:∀b∈D.A.all,H0 b=none
def tM(D:Da)(d:Dk):List (Option V):=[some (.ref D.l),some (.int d.cast),some (.ref D.q),some (.ref D.pm)]
structure CF(a:Ad)(H0 H:Hp)(p:Addr)(D:Da)(d:Dk):Prop where
 ins:ID a H p (tM D d)
 b:Na a H0 H p D d
def dq(h:Paired (HB S H) xs ys)(G:∀b z,H b=some (.tup z)->H' b=some (.tup z))(I:∀b z,S b->H b=some (.lst z)->H' b=some (.lst z)/\S2 b):Paired (HB S2 H') xs ys :=
 Paired.à h λ_ _ ⟨t,p,g,e,W,F,z3,J⟩=>⟨t,p,g,e,G _ _ W,(I _ _ F z3).2,(I _ _ F z3).1,G _ _ J⟩
def LB.keep(h:LB H l rs)(F:∀b z,H b=some (.tup z)->H' b=some (.tup z))(G:∀z,H l=some (.lst z)->H' l=some (.lst z)):LB H' l rs:=let ⟨xs,h1,h2⟩:=h;⟨xs,G _ h1,Paired.à h2 λ_ _ ⟨p,e,z⟩=>⟨p,e,F _ _ z⟩⟩
def Na.same{a:Ad}{D:Da}(M:Na a H0 H p D d)(s:AD H H'):Na a H0 H' p D d :=
 ⟨M.case.same s,let ⟨ts,h1,h2⟩:=M.comp;⟨ts,s _ _ h1,di h2 s⟩,M.Ř.same s,M.x9,M.lA,M.qA,M.ok,M.sm.trans s,M.np,M.nm,M.nA⟩
def CF.same{a:Ad}{D:Da}(M:CF a H0 H p D d)(s:AD H H'):CF a H0 H' p D d:=⟨M.ins.same s,M.b.same s⟩
def Na.off{a:Ad}{D:Da}(M:Na a H0 H p D d)(i:IJ C ns H p vs)(k:∀b,b≠p->H' b=H b):Na a H0 H' p D d:=by
 obtain⟨dx,fs,e,f⟩:=i;have J:∀b z,H b=some (.tup z)->H' b=some (.tup z):=λb z h=>(k b λw=>by rw[w,e]at h;cases h).trans h
 have I:∀b z,H b=some (.lst z)->H' b=some (.lst z):=λb z h=>(k b λw=>by rw[w,e]at h;cases h).trans h
 refine⟨M.case.keep J λz h=>I _ z h,?_,⟨?_,M.Ř.nd,M.Ř.li.keep (Mc.BU.fld e k) λb hb=>?_⟩,M.x9,M.lA,M.qA,M.ok,λb u h=>?_,M.np,M.nm,M.nA⟩
 .obtain⟨Z,h1,h2⟩:=M.comp;exact⟨Z,I _ _ h1,dq h2 J λb z s h=>⟨I b z h,s⟩⟩
 .obtain⟨G,F,W,Y⟩:=M.Ř.ins;exact⟨G,F,(k _ M.x9).trans W,Y⟩
 .obtain⟨xs,h⟩:=M.Ř.li.is b hb;exact λw=>by rw[w,e]at h;cases h
 .exact(k b λw=>by rw[w,M.np]at h;cases h).trans (M.sm b u h)
def CF.step{a:Ad}{D:Da}(M:CF a H0 H p D d)(s:Mc.AU D.pm D.A H A' H')(W:MA a d.cf H' D.pm A' m')(ok:Mc.Ok d.cf m'):CF a H0 H' p { D with A:=A' } { d with m:=m' }:=by
 obtain⟨⟨dx,fs,e,f⟩,B⟩:=M;have G:p∉D.A.all:=λhb=>by
  obtain⟨xs,h⟩:=B.Ř.li.is p hb;rw[e]at h
  cases h
 have I:=λb z h=>s.fr b _ h (.inr ⟨z,rfl⟩)
 have F:∀b z,b∉D.A.all->H b=some (.lst z)->H' b=some (.lst z)/\b∉A'.all:=λb z hb h=>⟨s.fr b _ h (.inl ⟨RK B.Ř.ins h,hb⟩),λw=>by
  rcases s.nw b w with w|w
  .exact hb w
  .rw[h]at w
   cases w⟩
 obtain⟨Z,J,_⟩:=B.case;obtain⟨Y,h1,h2⟩:=B.comp;refine⟨⟨dx,fs,s.fr p _ e (.inl ⟨B.x9.symm,G⟩),f⟩,B.case.keep I λz h=>(F _ z B.lA h).1,⟨Y,(F _ _ B.qA h1).1,dq h2 I F⟩,W,B.x9,(F _ _ B.lA J).2,(F _ _ B.qA h1).2,ok,λb u h=>?_,B.np,B.nm,λb hb=>?_⟩
 .exact s.fr b u (B.sm b u h) (.inl ⟨λw=>(by rw[w,B.nm]at h;cases h),λw=>by rw[B.nA b w]at h;cases h⟩)
 .rcases s.nw b hb with w|w
  .exact B.nA b w
  .exact B.sm.free w
def Po(d:Dk):List (List Str):=d.comp.map λx=>x.1
def L5(d:Dk):Str:=HU (Po d)
def tN(a:Ad):Sp:=λvs H Q _=>∃(p:Addr) (H0:Hp) (D:Da) (d:Dk),vs=[.ref p]/\CF a H0 H p D d/\Qi (Po d)/\∀H',AD H H'->Q (.str (L5 d)) H'
def Ws(T:Tx K mg a):AG P w K mg base BL 2 (a.ħ 0) (a.Ī 0) ["self"] (tN a):=by
 refine T.ô.fn.ok oM (by fin2) (λag A outer s H vs Q E hr h=>?_);obtain⟨p,H0,D,d,rfl,M,hf,q⟩:=h;have I:=M.ins;obtain⟨ts,hq,aa⟩:=M.b.comp;have Z:=hf.1;unfold Po at Z;rw[A8]at Z
 refine⟨_,(AJ (AY (CK T.wb (qz T) hr rfl (AC (DO ["self","line","gap"] [] 2 (GC K rfl (BB (K:=K) rfl T.Ù.cl T.Þ QG (pv 0))) (FX K rfl (n:=2) rfl (BJ (BD 1) (BJ (BD 2) FD))) HH (pv 1)) AE)))),?_⟩;walk;refine⟨⟨_,AH.of hq⟩,λD2 F=>?_⟩;refine IX (a:=D.q) (xs:=ts) (λi ys σ H2=>∃(v1 v2:Option V),σ=[some (.ref p),v1,v2]/\AD H H2/\H2 D2=some (.lst ys)/\Paired (Lns.KC D2 H2) ys ((d.comp.take i).map λx=>x.1))
  ?_ ?_ ?_ ?_
 .exact⟨none,none,rfl,BC F _,AA,.nil⟩
 .rintro i ys σ H2 hi ⟨v1,v2,_,G,_⟩;exact G.seq (AH.of hq)
 .rintro i x ys σ H2 hx af ⟨v1,v2,rfl,G,hh,Y⟩;obtain⟨r,ae,t,pl,g,rfl,ht,_,W,_⟩:=IG aa hx;have ad:=B4 Y;rw[A8,Bb]at ad
  have J:=FB W F;refine⟨_,_,rfl,BS.of (G _ _ ht),rfl,?_⟩;x_go;x_go;try refine And.intro rfl ?_
  walk;refine FW af hh (by lia) ⟨_,_,rfl,EH G F,AA,?_⟩;rw[Ao,ae,Ai];exact By (Yk Y) ⟨pl,rfl,J,by rw[BE J];exact G _ _ W⟩
 .rintro ys σ H2 ⟨v1,v2,rfl,G,hh,Y⟩;rw[B4 aa,Aj (Aa _)]at Y
  walk;exact⟨D2,D2,ys,Po d,rfl,AH.of hh,Y,hf,λH3 ac=>q H3 (G.trans ac)⟩
theorem dr:∀{os:List Int}{ps:List (Int×Int)},(∀o∈os,o<=1000)->(∀x∈ps,0<=x.1/\x.1<=1000)->∀x∈JW d os ps,0<=x.1/\x.1<=1000
 | [],ps,_,F=>by
   cases ps<;>exact F
 | _::_,[],_,F=>F
 | o::os,y::ps,I,F=>λx G=>by
   have h1:=F y Al;have h2:=I o Al;rcases Aw.mp (show x∈N4 d o y::JW d os ps from G)with rfl|G
   .unfold N4;split
    .exact⟨by show 0<=o;lia,h2⟩
    .exact h1
   .exact dr (λo h=>I o (Ah _ h)) (λx h=>F x (Ah _ h)) x G
theorem du:∀{rs:List BN}{ls:List (List Mc.Mx)},(∀r∈rs,r.n<=1000)->∀o∈GO rs ls,o<=1000
 | [],_,_,o,h=>by cases h
 | _::_,[],_,o,h=>by cases h
 | r::rs,l::ls,F,o,h=>by
   have h1:=F r Al;rcases Aw.mp (show o∈(r.n-((l.length:Nat):Int))::GO rs ls from h)with rfl|h
   .lia
   .exact du (λr h=>F r (Ah _ h)) o h
def dv(F:∀r∈c.rs,r.n<=1000){qs:List (Int×Int)}(h:Mc.Pk c m ps qs):(∀x∈ps,0<=x.1/\x.1<=1000)->(∀x∈qs,0<=x.1/\x.1<=1000)/\qs.length=ps.length:=by
 induction h with
 | stop _=>exact λh=>⟨h,rfl⟩
 | go _ _ ih =>
   intro h;have h1:=ih (dr (du F) h);exact⟨h1.1,by rw[h1.2,VH]⟩
def dw{i:Int}(h:i.natAbs<100000):(Str.ofString (toString i)).length<=2000:=by
 have G:i.natAbs.log2<1920:=by
  by_cases F:i.natAbs=0
  .rw[F];decide
  .exact Gb ((Js F).mpr (Gb h (show 100000<2^140 by decide))) (by decide)
 have e:=Gu (k:=1920) (by decide) G;rw[Fq]
 lia
def dy(d:Dk):List Str:=d.comp.map λx=>L9 x.1
def dz(d:Dk):List Str:=d.comp.map λx=>MG x.2
def Wt(qs:List (Int×Int)):Str:=Txt.join " " (qs.map λx=>Str.ofString (toString x.1))
abbrev Dk.ff(d:Dk):Cf:=⟨CG d.rs (L5 d),L5 d,d.cast⟩
structure DK(d:Dk):Prop where
 fit:Qi (Po d)
 gp:∀x∈d.comp,x.2.1.natAbs<=10^40/\x.2.2.natAbs<=10^40
 ő:d.rs.length<=30
 sgn:∀r∈d.rs,∃c∈FG,r.s=sg c
 fo:Mc.Ok d.ff (Mc.start d.ff.rs)
 fk:Ld d.ff.rs false (L5 d).cps.toList=true
 fn:∀r∈d.ff.rs,0<=r.n/\r.n<=1000
def Pp(d:Dk)(w:Str)(xs:List Str):Prop:=(w="lines"->xs=dy d)/\(w="gaps"->xs=dz d)/\(w="keys"->xs=[L5 d])/\(w="need"->∃qs,Mc.Pk d.ff (Mc.start d.ff.rs) (Mz d.rs.length) qs/\xs=[Wt qs])
def tO(a:Ad):Sp:=λvs H Q _=>∃(p:Addr) (H0:Hp) (D:Da) (d:Dk) (x:Str),vs=[.ref p,.str x]/\CF a H0 H p D d/\DK d/\x∈JS/\∀r xs H',H r=none->AD H H'->H' r=some (.lst (xs.map V.str))->Pp d x xs->Q (.ref r) H'
def tP(h:xs=dy d):Pp d "lines" xs:=⟨λ_=>h,λe=>absurd e (by decide),λe=>absurd e (by decide),λe=>absurd e (by decide)⟩
def tQ(h:xs=dz d):Pp d "gaps" xs:=⟨λe=>absurd e (by decide),λ_=>h,λe=>absurd e (by decide),λe=>absurd e (by decide)⟩
def tR(h:xs=[L5 d]):Pp d "keys" xs:=⟨λe=>absurd e (by decide),λe=>absurd e (by decide),λ_=>h,λe=>absurd e (by decide)⟩
def tS{qs:List (Int×Int)}(F:Mc.Pk d.ff (Mc.start d.ff.rs) (Mz d.rs.length) qs)(h:xs=[Wt qs]):Pp d "need" xs:=⟨λe=>absurd e (by decide),λe=>absurd e (by decide),λe=>absurd e (by decide),λ_=>⟨qs,F,h⟩⟩
def tT(T:Tx K mg a):AG P w K mg base BL 8 (a.ħ 3) (a.Ī 3) ["self","word"] (tO a):=by
 refine T.İ.fn.ok oP (by fin2) (λaq A outer s H vs Q E hr h=>?_);obtain⟨p,H0,D,d,x,rfl,M,O,hx,q⟩:=h;have I:=M.ins;obtain⟨ts,hq,af⟩:=M.b.comp;have ai:=B4 af;have aa:=O.fit;have ag:=aa.1;unfold Po at ag;rw[A8]at ag
 have ev:∀y:Str,decide (V.str x=V.str y)=decide (x=y):=λy=>EV
 refine⟨_,(AI (BY (BX EI (pv 1) AN (BF _)) (AJ (AY (DO ["self","word","line","gap"] [] 2 (GC K rfl (BB (K:=K) rfl T.Ù.cl T.Þ QG (pv 0))) (FX K rfl (n:=2) rfl (BJ (BD 2) (BJ (BD 3) FD))) HH (ER K rfl Bu D0 D3 (Qb K rfl) AN (AC (pv 2) AE))))) CH)
  (AI (BY (BX EI (pv 1) AN (BF _)) (AJ (AY (DO ["self","word","line","gap"] [] 2 (GC K rfl (BB (K:=K) rfl T.Ù.cl T.Þ QG (pv 0))) (FX K rfl (n:=2) rfl (BJ (BD 2) (BJ (BD 3) FD))) HH (CK T.ź (sW T) hr rfl (AC (pv 3) AE))))) CH)
  (AI (BY (BX EI (pv 1) AN (BF _)) (AJ (AY (BM (AC (IC (K:=K) rfl T.Ù.cl T.ô (Ws T) hr Wg (pv 0)) AE)))) CH)
  (AJ (AY (BM (AC (ER K rfl Bu D0 D3 (Qb K rfl) AN (AC (DO ["self","word","many"] [] 1 (GC K rfl (CK T.vW (sP T) hr rfl (AC (BB (K:=K) rfl T.Ù.cl T.ÿ S7 (pv 0)) (AC (IC (K:=K) rfl T.Ù.cl T.ô (Ws T) hr Wg (pv 0)) (AC (BB (K:=K) rfl T.Ù.cl T.Ċ Wf (pv 0)) AE))))) (BD 2) HH (Ky Qp rfl T.vg Q2 (AC (pv 2) AE))) AE)) AE))))))),?_⟩
 walk;rw[ev];refine å (λh1=>?_) (λh1=>?_)
 .obtain rfl:=Ag h1;walk;refine⟨⟨_,AH.of hq⟩,λD2 J=>?_⟩;refine IX (a:=D.q) (xs:=ts) (λi ys σ H2=>∃(Z v2:Option V),σ=[some (.ref p),some (.str "lines"),Z,v2]/\AD H H2/\H2 D2=some (.lst ys)/\ys=((d.comp.take i).map λx=>L9 x.1).map V.str)
   ?_ ?_ ?_ ?_
  .exact⟨none,none,rfl,BC J _,AA,rfl⟩
  .rintro i ys σ H2 hi ⟨Z,v2,_,W,_⟩;exact W.seq (AH.of hq)
  .rintro i x ys σ H2 hx ac ⟨Z,v2,rfl,W,hh,rfl⟩;obtain⟨r,G,t,pl,g,rfl,ht,_,am,_⟩:=IG af hx;obtain⟨Ŝ,ŏ⟩:=aa.2 r.1 (Cq.mpr ⟨r,Af G,rfl⟩);refine⟨_,_,rfl,BS.of (W _ _ ht),rfl,?_⟩;x_go;x_go;try refine And.intro rfl ?_
   walk;refine⟨_,pl,r.1,rfl,rfl,AH.of (W _ _ am),Yn Ŝ ŏ,FW ac hh (by rw[A8,A8,Bb];lia) ⟨_,_,rfl,EH W J,AA,?_⟩⟩;rw[Ao,G,Ai,Ai];rfl
  .rintro ys σ H2 ⟨Z,v2,rfl,W,hh,rfl⟩;rw[ai,Aj (Aa _)]at hh
   exact q D2 _ H2 J W hh (tP rfl)
 have h1:=λe=>h1 (Ac e)
 walk;rw[ev];refine å (λh2=>?_) (λh2=>?_)
 .obtain rfl:=Ag h2;walk;refine⟨⟨_,AH.of hq⟩,λD2 J=>?_⟩;refine IX (a:=D.q) (xs:=ts) (λi ys σ H2=>∃(Z v2:Option V),σ=[some (.ref p),some (.str "gaps"),Z,v2]/\AD H H2/\H2 D2=some (.lst ys)/\ys=((d.comp.take i).map λx=>MG x.2).map V.str)
   ?_ ?_ ?_ ?_
  .exact⟨none,none,rfl,BC J _,AA,rfl⟩
  .rintro i ys σ H2 hi ⟨Z,v2,_,W,_⟩;exact W.seq (AH.of hq)
  .rintro i x ys σ H2 hx ac ⟨Z,v2,rfl,W,hh,rfl⟩;obtain⟨r,G,t,pl,g,rfl,ht,_,_,hg⟩:=IG af hx;obtain⟨Ŝ,ŏ⟩:=O.gp r (Af G);refine⟨_,_,rfl,BS.of (W _ _ ht),rfl,?_⟩;x_go;x_go;try refine And.intro rfl ?_
   walk;refine⟨g,r.2,rfl,W _ _ hg,Ŝ,ŏ,FW ac hh (by rw[A8,A8,Bb];lia) ⟨_,_,rfl,EH W J,AA,?_⟩⟩;rw[Ao,G,Ai,Ai];rfl
  .rintro ys σ H2 ⟨Z,v2,rfl,W,hh,rfl⟩;rw[ai,Aj (Aa _)]at hh
   exact q D2 _ H2 J W hh (tQ rfl)
 have h2:=λe=>h2 (Ac e)
 walk;rw[ev];refine å (λh3=>?_) (λh3=>?_)
 .obtain rfl:=Ag h3;walk;refine⟨p,H0,D,d,rfl,M,aa,λH2 Y=>?_⟩;walk;intro r G;exact q r [L5 d] _ (Y.free G) (EU Y G) AA (tR rfl)
 have h3:=λe=>h3 (Ac e)
 have hx:x="need":=by
  simp only[JS,Aw,Bt,Ew]at hx
  lia
 subst hx;clear h1 h2 h3;obtain⟨cx,c1,c2⟩:=M.b.case;walk;refine⟨p,H0,D,d,rfl,M,aa,λH2 Y=>?_⟩;have I2:=(M.same Y).ins;walk;refine⟨D.l,L5 d,d.cast,cx,d.rs,rfl,Y _ _ c1,KA c2 Y,O.ő,O.sgn,O.fo,O.fk,O.fn,λn qs H3 ap ak ad aj=>?_⟩;obtain⟨ah,an⟩:=dv (λr hr=>(O.fn r hr).2) aj (λx hx=>by rw[Ex hx];decide);rw[show(Mz d.rs.length).length=d.rs.length from Ck]at an
 have ao:=O.ő;have ad:=ad;refine⟨n,rfl,⟨_,AH.of ad⟩,λD2 J=>?_⟩;refine IX (a:=n) (xs:=(qs.map λx=>x.1).map V.int) (λi ys σ H4=>∃(Z:Option V),σ=[some (.ref p),some (.str "need"),Z]/\AD H3 H4/\H4 D2=some (.lst ys)/\ys=((qs.take i).map λx=>Str.ofString (toString x.1)).map V.str)
  ?_ ?_ ?_ ?_
 .exact⟨none,rfl,BC J _,AA,rfl⟩
 .rintro i ys σ H4 hi ⟨Z,_,W,_⟩;exact W.seq (AH.of ad)
 .rintro i x ys σ H4 hx ac ⟨Z,rfl,W,hh,rfl⟩;rw[Ap,Ap]at hx
  obtain⟨z,hz,rfl⟩:=Bi.mp hx;obtain⟨y,hy,rfl⟩:=Bi.mp hz;have hb:=ah y (Af hy);walk;refine FW ac hh (by rw[A8,A8,Bb];lia) ⟨_,rfl,EH W J,AA,?_⟩;rw[Ao,hy,Ai,Ai];rfl
 .rintro ys σ H4 ⟨Z,rfl,W,hh,rfl⟩;rw[A8,A8,Aj (Aa _)]at hh
  have ae:=(Y.trans ak).trans W;have al:(((qs.map λx=>Str.ofString (toString x.1)).map (·.length)).sum+(qs.map λx=>Str.ofString (toString x.1)).length*(" ":Str).length)<=16777216:=by
   have a:=T4 (λx:Str=>x.length) 2000 (qs.map λx=>Str.ofString (toString x.1)) λy hy=>by
    obtain⟨z,hz,rfl⟩:=Cq.mp hy;have:=ah z hz;exact dw (by lia)
   have e:(" ":Str).length=1:=by decide
   grind
  refine⟨_,D2,_,rfl,rfl,AH.of hh,al,?_⟩;walk;intro r G;exact q r [Wt qs] _ (ae.free G) (EU ae G) AA (tS aj rfl)
abbrev DF(i:Int):Str:=Str.ofString (toString i)
def tU(a:Ad):Sp:=λvs H Q E=>∃(p:Addr) (H0:Hp) (D:Da) (d:Dk) (x:Str) (o:CO),vs=[.ref p,.str x]/\CF a H0 H p D d/\LC d.rs x o=true/\Ol a H d.rs x E (λrw=>rw.length<=1000/\∀r F H',H r=none->CF a H0 H' p F { d with comp:=rw }->H' r=some (.lst [.str (DF (rw.length:Int))])->Q (.ref r) H') o
def tV{a:Ad}(h:Ol a H rs x E R o)(i:∀rw,R rw->R' rw):Ol a H rs x E R' o:=by
 cases o with
 | copy=>exact h
 | many=>exact h
 | run os =>
   have h:Oj a H E (R (L4 rs (LU x) os)) os.getLast?:=h;show Oj a H E (R' (L4 rs (LU x) os)) os.getLast?;generalize os.getLast?=z at h⊢;cases z with
   | none=>exact i _ h
   | some o=>cases o<;>first|exact h|exact i _ h
def tW(T:Tx K mg a):AG P w K mg base (DG P w) 20 (a.ħ 2) (a.Ī 2) ["self","text"] (tU a):=by
 refine T.Į.fn.Ő oN (by fin2) (λai A outer s H vs Q E hr h=>?_);revert h;refine EM λp H0 D d x=>ES λo=>DP λY M ac hO=>?_;subst Y;have I:=M.ins;refine⟨_,(AI (GX (K:=K) rfl T.Ù.cl T.Þ QG (pv 0) (FM T.vB (tL T) hr rfl rfl (AC (BB (K:=K) rfl T.Ù.cl T.ÿ S7 (pv 0)) (AC (pv 1) AE))))
  (AJ (AY (BM (AC (Ky Qp rfl T.vg Q2 (AC (CS (GA K rfl) rfl T.Ò ET (AC (BB (K:=K) rfl T.Ù.cl T.Þ QG (pv 0)) AE)) AE)) AE))))),?_⟩
 walk;refine CA D.l x d.rs o (BP rfl M.b.case ac (tV hO λrw hq Z ts H2 W G ad ag=>?_));obtain⟨aj,hq⟩:=hq;have I2:=I.same G;have F:=M.b.same G;walk;refine λH3 I3 k3=>?_;have hA:∀b,H b=none->b∉D.A.all:=λb hb=>M.b.Ř.new hb
 have B3:Na a H0 H2 p { D with q:=Z } { d with comp:=rw }:=⟨F.case,⟨ts,ad,Paired.à ag λ_ _ ah=>by obtain⟨t,p,g,e,z1,z2,z3,z4⟩:=ah;exact⟨t,p,g,e,z1,hA p z2.1,z3,z4⟩⟩,F.Ř,F.x9,F.lA,hA Z W,F.ok,F.sm,F.np,F.nm,F.nA⟩
 have M3:CF a H0 H3 p { D with q:=Z } { d with comp:=rw }:=⟨I3,B3.off I2 k3⟩
 refine DQ M3.b.comp λae=>BW λJ af=>?_;have J:=J;have xh:=B4 af;have xh:ae.length=rw.length:=xh;walk;refine BK Z _ (BQ rfl (.inl (AH.of J)) ?_);rw[xh];walk;intro r aa;exact hq r { D with q:=Z } _ (G.free ((Mc.CD.Â k3).free I3 aa)) (M3.same (BC aa _)) AA
structure Li(d:Dk):Prop where
 fit:Qi (Po d)
 ok:Mc.Ok ⟨d.rs,L5 d,d.cast⟩ (Mc.start d.rs)
 kf:Ld d.rs false (L5 d).cps.toList=true
 rn:∀r∈d.rs,0<=r.n/\r.n<=1000
def dA(d:Dk)(w:Str)(xs:List Str):Prop:=(w="slugs"->xs=d.m.texts)/\(w="state"->xs=[Pj d.cf d.m])/\(w="waited"->xs=[DF d.m.Á])
inductive HC (a:Ad) (H0 H:Hp) (p:Addr) (d:Dk) (x:Str) (Q:VK):Prop
 | start (h:x="start") (ok:Li d) (q:∀r D' H',H r=none->CF a H0 H' p D' { d with keys:=L5 d,m:=Mc.start d.rs }->H' r=some (.lst [])->Q (.ref r) H')
 | run (h:x="run") (b:((Mc.fin d.cf d.m).done-d.m.done).natAbs<100000) (q:∀r D' H',H r=none->CF a H0 H' p D' { d with m:=Mc.fin d.cf d.m }->H' r=some (.lst [.str (DF ((Mc.fin d.cf d.m).done-d.m.done))])->Q (.ref r) H')
 | tell (h:x="slugs"\/x="state"\/x="waited") (b:d.m.Á.natAbs<100000) (q:∀r xs H',H r=none->AD H H'->H' r=some (.lst (xs.map V.str))->dA d x xs->Q (.ref r) H')
def tX(a:Ad):Sp:=λvs H Q _=>∃(p:Addr) (H0:Hp) (D:Da) (d:Dk) (x:Str),vs=[.ref p,.str x]/\CF a H0 H p D d/\HC a H0 H p d x Q
def tY(T:Tx K mg a):AG P w K mg base BL 6 (a.ħ 4) (a.Ī 4) ["self","word"] (tX a):=by
 refine T.vf.fn.ok oR (by fin2) (λak A outer s H vs Q E hr h=>?_);revert h;refine EM λp H0 D d x=>FN λae M hI=>?_;subst ae;have I:=M.ins;have J:=M.b.Ř.ins;have ev:∀x y:Str,decide (V.str x=V.str y)=decide (x=y):=λx y=>EV
 refine⟨_,(AI (BY (BX EI (pv 1) AN (BF _)) (AI (GX (K:=K) rfl T.Ù.cl T.Ú Pe (pv 0) (Vr T.Machine (Wo T) hr rfl (AC (BB (K:=K) rfl T.Ù.cl T.ÿ S7 (pv 0)) (AC (IC (K:=K) rfl T.Ù.cl T.ô (Ws T) hr Wg (pv 0)) (AC (BB (K:=K) rfl T.Ù.cl T.Ċ Wf (pv 0)) AE)))))
  (AJ (AY (BM AE)))) CH)
  (AI (BY (BX EI (pv 1) AN (BF _)) (AJ (AY (BM (AC (Ky Qp rfl T.vg Q2 (AC (IC (K:=K) rfl T.Machine.cl T.ś (sv T) hr oy (BB (K:=K) rfl T.Ù.cl T.Ú Pe (pv 0))) AE)) AE)))) CH)
  (AI (BY (BX EI (pv 1) AN (BF _)) (AJ (AY (IC (K:=K) rfl T.Machine.cl T.Ļ (sA T) hr oF (BB (K:=K) rfl T.Ù.cl T.Ú Pe (pv 0))))) CH)
  (AI (BY (BX EI (pv 1) AN (BF _)) (AJ (AY (BM (AC (CK T.vM (sY T) hr rfl (AC (BB (K:=K) rfl T.Ù.cl T.Ú Pe (pv 0)) AE)) AE)))) CH)
  (AJ (AY (BM (AC (Ky Qp rfl T.vg Q2 (AC (IC (K:=K) rfl T.Machine.cl T.Ĳ (sy T) hr oH (BB (K:=K) rfl T.Ù.cl T.Ú Pe (pv 0))) AE)) AE)))))))),?_⟩
 walk;cases hI with
 | start h O q =>
   subst h;rw[ev,show decide (("start":Str)="start")=true by decide];refine AQ ?_;walk;refine CA p H0 D d (BP rfl M O.fit (λH1 G=>?_));have M1:=M.same G;have I1:=M1.ins;refine DQ M1.b.case λcx=>BW λc1 c2=>?_;walk;refine λp0 ai Z W aj=>⟨p0,D.l,ai,⟨d.rs,L5 d,d.cast⟩,cx,rfl,AA,?_,?_,O.ok.cf,O.kf,O.rn,λA0 H7 M0 ad wL=>⟨rfl,?_⟩⟩
   .rw[BE (FB c1 Z),BE (FB c1 W)];exact c1
   .exact KA c2 λb u hb=>by rw[BE (FB hb Z),BE (FB hb W)];exact hb
   have Y:=Tj Z W ad;have ac:=λb hb=>VG Z W (wL b hb)
   have M7:=M1.same Y;have I7:=M7.ins;have aa:∀{b:Addr}{o:HO},H1 b=some o->b∉A0.all:=λ{b o} h hb=>by rw[ac b hb]at h;cases h
   refine DQ M1.b.comp λts=>BW λt1 t2=>?_;have B7:Na a H0 H7 p { D with pm:=p0,A:=A0 } { d with keys:=L5 d,m:=Mc.start d.rs } :=
    ⟨M7.b.case,⟨ts,Y _ _ t1,Paired.à t2 λ_ _ ah=>by obtain⟨t,p,g,e,z1,z2,z3,z4⟩:=ah;exact⟨t,p,g,e,Y _ _ z1,aa z3,Y _ _ z3,Y _ _ z4⟩⟩,M0,(λe=>by obtain⟨dx,fs,e2,_⟩:=I1;rw[<-e,Z]at e2;cases e2),aa c1,aa t1,O.ok,M7.b.sm,M7.b.np,M1.b.sm.free Z,λb hb=>M1.b.sm.free (ac b hb)⟩
   walk;refine λH8 I8 k8=>?_;have M8:CF a H0 H8 p { D with pm:=p0,A:=A0 } { d with keys:=L5 d,m:=Mc.start d.rs }:=⟨I8,B7.off I7 k8⟩
   walk;intro r F;exact q r _ _ (G.free (Y.free ((Mc.CD.Â k8).free I8 F))) (M8.same (BC F _)) AA
 | run h b q =>
   subst h;rw[ev,show decide (("run":Str)="start")=false by decide];refine AK ?_;walk;refine CA D.pm D.A d.cf d.m (BP rfl M.b.Ř M.b.ok (λA1 H1 M1 af=>?_));walk;intro r F;exact q r _ _ (af.free F) ((M.step af M1 (Z1 M.b.ok).2).same (BC F _)) AA
 | tell h b q =>
   have h1:decide (x="start")=false:=by rcases h with rfl|rfl|rfl<;>decide
   have h2:decide (x="run")=false:=by rcases h with rfl|rfl|rfl<;>decide
   rw[ev,h1];refine AK ?_;walk;rw[ev,h2];refine AK ?_;walk;rw[ev];rcases h with rfl|rfl|rfl
   .rw[show decide (("slugs":Str)="slugs")=true by decide];refine AQ ?_;walk;exact CA D.pm D.A d.cf d.m (BP rfl M.b.Ř M.b.ok (λr H1 F G ag=>q r _ H1 F G ag ⟨λ_=>rfl,λe=>absurd e (by decide),λe=>absurd e (by decide)⟩))
   .rw[show decide (("state":Str)="slugs")=false by decide];refine AK ?_;walk;refine CA D.pm D.A d.cf d.m (BP rfl M.b.Ř M.b.ok (λH1 G=>?_));walk;intro r F;exact q r [Pj d.cf d.m] _ (G.free F) (EU G F) AA ⟨λe=>absurd e (by decide),λ_=>rfl,λe=>absurd e (by decide)⟩
   .rw[show decide (("waited":Str)="slugs")=false by decide];refine AK ?_;walk;refine CA D.pm D.A d.cf d.m (BP rfl M.b.Ř M.b.ok (λH1 G=>?_));walk;intro r F;exact q r [DF d.m.Á] _ (G.free F) (EU G F) AA ⟨λe=>absurd e (by decide),λe=>absurd e (by decide),λ_=>rfl⟩
abbrev HE(x:Str):List Str:=Txt.split x (" ":Str)
inductive ML (a:Ad) (H0 H:Hp) (p:Addr) (d:Dk) (x:Str) (Q:VK) (E:XK):Prop
 | no (h:EA (HE x)=false) (e:∀H',AD H H'->E (.ref a.Ķ) none H')
 | copy (ws:List Str) (o:CO) (h:HE x=("copy":Str)::ws) (hk:EA (HE x)=true) (hc:LC d.rs (Txt.join (" ":Str) ws) o=true)
    (ho:Ol a H d.rs (Txt.join (" ":Str) ws) E (λrw=>rw.length<=1000/\∀r D' H',H r=none->CF a H0 H' p D' { d with comp:=rw }->H' r=some (.lst [.str (DF (rw.length:Int))])->Q (.ref r) H') o)
 | tickN (y:Str) (h:HE x=[("tick":Str),y]) (hk:EA (HE x)=true) (hy:Oi y) (hn:GP y=false) (e:∀H',AD H H'->E (.ref a.ë) none H')
 | tick (y:Str) (n:Nat) (h:HE x=[("tick":Str),y]) (hk:EA (HE x)=true) (hy:Oi y) (hn:GP y=true) (hv:GQ y=(n:Int)) (ok:Mc.Ok d.cf (BR d.cf n d.m)) (b:((BR d.cf n d.m).done-d.m.done).natAbs<100000)
    (q:∀r D' H',H r=none->CF a H0 H' p D' { d with m:=BR d.cf n d.m }->H' r=some (.lst [.str (DF ((BR d.cf n d.m).done-d.m.done))])->Q (.ref r) H')
 | tell (y:Str) (h:HE x=[y]) (hk:EA (HE x)=true) (hy:y∈JS) (ok:DK d) (q:∀r xs H',H r=none->AD H H'->H' r=some (.lst (xs.map V.str))->Pp d y xs->Q (.ref r) H')
 | play (y:Str) (h:HE x=[y]) (hk:EA (HE x)=true) (hy:y∈LS) (i:HC a H0 H p d y Q)
def Om(a:Ad):Sp:=λvs H Q E=>∃(p:Addr) (H0:Hp) (D:Da) (d:Dk) (x:Str),vs=[.ref p,.str x]/\CF a H0 H p D d/\Oi x/\HE x≠[]/\ML a H0 H p d x Q E
def tZ(y:Str)(ws:List Str):EJ ((y::ws).map V.str) (some 1) none=ws.map V.str:=by
 unfold EJ;rw[HT.fW,show HT.CY ((y::ws).map V.str).length 0 (some 1)=1 from by rw[show(1:Int)=((1:Nat):Int)from rfl,HT.SE,A8,Bw,F2 (by lia)],Bl,List.drop_one,List.tail_cons,Aj];rw[Bw];exact Aa _
def dC(z:Str):EN ([("tick":Str),z].map V.str) 1=some (V.str z):=HZ (j:=1) rfl
def dD:∀y∈JS++LS,decide (y="copy")=false/\decide (y="tick")=false:=by decide
def u0:∀y∈LS,decide (y∈JS)=false:=by decide
def HC.same{a:Ad}{H0 H H1:Hp}{p:Addr}{d:Dk}{x:Str}{Q:VK}(h:HC a H0 H p d x Q)(s:AD H H1):HC a H0 H1 p d x Q:=by
 cases h with
 | start h ok q=>exact .start h ok λr F H' h1=>q r F H' (s.free h1)
 | run h b q=>exact .run h b λr F H' h1=>q r F H' (s.free h1)
 | tell h b q=>exact .tell h b λr xs H' h1 h2=>q r xs H' (s.free h1) (s.trans h2)
def Ol.same{a:Ad}{H H1:Hp}{rs:List BN}{x:Str}{E:XK}{R F:List L1->Prop}{o:CO}(h:Ol a H rs x E R o)(s:AD H H1)(i:∀rw,R rw->F rw):Ol a H1 rs x E F o:=by
 cases o with
 | copy=>exact λH' h1=>h H' (s.trans h1)
 | many=>exact λH' h1=>h H' (s.trans h1)
 | run os =>
   have h:Oj a H E (R (L4 rs (LU x) os)) os.getLast?:=h;show Oj a H1 E (F (L4 rs (LU x) os)) os.getLast?;generalize os.getLast?=z at h⊢;cases z with
   | none=>exact i _ h
   | some o=>cases o<;>first|exact λH' h1=>h H' (s.trans h1)|exact λH' dx h1=>h H' dx (s.trans h1)|exact i _ h
def Sg(T:Tx K mg a):AG P w K mg base (DG P w) 21 (a.ħ 1) (a.Ī 1) ["self","row"] (Om a):=by
 refine T.Ï.fn.Ő bX (by fin2) (λar A outer s H vs Q E hr h=>?_);revert h;refine EM λp H0 D d x=>FL λag M hx ai hS=>?_;subst ag;revert hx;refine FN λav an ao=>?_;have ae:=Vg x (" ":Str);have ev:∀x y:Str,decide (V.str x=V.str y)=decide (x=y):=λx y=>EV
 have hc:=T.Ħ;refine⟨_,(AI (BH 2 bX.nd (ER K rfl Bu E5 E6 T6 (pv 1) (AC AN AE)))
  (AI (BY (LV (GU (CK T.vz (sR T) hr rfl (AC (pv 2) AE)))) (AJ (Lr T.ã rfl rfl rfl (AC (Qu (Tp (pv 1)) AN) AE))) CH)
  (AI (BY (BX EI (CT (EO K rfl) (pv 2) AL (λ_ _=>rfl)) AN (BF _)) (AJ (AY (VT (K:=K) rfl T.Ù.cl T.Į (tW T) hr rfl oO (pv 0) (AC (ER K rfl Bu D0 D3 (Qb K rfl) AN (AC (NZ (Q7 K rfl) (pv 2) (LK AL) SG) AE)) AE)))) CH)
  (AI (BY (BX EI (CT (EO K rfl) (pv 2) AL (λ_ _=>rfl)) AN (BF _)) (AJ (AY (BM (AC (Ky Qp rfl T.vg Q2 (AC (CK T.ŧ (tf T) hr rfl (AC (BB (K:=K) rfl T.Ù.cl T.Ú Pe (pv 0)) (AC (FM T.Ţ (sU T) hr rfl rfl (AC (CT (EO K rfl) (pv 2) AL (λ_ _=>rfl)) AE)) AE))) AE)) AE)))) CH)
  (AJ (AY (Nd (BX (Rk K rfl) (CT (EO K rfl) (pv 2) AL (λ_ _=>rfl)) (FC (v:=.ref a.Đ) rfl T.ı rfl) (by with_unfolding_all rfl)) (JH (K:=K) rfl T.Ù.cl T.İ (tT T) hr oQ (pv 0) (AC (CT (EO K rfl) (pv 2) AL (λ_ _=>rfl)) AE)) (JH (K:=K) rfl T.Ù.cl T.vf (tY T) hr oS (pv 0) (AC (CT (EO K rfl) (pv 2) AL (λ_ _=>rfl)) AE))))))))),?_⟩
 walk;intro D1 ap;x_fa H1 J aa;have M1:=M.same J;have I1:=M1.ins;have J1:=M1.b.Ř.ins;have ak:∃y ys,Txt.split x (" ":Str)=y::ys:=List.exists_cons_of_ne_nil ai;revert ak;refine FO λy ys G=>?_;have hS:ML a H0 H p d x Q E:=hS;rw[G]at aa ae
 have ae:ys.length+1<=_:=ae;walk;refine EB D1 y ys (BP rfl aa (by lia) ?_);have au:EN ((y::ys).map V.str) 0=some (V.str y):=HZ (j:=0) rfl;refine AX _ (CC rfl ?_);cases hS with
 | no h e =>
   have h:EA (y::ys)=false:=by rw[<-G];exact h
   rw[h];refine AQ ?_;walk;intro u hu;walk;intro z;walk;exact e _ J
 | copy ws o h I aj ho =>
   have I:EA (y::ys)=true:=by rw[<-G];exact I
   obtain⟨rfl,rfl⟩:=Cg (G.symm.trans h);rw[I];refine AK ?_;walk;refine BK D1 _ (BQ rfl (AH.of aa) (λp2 aq=>?_));rw[tZ];x_fa H2 W am;have Z:=J.trans W;have al:(ys.map (·.length)).sum+ys.length*(" ":Str).length<=16777216:=by
    have a:=T4 (λy:Str=>y.length) 1000 ys λz hz=>by
     have h:=(Wj (d:=32) (show z∈Txt.split x " " by rw[G];exact Ah _ hz)).2;rw[show Str.join ⟨#[32]⟩ (Txt.split x " ")=x from Gw ..]at h
     have e1:z.cps.toList.length=z.length:=B0;have e2:x.cps.toList.length=x.length:=B0
     lia
    have a:=a;have e:(" ":Str).length=1:=by decide
    rw[e]
    lia
   refine EB _ p2 ys (CQ rfl rfl (AH.of am) al ?_);walk;exact DC p H0 D d _ (AX o (BP rfl (M.same Z) aj (ho.same Z λrw hq=>⟨hq.1,λr D' H' h1=>hq.2 r D' H' (Z.free h1)⟩)))
 | tickN z h I hy hn e =>
   have I:EA (y::ys)=true:=by rw[<-G];exact I
   obtain⟨rfl,rfl⟩:=Cg (G.symm.trans h);rw[I];refine AK ?_;revert hy;refine FN λac ad _=>?_;walk;refine⟨D1,_,_,_,rfl,rfl,AH.of aa,dC z,z,rfl,ac,ad,λY=>?_,λ_ H2 W=>e _ (J.trans W)⟩;rw[hn]at Y
   cases Y
 | tick z n h I hy hn hv ok b q =>
   have I:EA (y::ys)=true:=by rw[<-G];exact I
   obtain⟨rfl,rfl⟩:=Cg (G.symm.trans h);rw[I];refine AK ?_;revert hy;refine FN λac ad _=>?_;walk;refine⟨D1,_,_,_,rfl,rfl,AH.of aa,dC z,z,rfl,ac,ad,λ_ H2 W=>?_,λY=>?_⟩
   rotate_left
   .rw[hn]at Y
    cases Y
   rw[hv];have M2:=M1.same W;walk;refine DC D.pm D.A d.cf d.m n (BP rfl M2.b.Ř M2.b.ok (λA3 H3 M3 af=>?_));walk;intro r ah;exact q r _ _ (J.free (W.free (af.free ah))) ((M2.step af M3 ok).same (BC ah _)) AA
 | tell z h I hy ok q =>
   have I:EA (y::ys)=true:=by rw[<-G];exact I
   obtain⟨rfl,rfl⟩:=Cg (G.symm.trans h);rw[I];refine AK ?_;obtain⟨n1,n2⟩:=dD y (Cd _ hy);walk;rw[ev,n1];refine AK ?_;walk;rw[ev,n2];refine AK ?_;walk;refine BK _ _ (CQ rfl (.inr (hc _)) rfl (QL JS) ?_);rw[show ∀b:Bool,(if false=true then !b else b)=b from λ_=>rfl,show L7 (.str y) [.str ("lines":Str),.str ("gaps":Str),.str ("keys":Str),.str ("need":Str)]=decide (y∈JS)from QK y JS,Ac hy];refine AX _ (CC rfl (AQ ?_));walk;exact DC p H0 D d y (CQ rfl M1 ok hy (λr xs H' h1 h2=>q r xs H' (J.free h1) (J.trans h2)))
 | play z h I hy i =>
   have I:EA (y::ys)=true:=by rw[<-G];exact I
   obtain⟨rfl,rfl⟩:=Cg (G.symm.trans h);rw[I];refine AK ?_;obtain⟨n1,n2⟩:=dD y (Bg _ hy);walk;rw[ev,n1];refine AK ?_;walk;rw[ev,n2];refine AK ?_;walk;refine BK _ _ (CQ rfl (.inr (hc _)) rfl (QL JS) ?_);rw[show ∀b:Bool,(if false=true then !b else b)=b from λ_=>rfl,show L7 (.str y) [.str ("lines":Str),.str ("gaps":Str),.str ("keys":Str),.str ("need":Str)]=decide (y∈JS)from QK y JS,u0 y hy];refine AX _ (CC rfl (AK ?_));walk;exact DC p H0 D d y (BQ rfl M1 (i.same J))
abbrev KH(x:Str):List Str:=Txt.split x ("\n":Str)
inductive Pq (a:Ad) (H:Hp) (p:Addr) (x:Str) (z:Int) (Q:VK) (E:XK):Prop
 | text (h:JR (KH x)=none) (e:∀H',AD H H'->E (.ref a.ï) none H')
 | case (rs:List BN) (k:Nat) (h:JR (KH x)=some rs) (hl:Cs.Looks rs (some k)) (e:∀H' dx,AD H H'->H' dx=none->E (.ref a.æ) (some dx) (upd H' dx (.xd [("at",.int (k:Int))])))
 | number (rs:List BN) (h:JR (KH x)=some rs) (hl:Cs.Looks rs none) (hz:¬(1<=z/\z<=20)) (e:∀H',Mc.CD p H H'->E (.ref a.ë) none H')
 | ok (H0:Hp) (rs:List BN) (h:JR (KH x)=some rs) (hl:Cs.Looks rs none) (hz:1<=z/\z<=20) (n0:H0 p=none) (s0:AD H0 H) (o:Mc.Ok ⟨rs,"",z⟩ (Mc.start rs)) (rn:∀r∈rs,0<=r.n/\r.n<=1000) (q:∀D H',CF a H0 H' p D ⟨rs,z,[],"",Mc.start rs⟩->Q .non H')
def Wu(a:Ad):Sp:=λvs H Q E=>∃(p dx:Addr) (x:Str) (z:Int),vs=[.ref p,.str x,.int z]/\H p=some (.ins a.į dx [])/\AW x/\(KH x).length<=1000/\(∀y∈KH x,y.length<=1000)/\z.natAbs<=10^40/\Pq a H p x z Q E
def U6(T:Tx K mg a):AG P w K mg base (DG P w) 6 a.ē a.ď ["self","case_text","casting"] (Wu a):=by
 refine T.Ù.fn.Ő oK (by fin2) (λar A outer s H vs Q E hr h=>?_);revert h;refine GJ λp dx x z=>LF λam hp hx Ŝ ŏ hz hI=>?_;subst am;have I0:ID a H p (List.replicate LR.length none):=⟨dx,[],hp,FS.nil (by decide)⟩
 refine⟨_,(AI (GX (K:=K) rfl T.Ù.cl T.ÿ S7 (pv 0) (FM T.Ź (rR T) hr rfl rfl (AC (pv 1) AE)))
  (AI (BY (LV (X3 L6 L6 AL (pv 2) (FC (v:=.int 20) rfl T.ĉ ⟨_,rfl⟩))) (AJ (Lr T.Ë rfl rfl rfl (AC (ZM (RV (pv 2)) AN (RV (FC (v:=.int 20) rfl T.ĉ ⟨_,rfl⟩))) AE))) CH)
  (AI (GX (K:=K) rfl T.Ù.cl T.Ċ Wf (pv 0) (pv 2))
  (AI (GX (K:=K) rfl T.Ù.cl T.Þ QG (pv 0) (BM AE))
  (AJ (GX (K:=K) rfl T.Ù.cl T.Ú Pe (pv 0) (Vr T.Machine (Wo T) hr rfl (AC (BB (K:=K) rfl T.Ù.cl T.ÿ S7 (pv 0)) (AC AN (AC (pv 2) AE)))))))))),?_⟩
 walk;refine BQ (λrs F aa D xs H1 au I ak an=>?_) (λrs k F aa H1 ao I al=>?_) (λW H1 I=>?_)
 rotate_left
 .cases hI with
  | text h e=>rw[h]at F;cases F
  | case G k' h Z e =>
    rw[h]at F
    cases F;cases Z.uniq aa;exact e H1 ao I al
  | number G h Z _ e =>
    rw[h]at F
    cases F;cases Z.uniq aa
  | ok H0 G h Z _ _ _ _ _ _ =>
    rw[h]at F
    cases F;cases Z.uniq aa
 .cases hI with
  | text h e=>exact e H1 I
  | case G k' h Z e=>rw[h]at W;cases W
  | number G h Z _ e=>rw[h]at W;cases W
  | ok H0 G h Z _ _ _ _ _ _=>rw[h]at W;cases W
 have I1:=I0.same I;walk;refine λH2 I2 k2=>?_;have o2:=(Mc.CD.of_same (p:=p) I).trans (Mc.CD.Â k2);walk;cases hI with
 | text h e=>rw[h]at F;cases F
 | case G k' h Z e =>
   rw[h]at F
   cases F;cases Z.uniq aa
 | number G h Z ag e =>
   by_cases h1:1<=z
   .rw[Ac h1];refine AQ ?_;walk;rw[Ak (by lia)];refine AQ ?_;walk;refine λl1=>⟨_,rfl,l1,_,rfl,by decide,20,rfl,by decide,λl2=>⟨_,rfl,l2,?_⟩⟩
    walk;exact e H2 o2
   .rw[Ak h1];refine AK ⟨_,rfl,AQ ?_⟩;walk;refine λl1=>⟨_,rfl,l1,_,rfl,by decide,20,rfl,by decide,λl2=>⟨_,rfl,l2,?_⟩⟩
    walk;exact e H2 o2
 | ok H0 G h Z ag n0 s0 o rn q =>
   rw[h]at F
   cases F;rw[Ac ag.1];refine AQ ?_;walk;rw[Ac ag.2];refine AK ?_;walk;refine λH3 I3 k3=>?_;walk;refine λe4 aj=>?_;have af:=BC aj (.lst []);have ai:upd H3 e4 (.lst []) e4=some (.lst []):=AA;have I4:=I3.same af;generalize upd H3 e4 (.lst [])=H4 at af ai I4⊢;walk;refine λH5 I5 k5=>?_;have f2:=((Mc.CD.Â k3).trans (Mc.CD.of_same af)).trans (Mc.CD.Â k5);have f1:=(Mc.CD.Â k2).trans f2;have c1:=f1 _ _ (RK I1 ak) ak;have c2:=Ob (Mc.CD.keep I1 f1) an;have c4:=Mc.CD.Â k5 _ _ (P6 I3 aj) ai;walk;refine λp0 ap Y J aq=>⟨p0,D,ap,⟨rs,"",z⟩,xs,rfl,AA,?_,?_,o.cf,rfl,rn,λA0 H7 M0 ah wL=>⟨rfl,?_⟩⟩
   .rw[BE (FB c1 Y),BE (FB c1 J)];exact c1
   .exact KA c2 λb u hb=>by rw[BE (FB hb Y),BE (FB hb J)];exact hb
   have ac:=Tj Y J ah;have ad:=λb hb=>VG Y J (wL b hb)
   have I7:=I5.same ac;have ae:∀{b:Addr}{o:HO},H5 b=some o->b∉A0.all:=λ{b o} h hb=>by rw[ad b hb]at h;cases h
   have o5:=(Mc.CD.of_same I).trans f1;have s5:AD H0 H5:=λb u hb=>o5 b u (λe=>by rw[e,n0]at hb;cases hb) (s0 b u hb)
   have B7:Na a H0 H7 p ⟨D,e4,p0,A0⟩ ⟨rs,z,[],"",Mc.start rs⟩ :=
    ⟨⟨xs,ac _ _ c1,KA c2 ac⟩,⟨[],ac _ _ c4,.nil⟩,M0,(λe=>by obtain⟨dx,fs,e2,_⟩:=I5;rw[<-e,Y]at e2;cases e2),ae c1,ae c4,o,s5.trans ac,n0,s5.free Y,λb hb=>s5.free (ad b hb)⟩
   walk;exact λH8 I8 k8=>q ⟨D,e4,p0,A0⟩ H8 ⟨I8,B7.off I7 k8⟩
def Wv:Expr->V
 | .Constant (.str x) _ _=>.str x
 | .Constant (.int i) _ _=>.int i
 | _=>.non
def dE:Expr->Bool
 | .Constant (.str _) _ _=>true
 | .Constant (.int _) _ _=>true
 | .Constant .none _ _=>true
 | _=>false
theorem JY{X:Cx}:∀{es:List Expr},es.all dE=true->PA X es (λ_ H Q=>Q (es.map Wv) H)
 | [],_=>AE
 | e::es,h=>by
   simp only[Fw,Ae]at h;have r:=JY (X:=X) h.2;unfold dE at h;split at h
   .exact AC AN r
   .exact AC AL r
   .exact AC JU r
   .cases h.1
def Sh(x:Str)(n:Nat):Str:=⟨(List.replicate n x.cps).foldl (·++ ·) #[]⟩
def u3:R2:=λa b H Q=>∃(x:Str) (n:Int),a=.str x/\b=.int n/\2<=n/\n<=100/\1<=x.length/\x.length<=1000/\Q (.str (Sh x n.toNat)) H
def u4{X:Cx}:FA X (binaryOp .Mult) u3:=by
 intro pins s σ H a b v u Q I G J h;obtain⟨x,n,rfl,rfl,h1,h2,Y,W,q⟩:=h;obtain⟨t,rfl⟩:=G;obtain⟨t',rfl⟩:=J;have F:x.length*n.toNat<=100000:=Bk (Nat.mul_le_mul W (show n.toNat<=100 by lia)) (by decide);refine PySem.P.mul_str ?_ (λ_ _=>?_) (λ_ _=>?_) ?_
 .lia
 .have hd:(1000:Int)<=(2^63-1)/n:=by
   rw[Int.le_ediv_iff_mul_le (by lia)]
   lia
  lia
 .show decide (x.length*n.toNat > sizeLine)=false;rw[Ak];rw[Eg]
  lia
 .rw[As (by lia)];split
  .lia
  .refine⟨?_,.str _,H,I.tok _,⟨_,rfl⟩,q⟩;show((List.replicate n.toNat x.cps).foldl (·++ ·) #[]).size<=sizeLine;rw[Zh,Eg];show 0+x.length*n.toNat<=_
   lia
def u5:Str:=Sh "a " 50
abbrev Mn:=Str×Str×V
abbrev JZ(x k:Str)(f:V):Mn:=(x,k,f)
noncomputable def U7:List Str:=[""," ","copy","copy ","copy  set a end","copy set  a end","lines ","lines 1","gaps a","keys x"]
noncomputable def U8:List Str:=["need 0","start now","run 5","run ","tick","tick 1 2","tick x 2","tick 1 ","tick  1"]
noncomputable def U9:List Str:=["slugs 0","state x","waited 1","Lines","line","key","ticks 1","stop"]
def Ua:List Str:=["COPY set a end","a","12"]
def dF:List Str:=["-1","01","x","12345","+1","1.5","1e2","00"]
def dG:List Str:=["set","end","set end","set a","a","set a end end","measure","measure 0","measure x"]
def dH:List Str:=["measure 050","measure 2001","gaps 1 2","gaps 3 2 9","gaps 1 9 8","gaps 1 2 100","gaps -1 2 3"]
def dI:List Str:=["( set a end )","2 times","2 times ( )","0 times ( set a end )","10 times ( set a end )"]
def dJ:List Str:=["2 times ( set a end","2 times set a end","set a end )","2 ( set a end )","times ( set a end )"]
def dM:List Str:=["set ax end","set x end","set a end set b zz end"]
def dN:List Mn:=(U7++U8++U9++Ua).map λx=>JZ x "row" .non
def u6:List Mn:=dN++dF.map λx=>JZ ("tick "++x) "number" .non
def u7:List Mn:=u6++dG.map λx=>JZ ("copy "++x) "copy" .non
def u9:List Mn:=u7++(dH++[("gaps 1 2 3 4":Str)]).map λx=>JZ ("copy "++x++" set a end") "copy" .non
def uc:List Mn:=u9++dI.map λx=>JZ ("copy "++x) "copy" .non
def ud:List Mn:=uc++dJ.map λx=>JZ ("copy "++x) "copy" .non
def ue:List Mn:=ud++[JZ "copy 9 times ( 7 times ( set a end ) )" "many" .non]
def uf:List Mn:=ue++[JZ ("copy 9 times ( set "++u5++"end )") "many" .non]
def ug:List Mn:=uf++dM.map λx=>JZ ("copy "++x) "text" .non
noncomputable def QN:List Mn:=ug++[JZ "copy measure 3 set a end" "break" (.int 0)]++[JZ "copy measure 20 gaps 0 1 2 set a aaaaaaaaaa end" "break" (.int 0)]++[JZ "copy set a end measure 30 gaps 1 4 9 set ab ba aaaaaaaaaaaaaa end" "break" (.int 2)]++[JZ "copy measure 3 set a end measure 100 set zz end" "break" (.int 0)]++[JZ "copy set zz end measure 3 set a end" "text" .non]++[JZ "copy set zz end 9 times ( 7 times ( set a end ) )" "many" .non]
def MM(D:Addr)(H:Hp)(v:V)(x:Mn):Prop:=∃e,v=.ref e/\e≠D/\H e=some (.lst [.str x.1,.str x.2.1,x.2.2])
structure JK(H0:Hp)(D:Addr)(H:Hp)(xs:List Mn):Prop where
 sm:AD H0 H
 d0:H0 D=none
 ex:∃ys,H D=some (.lst ys)/\Paired (MM D H) ys xs
def Ww{D:Addr}{H H':Hp}{ys:List V}{xs:List Mn}(h:Paired (MM D H) ys xs)(s:∀b o,b≠D->H b=some o->H' b=some o):Paired (MM D H') ys xs:=Paired.à h λ_ _ ⟨e,z,n,y⟩=>⟨e,z,n,s _ _ n y⟩
def JK.same{H0 H H':Hp}{D:Addr}{xs:List Mn}(h:JK H0 D H xs)(s:AD H H'):JK H0 D H' xs:=⟨h.sm.trans s,h.d0,let ⟨ys,h1,h2⟩:=h.ex;⟨ys,s _ _ h1,Ww h2 λb o _ e=>s b o e⟩⟩
def JK.add{D:Addr}(h:JK H0 D H xs)(I:H D=some (.lst ys))(G:H e=some (.lst [.str r,.str k,f]))(hn:e≠D):JK H0 D (upd H D (.lst (ys++[.ref e]))) (xs++[(r,k,f)]):=by
 obtain⟨F,h1,h2⟩:=h.ex;rw[I]at h1
 cases h1;refine⟨λb o hb=>?_,h.d0,_,AA,By (Ww h2 λb o hb e=>by rw[BE hb];exact e) ⟨e,rfl,hn,by rw[BE hn];exact G⟩⟩;rw[BE (FB hb h.d0)];exact h.sm b o hb
theorem JK.len{H0 H:Hp}{D:Addr}{xs:List Mn}{ys:List V}(h:JK H0 D H xs)(G:H D=some (.lst ys)):ys.length=xs.length:=by
 obtain⟨F,h1,h2⟩:=h.ex;rw[G]at h1
 cases h1;exact B4 h2
def JK.xB{H0 H:Hp}{D e:Addr}{xs:List Mn}{ys:List V}{r k:Str}{f:V}(h:JK H0 D H xs)(G:H D=some (.lst ys))(F:H e=none):JK H0 D (upd (upd H e (.lst [.str r,.str k,f])) D (.lst (ys++[.ref e]))) (xs++[(r,k,f)]) :=
 (h.same (BC F _)).add (BC F _ _ _ G) AA λz=>by rw[z,G]at F;cases F
def JK.gen{D:Addr}(h:JK H0 D H xs)(ee:upd (upd H e (.lst [.str r,.str k,f])) D (.lst (ys++[.ref e]))=H2)(hy:H D=some (.lst ys))(he:H e=none):JK H0 D H2 (xs++[(r,k,f)]):=ee ▸ h.xB hy he
def JK.ne{H0 H:Hp}{D p:Addr}{xs:List Mn}(h:JK H0 D H xs)(F:H p=none):p≠D:=λz=>by
 obtain⟨ys,h1,_⟩:=h.ex;rw[z,h1]at F
 cases F
def uh:Sp:=λvs H Q _=>vs=[]/\∀D ys H',H D=none->AD H H'->H' D=some (.lst ys)->Paired (MM D H') ys QN->Q (.ref D) H'
def Wx{xs:List Str}{i:Nat}{y:V}(h:(xs.map V.str)[i]?=some y):∃x,xs[i]?=some x/\y=.str x:=by
 rw[Ap]at h
 obtain⟨x,h1,h2⟩:=Bi.mp h;exact⟨x,h1,h2.symm⟩
def GG(e:upd H p o=H1)(F:H p=none):AD H H1/\H1 p=some o:=by
 subst e;exact⟨BC F _,AA⟩
local macro_rules | `(tactic| x_fa $H $s $r) => `(tactic| (generalize ee : upd _ _ _ = $H; obtain ⟨$s, $r⟩ := GG ee (by assumption); clear ee))
set_option hygiene false
local macro_rules | `(tactic| z_go) => `(tactic| (walk_at "2"; obtain ⟨ys, hy, _⟩ := M.ex; have hl := M.len hy; refine ⟨.inl ⟨rfl, _, AH.of hy⟩, ?_⟩; walk_at "2"; refine fun e he => ⟨D, ys, _, rfl, rfl, BC he _ _ _ hy, Kz (by rw [hl]; decide), ?_⟩; generalize ee : upd _ D _ = H0; have M := M.gen ee hy he; clear ee hy he hl))
set_option hygiene true
def QO{H H1:Hp}{D p:Addr}{base:List Mn}{xs:List Str}{g:TG}{tb:TS}{E:DY}{v0:Option V}(mk:Option V->St)(f:Str->Str)(k:Str)(M:JK H D H1 base)(Y:H1 p=some (.lst (xs.map V.str)))(hn:p≠D)(hb:base.length+xs.length<=100)(hx:∀x∈xs,x.length<=100)
 (hs:∀x v H' ys (Q:St->Hp->Prop),x.length<=100->H' D=some (.lst ys)->ys.length<=100->(∀e,H' e=none->Q (mk (some (.str x))) (upd (upd H' e (.lst [.str (f x),.str k,.non])) D (.lst (ys++[.ref e]))))->g (.str x) (mk v) H' λG H2=>tb { E with nx:=Q,ct:=Q,bk:=E.nx } G H2)
 (hd:∀v H',JK H D H' (base++xs.map λx=>JZ (f x) k .non)->E.nx (mk v) H') :
 ∃W:Nat->Nat->St->Hp->Prop,(∃m,W 0 m (mk v0) H1)/\∀i m σ H,W i m σ H ->
  ((Ng K p).stop i H/\E.nx σ H)\/((Ng K p).go i H/\∃N:St->Hp->Prop,(∀I H',N I H'->∃Z,Z<m/\W (i+1) Z I H')/\∀x H',(Ng K p).wO i H x H'->g x σ H' λG H2=>tb { E with nx:=N,ct:=N,bk:=E.nx } G H2):=by
 refine R4 (xs:=xs.map V.str) (λi σ H'=>∃v,σ=mk v/\JK H D H' (base++(xs.take i).map λx=>JZ (f x) k .non)/\H' p=some (.lst (xs.map V.str)))
  ⟨_,rfl,by rw[Jv];exact(Be base).symm ▸ M,Y⟩ (by rintro i σ H' _ ⟨_,_,_,h⟩;exact AH.of h) ?_ ?_
 .rintro i y σ H' hy ⟨v,rfl,M,Y⟩;obtain⟨x,hi,rfl⟩:=Wx hy;obtain⟨ys,F,_⟩:=M.ex;have J:=M.len F;rw[B5,A8,Bb]at J
  refine hs x v H' ys _ (hx x (Af hi)) F (by lia) λe he=>⟨_,rfl,?_,by rw[BE hn];exact BC he _ _ _ Y⟩
  rw[Ao,hi,Ai,<-C4];exact M.xB F he
 grind
def QP{a x:Str}(h:a.length<=20)(F:x.length<=1000):a.length+x.length<=sizeLine:=DU (by lia)
def ui(T:Tx K mg a):AG P w K mg base BL 1 (a.f 65) (a.d 65) [] uh:=by
 refine T.vA.fn.ok Ly (by fin2) (λah A outer s H vs Q E hr h=>?_);obtain⟨rfl,q⟩:=h;refine⟨_,(@AI _ _ _ _ _ (@IQ _ _ 0 _ _ _ _ Ly.nd rfl (Or.inl rfl) (@BM _ _ _ _ (JY (by rfl))) rfl (Or.inl rfl))
  (@AI _ _ _ _ _ (@IQ _ _ 0 _ _ _ _ Ly.nd rfl (Or.inl rfl) (BG Nm (pv 0) (@BM _ _ _ _ (JY (by rfl)))) rfl (Or.inl rfl))
  (@AI _ _ _ _ _ (@IQ _ _ 0 _ _ _ _ Ly.nd rfl (Or.inl rfl) (BG Nm (pv 0) (@BM _ _ _ _ (JY (by rfl)))) rfl (Or.inl rfl))
  (@AI _ _ _ _ _ (@IQ _ _ 0 _ _ _ _ Ly.nd rfl (Or.inl rfl) (BG Nm (pv 0) (@BM _ _ _ _ (JY (by rfl)))) rfl (Or.inl rfl))
  (@AI _ _ _ _ _ (SS (i:=1) Ly.nd rfl NT rfl (GC K rfl (pv 0)) (DL.of (N':=["_law_some","_law_found","_law_number","_law_text","_law_row"]) (ms:=[]) (k:=1) (by rfl)) (λ_ _ _ _ _=>(BD 4)) (λ_ _ _ _ _=>HH) (λ_ _ _ _ _=>(@BM _ _ _ _ (@AC _ _ _ _ _ (pv 4) (@AC _ _ _ _ _ AN (@AC _ _ _ _ _ JU AE rfl) rfl) rfl))))
  (@AI _ _ _ _ _ (IR Bm rfl (GC K rfl (@BM _ _ _ _ (JY (by rfl)))) (AO 2 Ly.nd) (@AJ _ _ _ (DR (ER K rfl An Aq Ar IB (pv 1) (@AC _ _ _ _ _ (@BM _ _ _ _ (@AC _ _ _ _ _ (BG LI AN (pv 2)) (@AC _ _ _ _ _ AN (@AC _ _ _ _ _ JU AE rfl) rfl) rfl)) AE rfl)))))
  (@AI _ _ _ _ _ (IR Bm rfl (GC K rfl (@BM _ _ _ _ (JY (by rfl)))) (AO 3 Ly.nd) (@AJ _ _ _ (DR (ER K rfl An Aq Ar IB (pv 1) (@AC _ _ _ _ _ (@BM _ _ _ _ (@AC _ _ _ _ _ (BG LI AN (pv 3)) (@AC _ _ _ _ _ AN (@AC _ _ _ _ _ JU AE rfl) rfl) rfl)) AE rfl)))))
  (@AI _ _ _ _ _ (@IQ _ _ 0 _ _ _ _ Ly.nd rfl (Or.inl rfl) (@BM _ _ _ _ (JY (by rfl))) rfl (Or.inl rfl))
  (@AI _ _ _ _ _ (IR Bm rfl (GC K rfl (BG Nm (pv 0) (@BM _ _ _ _ (@AC _ _ _ _ _ AN AE rfl)))) (AO 3 Ly.nd) (@AJ _ _ _ (DR (ER K rfl An Aq Ar IB (pv 1) (@AC _ _ _ _ _ (@BM _ _ _ _ (@AC _ _ _ _ _ (BG LI (BG LI AN (pv 3)) AN) (@AC _ _ _ _ _ AN (@AC _ _ _ _ _ JU AE rfl) rfl) rfl)) AE rfl)))))
  (@AI _ _ _ _ _ (IR Bm rfl (GC K rfl (@BM _ _ _ _ (JY (by rfl)))) (AO 3 Ly.nd) (@AJ _ _ _ (DR (ER K rfl An Aq Ar IB (pv 1) (@AC _ _ _ _ _ (@BM _ _ _ _ (@AC _ _ _ _ _ (BG LI AN (pv 3)) (@AC _ _ _ _ _ AN (@AC _ _ _ _ _ JU AE rfl) rfl) rfl)) AE rfl)))))
  (@AI _ _ _ _ _ (IR Bm rfl (GC K rfl (@BM _ _ _ _ (JY (by rfl)))) (AO 3 Ly.nd) (@AJ _ _ _ (DR (ER K rfl An Aq Ar IB (pv 1) (@AC _ _ _ _ _ (@BM _ _ _ _ (@AC _ _ _ _ _ (BG LI AN (pv 3)) (@AC _ _ _ _ _ AN (@AC _ _ _ _ _ JU AE rfl) rfl) rfl)) AE rfl)))))
  (@AI _ _ _ _ _ (DR (ER K rfl An Aq Ar IB (pv 1) (@AC _ _ _ _ _ (@BM _ _ _ _ (JY (by rfl))) AE rfl)))
  (@AI _ _ _ _ _ (DR (ER K rfl An Aq Ar IB (pv 1) (@AC _ _ _ _ _ (@BM _ _ _ _ (@AC _ _ _ _ _ (BG LI (BG LI AN (BG u4 AN AL)) AN) (@AC _ _ _ _ _ AN (@AC _ _ _ _ _ JU AE rfl) rfl) rfl)) AE rfl)))
  (@AI _ _ _ _ _ (IR Bm rfl (GC K rfl (@BM _ _ _ _ (JY (by rfl)))) (AO 3 Ly.nd) (@AJ _ _ _ (DR (ER K rfl An Aq Ar IB (pv 1) (@AC _ _ _ _ _ (@BM _ _ _ _ (@AC _ _ _ _ _ (BG LI AN (pv 3)) (@AC _ _ _ _ _ AN (@AC _ _ _ _ _ JU AE rfl) rfl) rfl)) AE rfl)))))
  (@AI _ _ _ _ _ (DR (ER K rfl An Aq Ar IB (pv 1) (@AC _ _ _ _ _ (@BM _ _ _ _ (JY (by rfl))) AE rfl)))
  (@AI _ _ _ _ _ (DR (ER K rfl An Aq Ar IB (pv 1) (@AC _ _ _ _ _ (@BM _ _ _ _ (JY (by rfl))) AE rfl)))
  (@AI _ _ _ _ _ (DR (ER K rfl An Aq Ar IB (pv 1) (@AC _ _ _ _ _ (@BM _ _ _ _ (JY (by rfl))) AE rfl)))
  (@AI _ _ _ _ _ (DR (ER K rfl An Aq Ar IB (pv 1) (@AC _ _ _ _ _ (@BM _ _ _ _ (JY (by rfl))) AE rfl)))
  (@AI _ _ _ _ _ (DR (ER K rfl An Aq Ar IB (pv 1) (@AC _ _ _ _ _ (@BM _ _ _ _ (JY (by rfl))) AE rfl)))
  (@AI _ _ _ _ _ (DR (ER K rfl An Aq Ar IB (pv 1) (@AC _ _ _ _ _ (@BM _ _ _ _ (JY (by rfl))) AE rfl)))
  (@AJ _ _ _ (@AY _ _ _ _ (pv 1))))))))))))))))))))))),?_⟩
 walk;intro p1 aj;x_fa H1 t h1;walk;intro p2 ac;x_fa H2 s h2;walk;refine⟨p1,p2,_,_,rfl,rfl,s _ _ h1,h2,DU (Bh rfl),λp3 ad=>?_⟩;x_fa H3 s2 h3;have t:=t.trans (s.trans s2);walk;intro p4 ae;x_fa H4 s h4;walk;refine⟨p3,p4,_,_,rfl,rfl,s _ _ h3,h4,DU (Bh rfl),λp5 ak=>?_⟩;x_fa H5 s2 h5;have t:=t.trans (s.trans s2);walk;intro p6 ag;x_fa H6 s h6;walk;refine⟨p5,p6,_,_,rfl,rfl,s _ _ h5,h6,DU (Bh rfl),λp7 af=>?_⟩;x_fa H7 s2 h7;have t:=t.trans (s.trans s2);have h7:H7 p7=some (.lst ((U7++U8++U9++Ua).map V.str)):=h7;walk;refine⟨⟨_,AH.of h7⟩,λD hD=>?_⟩;refine IX (a:=p7) (xs:=(U7++U8++U9++Ua).map V.str) (λi ys σ H'=>∃v4,σ=[some (.ref p7),none,none,none,v4]/\AD H7 H'/\H' D=some (.lst ys)/\Paired (MM D H') ys (((U7++U8++U9++Ua).take i).map λx=>JZ x "row" .non))
  ?_ ?_ ?_ ?_
 .exact⟨none,rfl,BC hD _,AA,.nil⟩
 .rintro i ys σ H' hi ⟨v4,_,hs,_⟩;exact hs.seq (AH.of h7)
 .rintro i y ys σ H' hy aa ⟨v4,rfl,hs,hh,J⟩;obtain⟨x,hx,rfl⟩:=Wx hy;have W:=B4 J;rw[A8,Bb]at W
  have aa:i<30:=aa;walk;intro e I;x_fa ai Z h2;have hn:e≠D:=λz=>by rw[z,hh]at I;cases I
  refine FW aa (Z _ _ hh) (by lia) ⟨_,rfl,EH (hs.trans Z) hD,AA,?_⟩;rw[Ao,hx,Ai];exact By (Ww J λb o hb z=>by rw[BE hb];exact Z _ _ z) ⟨e,rfl,hn,by rw[BE hn];exact h2⟩
 rintro ys σ H0 ⟨v4,rfl,hs,hh,J⟩;have M:JK H D H0 dN:=⟨t.trans hs,t.free hD,ys,hh,J⟩
 clear J hh hs;walk;intro p J;x_fa H1 s h;refine⟨_,rfl,⟨_,AH.of h⟩,QO (xs:=dF) (λv=>[some (.ref p7),some (.ref D),v,none]) (λx=>"tick "++x) "number" (M.same s) h (M.ne J) (by decide) (by decide) (λx v H' ys Q Y G W q=>?_) λv2 H0 M=>?_⟩
 .walk;refine⟨.inl ⟨rfl,_,AH.of G⟩,?_⟩;walk;refine⟨QP (by decide) (by lia),?_⟩;walk;exact λe I=>⟨D,ys,_,rfl,rfl,BC I _ _ _ G,Kz (by lia),q e I⟩
 walk;intro p J;x_fa H1 s h;refine⟨_,rfl,⟨_,AH.of h⟩,QO (xs:=dG) (λv=>[some (.ref p7),some (.ref D),v2,v]) (λx=>"copy "++x) "copy" (M.same s) h (M.ne J) (by decide) (by decide) (λx v H' ys Q Y G W q=>?_) λv3 H0 M=>?_⟩
 .walk;refine⟨.inl ⟨rfl,_,AH.of G⟩,?_⟩;walk;refine⟨QP (by decide) (by lia),?_⟩;walk;exact λe I=>⟨D,ys,_,rfl,rfl,BC I _ _ _ G,Kz (by lia),q e I⟩
 walk;intro pg hg;x_fa H1 s hG;have M:=M.same s;walk;intro p2 ac;x_fa H2 s h2;have M:=M.same s;walk;refine⟨pg,p2,_,_,rfl,rfl,s _ _ hG,h2,DU (Bh rfl),λp J=>?_⟩;x_fa H3 s h;refine⟨_,rfl,⟨_,AH.of h⟩,QO (xs:=dH++[("gaps 1 2 3 4":Str)]) (λv=>[some (.ref pg),some (.ref D),v2,v]) (λx=>"copy "++x++" set a end") "copy" (M.same s) h (M.ne J) (by decide) (by decide) (λx v H' ys Q Y G W q=>?_) λv3 H0 M=>?_⟩
 .walk;refine⟨.inl ⟨rfl,_,AH.of G⟩,?_⟩;walk;refine⟨QP (by decide) (by lia),?_⟩;walk;refine⟨by rw[Fl,Nat.add_comm,show("copy ":Str).length=5 by decide];exact DU (by rw[show(" set a end":Str).length=10 by decide];lia),?_⟩;walk;exact λe I=>⟨D,ys,_,rfl,rfl,BC I _ _ _ G,Kz (by lia),q e I⟩
 walk;intro p J;x_fa H1 s h;refine⟨_,rfl,⟨_,AH.of h⟩,QO (xs:=dI) (λv=>[some (.ref pg),some (.ref D),v2,v]) (λx=>"copy "++x) "copy" (M.same s) h (M.ne J) (by decide) (by decide) (λx v H' ys Q Y G W q=>?_) λv3 H0 M=>?_⟩
 .walk;refine⟨.inl ⟨rfl,_,AH.of G⟩,?_⟩;walk;refine⟨QP (by decide) (by lia),?_⟩;walk;exact λe I=>⟨D,ys,_,rfl,rfl,BC I _ _ _ G,Kz (by lia),q e I⟩
 walk;intro p J;x_fa H1 s h;refine⟨_,rfl,⟨_,AH.of h⟩,QO (xs:=dJ) (λv=>[some (.ref pg),some (.ref D),v2,v]) (λx=>"copy "++x) "copy" (M.same s) h (M.ne J) (by decide) (by decide) (λx v H' ys Q Y G W q=>?_) λv3 H0 M=>?_⟩
 .walk;refine⟨.inl ⟨rfl,_,AH.of G⟩,?_⟩;walk;refine⟨QP (by decide) (by lia),?_⟩;walk;exact λe I=>⟨D,ys,_,rfl,rfl,BC I _ _ _ G,Kz (by lia),q e I⟩
 z_go;z_go;walk;intro p J;x_fa H1 s h;refine⟨_,rfl,⟨_,AH.of h⟩,QO (xs:=dM) (λv=>[some (.ref pg),some (.ref D),v2,v]) (λx=>"copy "++x) "text" (M.same s) h (M.ne J) (by decide) (by decide) (λx v H' ys Q Y G W q=>?_) λv3 H0 M=>?_⟩
 .walk;refine⟨.inl ⟨rfl,_,AH.of G⟩,?_⟩;walk;refine⟨QP (by decide) (by lia),?_⟩;walk;exact λe I=>⟨D,ys,_,rfl,rfl,BC I _ _ _ G,Kz (by lia),q e I⟩
 z_go;z_go;z_go;z_go;z_go;z_go;walk;obtain⟨ys,hy,J⟩:=M.ex;exact q D ys _ M.d0 M.sm hy J
inductive KO where
 | row
 | number
 | copy
 | many
 | text
 | brk (k:Nat)
 | case (k:Nat)
def KO.name:KO->Str
 | .row=>"row"
 | .number=>"number"
 | .copy=>"copy"
 | .many=>"many"
 | .text=>"text"
 | .brk _=>"break"
 | .case _=>"case"
def KO.fld:KO->V
 | .brk k=>.int (k:Int)
 | .case k=>.int (k:Int)
 | _=>.non
noncomputable def KO.cls (a:Ad):KO->Addr
 | .row=>a.Ķ
 | .number=>a.ë
 | .copy=>a.É
 | .many=>a.Ó
 | .text=>a.ï
 | .brk _=>a.Ý
 | .case _=>a.æ
def EK(a:Ad)(H:Hp)(o:KO):XK:=λC d H'=>C=.ref (o.cls a)/\match o with
 | .brk k=>∃dx H1,d=some dx/\AD H H1/\H1 dx=none/\H'=upd H1 dx (.xd [("words",.int (k:Int))])
 | .case k=>∃dx H1,d=some dx/\AD H H1/\H1 dx=none/\H'=upd H1 dx (.xd [("at",.int (k:Int))])
 | _=>d=none/\AD H H'
def Pt:Option PO->Option KO
 | some .text=>some .text
 | some (.brk k)=>some (.brk k)
 | _=>none
def Wy:CO->Option KO
 | .copy=>some .copy
 | .many=>some .many
 | .run os=>Pt os.getLast?
inductive Ev where
 | row
 | tick
 | copy (o:CO)
def KO.tag:KO->Nat×Nat
 | .row=>(0,0)
 | .number=>(1,0)
 | .copy=>(2,0)
 | .many=>(3,0)
 | .text=>(4,0)
 | .brk k=>(5,k)
 | .case k=>(6,k)
theorem KO.inj{o o':KO}(h:o.tag=o'.tag):o=o':=by
 cases o<;>cases o'<;>first|rfl|(obtain⟨h1,h2⟩:=Ke h;first|exact absurd h1 (by decide)|rw[h2])
def Wz(ws:List Str):Bool:=EA ws&&match ws with
 | [t,y]=>decide (t="tick")&&JB y&&!GP y
 | _=>false
def uj{ws:List Str}(h:Wz ws=true):∃y,ws=[("tick":Str),y]/\EA ws=true/\Oi y/\GP y=false:=by
 unfold Wz at h;rw[Ae]at h
 obtain⟨G,h⟩:=h;split at h
 .simp only[Ae,B6,Ee]at h;obtain⟨⟨rfl,I⟩,F⟩:=h;exact⟨_,rfl,G,NP I,F⟩
 .cases h
def Ub(rs:List BN)(ws:List Str)(co:CO):Bool:=EA ws&&match ws with
 | t::us=>decide (t="copy")&&LC rs (Txt.join (" ":Str) us) co
 | []=>false
def dO{rs:List BN}{ws:List Str}{co:CO}(h:Ub rs ws co=true):∃us,ws=("copy":Str)::us/\EA ws=true/\LC rs (Txt.join " " us) co=true:=by
 unfold Ub at h
 grind
noncomputable def NQ (rs:List BN) (x:Str) (o:KO):Ev->Bool
 | .row=>!EA (HE x)&&decide (KO.row.tag=o.tag)
 | .tick=>Wz (HE x)&&decide (KO.number.tag=o.tag)
 | .copy co=>Ub rs (HE x) co&&decide ((Wy co).map KO.tag=some o.tag)
def uk{a:Ad}{H0 H:Hp}{p:Addr}{d:Dk}{x:Str}{Q:VK}{E:XK}{o:KO}{W:Ev}(h:NQ d.rs x o W=true)(G:∀C d' H',EK a H o C d' H'->E C d' H'):ML a H0 H p d x Q E:=by
 cases W with
 | row =>
   obtain⟨h1,h2⟩:=(Ae _ _).mp h;obtain rfl:=KO.inj (Ag h2);exact .no (by rwa [Ee]at h1) λH' F=>G _ _ _ ⟨rfl,rfl,F⟩
 | tick =>
   obtain⟨h1,h2⟩:=(Ae _ _).mp h;obtain rfl:=KO.inj (Ag h2);obtain⟨y,e,J,I,Y⟩:=uj h1;exact .tickN y e J I Y λH' F=>G _ _ _ ⟨rfl,rfl,F⟩
 | copy co =>
   obtain⟨h1,h2⟩:=(Ae _ _).mp h;have h2:=Ag h2;obtain⟨us,e,J,I⟩:=dO h1;refine .copy us co e J I ?_;cases co with
   | copy =>
     obtain rfl:KO.copy=o:=KO.inj (Av h2);exact λH' F=>G _ _ _ ⟨rfl,rfl,F⟩
   | many =>
     obtain rfl:KO.many=o:=KO.inj (Av h2);exact λH' F=>G _ _ _ ⟨rfl,rfl,F⟩
   | run os =>
     have h2:(Pt os.getLast?).map KO.tag=some o.tag:=h2;show Oj a H E _ os.getLast?;generalize os.getLast?=z at h2⊢;cases z with
     | none=>cases h2
     | some po =>
       cases po with
       | text =>
         obtain rfl:KO.text=o:=KO.inj (Av h2);exact λH' F=>G _ _ _ ⟨rfl,rfl,F⟩
       | brk j =>
         obtain rfl:KO.brk j=o:=KO.inj (Av h2);exact λH' dx F hd=>G _ _ _ ⟨rfl,dx,H',rfl,F,hd,rfl⟩
       | rows bs=>cases h2
inductive MN (x:Str) (z:Int):KO->Prop
 | text (h:JR (KH x)=none):MN x z .text
 | case (rs:List BN) (k:Nat) (h:JR (KH x)=some rs) (hl:Cs.Looks rs (some k)):MN x z (.case k)
 | number (rs:List BN) (h:JR (KH x)=some rs) (hl:Cs.Looks rs none) (hz:¬(1<=z/\z<=20)):MN x z .number
def dP(a:Ad)(vs:List V)(H:Hp)(o:KO):Prop:=(∃(t:Addr) (x:Str) (z:Int),vs=[.non,.ref t]/\H t=some (.tup [.str x,.int z])/\AW x/\(KH x).length<=1000/\(∀y∈KH x,y.length<=1000)/\z.natAbs<=10^40/\MN x z o) \/
 ∃(p:Addr) (H0:Hp) (D:Da) (d:Dk) (x:Str) (F:Ev),vs=[.ref p,.str x]/\CF a H0 H p D d/\Oi x/\HE x≠[]/\NQ d.rs x o F=true
def um(a:Ad):Sp:=λvs H Q E=>∃o,dP a vs H o/\∀C d' H',EK a H o C d' H'->E C d' H'
def uo(T:Tx K mg a):AG P w K mg base (DG P w) 22 (a.f 66) (a.d 66) ["_law_desk","_law_row"] (um a):=by
 refine T.Ŷ.fn.Ő nS (λvs H Q E h=>?_) (λae A outer s H vs Q E W h=>?_)
 .obtain⟨o,h,_⟩:=h;rcases h with⟨t,x,z,rfl,_⟩|⟨p,H0,D,d,x,ev,rfl,_⟩<;>rfl
 obtain⟨o,h,Z⟩:=h;rcases h with⟨t,x,z,rfl,ht,h1,h2,h3,h4,hb⟩|⟨p,H0,D,d,x,ev,rfl,M,hx,aa,hc⟩
 .refine⟨_,(AJ (BY (QZ (QX (pv 0))) (AJ (DR (ZI T.Ù (U6 T) W rfl rfl (AC (CT (KP K rfl) (pv 1) AL (λ_ _=>rfl)) (AC (CT (KP K rfl) (pv 1) AL (λ_ _=>rfl)) AE))))) (AJ (DR (VT (K:=K) rfl T.Ù.cl T.Ï (Sg T) W rfl JX (pv 0) (AC (pv 1) AE)))))),?_⟩;walk;refine⟨t,_,_,_,rfl,rfl,BS.of ht,rfl,?_⟩;walk;refine⟨t,_,_,_,rfl,rfl,BS.of ht,rfl,?_⟩;walk;refine λY F ac J ad=>⟨Y,F,x,z,rfl,AA,h1,h2,h3,h4,?_⟩
  have G:∀{H':Hp},Mc.CD Y (upd (upd H F (.own Y)) Y (.ins a.į F [])) H'->AD H H':=λ{H'} o=>Tj ac J o
  cases hb with
  | text h=>exact .text h λH' hs=>Z _ _ _ ⟨rfl,rfl,G (.of_same hs)⟩
  | case rs k h hl=>exact .case rs k h hl λH' dx hs hd=>Z _ _ _ ⟨rfl,dx,H',rfl,G (.of_same hs),hd,rfl⟩
  | number rs h hl hz=>exact .number rs h hl hz λH' o=>Z _ _ _ ⟨rfl,rfl,G o⟩
 .refine⟨_,(AJ (BY (QZ (QX (pv 0))) (AJ (DR (ZI T.Ù (U6 T) W rfl rfl (AC (CT (KP K rfl) (pv 1) AL (λ_ _=>rfl)) (AC (CT (KP K rfl) (pv 1) AL (λ_ _=>rfl)) AE))))) (AJ (DR (VT (K:=K) rfl T.Ù.cl T.Ï (Sg T) W rfl JX (pv 0) (AC (pv 1) AE)))))),?_⟩;have I:=M.ins;walk;exact⟨p,H0,D,d,x,rfl,M,hx,aa,uk hc Z⟩
def FJ{K:Frag}{mg:Str->Option Value}(d:CI K mg x qual st ps B f fd fld)(F:PySem.W.mroIn K C (.ref C)=some true)(h:PySem.W.mroIn K C (.ref B)=some b):PySem.W.kitOne K (.ref C) (.ref B)=some b :=
 YH d.cls d.q h λe=>by
  subst e;rw[F]at h
  exact(Av h).symm
def FK{K:Frag}{mg:Str->Option Value}(d:CN K mg x B)(F:PySem.W.mroIn K C (.ref C)=some true)(h:PySem.W.mroIn K C (.ref B)=some b):PySem.W.kitOne K (.ref C) (.ref B)=some b :=
 YH d.cls d.q h λe=>by
  subst e;rw[F]at h
  exact(Av h).symm
structure Kd(K:Frag)(a:Ad)(o:KO):Prop where
 g:XG K (o.cls a)
 i:∃f,IT K (o.cls a) f=true
 m:PySem.W.mroIn K (o.cls a) (.ref a.þ)=some true
 v:PySem.W.kitOne K (.ref (o.cls a)) (.type "ValueError")=some true
 k0:PySem.W.kitOne K (.ref (o.cls a)) (.ref a.Ķ)=some (decide (o.tag.1=0))
 k1:PySem.W.kitOne K (.ref (o.cls a)) (.ref a.ë)=some (decide (o.tag.1=1))
 k2:PySem.W.kitOne K (.ref (o.cls a)) (.ref a.É)=some (decide (o.tag.1=2))
 k3:PySem.W.kitOne K (.ref (o.cls a)) (.ref a.Ó)=some (decide (o.tag.1=3))
 k4:PySem.W.kitOne K (.ref (o.cls a)) (.ref a.ï)=some (decide (o.tag.1=4))
 k5:PySem.W.kitOne K (.ref (o.cls a)) (.ref a.Ý)=some (decide (o.tag.1=5))
 k6:PySem.W.kitOne K (.ref (o.cls a)) (.ref a.æ)=some (decide (o.tag.1=6))
 k7:PySem.W.kitOne K (.ref (o.cls a)) (.ref a.Ń)=some (decide (o.tag.1=7))
 k8:PySem.W.kitOne K (.ref (o.cls a)) (.ref a.Ė)=some (decide (o.tag.1=8))
 k9:PySem.W.kitOne K (.ref (o.cls a)) (.ref a.ć)=some (decide (o.tag.1=9))
theorem kd(T:Tx K mg a):∀o,Kd K a o
 | .row=>have h:=(T.m 10 10);⟨T.ã.q.g,⟨_,T.ã.cls⟩,(T.m 10 0),OW T.ã.q,FK T.ã h (T.m 10 10),FK T.Ë h (T.m 10 9),FK T.Ì h (T.m 10 6),FK T.Î h (T.m 10 2),FK T.Ö h (T.m 10 8),FJ T.Ä h (T.m 10 5),FJ T.Æ h (T.m 10 1),FJ T.ì h (T.m 10 7),FJ T.á h (T.m 10 3),FJ T.ä h (T.m 10 4)⟩
 | .number=>have h:=(T.m 9 9);⟨T.Ë.q.g,⟨_,T.Ë.cls⟩,(T.m 9 0),OW T.Ë.q,FK T.ã h (T.m 9 10),FK T.Ë h (T.m 9 9),FK T.Ì h (T.m 9 6),FK T.Î h (T.m 9 2),FK T.Ö h (T.m 9 8),FJ T.Ä h (T.m 9 5),FJ T.Æ h (T.m 9 1),FJ T.ì h (T.m 9 7),FJ T.á h (T.m 9 3),FJ T.ä h (T.m 9 4)⟩
 | .copy=>have h:=(T.m 6 6);⟨T.Ì.q.g,⟨_,T.Ì.cls⟩,(T.m 6 0),OW T.Ì.q,FK T.ã h (T.m 6 10),FK T.Ë h (T.m 6 9),FK T.Ì h (T.m 6 6),FK T.Î h (T.m 6 2),FK T.Ö h (T.m 6 8),FJ T.Ä h (T.m 6 5),FJ T.Æ h (T.m 6 1),FJ T.ì h (T.m 6 7),FJ T.á h (T.m 6 3),FJ T.ä h (T.m 6 4)⟩
 | .many=>have h:=(T.m 2 2);⟨T.Î.q.g,⟨_,T.Î.cls⟩,(T.m 2 0),OW T.Î.q,FK T.ã h (T.m 2 10),FK T.Ë h (T.m 2 9),FK T.Ì h (T.m 2 6),FK T.Î h (T.m 2 2),FK T.Ö h (T.m 2 8),FJ T.Ä h (T.m 2 5),FJ T.Æ h (T.m 2 1),FJ T.ì h (T.m 2 7),FJ T.á h (T.m 2 3),FJ T.ä h (T.m 2 4)⟩
 | .text=>have h:=(T.m 8 8);⟨T.Ö.q.g,⟨_,T.Ö.cls⟩,(T.m 8 0),OW T.Ö.q,FK T.ã h (T.m 8 10),FK T.Ë h (T.m 8 9),FK T.Ì h (T.m 8 6),FK T.Î h (T.m 8 2),FK T.Ö h (T.m 8 8),FJ T.Ä h (T.m 8 5),FJ T.Æ h (T.m 8 1),FJ T.ì h (T.m 8 7),FJ T.á h (T.m 8 3),FJ T.ä h (T.m 8 4)⟩
 | .brk _=>have h:=(T.m 5 5);⟨T.Ä.q.g,⟨_,T.Ä.cls⟩,(T.m 5 0),OW T.Ä.q,FK T.ã h (T.m 5 10),FK T.Ë h (T.m 5 9),FK T.Ì h (T.m 5 6),FK T.Î h (T.m 5 2),FK T.Ö h (T.m 5 8),FJ T.Ä h (T.m 5 5),FJ T.Æ h (T.m 5 1),FJ T.ì h (T.m 5 7),FJ T.á h (T.m 5 3),FJ T.ä h (T.m 5 4)⟩
 | .case _=>have h:=(T.m 1 1);⟨T.Æ.q.g,⟨_,T.Æ.cls⟩,(T.m 1 0),OW T.Æ.q,FK T.ã h (T.m 1 10),FK T.Ë h (T.m 1 9),FK T.Ì h (T.m 1 6),FK T.Î h (T.m 1 2),FK T.Ö h (T.m 1 8),FJ T.Ä h (T.m 1 5),FJ T.Æ h (T.m 1 1),FJ T.ì h (T.m 1 7),FJ T.á h (T.m 1 3),FJ T.ä h (T.m 1 4)⟩
def uq(a:Ad):Sp:=λvs H Q _=>∃o,dP a vs H o/\∀r H',H r=none->AD H H'->H' r=some (.lst [.str o.name,o.fld])->Q (.ref r) H'
def Pu(o:KO)(n:Nat):List Nat:=(List.range n).filter λj=>decide (o.tag.1=j)
noncomputable def MO:List Str:=["row","number","copy","many","text","break","case","keys","loose","tight"]
def ur{a:Ad}(h:EK a H o C d H'):C=.ref (o.cls a)/\AD H H'/\(∀F,d=some F->∃fs,H' F=some (.xd fs))/\(∀k,o=.brk k->∃dx,d=some dx/\H' dx=some (.xd [("words",.int (k:Int))]))/\∀k,o=.case k->∃dx,d=some dx/\H' dx=some (.xd [("at",.int (k:Int))]):=by
 obtain⟨h1,h2⟩:=h;refine⟨h1,?_⟩;cases o with
 | brk k =>
   obtain⟨dx,H1,rfl,G,hd,rfl⟩:=h2;exact⟨EU G hd,λF e=>(by cases e;exact⟨_,AA⟩),λj e=>(by cases e;exact⟨dx,rfl,AA⟩),λj e=>nomatch e⟩
 | case k =>
   obtain⟨dx,H1,rfl,G,hd,rfl⟩:=h2;exact⟨EU G hd,λF e=>(by cases e;exact⟨_,AA⟩),(λj e=>nomatch e),λj e=>by cases e;exact⟨dx,rfl,AA⟩⟩
 | _ =>
   obtain⟨rfl,G⟩:=h2;exact⟨G,(λF e=>nomatch e),(λj e=>nomatch e),λj e=>nomatch e⟩
def uu{D:Addr}(G:Nat->List V->St->Hp->Prop)(h0:G 0 [] σ (upd H D (.lst [])))(hx:∀ys σ H,G n ys σ H->∃C dx,H ex=some (XE ex C dx))(hs:∀i ys σ H,i<n->G i ys σ H->g (.int (0+(i:Int))) σ H λF W=>tc F W λb J=>if b=true then te F J (O3 D n i G F)else OO n i G F J)(hd:∀ys σ H,G n ys σ H->Q (.ref D) H):OL (NK ex 0 n) g tc te D Q σ H:=by
 refine⟨λi m σ H=>m=n-i/\i<=n/\∃ys,G i ys σ H,⟨n,rfl,Bj _,[],h0⟩,?_⟩;rintro i m σ H ⟨rfl,hi,ys,p⟩;by_cases I:i<n
 .refine .inr ⟨I,λx H' y=>?_⟩;obtain⟨rfl,rfl⟩:=y;exact hs i ys σ _ I p
 .have e:i=n:=by lia
  subst e;exact .inl ⟨⟨Aa _,hx ys σ H p⟩,hd ys σ H p⟩
def WA(o:KO):List Bool:=(List.range 10).map λj=>decide (o.tag.1=j)
def uv(o:KO):Pu o 10=[o.tag.1]:=by cases o<;>rfl
def dQ(o:KO):MO[o.tag.1]?=some o.name:=by cases o<;>rfl
def dR(T:Tx K mg a):AG P w K mg base BL 23 (a.f 67) (a.d 67) ["_law_desk","_law_row"] (uq a):=by
 have J:=@uo P w K mg base a T;refine T.Ŭ.fn.ok NL (λvs H Q E h=>?_) (λaG A outer s H vs Q E hr h=>?_)
 .revert h;refine ES λo=>BW λh _=>?_;rcases h with⟨t,x,z,rfl,_⟩|⟨p,H0,D,d,x,ev,rfl,_⟩<;>rfl
 revert h;refine ES λo=>BW λh q=>?_;obtain⟨u,v,rfl⟩:∃u v,vs=[u,v]:=by rcases h with⟨t,x,z,rfl,_⟩|⟨p,H0,D,d,x,ev,rfl,_⟩<;>exact⟨_,_,rfl⟩
 have W:=kd T o;refine⟨_,(@AI _ _ _ _ _ (@IQ _ _ 2 _ _ _ _ NL.nd rfl (Or.inl rfl) JU rfl (Or.inl rfl))
  (@AI _ _ _ _ _ (Rf (ki rfl (λ_ _=>(@AJ _ _ _ (DR (FM T.Ŷ J hr rfl rfl (@AC _ _ _ _ _ (pv 0) (@AC _ _ _ _ _ (pv 1) AE rfl) rfl))))) (λ_=>(nh K rfl (i:=3) rfl T.Û.mg T.Û.cls NL.nd rfl rfl (λ_=>(@AI _ _ _ _ _ (@IQ _ _ 4 _ _ _ _ NL.nd rfl (Or.inr rfl) (@BM _ _ _ _ (@AC _ _ _ _ _ (CS (Lq (K:=K) rfl) rfl T.È Lo (@AC _ _ _ _ _ (pv 3) (@AC _ _ _ _ _ (FC (v:=.ref a.Ķ) rfl T.ã.mg rfl) AE rfl) rfl)) (@AC _ _ _ _ _ (CS (Lq (K:=K) rfl) rfl T.È Lo (@AC _ _ _ _ _ (pv 3) (@AC _ _ _ _ _ (FC (v:=.ref a.ë) rfl T.Ë.mg rfl) AE rfl) rfl)) (@AC _ _ _ _ _ (CS (Lq (K:=K) rfl) rfl T.È Lo (@AC _ _ _ _ _ (pv 3) (@AC _ _ _ _ _ (FC (v:=.ref a.É) rfl T.Ì.mg rfl) AE rfl) rfl)) (@AC _ _ _ _ _ (CS (Lq (K:=K) rfl) rfl T.È Lo (@AC _ _ _ _ _ (pv 3) (@AC _ _ _ _ _ (FC (v:=.ref a.Ó) rfl T.Î.mg rfl) AE rfl) rfl)) AE rfl) rfl) rfl) rfl)) rfl (Or.inl rfl))
  (@AI _ _ _ _ _ (@IQ _ _ 4 _ _ _ _ NL.nd rfl (Or.inr rfl) (BG Nm (pv 4) (@BM _ _ _ _ (@AC _ _ _ _ _ (CS (Lq (K:=K) rfl) rfl T.È Lo (@AC _ _ _ _ _ (pv 3) (@AC _ _ _ _ _ (FC (v:=.ref a.ï) rfl T.Ö.mg rfl) AE rfl) rfl)) (@AC _ _ _ _ _ (CS (Lq (K:=K) rfl) rfl T.È Lo (@AC _ _ _ _ _ (pv 3) (@AC _ _ _ _ _ (FC (v:=.ref a.Ý) rfl T.Ä.mg rfl) AE rfl) rfl)) (@AC _ _ _ _ _ (CS (Lq (K:=K) rfl) rfl T.È Lo (@AC _ _ _ _ _ (pv 3) (@AC _ _ _ _ _ (FC (v:=.ref a.æ) rfl T.Æ.mg rfl) AE rfl) rfl)) (@AC _ _ _ _ _ (CS (Lq (K:=K) rfl) rfl T.È Lo (@AC _ _ _ _ _ (pv 3) (@AC _ _ _ _ _ (FC (v:=.ref a.Ń) rfl T.ì.mg rfl) AE rfl) rfl)) AE rfl) rfl) rfl) rfl))) rfl (Or.inl rfl))
  (@AI _ _ _ _ _ (@IQ _ _ 4 _ _ _ _ NL.nd rfl (Or.inr rfl) (BG Nm (pv 4) (@BM _ _ _ _ (@AC _ _ _ _ _ (CS (Lq (K:=K) rfl) rfl T.È Lo (@AC _ _ _ _ _ (pv 3) (@AC _ _ _ _ _ (FC (v:=.ref a.Ė) rfl T.á.mg rfl) AE rfl) rfl)) (@AC _ _ _ _ _ (CS (Lq (K:=K) rfl) rfl T.È Lo (@AC _ _ _ _ _ (pv 3) (@AC _ _ _ _ _ (FC (v:=.ref a.ć) rfl T.ä.mg rfl) AE rfl) rfl)) AE rfl) rfl))) rfl (Or.inl rfl))
  (@AI _ _ _ _ _ (@IQ _ _ 5 _ _ _ _ NL.nd rfl (Or.inr rfl) (@BM _ _ _ _ (@AC _ _ _ _ _ AN (@AC _ _ _ _ _ AN (@AC _ _ _ _ _ AN (@AC _ _ _ _ _ AN (@AC _ _ _ _ _ AN (@AC _ _ _ _ _ AN (@AC _ _ _ _ _ AN (@AC _ _ _ _ _ AN (@AC _ _ _ _ _ AN (@AC _ _ _ _ _ AN AE rfl) rfl) rfl) rfl) rfl) rfl) rfl) rfl) rfl) rfl)) rfl (Or.inl rfl))
  (@AI _ _ _ _ _ (XD (c:=λX=>X.A.handled=some (.ref _)) (i:=6) NL.nd rfl NT (λ_ _ _ _ _=>rfl) (nc rfl T.ĕ (@AC _ _ _ _ _ AL AE rfl)) (DL.of (N':=["_law_desk","_law_row","_law_found","e","_law_some","_law_names","_law_told","_law_k"]) (ms:=[]) (k:=1) (by rfl)) (λ_ _ _ _ _=>(BD 7)) (λ_ _ _ _ _=>(SR (GU (CT (EO K rfl) (pv 4) (pv 7) (λ_ _=>rfl))))) (λ_ _ _ _ _=>(CT (EO K rfl) (pv 5) (pv 7) (λ_ _=>rfl))))
  (@AJ _ _ _ (BY (PW.pt (Ot (BX EI (CS (GA K rfl) rfl T.Ò ET (@AC _ _ _ _ _ (pv 6) AE rfl)) AL (BF _)) (Oq (GU (CS (Lq (K:=K) rfl) rfl T.È Lo (@AC _ _ _ _ _ (pv 3) (@AC _ _ _ _ _ (eR (v:=.ty "ValueError") rfl T.vw gM rfl) AE rfl) rfl)))))) (@AI _ _ _ _ _ (@IQ _ _ 2 _ _ _ _ NL.nd rfl (Or.inl rfl) (@BM _ _ _ _ (@AC _ _ _ _ _ (CT (EO K rfl) (pv 6) AL (λ_ _=>rfl)) (@AC _ _ _ _ _ JU AE rfl) rfl)) rfl (Or.inl rfl))
  (@AI _ _ _ _ _ (Rf (BY (GU (CS (Lq (K:=K) rfl) rfl T.È Lo (@AC _ _ _ _ _ (pv 3) (@AC _ _ _ _ _ (FC (v:=.ref a.Ý) rfl T.Ä.mg rfl) AE rfl) rfl))) (@AJ _ _ _ (HY (YF (K:=K) rfl (pv 3)) (PP (pv 2) AL PZ))) CH))
  (@AJ _ _ _ (BY (GU (CS (Lq (K:=K) rfl) rfl T.È Lo (@AC _ _ _ _ _ (pv 3) (@AC _ _ _ _ _ (FC (v:=.ref a.æ) rfl T.Æ.mg rfl) AE rfl) rfl))) (@AJ _ _ _ (HY (YF (K:=K) rfl (pv 3)) (PP (pv 2) AL PZ))) CH)))) CH)))))))) kh))))
  (@AJ _ _ _ (@AY _ _ _ _ (pv 2))))),?_⟩
 walk
 let Izz:zS:=λσ H2=>∃r v3 v4 v5 v6,σ=[some u,some v,some (.ref r),v3,v4,v5,v6]/\H r=none/\AD H H2/\H2 r=some (.lst [.str o.name,o.fld])
 refine AX Izz (CC ?_ ?_)
 .walk;refine AX o (CC h (λC d H1 aB=>?_));refine FL (λaa aC ai an al=>?_) (ur aB);subst aa;obtain⟨f,ar⟩:=W.i;refine EB (o.cls a) f true (BP rfl ar W.m (AQ ?_));intro e aw;generalize G:upd H1 e _=H2;obtain⟨Y,h2⟩:_/\H2 e=some (XE e (o.cls a) d):=GG G aw;clear G;have Z:=W.g;have F:∀{H3:Hp},AD H2 H3->∀a0,d=some a0->∃fs,H3 a0=some (.xd fs):=λhs a0 z=>let ⟨fs,y⟩:=ai a0 z;⟨fs,hs _ _ (Y _ _ y)⟩
  walk;refine DC e _ d _ _ (AX _ (DT rfl h2 (F (AD.refl _)) Z rfl W.k0 ?_));walk;refine DC e _ d _ _ (AX _ (DT rfl h2 (F (AD.refl _)) Z rfl W.k1 ?_));walk;refine DC e _ d _ _ (AX _ (DT rfl h2 (F (AD.refl _)) Z rfl W.k2 ?_));walk;refine DC e _ d _ _ (AX _ (DT rfl h2 (F (AD.refl _)) Z rfl W.k3 ?_));walk;intro p3 ax;generalize G:upd H2 p3 _=H3;obtain⟨t3,c3⟩:_/\H3 p3=some (.lst ([decide (o.tag.1=0),decide (o.tag.1=1),decide (o.tag.1=2),decide (o.tag.1=3)].map V.bl)):=GG G ax;clear G;walk;refine DC e _ d _ _ (AX _ (DT rfl (t3 _ _ h2) (F t3) Z rfl W.k4 ?_));walk;refine DC e _ d _ _ (AX _ (DT rfl (t3 _ _ h2) (F t3) Z rfl W.k5 ?_));walk;refine DC e _ d _ _ (AX _ (DT rfl (t3 _ _ h2) (F t3) Z rfl W.k6 ?_));walk;refine DC e _ d _ _ (AX _ (DT rfl (t3 _ _ h2) (F t3) Z rfl W.k7 ?_));walk;intro p4 ay;generalize G:upd H3 p4 _=H4;obtain⟨t4,c4⟩:_/\H4 p4=some (.lst ([decide (o.tag.1=4),decide (o.tag.1=5),decide (o.tag.1=6),decide (o.tag.1=7)].map V.bl)):=GG G ay;clear G;walk;refine CA p3 p4 _ _ (GS rfl rfl (t4 _ _ c3) c4 (DU (Bh rfl)) (λp5 aE=>?_));generalize G:upd H4 p5 _=H5;obtain⟨t5,c5⟩:_/\H5 p5=some (.lst ([decide (o.tag.1=0),decide (o.tag.1=1),decide (o.tag.1=2),decide (o.tag.1=3),decide (o.tag.1=4),decide (o.tag.1=5),decide (o.tag.1=6),decide (o.tag.1=7)].map V.bl)):=GG G aE;clear G;have s5:=t3.trans (t4.trans t5);walk;refine DC e _ d _ _ (AX _ (DT rfl (s5 _ _ h2) (F s5) Z rfl W.k8 ?_));walk;refine DC e _ d _ _ (AX _ (DT rfl (s5 _ _ h2) (F s5) Z rfl W.k9 ?_));walk;intro p6 aA;generalize G:upd H5 p6 _=H6;obtain⟨t6,c6⟩:_/\H6 p6=some (.lst ([decide (o.tag.1=8),decide (o.tag.1=9)].map V.bl)):=GG G aA;clear G;walk;refine CA p5 p6 _ _ (GS rfl rfl (t6 _ _ c5) c6 (DU (Bh rfl)) (λp7 az=>?_));generalize G:upd H6 p7 _=H7;obtain⟨t7,c7⟩:_/\H7 p7=some (.lst ((WA o).map V.bl)):=GG G az;clear G;walk;intro p8 aD;generalize G:upd H7 p8 _=H8;obtain⟨t8,c8⟩:_/\H8 p8=some (.lst (MO.map V.str)):=GG G aD;clear G;have s8:=s5.trans (t6.trans (t7.trans t8));have au:=aC.trans (Y.trans s8);walk;refine λD hD=>?_
  let Izz:zU:=λi ys σ H'=>∃v7,σ=[some u,some v,some .non,some (.ref e),some (.ref p7),some (.ref p8),none,v7]/\AD H8 H'/\H' D=some (.lst ys)/\ys=((Pu o i).map λj=>MO.getD j "").map V.str
  refine uu (n:=10) Izz
   ?_ ?_ ?_ ?_
  .exact AX none (BP rfl (BC hD _) AA rfl)
  .refine λys σ H'=>ES λv7=>FN λ_ hs _=>?_;exact BK _ _ (hs _ _ (s8 _ _ h2))
  .refine λi ys σ H' hi=>ES λv7=>DP λI hs hh ad=>?_;subst I;subst ad;have ag:EN ((WA o).map V.bl) (0+(i:Int))=some (.bl (decide (o.tag.1=i))):=by
    rw[Kc];refine HZ ?_;unfold WA;rw[Ap,Ap,List.getElem?_range hi];rfl
   have aj:MO[i]?=some (MO.getD i ""):=by
    have hl:i<MO.length:=hi;rw[Ba,A9 hl];rfl
   have ao:EN (MO.map V.str) (0+(i:Int))=some (.str (MO.getD i "")):=by
    rw[Kc];exact HZ (by rw[Ap,aj];rfl)
   have aH:(Pu o i).length<=10:=by
    unfold Pu;have:=Jm (λj=>decide (o.tag.1=j)) (List.range i);rw[K8]at this
    lia
   have ah:Pu o (i+1)=Pu o i++if decide (o.tag.1=i)=true then [i]else []:=by
    unfold Pu;rw[List.range_succ,List.filter_append,List.filter_cons];rfl
   refine⟨_,rfl,_,rfl,p7,_,_,_,rfl,rfl,AH.of (hs _ _ (t8 _ _ c7)),ag,?_⟩;refine AX _ (CC rfl ?_);clear ag;cases am:decide (o.tag.1=i)with
   | true =>
     rw[am]at ah
     refine AQ ?_;refine⟨_,rfl,_,rfl,p8,_,_,_,rfl,rfl,AH.of (hs _ _ c8),ao,?_⟩;refine FW hi hh (by rw[A8,A8];lia) ⟨_,rfl,EH hs hD,AA,?_⟩;rw[ah,Au rfl,Ai,Ai];rfl
   | false =>
     rw[am]at ah
     refine AK ?_;refine Rj hi ⟨_,rfl,hs,hh,?_⟩;rw[ah,As Ay,Be]
  .refine λys σ H'=>ES λv7=>DP λI hs hh ad=>?_;subst I;subst ad;have aj:MO.getD o.tag.1 ""=o.name:=by rw[Ba,dQ];rfl
   have hh:H' D=some (.lst [.str o.name]):=by
    rw[hh,uv];show some (HO.lst [.str (MO.getD o.tag.1 "")])=_;rw[aj]
   have s9:=s8.trans hs;have ae:=au.trans hs;clear hs s8 au c7 c8 t3 t4 t5 s5 t6 t7 t8 c3 c4 c5 c6;walk;refine BK D _ (BQ rfl (.inl (AH.of hh)) ?_);walk;refine DC e _ d _ _ (AX _ (DT rfl (s9 _ _ h2) (F s9) Z rfl W.v ?_));refine AX _ (CC rfl ?_);refine AQ ?_;have ag:EN [V.str o.name] 0=some (.str o.name):=rfl;walk;clear ag;intro r af;generalize G:upd H' r _=H9;obtain⟨t9,c9⟩:_/\H9 r=some (.lst [.str o.name,.non]):=GG G af;clear G;have s9:=s9.trans t9;have ac:=ae.free af;have ae:=ae.trans t9;have aF:e≠r:=λz=>by have y:=s9 _ _ h2;rw[z,c9]at y;cases y
   walk
   let Izz:zS:=λσ H3=>σ=[some u,some v,some (.ref r),some (.ref e),some (.ref p7),some (.ref p8),some (.ref D)]/\Jb.AS r H9 H3/\H3 r=some (.lst [.str o.name,if o.tag.1=5 then o.fld else .non])
   refine AX Izz (CC ?_ ?_)
   .walk;refine DC e _ d _ _ (AX _ (DT rfl (s9 _ _ h2) (F s9) Z rfl W.k5 ?_));refine AX _ (CC rfl ?_);by_cases h5:o.tag.1=5
    .rw[Ac h5];refine AQ ?_;obtain⟨k,rfl⟩:∃k,o=.brk k:=by cases o<;>first|exact⟨_,rfl⟩|exact absurd h5 (Jg rfl)
     refine DQ (an k rfl) λdx=>BW λI ak=>?_;subst I;walk;refine DC e _ dx _ _ (DT rfl (s9 _ _ h2) (s9 _ _ (Y _ _ ak)) Z ((T.Ä).xf.no) rfl ?_);walk;refine CA r _ _ 1 (CQ rfl rfl c9 (S8 (Bh rfl)) ?_);exact BQ rfl ((Jb.AS.refl _ _).upd) (by rw[AA,Au h5];rfl)
    .rw[Ak h5];refine AK ?_;exact BQ rfl (.refl _ _) (by rw[As h5];exact c9)
   .refine λσ H3=>FN λaa n3 c3=>?_;subst aa;have h3:H3 e=some (XE e (o.cls a) d):=n3 _ _ aF (s9 _ _ h2);have x3:∀{b:Addr}{fs:List (Str×V)},H2 b=some (.xd fs)->H3 b=some (.xd fs):=λ{b fs} y=>n3 _ _ (λz=>by have w:=s9 _ _ y;rw[z,c9]at w;cases w) (s9 _ _ y)
    have aq:∀a0,d=some a0->∃fs,H3 a0=some (.xd fs):=λa0 z=>let ⟨fs,y⟩:=ai a0 z;⟨fs,x3 (Y _ _ y)⟩
    have fin:∀{H4:Hp},Jb.AS r H9 H4->AD H H4:=λ{H4} n b u y=>n b u (λz=>by rw[z,ac]at y;cases y) (ae b u y)
    walk;refine DC e _ d _ _ (AX _ (DT rfl h3 aq Z rfl W.k6 ?_));refine AX _ (CC rfl ?_);by_cases h6:o.tag.1=6
    .rw[Ac h6];refine AQ ?_;obtain⟨k,rfl⟩:∃k,o=.case k:=by cases o<;>first|exact⟨_,rfl⟩|exact absurd h6 (Jg rfl)
     refine DQ (al k rfl) λdx=>BW λI ak=>?_;subst I;walk;refine DC e _ dx _ _ (DT rfl h3 (x3 (Y _ _ ak)) Z ((T.Æ).xf.no) rfl ?_);walk;refine CA r _ _ 1 (CQ rfl rfl c3 (S8 (Bh rfl)) ?_);exact DC r _ _ _ _ (BP rfl ac (fin n3.upd) AA)
    .rw[Ak h6];refine AK ?_;refine DC r _ _ _ _ (BP rfl ac (fin n3) ?_);rw[c3];by_cases h5:o.tag.1=5
     .rw[Au h5]
     .rw[As h5];cases o<;>first|rfl|exact absurd rfl h5|exact absurd rfl h6
 .refine λσ H2=>EM λr v3 v4 v5 v6=>DP λap af Y av=>?_;subst ap;walk;exact q r H2 af Y av
def Si{P:Program}{w:World}{K:Frag}{mg:Str->Option Value}{base:Heap}(F:AG P w K mg base (DG P w) k f fd ps sp)(h:∀vs H Q E,sp0 vs H Q E->sp vs H Q E0):AG P w K mg base BL k f fd ps sp0:=by
 refine⟨λvs H Q E q=>F.len vs H Q E0 (h _ _ _ _ q),λA outer s H args us vs Q E G Y hb Z J=>De (F.run A outer s H args us vs Q E0 G Y hb Z (h _ _ _ _ J)) λr s' z=>?_⟩;cases r with
 | ok I =>
   cases I with
   | ret u=>exact z
   | next=>exact z
   | brk=>exact z
   | cont=>exact z
 | error e =>
   revert z;refine GJ λ_ _ _ _=>Kf λ_ _ _ _ _ _ _ z=>?_;exact z
noncomputable def Uc (rs:List BN) (K:Str):Bool:=decide (rs.length<=30)&&decide (K.length<=90000)&&(K.cps.toList.all λk=>decide (k=47)||decide (k=32)||((DW rs (sg k)).isSome&&decide (k≠47)&&decide (k≠32)))&&(K.cps.toList.isEmpty||decide (K.cps.toList.getLast?=some 47)) &&
 ((DW rs (sg 47)).isNone&&(DW rs (sg 32)).isNone&&(DW rs "").isNone)&&(rs.all λr=>decide (0<=r.t)&&decide (r.t<128)&&PyData.canLay0 (.str r.s)&&decide (r.s.length<=1)&&(LL (rs.map λr=>r.t) r.t).any λk=>decide (k<rs.length))&&PyData.canLay0 (.str K)&&decide (((My rs).map List.length).sum<=2000)
def Sj{K:Str}(h:Uc rs K=true)(hz:1<=z):Mc.Ok ⟨rs,K,z⟩ (Mc.start rs):=by
 unfold Uc at h;simp only[Ae,B6,Option.isNone_iff_eq_none]at h;obtain⟨⟨⟨⟨⟨⟨⟨h1,h2⟩,h3⟩,Y⟩,I⟩,h6⟩,Z⟩,h8⟩:=h;have F:∀r∈rs,(0<=r.t/\r.t<128)/\MZ ⟨rs,K,z⟩ (r.s,r.t):=λr F=>by
  have h:=Bf.mp h6 r F;simp only[Ae,B6]at h;obtain⟨⟨⟨⟨W,J⟩,g3⟩,g4⟩,G⟩:=h;cases hf:LL (rs.map λr=>r.t) r.t with
  | none=>rw[hf]at G;cases G
  | some k =>
    rw[hf]at G
    exact⟨⟨W,J⟩,g3,g4,W,J,k,hf,Ag G⟩
 refine Mc.mD ⟨h1,h2,λk hk=>?_,?_,⟨I.1.1,I.1.2,I.2⟩,hz,λr h=>(F r h).1,Z⟩ (λr h=>(F r h).2) h8
 .grind
 .rcases(Bool.or_eq_true _ _).mp Y with h|h
  .exact .inl (E3.mp h)
  .exact .inr (Hu.mp (Ag h))
def Pw(ls:List (List Str)):Bool:=decide (ls.length<=100)&&ls.all λl=>decide (l.length<=100)&&l.all λx=>decide (x.length<=100)
def dS(h:Pw ls=true):Qi ls:=by
 unfold Pw at h;simp only[Ae,B6,Bf]at h;exact h
noncomputable def QQ (rs:List BN) (comp:List L1) (K:Str):Bool:=Pw (comp.map λx=>x.1)&&(comp.all λx=>decide (x.2.1.natAbs<=10^40)&&decide (x.2.2.natAbs<=10^40))&&decide (rs.length<=30)&&(rs.all λr=>FG.any λc=>decide (r.s=sg c))&&Uc (CG rs K) K&&Ld (CG rs K) false K.cps.toList&&((CG rs K).all λr=>decide (0<=r.n)&&decide (r.n<=1000)) &&
 (Uc rs K&&Ld rs false K.cps.toList&&rs.all λr=>decide (0<=r.n)&&decide (r.n<=1000))
def QR(h:QQ d.rs d.comp (L5 d)=true)(hz:1<=d.cast):DK d/\Li d:=by
 unfold QQ at h;simp only[Ae,B6,Bf,Dh]at h;obtain⟨⟨⟨⟨⟨⟨⟨h1,h2⟩,h3⟩,W⟩,Z⟩,G⟩,Y⟩,⟨J,I⟩,F⟩:=h;exact⟨⟨dS h1,h2,h3,W,Sj Z hz,G,Y⟩,dS h1,Sj J hz,I,F⟩
def Tl(d:Dk)(x:Str)(xs:List Str):Prop:=Pp d x xs/\dA d x xs
def LD:List Str:=["lines","gaps","keys","need","slugs","state","waited"]
def uw(I:x∈LD)(h:Tl d x xs)(h':Tl d x ys):xs=ys:=by
 obtain⟨⟨a1,a2,a3,a4⟩,a5,a6,W⟩:=h;obtain⟨⟨b1,b2,Z,b4⟩,J,Y,b7⟩:=h';simp only[LD,Aw,Bt,Ew]at I;rcases I with e|e|e|e|e|e|e
 .rw[a1 e,b1 e]
 .rw[a2 e,b2 e]
 .rw[a3 e,Z e]
 .obtain⟨qs,h1,h2⟩:=a4 e;obtain⟨aa,G,F⟩:=b4 e;rw[h2,F,h1.uniq G]
 .rw[a5 e,J e]
 .rw[a6 e,Y e]
 .rw[W e,b7 e]
def dU:∀x∈JS++LS,HE x=[x]/\EA (HE x)=true/\JB x=true:=by decide +kernel
def uz:∀x∈JS,x≠"slugs"/\x≠"state"/\x≠"waited":=by decide +kernel
def uA:∀x∈LS,x≠"lines"/\x≠"gaps"/\x≠"keys"/\x≠"need":=by decide +kernel
def uB:∀x∈LD,x∈JS\/(x∈LS/\(x="slugs"\/x="state"\/x="waited")):=by decide +kernel
section
variable {a:Ad}{H0 H:Hp}{p:Addr}{D:Da}{d:Dk}{x:Str}{Q:VK}{E:XK}
def WB(M:CF a H0 H p D d)(F:x∈LS)(i:HC a H0 H p d x Q):Om a [.ref p,.str x] H Q E:=by
 refine FN (λh1 h2 G=>?_) (dU x (Bg _ F));exact DC p H0 D d x (CQ rfl M (NP G) (by rw[h1];exact Eo _ _) (.play x h1 h2 F i))
def NR(M:CF a H0 H p D d)(ok:DK d)(hw:d.m.Á.natAbs<100000)(Z:x∈LD)(q:∀r xs H',H r=none->AD H H'->H' r=some (.lst (xs.map V.str))->Tl d x xs->Q (.ref r) H'):Om a [.ref p,.str x] H Q E:=by
 rcases uB x Z with J|⟨hm,h⟩
 .refine FN (λh1 h2 Y=>?_) (dU x (Cd _ J));refine FN (λn1 n2 n3=>?_) (uz x J);exact DC p H0 D d x (CQ rfl M (NP Y) (by rw[h1];exact Eo _ _) (.tell x h1 h2 J ok λr xs H' I F W G=>q r xs H' I F W ⟨G,(λe=>absurd e n1),(λe=>absurd e n2),λe=>absurd e n3⟩))
 .refine DP (λn1 n2 n3 n4=>?_) (uA x hm);exact WB M hm (.tell h hw λr xs H' I F W G=>q r xs H' I F W ⟨⟨(λe=>absurd e n1),(λe=>absurd e n2),(λe=>absurd e n3),λe=>absurd e n4⟩,G⟩)
end
def uC(a:Ad):Sp:=λvs H Q _=>∃(p:Addr) (H0:Hp) (D:Da) (d:Dk),vs=[.ref p]/\CF a H0 H p D d/\DK d/\d.m.Á.natAbs<100000/\∀r ys F H',H r=none->AD H H'->H' r=some (.lst ys)->Paired (Lns.KC r H') ys F->Paired (Tl d) LD F->Q (.ref r) H'
def dW(T:Tx K mg a):AG P w K mg base BL 22 (a.f 69) (a.d 69) ["_law_desk"] (uC a):=by
 have F:=Si (Sg (P:=P) (w:=w) (base:=base) T) λ_ _ _ _ h=>h
 refine T.ū.fn.ok nT (by fin2) (λag A outer s H vs Q E Z h=>?_);obtain⟨p,H0,D,d,rfl,M,ok,hw,q⟩:=h;refine⟨_,(@AJ _ _ _ (@AY _ _ _ _ (DO ["_law_desk","_law_row"] [] 1 (GC K rfl (@BM _ _ _ _ (@AC _ _ _ _ _ AN (@AC _ _ _ _ _ AN (@AC _ _ _ _ _ AN (@AC _ _ _ _ _ AN (@AC _ _ _ _ _ AN (@AC _ _ _ _ _ AN (@AC _ _ _ _ _ AN AE rfl) rfl) rfl) rfl) rfl) rfl) rfl))) (BD 1) HH (JH (K:=K) rfl T.Ù.cl T.Ï F Z JX (pv 0) (@AC _ _ _ _ _ (pv 1) AE rfl))))),?_⟩;walk;intro p1 ac;generalize e:upd H p1 _=H1;obtain⟨J,h1⟩:_/\H1 p1=some (.lst (LD.map V.str)):=GG e ac;clear e;refine⟨p1,rfl,⟨_,AH.of h1⟩,λr Z=>?_⟩;refine IX (a:=p1) (xs:=LD.map V.str) (λi ys σ H2=>∃v1 G,σ=[some (.ref p),v1]/\AD H1 H2/\H2 r=some (.lst ys)/\Paired (Lns.KC r H2) ys G/\Paired (Tl d) (LD.take i) G)
  ?_ ?_ ?_ ?_
 .exact⟨none,[],rfl,BC Z _,AA,.nil,.nil⟩
 .rintro i ys σ H2 _ ⟨v1,G,_,W,_⟩;exact W.seq (AH.of h1)
 .rintro i y ys σ H2 hy ae ⟨v1,G,rfl,W,hh,hp,ht⟩;obtain⟨x,hx,rfl⟩:=Wx hy;have M2:=M.same (J.trans W);have I2:=M2.ins;have af:=B4 hp;have ad:=B4 ht;rw[Bb]at ad
  have h7:LD.length<=7:=by decide
  walk;refine NR M2 ok hw (Af hx) λr2 xs H3 Y I h3 aa=>?_;have hn:r2≠r:=λz=>by rw[z,hh]at Y;cases Y
  refine FW ae (I _ _ hh) (by lia) ⟨_,G++[xs],rfl,EH (W.trans I) Z,AA,By (Yk (Yj hp I)) ⟨r2,rfl,hn,by rw[BE hn];exact h3⟩,?_⟩;rw[Ao,hx];exact By ht aa
 .rintro ys σ H2 ⟨v1,G,rfl,W,hh,hp,ht⟩;rw[A8,Aj (Aa _)]at ht
  exact q r ys G H2 (J.free Z) (J.trans W) hh hp ht
def JC:Str:="a 5 0000000 4\nb 6 0000001 2\nc 7 0000010 1\n- 4 0000011 0\ne 5 1000011 9"
noncomputable def BZ:List BN:=[⟨"a",5,0,4⟩,⟨"b",6,1,2⟩,⟨"c",7,2,1⟩,⟨"-",4,3,0⟩,⟨"e",5,67,9⟩]
def WC:JR (KH JC)=some BZ:=by kernel_rfl
def uD(rs:List BN)(k:Nat):Bool:=(List.range k).all λi=>(rs[i]?).all λr=>OY (rs.take i) r
def WD(h:uD rs k=true):Cs.OZ rs k:=λi r hi F=>by
 have h:=Bf.mp h i (C7.mpr hi);rw[F]at h
 exact h
def uE:QQ BZ [] (HU (([]:List L1).map λx=>x.1))=true:=by decide +kernel
def WE:Cs.Looks BZ none:=.good (Eo _ _) (WD (by decide +kernel))
def Px(x:Str):Bool:=decide (x.length<=1000)&&(x.cps.toList.all λc=>decide (c<128))&&decide ((KH x).length<=1000)&&(KH x).all λy=>decide (y.length<=1000)
def dX{x:Str}(h:Px x=true):AW x/\(KH x).length<=1000/\∀y∈KH x,y.length<=1000:=by
 unfold Px at h;simp only[Ae,B6,Bf]at h;obtain⟨⟨⟨h1,h2⟩,G⟩,F⟩:=h;have e:x.cps.toList.length=x.length:=B0;exact⟨⟨by lia,h2⟩,G,F⟩
def QS:List Str:=["a 5 0000000","",JC++"\n","a 5 0000000 4\na 6 0000001 2","a 0 0000000 4","a 5 000000 4",JC]
def Ud:List Str:=["text","text","text","case","case","text","number"]
def o7:List KO:=[.text,.text,.text,.case 1,.case 0,.text,.number]
def dY:∀x∈QS,Px x=true:=by decide +kernel
def WG:List BN:=[⟨"a",5,0,4⟩,⟨"a",6,1,2⟩]
def WH:List BN:=[⟨"a",0,0,4⟩]
def uF(F:QS[j]?=some x)(G:o7[j]?=some o)(hz:j=6->¬(1<=z/\z<=20)):MN x z o:=by
 match j,F,G,hz with
 | 0,F,G,_=>cases F;cases G;exact .text (by kernel_rfl)
 | 1,F,G,_=>cases F;cases G;exact .text (by kernel_rfl)
 | 2,F,G,_=>cases F;cases G;exact .text (by kernel_rfl)
 | 3,F,G,_=>cases F;cases G;exact .case WG 1 (by kernel_rfl) (.bad (r:=⟨"a",6,1,2⟩) (WD (by decide +kernel)) rfl (by decide +kernel))
 | 4,F,G,_=>cases F;cases G;exact .case WH 0 (by kernel_rfl) (.bad (r:=⟨"a",0,0,4⟩) (WD (by decide +kernel)) rfl (by decide +kernel))
 | 5,F,G,_=>cases F;cases G;exact .text (by kernel_rfl)
 | 6,F,G,hz=>cases F;cases G;exact .number BZ WC WE (hz rfl)
 | n+7,F,_,_=>cases F
def WI{α:Type}{xs:List α}(h:xs.length=7)(f:α->V){i:Int}(F:0<=i)(h1:i<7):∃x,xs[i.toNat]?=some x/\EN (xs.map f) i=some (f x):=by
 obtain⟨n,rfl⟩:=C1 F;have hn:n<xs.length:=by lia
 refine⟨xs[n],A9 hn,?_⟩;exact HZ (by rw[Ap,A9 hn];rfl)
def uG{j:Nat}{x y:Str}(F:QS[j]?=some x)(G:Ud[j]?=some y):(y="number"->j=6)/\(j=6->x=JC/\y="number"):=by
 match j,F,G with
 | 0,F,G=>cases F;cases G;exact⟨λe=>absurd e (by decide +kernel),λe=>absurd e (by decide)⟩
 | 1,F,G=>cases F;cases G;exact⟨λe=>absurd e (by decide +kernel),λe=>absurd e (by decide)⟩
 | 2,F,G=>cases F;cases G;exact⟨λe=>absurd e (by decide +kernel),λe=>absurd e (by decide)⟩
 | 3,F,G=>cases F;cases G;exact⟨λe=>absurd e (by decide +kernel),λe=>absurd e (by decide)⟩
 | 4,F,G=>cases F;cases G;exact⟨λe=>absurd e (by decide +kernel),λe=>absurd e (by decide)⟩
 | 5,F,G=>cases F;cases G;exact⟨λe=>absurd e (by decide +kernel),λe=>absurd e (by decide)⟩
 | 6,F,G=>cases F;cases G;exact⟨λ_=>rfl,λ_=>⟨rfl,rfl⟩⟩
 | n+7,F,G=>cases F
def uH{z:Int}(h:¬(1<=z/\z<=20)):L7 (.int z) [.int 5,.int 20]=false:=by
 unfold L7;rw[Df,Df,List.any_nil];have e:∀k:Int,k≠z->LX (.int k) (.int z)=false:=λk F=>by
  show(k==z)=false;exact Cv.mpr F
 rw[e 5 (by lia),e 20 (by lia)];rfl
def KO.fd:KO->PyData
 | .brk k=>.int (k:Int)
 | .case k=>.int (k:Int)
 | _=>.none
def uI:∀x∈MO,PyData.canLay0 (.str x)=true:=by decide +kernel
def uJ(o:KO):PyData.canLay0 (.str o.name)=true:=uI _ (Af (dQ o))
def QT{K:Frag}{H:Hp}{r:Addr}{o:KO}(h:H r=some (.lst [.str o.name,o.fld])):JE K H (.ref r) (.list [.str o.name,o.fd]):=by
 refine .lst (AH.of h) (.cons (.str _ (uJ o)) (.cons ?_ .nil));cases o<;>first|exact .non|exact .int _
def dZ(o:KO)(e:PyData):min (PyData.list [.str o.name,o.fd]).depth e.depth<=64:=by
 have h:(PyData.list [.str o.name,o.fd]).depth<=64:=by cases o<;>exact Bh rfl
 lia
def e6(x y:Str):V:=if y="case" then .int (if decide (V.str (Txt.slice x (some 2) (some 3))=V.str "0")=true then 0 else 1)else .non
def uK{j:Nat}{x y:Str}{o:KO}(F:QS[j]?=some x)(I:Ud[j]?=some y)(G:o7[j]?=some o):o.name=y/\o.fld=e6 x y:=by
 match j,F,I,G with
 | 0,F,I,G=>cases F;cases I;cases G;exact⟨rfl,by kernel_rfl⟩
 | 1,F,I,G=>cases F;cases I;cases G;exact⟨rfl,by kernel_rfl⟩
 | 2,F,I,G=>cases F;cases I;cases G;exact⟨rfl,by kernel_rfl⟩
 | 3,F,I,G=>cases F;cases I;cases G;exact⟨rfl,by kernel_rfl⟩
 | 4,F,I,G=>cases F;cases I;cases G;exact⟨rfl,by kernel_rfl⟩
 | 5,F,I,G=>cases F;cases I;cases G;exact⟨rfl,by kernel_rfl⟩
 | 6,F,I,G=>cases F;cases I;cases G;exact⟨rfl,by kernel_rfl⟩
 | n+7,F,I,G=>cases F
def uL:Sp:=λvs H Q _=>∃c:Int,vs=[.str JC,.int c]/\∀H',AD H H'->Q (.bl true) H'
def uM(T:Tx K mg a):AG P w K mg base BL 24 (a.f 68) (a.d 68) ["_law_case","_law_cell_here"] uL:=by
 have I:=@dR P w K mg base a T;have G:AG P w K mg base BL 21 (a.ħ 1) (a.Ī 1) ["self","row"] (λvs H Q _=>Om a vs H Q E0):=Si (Sg (P:=P) (w:=w) (base:=base) T) λ_ _ _ _ h=>h
 have F:AG P w K mg base BL 6 a.ē a.ď ["self","case_text","casting"] (λvs H Q _=>Wu a vs H Q E0):=Si (U6 (P:=P) (w:=w) (base:=base) T) λ_ _ _ _ h=>h
 refine T.ŀ.fn.ok Pc (λvs H Q E h=>?_) (λaM A outer s H vs Q E hr h=>?_)
 .obtain⟨c,rfl,_⟩:=h;rfl
 obtain⟨c,rfl,q⟩:=h;refine⟨_,(@AI _ _ _ _ _ (@IQ _ _ 2 _ _ _ _ Pc.nd rfl (Or.inl rfl) (BG GK AL (BG NV (BG PU (pv 1) AL) (BG fC AL AL))) rfl (Or.inl rfl))
  (@AI _ _ _ _ _ (@IQ _ _ 3 _ _ _ _ Pc.nd rfl (Or.inl rfl) (CT (EO K rfl) (@BM _ _ _ _ (@AC _ _ _ _ _ AL (@AC _ _ _ _ _ AL (@AC _ _ _ _ _ (pv 2) (@AC _ _ _ _ _ (NU NW AL) (@AC _ _ _ _ _ (BG Kj AL (pv 2)) (@AC _ _ _ _ _ AL (@AC _ _ _ _ _ AL AE rfl) rfl) rfl) rfl) rfl) rfl) rfl)) (BG NV (pv 1) AL) (λ_ _=>rfl)) rfl (Or.inl rfl))
  (@AI _ _ _ _ _ (@IQ _ _ 4 _ _ _ _ Pc.nd rfl (Or.inl rfl) (@BM _ _ _ _ (@AC _ _ _ _ _ AN (@AC _ _ _ _ _ AN (@AC _ _ _ _ _ (BG LI (pv 0) AN) (@AC _ _ _ _ _ AN (@AC _ _ _ _ _ AN (@AC _ _ _ _ _ AN (@AC _ _ _ _ _ (pv 0) AE rfl) rfl) rfl) rfl) rfl) rfl) rfl)) rfl (Or.inl rfl))
  (@AI _ _ _ _ _ (@IQ _ _ 5 _ _ _ _ Pc.nd rfl (Or.inl rfl) (CT (EO K rfl) (pv 4) (BG NV (BG PU (pv 1) AL) AL) (λ_ _=>rfl)) rfl (Or.inl rfl))
  (@AI _ _ _ _ _ (@IQ _ _ 6 _ _ _ _ Pc.nd rfl (Or.inl rfl) (CT (EO K rfl) (@BM _ _ _ _ (@AC _ _ _ _ _ AN (@AC _ _ _ _ _ AN (@AC _ _ _ _ _ AN (@AC _ _ _ _ _ AN (@AC _ _ _ _ _ AN (@AC _ _ _ _ _ AN (@AC _ _ _ _ _ AN AE rfl) rfl) rfl) rfl) rfl) rfl) rfl)) (BG NV (BG PU (pv 1) AL) AL) (λ_ _=>rfl)) rfl (Or.inl rfl))
  (@AI _ _ _ _ _ (Rf (BY (PW.pt (Ot (BX EI (pv 6) AN (BF _)) (Oq (BX (Rk K rfl) (pv 3) (@GV _ _ _ _ _ (@AC _ _ _ _ _ AL (@AC _ _ _ _ _ AL AE rfl) rfl)) (by with_unfolding_all rfl))))) (@AJ _ _ _ (@AY _ _ _ _ (FU (HN K rfl hr.units) (JH (K:=K) rfl T.Ù.cl T.Ï G hr JX (ZJ T.Ù F hr rfl (@AC _ _ _ _ _ (pv 5) (@AC _ _ _ _ _ (pv 3) AE rfl) rfl)) (@AC _ _ _ _ _ AN AE rfl)) (@BM _ _ _ _ AE) (BF _)))) CH))
  (@AI _ _ _ _ _ (@IQ _ _ 7 _ _ _ _ Pc.nd rfl (Or.inl rfl) (iL (Re hr) (iH (iF AN (CT (EO K rfl) (@BM _ _ _ _ (@AC _ _ _ _ _ AL (@AC _ _ _ _ _ AL AE rfl) rfl)) (Ky fI rfl T.ũ OJ (@AC _ _ _ _ _ (FU EI (NZ i7 (pv 5) (LK AL) (LK AL)) AN (BF _)) AE rfl)) (λ_ _=>rfl)) iE) rfl rfl (by decide) (by decide)) (pv 6) JU ⟨rfl,rfl,rfl,rfl⟩) rfl (Or.inl rfl))
  (@AJ _ _ _ (@AY _ _ _ _ (FU (HN K rfl hr.units) (CK T.Ŭ I hr rfl (@AC _ _ _ _ _ JU (@AC _ _ _ _ _ (@GV _ _ _ _ _ (@AC _ _ _ _ _ (pv 5) (@AC _ _ _ _ _ (pv 3) AE rfl) rfl)) AE rfl) rfl)) (@BM _ _ _ _ (@AC _ _ _ _ _ (pv 6) (@AC _ _ _ _ _ (pv 7) AE rfl) rfl)) (BF _))))))))))),?_⟩
 walk;try refine⟨show(0:Int)<10^Int.toNat 30 by decide,?_⟩
 have ao:21<=21+c/7%10^Int.toNat 30/\21+c/7%10^Int.toNat 30<=10^31:=by
  have h1:=Int.emod_nonneg (c/7) (show(10:Int)^Int.toNat 30≠0 by decide);have h2:=Int.emod_lt_of_pos (c/7) (show(0:Int)<10^Int.toNat 30 by decide);have h3:(10:Int)^Int.toNat 30<=10^31-21:=by decide
  lia
 walk;intro p1 aE;generalize e:upd H p1 _=H1;obtain⟨aB,h1⟩:_/\H1 p1=some (.lst ([0,21,21+c/7%10^Int.toNat 30,-1,0-(21+c/7%10^Int.toNat 30),5,20].map V.int)):=GG e aE;clear e;generalize 21+c/7%10^Int.toNat 30=af at ao h1;obtain⟨z,hz,J⟩:=WI (xs:=[0,21,af,-1,0-af,5,20]) rfl V.int (i:=c%7) (by lia) (by lia);have ad:=Af hz;have av:z.natAbs<=10^40/\((z=5\/z=20)\/¬(1<=z/\z<=20)):=by
  simp only[Aw,Bt,Ew]at ad;rcases ad with h|h|h|h|h|h|h<;>lia
 obtain⟨an,W⟩:=av;clear hz ad;walk;clear J h1;intro p2 aA;generalize e:upd H1 p2 _=H2;obtain⟨au,h2⟩:_/\H2 p2=some (.lst (QS.map V.str)):=GG e aA;clear e;have hj:0<=c/7%7/\c/7%7<7:=by lia
 obtain⟨x,hx,J⟩:=WI (xs:=QS) rfl V.str hj.1 hj.2;walk;clear J h2;intro p3 ar;generalize e:upd H2 p3 _=H3;obtain⟨aq,h3⟩:_/\H3 p3=some (.lst (Ud.map V.str)):=GG e ar;clear e;obtain⟨y,hy,J⟩:=WI (xs:=Ud) rfl V.str hj.1 hj.2;walk;clear J h3;have s3:=aB.trans (au.trans aq);obtain⟨x1,x2,x3⟩:=dX (dY x (Af hx));have ev:∀x y:Str,decide (V.str x=V.str y)=decide (x=y):=λx y=>EV
 refine⟨λσ H'=>σ=[some (.str JC),some (.int c),some (.int (21+c/7%10^Int.toNat 30)),some (.int z),some (.ref p2),some (.str x),some (.str y),none]/\AD H3 H'/\((c/7%7).toNat=6->¬(1<=z/\z<=20)),?_,?_⟩
 .obtain⟨n1,n2⟩:=uG hx hy;walk;rw[ev];by_cases hn:y="number"
  .rw[Ac hn];refine AQ ?_;obtain⟨rfl,_⟩:=n2 (n1 hn);walk;intro t ht;generalize e:upd H3 t _=H4;obtain⟨aa,h4⟩:_/\H4 t=some (.tup [.int 5,.int 20]):=GG e ht;clear e;refine⟨t,_,rfl,.inr (BS.of h4),rfl,rfl,?_⟩;rw[show ∀b:Bool,(if false=true then !b else b)=b from λ_=>rfl];rcases W with W|W
   .rw[show L7 (.int z) [.int 5,.int 20]=true by rcases W with rfl|rfl<;>rfl];refine⟨_,rfl,?_⟩;refine AQ ?_;have ae:1<=z/\z<=20:=by lia
    walk;refine λp dx hp ay ap=>?_;have s0:AD H4 (upd (upd H4 dx (.own p)) p (.ins a.į dx [])):=EU (BC ay _) (by rw[BE ap.symm];exact hp);refine⟨p,dx,JC,z,rfl,AA,x1,x2,x3,an,.ok H4 BZ WC WE ae hp s0 (Sj (by decide +kernel) ae.1) (by decide) λD H6 M6=>⟨rfl,?_⟩⟩;have I6:=M6.ins;have aJ:DK ⟨BZ,z,[],"",Mc.start BZ⟩:=(QR (d:=⟨BZ,z,[],"",Mc.start BZ⟩) uE ae.1).1;walk;refine NR (x:="lines") M6 aJ (show(0:Int).natAbs<100000 by decide) (by decide) λr xs H7 aK aD h7 aG=>?_;have aH:xs=[]:=aG.1.1 rfl;subst aH;walk;intro p8 aF;generalize e:upd H7 p8 _=H8;obtain⟨Z,h8⟩:_/\H8 p8=some (.lst []):=GG e aF;clear e;refine⟨_,_,Ks (Z _ _ h7),Ks h8,LO _,?_⟩;exact q H8 ((s3.trans aa).trans ((M6.b.sm.trans aD).trans Z))
   .rw[uH W];refine⟨_,rfl,?_⟩;refine AK ?_;exact⟨rfl,aa,λ_=>W⟩
  .rw[Ak hn];refine AK ?_;exact⟨rfl,AD.refl _,λh6=>absurd (n2 h6).2 hn⟩
 .rintro σ H4 ⟨rfl,aa,ax⟩;have s4:=s3.trans aa;intro d hd;generalize e:upd H4 d _=H5;obtain⟨aw,h5⟩:_/\H5 d=some (.dK []):=GG e hd;clear e;walk;intro p6 az;generalize e:upd H5 p6 _=H6;obtain⟨ai,h6⟩:_/\H6 p6=some (.lst [.int 1,.int 0]):=GG e az;clear e;have aL:x.length<=sizeLine:=DU (by have:=x1.len;lia);walk;have ho:o7[(c/7%7).toNat]?=some (o7.getD (c/7%7).toNat .row):=by
   have hl:(c/7%7).toNat<o7.length:=show _<7 by lia
   rw[Ba,A9 hl];rfl
  obtain⟨ag,Y⟩:=uK hx hy ho;have ak:=uF (z:=z) hx ho ax;generalize o7.getD (c/7%7).toNat .row=o at ag Y ak;clear ho;unfold e6 at Y;generalize decide (V.str (Txt.slice x (some 2) (some 3))=V.str ("0":Str))=k at Y⊢;refine .inr ⟨k,rfl,?_⟩;have J:EN [V.int 1,V.int 0] (if k=true then 1 else 0)=some (.int (if k=true then 0 else 1)):=by cases k<;>rfl
  refine⟨p6,_,_,_,rfl,rfl,AH.of h6,J,?_⟩;clear J;generalize V.int (if k=true then 0 else 1)=v at Y⊢;refine⟨ai _ _ h5,[(.inr "case",v)],rfl,(show 1<=15 by decide),?_⟩;have s7:∀u,AD H4 (upd H6 d u):=λu b w hb=>by rw[BE (FB hb hd)];exact ai _ _ (aw _ _ hb)
  have h7:upd H6 d (.dK (DZ [] [(.inr "case",v)])) d=some (.dK (DZ [] [(.inr "case",v)])):=AA;have s7:=s7 (.dK (DZ [] [(.inr "case",v)]));generalize upd H6 d (.dK (DZ [] [(.inr "case",v)]))=H7 at h7 s7⊢;refine⟨d,rfl,.inl ⟨_,.inl h7⟩,?_⟩;have hv:(CV (DZ [] [(.inr "case",v)]) (.inr y)).getD .non=o.fld:=by
   rw[Y];show(CV (EE ([]:List (DD×V)) (Sum.inr "case") v) (Sum.inr y)).getD .non=_;rw[V5];by_cases hy:y="case"
   .rw[Au (by rw[hy]),Au hy];rfl
   .rw[As (λz=>hy (Sum.inr.inj z)),As hy];rfl
  refine⟨_,rfl,_,GD.k (k:=.inr y) h7,?_⟩;rw[hv];walk;intro t8 aC;generalize e:upd H7 t8 _=H8;obtain⟨Z,h8⟩:_/\H8 t8=some (.tup [.str x,.int z]):=GG e aC;clear e;refine⟨o,.inl ⟨t8,x,z,rfl,h8,x1,x2,x3,an,ak⟩,λr H9 aN aI h9=>?_⟩;subst ag;walk;intro ah al;generalize e:upd H9 ah _=am;obtain⟨ac,aj⟩:_/\am ah=some (.lst [.str o.name,o.fld]):=GG e al;clear e;refine⟨_,_,QT (ac _ _ h9),QT aj,dZ _ _,?_⟩;rw[Le (QT (K:=K) aj)];exact q am (s4.trans (s7.trans (Z.trans (aI.trans ac))))
def Py:Str:="copy measure 30 gaps 1 4 9 set ab ba a end 2 times ( set e a end )"
def Pz:Str:="copy measure 50 gaps 1 2 3"
def PB:Str:="copy set ab ba a end"
noncomputable def Lj:List L1:=[(["ab","ba"],(8,1)),(["a"],(4,1)),(["e","a"],(4,1)),(["e","a"],(4,1))]
def PD:List L1:=[(["ab","ba","a"],(4,1))]
def e8:List PO:=[.rows [2,3],.rows [2],.rows [2]]
def CJ:Str:=HU (Lj.map λx=>x.1)
def Sk(x:Str)(os:List PO):Bool:=Ub BZ (HE x) (.run os)&&JB x&&(Pt os.getLast?).isNone
def cA:Sk Py e8=true:=by decide +kernel
def cB:Sk Pz []=true:=by decide +kernel
def cC:Sk PB [.rows [3]]=true:=by decide +kernel
def wA:L4 BZ (LU (Txt.join " " (HE Py).tail)) e8=Lj:=by kernel_rfl
def wB:L4 BZ (LU (Txt.join " " (HE Pz).tail)) []=[]:=by kernel_rfl
def wC:L4 BZ (LU (Txt.join " " (HE PB).tail)) [.rows [3]]=PD:=by kernel_rfl
def tA:QQ BZ Lj (HU (Lj.map λx=>x.1))=true:=by decide +kernel
def tB:QQ BZ [] (HU (([]:List L1).map λx=>x.1))=true:=by decide +kernel
def tC:QQ BZ PD (HU (PD.map λx=>x.1))=true:=by decide +kernel
def WJ{a:Ad}{H0 H:Hp}{p:Addr}{D:Da}{d:Dk}{x:Str}{Q:VK}{E:XK}{os:List PO}{rw:List L1}(M:CF a H0 H p D d)(W:d.rs=BZ)(h:Sk x os=true)(hw:L4 BZ (LU (Txt.join " " (HE x).tail)) os=rw)(hl:rw.length<=1000)
 (q:∀r G H',H r=none->CF a H0 H' p G { d with comp:=rw }->H' r=some (.lst [.str (DF (rw.length:Int))])->Q (.ref r) H'):Om a [.ref p,.str x] H Q E:=by
 unfold Sk at h;simp only[Ae]at h;obtain⟨⟨h1,h2⟩,F⟩:=h;refine DQ (dO h1) λus=>FN λe J I=>?_;rw[<-W]at I hw
 rw[e]at hw
 have hw:=hw;refine DC p H0 D d x (CQ rfl M (NP h2) (by rw[e];exact Eo _ _) (.copy us (.run os) e J I ?_));show Oj a H E _ os.getLast?;have fin:rw.length<=1000/\∀r G H',H r=none->CF a H0 H' p G { d with comp:=rw }->H' r=some (.lst [.str (DF (rw.length:Int))])->Q (.ref r) H':=⟨hl,q⟩
 rw[<-hw]at fin
 generalize os.getLast?=z at F⊢;cases z with
 | none=>exact fin
 | some po =>
   cases po with
   | text=>exact Bool.noConfusion F
   | brk k=>exact Bool.noConfusion F
   | rows bs=>exact fin
theorem WK:∀(n:Nat) {m:Ms},Mc.Ok c m->Mc.Ok c (BR c n m)
 | 0,_,O=>O
 | n+1,m,O=>by
   cases F:HV c m with
   | true=>rw[Mw F];exact O
   | false=>rw[Oa F];exact WK n O.tick
theorem eg:∀(n:Nat) {m:Ms},Mc.Ok c m->Mc.fin c (BR c n m)=Mc.fin c m
 | 0,_,_=>rfl
 | n+1,m,O=>by
   cases F:HV c m with
   | true=>rw[Mw F]
   | false=>rw[Oa F,eg n O.tick,Z0 O F]
def uN(c:Cf)(m:Ms):(Mc.î c m).Á<=m.Á+1/\m.Á<=(Mc.î c m).Á:=by
 unfold Mc.î;split
 .lia
 .split
  .unfold Mc.send
   lia
  .split
   .show m.Á<=m.Á+1/\m.Á<=m.Á
    lia
   .split
    .lia
    .split
     .unfold Mc.pick;split<;>(show m.Á<=m.Á+1/\m.Á<=m.Á;lia)
     .lia
def uO(c:Cf)(m:Ms):(Mc.tick c m).Á<=m.Á+1/\m.Á<=(Mc.tick c m).Á:=by
 have F:(Mc.Ą (Mc.õ c m)).Á=m.Á:=by rw[(Mc.Vz _).2.2.2.2,(Mc.Vy c m).2.2.2.2.2.2]
 have h:=uN c (Mc.Ą (Mc.õ c m));rw[F]at h
 exact h
theorem WL{c:Cf}:∀(n:Nat) (m:Ms),(BR c n m).Á<=m.Á+n/\m.Á<=(BR c n m).Á/\(BR c n m).done<=m.done+n/\m.done<=(BR c n m).done
 | 0,m=>by
   show m.Á<=m.Á+((0:Nat):Int)/\m.Á<=m.Á/\m.done<=m.done+((0:Nat):Int)/\m.done<=m.done
   lia
 | n+1,m=>by
   cases F:HV c m with
   | true=>rw[Mw F];lia
   | false =>
     rw[Oa F];have h1:=WL (c:=c) n (Mc.tick c m);have h2:=uO c m;have G:=Zb c m
     lia
def PF:List Str:=["ab ba","a","e a","e a"]
def Sl(c:Cf):Bool:=decide (CM c (Mc.start BZ)<=400)&&decide ((BR c 400 (Mc.start BZ)).texts=PF)&&P3 c (BR c 400 (Mc.start BZ))&&decide ((BR c 400 (Mc.start BZ)).Á.natAbs<1000)&&decide ((BR c 400 (Mc.start BZ)).done.natAbs<1000)
def uP:((List.range 20).all λi=>Sl ⟨BZ,CJ,1+(i:Int)⟩)=true:=by decide +kernel
def eh(hz:1<=z):Mc.Ok ⟨BZ,CJ,z⟩ (Mc.start BZ):=Sj (by decide +kernel) hz
def WM(h1:1<=z)(h2:z<=20):(Mc.fin ⟨BZ,CJ,z⟩ (Mc.start BZ)).texts=PF/\Pj ⟨BZ,CJ,z⟩ (Mc.fin ⟨BZ,CJ,z⟩ (Mc.start BZ))="rest"/\(Mc.fin ⟨BZ,CJ,z⟩ (Mc.start BZ)).Á.natAbs<1000/\(Mc.fin ⟨BZ,CJ,z⟩ (Mc.start BZ)).done.natAbs<1000:=by
 obtain⟨i,hi⟩:=C1 (show 0<=z-1 by lia);have hz:z=1+(i:Int):=by lia
 have h:=Bf.mp uP i (C7.mpr (by lia));have h:=h;rw[<-hz]at h
 unfold Sl at h;simp only[Ae,B6]at h;obtain⟨⟨⟨⟨J,G⟩,W⟩,F⟩,I⟩:=h;have e:Mc.fin ⟨BZ,CJ,z⟩ (Mc.start BZ)=BR ⟨BZ,CJ,z⟩ 400 (Mc.start BZ):=Mc.VB _ _ (eh h1) (Aa _) J;rw[e];exact⟨G,(by unfold Pj;rw[Au W]),F,I⟩
def Ue(n:Nat):Bool:=decide (HE ("tick "++DF (n:Int))=[("tick":Str),DF (n:Int)])&&EA (HE ("tick "++DF (n:Int)))&&JB (DF (n:Int))&&JB ("tick "++DF (n:Int))&&GP (DF (n:Int))&&decide (GQ (DF (n:Int))=(n:Int))
def uQ:((List.range 40).all Ue)=true:=by decide +kernel
def uR:Ue 9999=true:=by decide +kernel
def ei{a:Ad}{H0 H:Hp}{p:Addr}{D:Da}{d:Dk}{n:Nat}{Q:VK}{E:XK}(M:CF a H0 H p D d)(h:Ue n=true)(hd:n<100000)
 (q:∀r J H',H r=none->CF a H0 H' p J { d with m:=BR d.cf n d.m }->H' r=some (.lst [.str (DF ((BR d.cf n d.m).done-d.m.done))])->Q (.ref r) H'):Om a [.ref p,.str ("tick "++DF (n:Int))] H Q E:=by
 unfold Ue at h;simp only[Ae,B6]at h;obtain⟨⟨⟨⟨⟨h1,h2⟩,I⟩,F⟩,G⟩,W⟩:=h;have hb:=WL (c:=d.cf) n d.m;exact DC p H0 D d _ (CQ rfl M (NP F) (by rw[h1];exact Eo _ _) (.tick _ n h1 h2 (NP I) G W (WK n M.b.ok) (by lia) q))
def uS:((List.range 1001).all λn=>PyData.canLay0 (.str (DF (n:Int))))=true:=by decide +kernel
def eo(F:0<=i)(h1:i<=1000):PyData.canLay0 (.str (DF i))=true:=by
 obtain⟨n,rfl⟩:=C1 F;exact Bf.mp uS n (C7.mpr (by lia))
theorem eu:∀xs:List Str,(∀x∈xs,PyData.canLay0 (.str x)=true)->PyData.canLay0 (.str (Txt.join " " xs))=true
 | [],_=>by decide +kernel
 | [x],h=>by
   unfold Txt.join;rw[Cb];exact h x Al
 | x::y::xs,h=>by
   have e:Txt.join (" ":Str) (x::y::xs)=x++(" ":Str)++Txt.join (" ":Str) (y::xs):=by
    unfold Txt.join;rw[Cb,Cb];rfl
   rw[e];exact Vw (Vw (h x Al) (by decide +kernel)) (eu (y::xs) λz hz=>h z (Ah _ hz))
def NS(comp:List L1):Bool:=(comp.all λx=>PyData.canLay0 (.str (L9 x.1))&&PyData.canLay0 (.str (MG x.2)))&&PyData.canLay0 (.str (HU (comp.map λx=>x.1)))
def WN:NS Lj=true:=by decide +kernel
def uT(O:Mc.Ok d.cf d.m)(ok:DK d)(hb:NS d.comp=true)(w0:0<=d.m.Á)(J:d.m.Á<=1000)(I:x∈LD)(h:Tl d x xs):∀y∈xs,PyData.canLay0 (.str y)=true:=by
 unfold NS at hb;simp only[Ae,Bf]at hb;obtain⟨⟨a1,a2,Z,a4⟩,a5,a6,W⟩:=h;simp only[LD,Aw,Bt,Ew]at I;rcases I with e|e|e|e|e|e|e
 .rw[a1 e];intro y F;obtain⟨r,G,rfl⟩:=Cq.mp F;exact(hb.1 r G).1
 .rw[a2 e];intro y F;obtain⟨r,G,rfl⟩:=Cq.mp F;exact(hb.1 r G).2
 .rw[Z e];intro y F;rw[Az.mp F];exact hb.2
 .obtain⟨qs,Y,e2⟩:=a4 e;rw[e2];intro y F;rw[Az.mp F];obtain⟨hq,_⟩:=dv (λr G=>(ok.fn r G).2) Y (λx I=>by rw[Ex I];decide);refine eu _ λz hz=>?_;obtain⟨r,G,rfl⟩:=Cq.mp hz;exact eo (hq r G).1 (hq r G).2
 .rw[a5 e];exact O.tl
 .rw[a6 e];intro y F;rw[Az.mp F];unfold Pj;split
  .decide +kernel
  .split<;>decide +kernel
 .rw[W e];intro y F;rw[Az.mp F];exact eo w0 J
theorem ew:∀{ws:List Str}{G F:List (List Str)},(∀x∈ws,x∈LD)->Paired (Tl d) ws G->Paired (Tl d) ws F->G=F
 | _,_,_,_,.nil,.nil=>rfl
 | _,_,_,h,.cons r t,.cons I t'=>by rw[uw (h _ Al) r I,ew (λx J=>h x (Ah _ J)) t t']
noncomputable def xc:List (KO×Ev):=List.replicate 30 (.row,.row)++List.replicate 8 (.number,.tick)++List.replicate 27 (.copy,.copy .copy)++List.replicate 2 (.many,.copy .many)++List.replicate 2 (.text,.copy (.run [.text])) ++
 [(.text,.copy (.run [.rows [1],.text])),(.brk 0,.copy (.run [.brk 0])),(.brk 0,.copy (.run [.brk 0])),(.brk 2,.copy (.run [.rows [1],.brk 2])),(.brk 0,.copy (.run [.brk 0])),(.text,.copy (.run [.text])),(.many,.copy .many)]
def PH:V->V->Bool
 | .non,.non=>true
 | .int i,.int j=>decide (i=j)
 | _,_=>false
def uU:∀{u v:V},PH u v=true->u=v:=by
 intro u v h;unfold PH at h
 lia
def PJ(m:Mn)(e:KO×Ev):Bool:=NQ BZ m.1 e.1 e.2&&JB m.1&&!(HE m.1).isEmpty&&decide (e.1.name=m.2.1)&&PH e.1.fld m.2.2&&PyData.canLay0 (.str m.2.1)
def uV:(decide (QN.length=xc.length)&&(QN.zip xc).all λx=>PJ x.1 x.2)=true:=by decide +kernel
def uW:QN.length=76:=by decide +kernel
def uX{i:Nat}{m:Mn}(h:QN[i]?=some m):∃o I,NQ BZ m.1 o I=true/\Oi m.1/\HE m.1≠[]/\o.name=m.2.1/\o.fld=m.2.2/\PyData.canLay0 (.str m.2.1)=true:=by
 obtain⟨h1,h2⟩:=(Ae _ _).mp uV;have h1:=Ag h1;have hi:i<xc.length:=by
  grind
 have hm:(m,xc[i])∈QN.zip xc:=Af (i:=i) (by rw[List.getElem?_zip_eq_some];exact⟨h,A9 hi⟩);have F:PJ m xc[i]=true:=Bf.mp h2 _ hm;unfold PJ at F;simp only[Ae,B6,Ee]at F;obtain⟨⟨⟨⟨⟨g1,J⟩,G⟩,W⟩,Y⟩,Z⟩:=F;exact BK _ _ (GS g1 (NP J) (λe=>by rw[e]at G;cases G) W (uU Y) Z)
def HG{K:Frag}(h:H r=some (.lst (xs.map V.str)))(hl:∀x∈xs,PyData.canLay0 (.str x)=true):JE K H (.ref r) (Ln.Nu xs):=.lst (AH.of h) (Ln.Vb hl)
theorem ez(O:Mc.Ok d.cf d.m)(ok:DK d)(hb:NS d.comp=true)(J:0<=d.m.Á)(I:d.m.Á<=1000):∀{ws:List Str}{G:List (List Str)},(∀x∈ws,x∈LD)->Paired (Tl d) ws G->∀l∈G,∀y∈l,PyData.canLay0 (.str y)=true
 | _,_,_,.nil,l,F=>nomatch F
 | _,_,h,.cons r t,l,F=>by
   rcases Aw.mp F with rfl|F
   .exact uT O ok hb J I (h _ Al) r
   .exact ez O ok hb J I (λx W=>h x (Ah _ W)) t l F
def uY{a:Ad}{D:Da}(M:CF a H0 H p D d)(I:HV d.cf d.m=true)(q:∀r G H',H r=none->CF a H0 H' p G d->H' r=some (.lst [.str "0"])->Q (.ref r) H'):Om a [.ref p,.str "tick 9999"] H Q E:=by
 rw[show("tick 9999":Str)="tick "++DF ((9999:Nat):Int) by decide +kernel];refine ei M uR (by decide) λr G H' h1 h2 F=>?_;have e:BR d.cf 9999 d.m=d.m:=Mw I _;rw[e]at h2 F
 rw[Int.sub_self,show DF 0="0" by decide +kernel]at F
 exact q r G H' h1 h2 F
def sp_law(K:Frag):Sp:=λvs H Q _=>∃(l:Addr) (ns:List Int),vs=[.ref l]/\AH K H l (ns.map V.int)/\ns.length<=63/\∀H',Q (.bl true) H'
def ok_law(T:Tx K mg a):AG P w K mg base BL lawLevel (a.f 70) (a.d 70) ["_law_script"] (sp_law K):=by
 have F:AG P w K mg base BL 21 (a.ħ 1) (a.Ī 1) ["self","row"] (λvs H Q _=>Om a vs H Q E0):=Si (Sg T) λ_ _ _ _ h=>h
 have W:AG P w K mg base BL 6 a.ē a.ď ["self","case_text","casting"] (λvs H Q _=>Wu a vs H Q E0):=Si (U6 T) λ_ _ _ _ h=>h
 refine T.law.fn.ok NM (by fin2) (λbS A outer s H vs Q E G h=>?_);revert h;refine FO λl ns=>DP λaw hS hl q=>?_;subst aw;refine⟨_,(@AI _ _ _ _ _ (@IQ _ _ 1 _ _ _ _ NM.nd rfl (Or.inl rfl) AN rfl (Or.inl rfl))
  (@AI _ _ _ _ _ (@IQ _ _ 2 _ _ _ _ NM.nd rfl (Or.inl rfl) (ZJ T.Ù W G rfl (@AC _ _ _ _ _ (pv 1) (@AC _ _ _ _ _ (BG GK AL (BG NV (CK T.Ű (bZ T) G rfl (@AC _ _ _ _ _ (pv 0) (@AC _ _ _ _ _ AL AE rfl) rfl)) AL)) AE rfl) rfl)) rfl (Or.inl rfl))
  (@AI _ _ _ _ _ (BY (BX (GW K rfl G.units) (JH (K:=K) rfl T.Ù.cl T.Ï F G JX (pv 2) (@AC _ _ _ _ _ AN AE rfl)) (@BM _ _ _ _ (@AC _ _ _ _ _ AN AE rfl)) (BF _)) (@AJ _ _ _ (@AY _ _ _ _ LG)) CH)
  (@AI _ _ _ _ _ (BY (PW.pt (Nc (BX (GW K rfl G.units) (JH (K:=K) rfl T.Ù.cl T.Ï F G JX (pv 2) (@AC _ _ _ _ _ AN AE rfl)) (@BM _ _ _ _ AE) (BF _)) (Os (BX Kx (CS (GA K rfl) rfl T.Ò ET (@AC _ _ _ _ _ (JH (K:=K) rfl T.Ù.cl T.Ï F G JX (pv 2) (@AC _ _ _ _ _ (BG LI AN (Ky Qp rfl T.vg Q2 (@AC _ _ _ _ _ (BG NV (BG PU (CK T.Ű (bZ T) G rfl (@AC _ _ _ _ _ (pv 0) (@AC _ _ _ _ _ AL AE rfl) rfl)) AL) AL) AE rfl))) AE rfl)) AE rfl)) AL (BF _))))) (@AJ _ _ _ (@AY _ _ _ _ LG)) CH)
  (@AI _ _ _ _ _ (@IQ _ _ 3 _ _ _ _ NM.nd rfl (Or.inl rfl) (gL T.vA (ui T) G rfl) rfl (Or.inl rfl))
  (@AI _ _ _ _ _ (@IQ _ _ 4 _ _ _ _ NM.nd rfl (Or.inl rfl) (CK T.ū (dW T) G rfl (@AC _ _ _ _ _ (pv 2) AE rfl)) rfl (Or.inl rfl))
  (@AI _ _ _ _ _ (IR Bm rfl (GC K rfl (NZ (Q7 K rfl) (pv 0) (LK AL) (LK AL))) (AO 5 NM.nd) (@AI _ _ _ _ _ (BY (LV (GU (CK T.ŀ (uM T) G rfl (@AC _ _ _ _ _ (pv 1) (@AC _ _ _ _ _ (pv 5) AE rfl) rfl)))) (@AJ _ _ _ (@AY _ _ _ _ LG)) CH)
  (@AI _ _ _ _ _ (HY (CT (EO K rfl) (pv 3) (BG NV (pv 5) (CS (GA K rfl) rfl T.Ò ET (@AC _ _ _ _ _ (pv 3) AE rfl))) (λ_ _=>rfl)) (Vp K rfl (n:=3) rfl (BJ (AO 6 NM.nd) (BJ (AO 7 NM.nd) (BJ (AO 8 NM.nd) FD)))))
  (@AJ _ _ _ (BY (PW.pt (Nc (BX (GW K rfl G.units) (CK T.Ŭ (dR T) G rfl (@AC _ _ _ _ _ (pv 2) (@AC _ _ _ _ _ (pv 6) AE rfl) rfl)) (@BM _ _ _ _ (@AC _ _ _ _ _ (pv 7) (@AC _ _ _ _ _ (pv 8) AE rfl) rfl)) (BF _)) (Os (BX (GW K rfl G.units) (CK T.ū (dW T) G rfl (@AC _ _ _ _ _ (pv 2) AE rfl)) (pv 4) (BF _))))) (@AJ _ _ _ (@AY _ _ _ _ LG)) CH)))))
  (@AI _ _ _ _ _ (BY (PW.pt (Nc (BX Kx (CS (GA K rfl) rfl T.Ò ET (@AC _ _ _ _ _ (JH (K:=K) rfl T.Ù.cl T.Ï F G JX (pv 2) (@AC _ _ _ _ _ AN AE rfl)) AE rfl)) AL (BF _)) (Os (BX (GW K rfl G.units) (JH (K:=K) rfl T.Ù.cl T.Ï F G JX (pv 2) (@AC _ _ _ _ _ AN AE rfl)) (@BM _ _ _ _ (@AC _ _ _ _ _ AN (@AC _ _ _ _ _ AN (@AC _ _ _ _ _ AN (@AC _ _ _ _ _ AN AE rfl) rfl) rfl) rfl)) (BF _))))) (@AJ _ _ _ (@AY _ _ _ _ LG)) CH)
  (@AI _ _ _ _ _ (BY (PW.pt (Nc (BX (GW K rfl G.units) (JH (K:=K) rfl T.Ù.cl T.Ï F G JX (pv 2) (@AC _ _ _ _ _ AN AE rfl)) (JH (K:=K) rfl T.Ù.cl T.Ï F G JX (pv 2) (@AC _ _ _ _ _ AN AE rfl)) (BF _)) (Nc (BX (GW K rfl G.units) (JH (K:=K) rfl T.Ù.cl T.Ï F G JX (pv 2) (@AC _ _ _ _ _ AN AE rfl)) (@BM _ _ _ _ (@AC _ _ _ _ _ AN AE rfl)) (BF _)) (Os (BX (GW K rfl G.units) (JH (K:=K) rfl T.Ù.cl T.Ï F G JX (pv 2) (@AC _ _ _ _ _ AN AE rfl)) (@BM _ _ _ _ (@AC _ _ _ _ _ AN AE rfl)) (BF _)))))) (@AJ _ _ _ (@AY _ _ _ _ LG)) CH)
  (@AI _ _ _ _ _ (BY (PW.pt (Nc (BX (GW K rfl G.units) (JH (K:=K) rfl T.Ù.cl T.Ï F G JX (pv 2) (@AC _ _ _ _ _ AN AE rfl)) (@BM _ _ _ _ (@AC _ _ _ _ _ AN AE rfl)) (BF _)) (Nc (BX (GW K rfl G.units) (JH (K:=K) rfl T.Ù.cl T.Ï F G JX (pv 2) (@AC _ _ _ _ _ AN AE rfl)) (@BM _ _ _ _ AE) (BF _)) (Os (BX (GW K rfl G.units) (JH (K:=K) rfl T.Ù.cl T.Ï F G JX (pv 2) (@AC _ _ _ _ _ AN AE rfl)) (@BM _ _ _ _ (@AC _ _ _ _ _ AN AE rfl)) (BF _)))))) (@AJ _ _ _ (@AY _ _ _ _ LG)) CH)
  (@AJ _ _ _ (@AY _ _ _ _ (@HL _ _ _ _ _ _ _ (FU (HN K rfl G.units) (JH (K:=K) rfl T.Ù.cl T.Ï F G JX (pv 2) (@AC _ _ _ _ _ AN AE rfl)) (@BM _ _ _ _ (@AC _ _ _ _ _ AN AE rfl)) (BF _)) (@Ki _ _ _ _ _ (FU (HN K rfl G.units) (JH (K:=K) rfl T.Ù.cl T.Ï F G JX (pv 2) (@AC _ _ _ _ _ AN AE rfl)) (@BM _ _ _ _ (@AC _ _ _ _ _ AN AE rfl)) (BF _)))))))))))))))),?_⟩
 walk;refine EB l 0 ns (BP rfl hS (by decide) (λc=>?_));walk;refine λp dx hp bl a5=>?_;obtain⟨z,br⟩:∃z,z=1+c%20:=⟨_,rfl⟩
 have hz:1<=z/\z<=20:=by lia
 have s0:AD H (upd (upd H dx (.own p)) p (.ins a.į dx [])):=EU (BC bl _) (by rw[BE a5.symm];exact hp);refine FN (λx1 x2 x3=>?_) (dX (dY JC (by decide +kernel)));refine CA p dx JC z (DT (by rw[br];rfl) AA x1 x2 x3 (by lia) (.ok H BZ WC WE hz hp s0 (Sj (by decide +kernel) hz.1) (by decide) λD H1 M1=>⟨rfl,?_⟩));have I1:=M1.ins;walk;refine WJ (x:=Py) M1 rfl cA wA (by decide) λr1 D2 H2 a' M2 h2=>?_;have e4:DF ((Lj.length:Nat):Int)="4":=by decide +kernel
 rw[e4]at h2
 walk;intro p3 al;generalize e:upd H2 p3 _=H3;obtain⟨ax,h3⟩:_/\H3 p3=some (.lst ([("4":Str)].map V.str)):=GG e al;clear e;have ac:∀x∈[("4":Str)],PyData.canLay0 (.str x)=true:=by decide +kernel
 refine BK _ _ (BP (HG (xs:=["4"]) (ax _ _ h2) ac) (HG h3 ac) (Nv _ _) ?_);rw[Le (HG (K:=K) h3 ac)];have M3:=M2.same ax;have I3:=M3.ins;have a7:=QR (d:={ (⟨BZ,z,[],"",Mc.start BZ⟩:Dk)with comp:=Lj }) tA hz.1;refine AX _ (CC rfl ?_);refine AK ?_;walk;refine WB (x:="start") M3 (by decide) (.start rfl a7.2 λr4 D4 H4 bq M4 h4=>?_);walk;intro p5 bt;generalize e:upd H4 p5 _=H5;obtain⟨aF,h5⟩:_/\H5 p5=some (.lst []):=GG e bt;clear e;refine BK _ _ (BP (Ks (aF _ _ h4)) (Ks h5) (LO _) ?_);rw[Le (Ks (K:=K) h5)];have M5:=M4.same aF;have I5:=M5.ins;refine AX _ (CC rfl ?_);refine AK ?_;walk;refine EB l 0 ns (BP rfl (M5.b.sm.seq hS) (by decide) (λc2=>?_));have aL:0<=c2/20%40/\c2/20%40<40:=by lia
 walk;refine⟨DU (by have:=dw (i:=c2/20%40) (by lia);rw[show("tick ":Str).length=5 by decide];lia),?_⟩;obtain⟨n,hn⟩:=C1 aL.1;rw[hn];have aN:n<40:=by lia
 clear hn aL;refine ei (n:=n) M5 (Bf.mp uQ n (C7.mpr aN)) (by lia) λr6 D6 H6 bd M6 h6=>?_;have hO:=eh hz.1;have aq:=WK n hO;have ai:=WL (c:=⟨BZ,CJ,z⟩) n (Mc.start BZ);have aX:=eg n hO;have M6:CF a H H6 p D6 ⟨BZ,z,Lj,CJ,BR ⟨BZ,CJ,z⟩ n (Mc.start BZ)⟩:=M6;have ai:(BR ⟨BZ,CJ,z⟩ n (Mc.start BZ)).Á<=0+(n:Int)/\0<=(BR ⟨BZ,CJ,z⟩ n (Mc.start BZ)).Á/\(BR ⟨BZ,CJ,z⟩ n (Mc.start BZ)).done<=0+(n:Int)/\0<=(BR ⟨BZ,CJ,z⟩ n (Mc.start BZ)).done:=ai;generalize DF ((BR (Dk.cf _) n _).done-_)=s6 at h6;generalize BR ⟨BZ,CJ,z⟩ n (Mc.start BZ)=m at M6 aq ai aX;have au:DK ⟨BZ,z,Lj,CJ,m⟩:=(QR (d:=⟨BZ,z,Lj,CJ,m⟩) tA hz.1).1;walk;refine BK r6 _ (BQ rfl (.inl (AH.of h6)) ?_);walk;refine λpr ys H7 bI bo bn aP=>?_;have M7:=M6.same bo;walk;refine CA p H D6 _ (CQ rfl M7 au (show m.Á.natAbs<100000 by lia) (λrb yb bw H8 bG aK bz a8 aS=>?_));have vt:=ez (d:=⟨BZ,z,Lj,CJ,m⟩) aq au WN ai.2.1 (show m.Á<=1000 by lia) (λx hx=>hx) aS;have M8:=M7.same aK;walk;refine BK l _ (BQ rfl (M8.b.sm.seq hS) (λps bh=>?_));refine DQ (Cs.ij ns (some 1) (some 11)) λms=>BW λaO bO=>?_;rw[aO];generalize e:upd H8 ps _=H9;obtain⟨ar,h9⟩:_/\H9 ps=some (.lst (ms.map V.int)):=GG e bh;clear e;have M9:=M8.same ar;have bv:ys.length=76:=(B4 aP).trans uW;refine AX ps (BQ rfl ⟨_,AH.of h9⟩ ?_)
 let Izz:zT:=λi σ H'=>∃v5 v6 v7 v8,σ=[some (.ref l),some (.str JC),some (.ref p),some (.ref pr),some (.ref rb),v5,v6,v7,v8]/\AD H9 H'
 refine R4 (K:=K) (a:=ps) (xs:=ms.map V.int) Izz
  ⟨_,_,_,_,rfl,AD.refl _⟩ (by rintro i σ H' _ ⟨_,_,_,_,_,hs⟩;exact hs.seq (AH.of h9)) ?_ ?_
 .refine λi y σ Ha hy=>GJ λv5 v6 v7 v8=>BW λag af=>?_;subst ag;refine DQ (SM hy) λc3=>BW λaZ _=>?_;subst aZ;walk;refine λHb ao=>?_;refine AX _ (CC rfl ?_);refine AK ?_;have sb:=aK.trans (ar.trans (af.trans ao));have a4:=sb _ _ bn;walk;try refine⟨pr,_,rfl,.inl (AH.of a4),?_⟩
  rw[bv];have hi:0<=c3%((76:Nat):Int)/\c3%((76:Nat):Int)<76:=by lia
  obtain⟨k,hk⟩:=C1 hi.1;have aY:k<ys.length:=by lia
  obtain⟨m0,be,e0,a6,_,hm⟩:=IG aP (A9 aY);have bu:EN ys (c3%((76:Nat):Int))=some (.ref e0):=by
   rw[hk,<-a6];exact HZ (A9 aY)
  refine On (uX be) λo ev=>GH λg1 g2 g3 g4 g5 g6=>?_;walk;clear bu;have hm:=sb _ _ hm;rw[<-g4,<-g5]at hm
  have aW:=M7.same sb;have Ic:=aW.ins;refine BK _ _ (BP rfl (AH.of hm) rfl ?_);x_go;x_go;x_go;try refine And.intro rfl ?_
  walk;refine AX o (CC (.inr ⟨p,H,D6,_,m0.1,ev,rfl,aW,g2,g3,g1⟩) (λrc Hc bQ ae hc=>?_));walk;intro pd bi;generalize e:upd Hc pd _=Hd;obtain⟨Z,hd⟩:_/\Hd pd=some (.lst [.str o.name,o.fld]):=GG e bi;clear e;refine BK _ _ (BP (QT (Z _ _ hc)) (QT hd) (dZ _ _) ?_);rw[Le (QT (K:=K) hd)];refine AX _ (CC rfl ?_);refine AK ?_;have sd:=sb.trans (ae.trans Z);have Md:=M7.same sd;walk;refine CA p H D6 _ (CQ rfl Md au (show m.Á.natAbs<100000 by lia) (λre ye xe He bW aj he ba bb=>?_));obtain rfl:=ew (λx hx=>hx) aS bb;have aD:AD H8 He:=ar.trans (af.trans (ao.trans (ae.trans (Z.trans aj))));have ak:JE K He (.ref re) (Lns.Ve bw):=.lst (AH.of he) (Vf ba vt);walk;refine BK _ _ (BP ak (.lst (AH.of (aD _ _ bz)) (Vf (Yj a8 aD) vt)) (Lns.jt _ _) ?_);rw[Le ak];refine AX _ (CC rfl ?_);refine AK ?_;exact CA _ _ _ _ (CC rfl (af.trans (ao.trans (ae.trans (Z.trans aj)))))
 .refine λσ Ha=>GJ λv5 v6 v7 v8=>BW λag af=>?_;subst ag;have Ma:=M9.same af;have Ia:=Ma.ins;refine DP (λf1 f2 f3 f4=>?_) (WM hz.1 hz.2);rw[<-aX]at f1 f2 f3 f4
  have aH:=(Z1 aq).1;walk;refine WB (x:="run") Ma (by decide) (.run rfl (show((Mc.fin ⟨BZ,CJ,z⟩ m).done-m.done).natAbs<100000 by lia) λr1 D1 Hb a' Mb hb=>?_);have Mb:CF a H Hb p D1 ⟨BZ,z,Lj,CJ,Mc.fin ⟨BZ,CJ,z⟩ m⟩:=Mb;generalize Mc.fin ⟨BZ,CJ,z⟩ m=w at f1 f2 f3 f4 aH Mb;generalize DF (Ms.done _-_)=s1 at hb;have Ib:=Mb.ins;have ah:DK ⟨BZ,z,Lj,CJ,w⟩:=(QR (d:=⟨BZ,z,Lj,CJ,w⟩) tA hz.1).1;have Y:w.Á.natAbs<100000:=by lia
  refine BK r1 _ (BQ rfl (.inl (AH.of hb)) ?_);walk;have aa:∀x∈PF,PyData.canLay0 (.str x)=true:=by decide +kernel
  refine NR (x:="slugs") Mb ah Y (by decide) λr2 xs Hc bK ae hc I=>?_;have J:xs=PF:=(I.2.1 rfl).trans f1;subst J;walk;intro p3 al;generalize e:upd Hc p3 _=Hd;obtain⟨Z,hd⟩:_/\Hd p3=some (.lst (PF.map V.str)):=GG e al;clear e;refine BK _ _ (BP (HG (Z _ _ hc) aa) (HG hd aa) (Nv _ _) ?_);rw[Le (HG (K:=K) hd aa)];refine AX _ (CC rfl ?_);refine AK ?_;have Md:=(Mb.same ae).same Z;have Id:=Md.ins;walk;refine NR (x:="lines") Md ah Y (by decide) λr4 xs He bq aj he I=>?_;have J:xs=PF:=(I.1.1 rfl).trans (by kernel_rfl);subst J;have Me:=Md.same aj;have Ie:=Me.ins;walk;refine NR (x:="slugs") Me ah Y (by decide) λr5 xs Hf bP a2 hf I=>?_;have J:xs=PF:=(I.2.1 rfl).trans f1;subst J;refine BK _ _ (BP (HG (a2 _ _ he) aa) (HG hf aa) (Nv _ _) ?_);rw[Le (HG (K:=K) hf aa)];refine AX _ (CC rfl ?_);refine AK ?_;have Mf:=Me.same a2;have If:=Mf.ins;walk;have ap:∀x∈[("rest":Str)],PyData.canLay0 (.str x)=true:=by decide +kernel
  refine NR (x:="state") Mf ah Y (by decide) λr6 xs Hg bd bf hg I=>?_;have J:xs=[("rest":Str)]:=(I.2.2.1 rfl).trans (C6 (λx=>[x]) f2);subst J;walk;intro p7 bg;generalize e:upd Hg p7 _=Hh;obtain⟨a3,hh⟩:_/\Hh p7=some (.lst ([("rest":Str)].map V.str)):=GG e bg;clear e;refine BK _ _ (BP (HG (xs:=["rest"]) (a3 _ _ hg) ap) (HG hh ap) (Nv _ _) ?_);rw[Le (HG (K:=K) hh ap)];refine AX _ (CC rfl ?_);refine AK ?_;have Mh:=(Mf.same bf).same a3;have Ih:=Mh.ins;walk;have ad:∀x∈[("0":Str)],PyData.canLay0 (.str x)=true:=by decide +kernel
  refine uY Mh aH λr8 D8 Hi bM Mi hi=>?_;walk;intro p9 bj;generalize e:upd Hi p9 _=Hj;obtain⟨aU,hj⟩:_/\Hj p9=some (.lst ([("0":Str)].map V.str)):=GG e bj;clear e;refine BK _ _ (BP (HG (xs:=["0"]) (aU _ _ hi) ad) (HG hj ad) (Nv _ _) ?_);rw[Le (HG (K:=K) hj ad)];refine AX _ (CC rfl ?_);refine AK ?_;have Mj:=Mi.same aU;have Ij:=Mj.ins;walk;refine WJ (x:=Pz) Mj rfl cB wB (by decide) λbR bB Hk bH Mk hk=>?_;rw[show DF ((([]:List L1).length:Nat):Int)="0" by decide +kernel]at hk
  walk;intro a0 aQ;generalize e:upd Hk a0 _=Hl;obtain⟨aJ,hl⟩:_/\Hl a0=some (.lst ([("0":Str)].map V.str)):=GG e aQ;clear e;refine BK _ _ (BP (HG (xs:=["0"]) (aJ _ _ hk) ad) (HG hl ad) (Nv _ _) ?_);rw[Le (HG (K:=K) hl ad)];refine AX _ (CC rfl ?_);refine AK ?_;have Ml:CF a H Hl p bB ⟨BZ,z,[],CJ,w⟩:=Mk.same aJ;have Il:=Ml.ins;have aM:DK ⟨BZ,z,[],CJ,w⟩:=(QR (d:=⟨BZ,z,[],CJ,w⟩) tB hz.1).1;walk;refine NR (x:="lines") Ml aM Y (by decide) λbV xs Hm bE a9 hm I=>?_;have J:xs=[]:=I.1.1 rfl;subst J;walk;intro aE aA;generalize e:upd Hm aE _=Hn;obtain⟨aG,hn⟩:_/\Hn aE=some (.lst []):=GG e aA;clear e;refine BK _ _ (BP (Ks (aG _ _ hm)) (Ks hn) (LO _) ?_);rw[Le (Ks (K:=K) hn)];refine AX _ (CC rfl ?_);refine AK ?_;have Mn:=(Ml.same a9).same aG;have In:=Mn.ins;walk;have an:∀x∈[("":Str)],PyData.canLay0 (.str x)=true:=by decide +kernel
  refine NR (x:="keys") Mn aM Y (by decide) λbU xs Ho bF bp ho I=>?_;have J:xs=[("":Str)]:=(I.1.2.2.1 rfl).trans (by kernel_rfl);subst J;walk;intro av ay;generalize e:upd Ho av _=bc;obtain⟨aV,a1⟩:_/\bc av=some (.lst ([("":Str)].map V.str)):=GG e ay;clear e;refine BK _ _ (BP (HG (xs:=[""]) (aV _ _ ho) an) (HG a1 an) (Nv _ _) ?_);rw[Le (HG (K:=K) a1 an)];refine AX _ (CC rfl ?_);refine AK ?_;have Mp:=(Mn.same bp).same aV;have Ip:=Mp.ins;walk;refine WJ (x:=PB) Mp rfl cC wC (by decide) λbT bx Hq bJ Mq hq=>?_;rw[show DF ((PD.length:Nat):Int)="1" by decide +kernel]at hq
  have am:∀x∈[("1":Str)],PyData.canLay0 (.str x)=true:=by decide +kernel
  walk;intro aT aC;generalize e:upd Hq aT _=Hr;obtain⟨aI,G⟩:_/\Hr aT=some (.lst ([("1":Str)].map V.str)):=GG e aC;clear e;refine BK _ _ (BP (HG (xs:=["1"]) (aI _ _ hq) am) (HG G am) (Nv _ _) ?_);rw[Le (HG (K:=K) G am)];have Mr:CF a H Hr p bx ⟨BZ,z,PD,CJ,w⟩:=Mq.same aI;have Ir:=Mr.ins;have bA:DK ⟨BZ,z,PD,CJ,w⟩:=(QR (d:=⟨BZ,z,PD,CJ,w⟩) tC hz.1).1;walk;walk;refine NR (x:="gaps") Mr bA Y (by decide) λbL xs Hs bD bN bC I=>?_;have J:xs=[("4":Str)]:=(I.1.2.1 rfl).trans (by kernel_rfl);subst J;walk;intro az aR;generalize e:upd Hs az _=Ht;obtain⟨aB,ht⟩:_/\Ht az=some (.lst ([("4":Str)].map V.str)):=GG e aR;clear e;refine BK _ _ (BP (HG (xs:=["4"]) (aB _ _ bC) ac) (HG ht ac) (Nv _ _) ?_);rw[Le (HG (K:=K) ht ac)];exact q _
section
open PySem.W PyProof.Rows
open Hd (qr qi qs qt qb qe qF qG qT qN qf qg qC HD qP qU qI qW qD qv qX qM z3)
noncomputable section
abbrev m0:Value:=qs "__main__" 164
abbrev m1:Value:=qs "linecaster.errors" 194
abbrev m2:Value:=qs "linecaster.cases" 419
abbrev m3:Value:=qs "linecaster.lines" 490
abbrev m4:Value:=qs "linecaster.breaking" 553
abbrev m5:Value:=qs "linecaster.copies" 615
abbrev m6:Value:=qs "linecaster.casetexts" 731
abbrev m7:Value:=qs "linecaster.jobs" 780
abbrev m8:Value:=qs "linecaster.keys" 830
abbrev m9:Value:=qs "linecaster.bars" 867
abbrev eA:Value:=qs "linecaster.matrices" 887
abbrev JL:Value:=qs "linecaster.machine" 909
abbrev Ug:Value:=qs "linecaster.needs" 1091
abbrev Kv:Value:=qs "linecaster.desk" 1131
abbrev PL:Value:=qs "law_linecaster_k60_rows_refused" 1284
abbrev u(l r:List Obj):List Obj:=l++r
abbrev fA(n:Nat)(x:String)(i t l a:Nat)(ls:List Nat)(pm:Value)(ns:List String)(r:List Obj):List Obj:=Hd.hA n x x (top i) t l a ls pm ns r
abbrev fB(n:Nat)(x:String)(i t l a:Nat)(ls:List Nat)(pm:Value)(r:List Obj):List Obj:=Hd.hB n x x (top i) t l a ls pm r
abbrev gA(n:Nat)(x y:String)(i j t l a:Nat)(ls:List Nat)(pm:Value)(ns:List String)(r:List Obj):List Obj:=Hd.hA n x y (EG (top i) j) t l a ls pm ns r
abbrev gB(n:Nat)(x y:String)(i j t l a:Nat)(ls:List Nat)(pm:Value)(r:List Obj):List Obj:=Hd.hB n x y (EG (top i) j) t l a ls pm r
abbrev cN(P:Params)(n:Nat)(x:String)(b l t:Nat)(m:Value)(r:List Obj):List Obj:=qT [qr b]::qP::qD 4 [qe P "__module__" (t+7) m,qe P "__qualname__" (t+9) (qs x (t+8)),qe P "__firstlineno__" (t+11) (.int l (t+10)),qv P "__static_attributes__" (t+12) (n+7)]::qT []::qN []::qM x (t+2) l (n+3) (t+5)::qW (n+5) (n+2) m::qT []::qD 2 [qe P "__module__" (t+7) m,qe P "__firstlineno__" (t+11) (.int l (t+10)),qv P "__static_attributes__" (t+12) (n+7),qe P "__doc__" (t+13) .none]::qX x b (n+9) (n+8) n t (t+8)::qU (n+9)::qI (n+9)::r
abbrev cI(P:Params)(n:Nat)(x y:String)(i b l t:Nat)(a:String)(m:Value)(r:List Obj):List Obj:=qT [qr b]::qP::qD 5 [qe P "__module__" (t+7) m,qe P "__qualname__" (t+9) (qs x (t+8)),qe P "__firstlineno__" (t+11) (.int l (t+10)),qv P "__init__" (t+19) (n+13),qv P "__static_attributes__" (t+21) (n+14)]::qT []::qN (z3 [l+2,4,n+12])::qM x (t+2) l (n+3) (t+5)::qW (n+5) (n+2) m::gA (n+7) "__init__" y i 0 (t+12) (l+2) 2 [] m ["self",a] (qT [qs a (t+20)]::qD 2 [qe P "__module__" (t+7) m,qe P "__firstlineno__" (t+11) (.int l (t+10)),qv P "__init__" (t+19) (n+13),qv P "__static_attributes__" (t+21) (n+14),qe P "__doc__" (t+22) .none]::qX x b (n+16) (n+15) n t (t+8)::qU (n+16)::qI (n+16)::r)
abbrev x0(P:Params):List DictEntry:=[qv P "__init__" 1234 756,qv P "copy_keys" 1240 761,qv P "say" 1249 768,qv P "take_copy" 1257 775,qv P "tell_copy" 1263 780,qv P "play" 1271 787,qv P "__static_attributes__" 1276 788]
abbrev x1(P:Params):List DictEntry:=[qv P "__init__" 935 528,qv P "next_key" 942 535,qv P "lacks_matrix" 950 542,qv P "stuck" 957 549,qv P "resting" 964 556,qv P "move_bar" 972 563,qv P "move_caster" 978 568,qv P "move_line" 986 575,qv P "send_line" 993 582,qv P "take" 1001 589,qv P "tick" 1008 596,qv P "run" 1016 603,qv P "ticks" 1023 610,qv P "slugs" 1030 617,qv P "waited" 1037 624,qv P "channels" 1043 629,qv P "numbers_lying" 1049 634,qv P "gathered" 1056 641,qv P "in_caster" 1063 648,qv P "bar" 1070 655,qv P "__static_attributes__" 1083 656]
def hO(P:Params):List Obj :=
 u [boot_o_0 P,boot_o_1 P,boot_o_2 P,qD 107 [qe P "__name__" 165 (qs "law_linecaster_k60_rows_refused" 1284),qe P "__doc__" 166 .none,qe P "__package__" 167 .none,qe P "__loader__" 168 (qb "__main__.__loader__#opaque"),qe P "__spec__" 169 .none,qv P "__annotations__" 170 6,qv P "__builtins__" 171 4,qe P "__file__" 173 (qs "/claim/cut.py" 172),qe P "__cached__" 174 .none,qv P "_wall" 193 21,qv P "CasterError" 213 31,qv P "NoCase" 238 51,qv P "TooMany" 254 63,qv P "Loose" 279 82,qv P "Tight" 304 101,qv P "NoBreak" 329 120,qv P "NoCopy" 345 132,qv P "NoKeys" 370 151,qv P "NoText" 386 163,qv P "NoNumber" 402 175,qv P "NoRow" 418 187,qe P "SIGNS" 422 (qs "abcdefghijklmnopqrstuvwxyz.,-'" 421),qv P "is_sign" 429 196,qv P "is_channel" 440 203,qv P "can_stand" 452 210,qv P "look_at_case" 461 217,qv P "channel_of" 471 224,qv P "can_set" 477 229,qv P "width_of" 483 234,qv P "codes_of" 489 239,qv P "body_of" 497 244,qv P "misfit" 509 251,qv P "greatest_divisor" 517 258,qv P "lowest_terms" 526 265,qv P "full_gap" 539 272,qv P "last_gap" 552 279,qv P "cost_of" 568 286,qv P "costs_of" 574 291,qv P "can_follow" 584 298,qv P "choices" 590 303,qv P "table_of" 596 308,qv P "most_in_full_lines" 602 313,qv P "breaks_of" 608 318,qv P "broken_lines" 614 323,qe P "FIGURES" 618 (qs "0123456789" 617),qe P "MOST_BRACKETS" 620 (.int (4) 619),qv P "is_number" 626 328,qv P "is_set_word" 632 333,qv P "word_at" 640 340,qv P "read_number" 651 347,qv P "look_for" 660 354,qv P "read_measure" 668 361,qv P "read_gaps" 679 368,qv P "read_set" 688 375,qv P "read_times" 700 382,qv P "read_job" 709 389,qv P "read_jobs" 720 396,qv P "read_copy" 730 403,qe P "NUMBER_OF_TEETH" 734 (.int (7) 733),qv P "is_teeth" 740 408,qv P "read_teeth" 749 415,qv P "is_row" 760 422,qv P "read_row" 773 429,qv P "read_case" 779 434,qe P "FIRST_MEASURE" 783 (.int (100) 782),qv P "FIRST_GAPS" 787 435,qe P "MOST_PARAGRAPHS" 789 (.int (60) 788),qe P "MOST_WORDS" 791 (.int (400) 790),qv P "add_paragraph" 797 440,qv P "do_times" 810 447,qv P "do_jobs" 821 454,qv P "opened_jobs" 829 461,qe P "GAP_KEY" 833 (qs " " 832),qe P "SEND_KEY" 835 (qs "/" 834),qv P "keys_of" 841 466,qv P "is_sign_key" 848 473,qv P "goes_on" 857 480,qv P "look_at_keys" 866 487,qv P "has_all" 876 494,qv P "falls_at" 886 501,qv P "can_break" 902 508,qv P "channels_of" 908 513,qe P "WEDGE" 912 (qs " " 911),qv P "Machine" 1090 658,qv P "free_case" 1098 667,qv P "numbers_out" 1104 672,qv P "needs_and_peaks" 1119 679,qv P "need_of" 1130 686,qe P "MOST_CASTING" 1134 (.int (20) 1133),qv P "COPY_ROWS" 1139 687,qv P "MACHINE_ROWS" 1145 688,qv P "is_known" 1152 695,qv P "read_ticks" 1159 702,qv P "gaps_of" 1165 707,qv P "set_paragraph" 1178 714,qv P "set_copy" 1188 721,qv P "shown_gap" 1197 728,qv P "state_of" 1204 735,qv P "tick_often" 1213 742,qv P "Desk" 1283 790,qv P "_law_cell" 1293 801,qv P "_law_rows" 1299 806,qv P "_law_tried" 1307 813,qv P "_law_kind" 1313 818,qv P "_law_not_made" 1327 825,qv P "_law_seen" 1333 830,qv P "law" 1348 837],boot_o_4 P,boot_o_5 P,boot_o_6 P,boot_o_7 P,boot_o_8 P,boot_o_9 P,boot_o_10 P,qT [],qN (z3 [1,0,20,5,0,27,7,0,40,12,0,59,14,0,71,19,0,90,24,0,109,29,0,128,31,0,140,36,0,159,38,0,171,40,0,183,44,0,195,46,0,202,49,0,209,52,0,216,58,0,223,63,0,228,65,0,233,67,0,238,70,0,243,72,0,250,77,0,257,81,0,264,84,0,271,93,0,278,99,0,285,105,0,290,116,0,297,118,0,302,121,0,307,126,0,312,132,0,317,143,0,322,148,0,327,152,0,332,154,0,339,156,0,346,161,0,353,164,0,360,166,0,367,171,0,374,179,0,381,190,0,388,198,0,395,204,0,402,212,0,407,214,0,414,219,0,421,224,0,428,230,0,433,239,0,439,245,0,446,252,0,453,263,0,460,270,0,465,272,0,472,274,0,479,278,0,486,285,0,493,287,0,500,293,0,507,298,0,512,311,0,519,416,0,666,418,0,671,420,0,678,431,0,685,438,0,694,446,0,701,450,0,706,453,0,713,460,0,720,465,0,727,468,0,734,472,0,741,477,0,748,525,0,800,529,0,805,557,0,812,562,0,817,579,0,824,589,0,829,591,0,836]),qM "<module>" 182 1 11 185,qW 13 3 (qs "__main__" 164)] <|
 fA 15 "_wall" 0 187 1 1 [] m0 ["k"] <|
 u [qT [(qt "ValueError")],qP,qD 4 [qe P "__module__" 203 (qs "linecaster.errors" 194),qe P "__qualname__" 205 (qs "CasterError" 204),qe P "__firstlineno__" 207 (.int (5) 206),qv P "__static_attributes__" 208 29],qT [],qN [],qM "CasterError" 198 5 25 201,qW 27 24 (qs "linecaster.errors" 194),qT [],qD 3 [qe P "__module__" 203 (qs "linecaster.errors" 194),qe P "__firstlineno__" 207 (.int (5) 206),qv P "__static_attributes__" 208 29,qv P "__weakref__" 210 32,qe P "__doc__" 211 .none],⟨(qt "type"),.none,(.cls ⟨(.ofString "CasterError"),[(qt "ValueError")],[(qr 31),(qt "ValueError"),(qt "Exception"),(qt "BaseException"),(qt "object")],30,(.ofString "CasterError"),true,[],[(qr 51),(qr 63),(qr 82),(qr 101),(qr 120),(qr 132),(qr 151),(qr 163),(qr 175),(qr 187)],false,.none,false⟩),#[(.some (qr 22)),.none,(.some (qs "CasterError" 196)),(.some (qs "CasterError" 204)),(.some (qb "ValueError.__new__")),(.some (.bool true))]⟩,⟨(qt "getset_descriptor"),.none,(.fields #[(qs "__weakref__" 209),(qr 31),(qb "ExceptionGroup.__weakref__"),.none]),#[]⟩,qU 31,qI 31] <|
 cI P 35 "NoCase" "NoCase.__init__" 3 31 7 214 "at" m1 <|
 cN P 54 "TooMany" 31 12 239 m1 <|
 cI P 66 "Loose" "Loose.__init__" 5 31 14 255 "by" m1 <|
 cI P 85 "Tight" "Tight.__init__" 6 31 19 280 "by" m1 <|
 cI P 104 "NoBreak" "NoBreak.__init__" 7 31 24 305 "words" m1 <|
 cN P 123 "NoCopy" 31 29 330 m1 <|
 cI P 135 "NoKeys" "NoKeys.__init__" 9 31 31 346 "at" m1 <|
 cN P 154 "NoText" 31 36 371 m1 <|
 cN P 166 "NoNumber" 31 38 387 m1 <|
 cN P 178 "NoRow" 31 40 403 m1 <|
 fA 190 "is_sign" 15 423 44 1 [] m2 ["text"] <|
 fA 197 "is_channel" 16 430 46 1 [] m2 ["channel","sign","width","teeth","many"] <|
 fA 204 "can_stand" 17 441 49 2 [] m2 ["ahead","channel","sign","width","teeth","many"] <|
 fA 211 "look_at_case" 18 453 52 1 [] m2 ["case","at","channel"] <|
 fA 218 "channel_of" 19 462 58 2 [] m2 ["case","sign","number","channel"] <|
 fB 225 "can_set" 20 472 63 2 [] m2 <|
 fB 230 "width_of" 21 478 65 2 [] m2 <|
 fB 235 "codes_of" 22 484 67 1 [] m2 <|
 fB 240 "body_of" 24 492 70 2 [] m3 <|
 fA 245 "misfit" 25 498 72 3 [] m3 ["spare","many","gaps","low","ideal","high"] <|
 fA 252 "greatest_divisor" 26 510 77 2 [] m3 ["one","other"] <|
 fA 259 "lowest_terms" 27 518 81 2 [] m3 ["top","bottom","divisor"] <|
 fA 266 "full_gap" 28 527 84 4 [] m3 ["case","line","measure","gaps","many","spare","off"] <|
 fA 273 "last_gap" 29 540 93 4 [] m3 ["case","line","measure","gaps","low","ideal","high"] <|
 fA 280 "cost_of" 31 555 99 4 [] m4 ["spare","many","gaps","last","low","ideal","high","off"] <|
 fB 287 "costs_of" 32 569 105 4 [] m4 <|
 fA 292 "can_follow" 33 575 116 4 [] m4 ["costs","table","start","end"] <|
 fB 299 "choices" 34 585 118 3 [] m4 <|
 fB 304 "table_of" 35 591 121 2 [] m4 <|
 fB 309 "most_in_full_lines" 36 597 126 2 [] m4 <|
 fB 314 "breaks_of" 37 603 132 4 [] m4 <|
 fB 319 "broken_lines" 38 609 143 2 [] m4 <|
 fB 324 "is_number" 42 621 148 1 [] m5 <|
 fB 329 "is_set_word" 43 627 152 1 [] m5 <|
 fA 334 "word_at" 44 633 154 2 [] m5 ["words","at"] <|
 fA 341 "read_number" 45 641 156 4 [] m5 ["words","at","low","high","word"] <|
 fA 348 "look_for" 46 652 161 3 [] m5 ["words","at","word"] <|
 fA 355 "read_measure" 47 661 164 2 [] m5 ["words","at"] <|
 fA 362 "read_gaps" 48 669 166 2 [] m5 ["words","at","low","ideal","high"] <|
 fA 369 "read_set" 49 680 171 2 [] m5 ["words","at","end"] <|
 fA 376 "read_times" 50 689 179 3 [] m5 ["words","at","brackets","many","jobs","end"] <|
 fA 383 "read_job" 51 701 190 3 [] m5 ["words","at","brackets"] <|
 fA 390 "read_jobs" 52 710 198 3 [] m5 ["words","at","brackets","jobs","job"] <|
 fA 397 "read_copy" 53 721 204 1 [] m5 ["text","words","jobs","end"] <|
 fB 404 "is_teeth" 56 735 212 1 [] m6 <|
 fA 409 "read_teeth" 57 741 214 1 [] m6 ["word","teeth","figure"] <|
 fA 416 "is_row" 58 750 219 1 [] m6 ["words","sign","width","teeth","many"] <|
 fA 423 "read_row" 59 761 224 2 [] m6 ["at","row","words","sign","width","teeth","many"] <|
 fB 430 "read_case" 60 774 230 1 [] m6 <|
 u [qT [(.int (2) 784),(.int (4) 785),(.int (8) 786)]] <|
 fB 436 "add_paragraph" 66 792 239 2 [] m7 <|
 fA 441 "do_times" 67 798 245 5 [] m7 ["many","jobs","measure","gaps","paragraphs","again","ahead"] <|
 fA 448 "do_jobs" 68 811 252 4 [] m7 ["jobs","measure","gaps","paragraphs","job"] <|
 fA 455 "opened_jobs" 69 822 263 1 [] m7 ["jobs","paragraphs"] <|
 fB 462 "keys_of" 73 836 270 1 [] m8 <|
 fA 467 "is_sign_key" 74 842 272 1 [] m8 ["key"] <|
 fA 474 "goes_on" 75 849 274 3 [] m8 ["case","keys","at"] <|
 fA 481 "look_at_keys" 76 858 278 2 [] m8 ["case","keys","at"] <|
 fA 488 "has_all" 78 869 285 2 [] m9 ["teeth","others"] <|
 fA 495 "falls_at" 79 877 287 2 [] m9 ["codes","teeth","channel","code"] <|
 fA 502 "can_break" 81 889 293 4 [] eA ["case","ahead","channel","teeth","sign","width","own","many"] <|
 fB 509 "channels_of" 82 903 298 2 [] eA <|
 u [qT [],qP,qD 24 ([qe P "__module__" 920 (qs "linecaster.machine" 909),qe P "__qualname__" 922 (qs "Machine" 921),qe P "__firstlineno__" 924 (.int (311) 923)]++x1 P),qT [],qN (z3 [313,4,527,328,4,534,331,4,541,335,4,548,338,4,555,341,4,562,346,4,567,355,4,574,366,4,581,373,4,588,377,4,595,386,4,602,392,4,609,395,4,616,398,4,623,401,4,628,404,4,633,407,4,640,410,4,647,413,4,654]),qM "Machine" 915 311 517 918,qW 519 516 (qs "linecaster.machine" 909),qT [.none],qT [],qN [],qT [(qs "self" 928),(qs "case" 929),(qs "keys" 930),(qs "casting" 931),(qs "broken" 932)],qT [],qg "__init__" "Machine.__init__" (EG (top 85) 0),qC "__init__" "Machine.__init__" 925 313 5 0 0 3 522 true 523 .none (qr 524) (qr 525) (qr 526) 933 934,⟨(qt "function"),.none,(qF "__init__" "Machine.__init__" (EG (top 85) 0) (qr 521) .none .none (qs "linecaster.machine" 909) .none (qr 527) .none),#[]⟩] <|
 gA 529 "next_key" "Machine.next_key" 85 1 936 328 1 [] JL ["self"] <|
 gA 536 "lacks_matrix" "Machine.lacks_matrix" 85 2 943 331 1 [] JL ["self","channel"] <|
 gA 543 "stuck" "Machine.stuck" 85 3 951 335 1 [] JL ["self"] <|
 gA 550 "resting" "Machine.resting" 85 4 958 338 1 [] JL ["self"] <|
 gA 557 "move_bar" "Machine.move_bar" 85 5 965 341 1 [] JL ["self","matrix"] <|
 gB 564 "move_caster" "Machine.move_caster" 85 6 973 346 1 [] JL <|
 gA 569 "move_line" "Machine.move_line" 85 7 979 355 1 [] JL ["self","key"] <|
 gA 576 "send_line" "Machine.send_line" 85 8 987 366 1 [] JL ["self"] <|
 gA 583 "take" "Machine.take" 85 9 994 373 2 [] JL ["self","part"] <|
 gA 590 "tick" "Machine.tick" 85 10 1002 377 1 [] JL ["self"] <|
 gA 597 "run" "Machine.run" 85 11 1009 386 1 [] JL ["self","ahead"] <|
 gA 604 "ticks" "Machine.ticks" 85 12 1017 392 1 [] JL ["self"] <|
 gA 611 "slugs" "Machine.slugs" 85 13 1024 395 1 [] JL ["self"] <|
 gA 618 "waited" "Machine.waited" 85 14 1031 398 1 [] JL ["self"] <|
 gB 625 "channels" "Machine.channels" 85 15 1038 401 1 [] JL <|
 gB 630 "numbers_lying" "Machine.numbers_lying" 85 16 1044 404 1 [] JL <|
 gA 635 "gathered" "Machine.gathered" 85 17 1050 407 1 [] JL ["self"] <|
 gA 642 "in_caster" "Machine.in_caster" 85 18 1057 410 1 [] JL ["self"] <|
 gA 649 "bar" "Machine.bar" 85 19 1064 413 1 [] JL ["self"] <|
 u [qT [(qs "case" 1071),(qs "casting" 1072),(qs "done" 1073),(qs "hanging" 1074),(qs "heated" 1075),(qs "line" 1076),(qs "lying" 1077),(qs "played" 1078),(qs "struck" 1079),(qs "texts" 1080),(qs "to_go" 1081),(qs "waits" 1082)],qD 4 ([qe P "__module__" 920 JL,qe P "__firstlineno__" 924 (.int (311) 923)]++x1 P++[qv P "__dict__" 1085 659,qv P "__weakref__" 1087 660,qe P "__doc__" 1088 .none]),⟨(qt "type"),.none,(.cls ⟨(.ofString "Machine"),[(qt "object")],[(qr 658),(qt "object")],657,(.ofString "Machine"),true,[],[],false,.none,false⟩),#[.none,.none,(.some (qs "Machine" 913)),(.some (qs "Machine" 921)),(.some (qb "object.__new__")),(.some (.bool true))]⟩,⟨(qt "getset_descriptor"),.none,(.fields #[(qs "__dict__" 1084),(qr 658),(qb "function.__dict__"),(qb "function.__dict__#set")]),#[]⟩,⟨(qt "getset_descriptor"),.none,(.fields #[(qs "__weakref__" 1086),(qr 658),(qb "ExceptionGroup.__weakref__"),.none]),#[]⟩,qU 658,qI 658] <|
 fB 663 "free_case" 87 1093 416 2 [] Ug <|
 fB 668 "numbers_out" 88 1099 418 2 [] Ug <|
 fA 673 "needs_and_peaks" 89 1105 420 3 [] Ug ["case","keys","casting","free","machine","needs","peaks","channel","out"] <|
 fA 680 "need_of" 90 1120 431 3 [] Ug ["case","keys","casting","needs","peaks"] <|
 u [qT [(qs "lines" 1135),(qs "gaps" 1136),(qs "keys" 1137),(qs "need" 1138)],qT [(qs "start" 1140),(qs "run" 1141),(qs "slugs" 1142),(qs "state" 1143),(qs "waited" 1144)]] <|
 fA 689 "is_known" 95 1146 438 1 [] Kv ["words"] <|
 fA 696 "read_ticks" 96 1153 446 1 [] Kv ["word"] <|
 fB 703 "gaps_of" 97 1160 450 4 [] Kv <|
 fA 708 "set_paragraph" 98 1166 453 2 [] Kv ["case","paragraph","measure","gaps","words","word","lines"] <|
 fA 715 "set_copy" 99 1179 460 2 [] Kv ["case","text","rows","paragraph"] <|
 fA 722 "shown_gap" 100 1189 465 1 [] Kv ["gap","top","bottom"] <|
 fA 729 "state_of" 101 1198 468 1 [] Kv ["machine"] <|
 fA 736 "tick_often" 102 1205 472 2 [] Kv ["machine","often","done"] <|
 u [qT [],qP,qD 10 ([qe P "__module__" 1221 Kv,qe P "__qualname__" 1223 (qs "Desk" 1222),qe P "__firstlineno__" 1225 (.int (477) 1224)]++x0 P),qT [],qN (z3 [479,4,755,487,4,760,490,4,767,500,4,774,504,4,779,513,4,786]),qM "Desk" 1216 477 746 1219,qW 748 745 Kv] <|
 gA 750 "__init__" "Desk.__init__" 103 0 1226 479 3 [] Kv ["self","case_text","casting"] <|
 gB 757 "copy_keys" "Desk.copy_keys" 103 1 1235 487 1 [] Kv <|
 gA 762 "say" "Desk.say" 103 2 1241 490 2 [] Kv ["self","row","words"] <|
 gA 769 "take_copy" "Desk.take_copy" 103 3 1250 500 2 [] Kv ["self","text"] <|
 gB 776 "tell_copy" "Desk.tell_copy" 103 4 1258 504 2 [] Kv <|
 gA 781 "play" "Desk.play" 103 5 1264 513 2 [] Kv ["self","word"] <|
 u [qT [(qs "case" 1272),(qs "casting" 1273),(qs "composed" 1274),(qs "machine" 1275)],qD 4 ([qe P "__module__" 1221 Kv,qe P "__firstlineno__" 1225 (.int (477) 1224)]++x0 P++[qv P "__dict__" 1278 791,qv P "__weakref__" 1280 792,qe P "__doc__" 1281 .none]),⟨(qt "type"),.none,(.cls ⟨(.ofString "Desk"),[(qt "object")],[(qr 790),(qt "object")],789,(.ofString "Desk"),true,[],[],false,.none,false⟩),#[.none,.none,(.some (qs "Desk" 1214)),(.some (qs "Desk" 1222)),(.some (qb "object.__new__")),(.some (.bool true))]⟩,⟨(qt "getset_descriptor"),.none,(.fields #[(qs "__dict__" 1277),(qr 790),(qb "function.__dict__"),(qb "function.__dict__#set")]),#[]⟩,⟨(qt "getset_descriptor"),.none,(.fields #[(qs "__weakref__" 1279),(qr 790),(qb "ExceptionGroup.__weakref__"),.none]),#[]⟩,qU 790,qI 790] <|
 fA 795 "_law_cell" 105 1286 525 2 [] PL ["_law_script","_law_k"] <|
 fB 802 "_law_rows" 106 1294 529 0 [] PL <|
 fA 807 "_law_tried" 107 1300 557 2 [] PL ["_law_desk","_law_row"] <|
 fB 814 "_law_kind" 108 1308 562 2 [] PL <|
 fA 819 "_law_not_made" 109 1314 579 2 [] PL ["_law_case","_law_cell_here","_law_far","_law_time","_law_texts","_law_text","_law_due","_law_at"] <|
 fB 826 "_law_seen" 110 1328 589 1 [] PL <|
 fA 831 "law" 111 1334 591 1 [] PL ["_law_script","_law_case","_law_desk","_law_rows_here","_law_before","_law_cell_here","_law_row","_law_kind_here","_law_field"] <|
 []
def hA(P:Params):List Obj:=[boot_o_0 P,boot_o_1 P,boot_o_2 P,boot_o_3 P,boot_o_4 P,boot_o_5 P,boot_o_6 P,boot_o_7 P,boot_o_8 P,boot_o_9 P,boot_o_10 P,(hO P).getD 11 (qT []),qN [],(hO P).getD 13 (qT []),(hO P).getD 14 (qT [])]
abbrev has:List Addr:=[2,3,15,17,18,20,21,22,29,30,31,32,35,42,44,45,47,48,49,50,51,54,61,62,63,66,73,75,76,78,79,80,81,82,85,92,94,95,97,98,99,100,101,104,111,113,114,116,117,118,119,120,123,130,131,132,135,142,144,145,147,148,149,150,151,154,161,162,163,166,173,174,175,178,185,186,187,190,192,193,195,196,197,199,200,202,203,204,206,207,209,210,211,213,214,216,217,218,220,221,223,224,225,228,229,230,233,234,235,238,239,240,243,244,245,247,248,250,251,252,254,255,257,258,259,261,262,264,265,266,268,269,271,272,273,275,276,278,279,280,282,283,285,286,287,290,291,292,294,295,297,298,299,302,303,304,307,308,309,312,313,314,317,318,319,322,323,324,327,328,329,332,333,334,336,337,339,340,341,343,344,346,347,348,350,351,353,354,355,357,358,360,361,362,364,365,367,368,369,371,372,374,375,376,378,379,381,382,383,385,386,388,389,390,392,393,395,396,397,399,400,402,403,404,407,408,409,411,412,414,415,416,418,419,421,422,423,425,426,428,429,430,433,434,435,436,439,440,441,443,444,446,447,448,450,451,453,454,455,457,458,460,461,462,465,466,467,469,470,472,473,474,476,477,479,480,481,483,484,486,487,488,490,491,493,494,495,497,498,500,501,502,504,505,507,508,509,512,513,521,522,524,525,527,528,529,531,532,534,535,536,538,539,541,542,543,545,546,548,549,550,552,553,555,556,557,559,560,562,563,564,567,568,569,571,572,574,575,576,578,579,581,582,583,585,586,588,589,590,592,593,595,596,597,599,600,602,603,604,606,607,609,610,611,613,614,616,617,618,620,621,623,624,625,628,629,630,633,634,635,637,638,640,641,642,644,645,647,648,649,651,652,654,655,656,657,658,659,660,663,666,667,668,671,672,673,675,676,678,679,680,682,683,685,686,687,688,689,691,692,694,695,696,698,699,701,702,703,706,707,708,710,711,713,714,715,717,718,720,721,722,724,725,727,728,729,731,732,734,735,736,738,739,741,742,750,752,753,755,756,757,760,761,762,764,765,767,768,769,771,772,774,775,776,779,780,781,783,784,786,787,788,789,790,791,792,795,797,798,800,801,802,805,806,807,809,810,812,813,814,817,818,819,821,822,824,825,826,829,830,831,833,834,836,837]
def hK(P:Params):Frag:=has.map λi=>(i,(hO P).getD i (qT []))
abbrev MS:Life:=⟨[],[],[],0,[],[],false,#[],[],0,false,false,false,0,[2000,10,10],false,0,true,[],[],0,false⟩
abbrev hD:HD:=⟨12298,12,0,6086,1,⟨0,0,0,0⟩,187,⟨0,0,0,0⟩,187,⟨0,0,0,0⟩,1349,838,15,⟨0,0,0,0⟩,⟨0,0,0,0⟩,⟨0,0,0,0⟩,⟨591,0,612,92⟩,(qr 13),14,(.some (qr 6))⟩
abbrev ĳ:Program:={ PySem.Challenge.pw_linecaster_k60_rows_refused with main:={ PySem.Challenge.pw_linecaster_k60_rows_refused.main with body:=[top 0,top 2,top 3,top 4,top 5,top 6,top 7,top 8,top 9,top 10,top 11,top 12,top 14,top 15,top 16,top 17,top 18,top 19,top 20,top 21,top 22,top 24,top 25,top 26,top 27,top 28,top 29,top 31,top 32,top 33,top 34,top 35,top 36,top 37,top 38,top 40,top 41,top 42,top 43,top 44,top 45,top 46,top 47,top 48,top 49,top 50,top 51,top 52,top 53,top 55,top 56,top 57,top 58,top 59,top 60,top 62,top 63,top 64,top 65,top 66,top 67,top 68,top 69,top 71,top 72,top 73,top 74,top 75,top 76,top 78,top 79,top 81,top 82,top 84,top 85,top 87,top 88,top 89,top 90,top 92,top 93,top 94,top 95,top 96,top 97,top 98,top 99,top 100,top 101,top 102,top 103,top 105,top 106,top 107,top 108,top 109,top 110,top 111] } }
end
def wu:Hd.VM PySem.Challenge.pw_linecaster_k60_rows_refused hD MS hA:=λw os=>by kernel_rfl
def WO:Hd.VN PySem.Challenge.pw_linecaster_k60_rows_refused hD MS hA:=λw os=>by kernel_rfl
def xp:Hd.Go PySem.Challenge.pw_linecaster_k60_rows_refused hD MS hA hO:=λw os=>by kernel_rfl
def xl:Hd.Fin PySem.Challenge.pw_linecaster_k60_rows_refused hD MS hO:=λw os=>by kernel_rfl
def Ŝ:Hd.Zo PySem.Challenge.pw_linecaster_k60_rows_refused hD MS hO:=λw os=>by kernel_rfl
def xh:Hd.Zp hD MS hO hK has:=λw os=>by kernel_rfl
def xR:∀P,has=(hK P).map (·.1):=λP=>by kernel_rfl
def wW:Hd.ZF PySem.Challenge.pw_linecaster_k60_rows_refused ĳ hD MS hO (Hd.Qx PySem.Challenge.rw_linecaster_k60_rows_refused ĳ):=λw os=>by kernel_rfl
def uZ:Hd.ZG PySem.Challenge.pw_linecaster_k60_rows_refused ĳ hD MS hO (Hd.Qx PySem.Challenge.rw_linecaster_k60_rows_refused ĳ):=λw os=>by kernel_rfl
def xK:Hd.ZH PySem.Challenge.pw_linecaster_k60_rows_refused ĳ hD MS hO (Hd.Qx PySem.Challenge.rw_linecaster_k60_rows_refused ĳ):=λw os=>by kernel_rfl
def ŏ:Hd.VO PySem.Challenge.pw_linecaster_k60_rows_refused ĳ hD MS hO (Hd.Qx PySem.Challenge.rw_linecaster_k60_rows_refused ĳ):=Hd.mJ wW uZ xK
def xJ:Hd.Zq PySem.Challenge.rw_linecaster_k60_rows_refused=true:=by kernel_rfl
def xH:LeftO PySem.Challenge.pw_linecaster_k60_rows_refused ĳ [] (Hd.Qx PySem.Challenge.rw_linecaster_k60_rows_refused ĳ) (Hook.obs (kHook hK has xR)) (Hook.val (kHook hK has xR)) hD.N:=Hd.mB (D:=hD) (L:=MS) (A:=hA) (O:=hO) (by kernel_rfl) (λs=>by kernel_rfl) (by kernel_rfl) (by kernel_rfl) (by kernel_rfl) wu WO xp xl Ŝ ŏ xh
def xN(h:∀kV doc pm G F ct,bindArgs (fnOf x q (JD s) (IS s) (FV s) .none kV doc pm G F ct) ⟨[],[]⟩=pure []):BA x q s []:=λ_ _ _ _ _ _ us I=>by rw[Dd.mp I];exact h _ _ _ _ _ _
def hB:Tr tb:=by
 repeat (refine And.intro (by(first|refine xN ?_|refine xS ?_|refine xg ?_|refine xM ?_|refine xV ?_|refine xT ?_);intros;rfl) ?_)
 exact trivial
def va:RR TV:=by
 repeat (refine And.intro (by(first|refine xN ?_|refine xS ?_|refine xg ?_|refine xM ?_|refine xV ?_|refine xT ?_);intros;rfl) ?_)
 exact trivial
def vb:RR TX:=by
 repeat (refine And.intro (by(first|refine xN ?_|refine xS ?_|refine xg ?_|refine xM ?_|refine xV ?_|refine xT ?_);intros;rfl) ?_)
 exact trivial
def vc{s:Shared}{fd:FuncData}{ps:List Str}{ds:List Value}(h:∀a b c d:Value,BindsTo s fd ⟨[a,b,c,d],[]⟩ (ps.zip ([a,b,c,d]++ds))):∀us:List Value,us.length=4->BindsTo s fd ⟨us,[]⟩ (ps.zip (us++ds)):=Vq (P:=λus=>BindsTo s fd ⟨us,[]⟩ (ps.zip (us++ds))) h
def vd{s:Shared}{fd:FuncData}{ps:List Str}{ds:List Value}(h:∀a b c d e:Value,BindsTo s fd ⟨[a,b,c,d,e],[]⟩ (ps.zip ([a,b,c,d,e]++ds))):∀us:List Value,us.length=5->BindsTo s fd ⟨us,[]⟩ (ps.zip (us++ds)):=YV (P:=λus=>BindsTo s fd ⟨us,[]⟩ (ps.zip (us++ds))) h
def txt{P:Params}{mg:Str->Option Value}(X:(hK P).In h)(G:h.Ns mainGlobals mg):Tx (hK P) mg ⟨Tt (hK P) tb,Tu (hK P) tb,RS (hK P) 658 TV,RT (hK P) 658 TV,RS (hK P) 790 TX,RT (hK P) 790 TX,658,528,790,756,31,51,48,63,82,79,101,98,120,117,132,151,148,163,175,187,435,687,688,GF (hK P) 528 "__init__" "Machine.__init__" (EG (top 85) 0) (.ref 521),GF (hK P) 756 "__init__" "Desk.__init__" (EG (top 103) 0) .none,GF (hK P) 48 "__init__" "NoCase.__init__" (EG (top 3) 0) .none,GF (hK P) 79 "__init__" "Loose.__init__" (EG (top 5) 0) .none,GF (hK P) 98 "__init__" "Tight.__init__" (EG (top 6) 0) .none,GF (hK P) 117 "__init__" "NoBreak.__init__" (EG (top 7) 0) .none,GF (hK P) 148 "__init__" "NoKeys.__init__" (EG (top 9) 0) .none,421,617,619,733,782,788,790,832,834,911,1133⟩:=by
 have F:(hK P).lookup 521=some (qT [.none]):=by kernel_rfl
 exact {
  f:=mG X G (by kernel_rfl) (by unfold Zs;kernel_rfl) hB
  b:=mH X G (by kernel_rfl)
  Ê:=Zw (by kernel_rfl) (by unfold VS;kernel_rfl) va
  Ô:=Zy (by kernel_rfl)
  Machine:=mI X G (by kernel_rfl) (by kernel_rfl) (λ_ _ _ _ _ _ s us I J=>vd (λ_ _ _ _ _=>BindsTo.of_defaults rfl (I _ _ F) rfl rfl rfl) us (YW J)) (λ_ _ _ _ _ _ s us I J=>vc (λ_ _ _ _=>BindsTo.of_defaults rfl (I _ _ F) rfl rfl rfl) us (YW J))
  ķ:=Zw (by kernel_rfl) (by unfold VS;kernel_rfl) vb
  Ŋ:=Zy (by kernel_rfl)
  Ù:=mL X G (by kernel_rfl) (by kernel_rfl) (xM λ_ _ _ _ _ _ _ _ _=>rfl)
  Û:=Qz X G (by kernel_rfl)
  Æ:=RU X G (by kernel_rfl) (by kernel_rfl) (xg λ_ _ _ _ _ _ _ _=>rfl)
  Î:=Qz X G (by kernel_rfl)
  á:=RU X G (by kernel_rfl) (by kernel_rfl) (xg λ_ _ _ _ _ _ _ _=>rfl)
  ä:=RU X G (by kernel_rfl) (by kernel_rfl) (xg λ_ _ _ _ _ _ _ _=>rfl)
  Ä:=RU X G (by kernel_rfl) (by kernel_rfl) (xg λ_ _ _ _ _ _ _ _=>rfl)
  Ì:=Qz X G (by kernel_rfl)
  ì:=RU X G (by kernel_rfl) (by kernel_rfl) (xg λ_ _ _ _ _ _ _ _=>rfl)
  Ö:=Qz X G (by kernel_rfl)
  Ë:=Qz X G (by kernel_rfl)
  ã:=Qz X G (by kernel_rfl)
  bi:=⟨by kernel_rfl,by kernel_rfl,by kernel_rfl⟩
  m:=Ag (by kernel_rfl)
  ŋ:=C9 X G (by kernel_rfl)
  ń:=λH=>.inr ⟨_,_,_,(by kernel_rfl:(hK P).lookup 435=some (qT [.int 2 784,.int 4 785,.int 8 786])),rfl,rfl,(by decide:3<=sizeLine),.cons ⟨_,rfl⟩ (.cons ⟨_,rfl⟩ (.cons ⟨_,rfl⟩ (.nil)))⟩
  ı:=C9 X G (by kernel_rfl)
  Ħ:=λH=>.inr ⟨_,_,_,(by kernel_rfl:(hK P).lookup 687=some (qT [.str "lines" 1135,.str "gaps" 1136,.str "keys" 1137,.str "need" 1138])),rfl,rfl,(by decide:4<=sizeLine),.cons ⟨_,rfl⟩ (.cons ⟨_,rfl⟩ (.cons ⟨_,rfl⟩ (.cons ⟨_,rfl⟩ (.nil))))⟩
  Ĵ:=C9 X G (by kernel_rfl)
  Ĩ:=λH=>.inr ⟨_,_,_,(by kernel_rfl:(hK P).lookup 688=some (qT [.str "start" 1140,.str "run" 1141,.str "slugs" 1142,.str "state" 1143,.str "waited" 1144])),rfl,rfl,(by decide:5<=sizeLine),.cons ⟨_,rfl⟩ (.cons ⟨_,rfl⟩ (.cons ⟨_,rfl⟩ (.cons ⟨_,rfl⟩ (.cons ⟨_,rfl⟩ (.nil)))))⟩
  wk:=C9 X G (by kernel_rfl)
  Ÿ:=C9 X G (by kernel_rfl)
  ģ:=C9 X G (by kernel_rfl)
  đ:=C9 X G (by kernel_rfl)
  Ģ:=C9 X G (by kernel_rfl)
  ö:=C9 X G (by kernel_rfl)
  ĝ:=C9 X G (by kernel_rfl)
  ŕ:=C9 X G (by kernel_rfl)
  Ĉ:=C9 X G (by kernel_rfl)
  vx:=C9 X G (by kernel_rfl)
  ĉ:=C9 X G (by kernel_rfl)
 }
end
end
end Lw
open PySem PySem.W PyProof.Rows
set_option maxRecDepth 100000 in
set_option maxHeartbeats 0 in
theorem PySem.Challenge.cw_linecaster_k60_rows_refused_holds : PySem.Challenge.rw_linecaster_k60_rows_refused.Holds := by
 w_on
 refine Hd.holds (st:=Lw.top 111) (x:="law") (l:=PySem.Challenge.rw_linecaster_k60_rows_refused) (q:=Lw.ĳ) (K:=Lw.hK) (as:=Lw.has) (e:=Lw.xR) (N:=Lw.hD.N) Lw.xJ Lw.xH (by kernel_rfl) (by kernel_rfl) (by kernel_rfl) (by kernel_rfl) (by decide +kernel) ⟨rfl,rfl,rfl,rfl,rfl,by decide +kernel⟩ ?hw ?hc
 (case hw=>w_witness2)
 refine L2.LY (l:=PySem.Challenge.rw_linecaster_k60_rows_refused) (n:=63) (k:=Lw.lawLevel) (x:="_law_script") (CX:=L2.BL) (sp:=Lw.sp_law) rfl (by decide) rfl ⟨rfl,by decide,by decide⟩ (λw h Y=>PySem.W.kIn_of Y) ?F ?S ?C
 case F =>
  intro w mg fa h KX G hmg;have T:=Lw.txt KX G;obtain⟨a,T⟩:∃a,Lw.Tx (Lw.hK w.params) mg a:=⟨_,T⟩
  have e0:=hmg.symm.trans T.law.mg;cases e0;exact⟨_,λs u=>.of_eq (T.law.ba [u] rfl),λbase kb nb=>Lw.ok_law T⟩
 case S=>exact λK H a ns hl hO hS=>⟨a,ns,rfl,hS,hl,λ_=>rfl⟩
 case C=>exact λ_ _ _ _ z=>z

