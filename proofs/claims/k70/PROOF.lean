import PyProof.Rows.All
import Wide.All
import OpenK.AllK
import Wide.FinOn
import Lean
import PyProof.EqAt
import PyProof.EqKinds
import PyProof.TupleCall
import PyProof.P3Eq
import PyProof.NeData
import PyProof.Rows.SortShellK
import PySem.Challenge.RW_linecaster_k70_whole_copy_to_slugs
set_option Elab.async false
set_option linter.all false
set_option maxRecDepth 100000
theorem AM{F:Sort _}{x:F}{q:Prop}:x=x\/q:=Or.inl rfl
def A6:=@List.length_map
def A7:=@List.getElem?_eq_getElem
def A8:=@PySem.wpAny_bind
def A9:=@PySem.Heap.get?_push_of_some
def Aa:=@List.length_append
def Ab:=@List.mem_cons_self
def Ac:=@List.mem_cons_of_mem
def Ae:=@decide_eq_true
def Af:=@Nat.le_refl
def Ag:=@List.mem_of_getElem?
def Ah:=@List.map_append
def Ai:=@decide_eq_false
def Aj:=@List.mem_singleton
def Ak:=@List.take_of_length_le
def Al:=@List.length_take
def Am:=@List.mem_cons
def An:=@PySem.wpAny_pure
def Ao:=@List.append_assoc
def Ap:=@Option.some.inj
def Aq:=@if_neg
def Ar:=@if_pos
def As:=@PySem.Heap.lt_size
def Au:=@Array.length_toList
def Av:=@List.append_nil
def Aw:=@Bool.and_eq_true
def Ax:=@List.getElem?_map
def Ay:=@List.take_add_one
def Az:=@List.mem_append
def B0:=@List.size_toArray
def B1:=@Bool.false_ne_true
def B2:=@List.getElem?_eq_some_iff
def B3:=@Nat.le_trans
def B4:=@PySem.Heap.get?_push_size
def B5:=@List.getD_eq_getElem?_getD
def B6:=@Option.map_eq_some_iff
def B7:=@PySem.F.plainAttrs_list
def B8:=@List.length_cons
def B9:=@Nat.zero_le
def Ba:=@PySem.F.plainAttrs_str
def Bb:=@PySem.PassesOwn.never
def Bc:=@of_decide_eq_true
def Be:=@Nat.ne_of_lt
def Bf:=@List.not_mem_nil
def Bg:=@PySem.Heap.get?_update_other
def Bh:=@PySem.Paired.length
def Bi:=@PySem.F.slot_list_append
def Bj:=@PySem.F.type_list_append
def Bk:=@List.mem_append_right
def Bl:=@PySem.Str.length_append
def Bm:=@PySem.F.slot_str_join
def Bn:=@PySem.F.type_str_join
def Bo:=@Nat.lt_of_lt_of_le
def Bp:=@PySem.StrLaws.glued_eq_join
def Bq:=@List.map_cons
def Bs:=@congrArg
def Bt:=@List.getElem_of_mem
def Bu:=@Int.eq_ofNat_of_zero_le
def Bv:=@List.getElem?_append_right
def Bw:=@List.mem_map
def Bx:=@List.length_drop
def By:=@List.nodup_cons
def Bz:=@List.getElem?_append_left
def C0:=@PyProof.Rows.callWith_type1
def C1:=@List.all_eq_true
def C2:=@beq_iff_eq
def C3:=@PySem.wpAny_Call_Name_kw
def C4:=@PySem.wpAny_setField_rec
def C5:=@PySem.wpAny_field
def C6:=@List.cons.inj
def C7:=@List.findIdx?_eq_some_iff_getElem
def C8:=@PySem.wpAny_mono
def C9:=@PySem.Heap.size_push
def Ca:=@decide_eq_decide
def Cb:=@List.cons_ne_nil
def Cc:=@PySem.wpAny_loadPart_at
def Cd:=@List.count_append
def Ce:=@PySem.Paired.snoc
def Cg:=@Nat.not_lt_zero
def Ci:=@List.length_replicate
def Cj:=@PySem.Heap.get?_update_self
def Ck:=@PySem.wpAny_truthy_bool
def Cm:=@List.drop_of_length_le
def Cn:=@PySem.StrLaws.join_length_le
def Co:=@List.replicate_succ
def Cq:=@Array.toList_append
def Cr:=@List.flatten_cons
def Ct:=@Nat.le_of_ble_eq_true
def Cu:=@PySem.wpAny_holding
def Cv:=@Option.isSome_iff_exists
def Cw:=@List.mem_append_left
def Cy:=@PySem.wpAny_newObj_type
def Cz:=@Nat.ne_of_gt
def D0:=@Nat.testBit_eq_decide_div_mod_eq
def D1:=@PySem.wpAny_nextOf_list_item
def D3:=@beq_eq_false_iff_ne
def D4:=@PySem.mem_of_lookup
def D5:=@List.length_pos_iff
def D6:=@Nat.le_succ
def D7:=@or_false
def D8:=@List.mem_filterMap
def D9:=@List.isEmpty_iff
def Dc:=@List.count_eq_zero
def Dd:=@Int.emod_lt_of_pos
def Df:=@Nat.lt_irrefl
def Dh:=@PySem.W.mg_of
def Di:=@List.mem_range
def Dj:=@Int.mul_le_mul_of_nonneg_left
def Dk:=@Bool.and_eq_true_iff
def Dl:=@Int.toNat_natCast
def Dn:=@List.nodup_append
def Do:=@List.length_eq_zero_iff
def Dp:=@List.flatMap_cons
def Dq:=@Nat.min_eq_left
def Ds:=@Int.emod_nonneg
def Dt:=@List.mem_map_of_mem
def Du:=@List.append_eq_nil_iff
def Dv:=@PySem.wpAny_standAt
def Dw:=@List.getElem_mem
def Dx:=@Bool.false_and
def Dy:=@PySem.W.callWith_K
def Dz:=@PySem.wpAny_seqItems
def E3:=@List.filterMap_append
def E4:=@List.take_append_drop
def E5:=@PySem.wpAny_passesOwn
def E6:=@Bool.eq_iff_iff
def E7:=@Nat.le_of_eq
def E8:=@PySem.codeAny_mono
def E9:=@Nat.sub_self
def Ea:=@List.mem_of_mem_take
def Eb:=@Nat.zero_add
def Ec:=@List.sum_cons
def Ed:=@PyProof.Rows.slot_tuple_getitem
def Ee:=@PySem.wpAny_isSubtype_exc
def Ef:=@List.flatMap_append
def Eg:=@PySem.F.plain_min_loop
def Eh:=@PySem.call_meets
def Ei:=@PySem.Heap.size_after_update
def Ej:=@decide_eq_true_iff
def Ek:=@List.filter_append
def El:=@Int.zero_add
def Em:=@List.length_set
def En:=@List.find?_cons
def Eo:=@List.dropLast_concat_getLast
def Ep:=@Array.getElem?_toList
def Er:=@PySem.wpAny_nextOf_list_end
def Es:=@List.getElem?_eq_none
def Et:=@List.getElem?_set
def Eu:=@Nat.lt_succ_of_lt
def Ew:=@PySem.wpAny_call
def Ex:=@List.drop_zero
def Ey:=@List.forIn_nil
def Ez:=@Int.le_refl
def F1:=@List.nodup_nil
def F3:=@PySem.wpAny_letGo
def F4:=@PySem.codeAny_call_builtin
def F5:=@Int.mul_nonneg
def F6:=@Nat.mul_le_mul_right
def F7:=@Array.getElem?_eq_some_iff
def F8:=@PySem.F.excBase_ValueError
def F9:=@if_true
def Fb:=@List.lookup_cons
def Fc:=@beq_self_eq_true
def Fd:=@Bool.or_true
def Fe:=@PySem.wpAny_pyIter_zip
def Ff:=@List.map_map
def Fg:=@List.any_eq_true
def Fh:=@List.filter_cons
def Fi:=@List.findIdx?_eq_none_iff
def Fj:=@List.drop_eq_getElem_cons
def Fk:=@List.filterMap_cons
def Fl:=@List.takeWhile_cons
def Fm:=@List.map_take
def Fn:=@List.mem_filter
def Fo:=@PySem.wpAny_execs_nil
def Fp:=@List.foldl_cons
def Fq:=@List.forIn_cons
def Fs:=@PySem.wpAny_loadPart'
def Ft:=@PySem.Code.quiet_builtin
def Fu:=@List.getElem?_replicate
def Fv:=@PySem.wpAny_callSpecial?_slot
def Fw:=@PySem.StrLaws.partsBetween_eq
def Fy:=@PySem.wpAny_pyIter_list
def Fz:=@Bool.and_false
def G0:=@Nat.succ_mul
def G2:=@PySem.wpAny_pyIter_enum
def G4:=@List.filter_eq_nil_iff
def G5:=@PySem.wpAny_tryCatch
def G6:=@List.length_pos_of_mem
def G8:=@PySem.F.slot_str_split
def G9:=@PySem.F.type_str_split
def Ga:=@List.eraseIdxIfInBounds_toArray
def Gb:=@PySem.plainObj_wpAny_Assign_Attribute
def Gc:=@PySem.W.methodCall_KW
def Ge:=@List.length_filter_le
def Gf:=@PySem.typeIs_str
def Gg:=@Nat.min_eq_right
def Gh:=@List.cons_append
def Gi:=@Array.all_toList
def Gj:=@List.any_cons
def Gk:=@Nat.add_assoc
def Gm:=@List.getElem?_set_ne
def Gn:=@List.eq_nil_of_length_eq_zero
def Gp:=@List.drop_eq_nil_iff
def Gq:=@PySem.wpAny_updateSeq_pair
def Gr:=@List.mem_of_mem_drop
def Gs:=@Option.map_some
def Gu:=@Int.natCast_add
def Gv:=@List.sum_append
def Gw:=@PySem.W.plainGet_of
def Gx:=@ne_true_of_eq_false
def Gy:=@PySem.Calls.Name_function_global
def Gz:=@PyProof.Rows.assignInOrder_cons
def Hj:=@Nat.lt_of_le_of_lt
def Hl:=@PySem.wpAny_letOwnedTupleGo_enum
def Hm:=@PySem.tupleKind_room_in1
def Hn:=@Bool.false_eq_true
def Ho:=@PySem.F.args_str_split_2
def Hq:=@List.contains_cons
def Hr:=@PySem.codeAny_call_builtin_code
def Hs:=@PySem.wpAny_check_type_call_sub
def Ht:=@List.mem_or_eq_of_mem_set
def Hu:=@List.getElem?_eq_none_iff
def Hv:=@Int.le_of_mul_le_mul_left
def Hw:=@Option.isSome_map
def Hx:=@PySem.F.entry_str_split
def Hy:=@Classical.not_not
def Hz:=@List.getElem?_take_of_lt
def Ia:=@PySem.plainId_quiet
def Ib:=@List.map_drop
def Ic:=@List.length_filterMap_le
def Ie:=@List.length_erase_of_mem
def Ig:=@PySem.wpAny_onRaise
def Ih:=@Bool.and_true
def Ii:=@List.eq_of_mem_replicate
def Ij:=@Nat.gcd_pos_of_pos_right
def Ik:=@Int.mul_assoc
def Il:=@Nat.lt_succ_self
def Im:=@Nat.min_le_right
def Io:=@if_false
def Ip:=@PySem.wpAny_call_entry
def Iq:=@Nat.succ_ne_self
def Iu:=@PySem.F.slot_str_split
def Iv:=@PySem.codeAny_call_builtin_at
def Iw:=@List.mem_flatMap
def Iy:=@Int.ediv_ediv_of_nonneg
def Iz:=@Nat.mul_div_cancel_left
def J0:=@decide_eq_false_iff_not
def J6:=@Nat.le_of_lt
def J7:=@List.getElem?_set_self
def J8:=@PySem.wpAny_rule
def J9:=@PyProof.noPylong_small
def Ja:=@PySem.W.cellsFrom_some
def Jc:=@Int.ediv_one
def Jd:=@PySem.typeIs_int
def Je:=@Nat.sub_zero
def Jf:=@Nat.succ_pos
def Jg:=@List.any_map
def Jh:=@Nat.gcd_comm
def Ji:=@List.of_mem_zip
def Jj:=@PySem.pushCells_keeps
def Jk:=@PySem.wpAny_updateSeq
def Jl:=@Int.ediv_nonneg
def Jm:=@List.count_cons
def Jn:=@PySem.F.slot_list_pop
def Jo:=@PySem.F.type_list_pop
def Jp:=@PySem.Str.cps_append
def Jq:=@PySem.wpAny_setField
def Jr:=@PySem.wpAny_newTuple
def Js:=@Bool.or_eq_false_iff
def Jt:=@Int.mul_le_mul
def Ju:=@List.drop_drop
def Jv:=@List.flatten_append
def Jw:=@Array.find?_toList
def Jx:=@PySem.W.Looks.here
def Jy:=@Option.isSome_some
def Jz:=@Array.append_empty
def K0:=@Nat.lt_of_le_of_ne
def K1:=@Array.forIn_toList
def K2:=@List.getElem?_drop
def K3:=@Option.toList_none
def K4:=@Nat.gcd_zero_right
def K5:=@List.any_eq_false
def K6:=@PySem.Within.cons
def K7:=@List.map_nil
def K8:=@decide_eq_true_eq
def K9:=@List.length_range
def Ka:=@Int.le_of_lt
def Kb:=@List.all_map
def Kc:=@Int.mul_comm
def Kd:=@Nat.add_zero
def Ke:=@Sum.inl.inj
def Kf:=@Int.pow_pos
def Kg:=@not_or
open PySem.W (Frag)
namespace L2
open PySem PySem.Spec PyProof.Rows
abbrev DH:=Sum Int Str
def Nv:DH->Value->Bool
 | .inl k,v=>Value.isInt k v
 | .inr x,v=>Value.isStrOf x v
def R7(w:World):DH->Int
 | .inl k=>hashInt k
 | .inr x=>hashStr w x
theorem Ls:∀{k:DH}{v:Value},Nv k v=true->(∃i t,k=Sum.inl i/\v=Value.int i t)\/(∃x t,k=Sum.inr x/\v=Value.str x t)
 | .inl i,v,h=>by
   obtain⟨t,e⟩:=Value.isInt_shape (k:=i) (v:=v) h;exact .inl ⟨i,t,rfl,e⟩
 | .inr x,v,h=>by
   obtain⟨t,e⟩:=Value.isStrOf_shape (x:=x) (v:=v) h;exact .inr ⟨x,t,rfl,e⟩
theorem YE(i:Int)(t:Tok):Nv (.inl i) (.int i t)=true:=by simp[Nv,Value.isInt]
theorem YF(x:Str)(t:Tok):Nv (.inr x) (.str x t)=true:=by simp[Nv,Value.isStrOf]
theorem YG(a b:Int):decide ((Sum.inl a:DH)=Sum.inl b)=(a==b):=by
 by_cases e:a=b
 .subst e;simp
 .have h:¬(Sum.inl a:DH)=Sum.inl b:=λq=>e (Ke q)
  rw[Ai h];exact(D3.mpr e).symm
theorem YH(a b:Str):decide ((Sum.inr a:DH)=Sum.inr b)=decide (a=b):=by
 by_cases e:a=b
 .subst e;simp
 .have h:¬(Sum.inr a:DH)=Sum.inr b:=λq=>e (Sum.inr.inj q)
  rw[Ai h,Ai e]
theorem YI(a:Int)(b:Str):decide ((Sum.inl a:DH)=Sum.inr b)=false:=Ai (λq=>nomatch q)
theorem YJ(a:Str)(b:Int):decide ((Sum.inr a:DH)=Sum.inl b)=false:=Ai (λq=>nomatch q)
def JZ(prog:Program)(w:World):PySem.KeyKind prog w DH where
 is:=Nv
 hash:=R7 w
 inj:=λv a b G hb=>by
  rcases Ls G with⟨i,t,rfl,rfl⟩|⟨x,t,rfl,rfl⟩
  .rcases Ls hb with⟨j,u,rfl,e⟩|⟨y,u,rfl,e⟩
   .injection e with e1 _;rw[e1]
   .exact nomatch e
  .rcases Ls hb with⟨j,u,rfl,e⟩|⟨y,u,rfl,e⟩
   .exact nomatch e
   .injection e with e1 _;rw[e1]
 byValue:=λk v h=>by
  rcases Ls h with⟨i,t,rfl,rfl⟩|⟨x,t,rfl,rfl⟩<;>rfl
 pyHash:=λF h=>by
  rcases Ls F with⟨i,t,rfl,rfl⟩|⟨x,t,rfl,rfl⟩
  .exact wpAny_pyHash_int h
  .exact wpAny_pyHash_str h
 eqBool:=λI F h=>by
  rcases Ls I with⟨i,t,rfl,rfl⟩|⟨x,t,rfl,rfl⟩
  .rcases Ls F with⟨j,u,rfl,rfl⟩|⟨y,u,rfl,rfl⟩
   .rw[YG]at h;exact wpAny_eqBool_int h
   .rw[YI]at h;exact SeqAt.EqAt.int_str i t y u _ _ _ _ h
  .rcases Ls F with⟨j,u,rfl,rfl⟩|⟨y,u,rfl,rfl⟩
   .rw[YJ]at h;exact SeqAt.EqAt.str_int x t j u _ _ _ _ h
   .rw[YH]at h;exact wpAny_eqBool_str h
 «strs»:=λk x t v h=>by
  rcases Ls h with⟨i,u,rfl,e⟩|⟨y,u,rfl,e⟩
  .exact nomatch e
  .injection e with e1 _
   subst e1;cases v<;>rfl
theorem YK(prog:Program)(w:World)(i:Int)(t:Tok):(JZ prog w).is (.inl i) (.int i t)=true:=YE i t
theorem YL(prog:Program)(w:World)(x:Str)(t:Tok):(JZ prog w).is (.inr x) (.str x t)=true:=YF x t
inductive V where
 | non|bl (b:Bool)|int (i:Int)|str (x:Str)|byt (b:Array UInt8)|flt (b:UInt64)|ref (a:Addr)|ty (n:String)
 deriving DecidableEq
def AX:V->Value->Prop
 | .non,u=>u=Value.none
 | .bl b,u=>u=Value.bool b
 | .int i,u=>∃t,u=Value.int i t
 | .str x,u=>∃t,u=Value.str x t
 | .byt b,u=>∃t,u=Value.bytes b t
 | .flt b,u=>∃t,u=Value.float b t
 | .ref a,u=>u=Value.ref a
 | .ty n,u=>u=Value.type n
abbrev AS:List V->List Value->Prop:=Paired AX
theorem AS.length{xs:List V}{us:List Value}(r:AS xs us):xs.length=us.length:=Bh r
theorem AS.get:∀{xs:List V}{us:List Value}{i:Nat}{x:V},AS xs us->xs[i]?=some x->∃u,us[i]?=some u/\AX x u
 | _,_,_,_,.nil,e=>by simp at e
 | _,_,0,_,.cons r _,e=>by simp at e;subst e;exact⟨_,rfl,r⟩
 | _,_,i+1,x,.cons _ t,e=>by
   obtain⟨u,h1,h2⟩:=AS.get (i:=i) (x:=x) t (by simpa using e);exact⟨u,by simpa using h1,h2⟩
theorem AS.set{x:V}{u:Value}(r:AX x u):∀{xs:List V}{us:List Value}(i:Nat),AS xs us->AS (xs.set i x) (us.set i u)
 | _,_,_,.nil=>.nil
 | _,_,0,.cons _ t=>.cons r t
 | _,_,i+1,.cons q t=>.cons q (AS.set r i t)
theorem AS.append:∀{xs ys:List V}{us ws:List Value},AS xs us->AS ys ws->AS (xs++ys) (us++ws)
 | _,_,_,_,.nil,s=>s
 | _,_,_,_,.cons r t,s=>.cons r (AS.append t s)
theorem AS.take:∀{xs:List V}{us:List Value}(n:Nat),AS xs us->AS (xs.take n) (us.take n)
 | _,_,0,_=>.nil
 | _,_,_+1,.nil=>.nil
 | _,_,n+1,.cons r t=>.cons r (AS.take n t)
theorem AS.drop:∀{xs:List V}{us:List Value}(n:Nat),AS xs us->AS (xs.drop n) (us.drop n)
 | _,_,0,r=>r
 | _,_,_+1,.nil=>.nil
 | _,_,n+1,.cons _ t=>AS.drop n t
def ED:Option V->Option Value->Prop
 | some v,some u=>AX v u
 | none,none=>True
 | _,_=>False
def KV{κ:Type}:List (κ×V)->List (κ×Value)->Prop:=Paired λ(p:κ×V) (q:κ×Value)=>p.1=q.1/\AX p.2 q.2
def kV:DH->V
 | .inl i=>.int i
 | .inr x=>.str x
inductive HO where
 | lst (xs:List V)
 | tup (xs:List V)
 | dK (kvs:List (DH×V))|dT (kvs:List (List DH×V))
 | set (S:Int->Bool) (n:Nat)
 | ins (C dx:Addr) (fs:List (Str×V))
 | own (x:Addr)
 | xd (fs:List (Str×V))
 | met (f x:Addr)
 | rng (lo hi:Int)
 | frz (o:Obj) (u:HO)
 | tbl (ps:Array Value)
 | ext (φ:Heap->Prop)
abbrev Hp:=Addr->Option HO
def upd(H:Hp)(a:Addr)(o:HO):Hp:=λb=>if b=a then some o else H b
theorem AA{H:Hp}{a:Addr}{o:HO}:upd H a o a=some o:=by unfold upd;rw[Ar rfl]
theorem BV{H:Hp}{a b:Addr}{o:HO}(h:b≠a):upd H a o b=H b:=by unfold upd;rw[Aq h]
theorem HI{H:Hp}{a b:Addr}{o u:HO}(h:H a=some o)(h':H b=some u)(d:o≠u):a≠b:=by
 intro e;subst e;rw[h]at h';exact d (Ap h')
theorem GU{H:Hp}{a b:Addr}{o:HO}(h:H a=some o)(h':H b=none):a≠b:=by
 intro e;subst e;rw[h]at h';cases h'
section
variable (P:Program) (w:World)
def GN(H:Hp)(h:Heap)(a:Addr):HO->Prop
 | .lst xs=>xs.length<=sizeLine/\∃(its:List Value) (n:Nat),AS xs its/\h.get? a=some { cls:=.type "list",data:=.seq its.toArray n }
 | .tup xs=>xs.length<=sizeLine/\∃its:List Value,AS xs its/\IsTup h a its.toArray
 | .dK F=>F.length<=sizeLine/\(a==sysModules)=false/\∃vs,KV F vs/\h.DictOf (JZ P w) a vs
 | .dT F=>F.length<=sizeLine/\(a==sysModules)=false/\∃xs:List (List DH×Addr×Value),
    Paired (λ(p:List DH×V) (q:List DH×Addr×Value)=>p.1=q.1/\H q.2.1=some (.tup (p.1.map kV))/\AX p.2 q.2.2) F xs /\
    ∃o es I,h.get? a=some o/\o.ExactDict/\o.data=.dict es I/\es.toList=xs.map (entryOfKey (tupleKind (JZ P w)))/\(xs.map (·.1)).Nodup
 | .set S n=>h.SetOf (intKind P w) a S n
 | .ins C dx fs=>H dx=some (.own a)/\fs.length<=1000/\dx≠a/\h.get? a=some (PySem.W.instObj C dx) /\
    ∃mA,h.Ns1 dx mA/\(∀f,ED (fs.lookup f) (mA f))/\PySem.Within mA (fs.map (·.1))
 | .own _=>∃o,h.get? a=some o
 | .xd fs=>∃mA,h.Ns1 a mA/\∀f,ED (fs.lookup f) (mA f)
 | .rng lo hi=>∃t u v,h.get? a=some { cls:=.type "range",data:=.fields #[.int lo t,.int hi u,.int 1 v] }
 | .frz o u=>h.get? a=some o/\GN H h a u
 | .tbl ps=>h.get? a=some { cls:=.none,data:=.fields ps }
 | .met f x=>h.get? a=some (PySem.W.methodObj (.ref f) (.ref x))
 | .ext G=>G h/\(∃o,h.get? a=some o)/\∀h1 h2:Heap,G h1->(∀o,h1.get? a=some o->h2.get? a=some o)->G h2
def EL(H:Hp)(h:Heap):Prop:=∀a o,H a=some o->GN P w H h a o
end
section
variable {P:Program}{w:World}{H H':Hp}{h h':Heap}{a:Addr}{o:HO}
theorem GN.lt(x:GN P w H h a o):a<h.objs.size:=by
 cases o with
 | lst xs=>obtain⟨_,_,_,_,e⟩:=x;exact As e
 | tup xs=>obtain⟨_,_,_,p⟩:=x;exact p.lt
 | dK F=>obtain⟨_,_,_,_,o,_,_,e,_⟩:=x;exact As e
 | dT F=>obtain⟨_,_,_,_,o,_,_,e,_⟩:=x;exact As e
 | set S n=>obtain⟨o,_,_,_,e,_⟩:=x;exact As e
 | ins C dx fs=>obtain⟨_,_,_,e,_⟩:=x;exact As e
 | own y=>obtain⟨_,e⟩:=x;exact As e
 | xd fs=>obtain⟨_,⟨_,_,_,e,_⟩,_⟩:=x;exact As e
 | rng lo hi=>obtain⟨_,_,_,e⟩:=x;exact As e
 | frz G u=>obtain⟨e,_⟩:=x;exact As e
 | tbl ps=>exact As (show h.get? a=some _ from x)
 | met f y=>exact As (show h.get? a=some _ from x)
 | ext I=>obtain⟨_,⟨_,e⟩,_⟩:=x;exact As e
theorem Paired.mapP{J I:Type}{F G:J->I->Prop}:∀{l₁:List J}{l₂:List I},Paired F l₁ l₂->(∀a b,F a b->G a b)->Paired G l₁ l₂
 | _,_,.nil,_=>.nil
 | _,_,.cons r t,f=>.cons (f _ _ r) (Paired.mapP t f)
theorem GN.stay(x:GN P w H h a o)(k:∀b u,(b=a\/H b=some (.own a))->h.get? b=some u->h'.get? b=some u)
 (ho:∀b,H b=some (.own a)->H' b=some (.own a)) (ht:∀b xs,H b=some (.tup xs)->H' b=some (.tup xs)):GN P w H' h' a o:=by
 induction o with
 | lst xs=>obtain⟨z,its,n,r,e⟩:=x;exact⟨z,its,n,r,k _ _ (.inl rfl) e⟩
 | tup xs=>obtain⟨z,its,r,F,e,c⟩:=x;exact⟨z,its,r,F,k _ _ (.inl rfl) e,c⟩
 | dK J=>obtain⟨z,y,vs,r,F,es,G,e,c⟩:=x;exact⟨z,y,vs,r,F,es,G,k _ _ (.inl rfl) e,c⟩
 | dT J =>
   obtain⟨z,y,xs,r,F,es,G,e,c⟩:=x;exact⟨z,y,xs,Paired.mapP r λp q z=>⟨z.1,ht _ _ z.2.1,z.2.2⟩,F,es,G,k _ _ (.inl rfl) e,c⟩
 | set S n=>obtain⟨F,es,G,t,e,c⟩:=x;exact⟨F,es,G,t,k _ _ (.inl rfl) e,c⟩
 | ins C dx fs =>
   obtain⟨d,z,ne,e,mA,⟨I,es,G,Y,c⟩,r⟩:=x;exact⟨ho _ d,z,ne,k _ _ (.inl rfl) e,mA,⟨I,es,G,k _ _ (.inr d) Y,c⟩,r⟩
 | own y=>obtain⟨F,e⟩:=x;exact⟨F,k _ _ (.inl rfl) e⟩
 | xd fs=>obtain⟨mA,⟨I,es,G,e,c⟩,r⟩:=x;exact⟨mA,⟨I,es,G,k _ _ (.inl rfl) e,c⟩,r⟩
 | rng lo hi=>obtain⟨t,u,v,e⟩:=x;exact⟨t,u,v,k _ _ (.inl rfl) e⟩
 | frz F u ih=>obtain⟨e,q⟩:=x;exact⟨k _ _ (.inl rfl) e,ih q⟩
 | tbl ps =>
   have e:h.get? a=some { cls:=.none,data:=.fields ps }:=x;show h'.get? a=some { cls:=.none,data:=.fields ps };exact k a _ (.inl rfl) e
 | met f y =>
   have e:h.get? a=some (PySem.W.methodObj (.ref f) (.ref y)):=x;show h'.get? a=some (PySem.W.methodObj (.ref f) (.ref y));exact k a _ (.inl rfl) e
 | ext Z=>obtain⟨p,⟨o,e⟩,st⟩:=x;exact⟨st _ _ p λo q=>k _ _ (.inl rfl) q,⟨o,k _ _ (.inl rfl) e⟩,st⟩
theorem EL.lt(x:EL P w H h)(e:H a=some o):a<h.objs.size:=(x a o e).lt
theorem EL.fresh(x:EL P w H h)(e:h.objs.size<=a):H a=none:=by
 cases q:H a with
 | none=>rfl
 | some u=>exact absurd (Bo (x.lt q) e) (Df _)
theorem EL.kept(x:EL P w H h)(k:∀b u,h.get? b=some u->h'.get? b=some u):EL P w H h':=λa o e =>
 (x a o e).stay (λb u _ q=>k b u q) (λ_ q=>q) λ_ _ q=>q
theorem EL.laid(x:EL P w H h)(k:∀b u,h.get? b=some u->h'.get? b=some u)(G:h.objs.size<=a)(new:GN P w (upd H a o) h' a o):EL P w (upd H a o) h':=λb u e=>by
 have F:=x.fresh G;by_cases hb:b=a
 .subst hb;rw[AA]at e;cases e;exact new
 .rw[BV hb]at e
  exact(x b u e).stay (λc v _ q=>k c v q) (λc q=>by rw[BV (GU q F)];exact q) λc xs q=>by rw[BV (GU q F)];exact q
end
def Rd(H:Hp)(a:Addr)(u:HO):Prop:=H a=some u\/∃o,H a=some (.frz o u)
theorem Rd.ok{P:Program}{w:World}{H:Hp}{h:Heap}{a:Addr}{u:HO}(r:Rd H a u)(x:EL P w H h):GN P w H h a u:=by
 rcases r with r|⟨o,r⟩
 .exact x a u r
 .obtain⟨_,q⟩:=x a _ r;exact q
def Oe:Option HO->Prop
 | some (.lst _)=>True
 | some (.dK _)=>True
 | some (.dT _)=>True
 | some (.set _ _)=>True
 | some (.ins _ _ _)=>True
 | some (.ext _)=>True
 | _=>False
section
variable {P:Program}{w:World}{H:Hp}{h h':Heap}{x e:Addr}{o':HO}
theorem EL.write(ok:EL P w H h)(J:Oe (H x))(he:e=x\/H e=some (.own x))(k:∀b u,b≠e->h.get? b=some u->h'.get? b=some u)(Y:∃u,h'.get? e=some u)
 (new:GN P w (upd H x o') h' x o'):EL P w (upd H x o') h':=λb u q=>by
 have G:∀c y,H c=some (.own y)->c≠x:=λc y r z=>by subst z;rw[r]at J;exact J
 have I:∀c xs,H c=some (.tup xs)->c≠x:=λc xs r z=>by subst z;rw[r]at J;exact J
 by_cases hb:b=x
 .subst hb;rw[AA]at q;cases q;exact new
 .rw[BV hb]at q
  by_cases F:b=e
  .have Z:H b=some (.own x):=by
    rcases he with z|z
    .exact absurd (F.trans z) hb
    .rw[F];exact z
   rw[q]at Z;cases Z
   obtain⟨v,hv⟩:=Y;exact⟨v,by rw[F];exact hv⟩
  .refine(ok b u q).stay (λc v W r=>k c v ?_ r) (λc r=>by rw[BV (G c b r)];exact r) λc xs r=>by rw[BV (I c xs r)];exact r
   rcases W with rfl|W
   .exact F
   .rintro rfl;rcases he with z|z
    .exact G c b W z
    .rw[W]at z;cases z;exact hb rfl
end
structure Un(fs ex:List Addr)(H H':Hp)(h h':Heap):Prop where
 keep:∀b o,h.get? b=some o->H b=none->b∉fs->b∉ex->h'.get? b=some o
 slot:∀b o,h.get? b=some o->H b=none->b∈fs->b∉ex->∃sl,h'.get? b=some { o with slots:=sl }
 free:∀b o,h.get? b=some o->H b=none->b∉ex->H' b=none
 there:∀b o,h.get? b=some o->b∉ex->∃o',h'.get? b=some o'
 tups:∀b xs,H b=some (.tup xs)->H' b=some (.tup xs)
 frzs:∀b o u,H b=some (.frz o u)->H' b=some (.frz o u)
 tbls:∀b ps,H b=some (.tbl ps)->∃more,H' b=some (.tbl (ps++more))
section
variable {fs fs' ex ex':List Addr}{H H1 H2:Hp}{h h1 h2 h':Heap}{a x e:Addr}{o:HO}
theorem Un.any(u:Un fs ex H H1 h h1)(q:h.get? b=some ob)(n:H b=none)(F:b∉ex):∃G,h1.get? b=some { ob with slots:=G }:=by
 by_cases hb:b∈fs
 .exact u.slot b ob q n hb F
 .exact⟨ob.slots,u.keep b ob q n hb F⟩
theorem Un.kept(k:∀b u,h.get? b=some u->h'.get? b=some u):Un fs ex H H h h' :=
 ⟨λb F q _ _ _=>k b F q,λb F q _ _ _=>⟨F.slots,k b F q⟩,λ_ _ _ n _=>n,λb F q _=>⟨F,k b F q⟩,λ_ _ q=>q,λ_ _ _ q=>q,λ_ ps q=>⟨#[],by rw[q];simp⟩⟩
theorem Un.refl:Un fs ex H H h h:=Un.kept λ_ _ q=>q
theorem Un.laid(k:∀b u,h.get? b=some u->h'.get? b=some u)(G:h.objs.size<=a)(F:H a=none):Un fs ex H (upd H a o) h h' where
 keep:=λb u q _ _ _=>k b u q
 slot:=λb u q _ _ _=>⟨u.slots,k b u q⟩
 free:=λb u q n _=>by rw[BV (Be (Bo (As q) G))];exact n
 there:=λb u q _=>⟨u,k b u q⟩
 tups:=λb xs q=>by rw[BV (GU q F)];exact q
 frzs:=λb u xs q=>by rw[BV (GU q F)];exact q
 tbls:=λb ps q=>⟨#[],by rw[BV (GU q F),q];simp⟩
theorem Un.write(G:Oe (H x))(W:e=x\/H e=some (.own x))(k:∀b u,b≠e->h.get? b=some u->h'.get? b=some u)(I:∃u,h'.get? e=some u):Un fs ex H (upd H x o) h h':=by
 have J:∀b,H b=none->b≠x:=λb n z=>by subst z;rw[n]at G;exact G
 have hb:∀b,H b=none->b≠e:=λb n z=>by
  subst z;rcases W with r|r
  .exact J b n r
  .rw[n]at r;cases r
 have hm:∀b u,H b=some u->¬Oe (some u)->b≠x:=λb u q nm z=>by subst z;rw[q]at G;exact nm G
 refine⟨λb u q n _ _=>k b u (hb b n) q,λb u q n _ _=>⟨u.slots,k b u (hb b n) q⟩,λb u q n _=>by rw[BV (J b n)];exact n,λb u q _=>?_,
  λb xs q=>by rw[BV (hm b _ q λz=>z)];exact q,λb u xs q=>by rw[BV (hm b _ q λz=>z)];exact q,λb ps q=>⟨#[],by rw[BV (hm b _ q λz=>z),q];simp⟩⟩
 by_cases F:b=e
 .subst F;exact I
 .exact⟨u,k b u F q⟩
end
def Pz(h:Heap)(H:Hp):List Addr:=(List.range h.objs.size).filter λa=>(H a).isSome
def HR(h:Heap)(H:Hp):Heap:=PySem.W.hideAll h (Pz h H)
theorem YM(h:Heap)(H:Hp):(HR h H).objs.size=h.objs.size:=PySem.W.hideAll_size _ _
theorem YN{h:Heap}{H:Hp}{b:Addr}{o:Obj}(e:h.get? b=some o)(n:H b=none):(HR h H).get? b=some o :=
 PySem.W.hideAll_get _ e λhm=>by
  have q:(H b).isSome=true:=(Fn.mp hm).2;rw[n]at q;simp at q
theorem YO{h:Heap}{H:Hp}{b:Addr}{o:Obj}(e:(HR h H).get? b=some o):h.get? b=some o/\H b=none:=by
 have F:h.get? b=some o:=PySem.W.of_hideAll (Pz h H) e;refine⟨F,?_⟩;cases q:H b with
 | none=>rfl
 | some x =>
   have hm:b∈Pz h H:=Fn.mpr ⟨Di.mpr (As F),by simp[q]⟩;have z:(HR h H).get? b=none:=PySem.W.hideAll_none (Pz h H) hm;rw[z]at e;cases e
def YQ(g h:Heap)(L:Addr):List (Addr×Obj):=(List.range h.objs.size).filterMap λa=>if a=L\/(g.get? a).isSome=true then none else(h.get? a).map λo=>(a,o)
def rest(g h:Heap)(L d:Addr):List (Addr×Obj):=(YQ g h L).filter λp=>decide (p.1≠d)
structure Mod(K:Frag)(mg:Str->Option Value)(base:Heap):Prop where
 kin:K.In base
 glob:base.Ns mainGlobals mg
 blt:∃mb,base.Ns builtinsNs mb/\∀x:Str,x≠"__name__"->mb x=bootBuiltins x
 nolimit:base.NoLimit
structure Cx where
 prog:Program
 w:World
 K:Frag
 mg:Str->Option Value
 base:Heap
 A:Around
 N:List Str
 s₀:Shared
 H₀:Hp
 env:Env
 outer:List Env
 stack:List Env
 ex:List Addr
 fn:Str->Bool
 calm:Bool
 pn:List (Addr×Obj)
 xe:Value->Shared->Prop
def JC(l:List Env):List Addr:=l.filterMap (·.frame)
abbrev Cx.fs(X:Cx):List Addr:=JC X.outer
def R8(F:Scope)(x:Str):Prop:=F.names.lookup x=some .local\/F.names.lookup x=some .cell\/F.names.lookup x=some .free
def Of(F:Scope)(x:Str):Prop:=F.names.lookup x=some .local\/F.names.lookup x=some .cell
def R9(env:Env)(h:Heap)(m:Str->Option Value)(x:Str)(u:Value):Prop :=
 (env.kindOf x=some .local/\m x=some u)\/((env.kindOf x=some .cell\/env.kindOf x=some .free)/\∃c,env.cells.lookup x=some c/\h.IsCell c (some u))
structure Cx.Ok(X:Cx):Prop where
 mod:Mod X.K X.mg X.base
 kind:X.env.scope.kind=.function
 glob:X.env.globals=mainGlobals
 blt:X.env.builtins=builtinsNs
 above:X.s₀.heap.objs.size<=X.env.locals
 inj:∀x y c,X.env.cells.lookup x=some c->X.env.cells.lookup y=some c->x=y
 has:∀x,(X.env.kindOf x=some .cell\/X.env.kindOf x=some .free)->∃c,X.env.cells.lookup x=some c
 cab:∀x c,X.fn x=true->X.env.cells.lookup x=some c->X.s₀.heap.objs.size<=c
 hd:X.calm=true->X.A.handled=none
 frames:X.A.frames=some X.stack
 stk:X.stack=X.outer\/(X.stack=X.env::X.outer/\X.env.frame=some X.env.locals)
 exf:∀b∈X.ex,b≠X.env.locals/\∀x c,X.env.cells.lookup x=some c->c≠b
 bs:∀b o,X.base.get? b=some o->X.s₀.heap.get? b=some o/\X.H₀ b=none
 bsz:X.base.objs.size<=X.s₀.heap.objs.size
 noex:∀b o,X.base.get? b=some o->b∉X.ex
 exfs:∀b∈X.ex,b∉X.fs
 funs:X.s₀.heap.FunFrames X.base X.outer
 frf:∀b∈X.fs,X.H₀ b=none
structure AI(X:Cx)(pins:List (Addr×Obj))(σ:List (Option V))(H:Hp)(s:Shared):Prop where
 ok:X.Ok
 os:s.os=X.s₀.os
 bare:AllBare s.gens
 base:Un X.fs X.ex X.H₀ H X.s₀.heap s.heap
 loc:∃m,s.heap.Ns X.env.locals m/\∀(i:Nat) (x:Str) (v:V),X.N[i]?=some x->σ[i]?=some (some v)->R8 X.env.scope x->∃u,AX v u/\R9 X.env s.heap m x u
 cell:∀x c,X.env.cells.lookup x=some c->∃v,s.heap.IsCell c v
 free:H X.env.locals=none
 freeC:∀x c,X.env.cells.lookup x=some c->H c=none
 pin:∀p∈X.pn++pins,s.heap.get? p.1=some p.2/\H p.1=none/\p.1≠X.env.locals/\p.1∉X.fs/\∀v,p.2.data≠.cell v
 hok:EL X.prog X.w H s.heap
 len:σ.length=X.N.length
section
variable {X:Cx}{pins:List (Addr×Obj)}{σ:List (Option V)}{H H':Hp}{s:Shared}{h':Heap}
theorem Cx.Ok.nofr(ok:X.Ok)(e:X.base.get? b=some o):b∉X.fs:=λhb=>by
 have:=(ok.funs.mem hb).1;rw[e]at this;cases this
theorem AI.bs(I:AI X pins σ H s):∀b o,X.base.get? b=some o->s.heap.get? b=some o/\H b=none:=λb o e =>
 ⟨I.base.keep b o (I.ok.bs b o e).1 (I.ok.bs b o e).2 (I.ok.nofr e) (I.ok.noex b o e),I.base.free b o (I.ok.bs b o e).1 (I.ok.bs b o e).2 (I.ok.noex b o e)⟩
theorem AI.bk(I:AI X pins σ H s):∀b o,X.base.get? b=some o->s.heap.get? b=some o:=λb o e=>(I.bs b o e).1
theorem AI.mod(I:AI X pins σ H s):Mod X.K X.mg X.base:=I.ok.mod
theorem AI.kIn(I:AI X pins σ H s):X.K.In s.heap:=I.ok.mod.kin.keeps I.bk
theorem AI.lt(I:AI X pins σ H s):X.env.locals<s.heap.objs.size:=let ⟨_,hn,_⟩:=I.loc;hn.lt
theorem AI.sz(I:AI X pins σ H s):X.s₀.heap.objs.size<=s.heap.objs.size:=B3 I.ok.above (J6 I.lt)
theorem AI.nofs(I:AI X pins σ H s)(h:s.heap.objs.size<=a):a∉X.fs:=λhb=>by
 obtain⟨_,o,F,_⟩:=I.ok.funs.mem hb;exact absurd (Bo (As F) (B3 I.sz h)) (Df _)
theorem AI.cne(I:AI X pins σ H s):∀x c,X.env.cells.lookup x=some c->c≠X.env.locals:=λx c e z=>by
 obtain⟨v,o,J,hd⟩:=I.cell x c e;obtain⟨m,⟨o',es,W,F,G,_⟩,_⟩:=I.loc;rw[z,F]at J;cases J;rw[G]at hd;cases hd
theorem AI.funs(I:AI X pins σ H s):s.heap.FunFrames X.base X.outer:=by
 have all:∀(l:List Env),(∀b∈JC l,b∈X.fs)->X.s₀.heap.FunFrames X.base l->s.heap.FunFrames X.base l:=by
  intro l;induction l with
  | nil=>intro _ _;trivial
  | cons env r ih =>
    intro J hl;obtain⟨Y,⟨L,o,G,hn,W,hd⟩,Z⟩:=hl;have F:L∈X.fs:=J L (by unfold JC;rw[Fk,G];exact Ab);obtain⟨sl,e⟩:=I.base.slot L o W (I.ok.frf L F) F λz=>I.ok.exfs L z F
    exact⟨Y,⟨L,_,G,hn,e,hd⟩,ih (λb hb=>J b (by unfold JC;rw[Fk,G];exact Ac _ hb)) Z⟩
 exact all X.outer (λ_ hb=>hb) I.ok.funs
theorem AI.stack(I:AI X pins σ H s):s.heap.FunFrames X.base X.stack:=by
 rcases I.ok.stk with e|⟨e,F⟩
 .rw[e];exact I.funs
 .rw[e];obtain⟨m,G,_⟩:=I.loc;refine .cons (by rw[I.ok.kind];decide) F G ?_ I.funs;exact Heap.get?_none_of_le (B3 I.ok.bsz I.ok.above)
theorem AI.stkSub(I:AI X pins σ H s):∀b∈JC X.stack,b∈X.env.locals::X.fs:=λb hb=>by
 rcases I.ok.stk with e|⟨e,F⟩
 .rw[e]at hb;exact Ac _ hb
 .rw[e]at hb
  unfold JC at hb;rw[Fk,F]at hb
  exact hb
theorem AI.stkFree(I:AI X pins σ H s):∀b∈JC X.stack,H b=none:=λb hb=>by
 rcases Am.mp (I.stkSub b hb)with e|hb
 .rw[e];exact I.free
 .obtain⟨_,o,F,_⟩:=I.ok.funs.mem hb;exact I.base.free b o F (I.ok.frf b hb) λz=>I.ok.exfs b z hb
theorem AI.step{g':Array GenState}{t':Nat}{d':Drawn}{ch:List Addr}(I:AI X pins σ H s)
 (hch:∀b∈ch,(b∈X.ex\/X.s₀.heap.objs.size<=b)/\b≠X.env.locals/\(∀x c,X.env.cells.lookup x=some c->c≠b)/\∀p∈X.pn++pins,p.1≠b)
 (keep:∀b o,b≠X.env.locals->b∉X.fs->b∉ch->s.heap.get? b=some o->H b=none->h'.get? b=some o)
 (slot:∀b o,b≠X.env.locals->b∈X.fs->b∉ch->s.heap.get? b=some o->H b=none->∃sl,h'.get? b=some { o with slots:=sl }) (free:∀b o,b∉ch->s.heap.get? b=some o->H b=none->H' b=none)
 (there:∀b o,b∉ch->s.heap.get? b=some o->∃o',h'.get? b=some o')
 (tups:∀b xs,H b=some (.tup xs)->H' b=some (.tup xs)) (frzs:∀b o u,H b=some (.frz o u)->H' b=some (.frz o u)) (tbls:∀b ps,H b=some (.tbl ps)->∃aa,H' b=some (.tbl (ps++aa)))
 (ns:∀m,s.heap.Ns X.env.locals m->h'.Ns X.env.locals m) (hok:EL X.prog X.w H' h') (hg:AllBare g') :
 AI X pins σ H' { s with heap:=h',gens:=g',drawn:=d',toks:=t' }:=by
 have ac:∀b o,X.s₀.heap.get? b=some o->b≠X.env.locals:=λb o e=>Be (Bo (As e) I.ok.above)
 have Y:∀b o,X.s₀.heap.get? b=some o->b∉X.ex->b∉ch:=λb o e F hb=>by
  rcases(hch b hb).1 with z|z
  .exact F z
  .exact absurd (Bo (As e) z) (Df _)
 have G:∀x c,X.env.cells.lookup x=some c->∀v,s.heap.IsCell c v->h'.IsCell c v:=λx c e v ⟨o,Z,hd⟩=>by
  have J:c∉ch:=λz=>(hch c z).2.2.1 x c e rfl
  by_cases hc:c∈X.fs
  .obtain⟨sl,q⟩:=slot c o (I.cne x c e) hc J Z (I.freeC x c e);exact⟨_,q,hd⟩
  .exact⟨o,keep c o (I.cne x c e) hc J Z (I.freeC x c e),hd⟩
 refine⟨I.ok,I.os,hg,⟨λb o e n hb F=>?_,λb o e n hb F=>?_,λb o e n F=>?_,λb o e F=>?_,λb xs e=>tups b xs (I.base.tups b xs e),λb o xs e=>frzs b o xs (I.base.frzs b o xs e),λb ps e=>?_⟩,?_,λx c e=>?_,?_,λx c e=>?_,λp hp=>?_,hok,I.len⟩
 .exact keep b o (ac b o e) hb (Y b o e F) (I.base.keep b o e n hb F) (I.base.free b o e n F)
 .obtain⟨sl,W⟩:=I.base.slot b o e n hb F;obtain⟨ad,e2⟩:=slot b _ (ac b o e) hb (Y b o e F) W (I.base.free b o e n F);exact⟨ad,e2⟩
 .obtain⟨o',W⟩:=I.base.there b o e F;exact free b o' (Y b o e F) W (I.base.free b o e n F)
 .obtain⟨o',W⟩:=I.base.there b o e F;exact there b o' (Y b o e F) W
 .obtain⟨m1,W⟩:=I.base.tbls b ps e;obtain⟨m2,e2⟩:=tbls b _ W;exact⟨m1++m2,by rw[e2,Array.append_assoc]⟩
 .obtain⟨m,hn,hl⟩:=I.loc;refine⟨m,ns m hn,λi x v W e2 e3=>?_⟩;obtain⟨u,r,l⟩:=hl i x v W e2 e3;refine⟨u,r,?_⟩;rcases l with l|⟨k,c,e,z⟩
  .exact .inl l
  .exact .inr ⟨k,c,e,G x c e _ z⟩
 .obtain⟨v,z⟩:=I.cell x c e;exact⟨v,G x c e v z⟩
 .obtain⟨m,⟨o,_,_,Z,_⟩,_⟩:=I.loc;exact free _ o (λz=>(hch _ z).2.1 rfl) Z I.free
 .obtain⟨v,o,Z,hd⟩:=I.cell x c e;exact free c o (λz=>(hch c z).2.2.1 x c e rfl) Z (I.freeC x c e)
 .obtain⟨e,n,ne,nf,d⟩:=I.pin p hp;have J:p.1∉ch:=λz=>(hch p.1 z).2.2.2 p hp rfl
  exact⟨keep p.1 p.2 ne nf J e n,free p.1 p.2 J e n,ne,nf,d⟩
theorem AI.un{t':Nat}(I:AI X pins σ H s)(u:Un X.fs [] H H' s.heap h')(hok:EL X.prog X.w H' h'):AI X pins σ H' { s with heap:=h',toks:=t' }:=by
 obtain⟨m,⟨o,es,ep,W,r⟩,_⟩:=id I.loc;obtain⟨sl,Y⟩:=u.any W I.free (by simp);exact I.step (g':=s.gens) (d':=s.drawn) (ch:=[]) (λ_ z=>nomatch z) (λb o _ hb _ e n=>u.keep b o e n hb (by simp)) (λb o _ hb _ e n=>u.slot b o e n hb (by simp)) (λb o _ e n=>u.free b o e n (by simp)) (λb o _ e=>u.there b o e (by simp)) u.tups u.frzs u.tbls (λm' hm=>by
  obtain⟨o',G,J,F,Z⟩:=hm;rw[W]at F;cases F
  exact⟨_,G,J,Y,Z⟩) hok I.bare
theorem AI.call{g':Array GenState}{t':Nat}{d':Drawn}{ch:List Addr}(I:AI X pins σ H s)(u:Un (JC X.stack) ch H H' s.heap h')(hok:EL X.prog X.w H' h')(hg:AllBare g')
 (hch:∀b∈ch,(b∈X.ex\/X.s₀.heap.objs.size<=b)/\b≠X.env.locals/\(∀x c,X.env.cells.lookup x=some c->c≠b)/\∀p∈X.pn++pins,p.1≠b) :
 AI X pins σ H' { s with heap:=h',gens:=g',drawn:=d',toks:=t' }:=by
 obtain⟨m,⟨o,es,ep,Z,r⟩,_⟩:=id I.loc;obtain⟨sl,J⟩:=u.any Z I.free λz=>(hch _ z).2.1 rfl
 exact I.step (ch:=ch) hch (λb o J hb F e n=>u.keep b o e n (λz=>(Am.mp (I.stkSub b z)).elim J hb) F) (λb o _ _ F e n=>u.any e n F) (λb o F e n=>u.free b o e n F) (λb o F e=>u.there b o e F) u.tups u.frzs u.tbls (λm' hm=>by
  obtain⟨o',W,Y,G,r'⟩:=hm;rw[Z]at G;cases G
  exact⟨_,W,Y,J,r'⟩) hok hg
theorem AI.turned{t':Nat}{it:Addr}(I:AI X pins σ H s)(k:∀b o,b≠it->s.heap.get? b=some o->h'.get? b=some o)(Y:H it=none)(J:it≠X.env.locals)
 (h1:it∈X.ex\/X.s₀.heap.objs.size<=it) (h2:∀x c,X.env.cells.lookup x=some c->c≠it) (h3:∀p∈X.pn++pins,p.1≠it):AI X pins σ H { s with heap:=h',toks:=t' }:=by
 have G:∀b u,H b=some u->b≠it:=λb u e z=>by rw[z,Y]at e;cases e
 refine I.step (g':=s.gens) (d':=s.drawn) (ch:=[it]) (λb hb=>?_) (λb o _ _ F e _=>k b o (λz=>F (by simp[z])) e) (λb o _ _ F e _=>⟨o.slots,k b o (λz=>F (by simp[z])) e⟩) (λ_ _ _ _ n=>n)
  (λb o F e=>⟨o,k b o (λz=>F (by simp[z])) e⟩) (λ_ _ e=>e) (λ_ _ _ e=>e) (λb ps e=>⟨#[],by rw[e];simp⟩) (λm hm=>?_) (λb u e=>?_) I.bare
 .have e:b=it:=by simpa using hb
  subst e;exact⟨h1,J,h2,h3⟩
 .obtain⟨o,es,Z,W,r⟩:=hm;exact⟨o,es,Z,k _ o (Ne.symm J) W,r⟩
 .refine(I.hok b u e).stay (λc v F q=>k c v ?_ q) (λ_ q=>q) λ_ _ q=>q
  rcases F with z|z
  .rw[z];exact G b u e
  .exact G c _ z
theorem AI.tok(I:AI X pins σ H s)(t:Nat):AI X pins σ H { s with toks:=t }:=I.un (h':=s.heap) (t':=t) Un.refl I.hok
theorem AI.kept{t':Nat}(I:AI X pins σ H s)(k:∀b u,s.heap.get? b=some u->h'.get? b=some u):AI X pins σ H { s with heap:=h',toks:=t' }:=I.un (Un.kept k) (I.hok.kept k)
theorem AI.laid{a:Addr}{o:HO}{t':Nat}(I:AI X pins σ H s)(k:∀b u,s.heap.get? b=some u->h'.get? b=some u)(F:s.heap.objs.size<=a)(new:GN X.prog X.w (upd H a o) h' a o) :
 AI X pins σ (upd H a o) { s with heap:=h',toks:=t' }:=I.un (Un.laid k F (I.hok.fresh F)) (I.hok.laid k F new)
theorem AI.write(I:AI X pins σ H s)(G:Oe (H x))(J:e=x\/H e=some (.own x))(k:∀b u,b≠e->s.heap.get? b=some u->h'.get? b=some u)(F:∃u,h'.get? e=some u)(new:GN X.prog X.w (upd H x o) h' x o):AI X pins σ (upd H x o) { s with heap:=h',toks:=t' }:=I.un (Un.write G J k F) (I.hok.write G J k F new)
theorem AI.pins_of(I:AI X pins σ H s)(h:∀p∈pins',s.heap.get? p.1=some p.2/\H p.1=none/\p.1≠X.env.locals/\p.1∉X.fs/\∀v,p.2.data≠.cell v):AI X pins' σ H s :=
 ⟨I.ok,I.os,I.bare,I.base,I.loc,I.cell,I.free,I.freeC,λp F=>(Az.mp F).elim (λz=>I.pin p (Cw _ z)) (h p),I.hok,I.len⟩
theorem TX{N:List Str}(F:N.Nodup){i j:Nat}{x:Str}(a:N[i]?=some x)(b:N[j]?=some x):i=j:=by
 obtain⟨h1,G⟩:=B2.mp a;obtain⟨h2,I⟩:=B2.mp b;exact(List.getElem_inj F).mp (G.trans I.symm)
theorem TY{M:Model}{A:Around}{E:Value->Shared->Prop}{i:Nat}{x:Str}{v:V}{u:Value}{Q:Unit->Shared->Prop}(I:AI X pins σ H s)(hN:X.N.Nodup)(hi:X.N[i]?=some x)(Y:Of X.env.scope x)(r:AX v u)
 (h:∀s',AI X pins (σ.set i (some v)) H s'->(∃a,Heap.SameBut a s.heap s'.heap/\(a=X.env.locals\/X.env.cells.lookup x=some a))->Q () s') (hf:X.fn x=true\/X.env.scope.names.lookup x=some .local:=by first|exact .inl rfl|exact .inr rfl|assumption):wpAny M A (storeName X.env x u) Q E s:=by
 obtain⟨m,hn,hl⟩:=id I.loc;have ag:(X.env.scope.kind==.class||(X.env.scope.kind==.module&&X.env.locals !=X.env.globals))=false:=by rw[I.ok.kind];rfl
 have aa:i<σ.length:=by rw[I.len];exact(B2.mp hi).1
 have cne:=I.cne;have J:∀{a:Addr}{h':Heap},(∃o,s.heap.get? a=some o/\H a=none)->Heap.SameBut a s.heap h'->EL X.prog X.w H h':=λ{a h'} ha F b ob e=>by
  obtain⟨_,_,Z⟩:=ha;refine(I.hok b ob e).stay (λc w' W q=>(F.2 c ?_).trans q) (λ_ q=>q) λ_ _ q=>q
  rintro rfl;rcases W with rfl|W
  .rw[Z]at e;cases e
  .rw[Z]at W;cases W
 rcases Y with hk|hk
 .refine wpAny_storeName_local hk hn (λh' aj F=>?_) ag;obtain⟨oL,_,_,ai,_⟩:=id hn;refine h _ ⟨I.ok,I.os,I.bare,⟨λb o e n hb Y=>?_,λb o e n hb Y=>?_,I.base.free,λb o e Y=>?_,I.base.tups,I.base.frzs,I.base.tbls⟩,⟨_,aj,λj y v' G e2 e3=>?_⟩,λy c e=>?_,I.free,I.freeC,λp hp=>?_,J ⟨oL,ai,I.free⟩ F,by simpa using I.len⟩ ⟨_,F,.inl rfl⟩
  .exact(F.2 b (Be (Bo (As e) I.ok.above))).trans (I.base.keep b o e n hb Y)
  .obtain⟨sl,G⟩:=I.base.slot b o e n hb Y;exact⟨sl,(F.2 b (Be (Bo (As e) I.ok.above))).trans G⟩
  .obtain⟨o',G⟩:=I.base.there b o e Y;exact⟨o',(F.2 b (Be (Bo (As e) I.ok.above))).trans G⟩
  .by_cases hj:j=i
   .subst hj;rw[hi]at G;cases G
    rw[J7 aa]at e2
    cases e2;exact⟨u,r,.inl ⟨hk,by simp⟩⟩
   .rw[Gm (Ne.symm hj)]at e2
    obtain⟨u',r',q⟩:=hl j y v' G e2 e3;refine⟨u',r',?_⟩;rcases q with⟨k,e⟩|⟨k,c,e,z⟩
    .refine .inl ⟨k,?_⟩;have:y≠x:=λe=>hj (TX hN G (e ▸ hi))
     simp[this,e]
    .exact .inr ⟨k,c,e,z.sameBut F (cne y c e)⟩
  .obtain⟨w',z⟩:=I.cell y c e;exact⟨w',z.sameBut F (cne y c e)⟩
  .obtain⟨e,n,ne,nf,d⟩:=I.pin p hp;exact⟨(F.2 p.1 ne).trans e,n,ne,nf,d⟩
 .have ac:X.fn x=true:=by
   rcases hf with z|z
   .exact z
   .rw[z]at hk;cases hk
  obtain⟨c,W⟩:=I.ok.has x (.inl hk);obtain⟨w',z⟩:=I.cell x c W;refine wpAny_storeName_cell I.ok.kind hk W z (λh' ah F=>?_);obtain⟨oc,ad,ae⟩:=id z;refine h { s with heap:=h' } ⟨I.ok,I.os,I.bare,⟨λb o e n hb Y=>?_,λb o e n hb Y=>?_,I.base.free,λb o e Y=>?_,I.base.tups,I.base.frzs,I.base.tbls⟩,⟨m,hn.sameBut F (Ne.symm (cne x c W)),λj y v' G e2 e3=>?_⟩,λy c' e=>?_,I.free,I.freeC,λp hp=>?_,J ⟨oc,ad,I.freeC x c W⟩ F,by simpa using I.len⟩ ⟨c,F,.inr W⟩
  .exact(F.2 b (Be (Bo (As e) (I.ok.cab x c ac W)))).trans (I.base.keep b o e n hb Y)
  .obtain⟨sl,G⟩:=I.base.slot b o e n hb Y;exact⟨sl,(F.2 b (Be (Bo (As e) (I.ok.cab x c ac W)))).trans G⟩
  .obtain⟨o',G⟩:=I.base.there b o e Y;exact⟨o',(F.2 b (Be (Bo (As e) (I.ok.cab x c ac W)))).trans G⟩
  .by_cases hj:j=i
   .subst hj;rw[hi]at G;cases G
    rw[J7 aa]at e2
    cases e2;exact⟨u,r,.inr ⟨.inl hk,c,W,ah⟩⟩
   .rw[Gm (Ne.symm hj)]at e2
    obtain⟨u',r',q⟩:=hl j y v' G e2 e3;refine⟨u',r',?_⟩;rcases q with q|⟨k,c',e,z'⟩
    .exact .inl q
    .refine .inr ⟨k,c',e,z'.sameBut F ?_⟩;rintro rfl;exact hj (TX hN G (I.ok.inj _ _ _ e W ▸ hi))
  .by_cases af:c'=c
   .subst af;exact⟨_,ah⟩
   .obtain⟨w2,z2⟩:=I.cell y c' e;exact⟨w2,z2.sameBut F af⟩
  .obtain⟨e,n,ne,nf,d⟩:=I.pin p hp;refine⟨(F.2 p.1 ?_).trans e,n,ne,nf,d⟩;intro q;rw[q,ad]at e
   have q':oc=p.2:=Ap e;exact d w' (by rw[<-q'];exact ae)
theorem PB(I:AI X pins σ H s)(F:X.N.Nodup)(hi:X.N[i]?=some x)(hx:Of X.env.scope x)(r:AX v u)(h:∀s',AI X pins (σ.set i (some v)) H s'->Q () s')(hf:X.fn x=true\/X.env.scope.names.lookup x=some .local:=by first|exact .inl rfl|exact .inr rfl|assumption):wpAny M A (storeName X.env x u) Q E s :=
 TY I F hi hx r (λs' G _=>h s' G) hf
theorem AI.call'(I:AI X pins σ H s)(J:s'.os=s.os)(u:Un (JC X.stack) ch H H' s.heap s'.heap)(hok:EL X.prog X.w H' s'.heap)(G:AllBare s'.gens)(F:∀b∈ch,(b∈X.ex\/X.s₀.heap.objs.size<=b)/\b≠X.env.locals/\(∀x c,X.env.cells.lookup x=some c->c≠b)/\∀p∈X.pn++pins,p.1≠b):AI X pins σ H' s':=by
 obtain⟨h',g',d',t',o'⟩:=s';have e:o'=s.os:=J;subst e;exact I.call (g':=g') (t':=t') (d':=d') u hok G F
end
abbrev XK:=Value->Option Addr->Hp->Prop
abbrev St:=List (Option V)
abbrev VK:=V->Hp->Prop
abbrev TE:=St->Hp->VK->Prop
abbrev TT:=St->Hp->(Bool->Hp->Prop)->Prop
abbrev TA:=St->Hp->(List V->Hp->Prop)->Prop
structure DV where
 nx:St->Hp->Prop
 rt:VK
 bk:St->Hp->Prop:=λ_ _=>False
 ct:St->Hp->Prop:=λ_ _=>False
abbrev TS:=DV->St->Hp->Prop
def EP(X:Cx)(pins:List (Addr×Obj))(σ:St)(Q:VK)(u:Value)(s':Shared):Prop:=∃v H',AI X pins σ H' s'/\AX v u/\Q v H'
def TP(X:Cx)(pins:List (Addr×Obj))(σ:St)(Q:Bool->Hp->Prop)(b:Bool)(s':Shared):Prop:=∃H',AI X pins σ H' s'/\Q b H'
def AP(X:Cx)(pins:List (Addr×Obj))(σ:St)(Q:List V->Hp->Prop)(us:List Value)(s':Shared):Prop:=∃vs H',AI X pins σ H' s'/\AS vs us/\Q vs H'
def SP(X:Cx)(pins:List (Addr×Obj))(D:DV)(f:Flow)(s':Shared):Prop :=
 match f with
 | .next=>∃F H',AI X pins F H' s'/\D.nx F H'
 | .brk=>∃F H',AI X pins F H' s'/\D.bk F H'
 | .cont=>∃F H',AI X pins F H' s'/\D.ct F H'
 | .ret u=>∃v F H',AI X pins F H' s'/\AX v u/\D.rt v H'
def PE(X:Cx)(e:Expr)(t:TE):Prop :=
 ∀(pins:List (Addr×Obj)) (s:Shared) (σ:St) (H:Hp) (Q:VK),AI X pins σ H s->t σ H Q->wpAny (model X.prog X.w) X.A (eval e X.env) (EP X pins σ Q) X.xe s
def PT(X:Cx)(e:Expr)(t:TT):Prop :=
 ∀(pins:List (Addr×Obj)) (s:Shared) (σ:St) (H:Hp) (Q:Bool->Hp->Prop),AI X pins σ H s->t σ H Q->wpAny (model X.prog X.w) X.A (isTrue e X.env (eval e X.env)) (TP X pins σ Q) X.xe s
def PW(X:Cx)(e:Expr)(t:TT):Prop :=
 ∀(F:Sem Value) (pins:List (Addr×Obj)) (s:Shared) (σ:St) (H:Hp) (Q:Bool->Hp->Prop),AI X pins σ H s->t σ H Q->wpAny (model X.prog X.w) X.A (isTrue e X.env F) (TP X pins σ Q) X.xe s
theorem PW.pt(h:PW X e t):PT X e t:=h _
def PA(X:Cx)(es:List Expr)(t:TA):Prop :=
 ∀(pos:Pos) (pins:List (Addr×Obj)) (s:Shared) (σ:St) (H:Hp) (Q:List V->Hp->Prop),AI X pins σ H s->t σ H Q->wpAny (model X.prog X.w) X.A (spliced (backTo pos (starEach es X.env))) (AP X pins σ Q) X.xe s
def PS(X:Cx)(st:Stmt)(t:TS):Prop :=
 ∀(pins:List (Addr×Obj)) (s:Shared) (σ:St) (H:Hp) (D:DV),AI X pins σ H s->t D σ H->wpAny (model X.prog X.w) X.A (exec st X.env) (SP X pins D) X.xe s
def HA(X:Cx)(st:List Stmt)(t:TS):Prop :=
 ∀(pins:List (Addr×Obj)) (s:Shared) (σ:St) (H:Hp) (D:DV),AI X pins σ H s->t D σ H->wpAny (model X.prog X.w) X.A (execs st X.env) (SP X pins D) X.xe s
theorem BD{G:Type}{t:Sem G}{Q F:G->Shared->Prop}{M:Model}{A:Around}{E:Value->Shared->Prop}{s:Shared}(h:wpAny M A t Q E s)(I:∀a s,Q a s->F a s):wpAny M A t F E s:=C8 h I λ_ _ x=>x
section
variable {X:Cx}
theorem p9{a b:Expr}{ta tb:TE}(ha:PE X a ta)(hb:PE X b tb){pins:List (Addr×Obj)}{s:Shared}{σ:St}{H:Hp}{R:V->V->Hp->Prop}(I:AI X pins σ H s)(h:ta σ H λx H1=>tb σ H1 λy H2=>R x y H2)
 {α:Type}{Q:α->Shared->Prop}{f:Value->Value->Sem α}
 (hf:∀v u J x y H2,AI X pins σ H2 J->AX x v->AX y u->R x y H2->wpAny (model X.prog X.w) X.A (f v u) Q X.xe J) :
 wpAny (model X.prog X.w) X.A (eval a X.env) (λv F=>wpAny (model X.prog X.w) X.A (eval b X.env) (λu G=>wpAny (model X.prog X.w) X.A (f v u) Q X.xe G) X.xe F) X.xe s:=by
 refine BD (ha pins s σ H _ I h) λv s1 ⟨x,H1,I1,r1,Z⟩=>?_
 refine BD (hb pins s1 σ H1 _ I1 Z) λu J ⟨y,H2,W,Y,q2⟩=>?_
 exact hf v u J x y H2 W r1 Y q2
def Og(i:Nat):TE:=λσ H Q=>∃v,σ[i]?=some (some v)/\Q v H
def tC(v:V):TE:=λ_ H Q=>Q v H
theorem YR(hN:X.N[i]?=some x)(hv:R8 X.env.scope x)(hd:(x==("__debug__":Str))=false:=by decide)(hcd:(x==("__classdict__":Str))=false:=by decide):PE X (.Name x pos) (Og i):=by
 intro pins s σ H Q I h;obtain⟨v,e,h⟩:=h;obtain⟨m,W,Y⟩:=I.loc;obtain⟨u,r,l⟩:=Y i x v hN e hv;have fin:EP X pins σ Q u s:=⟨v,H,I,r,h⟩
 rcases l with⟨G,hm⟩|⟨G,c,J,F⟩
 .exact wpAny_Name (wpAny_loadName_local I.ok.kind G W hm fin) hd
 .rcases G with G|G
  .exact wpAny_Name (wpAny_loadName_cell I.ok.kind G J F fin) hd
  .exact wpAny_Name (wpAny_loadName_free I.ok.kind G J F fin hcd) hd
theorem AN{i j pos}:PE X (.Constant (.int i) j pos) (tC (.int i)):=λ_ _ _ H _ I h=>wpAny_Constant_int ⟨.int i,H,I.tok _,⟨_,rfl⟩,h⟩
theorem IB{b j pos}:PE X (.Constant (.bool b) j pos) (tC (.bl b)):=λ_ _ _ H _ I h=>Constant_bool ⟨.bl b,H,I,rfl,h⟩
theorem Lu{j pos}:PE X (.Constant .none j pos) (tC .non):=λ_ _ _ H _ I h=>Constant_none ⟨.non,H,I,rfl,h⟩
theorem CD{x j pos}:PE X (.Constant (.str x) j pos) (tC (.str x)):=λ_ _ _ H _ I h=>Calls.Constant_str ⟨.str x,H,I.tok _,⟨_,rfl⟩,h⟩
def Gl(X:Cx)(x:Str):Prop:=X.env.kindOf x=some .globalImplicit
theorem Mb(I:AI X pins σ H s)(F:Gl X x)(hm:X.mg x=some u)(h:Q u s)(hd:(x==("__debug__":Str))=false:=by decide):wpAny (model X.prog X.w) X.A (eval (.Name x pos) X.env) Q E s :=
 Gy I.ok.kind F (Calls.loadGlobal_global (by rw[I.ok.glob];exact I.mod.glob.keeps I.bk) hm h) hd
theorem L4(I:AI X pins σ H s)(F:Gl X x)(hm:X.mg x=none)(J:bootBuiltins x=some u)(h:Q u s)(G:x≠"__name__":=by decide)(hd:(x==("__debug__":Str))=false:=by decide):wpAny (model X.prog X.w) X.A (eval (.Name x pos) X.env) Q E s:=by
 obtain⟨W,h1,h2⟩:=I.mod.blt;exact Gy I.ok.kind F (Calls.loadGlobal_builtin (by rw[I.ok.glob];exact I.mod.glob.keeps I.bk) hm (by rw[I.ok.blt];exact h1.keeps I.bk) ((h2 x G).trans J) h) hd
theorem HS(F:Gl X x)(hm:X.mg x=some u)(r:AX v u)(hd:(x==("__debug__":Str))=false:=by decide):PE X (.Name x pos) (tC v) :=
 λ_ _ _ H _ I h=>Mb I F hm ⟨v,H,I,r,h⟩ hd
variable {a b:Expr}{ta tb:TE}{pos:Pos}
def PC(X:Cx)(op:CmpOp)(a b:Expr)(t:TE):Prop :=
 ∀(pins:List (Addr×Obj)) (s:Shared) (σ:St) (H:Hp) (Q:VK),AI X pins σ H s->t σ H Q ->
  wpAny (model X.prog X.w) X.A (eval a X.env) (λv G=>wpAny (model X.prog X.w) X.A (eval b X.env) (λu F=>wpAny (model X.prog X.w) X.A (compareOp op v u) (EP X pins σ Q) X.xe F) X.xe G) X.xe s
theorem TZ(b:Expr){op:CmpOp}(h:op≠.In)(h2:op≠.NotIn):behindInMarks op b=false:=by
 have F:(op==CmpOp.In)=false:=by cases op<;>first|rfl|exact absurd rfl h
 have G:(op==CmpOp.NotIn)=false:=by cases op<;>first|rfl|exact absurd rfl h2
 cases b<;>simp[behindInMarks,F,G]
def Ra(ta:TE):TE:=λσ H Q=>ta σ H λx H1=>Q (.bl (decide (x=.non))) H1
def YS(ta:TE):TE:=λσ H Q=>ta σ H λx H1=>Q (.bl (!decide (x=.non))) H1
theorem AX.none_iff{x:V}{v:Value}(r:AX x v):(v==Value.none)=decide (x=.non):=by
 cases x with
 | non=>cases r;rfl
 | bl _=>cases r;rfl
 | int _=>obtain⟨t,rfl⟩:=r;rfl
 | str _=>obtain⟨t,rfl⟩:=r;rfl
 | byt _=>obtain⟨t,rfl⟩:=r;rfl
 | flt _=>obtain⟨t,rfl⟩:=r;rfl
 | ref _=>cases r;rfl
 | ty _=>cases r;rfl
theorem Rb{j pos'}(ha:PE X a ta):PC X .Is a (.Constant .none j pos') (Ra ta):=by
 intro pins s σ H Q I h;refine BD (ha pins s σ H _ I h) λv W ⟨x,H1,G,J,F⟩=>?_
 exact Constant_none (is_none_gen ⟨.bl _,H1,G,by rw[J.none_iff];rfl,F⟩)
theorem Oh{j pos'}(ha:PE X a ta):PC X .IsNot a (.Constant .none j pos') (YS ta):=by
 intro pins s σ H Q I h;refine BD (ha pins s σ H _ I h) λv W ⟨x,H1,G,J,F⟩=>?_
 exact Constant_none (isnot_none_gen ⟨.bl _,H1,G,by rw[J.none_iff];rfl,F⟩)
def tB(t:TE):TT:=λσ H Q=>t σ H λx H1=>∃c,x=.bl c/\Q c H1
theorem Oi(h:PC X op a b t)(h1:behindInMarks op b=false:=by first|exact TZ _ (by decide) (by decide)|rfl):PE X (.Compare a [op] [b] pos) t:=λpins s σ H Q I hw=>wpAny_Compare1 (h pins s σ H Q I hw) h1
theorem Nw{op:CmpOp}{t:TE}(h:PC X op a b t)(h1:behindInMarks op b=false:=by first|exact TZ _ (by decide) (by decide)|rfl):PT X (.Compare a [op] [b] pos) (tB t):=by
 intro pins s σ H Q I hw;refine wpAny_isTrue_Compare1 (BD (h pins s σ H _ I hw) λv Z h1=>BD h1 λu W h2=>BD h2 λc Y ⟨x,H1,J,G,F⟩=>?_) h1;obtain⟨d,rfl,q⟩:=F;cases G;exact Ck ⟨H1,J,q⟩
theorem IC{e:Expr}{t:TE}(h:PE X e t)(he:∀F,isTrue e X.env F=(do let v <- F;standAt e.pos;holding [v] (truthy v)):=by intro _;rfl):PT X e (tB t):=by
 intro pins s σ H Q I hw;refine isTrue_plain (BD (h pins s σ H _ I hw) λv Y ⟨x,H1,W,J,G⟩=>?_) (he _);obtain⟨d,rfl,q⟩:=G;cases J;exact Ck ⟨H1,W,q⟩
variable {tA tB':TT}{rest:List Expr}
def Rc(t u:TT):TT:=λσ H Q=>t σ H λc H1=>if c=true then u σ H1 Q else Q false H1
def YT(t u:TT):TT:=λσ H Q=>t σ H λc H1=>if c=true then Q true H1 else u σ H1 Q
def Re(t:TT):TT:=λσ H Q=>t σ H λc H1=>Q (!c) H1
theorem L5(F:PT X a tA):PW X (.BoolOp .And [a] pos) tA:=by
 intro J pins s σ H Q I h;refine isTrue_and (BD (F pins s σ H Q I h) λc G e=>?_);cases c with
 | true=>exact isTrue_and_nil e
 | false=>exact e
theorem Nx(F:PT X a tA):PW X (.BoolOp .Or [a] pos) tA:=by
 intro J pins s σ H Q I h;refine isTrue_or (BD (F pins s σ H Q I h) λc G e=>?_);cases c with
 | false=>exact isTrue_or_nil e
 | true=>exact e
theorem L6(Y:PT X a tA)(hb:PW X (.BoolOp .And (b::rest) pos) tB'):PW X (.BoolOp .And (a::b::rest) pos) (Rc tA tB'):=by
 intro W pins s σ H Q I h;refine isTrue_and (BD (Y pins s σ H _ I h) λc J ⟨H1,G,F⟩=>?_);cases c with
 | true=>exact hb W pins J σ H1 Q G F
 | false=>exact⟨H1,G,F⟩
theorem Ny(Y:PT X a tA)(hb:PW X (.BoolOp .Or (b::rest) pos) tB'):PW X (.BoolOp .Or (a::b::rest) pos) (YT tA tB'):=by
 intro W pins s σ H Q I h;refine isTrue_or (BD (Y pins s σ H _ I h) λc J ⟨H1,G,F⟩=>?_);cases c with
 | true=>exact⟨H1,G,F⟩
 | false=>exact hb W pins J σ H1 Q G F
theorem Oj(F:PT X a tA):PT X (.UnaryOp .Not a pos) (Re tA):=by
 intro pins s σ H Q I h;exact isTrue_not (F pins s σ H (λc H1=>Q (!c) H1) I h)
def YU(ta tb:TE):TE:=λσ H Q=>ta σ H λx H1=>∃c,x=.bl c/\if c=true then tb σ H1 Q else Q (.bl false) H1
theorem KI{op}(h:PE X a t):PE X (.BoolOp op [a] pos) t:=λpins s σ H Q I hw=>BoolOp_one (h pins s σ H Q I hw)
theorem JD(Y:PE X a ta)(hb:PE X (.BoolOp .And (b::rest) pos) tb):PE X (.BoolOp .And (a::b::rest) pos) (YU ta tb):=by
 intro pins s σ H Q I h;refine BoolOp_and (BD (Y pins s σ H _ I h) λv J ⟨x,H1,G,W,F⟩=>?_);obtain⟨c,rfl,F⟩:=F;cases W;refine Ck ?_;cases c with
 | true=>exact hb pins J σ H1 Q G F
 | false=>exact⟨.bl false,H1,G,rfl,F⟩
def YV(t:TT)(ta tb:TE):TE:=λσ H Q=>t σ H λc H1=>if c=true then ta σ H1 Q else tb σ H1 Q
theorem Nz{c:Expr}(W:PT X c tA)(Y:PE X a ta)(hb:PE X b tb):PE X (.IfExp c a b pos) (YV tA ta tb):=by
 intro pins s σ H Q I h;refine wpAny_IfExp (BD (W pins s σ H _ I h) λd G ⟨H1,J,F⟩=>?_);cases d with
 | true=>exact Y pins G σ H1 Q J F
 | false=>exact hb pins G σ H1 Q J F
end
def AH(K:Frag)(H:Hp)(a:Addr)(xs:List V):Prop :=
 Rd H a (.lst xs) \/
  ∃(o:Obj) (its:Array Value) (n:Nat),K.lookup a=some o/\o.cls=.type "list"/\o.dict=none/\o.data=.seq its n/\its.size<=sizeLine/\AS xs its.toList
def BP(K:Frag)(H:Hp)(a:Addr)(xs:List V):Prop :=
 Rd H a (.tup xs) \/
  ∃(o:Obj) (its:Array Value) (n:Nat),K.lookup a=some o/\o.cls=.type "tuple"/\o.data=.seq its n/\its.size<=sizeLine/\AS xs its.toList
def Rf:Value->Option V
 | .none=>some .non
 | .bool b=>some (.bl b)
 | .int i _=>some (.int i)
 | .str x _=>some (.str x)
 | .bytes b _=>some (.byt b)
 | .float b _=>some (.flt b)
 | .ref a=>some (.ref a)
 | .type n=>some (.ty n)
 | _=>none
theorem AX.abs(r:AX x u):Rf u=some x:=by
 cases x with
 | non=>cases r;rfl
 | bl _=>cases r;rfl
 | int _=>obtain⟨t,rfl⟩:=r;rfl
 | str _=>obtain⟨t,rfl⟩:=r;rfl
 | byt _=>obtain⟨t,rfl⟩:=r;rfl
 | flt _=>obtain⟨t,rfl⟩:=r;rfl
 | ref _=>cases r;rfl
 | ty _=>cases r;rfl
theorem AX.inj{x y:V}{u:Value}(r:AX x u)(q:AX y u):x=y:=Ap (r.abs.symm.trans q.abs)
theorem AS.inj:∀{xs ys:List V}{us:List Value},AS xs us->AS ys us->xs=ys
 | _,_,_,.nil,.nil=>rfl
 | _,_,_,.cons r t,.cons F t'=>by rw[r.inj F,AS.inj t t']
section
variable {X:Cx}{pins:List (Addr×Obj)}{σ:St}{H:Hp}{s:Shared}{a:Addr}{xs ys:List V}
theorem AH.of{K:Frag}(h:H a=some (.lst xs)):AH K H a xs:=.inl (.inl h)
theorem BP.of{K:Frag}(h:H a=some (.tup xs)):BP K H a xs:=.inl (.inl h)
theorem AI.list(I:AI X pins σ H s)(h:AH X.K H a xs):∃its:List Value,AS xs its/\PlainL s.heap a its.toArray/\xs.length<=sizeLine:=by
 rcases h with h|⟨o,its,n,J,G,hd,F,W,r⟩
 .obtain⟨z,its,n,r,e⟩:=h.ok I.hok;exact⟨its,r,⟨_,n,e,rfl,rfl,rfl⟩,z⟩
 .refine⟨its.toList,r,⟨o,n,I.kIn a o J,G,hd,by simpa using F⟩,?_⟩;have e:=r.length;simp only[Au]at e
  lia
theorem AI.tuple(I:AI X pins σ H s)(h:BP X.K H a xs):∃its:List Value,AS xs its/\IsTup s.heap a its.toArray/\xs.length<=sizeLine:=by
 rcases h with h|⟨o,its,n,J,G,F,W,r⟩
 .obtain⟨z,its,r,p⟩:=h.ok I.hok;exact⟨its,r,p,z⟩
 .refine⟨its.toList,r,⟨o,I.kIn a o J,G,n,by simpa using F⟩,?_⟩;have e:=r.length;simp only[Au]at e
  lia
theorem AI.list_inj(I:AI X pins σ H s)(h:AH X.K H a xs)(h':AH X.K H a ys):xs=ys:=by
 obtain⟨its,r,⟨o,n,e,_,_,d⟩,_⟩:=I.list h;obtain⟨its',G,⟨o',J,F,_,_,d'⟩,_⟩:=I.list h';rw[e]at F;cases F
 rw[d]at d'
 injection d' with d1 _
 have:its=its':=by simpa using Bs Array.toList d1
 subst this;exact r.inj G
theorem AI.tuple_inj(I:AI X pins σ H s)(h:BP X.K H a xs)(h':BP X.K H a ys):xs=ys:=by
 obtain⟨its,r,⟨o,e,_,n,d⟩,_⟩:=I.tuple h;obtain⟨its',G,⟨o',F,_,J,d'⟩,_⟩:=I.tuple h';rw[e]at F;cases F
 rw[d]at d'
 injection d' with d1 _
 have:its=its':=by simpa using Bs Array.toList d1
 subst this;exact r.inj G
end
abbrev Cx.wish(X:Cx)(E:Value->Shared->Prop):Cx:={ X with xe:=E }
abbrev Cx.nox(X:Cx):Cx:=X.wish λ_ _=>False
theorem Cx.Ok.wish{X:Cx}(ok:X.Ok)(E:Value->Shared->Prop):(X.wish E).Ok :=
 ⟨ok.mod,ok.kind,ok.glob,ok.blt,ok.above,ok.inj,ok.has,ok.cab,ok.hd,ok.frames,ok.stk,ok.exf,ok.bs,ok.bsz,ok.noex,ok.exfs,ok.funs,ok.frf⟩
theorem Cx.Ok.unwish{X:Cx}{E:Value->Shared->Prop}(ok:(X.wish E).Ok):X.Ok :=
 ⟨ok.mod,ok.kind,ok.glob,ok.blt,ok.above,ok.inj,ok.has,ok.cab,ok.hd,ok.frames,ok.stk,ok.exf,ok.bs,ok.bsz,ok.noex,ok.exfs,ok.funs,ok.frf⟩
section
variable {X:Cx}{pins:List (Addr×Obj)}{σ:St}{H:Hp}{s:Shared}{E:Value->Shared->Prop}
theorem AI.wish(I:AI X pins σ H s)(E:Value->Shared->Prop):AI (X.wish E) pins σ H s:=⟨I.ok.wish E,I.os,I.bare,I.base,I.loc,I.cell,I.free,I.freeC,I.pin,I.hok,I.len⟩
theorem AI.unwish(I:AI (X.wish E) pins σ H s):AI X pins σ H s:=⟨I.ok.unwish,I.os,I.bare,I.base,I.loc,I.cell,I.free,I.freeC,I.pin,I.hok,I.len⟩
theorem SP.unwish{D:DV}{f:Flow}{s':Shared}(h:SP (X.wish E) pins D f s'):SP X pins D f s':=by
 cases f with
 | next=>obtain⟨F,H',I,q⟩:=h;exact⟨F,H',I.unwish,q⟩
 | brk=>obtain⟨F,H',I,q⟩:=h;exact⟨F,H',I.unwish,q⟩
 | cont=>obtain⟨F,H',I,q⟩:=h;exact⟨F,H',I.unwish,q⟩
 | ret u=>obtain⟨v,F,H',I,r,q⟩:=h;exact⟨v,F,H',I.unwish,r,q⟩
theorem HA.nox{st:List Stmt}{t:TS}(h:HA X.nox st t):HA X st t:=λpins s σ H D I hw =>
 C8 (h pins s σ H D (I.wish _) hw) (λ_ _ q=>q.unwish) λ_ _ z=>False.elim z
end
section
variable {X:Cx}{st:Stmt}{rest:List Stmt}{t u:TS}{e:Expr}{te:TE}{pos:Pos}
def U0:TS:=λD σ H=>D.nx σ H
def My(t u:TS):TS:=λD σ H=>t { D with nx:=u D } σ H
theorem CP:HA X [] U0:=λ_ _ σ H _ I h=>Fo ⟨σ,H,I,h⟩
theorem AL(h1:PS X st t)(h2:HA X rest u):HA X (st::rest) (My t u):=by
 intro pins s σ H D I h;refine wpAny_execs_cons (BD (h1 pins s σ H { D with nx:=u D } I h) λf G q=>?_);cases f with
 | next =>
   obtain⟨F,H',J,q⟩:=q;exact h2 pins G F H' D J q
 | ret v=>exact q
 | brk=>exact q
 | cont=>exact q
theorem AQ(h1:PS X st t):HA X [st] t:=by
 intro pins s σ H D I h;refine wpAny_execs_cons (BD (h1 pins s σ H D I h) λf F q=>?_);cases f with
 | next=>exact Fo q
 | ret v=>exact q
 | brk=>exact q
 | cont=>exact q
def U1:TS:=λD σ H=>D.bk σ H
theorem YW:PS X (.Pass pos) U0:=λ_ _ σ H _ I h=>wpAny_Pass ⟨σ,H,I,h⟩
theorem YX:PS X (.Break pos) U1:=λ_ _ σ H _ I h=>wpAny_Break ⟨σ,H,I,h⟩
theorem AI.quiet{pins:List (Addr×Obj)}{σ:St}{H:Hp}{s:Shared}(I:AI X pins σ H s):interactive X.env=false:=by simp[interactive,I.ok.kind]
def YY(te:TE):TS:=λD σ H=>te σ H λ_ H1=>D.nx σ H1
theorem EJ(W:PE X e te)(J:swapsWith e none pos.line X.env=pure false:=by rfl):PS X (.Expr e pos) (YY te):=by
 intro pins s σ H D I h;exact wpAny_Expr_any (BD (W pins s σ H _ I h) λv Y ⟨x,H1,G,Z,F⟩=>⟨σ,H1,G,F⟩) I.quiet J
def Rg(te:TE):TS:=λD σ H=>te σ H D.rt
theorem BK(W:PE X e te):PS X (.Return (some e) pos) (Rg te):=by
 intro pins s σ H D I h;exact wpAny_Return_some (BD (W pins s σ H _ I h) λv Y ⟨x,H1,G,J,F⟩=>⟨x,σ,H1,G,J,F⟩)
def YZ:TS:=λD _ H=>D.rt .non H
theorem Z0:PS X (.Return none pos) YZ:=λ_ _ σ H _ I h=>wpAny_Return_none ⟨.non,σ,H,I,rfl,h⟩
def Rh(c:TT)(t u:TS):TS:=λD σ H=>c σ H λb H1=>if b=true then t D σ H1 else u D σ H1
theorem CF{c:Expr}{a b:List Stmt}{tc:TT}(Y:PT X c tc)(W:HA X a t)(hb:HA X b u):PS X (.If c a b pos) (Rh tc t u):=by
 intro pins s σ H D I h;refine wpAny_If (BD (Y pins s σ H _ I h) λd G ⟨H1,J,F⟩=>?_);cases d with
 | true=>exact W pins G σ H1 D J F
 | false=>exact hb pins G σ H1 D J F
def Z1:TS:=λ_ _ _=>False
theorem Lv:PS X st Z1:=λ_ _ _ _ _ _ h=>h.elim
end
abbrev TG:=V->St->Hp->(St->Hp->Prop)->Prop
abbrev NA:=List V->St->Hp->(St->Hp->Prop)->Prop
def PG(X:Cx)(F:Expr)(t:TG):Prop :=
 ∀(pins:List (Addr×Obj)) (s:Shared) (σ:St) (H:Hp) (v:V) (u:Value) (Q:St->Hp->Prop),AI X pins σ H s->AX v u->t v σ H Q ->
  wpAny (model X.prog X.w) X.A (assign F X.env u) (λ_ s'=>∃G H',AI X pins G H' s'/\Q G H') X.xe s
def Ol(X:Cx)(ts:List Expr)(t:NA):Prop :=
 ∀(pins:List (Addr×Obj)) (s:Shared) (σ:St) (H:Hp) (vs:List V) (us:List Value) (Q:St->Hp->Prop),AI X pins σ H s->AS vs us->t vs σ H Q ->
  wpAny (model X.prog X.w) X.A (assignInOrder ((assignEach ts X.env).map (·.2)) us) (λ_ s'=>∃F H',AI X pins F H' s'/\Q F H') X.xe s
abbrev Mz:=V->V->V->Hp->(Hp->Prop)->Prop
def Om(X:Cx)(t:Mz):Prop :=
 ∀(pins:List (Addr×Obj)) (s:Shared) (σ:St) (H:Hp) (o i v:V) (G F u:Value) (Q:Hp->Prop),AI X pins σ H s->AX o G->AX i F->AX v u->t o i v H Q ->
  wpAny (model X.prog X.w) X.A (setItem G F u) (λ_ s'=>∃H',AI X pins σ H' s'/\Q H') X.xe s
section
variable {X:Cx}{pos:Pos}
def PD(i:Nat):TG:=λv σ H Q=>Q (σ.set i (some v)) H
theorem BF(F:X.N.Nodup)(hi:X.N[i]?=some x)(hx:Of X.env.scope x)(hf:X.fn x=true\/X.env.scope.names.lookup x=some .local:=by first|exact .inl rfl|exact .inr rfl|assumption):PG X (.Name x pos) (PD i):=by
 intro pins s σ H v u Q I r h;exact wpAny_assign_Name (PB I F hi hx r (λs' G=>⟨_,H,G,h⟩) hf)
def Ri:NA:=λvs σ H Q=>vs=[]/\Q σ H
def Z2(t:TG)(u:NA):NA:=λvs σ H Q=>∃v r,vs=v::r/\t v σ H λF H'=>u r F H' Q
theorem FL:Ol X [] Ri:=by
 intro pins s σ H vs us Q I r h;obtain⟨e,h⟩:=h;subst e;cases r;exact assignInOrder_nil ⟨σ,H,I,h⟩
theorem BY{e:Expr}{es:List Expr}{t:TG}{u:NA}(h1:PG X e t)(h2:Ol X es u)
 (hs:(assignEach (e::es) X.env).map (·.2)=assign e X.env::(assignEach es X.env).map (·.2):=by rfl):Ol X (e::es) (Z2 t u):=by
 intro pins s σ H vs us Q I r h;obtain⟨v,vr,G,h⟩:=h;subst G;cases r with
 | cons r W =>
   rw[hs];refine Gz (BD (h1 pins s σ H _ _ _ I r h) λ_ Y ⟨F,H1,Z,J⟩=>?_);exact h2 pins Y F H1 _ _ Q Z W J
def On(K:Frag)(n:Nat)(t:NA):TG:=λv σ H Q=>∃a xs,v=.ref a/\BP K H a xs/\xs.length=n/\t xs σ H Q
theorem Z3(hc:X.calm=true)(h:Ol X es t)(Y:(assignEach es X.env).length=n:=by rfl)(F:(assignEach es X.env).findIdx? (·.1)=none:=by rfl):PG X (.Tuple es k pos) (On X.K n t):=by
 intro pins s σ H v u Q I r hw;obtain⟨a,xs,J,hq,Z,hw⟩:=hw;subst J;cases r;obtain⟨its,G,ht,hz⟩:=I.tuple hq;refine assign_Tuple_tuple (I.ok.hd hc) ht (by simp[Y,<-Z,G.length]) F λh' W=>?_
 have I1:AI X pins σ H { s with heap:=h' }:=I.kept (t':=s.toks) λb o e=>W b o (Be (As e)) e
 exact h pins _ σ H xs _ Q I1 (by simpa using G) hw
def Rj(to F:TE)(t:Mz):TG:=λv σ H Q=>to σ H λo H1=>F σ H1 λi H2=>t o i v H2 λG=>Q σ G
theorem U2{o i:Expr}{to J:TE}{t:Mz}(ho:PE X o to)(hi:PE X i J)(hs:Om X t)
 (ha:∀v,assign (.Subscript o i pos) X.env v=(do
   let F <- holding [v] (eval o X.env)
   let G <- holding [v,F] (eval i X.env)
   standAt pos
   holding [v,F,G] (setItem F G v)
   release [v,F,G] []):=by intro _;rfl):PG X (.Subscript o i pos) (Rj to J t):=by
 intro pins s σ H v u Q I r h;rw[ha];refine A8 (Cu (BD (ho pins s σ H _ I h) λF s1 ⟨x,H1,I1,r1,q1⟩=>?_));refine A8 (Cu (BD (hi pins s1 σ H1 _ I1 q1) λG W ⟨y,H2,Z,r2,q2⟩=>?_));refine A8 (Dv (A8 (Cu (BD (hs pins W σ H2 x y v F G u _ Z r1 r2 r q2) λ_ s3 ⟨H3,I3,Y⟩=>?_))));exact wpAny_release ⟨σ,H3,I3,Y⟩
def MB(te:TE)(g:TG):TS:=λD σ H=>te σ H λx H1=>g x σ H1 D.nx
theorem IG{tg e:Expr}{te:TE}{g:TG}(W:PE X e te)(F:PG X tg g)(hs:swapsWithSole [tg] e pos.line X.env=pure false:=by rfl)(hw:swappedStores [tg] e X.env=pure none:=by rfl)
 (h1:(assignEach [tg] X.env).map (·.2)=[assign tg X.env]:=by rfl):PS X (.Assign [tg] e pos) (MB te g):=by
 intro pins s σ H D I h;refine wpAny_Assign_stores (BD (W pins s σ H _ I h) λv Y ⟨x,H1,Z,J,G⟩=>?_) hs hw;rw[h1];exact BD (F pins Y σ H1 x v _ Z J G) λ_ s2 q=>q
theorem BQ{i:Nat}{x:Str}{e:Expr}{te:TE}{pos':Pos}(G:X.N.Nodup)(hi:X.N[i]?=some x)(hx:Of X.env.scope x)(he:PE X e te)(hs:swapsWith e (some (.Name x pos')) pos.line X.env=pure false:=by rfl)(hf:X.fn x=true\/X.env.scope.names.lookup x=some .local:=by first|exact .inl rfl|exact .inr rfl|assumption) :
 PS X (.Assign [.Name x pos'] e pos) (MB te (PD i)):=by
 intro pins s σ H D I h;refine wpAny_Assign_Name (BD (he pins s σ H _ I h) λv s1 ⟨y,H1,Y,W,J⟩=>?_) hs;exact PB Y G hi hx W (λZ F=>⟨_,H1,F,J⟩) hf
def Rk(i j:Nat)(ta:TA):TS:=λD σ H=>ta σ H λvs H1=>∃v w,vs=[v,w]/\D.nx ((σ.set i (some v)).set j (some w)) H1
theorem U3{kt k2 pt2}(hc:X.calm=true)(hN:X.N.Nodup)(hi:X.N[i]?=some x)(hj:X.N[j]?=some y)(hij:i≠j)(hx:X.env.scope.names.lookup x=some .local)(hy:X.env.scope.names.lookup y=some .local)(ha:PA X [a,b] ta)(hw:swappedStores [.Tuple [.Name x px,.Name y py] kt pt] (.Tuple [a,b] k2 pt2) X.env=pure (some [x,y]))(hs:swapsWithSole [.Tuple [.Name x px,.Name y py] kt pt] (.Tuple [a,b] k2 pt2) pos.line X.env=pure false:=by rfl) :
 PS X (.Assign [.Tuple [.Name x px,.Name y py] kt pt] (.Tuple [a,b] k2 pt2) pos) (Rk i j ta):=by
 intro pins s σ H D I h;rw[exec_Assign_arm];refine A8 (Dv ?_);rw[hs];refine A8 (An ?_);rw[Aq (by decide)];refine A8 (Tuple_ (BD (ha _ pins s σ H _ I h) λus J ⟨vs,H1,I1,r1,W⟩=>?_));obtain⟨v,w,e1,W⟩:=W;subst e1;obtain⟨F,G,rfl,rv,Y⟩:∃F G,us=[F,G]/\AX v F/\AX w G:=by
  cases r1 with
  | cons p q =>
    cases q with
    | cons p' q' =>
      cases q';exact⟨_,_,rfl,p,p'⟩
 refine Cy ?_ (by show 2<=sizeLine;decide);have I2:AI X pins σ H1 { J with heap:=J.heap.push { cls:=.type "tuple",data:=.seq [F,G].toArray } }:=I1.kept (t':=J.toks) λb o e=>A9 _ e
 rw[hw];refine A8 (An ?_);show wpAny (model X.prog X.w) X.A (do rule "assign.swapped-stores";let items <- unpackItems (.ref J.heap.objs.size) 2 none;assignInOrder [λv=>bindName X.env y v,λv=>bindName X.env x v] items.reverse;pure Flow.next) _ _ _;refine A8 (J8 (A8 (unpackItems_tuple (items:=#[F,G]) (I.ok.hd hc) (IsTup.new J.heap _) λh' Z=>?_)));have I3:=I2.kept (h':=h') (t':=J.toks) λb o e=>Z b o (Be (As e)) e
 show wpAny _ _ (assignInOrder [λv=>bindName X.env y v,λv=>bindName X.env x v] [G,F] >>= λ_=>pure Flow.next) _ _ _;refine A8 (Gz (wpAny_bindName (PB I3 hN hj (.inl hy) Y (λs2 I4=>?_) (.inr hy))));refine Gz (wpAny_bindName (PB I4 hN hi (.inl hx) rv (λs3 I5=>assignInOrder_nil (An ?_)) (.inr hx)));rw[List.set_comm _ _ (Ne.symm hij)]at I5
 exact⟨_,H1,I5,W⟩
end
section
variable {X:Cx}{pos:Pos}
def Z4(c:TT)(tb:TS):TS:=λD σ H=>∃W:Nat->St->Hp->Prop,(∃m,W m σ H)/\∀m σ H,W m σ H ->
 c σ H λb H1=>if b=true then ∃N:St->Hp->Prop,(∀F H',N F H'->∃G,G<m/\W G F H')/\tb { D with nx:=N,ct:=N,bk:=D.nx } σ H1 else D.nx σ H1
theorem Md(hp:PassesOwn (model X.prog X.w) X.A X.env X.xe)(hc:PT X c tc)(hb:HA X body tb):PS X (.While c body [] pos) (Z4 tc tb):=by
 intro pins s σ H D I h;obtain⟨W,⟨m0,w0⟩,Y⟩:=h;refine wpAny_While (codeAny_whileLoop (λn s'=>∃J H',AI X pins J H' s'/\W n J H') ?_ m0 ⟨σ,H,I,w0⟩);rintro n s1 ⟨G,H1,I1,w1⟩;refine E5 hp (BD (hc pins s1 G H1 _ I1 (Y n G H1 w1)) λb s2 ⟨H2,I2,q2⟩=>?_);cases b with
 | true =>
   obtain⟨N,hN,q2⟩:=q2;rw[Ar rfl];refine E5 hp (BD (hb pins s2 G H2 _ I2 q2) λf s3 q3=>?_);cases f with
   | next =>
     obtain⟨F,Z,I3,n3⟩:=q3;obtain⟨m',hm,w3⟩:=hN F Z n3;exact⟨m',hm,F,Z,I3,w3⟩
   | cont =>
     obtain⟨F,Z,I3,n3⟩:=q3;obtain⟨m',hm,w3⟩:=hN F Z n3;exact⟨m',hm,F,Z,I3,w3⟩
   | brk=>exact q3
   | ret v=>exact q3
 | false =>
   rw[Aq B1];exact Fo ⟨G,H2,I2,q2⟩
end
structure It where
 go:Nat->Hp->Prop
 yld:Nat->Hp->V->Hp->Prop
 stop:Nat->Hp->Prop
def EX(X:Cx)(pins:List (Addr×Obj))(H:Hp)(b:Addr):Prop :=
 H b=none/\b≠X.env.locals/\b∉X.fs/\(b∈X.ex\/X.s₀.heap.objs.size<=b)/\(∀x c,X.env.cells.lookup x=some c->c≠b)/\∀p∈X.pn++pins,p.1≠b
theorem AI.fpOk{X:Cx}{pins:List (Addr×Obj)}{σ:St}{H H':Hp}{s:Shared}{b:Addr}(I:AI X pins σ H s)(hb:s.heap.objs.size<=b)(F:H' b=none):EX X pins H' b:=by
 refine⟨F,Cz (Bo I.lt hb),I.nofs hb,.inr (B3 I.sz hb),λx c e z=>?_,λp G z=>?_⟩
 .obtain⟨v,q⟩:=I.cell x c e;exact absurd (Bo q.lt (by rw[z];exact hb)) (Df _)
 .exact absurd (Bo (As (I.pin p G).1) (by rw[z];exact hb)) (Df _)
structure HU(P:Program)(w:World)(K:Frag)(tg:Expr)(J:It)(fp:List Addr)(it:Addr)(tn:Nat->Heap->Prop):Prop where
 mem:it∈fp
 obj:∀i h,tn i h->∀b∈fp,∃o,h.get? b=some o/\∀v,o.data≠.cell v
 keep:∀i h h',tn i h->(∀b∈fp,∀o,h.get? b=some o->h'.get? b=some o)->tn i h'
 item:∀(X:Cx),X.prog=P->X.w=w->X.K=K->X.calm=true->∀(i:Nat) (pins:List (Addr×Obj)) (s:Shared) (σ:St) (H:Hp) (E:Value->Shared->Prop),AI X pins σ H s->(∀b∈fp,EX X pins H b)->tn i s.heap->J.go i H ->
  wpAny (model P w) X.A (pyNext (.ref it)) (λr s1=>∃u,r=some u /\
   wpAny (model P w) X.A (letOwnedTupleGo tg (.ref it) u) (λ_ s2=>∃x H',AI X pins σ H' s2/\AX x u/\J.yld i H x H'/\tn (i+1) s2.heap/\∀b∈fp,H' b=none) E s1) E s
 done:∀(X:Cx),X.prog=P->X.w=w->X.K=K->X.calm=true->∀(i:Nat) (pins:List (Addr×Obj)) (s:Shared) (σ:St) (H:Hp) (E:Value->Shared->Prop),AI X pins σ H s->(∀b∈fp,EX X pins H b)->tn i s.heap->J.stop i H ->
  wpAny (model P w) X.A (pyNext (.ref it)) (λr s1=>r=none/\AI X pins σ H s1) E s
 self:∀(A:Around) (i:Nat) (s:Shared) (Q:Value->Shared->Prop) (E:Value->Shared->Prop),tn i s.heap->Q (.ref it) s->wpAny (model P w) A (pyIter (.ref it)) Q E s
abbrev TI:=St->Hp->(It->Hp->Prop)->Prop
def PF(X:Cx)(pins:List (Addr×Obj))(σ:St)(tg:Expr)(R:It->Hp->Prop)(F:Value)(I:Shared):Prop :=
 ∃(it:Addr) (fp:List Addr) (G:Nat->Heap->Prop) (J:It) (H':Hp),F=.ref it/\AI X pins σ H' I/\HU X.prog X.w X.K tg J fp it G/\G 0 I.heap/\(∀b∈fp,EX X pins H' b)/\R J H'
def PI(X:Cx)(tg F:Expr)(G:TI):Prop :=
 ∀(pins:List (Addr×Obj)) (s:Shared) (σ:St) (H:Hp) (R:It->Hp->Prop),AI X pins σ H s->G σ H R ->
  wpAny (model X.prog X.w) X.A (eval F X.env) (λv I=>wpAny (model X.prog X.w) X.A (pyIter v) (PF X pins σ tg R) X.xe I) X.xe s
theorem Oo(G:s.heap.get? it=some o)(F:o.cls=.type n)(hd:o.data=.fields vs)(hn:["enumerate","zip","dict_itemiterator","dict_reverseitemiterator","odict_iterator","itertools.zip_longest","itertools.pairwise"].contains n=false)(hQ:Q () s):wpAny M A (letOwnedTupleGo tg (.ref it) u) Q E s:=by
 unfold letOwnedTupleGo;cases tg<;>first
  | exact An hQ
  | (cases u<;>first
      | exact An hQ
      | (refine A8 (wpAny_load G ?_)
         rw[F,hd];show wpAny M A (if (["enumerate","zip","dict_itemiterator","dict_reverseitemiterator","odict_iterator","itertools.zip_longest","itertools.pairwise"].contains n&&vs[0]?==some (rawInt _))=true then _ else _) Q E s;rw[Aq (by intro h;rw[hn,Dx]at h;cases h)];exact An hQ))
def NB(K:Frag)(a:Addr):It :=
 ⟨λi H=>∃xs x,AH K H a xs/\xs[i]?=some x,λi H x H'=>H'=H/\∀xs,AH K H a xs->xs[i]?=some x,λi H=>∃xs,AH K H a xs/\xs.length<=i⟩
def Rl(K:Frag)(a:Addr):It :=
 ⟨λi H=>∃xs x,BP K H a xs/\xs[i]?=some x,λi H x H'=>H'=H/\∀xs,BP K H a xs->xs[i]?=some x,λi H=>∃xs,BP K H a xs/\xs.length<=i⟩
def Me(lo:Int)(n:Nat):It:=⟨λi _=>i<n,λi H x H'=>H'=H/\x=.int (lo+i),λi _=>n<=i⟩
theorem Z5{P:Program}{w:World}{K:Frag}{tg:Expr}(a it:Addr):HU P w K tg (NB K a) [it] it (λi h=>h.IsListIter it a i) where
 mem:=by simp
 obj:=λi h st b hb=>by
  have e:b=it:=by simpa using hb
  subst e;obtain⟨o,e,c,d⟩:=st;exact⟨o,e,λv z=>by rw[d]at z;cases z⟩
 keep:=λi h h' st k=>st.at λo e=>k it (by simp) o e
 item:=by
  intro X hP hw hK hc i pins s σ H E I G st Y;subst hP hw hK;obtain⟨xs,x,J,hx⟩:=Y;obtain⟨its,rv,p,hz⟩:=I.list J;obtain⟨u,hu,ru⟩:=rv.get hx;obtain⟨f0,Z,f2,f3,f4,f5⟩:=G it (by simp);refine wpAny_pyNext_list_item st p.isList (x:=u) (by simpa using hu) λh' F sb=>?_
  have I1:AI X pins σ H { s with heap:=h' }:=I.turned (t':=s.toks) (λb o hb e=>(sb.2 b hb).trans e) f0 Z f3 f4 f5;obtain⟨o,e,c,d⟩:=id F;exact⟨u,rfl,Oo (s:={ s with heap:=h' }) e c d (by decide) ⟨x,H,I1,ru,⟨rfl,λys hy=>by rw[I.list_inj hy J];exact hx⟩,F,λb hb=>(G b hb).1⟩⟩
 done:=by
  intro X hP hw hK hc i pins s σ H E I G st Y;subst hP hw hK;obtain⟨xs,J,hx⟩:=Y;obtain⟨its,rv,p,hz⟩:=I.list J;obtain⟨f0,Z,f2,f3,f4,f5⟩:=G it (by simp);have hl:=rv.length;exact wpAny_pyNext_list_end (I.ok.hd hc) st p.isList (by simp;lia) λh' eb=>⟨rfl,I.turned (t':=s.toks) (λb o hb e=>eb b o hb e) f0 Z f3 f4 f5⟩
 self:=λ_ _ _ _ _ st h=>wpAny_pyIter_listiter st h
theorem Z6{P:Program}{w:World}{K:Frag}{tg:Expr}(a it:Addr):HU P w K tg (Rl K a) [it] it (λi h=>h.IsTupleIter it a i) where
 mem:=by simp
 obj:=λi h st b hb=>by
  have e:b=it:=by simpa using hb
  subst e;obtain⟨o,e,c,d⟩:=st;exact⟨o,e,λv z=>by rw[d]at z;cases z⟩
 keep:=λi h h' st k=>st.at λo e=>k it (by simp) o e
 item:=by
  intro X hP hw hK hc i pins s σ H E I G st Y;subst hP hw hK;obtain⟨xs,x,J,hx⟩:=Y;obtain⟨its,rv,p,hz⟩:=I.tuple J;obtain⟨u,hu,ru⟩:=rv.get hx;obtain⟨f0,Z,f2,f3,f4,f5⟩:=G it (by simp);refine wpAny_pyNext_tuple_item st (show s.heap.IsTuple a its.toArray from p) (x:=u) (by simpa using hu) λh' F sb=>?_
  have I1:AI X pins σ H { s with heap:=h' }:=I.turned (t':=s.toks) (λb o hb e=>(sb.2 b hb).trans e) f0 Z f3 f4 f5;obtain⟨o,e,c,d⟩:=id F;exact⟨u,rfl,Oo (s:={ s with heap:=h' }) e c d (by decide) ⟨x,H,I1,ru,⟨rfl,λys hy=>by rw[I.tuple_inj hy J];exact hx⟩,F,λb hb=>(G b hb).1⟩⟩
 done:=by
  intro X hP hw hK hc i pins s σ H E I G st Y;subst hP hw hK;obtain⟨xs,J,hx⟩:=Y;obtain⟨its,rv,p,hz⟩:=I.tuple J;obtain⟨f0,Z,f2,f3,f4,f5⟩:=G it (by simp);have hl:=rv.length;exact wpAny_pyNext_tuple_end (I.ok.hd hc) st (show s.heap.IsTuple a its.toArray from p) (by simp;lia) λh' eb=>⟨rfl,I.turned (t':=s.toks) (λb o hb e=>eb b o hb e) f0 Z f3 f4 f5⟩
 self:=λ_ _ _ _ _ st h=>wpAny_pyIter_tupleiter st h
theorem Z7{P:Program}{w:World}{K:Frag}{tg:Expr}(it:Addr)(lo:Int)(n:Nat):HU P w K tg (Me lo n) [it] it (λi h=>IsRangeIter h it (lo+(i:Nat)*1) ((n:Int)-(i:Nat)) 1) where
 mem:=by simp
 obj:=λi h st b hb=>by
  have e:b=it:=by simpa using hb
  subst e;exact⟨_,st,λv z=>by
   have z':Data.fields _=Data.cell v:=z;cases z'⟩
 keep:=λi h h' st k=>k it (by simp) _ st
 item:=by
  intro X hP hw hK hc i pins s σ H E I G st J;subst hP hw hK;obtain⟨f0,Y,f2,f3,f4,Z⟩:=G it (by simp);have W:=Walks.range (prog:=X.prog) (w:=X.w) (I.ok.hd hc) it lo 1 n;refine W.item i s _ _ J st λv h' tk hv F kk=>?_
  obtain⟨t,rfl⟩:=hv;have I1:AI X pins σ H { s with heap:=h',toks:=tk }:=I.turned (λb o hb e=>kk b o (by simpa using hb) e) f0 Y f3 f4 Z;refine⟨_,rfl,Oo (s:={ s with heap:=h',toks:=tk }) (n:="range_iterator") F rfl rfl (by decide) ⟨.int (lo+i),H,I1,⟨t,?_⟩,⟨rfl,rfl⟩,F,λb hb=>(G b hb).1⟩⟩;rw[Int.mul_one]
 done:=by
  intro X hP hw hK hc i pins s σ H E I G st J;subst hP hw hK;obtain⟨f0,Y,f2,f3,f4,Z⟩:=G it (by simp);exact wpAny_pyNext_range_end (I.ok.hd hc) st (by have:n<=i:=J;lia) λh' eb=>⟨rfl,I.turned (t':=s.toks) (λb o hb e=>eb b o hb e) f0 Y f3 f4 Z⟩
 self:=λ_ _ _ _ _ st h=>wpAny_pyIter_rangeiter st h
section
variable {X:Cx}{tg:Expr}
def U4(K:Frag)(tl:TE):TI:=λσ H R=>tl σ H λx H1=>∃a,x=.ref a/\(∃xs,AH K H1 a xs)/\R (NB K a) H1
def Oq(K:Frag)(tl:TE):TI:=λσ H R=>tl σ H λx H1=>∃a,x=.ref a/\(∃xs,BP K H1 a xs)/\R (Rl K a) H1
theorem Z8{l:Expr}{tl:TE}(Y:PE X l tl):PI X tg l (U4 X.K tl):=by
 intro pins s σ H R I h;refine BD (Y pins s σ H _ I h) λv F ⟨x,H1,G,W,J⟩=>?_
 obtain⟨a,e,⟨xs,Z⟩,q⟩:=J;subst e;cases W;obtain⟨its,rv,p,hz⟩:=G.list Z;refine Fy p.isList ?_;refine⟨F.heap.objs.size,[F.heap.objs.size],_,_,H1,rfl,G.kept (t':=F.toks) λb o e=>A9 _ e,Z5 a _,⟨_,B4 _ rfl,rfl,rfl⟩,λb hb=>?_,q⟩;have e:b=F.heap.objs.size:=by simpa using hb
 subst e;exact G.fpOk (Af _) (G.hok.fresh (Af _))
theorem Z9{l:Expr}{tl:TE}(Y:PE X l tl):PI X tg l (Oq X.K tl):=by
 intro pins s σ H R I h;refine BD (Y pins s σ H _ I h) λv F ⟨x,H1,G,W,J⟩=>?_
 obtain⟨a,e,⟨xs,Z⟩,q⟩:=J;subst e;cases W;obtain⟨its,rv,p,hz⟩:=G.tuple Z;refine wpAny_pyIter_tuple (show F.heap.IsTuple a its.toArray from p) ?_;refine⟨F.heap.objs.size,[F.heap.objs.size],_,_,H1,rfl,G.kept (t':=F.toks) λb o e=>A9 _ e,Z6 a _,⟨_,B4 _ rfl,rfl,rfl⟩,λb hb=>?_,q⟩;have e:b=F.heap.objs.size:=by simpa using hb
 subst e;exact G.fpOk (Af _) (G.hok.fresh (Af _))
theorem U5{pins:List (Addr×Obj)}{σ:St}{H:Hp}{s:Shared}{R:It->Hp->Prop}{E:Value->Shared->Prop}{lo hi:Int}{t u v:Tok}{tk:Nat}(I:AI X pins σ H s)(h1:-(2^62)<=lo)(h2:lo<2^62)(Y:-(2^62)<=hi)(W:hi<2^62)
 (q:R (Me lo (hi-lo).toNat) H):wpAny (model X.prog X.w) X.A (pyIter (.ref s.heap.objs.size)) (PF X pins σ tg R) E { s with heap:=s.heap.push { cls:=.type "range",data:=.fields #[.int lo t,.int hi u,.int 1 v] },toks:=tk }:=by
 refine wpAny_pyIter_range (IsRange.new ..) (small_one h1 h2 Y W) ?_;have F:AI X pins σ H { s with heap:=s.heap.push { cls:=.type "range",data:=.fields #[.int lo t,.int hi u,.int 1 v] },toks:=tk }:=I.kept λb o e=>A9 _ e
 refine⟨(s.heap.push { cls:=.type "range",data:=.fields #[.int lo t,.int hi u,.int 1 v] }).objs.size,[(s.heap.push { cls:=.type "range",data:=.fields #[.int lo t,.int hi u,.int 1 v] }).objs.size],_,_,H,rfl,
  F.kept (t':=tk) λb o e=>A9 _ e,Z7 _ lo (hi-lo).toNat,?_,λb hb=>?_,q⟩
 .have G:lo+((0:Nat):Int)*1=lo:=by simp
  have J:(((hi-lo).toNat:Nat):Int)-((0:Nat):Int)=Builtin.Range.rangeSize lo hi 1:=by rw[rangeSize_one];split<;>lia
  show IsRangeIter _ _ (lo+((0:Nat):Int)*1) ((((hi-lo).toNat:Nat):Int)-((0:Nat):Int)) 1;rw[G,J];exact B4 _ rfl
 .have e:b=(s.heap.push { cls:=.type "range",data:=.fields #[.int lo t,.int hi u,.int 1 v] }).objs.size:=by simpa using hb
  subst e;exact F.fpOk (Af _) (F.hok.fresh (Af _))
def Za(ta:TA):TI:=λσ H R=>ta σ H λvs H1=>∃j:Int,vs=[.int j]/\-(2^62)<=j/\j<2^62/\R (Me 0 j.toNat) H1
def Zb(ta:TA):TI:=λσ H R=>ta σ H λvs H1=>∃i j:Int,vs=[.int i,.int j]/\(-(2^62)<=i/\i<2^62/\-(2^62)<=j/\j<2^62)/\R (Me i (j-i).toNat) H1
theorem L7{a:Expr}{ta:TA}{p pos:Pos}(G:Gl X "range")(hm:X.mg "range"=none)(ha:PA X [a] ta)(hs:starEach [a] X.env=[(false,eval a X.env)]:=by rfl):PI X tg (.Call (.Name "range" p) [a] [] pos) (Za ta):=by
 intro pins s σ H R I h;refine Call_ (L4 I G hm boot_range (C0 (BD (ha pos pins s σ H _ I h) λus s1 ⟨vs,H1,Z,J,F⟩=>?_) hs rfl));obtain⟨j,e,F,W,q⟩:=F;subst e;cases J with
 | cons r Y =>
   cases Y;obtain⟨t,rfl⟩:=r;exact call_range_1 (U5 Z (by lia) (by lia) F W (by simpa using q))
theorem Rm(J:Gl X "range")(hm:X.mg "range"=none)(ha:PA X [a,b] ta)(hs:starEach [a,b] X.env=[(false,eval a X.env),(false,eval b X.env)]:=by rfl)(hs2:starEach [b] X.env=[(false,eval b X.env)]:=by rfl) :
 PI X tg (.Call (.Name "range" p) [a,b] [] pos) (Zb ta):=by
 intro pins s σ H R I h;refine Call_ (L4 I J hm boot_range (C0 (BD (ha pos pins s σ H _ I h) λus s1 ⟨vs,H1,I1,Y,F⟩=>?_) (by rw[hs,hs2]) (by rw[hs2];rfl)));obtain⟨i,j,e,⟨F,Z,W,q4⟩,q⟩:=F;subst e;cases Y with
 | cons r G =>
   cases G with
   | cons r' G =>
     cases G;obtain⟨t,rfl⟩:=r;obtain⟨t',rfl⟩:=r';exact call_range_2 (U5 I1 F Z W q4 q)
def Rn(Y:TI)(g:TG)(tb:TS):TS:=λD σ H=>Y σ H λJ H1=>∃W:Nat->Nat->St->Hp->Prop,(∃m,W 0 m σ H1)/\∀i m σ H,W i m σ H ->
 (J.stop i H/\D.nx σ H)\/(J.go i H/\∃N:St->Hp->Prop,(∀F H',N F H'->∃I,I<m/\W (i+1) I F H')/\∀x H',J.yld i H x H'->g x σ H' λG H2=>tb { D with nx:=N,ct:=N,bk:=D.nx } G H2)
def Os(fp:List Addr)(h:Heap):List (Addr×Obj):=fp.filterMap λb=>(h.get? b).map λo=>(b,o)
theorem PH(hb:b∈fp)(e:h.get? b=some o):(b,o)∈Os fp h:=D8.mpr ⟨b,hb,by rw[e];rfl⟩
theorem Zc(G:p∈Os fp h):p.1∈fp/\h.get? p.1=some p.2:=by
 obtain⟨b,hb,e⟩:=D8.mp G;cases q:h.get? b with
 | none=>rw[q]at e;cases e
 | some o =>
   rw[q]at e
   have F:(b,o)=p:=Ap e;subst F;exact⟨hb,q⟩
theorem AI.pinned(I:AI X pins σ H s)(G:∀b∈fp,EX X pins H b)(J:∀b∈fp,∃o,s.heap.get? b=some o/\∀v,o.data≠.cell v):AI X (pins++Os fp s.heap) σ H s :=
 I.pins_of λp hp=>(Az.mp hp).elim (λz=>I.pin p (Bk _ z)) λz=>by
  obtain⟨hb,e⟩:=Zc z;obtain⟨W,Y,Z,_⟩:=G p.1 hb;obtain⟨o,F,d⟩:=J p.1 hb;rw[e]at F;cases F
  exact⟨e,W,Y,Z,d⟩
theorem AI.unpinned(I:AI X (pins++pl) σ H s):AI X pins σ H s:=I.pins_of λp F=>I.pin p (Bk _ (Cw _ F))
theorem GL(hp:PassesOwn (model X.prog X.w) X.A X.env X.xe)(hc:X.calm=true)(hi:PI X tg iter wi)(hg:PG X tg g)(hb:HA X body tb)(hs:∀x,foldedSetIterable iter X.env x=pure x:=by intro _;rfl):PS X (.For tg iter body [] pos) (Rn wi g tb):=by
 intro pins s σ H D I h;refine wpAny_For (BD (hi pins s σ H _ I h) λv s1 h1=>BD h1 λak s2 h2=>?_) hs;obtain⟨it,fp,tn,J,H2,e,I2,T,ah,f2,W,⟨m0,w0⟩,ae⟩:=h2;subst e;have G:∀{H':Hp},(∀b∈fp,H' b=none)->∀b∈fp,EX X pins H' b:=λhn b hb=>⟨hn b hb,(f2 b hb).2⟩
 refine codeAny_forLoop_any (λn s'=>∃i Y H',AI X pins Y H' s'/\tn i s'.heap/\(∀b∈fp,H' b=none)/\W i n Y H') ?_ m0 ⟨0,σ,H2,I2,ah,λb hb=>(f2 b hb).1,w0⟩;rintro n s3 ⟨i,aa,H3,I3,af,ad,w3⟩;rcases ae i n aa H3 w3 with⟨stop,qn⟩|⟨go,N,hN,step⟩
 .refine E5 hp (BD (T.done X rfl rfl rfl hc i pins s3 aa H3 X.xe I3 (G ad) af stop) λr s4 ⟨hr,I4⟩=>?_);subst hr;exact Fo ⟨aa,H3,I4,qn⟩
 .refine E5 hp (BD (T.item X rfl rfl rfl hc i pins s3 aa H3 X.xe I3 (G ad) af go) λr s4 ⟨u,hr,h4⟩=>?_);subst hr;refine E5 hp (BD h4 λ_ s5 ⟨x,H5,I5,r5,y5,ac,ai⟩=>?_);have aj:=I5.pinned (G ai) (T.obj _ _ ac);refine E5 hp (BD (hg _ s5 aa H5 x u _ aj r5 (step x H5 y5)) λ_ s6 ⟨ag,H6,I6,q6⟩=>?_);refine E5 hp (BD (hb _ s6 ag H6 _ I6 q6) λf s7 q7=>?_);have again:∀{F:St}{H7:Hp},AI X (pins++Os fp s5.heap) F H7 s7->N F H7->∃m,m<n/\∃i Y H',AI X pins Y H' s7/\tn i s7.heap/\(∀b∈fp,H' b=none)/\W i m Y H':=λ{F H7} Z n7=>by
   obtain⟨m',hm,w7⟩:=hN F H7 n7;refine⟨m',hm,i+1,F,H7,Z.unpinned,T.keep _ _ _ ac λb hb o e=>(Z.pin (b,o) (Bk _ (Bk _ (PH hb e)))).1,λb hb=>?_,w7⟩;obtain⟨o,e,d⟩:=T.obj _ _ ac b hb;exact(Z.pin (b,o) (Bk _ (Bk _ (PH hb e)))).2.1
  cases f with
  | next=>obtain⟨F,H7,Z,n7⟩:=q7;exact again Z n7
  | cont=>obtain⟨F,H7,Z,n7⟩:=q7;exact again Z n7
  | brk=>obtain⟨F,H7,Z,q7⟩:=q7;exact⟨F,H7,Z.unpinned,q7⟩
  | ret v=>obtain⟨x7,F,H7,Z,r7,q7⟩:=q7;exact⟨x7,F,H7,Z.unpinned,r7,q7⟩
end
theorem MC{K:Frag}{a:Addr}{xs:List V}{g:TG}{tb:TS}{D:DV}{σ:St}{H:Hp}(F:Nat->St->Hp->Prop)(Z:F 0 σ H)(hl:∀i σ H,i<=xs.length->F i σ H->AH K H a xs)
 (hs:∀i x σ H,xs[i]?=some x->F i σ H->g x σ H λG H2=>tb { D with nx:=F (i+1),ct:=F (i+1),bk:=D.nx } G H2) (hd:∀σ H,F xs.length σ H->D.nx σ H) :
 ∃W:Nat->Nat->St->Hp->Prop,(∃m,W 0 m σ H)/\∀i m σ H,W i m σ H ->
  ((NB K a).stop i H/\D.nx σ H)\/((NB K a).go i H/\∃N:St->Hp->Prop,(∀I H',N I H'->∃Y,Y<m/\W (i+1) Y I H')/\∀x H',(NB K a).yld i H x H'->g x σ H' λG H2=>tb { D with nx:=N,ct:=N,bk:=D.nx } G H2):=by
 refine⟨λi m σ H=>m=xs.length-i/\i<=xs.length/\F i σ H,⟨xs.length,by simp,B9 _,Z⟩,?_⟩;rintro i m σ H ⟨rfl,hi,p⟩;have q:=hl i σ H hi p;by_cases J:i<xs.length
 .refine .inr ⟨⟨xs,xs[i],q,by simp[J]⟩,F (i+1),λI H' p'=>⟨xs.length-(i+1),by lia,rfl,J,p'⟩,λx H' y=>?_⟩;obtain⟨e,y⟩:=y;subst e;exact hs i x σ _ (y xs q) p
 .have e:i=xs.length:=by lia
  subst e;exact .inl ⟨⟨xs,q,Af _⟩,hd σ H p⟩
theorem Kv{lo:Int}{n:Nat}{g:TG}{tb:TS}{D:DV}{σ:St}{H:Hp}(I:Nat->St->Hp->Prop)(Z:I 0 σ H)
 (hs:∀i σ H,i<n->I i σ H->g (.int (lo+i)) σ H λF H2=>tb { D with nx:=I (i+1),ct:=I (i+1),bk:=D.nx } F H2) (hd:∀σ H,I n σ H->D.nx σ H) :
 ∃W:Nat->Nat->St->Hp->Prop,(∃m,W 0 m σ H)/\∀i m σ H,W i m σ H ->
  ((Me lo n).stop i H/\D.nx σ H)\/((Me lo n).go i H/\∃N:St->Hp->Prop,(∀G H',N G H'->∃Y,Y<m/\W (i+1) Y G H')/\∀x H',(Me lo n).yld i H x H'->g x σ H' λF H2=>tb { D with nx:=N,ct:=N,bk:=D.nx } F H2):=by
 refine⟨λi m σ H=>m=n-i/\i<=n/\I i σ H,⟨n,by simp,B9 _,Z⟩,?_⟩;rintro i m σ H ⟨rfl,hi,p⟩;by_cases J:i<n
 .refine .inr ⟨J,I (i+1),λG H' p'=>⟨n-(i+1),by lia,rfl,J,p'⟩,λx H' y=>?_⟩;obtain⟨e,y⟩:=y;subst e y;exact hs i σ _ J p
 .have e:i=n:=by lia
  subst e;exact .inl ⟨Af _,hd σ H p⟩
abbrev R2:=V->V->Hp->VK->Prop
def EK(X:Cx)(f:Value->Value->Sem Value)(r:R2):Prop :=
 ∀(pins:List (Addr×Obj)) (s:Shared) (σ:St) (H:Hp) (x y:V) (v u:Value) (Q:VK),AI X pins σ H s->AX x v->AX y u->r x y H Q ->
  wpAny (model X.prog X.w) X.A (f v u) (EP X pins σ Q) X.xe s
def Ro(X:Cx)(f:Value->Sem Value)(r:V->Hp->VK->Prop):Prop :=
 ∀(pins:List (Addr×Obj)) (s:Shared) (σ:St) (H:Hp) (x:V) (v:Value) (Q:VK),AI X pins σ H s->AX x v->r x H Q ->
  wpAny (model X.prog X.w) X.A (f v) (EP X pins σ Q) X.xe s
def HJ(X:Cx)(f:Value)(r:List V->Hp->VK->Prop):Prop :=
 ∀(pins:List (Addr×Obj)) (s:Shared) (σ:St) (H:Hp) (xs:List V) (us:List Value) (Q:VK),AI X pins σ H s->AS xs us->r xs H Q ->
  wpAny (model X.prog X.w) X.A (call f us) (EP X pins σ Q) X.xe s
def PJ(r:R2)(ta tb:TE):TE:=λσ H Q=>ta σ H λx H1=>tb σ H1 λy H2=>r x y H2 Q
def Zd(r:V->Hp->VK->Prop)(ta:TE):TE:=λσ H Q=>ta σ H λx H1=>r x H1 Q
def rI(C:Int->Int->Prop)(g:Int->Int->V):R2:=λx y H Q=>∃i j,x=.int i/\y=.int j/\C i j/\Q (g i j) H
def Lx(g:Int->Int->V):R2:=λx y H Q=>∃i j,x=.int i/\y=.int j/\Q (g i j) H
def rU(g:Int->V):V->Hp->VK->Prop:=λx H Q=>∃i,x=.int i/\Q (g i) H
section
variable {X:Cx}{a b c:Expr}{ta tb tc:TE}{pos:Pos}
theorem ME(ha:PE X a ta)(hb:PE X b tb){pins:List (Addr×Obj)}{s:Shared}{σ:St}{H:Hp}{R:V->V->Hp->Prop}(I:AI X pins σ H s)
 (h:ta σ H λx H1=>tb σ H1 λy H2=>R x y H2) {Q:Value->Shared->Prop}{f:Value->Value->Sem Value}
 (hf:∀v u J x y H2,AI X pins σ H2 J->AX x v->AX y u->R x y H2->wpAny (model X.prog X.w) X.A (f v u) Q X.xe J) :
 wpAny (model X.prog X.w) X.A (eval a X.env) (λv F=>wpAny (model X.prog X.w) X.A (eval b X.env) (λu G=>wpAny (model X.prog X.w) X.A (f v u) Q X.xe G) X.xe F) X.xe s:=by
 refine BD (ha pins s σ H _ I h) λv s1 ⟨x,H1,I1,r1,Z⟩=>?_
 refine BD (hb pins s1 σ H1 _ I1 Z) λu J ⟨y,H2,W,Y,q2⟩=>?_
 exact hf v u J x y H2 W r1 Y q2
theorem AU{op:Operator}{r:R2}(W:EK X (binaryOp op) r)(Y:PE X a ta)(hb:PE X b tb):PE X (.BinOp a op b pos) (PJ r ta tb):=by
 intro pins s σ H Q I h;exact wpAny_BinOp (ME Y hb I h λv u G x y H2 J Z F q=>W pins G σ H2 x y v u Q J Z F q)
theorem MF(F:Ro X (unaryOp op) r)(Z:PE X a ta):PE X (.UnaryOp op a pos) (Zd r ta):=by
 intro pins s σ H Q I h;exact UnaryOp_ (BD (Z pins s σ H _ I h) λv J ⟨x,H1,W,Y,G⟩=>F pins J σ H1 x v Q W Y G)
theorem Rp{f:Value->Value->Sem Value}{C:Int->Int->Prop}{g:Int->Int->Int}
 (rule:∀(i j:Int) (t u:Tok) (s:Shared) (Q:Value->Shared->Prop) (E:Value->Shared->Prop),C i j->Q (.int (g i j) s.toks) { s with toks:=s.toks+1 }->wpAny (model X.prog X.w) X.A (f (.int i t) (.int j u)) Q E s) :
 EK X f (rI C λi j=>.int (g i j)):=by
 intro pins s σ H x y v u Q I G F h;obtain⟨i,j,rfl,rfl,J,q⟩:=h;obtain⟨t,rfl⟩:=G;obtain⟨t',rfl⟩:=F;exact rule i j t t' s _ _ J ⟨.int (g i j),H,I.tok _,⟨_,rfl⟩,q⟩
theorem MG{f:Value->Value->Sem Value}{g:Int->Int->Int}
 (rule:∀(i j:Int) (t u:Tok) (s:Shared) (Q:Value->Shared->Prop) (E:Value->Shared->Prop),Q (.int (g i j) s.toks) { s with toks:=s.toks+1 }->wpAny (model X.prog X.w) X.A (f (.int i t) (.int j u)) Q E s) :
 EK X f (Lx λi j=>.int (g i j)):=by
 intro pins s σ H x y v u Q I G F h;obtain⟨i,j,rfl,rfl,q⟩:=h;obtain⟨t,rfl⟩:=G;obtain⟨t',rfl⟩:=F;exact rule i j t t' s _ _ ⟨.int (g i j),H,I.tok _,⟨_,rfl⟩,q⟩
theorem Ly{f:Value->Value->Sem Value}{g:Int->Int->Bool}
 (rule:∀(i j:Int) (t u:Tok) (s:Shared) (Q:Value->Shared->Prop) (E:Value->Shared->Prop),Q (.bool (g i j)) s->wpAny (model X.prog X.w) X.A (f (.int i t) (.int j u)) Q E s) :
 EK X f (Lx λi j=>.bl (g i j)):=by
 intro pins s σ H x y v u Q I G F h;obtain⟨i,j,rfl,rfl,q⟩:=h;obtain⟨t,rfl⟩:=G;obtain⟨t',rfl⟩:=F;exact rule i j t t' s _ _ ⟨.bl (g i j),H,I,rfl,q⟩
def Rq(i j:Int):Prop:=0<j/\j<1073741824
def MH(i j:Int):Prop:=(-(2^64)<i/\i<2^64)\/(-(2^64)<j/\j<2^64)
theorem MH.ok{i j:Int}(h:MH i j):IntMulOk i j:=by
 rcases h with⟨h1,h2⟩|⟨h1,h2⟩
 .exact .of_left (intBits_le_64 h1 h2)
 .exact .of_right (intBits_le_64 h1 h2)
theorem DG:EK X (binaryOp .Add) (Lx λi j=>.int (i+j)):=MG λ_ _ _ _ _ _ _ q=>add_int q
theorem IH:EK X (binaryOp .Sub) (Lx λi j=>.int (i-j)):=MG λ_ _ _ _ _ _ _ q=>sub_int q
theorem IS:EK X (binaryOp .Mult) (rI MH λi j=>.int (i*j)):=Rp λ_ _ _ _ _ _ _ F q=>mul_int q F.ok
theorem JR:EK X (binaryOp .FloorDiv) (rI Rq λi j=>.int (i/j)):=Rp λi j _ _ _ _ _ F q=>by
 have h1:(0:Int)<j:=F.1;have h2:j<1073741824:=F.2;exact floordiv_int (by lia) (by rw[Int.fdiv_eq_ediv_of_nonneg i (by lia)];exact q) (.inl (J9 (by lia)))
theorem FI:EK X (binaryOp .Mod) (rI (λ_ j=>0<j) λi j=>.int (i%j)):=Rp λi j _ _ _ _ _ F q=>by
 have h1:(0:Int)<j:=F;exact mod_int' (by lia) (by rw[Int.fmod_eq_emod_of_nonneg i (by lia)];exact q)
theorem Ze:EK X (binaryOp .BitAnd) (Lx λi j=>.int (Builtin.bitAnd i j)):=MG λ_ _ _ _ _ _ _ q=>and_int q
theorem Zf{f:Value->Sem Value}{g:Int->Int}
 (rule:∀(i:Int) (t:Tok) (s:Shared) (Q:Value->Shared->Prop) (E:Value->Shared->Prop),Q (.int (g i) s.toks) { s with toks:=s.toks+1 }->wpAny (model X.prog X.w) X.A (f (.int i t)) Q E s) :
 Ro X f (rU λi=>.int (g i)):=by
 intro pins s σ H x v Q I F h;obtain⟨i,rfl,q⟩:=h;obtain⟨t,rfl⟩:=F;exact rule i t s _ _ ⟨.int (g i),H,I.tok _,⟨_,rfl⟩,q⟩
theorem ML:Ro X (unaryOp .USub) (rU λi=>.int (-i)):=Zf λ_ _ _ _ _ q=>neg_int q
end
def Ot:V->V->Bool
 | .non,.non=>true|.non,.int _=>true|.int _,.non=>true|.non,.bl _=>true|.bl _,.non=>true|.non,.str _=>true|.str _,.non=>true
 | .int _,.int _=>true|.bl _,.bl _=>true|.str _,.str _=>true|.byt _,.byt _=>true
 | .int _,.str _=>true|.str _,.int _=>true|.bl _,.str _=>true|.str _,.bl _=>true
 | _,_=>false
def Zg:R2:=λx y H Q=>Ot x y=true/\Q (.bl (decide (x=y))) H
def Zh:R2:=λx y H Q=>Ot x y=true/\Q (.bl (!decide (x=y))) H
theorem U6:decide (V.int i=V.int j)=(i==j):=by
 rw[E6];simp
theorem U7:decide (V.bl i=V.bl j)=(i==j):=by
 rw[E6];simp
theorem U8:decide (V.str i=V.str j)=(i==j):=by
 rw[E6];simp
theorem U9:decide (V.byt i=V.byt j)=(i.toList==j.toList):=by
 rw[E6];cases i;cases j;simp
section
variable {X:Cx}{a b c:Expr}{ta tb tc:TE}{pos:Pos}
theorem EO(I:AI X pins σ H s)(q:Q (.bl k) H)(e:k=k'):EP X pins σ Q (.bool k') s:=by
 subst e;exact⟨.bl k,H,I,rfl,q⟩
theorem EM:EK X (compareOp .Eq) Zg:=by
 intro pins s σ H x y v u Q I J F h;obtain⟨G,q⟩:=h;cases x with
 | non =>
   cases J;cases y with
   | non=>cases F;exact PySem.EqNone.eq_none_none (EO I q (by simp))
   | bl j=>cases F;exact PySem.EqNone.eq_none_bool (EO I q (by simp))
   | int j=>obtain⟨t',rfl⟩:=F;exact PySem.EqNone.eq_none_int (EO I q (by simp))
   | str j=>obtain⟨t',rfl⟩:=F;exact PySem.EqNone.eq_none_str (EO I q (by simp))
   | _=>exact absurd (show false=true from G) B1
 | bl i =>
   cases J;cases y with
   | non=>cases F;exact PySem.EqNone.eq_bool_none (EO I q (by simp))
   | bl j=>cases F;exact eq_bool (EO I q U7)
   | str j=>obtain⟨t',rfl⟩:=F;exact PySem.EqMixed.eq_bool_str (EO I q (by simp))
   | _=>exact absurd (show false=true from G) B1
 | int i =>
   obtain⟨t,rfl⟩:=J;cases y with
   | non=>cases F;exact PySem.EqNone.eq_int_none (EO I q (by simp))
   | int j=>obtain⟨t',rfl⟩:=F;exact eq_int (EO I q U6)
   | str j=>obtain⟨t',rfl⟩:=F;exact PySem.EqMixed.eq_int_str (EO I q (by simp))
   | _=>exact absurd (show false=true from G) B1
 | str i =>
   obtain⟨t,rfl⟩:=J;cases y with
   | non=>cases F;exact PySem.EqNone.eq_str_none (EO I q (by simp))
   | bl j=>cases F;exact PySem.EqMixed.eq_str_bool (EO I q (by simp))
   | int j=>obtain⟨t',rfl⟩:=F;exact PySem.EqMixed.eq_str_int (EO I q (by simp))
   | str j=>obtain⟨t',rfl⟩:=F;exact eq_str (EO I q U8)
   | _=>exact absurd (show false=true from G) B1
 | byt i =>
   obtain⟨t,rfl⟩:=J;cases y with
   | byt j=>obtain⟨t',rfl⟩:=F;exact PySem.W.eq_bytes (EO I q U9)
   | _=>exact absurd (show false=true from G) B1
 | _=>cases y<;>exact absurd (show false=true from G) B1
theorem IT:EK X (compareOp .NotEq) Zh:=by
 intro pins s σ H x y v u Q I J F h;obtain⟨G,q⟩:=h;cases x with
 | non =>
   cases J;cases y with
   | non=>cases F;exact PySem.EqNone.ne_none_none (EO I q (by simp))
   | bl j=>cases F;exact PySem.EqNone.ne_none_bool (EO I q (by simp))
   | int j=>obtain⟨t',rfl⟩:=F;exact PySem.EqNone.ne_none_int (EO I q (by simp))
   | str j=>obtain⟨t',rfl⟩:=F;exact PySem.EqNone.ne_none_str (EO I q (by simp))
   | _=>exact absurd (show false=true from G) B1
 | bl i =>
   cases J;cases y with
   | non=>cases F;exact PySem.EqNone.ne_bool_none (EO I q (by simp))
   | bl j=>cases F;exact ne_bool (EO I q (Bs not U7))
   | str j=>obtain⟨t',rfl⟩:=F;exact PySem.EqMixed.ne_bool_str (EO I q (by simp))
   | _=>exact absurd (show false=true from G) B1
 | int i =>
   obtain⟨t,rfl⟩:=J;cases y with
   | non=>cases F;exact PySem.EqNone.ne_int_none (EO I q (by simp))
   | int j=>obtain⟨t',rfl⟩:=F;exact ne_int (EO I q (Bs not U6))
   | str j=>obtain⟨t',rfl⟩:=F;exact PySem.EqMixed.ne_int_str (EO I q (by simp))
   | _=>exact absurd (show false=true from G) B1
 | str i =>
   obtain⟨t,rfl⟩:=J;cases y with
   | non=>cases F;exact PySem.EqNone.ne_str_none (EO I q (by simp))
   | bl j=>cases F;exact PySem.EqMixed.ne_str_bool (EO I q (by simp))
   | int j=>obtain⟨t',rfl⟩:=F;exact PySem.EqMixed.ne_str_int (EO I q (by simp))
   | str j=>obtain⟨t',rfl⟩:=F;exact ne_str (EO I q (Bs not U8))
   | _=>exact absurd (show false=true from G) B1
 | byt i =>
   obtain⟨t,rfl⟩:=J;cases y with
   | byt j=>obtain⟨t',rfl⟩:=F;exact PySem.W.ne_bytes (EO I q (Bs not U9))
   | _=>exact absurd (show false=true from G) B1
 | _=>cases y<;>exact absurd (show false=true from G) B1
theorem L8:EK X (compareOp .Lt) (Lx λi j=>.bl (decide (i<j))):=Ly λ_ _ _ _ _ _ _ q=>lt_int q
theorem Lz:EK X (compareOp .LtE) (Lx λi j=>.bl (decide (i<=j))):=Ly λ_ _ _ _ _ _ _ q=>le_int q
theorem KJ:EK X (compareOp .Gt) (Lx λi j=>.bl (decide (j<i))):=Ly λ_ _ _ _ _ _ _ q=>gt_int q
theorem Zi:EK X (compareOp .GtE) (Lx λi j=>.bl (decide (j<=i))):=Ly λ_ _ _ _ _ _ _ q=>ge_int q
theorem Ua:EK X (compareOp .In) (λx y H Q=>∃i j,x=.str i/\y=.str j/\Q (.bl (!(Builtin.Str.occurrences j i 0 j.length 1).isEmpty)) H):=by
 intro pins s σ H x y v u Q I G F h;obtain⟨i,j,rfl,rfl,q⟩:=h;obtain⟨t,rfl⟩:=G;obtain⟨t',rfl⟩:=F;exact in_str (EO I q rfl)
theorem BM(b:Expr)(h:op≠.In:=by decide)(h2:op≠.NotIn:=by decide):behindInMarks op b=false:=by
 have F:(op==CmpOp.In)=false:=by cases op<;>first|rfl|exact absurd rfl h
 have G:(op==CmpOp.NotIn)=false:=by cases op<;>first|rfl|exact absurd rfl h2
 cases b<;>simp[behindInMarks,F,G]
theorem FM{op:CmpOp}{r:R2}(W:EK X (compareOp op) r)(Y:PE X a ta)(hb:PE X b tb)(hm:behindInMarks op b=false):PE X (.Compare a [op] [b] pos) (PJ r ta tb):=by
 intro pins s σ H Q I h;exact wpAny_Compare1 (ME Y hb I h λv u G x y H2 J Z F q=>W pins G σ H2 x y v u Q J Z F q) hm
def Ub(t:TE):TT:=λσ H Q=>t σ H λx H'=>∃k,x=.bl k/\Q k H'
theorem BU(Y:EK X (compareOp op) r)(ha:PE X a ta)(hb:PE X b tb)(hm:behindInMarks op b=false):PT X (.Compare a [op] [b] pos) (Ub (PJ r ta tb)):=by
 intro pins s σ H Q I h;refine wpAny_isTrue_Compare1 (BD (ha pins s σ H _ I h) λv s1 ⟨x,H1,I1,r1,q1⟩=>BD (hb pins s1 σ H1 _ I1 q1) λu F ⟨y,H2,J,Z,q2⟩ =>
  BD (Y pins F σ H2 x y v u _ J r1 Z q2) λc s3 ⟨z,H3,I3,W,k,e,G⟩=>?_) hm
 subst e;cases W;exact Ck ⟨H3,I3,G⟩
def Uc(r I:R2)(ta tb tc:TE):TE:=λσ H Q=>ta σ H λx H1=>tb σ H1 λy H2=>r x y H2 λz F=>∃k,z=.bl k /\
 (if k=true then tc σ F λG J=>I y G J Q else Q (.bl false) F)
theorem Ud(ho:EK X (compareOp op) r)(F:EK X (compareOp op') r')(ha:PE X a ta)(hb:PE X b tb)(hc:PE X c tc)(hm:lastMarks [op,op'] [b,c]=false:=by with_unfolding_all rfl):PE X (.Compare a [op,op'] [b,c] pos) (Uc r r' ta tb tc):=by
 intro pins s σ H Q I h;refine Compare_chain (BD (ha pins s σ H _ I h) λv s1 ⟨x,H1,I1,r1,q1⟩=>chain_link (BD (hb pins s1 σ H1 _ I1 q1) λu s2 ⟨y,H2,I2,J,q2⟩ =>
  BD (ho pins s2 σ H2 x y v u _ I2 r1 J q2) λd s3 ⟨z,Y,W,r3,k,e,G⟩=>?_)) hm
 subst e;cases r3;refine Ck ?_;cases k with
 | false=>exact ite_ff ⟨.bl false,Y,W,rfl,G⟩
 | true=>exact ite_tt (chain_last (BD (hc pins s3 σ Y _ W G) λw' s4 ⟨Z,H4,I4,r4,q4⟩=>F pins s4 σ H4 y Z u w' Q I4 J r4 q4))
theorem Zj(ho:EK X (compareOp op) r)(F:EK X (compareOp op') r')(ha:PE X a ta)(hb:PE X b tb)(hc:PE X c tc)(hm:lastMarks [op,op'] [b,c]=false:=by with_unfolding_all rfl):PT X (.Compare a [op,op'] [b,c] pos) (Ub (Uc r r' ta tb tc)):=by
 intro pins s σ H Q I h;refine isTrue_chain (BD (ha pins s σ H _ I h) λv s1 ⟨x,H1,I1,r1,q1⟩=>test_link (BD (hb pins s1 σ H1 _ I1 q1) λu s2 ⟨y,H2,I2,J,q2⟩ =>
  BD (ho pins s2 σ H2 x y v u _ I2 r1 J q2) λd s3 ⟨z,Y,W,r3,k,e,G⟩=>?_)) hm
 subst e;cases r3;refine Ck ?_;cases k with
 | false =>
   obtain⟨k',e',q'⟩:=G;cases e';exact ite_ff ⟨Y,W,q'⟩
 | true =>
   refine ite_tt (test_last (BD (hc pins s3 σ Y _ W G) λw' s4 ⟨Z,H4,I4,r4,q4⟩=>BD (F pins s4 σ H4 y Z u w' _ I4 J r4 q4) λd' s5 ⟨z2,H5,I5,r5,k2,e2,q5⟩=>?_));subst e2;cases r5;exact Ck ⟨H5,I5,q5⟩
theorem NC:(sizeLine:Nat)<2^63:=by rw[sizeLine_eq];decide
theorem Kw:EK X (binaryOp .Add) (λx y H Q=>∃i j,x=.str i/\y=.str j/\i.length+j.length<=sizeLine/\Q (.str (i++j)) H):=by
 intro pins s σ H x y v u Q I J F h;obtain⟨i,j,rfl,rfl,G,q⟩:=h;obtain⟨t,rfl⟩:=J;obtain⟨t',rfl⟩:=F;exact add_str (λt' tk=>⟨.str (i++j),H,I.tok _,⟨_,rfl⟩,q⟩) G
theorem ID(r:AS [x] us):∃u,us=[u]/\AX x u:=by
 cases r with
 | cons G F=>cases F;exact⟨_,rfl,G⟩
theorem Rr(r:AS [x,y] us):∃u F,us=[u,F]/\AX x u/\AX y F:=by
 cases r with
 | cons J G =>
   cases G with
   | cons W I=>cases I;exact⟨_,_,rfl,J,W⟩
theorem Ru(G:X.calm=true):HJ X (.builtin "min") (λxs H Q=>∃i j,xs=[.int i,.int j]/\Q (.int (if j<i then j else i)) H):=by
 intro pins s σ H xs us Q I r h;obtain⟨i,j,rfl,q⟩:=h;obtain⟨u,J,rfl,⟨t,rfl⟩,⟨t',rfl⟩⟩:=Rr r;refine min_two_ints (I.ok.hd G) λh' tk k=>⟨_,H,I.kept k,?_,q⟩
 by_cases F:j<i
 .rw[Ar F,Ar F];exact⟨_,rfl⟩
 .rw[Aq F,Aq F];exact⟨_,rfl⟩
theorem Rv:HJ X (.type "int") (λxs H Q=>(∃i,xs=[.int i]/\Q (.int i) H)\/∃k,xs=[.bl k]/\Q (.int (if k then 1 else 0)) H):=by
 intro pins s σ H xs us Q I r h;rcases h with⟨i,rfl,q⟩|⟨k,rfl,q⟩
 .obtain⟨u,rfl,t,rfl⟩:=ID r;exact call_int_int ⟨.int i,H,I,⟨_,rfl⟩,q⟩
 .obtain⟨u,rfl,F⟩:=ID r;cases F;exact call_int_bool ⟨.int (if k then 1 else 0),H,I.tok _,⟨_,rfl⟩,q⟩
end
structure JE(h:Heap)(x dx C:Addr)(mA:Str->Option Value):Prop where
 obj:h.get? x=some (PySem.W.instObj C dx)
 ns:h.Ns1 dx mA
 ne:dx≠x
theorem Zk{h:Heap}{dx:Addr}{mA:Str->Option Value}(n:h.Ns1 dx mA):∃G,h.get? dx=some G/\∀name,PySem.W.lookIn name G=some (mA name):=by
 obtain⟨o,es,ep,Y,hd,J,_,hm⟩:=n;refine⟨o,Y,λname=>?_⟩;have e:=hm name;unfold nsFind findBy at e;rw[<-Jw]at e
 unfold PySem.W.lookIn;rw[hd];dsimp only;split
 .rename_i y q;rw[q]at e
  exact Bs some e
 .rename_i q;rw[q]at e
  have a:es.toList.any (·.refKey)=false:=by
   rw[K5];intro y Z;obtain⟨z,t,F⟩:=J y (Array.mem_toList_iff.mp Z);simp[DictEntry.refKey,F]
  have I:¬es.toList.any (·.refKey)=true:=by rw[a];exact B1
  rw[Aq I];exact Bs some e
theorem JE.look(I:JE h x dx C mA):∃F,PySem.W.InstAt h x (PySem.W.instObj C dx) C (some F)/\∀name,PySem.W.lookIn name F=some (mA name) :=
 let ⟨F,ho,hl⟩:=Zk I.ns
 ⟨F,⟨I.obj,rfl,rfl,ho⟩,hl⟩
section
variable {prog:Program}{w:World}{A:Around}{E:Value->Shared->Prop}{s:Shared}{K:Frag}{x dx C f:Addr}{mA:Str->Option Value}{name:Str}{v:Value}
theorem Zl(X:K.In s.heap)(I:JE s.heap x dx C mA)(G:PySem.W.plainGet K C name=true)(Z:PySem.W.hasDictIn K C=true)(ha:PySem.W.findIn K (.ref C) name=some none)(hv:mA name=some v)(F:PySem.W.handedIn v=true)(h:Q v { s with toks:=s.toks+1 }) :
 wpAny (model prog w) A (getAttr (.ref x) name expr) Q E s:=by
 obtain⟨od,J,Y⟩:=I.look;exact PySem.W.get_value X J (Gw G).1 (PySem.W.findObj_own Z ha rfl (by rw[Y,hv])) F h
theorem Zm(X:K.In s.heap)(I:JE s.heap x dx C mA)(F:PySem.W.plainGet K C name=true)(hf:PySem.W.findIn K (.ref C) name=some (some (.ref f)))(ht:PySem.W.isFn K (.ref f)=true)(hv:mA name=none)(h:Q (.ref f,[.ref x]) s) :
 wpAny (model prog w) A (getMethod (.ref x) name pl) Q E s:=by
 obtain⟨G,J,Y⟩:=I.look;exact PySem.W.method_fn X J (Gw F).1 (Gw F).2 hf (C2.mp ht) (by show(PySem.W.lookIn name G).map (·.isSome)=some false;rw[Y,hv];rfl) h
theorem Zn(X:K.In s.heap)(I:JE s.heap x dx C mA)(hs:PySem.W.findIn K (.ref C) "__setattr__"=some (some (.builtin "object.__setattr__")))(hp:PySem.W.plainOver K C=true)(ht:PySem.W.takerIn K C name=some none)(hh:PySem.W.hasDictIn K C=true)(hw:PySem.Within mA ns)(hsz:ns.length<=sizeLine)(h:∀h',JE h' x dx C (λy=>if y=name then some v else mA y)->Heap.SameBut dx s.heap h'->Q () { s with heap:=h',toks:=s.toks+2 }) :
 wpAny (model prog w) A (setAttr (.ref x) name v) Q E s:=by
 obtain⟨od,J,hl⟩:=I.look;refine PySem.W.set_plain X J hs (PySem.W.osa_open (s:={ s with toks:=s.toks+1 }) (r:=none) X J hp ht λb=>?_);obtain⟨cd,hc,ac⟩:=PySem.W.any_some hh;have hx:s.heap.get? x=some ⟨.ref C,some dx,.plain,#[]⟩:=I.obj;refine A8 (An (A8 (A8 (wpAny_loadPart hx (A8 (Jx (s:={ s with toks:=s.toks+1 }) (PySem.W.looks_clsIn X hc) ?_))))));rw[ac];refine An (a:=some dx) (A8 (An (A8 ?_)));refine wpAny_nsSet1 (s:={ s with toks:=s.toks+1 }) I.ns λh' G F=>?_
 obtain⟨oD,ad,ae,Z,Y,aa⟩:=G.count (K6 name v hw);refine A8 (wpAny_lookBehind Z (by rw[Y];exact pastItsLine_dict (B3 aa (by rw[B8];lia))) ?_);exact An (h _ ⟨(F.2 _ (Ne.symm I.ne)).trans I.obj,G,I.ne⟩ F)
theorem Zo (X:K.In s.heap) (hm:PySem.W.makesIn K C=true) (hi:PySem.W.findIn K (.ref C) "__init__"=some (some (.ref f))) (hf:PySem.W.typeIn K (.ref f)=some (.type "function")) (h:codeAny (model prog w) (A.under (.builtin "type.__call__" ⟨.ref C::vs,kw⟩)) (.call (.ref f) ⟨.ref (s.heap.objs.size+1)::vs,kw⟩) (PySem.W.InitBack (s.heap.objs.size+1) R)
 { s with heap:=(s.heap.push PySem.W.emptyDict).push (PySem.W.instObj C s.heap.objs.size) }) :
 codeAny (model prog w) A (.call (.ref C) ⟨vs,kw⟩) R s:=by
 obtain⟨F,g,d,t,os⟩:=s;exact PySem.W.make_core (PySem.W.makes_of X hm) (PySem.W.looks_findIn X hi) (λself=>PySem.W.bind_fn X self hf) (.inl rfl) h
end
def DS(f:Str)(v:V):List (Str×V)->List (Str×V)
 | []=>[(f,v)]
 | (g,x)::r=>if g=f then(g,v)::r else(g,x)::DS f v r
theorem Rx(f g:Str)(v:V):∀fs:List (Str×V),(DS f v fs).lookup g=if g=f then some v else fs.lookup g
 | []=>by
   show List.lookup g [(f,v)]=_;by_cases h:g=f
   .have hb:(g==f)=true:=C2.mpr h;simp only[List.lookup,hb,Ar h]
   .have hb:(g==f)=false:=D3.mpr h;simp only[List.lookup,hb,Aq h]
 | (k,x)::r=>by
   have ih:=Rx f g v r;rw[show DS f v ((k,x)::r)=(if k=f then(k,v)::r else(k,x)::DS f v r)from rfl];by_cases F:k=f
   .rw[Ar F];by_cases h:g=k
    .have hb:(g==k)=true:=C2.mpr h;simp only[List.lookup,hb,Ar (h.trans F)]
    .have hb:(g==k)=false:=D3.mpr h;simp only[List.lookup,hb,Aq (λe:g=f=>h (e.trans F.symm))]
   .rw[Aq F];by_cases h:g=k
    .have hb:(g==k)=true:=C2.mpr h;simp only[List.lookup,hb,Aq (λe:g=f=>F (h.symm.trans e))]
    .have hb:(g==k)=false:=D3.mpr h;simp only[List.lookup,hb];exact ih
theorem Ry(f:Str)(v:V):∀fs:List (Str×V),f∈(DS f v fs).map (·.1)/\∀g,g∈fs.map (·.1)->g∈(DS f v fs).map (·.1)
 | []=>⟨by simp[DS],λg h=>by simp at h⟩
 | (k,x)::r=>by
   obtain⟨G,I⟩:=Ry f v r;rw[show DS f v ((k,x)::r)=(if k=f then(k,v)::r else(k,x)::DS f v r)from rfl];by_cases F:k=f
   .rw[Ar F];subst F;exact⟨by simp,λg h=>by simpa using h⟩
   .rw[Aq F];refine⟨?_,λg h=>?_⟩
    .rw[Bq];exact Ac _ G
    .rw[Bq]at h⊢
     rcases Am.mp h with e|e
     .exact Am.mpr (.inl e)
     .exact Ac _ (I g e)
theorem Ue(f:Str)(v:V):∀fs:List (Str×V),(DS f v fs).length<=fs.length+1
 | []=>by simp[DS]
 | (k,x)::r=>by
   have ih:=Ue f v r;rw[show DS f v ((k,x)::r)=(if k=f then(k,v)::r else(k,x)::DS f v r)from rfl];by_cases F:k=f
   .rw[Ar F,B8,B8];lia
   .rw[Aq F,B8,B8];lia
theorem ED.some_of(r:ED (some v) o):∃u,o=some u/\AX v u:=by
 cases o with
 | none=>exact(show False from r).elim
 | some u=>exact⟨u,rfl,r⟩
theorem ED.none_of(r:ED none o):o=none:=by
 cases o with
 | none=>rfl
 | some u=>exact(show False from r).elim
theorem Zp(r:AX v u):PySem.W.handedIn u=true:=by
 cases v with
 | non=>cases (show u=Value.none from r);rfl
 | bl b=>cases (show u=Value.bool b from r);rfl
 | int i=>obtain⟨t,e⟩:=(show ∃t,u=Value.int i t from r);cases e;rfl
 | str x=>obtain⟨t,e⟩:=(show ∃t,u=Value.str x t from r);cases e;rfl
 | byt b=>obtain⟨t,e⟩:=(show ∃t,u=Value.bytes b t from r);cases e;rfl
 | flt b=>obtain⟨t,e⟩:=(show ∃t,u=Value.float b t from r);cases e;rfl
 | ref a=>cases (show u=Value.ref a from r);rfl
 | ty n=>cases (show u=Value.type n from r);rfl
section
variable {P:Program}{w:World}{H H':Hp}{h h':Heap}{a C dx:Addr}{fs fs':List (Str×V)}
theorem Rz(hok:EL P w H h)(e:H a=some (.ins C dx fs)):∃mA,JE h a dx C mA/\(∀f,ED (fs.lookup f) (mA f))/\PySem.Within mA (fs.map (·.1))/\fs.length<=1000/\H dx=some (.own a):=by
 obtain⟨d,z,ne,F,mA,n,r,q⟩:=(show GN P w H h a (.ins C dx fs)from hok a _ e)
 exact⟨mA,⟨F,n,ne⟩,r,q,z,d⟩
end
structure L9(K:Frag)(C:Addr):Prop where
 pg:PySem.W.plainGet K C Str.empty=true
 hd:PySem.W.hasDictIn K C=true
 po:PySem.W.plainOver K C=true
 sa:PySem.W.findIn K (.ref C) "__setattr__"=some (some (.builtin "object.__setattr__"))
theorem L9.get{K:Frag}{C:Addr}(c:L9 K C)(f:Str):PySem.W.plainGet K C f=true:=c.pg
def Mf(K:Frag)(C:Addr)(f:Str):Prop:=PySem.W.findIn K (.ref C) f=some none
theorem Mf.taker{K:Frag}{C:Addr}{f:Str}(n:Mf K C f):PySem.W.takerIn K C f=some none:=by
 unfold PySem.W.takerIn;rw[show PySem.W.findIn K (.ref C) f=some none from n];rfl
structure Ou(K:Frag)(C:Addr)(m:Str)(f:Addr):Prop where
 at_:PySem.W.findIn K (.ref C) m=some (some (.ref f))
 fn:PySem.W.isFn K (.ref f)=true
 kp:PySem.W.keepIn K (.ref f)=true
section
variable {X:Cx}{pins:List (Addr×Obj)}{σ:St}{H:Hp}{s:Shared}{a C dx:Addr}{fs:List (Str×V)}{f:Str}{v:V}{A:Around}{E:Value->Shared->Prop}
theorem Zq(I:AI X pins σ H s)(e:H a=some (.ins C dx fs))(c:L9 X.K C)(n:Mf X.K C f)(l:fs.lookup f=some v)(h:∀u s',AI X pins σ H s'->AX v u->Q u s'):wpAny (model X.prog X.w) A (getAttr (.ref a) f b) Q E s:=by
 obtain⟨mA,O,r,_,_,_⟩:=Rz I.hok e;obtain⟨u,G,F⟩:=ED.some_of (v:=v) (o:=mA f) (by rw[<-l];exact r f);exact Zl I.kIn O (c.get f) c.hd n G (Zp F) (h u _ (I.tok _) F)
theorem Ug(I:AI X pins σ H s)(e:H a=some (.ins C dx fs))(c:L9 X.K C)(k:Ou X.K C m g)(l:fs.lookup m=none)(h:Q (.ref g,[.ref a]) s):wpAny (model X.prog X.w) A (getMethod (.ref a) m pl) Q E s:=by
 obtain⟨mA,O,r,_,_,_⟩:=Rz I.hok e;have F:mA m=none:=ED.none_of (by rw[<-l];exact r m);exact Zm I.kIn O (c.get m) k.at_ k.fn F h
theorem Zr(I:AI X pins σ H s)(e:H a=some (.ins C dx fs))(c:L9 X.K C)(n:Mf X.K C f)(hl:fs.length<1000)(W:AX y u)(h:∀s',AI X pins σ (upd H a (.ins C dx (DS f y fs))) s'->Q () s'):wpAny (model X.prog X.w) A (setAttr (.ref a) f u) Q E s:=by
 obtain⟨mA,O,r,J,_,G⟩:=Rz I.hok e;have Z:(fs.map (·.1)).length<=sizeLine:=by rw[A6,sizeLine_eq];lia
 refine Zn I.kIn O c.sa c.po n.taker c.hd J Z λh' F sb=>h _ ?_
 have hd:∃o,h'.get? dx=some o:=let ⟨o,_,_,e',_⟩:=F.ns;⟨o,e'⟩
 refine I.write (x:=a) (e:=dx) (by rw[e];exact True.intro) (.inr G) (λb q hb z=>(sb.2 b hb).trans z) hd ?_;refine⟨by rw[BV O.ne];exact G,?_,O.ne,F.obj,_,F.ns,λg=>?_,λg Y=>?_⟩
 .have:=Ue f y fs;lia
 .show ED ((DS f y fs).lookup g) (if g=f then some u else mA g);rw[Rx];by_cases q:g=f
  .rw[Ar q,Ar q];exact W
  .rw[Aq q,Aq q];exact r g
 .by_cases q:g=f
  .rw[q];exact(Ry f y fs).1
  .refine(Ry f y fs).2 g (J g λz=>Y ?_);show(if g=f then some u else mA g)=none;rw[Aq q];exact z
theorem AI.made(I:AI X pins σ H s):AI X pins σ (upd (upd H s.heap.objs.size (.own (s.heap.objs.size+1))) (s.heap.objs.size+1) (.ins C s.heap.objs.size []))
 { s with heap:=(s.heap.push PySem.W.emptyDict).push (PySem.W.instObj C s.heap.objs.size) }:=by
 have F:(s.heap.push PySem.W.emptyDict).get? s.heap.objs.size=some PySem.W.emptyDict:=B4 s.heap rfl;have e2:((s.heap.push PySem.W.emptyDict).push (PySem.W.instObj C s.heap.objs.size)).get? (s.heap.objs.size+1)=some (PySem.W.instObj C s.heap.objs.size):=by
  have:=B4 (s.heap.push PySem.W.emptyDict) (o:=PySem.W.instObj C s.heap.objs.size) rfl
  rwa [C9]at this
 have G:(s.heap.push PySem.W.emptyDict).Ns s.heap.objs.size (λ_=>none):=⟨PySem.W.emptyDict,#[],_,F,rfl,(λe Y=>absurd Y (by simp)),λ_=>rfl⟩
 have J:=I.laid (a:=s.heap.objs.size) (o:=.own (s.heap.objs.size+1)) (h':=s.heap.push PySem.W.emptyDict) (t':=s.toks) (λb u q=>A9 _ q) (Af _) ⟨_,F⟩;refine J.laid (a:=s.heap.objs.size+1) (o:=.ins C s.heap.objs.size []) (t':=s.toks) (λb u q=>A9 _ q) (E7 (C9 _ _)) ?_;have ne:s.heap.objs.size≠s.heap.objs.size+1:=Be (Il _);refine⟨by rw[BV ne,AA],B9 _,ne,e2,λ_=>none,(Heap.Ns1.of_empty G).at λo q=>A9 _ q,λ_=>True.intro,λy Z=>absurd rfl Z⟩
theorem Zs{f:Str}{s:Shared}(hb:attributeBase e f env (eval e env)=eval e env)(h:wpAny (model prog w) A (eval e env) (λo F=>wpAny (model prog w) A (getAttr o f true) Q E F) E s):wpAny (model prog w) A (eval (.Attribute e f pos) env) Q E s :=
 Attribute_any_ h (by rw[arm_eval_Attribute,hb])
end
structure BX(k:Nat)(A:Around):Prop where
 hd:A.handled=none
 dp:A.depth+3*k+5<recursionLimit
 un:A.units+16*k+200<cLine
theorem BX.mono(r:BX k A)(h:j<=k):BX j A:=⟨r.hd,by have:=r.dp;lia,by have:=r.un;lia⟩
theorem BX.deeper{k:Nat}{A:Around}(r:BX (k+1) A)(env:Env):BX k (A.deeper env) :=
 ⟨r.hd,by have:=r.dp;show A.depth+1+3*k+5<_;lia,by have:=r.un;show A.units+3+16*k+200<_;lia⟩
theorem Zt{A:Around}{C:Addr}{us:List Value}{F:List (Str×Value)}:(A.under (.builtin "type.__call__" ⟨.ref C::us,F⟩)).depth=A.depth+1:=by
 first|rfl|simp[Around.under,Code.weight,Code.isCreation,Code.isGuard,Code.isCaller,Code.frames,Code.isFrame,guardIds]
theorem Zu{A:Around}{C:Addr}{us:List Value}{F:List (Str×Value)}:(A.under (.builtin "type.__call__" ⟨.ref C::us,F⟩)).units=A.units+1:=by
 first|rfl|simp[Around.under,Code.cUnits,Code.frames,Code.isFrame]
theorem BX.make{k:Nat}{A:Around}(r:BX (k+1) A)(C:Addr)(us:List Value)(F:List (Str×Value)):BX k (A.under (.builtin "type.__call__" ⟨.ref C::us,F⟩)) :=
 ⟨r.hd,by have:=r.dp;rw[Zt];lia,by have:=r.un;rw[Zu];lia⟩
theorem BX.depth{k:Nat}{A:Around}(r:BX k A):A.depth<recursionLimit:=by have:=r.dp;lia
theorem BX.units(r:BX k A):A.units+64<cLine:=by have:=r.un;lia
def MM:TA:=λ_ H Q=>Q [] H
def Uh(ta:TE)(F:TA):TA:=λσ H Q=>ta σ H λx H1=>F σ H1 λxs H2=>Q (x::xs) H2
section
variable {X:Cx}{e:Expr}{es:List Expr}{te:TE}{t:TA}{pos:Pos}
theorem AG:PA X [] MM:=λ_ _ _ _ H Q I h=>Calls.spliced_nil ⟨[],H,I,.nil,h⟩
theorem AC(ha:PE X e te)(G:PA X es t)(hs:starEach (e::es) X.env=(false,eval e X.env)::starEach es X.env:=by rfl):PA X (e::es) (Uh te t):=by
 intro pos pins s σ H Q I h;rw[hs];show wpAny _ _ (spliced ((false,eval e X.env)::backTo pos (starEach es X.env))) _ _ s;refine Calls.spliced_cons (BD (ha pins s σ H _ I h) λu s1 ⟨x,H1,I1,Y,W⟩=>?_);exact BD (G pos pins s1 σ H1 _ I1 W) λus s2 ⟨xs,H2,F,J,Z⟩=>⟨x::xs,H2,F,.cons Y J,Z⟩
def RA(t:TA):TE:=λσ H Q=>t σ H λxs H1=>xs.length<=sizeLine/\∀p,H1 p=none->Q (.ref p) (upd H1 p (.tup xs))
def RB(t:TA):TE:=λσ H Q=>t σ H λxs H1=>xs.length<=sizeLine/\∀p,H1 p=none->Q (.ref p) (upd H1 p (.lst xs))
theorem EE{x1}(h:PA X es t):PE X (.Tuple es x1 pos) (RA t):=by
 intro pins s σ H Q I W;refine wpAny_Tuple_spliced (BD (h pos pins s σ H _ I W) λus F ⟨xs,H1,G,r,z,q⟩=>⟨by rw[<-r.length];exact z,?_⟩);have J:H1 F.heap.objs.size=none:=G.hok.fresh (Af _);refine⟨.ref F.heap.objs.size,upd H1 F.heap.objs.size (.tup xs),G.laid (t':=F.toks) (λb u e=>A9 _ e) (Af _) ?_,rfl,q _ J⟩;exact⟨z,us,r,⟨_,B4 _ rfl,rfl,_,rfl⟩⟩
theorem DA(h:PA X es t):PE X (.List es pos) (RB t):=by
 intro pins s σ H Q I W;refine wpAny_List_spliced (BD (h pos pins s σ H _ I W) λus F ⟨xs,H1,G,r,z,q⟩=>⟨by rw[<-r.length];exact z,?_⟩);have J:H1 F.heap.objs.size=none:=G.hok.fresh (Af _);refine⟨.ref F.heap.objs.size,upd H1 F.heap.objs.size (.lst xs),G.laid (t':=F.toks) (λb u e=>A9 _ e) (Af _) ?_,rfl,q _ J⟩;exact⟨z,us,0,r,B4 _ rfl⟩
end
abbrev Sp:=List V->Hp->VK->XK->Prop
abbrev JF:=List Env->Hp->Shared->XK->Value->Shared->Prop
structure JG(P:Program)(w:World)(K:Frag)(mg:Str->Option Value)(base:Heap)(A:Around)(outer:List Env)(s:Shared)(H:Hp):Prop where
 frames:A.frames=some outer
 mod:Mod K mg base
 bs:∀b o,base.get? b=some o->s.heap.get? b=some o/\H b=none
 bsz:base.objs.size<=s.heap.objs.size
 funs:s.heap.FunFrames base outer
 frf:∀b∈JC outer,H b=none
 hok:EL P w H s.heap
 bare:AllBare s.gens
def CE(outer:List Env)(P:Program)(w:World)(H:Hp)(s:Shared)(Q:VK)(u:Value)(s':Shared):Prop :=
 ∃v H',s'.os=s.os/\AllBare s'.gens/\Un (JC outer) [] H H' s.heap s'.heap/\EL P w H' s'.heap/\AX v u/\Q v H'
def CR(CX:JF)(outer:List Env)(P:Program)(w:World)(H:Hp)(s:Shared)(Q:VK)(E:XK)(r:Result)(s':Shared):Prop :=
 match r with
 | .ok (.ret u)=>CE outer P w H s Q u s'
 | .ok _=>False
 | .error e=>CX outer H s E e s'
structure AJ(P:Program)(w:World)(K:Frag)(mg:Str->Option Value)(base:Heap)(CX:JF)(k:Nat)(f:Addr)(fd:FuncData)(ps:List Str)(sp:Sp):Prop where
 len:∀vs H Q E,sp vs H Q E->vs.length=ps.length
 run:∀(A:Around) (outer:List Env) (s:Shared) (H:Hp) (args:Args) (us:List Value) (vs:List V) (Q:VK) (E:XK),BX k A->JG P w K mg base A outer s H->BindsTo s fd args (ps.zip us)->AS vs us->sp vs H Q E ->
  codeAny (model P w) A (.call (.ref f) args) (CR CX outer P w H s Q E) s
theorem AJ.mono{P:Program}{w:World}{K:Frag}{mg:Str->Option Value}{base:Heap}{CX:JF}{j k:Nat}{f:Addr}{fd:FuncData}{ps:List Str}{sp:Sp}(F:AJ P w K mg base CX j f fd ps sp)(h:j<=k) :
 AJ P w K mg base CX k f fd ps sp:=⟨F.len,λA outer s H args us vs Q E G=>F.run A outer s H args us vs Q E (G.mono h)⟩
theorem JG.make{P:Program}{w:World}{K:Frag}{mg:Str->Option Value}{base:Heap}{A:Around}{outer:List Env}{s:Shared}{H:Hp}(e:JG P w K mg base A outer s H)(C:Addr)(us:List Value)(F:List (Str×Value)) :
 JG P w K mg base (A.under (.builtin "type.__call__" ⟨.ref C::us,F⟩)) outer s H:=⟨by first|exact e.frames|(simpa[Around.under,Code.envs,Code.isFrame,pushEnvs]using e.frames),e.mod,e.bs,e.bsz,e.funs,e.frf,e.hok,e.bare⟩
section
variable {X:Cx}{pins:List (Addr×Obj)}{σ:St}{H:Hp}{s s':Shared}
theorem AI.env0(I:AI X pins σ H s):JG X.prog X.w X.K X.mg X.base X.A X.stack s H :=
 ⟨I.ok.frames,I.ok.mod,I.bs,B3 I.ok.bsz I.sz,I.stack,I.stkFree,I.hok,I.bare⟩
theorem AI.after(I:AI X pins σ H s)(h:CE X.stack X.prog X.w H s Q u s'):EP X pins σ Q u s':=by
 obtain⟨v,H',os,bare,un,hok,r,q⟩:=h;obtain⟨G,g,d,t,F⟩:=s';obtain rfl:F=s.os:=os;exact⟨v,H',I.call (h':=G) (g':=g) (d':=d) (t':=t) (ch:=[]) un hok bare (λb z=>absurd z (by simp)),r,q⟩
end
def Ui(sp:Sp)(dvs:List V)(E:XK)(t:TA):TE:=λσ H Q=>t σ H λvs H1=>sp (vs++dvs) H1 Q E
def Uj(C:Addr)(sp:Sp)(dvs:List V)(E:XK)(t:TA):TE:=λσ H Q=>t σ H λvs H1=>∀x dx,H1 x=none->H1 dx=none->dx≠x ->
 sp (.ref x::(vs++dvs)) (upd (upd H1 dx (.own x)) x (.ins C dx [])) (λv H2=>v=.non/\Q (.ref x) H2) E
def JS(K:Frag)(fd:FuncData)(ps:List Str)(ds:List Value):Prop :=
 ∀(s:Shared) (us:List Value),K.In s.heap->(us++ds).length=ps.length->BindsTo s fd ⟨us,[]⟩ (ps.zip (us++ds))
theorem JS.all{K:Frag}{fd:FuncData}{ps:List Str}(h:∀us:List Value,us.length=ps.length->bindArgs fd ⟨us,[]⟩=pure (ps.zip us)):JS K fd ps []:=λs us _ F=>by
 rw[Av]at F⊢
 exact .of_eq (h us F)
def Ov(CX:JF)(X:Cx)(E:XK):Prop:=∀(pins:List (Addr×Obj)) (σ:St) (H:Hp) (s:Shared) (e:Value) (s':Shared),AI X pins σ H s->CX X.stack H s E e s'->X.xe e s'
section
variable {X:Cx}{CX:JF}{k:Nat}{f C:Addr}{fd:FuncData}{ps:List Str}{sp:Sp}{dvs:List V}{ds:List Value}{E:XK}{x m:Str}{p pos apos:Pos}{e o:Expr}{es:List Expr}{ta:TE}{t:TA}
theorem RC(F:AJ X.prog X.w X.K X.mg X.base CX k f fd ps sp)(Z:BX k X.A)(hb:JS X.K fd ps ds)(hd:AS dvs ds)(W:Ov CX X E)(I:AI X pins σ H s)(r:AS vs us)(h:sp (vs++dvs) H Q E):wpAny (model X.prog X.w) X.A (call (.ref f) us) (EP X pins σ Q) X.xe s:=by
 have J:AS (vs++dvs) (us++ds):=r.append hd;have Y:(us++ds).length=ps.length:=by rw[<-J.length];exact F.len _ _ _ _ h
 refine Ew (E8 (F.run X.A X.stack s H ⟨us,[]⟩ (us++ds) (vs++dvs) Q E Z I.env0 (hb s us I.kIn Y) J h) λr s' G=>?_);cases r with
 | error e=>exact W pins σ H s e s' I G
 | ok fl =>
   cases fl with
   | ret u=>exact I.after G
   | next=>exact False.elim G
   | brk=>exact False.elim G
   | cont=>exact False.elim G
theorem Zv(F:AJ X.prog X.w X.K X.mg X.base CX k f fd ps sp)(hr:BX k X.A)(J:Gl X x)(hm:X.mg x=some (.ref f))(Y:PySem.W.keepIn X.K (.ref f)=true)(hb:JS X.K fd ps ds)(hd:AS dvs ds)(Z:Ov CX X E)
 (ha:PA X (e::es) t) (hdb:(x==("__debug__":Str))=false:=by decide) (he:starEach (e::es) X.env=(false,eval e X.env)::starEach es X.env:=by rfl) (hpl:(backTo pos (starEach es X.env)).any (·.1)=false:=by rfl) :
 PE X (.Call (.Name x p) (e::es) [] pos) (Ui sp dvs E t):=by
 intro pins s σ H Q I h;refine C3 (Mb I J hm ?_ hdb);refine Dy (h₀:=X.base) I.ok.mod.kin Y (BD (ha pos pins s σ H _ I h) λus s1 ⟨vs,H1,G,r,q⟩=>⟨G.kIn,?_⟩) he hpl;exact RC F hr hb hd Z G r q
structure Mk(K:Frag)(C f:Addr):Prop where
 makes:PySem.W.makesIn K C=true
 init:PySem.W.findIn K (.ref C) "__init__"=some (some (.ref f))
 fn:PySem.W.isFn K (.ref f)=true
 kp:PySem.W.keepIn K (.ref C)=true
theorem Zw(M:Mk X.K C f)(F:AJ X.prog X.w X.K X.mg X.base CX k f fd ps sp)(hr:BX (k+1) X.A)(hb:JS X.K fd ps ds)(hd:AS dvs ds)(hx:Ov CX X E)(I:AI X pins σ H s)(r:AS vs us)(h:∀x dx,H x=none->H dx=none->dx≠x->sp (.ref x::(vs++dvs)) (upd (upd H dx (.own x)) x (.ins C dx [])) (λv H2=>v=.non/\Q (.ref x) H2) E) :
 wpAny (model X.prog X.w) X.A (call (.ref C) us) (EP X pins σ Q) X.xe s:=by
 have Y:=h (s.heap.objs.size+1) s.heap.objs.size (I.hok.fresh (D6 _)) (I.hok.fresh (Af _)) (Be (Il _));have J:=AI.made (C:=C) I;have W:AS (V.ref (s.heap.objs.size+1)::(vs++dvs)) (Value.ref (s.heap.objs.size+1)::(us++ds)):=.cons rfl (r.append hd);have hl:(Value.ref (s.heap.objs.size+1)::us++ds).length=ps.length:=by
  have e:=W.length;rw[F.len _ _ _ _ Y]at e
  exact e.symm
 refine Ew (Zo (f:=f) I.kIn M.makes M.init (C2.mp M.fn) (E8 (F.run _ X.stack _ _ ⟨Value.ref (s.heap.objs.size+1)::us,[]⟩ (Value.ref (s.heap.objs.size+1)::(us++ds)) _ _ E (hr.make C us [])
  (J.env0.make C us []) (hb _ (Value.ref (s.heap.objs.size+1)::us) J.kIn hl) W Y) λr s' G=>?_))
 cases r with
 | error e=>exact hx pins σ _ _ e s' J G
 | ok fl =>
   cases fl with
   | ret u =>
     obtain⟨v,H',I3,rv,ev,Z⟩:=J.after G;subst ev;exact⟨rv,⟨V.ref (s.heap.objs.size+1),H',I3,rfl,Z⟩⟩
   | next=>exact False.elim G
   | brk=>exact False.elim G
   | cont=>exact False.elim G
theorem Zx(M:Mk X.K C f)(F:AJ X.prog X.w X.K X.mg X.base CX k f fd ps sp)(Z:BX (k+1) X.A)(J:Gl X x)(hm:X.mg x=some (.ref C))(hb:JS X.K fd ps ds)(hd:AS dvs ds)(Y:Ov CX X E)
 (ha:PA X (e::es) t) (hdb:(x==("__debug__":Str))=false:=by decide) (he:starEach (e::es) X.env=(false,eval e X.env)::starEach es X.env:=by rfl) (hpl:(backTo pos (starEach es X.env)).any (·.1)=false:=by rfl) :
 PE X (.Call (.Name x p) (e::es) [] pos) (Uj C sp dvs E t):=by
 intro pins s σ H Q I h;refine C3 (Mb I J hm ?_ hdb);refine Dy (h₀:=X.base) I.ok.mod.kin M.kp (BD (ha pos pins s σ H _ I h) λus s1 ⟨vs,H1,G,r,q⟩=>⟨G.kIn,?_⟩) he hpl;exact Zw M F Z hb hd Y G r q
end
def PK(X:Cx)(kws:List Keyword)(t:TA):Prop :=
 ∀(pos:Pos) (pins:List (Addr×Obj)) (s:Shared) (σ:St) (H:Hp) (Q:List V->Hp->Prop),AI X pins σ H s->t σ H Q->wpAny (model X.prog X.w) X.A (evalAll ((backToKw pos (keywordEach kws X.env)).map (·.2))) (AP X pins σ Q) X.xe s
section
variable {X:Cx}{CX:JF}{k:Nat}{f C:Addr}{fd:FuncData}{ps ks:List Str}{sp:Sp}{E:XK}{x m:Str}{p pos apos kpos:Pos}{e o:Expr}{es:List Expr}{kws:List Keyword}{te ta:TE}{t tk:TA}{nm:Option Str}
theorem Zy:PK X [] MM:=λ_ _ _ _ H Q I h=>wpAny_evalAll_nil ⟨[],H,I,.nil,h⟩
theorem Zz(ha:PE X e te)(G:PK X kws t):PK X (⟨nm,e,kpos⟩::kws) (Uh te t):=by
 intro pos pins s σ H Q I h;show wpAny _ _ (evalAll ((do let v <- eval e X.env;standAt pos;pure v)::(backToKw pos (keywordEach kws X.env)).map (·.2))) _ _ s;refine wpAny_evalAll_cons (A8 (BD (ha pins s σ H _ I h) λu s1 ⟨x,H1,I1,Y,W⟩=>A8 (Dv (An ?_))));exact BD (G pos pins s1 σ H1 _ I1 W) λus s2 ⟨xs,H2,F,J,Z⟩=>⟨x::xs,H2,F,.cons Y J,Z⟩
variable {g:List Value->List Value->List Value}{gV:List V->List V->List V}
end
structure AE(N P:List Str)(sc:Scope):Prop where
 kind:sc.kind=.function
 co:sc.isCoroutine=false
 gen:sc.isGenerator=false
 nd:N.Nodup
 pre:N.take P.length=P
 par:∀x∈P,sc.names.lookup x=some .local\/sc.names.lookup x=some .cell
 nofree:∀y∈sc.names,y.2≠.free
theorem Uk{kindOf:Str->Option NameKind}{x:Str}:∀{F:List (Str×Value)}{m:Str->Option Value},(∀v,(x,v)∉F)->bindL kindOf F m x=m x
 | [],_,_=>rfl
 | (n,v)::r,m,h=>by
   unfold bindL;rw[Uk λw hw=>h w (Ac _ hw)];split
   .have:x≠n:=by rintro rfl;exact h v Ab
    simp[this]
   .rfl
theorem Ul{kindOf:Str->Option NameKind}{x:Str}:∀{F:List (Str×Value)}{m:Str->Option Value},(∀v,(x,v)∉F)->bindC kindOf F m x=m x
 | [],_,_=>rfl
 | (n,v)::r,m,h=>by
   unfold bindC;rw[Ul λw hw=>h w (Ac _ hw)];split
   .rfl
   .have:x≠n:=by rintro rfl;exact h v Ab
    simp[this]
theorem Um{kindOf:Str->Option NameKind}{x:Str}{v:Value}:∀{P:List Str}{vs:List Value}{i:Nat}{m:Str->Option Value},P.Nodup->P[i]?=some x->vs[i]?=some v->kindOf x=some .local ->
 bindL kindOf (P.zip vs) m x=some v
 | [],_,_,_,_,h,_,_=>by simp at h
 | _::_,[],_,_,_,_,h,_=>by simp at h
 | p::P,w::vs,0,m,nd,h1,h2,F=>by
   simp at h1 h2;subst h1;subst h2;show bindL kindOf ((p,w)::P.zip vs) m p=_;unfold bindL;rw[Uk λv G=>(By.mp nd).1 (Ji G).1,Ar F];simp
 | p::P,w::vs,i+1,m,nd,h1,h2,F=>by
   show bindL kindOf ((p,w)::P.zip vs) m x=_;unfold bindL;exact Um (i:=i) (By.mp nd).2 (by simpa using h1) (by simpa using h2) F
theorem Uo{kindOf:Str->Option NameKind}{x:Str}{v:Value}:∀{P:List Str}{vs:List Value}{i:Nat}{m:Str->Option Value},P.Nodup->P[i]?=some x->vs[i]?=some v->kindOf x≠some .local ->
 bindC kindOf (P.zip vs) m x=some v
 | [],_,_,_,_,h,_,_=>by simp at h
 | _::_,[],_,_,_,_,h,_=>by simp at h
 | p::P,w::vs,0,m,nd,h1,h2,F=>by
   simp at h1 h2;subst h1;subst h2;show bindC kindOf ((p,w)::P.zip vs) m p=_;unfold bindC;rw[Ul λv G=>(By.mp nd).1 (Ji G).1,Aq F];simp
 | p::P,w::vs,i+1,m,nd,h1,h2,F=>by
   show bindC kindOf ((p,w)::P.zip vs) m x=_;unfold bindC;exact Uo (i:=i) (By.mp nd).2 (by simpa using h1) (by simpa using h2) F
def start(N:List Str)(vs:List V):St:=vs.map some++List.replicate (N.length-vs.length) none
def GC(CX:JF)(P:Program)(w:World)(K:Frag)(mg:Str->Option Value)(base:Heap)(N:List Str)(qual:Str)(scope:Scope)(f:Addr)(cd:Value)(A:Around)(outer:List Env)(s:Shared)(H:Hp)(E:XK):Cx where
 prog:=P
 w:=w
 K:=K
 mg:=mg
 base:=base
 A:=A.deeper (envOfC qual scope s.heap.objs.size f cd)
 N:=N
 s₀:=s
 H₀:=H
 env:=envOfC qual scope s.heap.objs.size f cd
 outer:=outer
 stack:=envOfC qual scope s.heap.objs.size f cd::outer
 ex:=[]
 calm:=true
 fn:=λ_=>true
 pn:=[]
 xe:=λe s'=>wpAny (model P w) (A.deeper (envOfC qual scope s.heap.objs.size f cd)) (leaving (envOfC qual scope s.heap.objs.size f cd) e) (λ_ F=>CX outer H s E e F) (λG F=>CX outer H s E G F) s'
theorem PL{F:Scope}{n:Nat}{x:Str}(h:F.names.lookup x=some .cell):∃c,(cellsFrom n F.names []).lookup x=some c:=by
 have q:=Ja F.names n [] (.inl h);exact Cv.mp q
theorem ZA{CX:JF}{P:Program}{w:World}{K:Frag}{mg:Str->Option Value}{base:Heap}{N ps:List Str}{qual:Str}{scope:Scope}{f:Addr}{cd:Value}{A:Around}{outer:List Env}{s Z:Shared}{H:Hp}{E:XK}{us:List Value}{vs:List V}
 (S:AE N ps scope) (hd:A.handled=none) (e0:JG P w K mg base A outer s H) (hl:vs.length=ps.length) (r:AS vs us)
 (x:InCallC s s.heap.objs.size (bindL (envOfC qual scope s.heap.objs.size f cd).kindOf (ps.zip us) λ_=>none) (cellsFrom (s.heap.objs.size+1) scope.names []) (bindC (envOfC qual scope s.heap.objs.size f cd).kindOf (ps.zip us) λ_=>none) Z) :
 AI (GC CX P w K mg base N qual scope f cd A outer s H E) [] (start N vs) H Z:=by
 have aa:ps.length<=N.length:=by have:=Bs List.length S.pre;rw[Al]at this;lia
 obtain⟨h1,tk,rfl,Y⟩:=x.done;have F:∀b:Addr,b∉(GC CX P w K mg base N qual scope f cd A outer s H E).ex:=λb z=>absurd (show b∈([]:List Addr)from z) (by simp)
 refine⟨⟨e0.mod,S.kind,rfl,rfl,Af _,λy z c h1 h2=>?_,λy G=>?_,λy c _ h=>?_,λ_=>hd,Around.frames_deeper e0.frames,.inr ⟨rfl,rfl⟩,λb z=>absurd z (F b),e0.bs,e0.bsz,λb _ _=>F b,λb z=>absurd z (F b),e0.funs,e0.frf⟩,
  rfl,e0.bare,Un.kept Y,⟨_,x.toInCall.ns,λi y v h1 h2 h3=>?_⟩,λy c h=>⟨_,x.cell y c h⟩,e0.hok.fresh (Af _),λy c h=>?_,λp I=>absurd (show p∈([]:List (Addr×Obj))from I) (by simp),e0.hok.kept Y,?_⟩
 .exact name_of_addr x.apart (D4 h1) (D4 h2)
 .have G:scope.names.lookup y=some .cell\/scope.names.lookup y=some .free:=G;rcases G with G|G
  .exact PL G
  .exact absurd rfl (S.nofree _ (D4 G))
 .exact J6 (x.above y c (D4 h))
 .have hi:i<vs.length:=by
   unfold start at h2;by_cases hi:i<vs.length
   .exact hi
   .rw[Bv (by simpa using hi)]at h2
    rw[Fu]at h2
    split at h2<;>cases h2
  have ha:vs[i]?=some v:=by
   unfold start at h2;rw[Bz (by simpa using hi),Ax]at h2
   cases e:vs[i]? with
   | none=>rw[e]at h2;cases h2
   | some a=>rw[e]at h2;cases h2;rfl
  obtain⟨u,hu,rv⟩:=r.get ha;have I:ps[i]?=some y:=by
   rw[<-S.pre,Hz (by lia)];exact h1
  have J:ps.Nodup:=by rw[<-S.pre];exact S.nd.sublist (List.take_sublist _ _)
  refine⟨u,rv,?_⟩;rcases S.par y (Ag I)with k|k
  .exact .inl ⟨k,Um J I hu k⟩
  .obtain⟨c,e⟩:=PL (n:=s.heap.objs.size+1) k;refine .inr ⟨.inl k,c,e,?_⟩;have q:=x.cell y c e;rw[Uo J I hu (by show scope.names.lookup y≠_;rw[k];decide)]at q
   exact q
 .exact e0.hok.fresh (J6 (x.above y c (D4 h)))
 .unfold start;show _=N.length;rw[Aa,A6,Ci]
  lia
theorem RD{CX:JF}{P:Program}{w:World}{K:Frag}{mg:Str->Option Value}{base:Heap}{k:Nat}{f:Addr}{name qual:Str}{params:Arguments}{body:List Stmt}{scope:Scope}{dV kV doc pm F ct oc:Value}{an od:Option Addr}
 {osl:Array (Option Value)}{N ps:List Str}{sp:Sp}(lk:K.lookup f=some ⟨oc,od,.func (PySem.W.fnOf name qual params body scope dV kV doc pm an F ct),osl⟩) (hcd:PySem.W.codeIn K F qual=true) (S:AE N ps scope)
 (len:∀vs H Q E,sp vs H Q E->vs.length=ps.length)
 (hbody:∀(A:Around) (outer:List Env) (s:Shared) (H:Hp) (vs:List V) (Q:VK) (E:XK),BX k (A.deeper (envOfC qual scope s.heap.objs.size f F))->sp vs H Q E ->
   ∃t,HA (GC CX P w K mg base N qual scope f F A outer s H E) body t/\t { nx:=λ_ H'=>Q .non H',rt:=Q } (start N vs) H) :
 AJ P w K mg base CX (k+1) f (PySem.W.fnOf name qual params body scope dV kV doc pm an F ct) ps sp:=by
 refine⟨len,λA outer s H args us vs Q E hr e0 hb r aa=>?_⟩;have hl:=len _ _ _ _ aa;have KX:K.In s.heap:=e0.mod.kin.keeps λb o e=>(e0.bs b o e).1
 have ac:s.heap.NoLimit:=e0.mod.nolimit.keeps λb o e=>(e0.bs b o e).1
 have Y:∀y∈ps.zip us,scope.names.lookup y.1=some .local\/(scope.names.lookup y.1=some .cell/\((cellsFrom (s.heap.objs.size+1) scope.names []).lookup y.1).isSome=true):=λ⟨n,v⟩ hy=>by
  rcases S.par n (Ji hy).1 with q|q
  .exact .inl q
  .exact .inr ⟨q,Ja _ _ _ (.inl q)⟩
 refine codeAny_call_function hr.depth (KX _ _ lk) rfl S.co S.gen rfl (PySem.W.codeRec_of KX hcd) (hb _ _ _ _ ?_);refine wpAny_newFunctionEnv_cells S.kind Y λenv he s1 x=>?_
 subst he;refine⟨ac.keeps x.toInCall.keep,codeAny_func ?_⟩;obtain⟨t,ht,hq⟩:=hbody A outer s H vs Q E (hr.deeper _) aa;have I:AI (GC CX P w K mg base N qual scope f F A outer s H E) [] (start N vs) H s1:=ZA S hr.hd e0 hl r x;refine C8 (ht [] s1 (start N vs) H _ I hq) (λfl s' Z=>?_) λe s' Z=>Z
 have fin:∀{G:St}{H':Hp}{v:V}{u:Value},AI (GC CX P w K mg base N qual scope f F A outer s H E) [] G H' s'->AX v u->Q v H'->CE outer P w H s Q u s' :=
  λ{G H' v u} J rv q=>⟨v,H',J.os,J.bare,J.base,J.hok,rv,q⟩
 cases fl with
 | ret u =>
   obtain⟨v,G,H',J,rv,q⟩:=Z;exact fin J rv q
 | next =>
   obtain⟨G,H',J,q⟩:=Z;exact fin (v:=V.non) (u:=Value.none) J rfl q
 | brk =>
   obtain⟨_,_,_,q⟩:=Z;exact False.elim q
 | cont =>
   obtain⟨_,_,_,q⟩:=Z;exact False.elim q
section
variable {X:Cx}{x:Str}{p pos:Pos}{e:Expr}{es:List Expr}{t:TA}{id T:String}{r:List V->Hp->VK->Prop}
def Up(r:List V->Hp->VK->Prop)(t:TA):TE:=λσ H Q=>t σ H λvs H1=>r vs H1 Q
theorem CY(hc:HJ X (.builtin id) r)(F:Gl X x)(hm:X.mg x=none)(hv:bootBuiltins x=some (.builtin id))(Y:PA X (e::es) t)(J:x≠"__name__":=by decide)(hdb:(x==("__debug__":Str))=false:=by decide)
 (he:starEach (e::es) X.env=(false,eval e X.env)::starEach es X.env:=by rfl) (hpl:(backTo pos (starEach es X.env)).any (·.1)=false:=by rfl):PE X (.Call (.Name x p) (e::es) [] pos) (Up r t):=by
 intro pins s σ H Q I h;refine C3 (L4 I F hm hv ?_ J hdb);exact PyProof.Rows.callWith_builtin1 (BD (Y pos pins s σ H _ I h) λus Z ⟨vs,H1,I1,W,G⟩=>hc pins Z σ H1 vs us Q I1 W G) he hpl
theorem JT(hc:HJ X (.type T) r)(F:Gl X x)(hm:X.mg x=none)(hv:bootBuiltins x=some (.type T))(Y:PA X (e::es) t)(J:x≠"__name__":=by decide)(hdb:(x==("__debug__":Str))=false:=by decide)
 (he:starEach (e::es) X.env=(false,eval e X.env)::starEach es X.env:=by rfl) (hpl:(backTo pos (starEach es X.env)).any (·.1)=false:=by rfl):PE X (.Call (.Name x p) (e::es) [] pos) (Up r t):=by
 intro pins s σ H Q I h;refine C3 (L4 I F hm hv ?_ J hdb);exact C0 (BD (Y pos pins s σ H _ I h) λus Z ⟨vs,H1,I1,W,G⟩=>hc pins Z σ H1 vs us Q I1 W G) he hpl
end
end L2
namespace HT
open PySem PyProof.Rows
section
variable {prog:Program}{w:World}{A:Around}{E:Value->Shared->Prop}{s:Shared}
def CQ(n d:Nat):Option Int->Nat
 | none=>d
 | some v=>if v<0 then(v+(n:Int)).toNat else min v.toNat n
theorem RE(n d:Nat):CQ n d none=d:=rfl
theorem MN(n d k:Nat):CQ n d (some (k:Int))=min k n:=by
 show(if (k:Int)<0 then((k:Int)+(n:Int)).toNat else min (k:Int).toNat n)=min k n;rw[Aq (by lia),Dl]
theorem ZC(n d:Nat)(hd:d<=n)(o:Option Int):CQ n d o<=n:=by
 cases o with
 | none=>exact hd
 | some v =>
   show(if v<0 then(v+(n:Int)).toNat else min v.toNat n)<=n;by_cases F:v<0
   .rw[Ar F];lia
   .rw[Aq F];exact Im _ _
theorem Uq(v:Int)(n d:Nat):(if v<0 then max (v+(n:Int)) 0 else min v (n:Int))=((CQ n d (some v):Nat):Int):=by
 show(if v<0 then max (v+(n:Int)) 0 else min v (n:Int))=(((if v<0 then(v+(n:Int)).toNat else min v.toNat n):Nat):Int)
 by_cases F:v<0
 .simp only[Ar F];lia
 .simp only[Aq F];lia
theorem ZD(lo hi:Option Int)(n:Nat):Builtin.Slice.sliceAdjust lo hi 1 (n:Int)=(((CQ n 0 lo:Nat):Int),((CQ n n hi:Nat):Int)):=by
 have h1:¬((1:Int)<0):=by lia
 unfold Builtin.Slice.sliceAdjust;simp only[h1,Io];refine Prod.ext ?_ ?_
 .cases lo with
  | none=>rfl
  | some v=>exact Uq v n 0
 .cases hi with
  | none=>rfl
  | some v=>exact Uq v n n
theorem ZE(i j:Nat):Builtin.Slice.slicePlaces (i:Int) (j:Int) 1=j-i:=by
 unfold Builtin.Slice.slicePlaces;have h1:(1:Int) > 0:=by lia
 simp only[h1,F9,Jc];split<;>lia
theorem Ur{v:Value}{o:Option Int}{Q:Option Int->Shared->Prop}(p:IsPart v o)(h:Q o s):wpAny (model prog w) A (Builtin.Slice.slicePartIndex v) Q E s:=by
 cases p with
 | none=>exact slicePart_none h
 | int i t=>exact slicePart_int h
theorem ZF{W:Addr}{J I:Value}{lo hi:Option Int}{n:Nat}{Q:Int×Int×Nat->Shared->Prop}(Z:s.heap.IsSliceOf W J I .none)(pl:IsPart J lo)(pu:IsPart I hi)
 (h:Q (((CQ n 0 lo:Nat):Int),1,CQ n n hi-CQ n 0 lo) s):wpAny (model prog w) A (Builtin.Slice.sliceApplied (.ref W) (pure (n:Int))) Q E s:=by
 obtain⟨os,G,Y,F⟩:=id Z;unfold Builtin.Slice.sliceApplied Builtin.Slice.sliceFields;refine A8 (A8 (C5 G F (x:=J) rfl (A8 (C5 G F (x:=I) rfl (A8 (C5 G F (x:=.none) rfl (An ?_)))))));refine A8 (slicePart_none ?_);show wpAny _ _ (if ((1:Int)==0)=true then _ else _) _ _ s;rw[Aq (by decide)];refine A8 (Ur pl (A8 (Ur pu (A8 (An ?_)))));show wpAny _ _ (match Builtin.Slice.sliceAdjust lo hi 1 (n:Int)with|(lo,hi)=>pure (lo,(1:Int),Builtin.Slice.slicePlaces lo hi 1)) _ _ s;rw[ZD lo hi n];show wpAny _ _ (pure (((CQ n 0 lo:Nat):Int),(1:Int),Builtin.Slice.slicePlaces ((CQ n 0 lo:Nat):Int) ((CQ n n hi:Nat):Int) 1)) _ _ s;rw[ZE];exact An h
theorem ZG(xs:Array Value)(i k:Nat):((List.range k).filterMap λ(m:Nat)=>xs[((i:Int)+(m:Int)*1).toNat]?).toArray=((xs.toList.drop i).take k).toArray:=by
 have e:(λ(m:Nat)=>xs[((i:Int)+(m:Int)*1).toNat]?)=λm=>xs[i+m]?:=by
  funext m
  have:((i:Int)+(m:Int)*1).toNat=i+m:=by lia
  rw[this]
 rw[e];have:=pick_run xs i k;rw[List.filterMap_map]at this
 have F:((λx=>xs[x]?)∘λx=>i+x)=λm=>xs[i+m]?:=rfl
 rw[F]at this
 rw[this]
theorem ZH{t J:Addr}{items:Array Value}{vl Z:Value}{lo hi:Option Int}{Q:Value->Shared->Prop}(ht:IsTup s.heap t items)(hs:s.heap.IsSliceOf J vl Z .none)(pl:IsPart vl lo)(pu:IsPart Z hi)
 (hw:¬(CQ items.size 0 lo=0/\CQ items.size items.size hi=items.size))
 (h:Q (.ref s.heap.objs.size) { s with heap:=s.heap.push { cls:=.type "tuple",data:=.seq ((items.toList.drop (CQ items.size 0 lo)).take (CQ items.size items.size hi-CQ items.size 0 lo)).toArray } })
 (hsz:items.size<=sizeLine):wpAny (model prog w) A (getItem (.ref t) (.ref J)) Q E s:=by
 have F:sizeOk (.seq ((items.toList.drop (CQ items.size 0 lo)).take (CQ items.size items.size hi-CQ items.size 0 lo)).toArray):=by
  show((items.toList.drop (CQ items.size 0 lo)).take (CQ items.size items.size hi-CQ items.size 0 lo)).toArray.size<=sizeLine;rw[B0,Al,Bx,Au]
  lia
 have hj:CQ items.size items.size hi<=items.size:=ZC _ _ (Af _) hi;obtain⟨os,Y,G,aa⟩:=id hs;have I:s.TypeIs (.ref J) "slice":=⟨os,Y,G⟩
 unfold getItem;try with_reducible refine Cu ?_
 first|refine A8 (An ?_)|skip
 refine A8 (wpAny_sequenceKey ht.typeIs (by decide) ?_);refine A8 (Fv (name:=("__getitem__":Str)) ht.typeIs Ed
  (Ip Ed ht.typeIs entry_tuple_getitem ?_ (args_tuple_getitem _ _)))
 show wpAny _ _ (Builtin.Tuple.tupleItemsOf (.ref t) >>= _) _ _ s;refine A8 (tupleItemsOf_ ht ?_);refine A8 (wpAny_typeOf I ?_);rw[Ar (by decide)];refine A8 (ZF hs pl pu ?_);have W:¬((((CQ items.size 0 lo:Nat):Int)==0&&(1:Int)==1&&(CQ items.size items.size hi-CQ items.size 0 lo)==items.size)=true):=by
  intro q;rw[Aw,Aw]at q
  have q1:((CQ items.size 0 lo:Nat):Int)=0:=eq_of_beq q.1.1;have q2:CQ items.size items.size hi-CQ items.size 0 lo=items.size:=eq_of_beq q.2;exact hw ⟨by lia,by lia⟩
 show wpAny _ _ (if (((CQ items.size 0 lo:Nat):Int)==0&&(1:Int)==1&&(CQ items.size items.size hi-CQ items.size 0 lo)==items.size)=true then _ else _) _ _ s;rw[Aq W,ZG];first
  | exact A8 (m:=Builtin.Tuple.tupleExact _) (Cy (An ⟨_,rfl,An h⟩) F)
  | exact A8 (m:=Builtin.Tuple.tupleExact _) (Cy (A8 (An (An ⟨_,rfl,An h⟩))) F)
  | exact A8 (A8 (m:=Builtin.Tuple.tupleExact _) (Cy (An (An ⟨_,rfl,An h⟩)) F))
  | exact A8 (A8 (m:=Builtin.Tuple.tupleExact _) (Cy (An ⟨_,rfl,An h⟩) F))
end
end HT
namespace L2
open PySem PySem.Spec PyProof.Rows
abbrev TO:=St->Hp->(Option Int->Hp->Prop)->Prop
def PO(X:Cx)(e:Option Expr)(t:TO):Prop :=
 ∀(pins:List (Addr×Obj)) (s:Shared) (σ:St) (H:Hp) (Q:Option Int->Hp->Prop),AI X pins σ H s->t σ H Q ->
  wpAny (model X.prog X.w) X.A (evalPart e X.env) (λu s'=>∃o H',AI X pins σ H' s'/\IsPart u o/\Q o H') X.xe s
def ZI:TO:=λ_ H Q=>Q none H
def ZJ(t:TE):TO:=λσ H Q=>t σ H λx H1=>∃i,x=.int i/\Q (some i) H1
theorem RF:∀{us:List Value},AS (ns.map V.int) us->IntsAre us ns:=by
 induction ns with
 | nil=>intro us r;rw[K7]at r;cases r;exact .nil
 | cons n ns ih =>
   intro us r;rw[Bq]at r
   cases r with
   | cons G F =>
     obtain⟨t,e⟩:=G;subst e;exact .cons n t (ih F)
section
variable {X:Cx}{e:Expr}{te:TE}{lo hi:Option Expr}{tl th:TO}{pos p2:Pos}
theorem La:PO X none ZI:=by
 intro pins s σ H Q I h;rw[evalPart_none];exact An ⟨none,H,I,.none,h⟩
theorem IU(h:PE X e te):PO X (some e) (ZJ te):=by
 intro pins s σ H Q I hw;rw[evalPart_some];refine BD (h pins s σ H _ I hw) λu W ⟨x,H1,J,G,F⟩=>?_
 obtain⟨i,rfl,q⟩:=F;obtain⟨t,rfl⟩:=G;exact⟨some i,H1,J,.int i t,q⟩
def ND(X:Cx)(r:V->Option Int->Option Int->Hp->VK->Prop):Prop :=
 ∀(pins:List (Addr×Obj)) (s:Shared) (σ:St) (H:Hp) (x:V) (v G F:Value) (lo hi:Option Int) (I:Addr) (Q:VK),AI X pins σ H s->AX x v->s.heap.IsSliceOf I G F .none->IsPart G lo->IsPart F hi->r x lo hi H Q ->
  ∃T id,typeLookup (.type T) "__getitem__"=pure (some (.builtin id))/\s.TypeIs v T/\wpAny (model X.prog X.w) X.A (getItem v (.ref I)) (EP X pins σ Q) X.xe s
def ZK(r:V->Option Int->Option Int->Hp->VK->Prop)(te:TE)(tl th:TO):TE:=λσ H Q=>te σ H λx H1=>tl σ H1 λl H2=>th σ H2 λu F=>r x l u F Q
theorem Kh(hr:ND X r)(he:PE X e te)(hl:PO X lo tl)(hu:PO X hi th):PE X (.Subscript e (.Slice lo hi none p2) pos) (ZK r te tl th):=by
 intro pins s σ H Q I h;refine Subscript_ (BD (he pins s σ H _ I h) λv s1 ⟨x,H1,I1,r1,q1⟩=>?_);refine wpAny_Slice (BD (hl pins s1 σ H1 _ I1 q1) λJ Z ⟨l,H2,I2,pl,q2⟩=>BD (hu pins Z σ H2 _ I2 q2) λG F ⟨u,W,I3,pu,q3⟩=>?_);rw[evalPart_none];refine An ?_;have I4:AI X pins σ W { F with heap:=F.heap.push { cls:=.type "slice",data:=.fields #[J,G,.none] } }:=I3.kept (t':=F.toks) λb ob q=>A9 _ q
 obtain⟨T,id,hT,ht,Y⟩:=hr pins { F with heap:=F.heap.push { cls:=.type "slice",data:=.fields #[J,G,.none] } } σ W x v J G l u F.heap.objs.size Q I4 r1 (Heap.IsSliceOf.new ..) pl pu q3;show wpAny (model X.prog X.w) X.A (subscriptTail e (.Slice lo hi none p2) v (.ref F.heap.objs.size)) (EP X pins σ Q) X.xe { F with heap:=F.heap.push { cls:=.type "slice",data:=.fields #[J,G,.none] } };exact tail_any (ops:=[.ref F.heap.objs.size,v]) ht hT Y (by with_unfolding_all rfl)
def DN(xs:List V)(lo hi:Option Int):List V:=(xs.drop (HT.CQ xs.length 0 lo)).take (HT.CQ xs.length xs.length hi-HT.CQ xs.length 0 lo)
theorem Us(xs:List V)(lo hi:Option Int):(DN xs lo hi).length<=xs.length:=by
 unfold DN;rw[Al,Bx]
 lia
def Ow(K:Frag):V->Option Int->Option Int->Hp->VK->Prop:=λx lo hi H Q=>∃a xs,x=.ref a/\BP K H a xs /\
 ¬(HT.CQ xs.length 0 lo=0/\HT.CQ xs.length xs.length hi=xs.length)/\∀p,H p=none->Q (.ref p) (upd H p (.tup (DN xs lo hi)))
theorem ZL:ND X (Ow X.K):=by
 intro pins s σ H x v vl vu lo hi sl Q I W Y pl Z h;obtain⟨a,xs,rfl,J,hw,q⟩:=h;cases W;obtain⟨its,r,ht,G⟩:=I.tuple J;have F:its.toArray.size=xs.length:=by rw[B0];exact r.length.symm
 refine⟨"tuple",_,Ed.lookup,ht.typeIs,?_⟩;refine HT.ZH ht Y pl Z (by rw[F];exact hw) ?_ (by rw[F];exact G);rw[F];refine⟨.ref s.heap.objs.size,_,I.laid (t':=s.toks) (o:=.tup (DN xs lo hi)) (λb ob q=>A9 _ q) (Af _) ?_,rfl,q _ (I.hok.fresh (Af _))⟩;exact⟨B3 (Us xs lo hi) G,_,(r.drop (HT.CQ xs.length 0 lo)).take (HT.CQ xs.length xs.length hi-HT.CQ xs.length 0 lo),IsTup.new _ _⟩
end
def Kx(n:Nat)(i:Int):Option Nat:=if 0<=i then(if i<n then some i.toNat else none)else if -(n:Int)<=i then some (i+n).toNat else none
def DJ{F:Type}(xs:List F)(i:Int):Option F:=(Kx xs.length i).bind λj=>xs[j]?
theorem Ut(h:Kx n i=some j):seqIndex? i n=some j/\j<n/\-(n:Int)<=i/\i<n:=by
 unfold Kx at h;by_cases F:0<=i
 .rw[Ar F]at h
  by_cases h1:i<n
  .rw[Ar h1]at h
   have e:i.toNat=j:=Ap h;exact⟨by rw[seqIndex_of F h1,e],by lia,by lia,h1⟩
  .rw[Aq h1]at h;cases h
 .rw[Aq F]at h
  by_cases h1:-(n:Int)<=i
  .rw[Ar h1]at h
   have e:(i+n).toNat=j:=Ap h;exact⟨by rw[seqIndex_neg (by lia) h1,e],by lia,h1,by lia⟩
  .rw[Aq h1]at h;cases h
theorem RG{F:Type}{xs:List F}{i:Int}{v:F}(h:DJ xs i=some v):∃j,seqIndex? i xs.length=some j/\xs[j]?=some v/\j<xs.length/\-(xs.length:Int)<=i/\i<xs.length:=by
 unfold DJ at h;cases e:Kx xs.length i with
 | none=>rw[e]at h;cases h
 | some j =>
   rw[e]at h
   obtain⟨h1,h2,I,G⟩:=Ut e;exact⟨j,h1,h,h2,I,G⟩
theorem EY{F:Type}{xs:List F}{j:Nat}{v:F}(h:xs[j]?=some v):DJ xs (j:Int)=some v:=by
 have G:j<xs.length:=(B2.mp h).1;have e:Kx xs.length (j:Int)=some j:=by
  unfold Kx;rw[Ar (by lia),Ar (by lia)];simp
 unfold DJ;rw[e];exact h
def ZM(b:Expr):Prop:=∀o i,subscripted b false o i=operate [o,i] (getItem o i)
def MO(X:Cx)(r:R2):Prop :=
 ∀(value slice:Expr) (pins:List (Addr×Obj)) (s:Shared) (σ:St) (H:Hp) (x y:V) (v u:Value) (Q:VK),AI X pins σ H s->AX x v->AX y u->r x y H Q ->
  subscripted slice false v u=operate [v,u] (getItem v u)->wpAny (model X.prog X.w) X.A (subscriptTail value slice v u) (EP X pins σ Q) X.xe s
def MS(X:Cx)(id:String)(r:V->List V->Hp->VK->Prop):Prop :=
 ∀(pins:List (Addr×Obj)) (s:Shared) (σ:St) (H:Hp) (x:V) (xs:List V) (v:Value) (us:List Value) (Q:VK),AI X pins σ H s->AX x v->AS xs us->r x xs H Q ->
  wpAny (model X.prog X.w) X.A (call (.builtin id) (v::us)) (EP X pins σ Q) X.xe s
section
variable {X:Cx}{a b:Expr}{ta tb:TE}{pos:Pos}
theorem CA(W:MO X r)(Y:PE X a ta)(hb:PE X b tb)(hs:ZM b):PE X (.Subscript a b pos) (PJ r ta tb):=by
 intro pins s σ H Q I h;exact Subscript_ (ME Y hb I h λv u G x y H2 J Z F q=>W a b pins G σ H2 x y v u Q J Z F q (hs _ _))
def Ox(K:Frag):R2:=λx y H Q=>∃p xs i v,x=.ref p/\y=.int i/\AH K H p xs/\DJ xs i=some v/\Q v H
def MT(K:Frag):R2:=λx y H Q=>∃p xs i v,x=.ref p/\y=.int i/\BP K H p xs/\DJ xs i=some v/\Q v H
def Oy:R2:=λx y H Q=>∃z i c,x=.str z/\y=.int i/\z.length<=sizeLine/\DJ z.cps.toList i=some c/\Q (.str ⟨#[c]⟩) H
theorem ZN:MO X (Ox X.K):=by
 intro value slice pins s σ H x y v u Q I rx Z h Y;obtain⟨p,xs,i,z,rfl,rfl,hq,he,q⟩:=h;cases rx;obtain⟨t,rfl⟩:=Z;obtain⟨its,r,pl,hz⟩:=I.list hq;obtain⟨j,h1,h2,h3,h4,h5⟩:=RG he;obtain⟨w,W,F⟩:=r.get h2;have hl:=r.length;have hn:=NC;have fin:EP X pins σ Q w s:=⟨z,H,I,F,q⟩
 by_cases J:0<=i
 .have G:i.toNat=j:=by
   rw[seqIndex_of J h5]at h1
   exact Ap h1
  exact item_listR pl.isList J (by lia) (by rw[G];simpa using W) fin Y
 .have G:(i+(its.toArray.size:Int)).toNat=j:=by
   rw[seqIndex_neg (by lia) h4]at h1
   rw[B0,<-hl];exact Ap h1
  exact subscriptTail_builtinR (x:=w) pl.isList.typeIs slot_list_getitem.lookup
   (wpAny_getItem_list_neg (Q:=λr s'=>r=w/\EP X pins σ Q r s') pl.isList (by lia) (by rw[B0]<;>lia) (by lia) (by rw[G];simpa using W) ⟨rfl,fin⟩) Y
theorem Uu:MO X (MT X.K):=by
 intro value slice pins s σ H x y v u Q I Z G h hs;obtain⟨p,xs,i,z,rfl,rfl,hq,W,q⟩:=h;cases Z;obtain⟨t,rfl⟩:=G;obtain⟨its,r,pl,hz⟩:=I.tuple hq;obtain⟨j,h1,h2,h3,h4,h5⟩:=RG W;obtain⟨w,J,F⟩:=r.get h2;have Y:=r.length;have hn:=NC;have fin:EP X pins σ Q w s:=⟨z,H,I,F,q⟩
 exact subscriptTail_builtinR (x:=w) pl.typeIs slot_tuple_getitem.lookup
  (getItem_tuple (j:=j) (Q:=λr s'=>r=w/\EP X pins σ Q r s') pl (by lia) (by lia) (by rw[B0,<-Y];exact h1) (by simpa using J) ⟨rfl,fin⟩) hs
theorem Ld:MO X Oy:=by
 intro value slice pins s σ H x y v u Q I rx F h hs;obtain⟨z,i,c,rfl,rfl,hz,Z,q⟩:=h;obtain⟨t,rfl⟩:=rx;obtain⟨t',rfl⟩:=F;obtain⟨j,h1,h2,h3,Y,G⟩:=RG Z;have hl:z.cps.toList.length=z.length:=by simp[Str.length]
 rw[hl]at h1 Y G
 have hn:=NC;exact tail_any (Gf s z t) slot_str_getitem.lookup (getItem_str (c:=c) (by
  have J:decide (i < -(2^63:Int))=false:=Ai (by lia);have W:decide (i≥2^63)=false:=Ai (by lia);rw[J,W,Bool.or_false]) (by rw[h1];simpa using h2) ⟨.str ⟨#[c]⟩,H,I.tok _,⟨_,rfl⟩,q⟩) hs
theorem ZO(its:List Value)(n j:Nat)(u:Value):Obj.mapSeq (·.setIfInBounds j u) { cls:=.type "list",data:=.seq its.toArray n }={ cls:=.type "list",data:=.seq (its.set j u).toArray n }:=by
 simp[Obj.mapSeq]
theorem AI.lst{pins:List (Addr×Obj)}{σ:St}{H:Hp}{s:Shared}{p:Addr}{xs:List V}(I:AI X pins σ H s)(h:H p=some (.lst xs)) :
 ∃(its:List Value) (n:Nat),AS xs its/\s.heap.get? p=some { cls:=.type "list",data:=.seq its.toArray n }/\xs.length<=sizeLine:=by
 obtain⟨z,its,n,r,e⟩:=I.hok p _ h;exact⟨its,n,r,e,z⟩
theorem AI.lstUpd{pins:List (Addr×Obj)}{σ:St}{H:Hp}{s:Shared}{p:Addr}{xs ys:List V}{its its':List Value}{n F:Nat}{f:Obj->Obj}(I:AI X pins σ H s)(h:H p=some (.lst xs))
 (ho:s.heap.get? p=some { cls:=.type "list",data:=.seq its.toArray n }) (hf:f { cls:=.type "list",data:=.seq its.toArray n }={ cls:=.type "list",data:=.seq its'.toArray F }) (r:AS ys its') (hz:ys.length<=sizeLine) (t:Nat) :
 AI X pins σ (upd H p (.lst ys)) { s with heap:=s.heap.update p f,toks:=t }:=by
 have e:(s.heap.update p f).get? p=some { cls:=.type "list",data:=.seq its'.toArray F }:=by
  rw[Cj f ho (by rw[hf]<;>rfl),hf]
 refine I.write (x:=p) (e:=p) (by rw[h];trivial) (.inl rfl) (λb u hb q=>(Bg _ _ (Ne.symm hb)).trans q) ⟨_,e⟩ ?_;exact⟨hz,its',F,r,e⟩
def ZP:V->V->V->Hp->(Hp->Prop)->Prop:=λo i v H Q=>∃p xs k j,o=.ref p/\i=.int k/\H p=some (.lst xs)/\Kx xs.length k=some j/\Q (upd H p (.lst (xs.set j v)))
theorem Uv:Om X ZP:=by
 intro pins s σ H o i v ov iv u Q I ro ri rv h;obtain⟨p,xs,k,j,rfl,rfl,Z,hj,q⟩:=h;cases ro;obtain⟨t,rfl⟩:=ri;obtain⟨its,n,r,G,hz⟩:=I.lst Z;obtain⟨h1,h2,h3,h4⟩:=Ut hj;have J:=r.length;have hn:=NC;have I':AI X pins σ (upd H p (.lst (xs.set j v))) { s with heap:=s.heap.update p (Obj.mapSeq (·.setIfInBounds j u)) } :=
  I.lstUpd Z G (ZO its n j u) (r.set rv j) (by rw[Em];exact hz) s.toks
 by_cases Y:0<=k
 .have F:k.toNat=j:=by
   rw[seqIndex_of Y h4]at h1
   exact Ap h1
  exact PySem.W.ki_setAt G Y (by lia) (by rw[B0,<-J];exact h4) (by rw[F];exact⟨_,I',q⟩)
 .have F:(k+(its.toArray.size:Int)).toNat=j:=by
   rw[seqIndex_neg (by lia) h3]at h1
   rw[B0,<-J];exact Ap h1
  exact PySem.W.ki_setBack G (by lia) (by rw[B0,<-J];exact h3) (by lia) (by rw[F];exact⟨_,I',q⟩)
theorem ZQ(lo hi:Option Int)(n:Nat):(sliceBounds lo hi none n).1=((HT.CQ n 0 lo:Nat):Int)/\(sliceBounds lo hi none n).2.1=((HT.CQ n n hi:Nat):Int)/\(sliceBounds lo hi none n).2.2=1:=by
 refine⟨?_,?_,rfl⟩
 .cases lo with
  | none=>simp[sliceBounds,HT.CQ]
  | some i =>
    simp only[sliceBounds,HT.CQ,Option.getD_none,show(1:Int) > 0 by decide,F9];by_cases h:i<0
    .simp only[h,F9]<;>lia
    .simp only[h,Io]<;>lia
 .cases hi with
  | none=>simp[sliceBounds,HT.CQ]
  | some i =>
    simp only[sliceBounds,HT.CQ,Option.getD_none,show(1:Int) > 0 by decide,F9];by_cases h:i<0
    .simp only[h,F9]<;>lia
    .simp only[h,Io]<;>lia
theorem ZR(its:List Value)(lo hi:Option Int):slicePick its.toArray lo hi none=((its.drop (HT.CQ its.length 0 lo)).take (HT.CQ its.length its.length hi-HT.CQ its.length 0 lo)).toArray:=by
 obtain⟨h1,h2,F⟩:=ZQ lo hi its.toArray.size;unfold slicePick;rw[h1,h2,F];simp only[sliceRange_one,pick_run,B0]<;>rfl
def Oz(K:Frag):V->Option Int->Option Int->Hp->VK->Prop:=λx lo hi H Q=>∃a xs,x=.ref a/\AH K H a xs/\∀p,H p=none->Q (.ref p) (upd H p (.lst (DN xs lo hi)))
theorem ZS:ND X (Oz X.K):=by
 intro pins s σ H x v vl vu lo hi sl Q I W Y pl Z h;obtain⟨a,xs,rfl,G,q⟩:=h;cases W;obtain⟨its,r,ht,J⟩:=I.list G;have F:=r.length;refine⟨"list",_,slot_list_getitem.lookup,ht.isList.typeIs,?_⟩;refine wpAny_getItem_list_slice ht.isList Y pl Z .none (by simp) ?_ (by rw[B0]<;>lia);rw[ZR,<-F];refine⟨.ref s.heap.objs.size,_,I.laid (t':=s.toks) (o:=.lst (DN xs lo hi)) (λb ob q=>A9 _ q) (Af _) ?_,rfl,q _ (I.hok.fresh (Af _))⟩;exact⟨B3 (Us xs lo hi) J,_,0,(r.drop (HT.CQ xs.length 0 lo)).take (HT.CQ xs.length xs.length hi-HT.CQ xs.length 0 lo),B4 _ rfl⟩
def LA:V->Bool
 | .non=>true
 | .bl _=>true
 | .int _=>true
 | .str _=>true
 | _=>false
def Mg:V->V->Bool
 | .non,.non=>true
 | .bl a,.bl b=>a==b
 | .bl a,.int b=>(if a then 1 else 0)==b
 | .int a,.bl b=>a==(if b then 1 else 0)
 | .int a,.int b=>a==b
 | .str a,.str b=>a==b
 | _,_=>false
theorem ZT(G:AX y u)(F:AX x v)(J:LA y=true)(I:LA x=true):SeqAt.EqAt A s u v (Mg y x):=by
 cases y with
 | non =>
   cases G;cases x with
   | non=>cases F;exact SeqAt.EqAt.same _
   | bl b=>cases F;exact SeqAt.EqAt.none_bool b
   | int b=>obtain⟨t,rfl⟩:=F;exact SeqAt.EqAt.none_int b t
   | str b=>obtain⟨t,rfl⟩:=F;exact SeqAt.EqAt.none_str b t
   | _=>exact absurd (show false=true from I) B1
 | bl a =>
   cases G;cases x with
   | non=>cases F;exact SeqAt.EqAt.bool_none a
   | bl b=>cases F;exact SeqAt.EqAt.bool_bool a b
   | int b=>obtain⟨t,rfl⟩:=F;exact SeqAt.EqAt.bool_int a b t
   | str b=>obtain⟨t,rfl⟩:=F;exact SeqAt.EqAt.bool_str a b t
   | _=>exact absurd (show false=true from I) B1
 | int a =>
   obtain⟨t',rfl⟩:=G;cases x with
   | non=>cases F;exact SeqAt.EqAt.int_none a t'
   | bl b=>cases F;exact SeqAt.EqAt.int_bool a t' b
   | int b=>obtain⟨t,rfl⟩:=F;exact SeqAt.EqAt.int_int a t' b t
   | str b=>obtain⟨t,rfl⟩:=F;exact SeqAt.EqAt.int_str a t' b t
   | _=>exact absurd (show false=true from I) B1
 | str a =>
   obtain⟨t',rfl⟩:=G;cases x with
   | non=>cases F;exact SeqAt.EqAt.str_none a t'
   | bl b=>cases F;exact SeqAt.EqAt.str_bool a t' b
   | int b=>obtain⟨t,rfl⟩:=F;exact SeqAt.EqAt.str_int a t' b t
   | str b=>obtain⟨t,rfl⟩:=F;exact SeqAt.EqAt.str_str a t' b t
   | _=>exact absurd (show false=true from I) B1
 | _=>exact absurd (show false=true from J) B1
def LB(x:V)(u:Value):Bool:=match u with
 | .none=>Mg .non x
 | .bool b=>Mg (.bl b) x
 | .int i _=>Mg (.int i) x
 | .str z _=>Mg (.str z) x
 | _=>false
theorem Uw(r:AX y u)(f:LA y=true):LB x u=Mg y x:=by
 cases y with
 | non=>cases r;rfl
 | bl b=>cases r;rfl
 | int i=>obtain⟨t,rfl⟩:=r;rfl
 | str z=>obtain⟨t,rfl⟩:=r;rfl
 | _=>exact absurd (show false=true from f) B1
theorem RH:∀{xs:List V}{us:List Value},AS xs us->xs.all LA=true->us.any (LB x)=xs.any λy=>Mg y x
 | _,_,.nil,_=>rfl
 | y::xs,u::us,.cons r t,f=>by
   rw[List.all_cons,Aw]at f
   rw[Gj,Gj,Uw r f.1,RH t f.2]
theorem RI(G:AX x v)(I:LA x=true):∀{xs:List V}{us:List Value},AS xs us->xs.all LA=true->∀u∈us,SeqAt.EqAt A s u v (LB x u)
 | _,_,.nil,_=>λu F=>by cases F
 | y::xs,u::us,.cons r t,f=>λJ F=>by
   rw[List.all_cons,Aw]at f
   rcases Am.mp F with rfl|F
   .rw[Uw r f.1];exact ZT r G f.1 I
   .exact RI G I t f.2 J F
def NF(x:V)(xs:List V):Bool:=xs.any λy=>Mg y x
def Ux(K:Frag)(F:Bool):R2:=λx y H Q=>∃p xs,y=.ref p/\(AH K H p xs\/BP K H p xs)/\LA x=true/\xs.all LA=true/\Q (.bl (if F then !NF x xs else NF x xs)) H
theorem ZU:EK X (compareOp .NotIn) (Ux X.K true):=by
 intro pins s σ H x y v u Q I J W h;obtain⟨p,xs,rfl,F,G,fs,q⟩:=h;cases W;rcases F with F|F
 .obtain⟨its,r,pl,Y⟩:=I.list F;refine SeqAt.notIn_listAt (LB x) pl.isList (λw hw=>RI J G r fs w (by simpa using hw)) ⟨.bl _,H,I,rfl,?_⟩;rw[show its.toArray.any (LB x)=its.any (LB x) by simp,RH r fs];exact q
 .obtain⟨its,r,pl,Y⟩:=I.tuple F;refine SeqAt.notIn_tupleAt (LB x) pl (λw hw=>RI J G r fs w (by simpa using hw)) ⟨.bl _,H,I,rfl,?_⟩;rw[show its.toArray.any (LB x)=its.any (LB x) by simp,RH r fs];exact q
theorem ZV:HJ X (.builtin "len") (λxs H Q=>∃p ys,xs=[.ref p]/\(AH X.K H p ys\/BP X.K H p ys)/\Q (.int ys.length) H):=by
 intro pins s σ H xs us Q I r h;obtain⟨p,ys,rfl,G,q⟩:=h;obtain⟨u,rfl,Y⟩:=ID r;cases Y;have Z:=NC;rcases G with G|G
 .obtain⟨its,J,pl,W⟩:=I.list G;have F:=J.length;exact Calls.call_len_list pl.isList (by simp only[B0]<;>lia) ⟨.int ys.length,H,I.tok _,⟨s.toks+1,by rw[B0,F]⟩,q⟩
 .obtain⟨its,J,pl,W⟩:=I.tuple G;have F:=J.length;exact len_tuple pl (by simp only[B0]<;>lia) ⟨.int ys.length,H,I.tok _,⟨s.toks+1,by rw[B0,F]⟩,q⟩
theorem LC:HJ X (.builtin "len") (λxs H Q=>∃z,xs=[.str z]/\z.length<=sizeLine/\Q (.int z.length) H):=by
 intro pins s σ H xs us Q I r h;obtain⟨z,rfl,G,q⟩:=h;obtain⟨u,rfl,t,rfl⟩:=ID r;have F:=NC;exact len_str (by lia) ⟨.int z.length,H,I.tok _,⟨_,rfl⟩,q⟩
theorem ZW:HJ X (.type "list") (λxs H Q=>∃p ys,xs=[.ref p]/\(AH X.K H p ys\/BP X.K H p ys)/\∀l,H l=none->Q (.ref l) (upd H l (.lst ys))):=by
 intro pins s σ H xs us Q I r h;obtain⟨p,ys,rfl,Y,q⟩:=h;obtain⟨u,rfl,rx⟩:=ID r;cases rx;have fin:∀(its:List Value),AS ys its->ys.length<=sizeLine->∀(h':Heap) (F:Nat),(∀b o',s.heap.get? b=some o'->h'.get? b=some o') ->
  h'.get? s.heap.objs.size=some { cls:=.type "list",dict:=none,data:=.seq its.toArray F,slots:=#[] }->EP X pins σ Q (.ref s.heap.objs.size) { s with heap:=h' }:=λits G W h' F kp e =>
  ⟨.ref s.heap.objs.size,_,I.laid (t':=s.toks) kp (Af _) (show GN X.prog X.w _ h' _ (.lst ys)from⟨W,its,F,G,e⟩),rfl,q _ (I.hok.fresh (Af _))⟩
 rcases Y with Y|Y
 .obtain⟨its,G,pl,W⟩:=I.list Y;have J:=G.length;obtain⟨o,Z,hc,n,hd⟩:=pl.isList;exact call_list_seq p (.inl rfl) Z hc hd (λh' F kp e=>fin its G W h' F kp e) (by simp only[B0]<;>lia)
 .obtain⟨its,G,pl,W⟩:=I.tuple Y;have J:=G.length;obtain⟨o,Z,hc,n,hd⟩:=pl;exact call_list_seq p (.inr rfl) Z hc hd (λh' F kp e=>fin its G W h' F kp e) (by simp only[B0]<;>lia)
def Uy(K:Frag)(T:String)(x:V)(H:Hp):Prop:=match x with
 | .str _=>T="str"
 | .int _=>T="int"
 | .ref p=>(T="list"/\∃xs,AH K H p xs)\/(T="tuple"/\∃o,K.lookup p=some o/\o.cls=.type "tuple"/\o.dict=none) \/
    (T="dict"/\((∃F,H p=some (.dK F))\/∃F,H p=some (.dT F)))\/(T="set"/\∃S n,H p=some (.set S n))
 | _=>False
theorem ZX(I:AI X pins σ H s)(r:AX x v)(ty:Uy X.K T x H) :
 s.TypeIs v T/\∀a,v=.ref a->∃W,s.heap.get? a=some W/\W.dict=none:=by
 cases x with
 | str z =>
   obtain⟨t,rfl⟩:=r;cases (show T="str" from ty);exact⟨Gf s z t,λ_ e=>nomatch e⟩
 | int i =>
   obtain⟨t,rfl⟩:=r;cases (show T="int" from ty);exact⟨Jd s i t,λ_ e=>nomatch e⟩
 | ref p =>
   cases r;rcases ty with⟨rfl,xs,Z⟩|⟨rfl,o,F,Y,hd⟩|⟨rfl,F⟩|⟨rfl,S,n,F⟩
   .obtain⟨its,_,pl,_⟩:=I.list Z;refine⟨pl.isList.typeIs,λa e=>?_⟩;cases e;obtain⟨o,n,e,c,hd,_⟩:=pl;exact⟨o,e,hd⟩
   .refine⟨⟨o,I.kIn p o F,Y⟩,λa e=>?_⟩;cases e;exact⟨o,I.kIn _ o F,hd⟩
   .have z:∃o,s.heap.get? p=some o/\o.ExactDict:=by
     rcases F with⟨J,F⟩|⟨J,F⟩
     .obtain⟨_,_,_,_,o,_,_,e,ex,_⟩:=I.hok p _ F;exact⟨o,e,ex⟩
     .obtain⟨_,_,_,_,o,_,_,e,ex,_⟩:=I.hok p _ F;exact⟨o,e,ex⟩
    obtain⟨o,e,ex⟩:=z;refine⟨⟨o,e,ex.1⟩,λa G=>?_⟩;cases G;exact⟨o,e,ex.2.1⟩
   .obtain⟨o,_,_,_,e,ex,_⟩:=I.hok p _ F;refine⟨⟨o,e,ex.1⟩,λa G=>?_⟩;cases G;exact⟨o,e,ex.2.1⟩
 | _=>exact False.elim ty
def Uz(K:Frag)(T:String)(r:V->List V->Hp->VK->Prop)(to:TE)(t:TA):TE:=λσ H Q=>to σ H λx H1=>Uy K T x H1/\t σ H1 λxs H2=>r x xs H2 Q
variable {o e:Expr}{es:List Expr}{to:TE}{t:TA}{name:Str}{apos cpos:Pos}{T id:String}{r:V->List V->Hp->VK->Prop}
theorem ZY(pa:PlainAttrs T)(slot:Slot T name id)(F:typeOf (.builtin id)=pure (.type "method_descriptor"))(hm:MS X id r)(Z:PE X o to)(ha:PA X (e::es) t)
 (hbase:attributeBase o name X.env (eval o X.env)=eval o X.env:=by rfl)
 (hfew:((backTo cpos (starEach (e::es) X.env)).all (λx=>!x.1)&&(backToKw cpos (keywordEach [] X.env)).all (λx=>x.1.isSome)
   && decide ((e::es).length+([]:List Keyword).length+(if ([]:List Keyword).isEmpty then 0 else 1)<30))=true:=by rfl)
 (hline:(apos.endLine==cpos.line)=true:=by rfl) (hs:starEach (e::es) X.env=(false,eval e X.env)::starEach es X.env:=by rfl) (hplain:(backTo cpos (starEach es X.env)).any (·.1)=false:=by rfl) :
 PE X (.Call (.Attribute o name apos) (e::es) [] cpos) (Uz X.K T r to t):=by
 intro pins s σ H Q I h;refine wpAny_Call_method_late hbase hfew hline rfl (BD (Z pins s σ H _ I h) λv s1 ⟨x,H1,J,G,ty,q1⟩=>?_);obtain⟨h1,h2⟩:=ZX J G ty;refine⟨T,id,pa,slot,F,h1,h2,?_⟩;have hA:=ha cpos pins s1 σ H1 _ J q1;rw[hs]at hA⊢
 refine Calls.callWith_builtin (by show(false||(backTo cpos (starEach es X.env)).any (·.1))=false;rw[hplain]<;>rfl) (Calls.evalArgs_plain ?_);exact BD hA λus W ⟨vs,H2,Y,r2,q2⟩=>hm pins W σ H2 x vs v us Q Y G r2 q2
end
def PM(X:Cx)(id:String)(r:V->List V->Hp->VK->Prop):Prop :=
 ∀(pins:List (Addr×Obj)) (s:Shared) (σ:St) (H:Hp) (x:V) (xs:List V) (v:Value) (us:List Value) (Q:VK),AI X pins σ H s->AX x v->AS xs us->r x xs H Q ->
  wpAny (model X.prog X.w) X.A (call (.builtin id) (v::us)) (EP X pins σ Q) X.xe s
theorem AS.one:∀{x:V}{us:List Value},AS [x] us->∃u,us=[u]/\AX x u
 | _,_,.cons r .nil=>⟨_,rfl,r⟩
theorem AS.eraseIdx:∀{xs:List V}{us:List Value}(i:Nat),AS xs us->AS (xs.eraseIdx i) (us.eraseIdx i)
 | _,_,_,.nil=>.nil
 | _,_,0,.cons _ t=>t
 | _,_,i+1,.cons r t=>.cons r (AS.eraseIdx i t)
theorem AS.rep(h:AS xs us):∀k:Nat,AS (List.replicate k xs).flatten (List.replicate k us).flatten
 | 0=>.nil
 | k+1=>by
   rw[Co,Co,Cr,Cr];exact AS.append h (AS.rep h k)
theorem UA{F:Type}:∀(l:List F) (i:Nat),(l.eraseIdx i).length<=l.length
 | [],_=>Af _
 | _::_,0=>D6 _
 | _::r,i+1=>Nat.succ_le_succ (UA r i)
theorem UB(its:List Value):∀(k:Nat) (F:List Value),
 List.foldl (λI G=>I++G) F.toArray (List.replicate k its.toArray)=(F++(List.replicate k its).flatten).toArray
 | 0,F=>by simp
 | k+1,F=>by
   have e:F.toArray++its.toArray=(F++its).toArray:=by simp
   have J:(F++its)++(List.replicate k its).flatten=F++(List.replicate (k+1) its).flatten:=by
    rw[Co,Cr,Ao]
   rw[<-J,<-UB its k (F++its),<-e,Co,Fp]
section
variable {X:Cx}{pins:List (Addr×Obj)}{σ:St}{H:Hp}{s:Shared}{l b:Addr}{xs ys zs:List V}
theorem AI.lset{its its':List Value}{n:Nat}{f:Array Value->Array Value}{t':Nat}(I:AI X pins σ H s)(F:H l=some (.lst xs))
 (e:s.heap.get? l=some { cls:=.type "list",data:=.seq its.toArray n }) (hf:f its.toArray=its'.toArray) (hv:AS ys its') (hz:ys.length<=sizeLine) :
 AI X pins σ (upd H l (.lst ys)) { s with heap:=s.heap.update l (Obj.mapSeq f),toks:=t' }:=by
 have q:=PySem.IsL.update e f;rw[hf]at q
 refine I.write (x:=l) (e:=l) (by rw[F];exact trivial) (.inl rfl) (λJ u hb G=>(Bg s.heap (Obj.mapSeq f) (Ne.symm hb)).trans G) ⟨_,q⟩ ?_;exact⟨hz,its',_,hv,q⟩
theorem AI.lnew(I:AI X pins σ H s)(F:AS ys its)(G:ys.length<=sizeLine) :
 AI X pins σ (upd H s.heap.objs.size (.lst ys)) { s with heap:=s.heap.push { cls:=.type "list",data:=.seq its.toArray },toks:=t' } :=
 I.laid (λ_ _ q=>A9 _ q) (Af _) ⟨G,its,0,F,B4 _ rfl⟩
theorem AI.fresh(I:AI X pins σ H s):H s.heap.objs.size=none:=I.hok.fresh (Af _)
theorem AI.lstM(I:AI X pins σ H s)(F:H l=some (.lst xs)):xs.length<=sizeLine/\∃(its:List Value) (n:Nat),AS xs its/\xs.length=its.length/\s.heap.get? l=some { cls:=.type "list",data:=.seq its.toArray n }:=by
 obtain⟨z,its,n,r,e⟩:=I.hok l _ F;exact⟨z,its,n,r,r.length,e⟩
theorem UC{n:Nat}(h:n<=sizeLine):Builtin.List.listTooLong n=false:=by
 unfold Builtin.List.listTooLong;exact Ai (by lia)
end
section
variable {X:Cx}
def LD:V->List V->Hp->VK->Prop:=λx vs H Q=>∃l xs y,x=.ref l/\vs=[y]/\H l=some (.lst xs)/\xs.length<sizeLine/\Q .non (upd H l (.lst (xs++[y])))
theorem JH:PM X "list.append" LD:=by
 intro pins s σ H x vs v us Q I W Y h;obtain⟨l,xs,y,rfl,rfl,G,Z,q⟩:=h;cases W;obtain⟨u,rfl,J⟩:=Y.one;obtain⟨z,its,n,r,hl,e⟩:=I.lstM G;refine Eh F.slot_list_append ⟨_,e,rfl⟩ F.entry_list_append (F.args_list_append_2 _ _) (PySem.list_append l its.toArray n u (by rw[B0];lia)) ⟨e,?_⟩;refine⟨.non,_,I.lset (its':=its++[u]) G e (by simp) (r.append (.cons J .nil)) ?_,rfl,q⟩;rw[Aa,List.length_singleton]
 lia
def LG:V->List V->Hp->VK->Prop:=λx vs H Q=>∃l b xs zs,x=.ref l/\vs=[.ref b]/\H l=some (.lst xs)/\H b=some (.lst zs)/\xs.length+zs.length<=sizeLine/\Q .non (upd H l (.lst (xs++zs)))
theorem ZZ:PM X "list.extend" LG:=by
 intro pins s σ H x vs v us Q I rx rv h;obtain⟨l,b,xs,zs,rfl,rfl,W,hB,hz,q⟩:=h;cases rx;obtain⟨u,rfl,ru⟩:=rv.one;cases ru;obtain⟨z,its,n,r,hl,e⟩:=I.lstM W;obtain⟨z2,G,n2,Z,hl2,Y⟩:=I.lstM hB;have hsz:its.toArray.size+G.toArray.size<=sizeLine:=by rw[B0,B0];lia
 have J:¬(!its.toArray.isEmpty&&Builtin.List.listTooLong (its.toArray.size+G.toArray.size))=true:=by
  rw[UC hsz,Fz];exact B1
 refine Eh F.slot_list_extend ⟨_,e,rfl⟩ F.entry_list_extend (F.args_list_extend_2 _ _)
  (AutoSeq1.list_extend_list_list_0 l its.toArray n b G.toArray n2 J (by rw[B0];lia) (by lia)) ⟨e,Y,?_⟩
 refine⟨.non,_,I.lset (its':=its++G) W e (by simp) (r.append Z) ?_,rfl,q⟩;rw[Aa]
 lia
def MU:V->List V->Hp->VK->Prop:=λx vs H Q=>∃l xs i k y,x=.ref l/\vs=[.int i]/\H l=some (.lst xs)/\-(2^63)<=i/\i<2^63/\seqIndex? i xs.length=some k/\xs[k]?=some y/\Q y (upd H l (.lst (xs.eraseIdx k)))
theorem UD:PM X "list.pop" MU:=by
 intro pins s σ H x vs v us Q I rx rv h;obtain⟨l,xs,i,k,y,rfl,rfl,J,h1,h2,W,Y,q⟩:=h;cases rx;obtain⟨u,rfl,Z⟩:=rv.one;obtain⟨t,rfl⟩:=Z;obtain⟨z,its,n,r,hl,e⟩:=I.lstM J;obtain⟨w,hw,G⟩:=r.get Y;refine Eh F.slot_list_pop ⟨_,e,rfl⟩ F.entry_list_pop (F.args_list_pop_2 _ _)
  (MeetsSeq.list_pop_at l its.toArray n i t k w (fitsIndex_both h1 h2) (by rw[B0,<-hl];exact W) (by rw[<-Ep];exact hw) (by rw[B0];lia)) ⟨e,?_⟩
 refine⟨y,_,I.lset (its':=its.eraseIdx k) J e ?_ (r.eraseIdx k) ?_,G,q⟩
 .show its.toArray.eraseIdxIfInBounds k=(its.eraseIdx k).toArray;rw[Ga]
 .have:=UA xs k
  lia
def RJ:R2:=λx y H Q=>∃l b xs zs,x=.ref l/\y=.ref b/\H l=some (.lst xs)/\H b=some (.lst zs)/\xs.length+zs.length<=sizeLine/\∀p,H p=none->Q (.ref p) (upd H p (.lst (xs++zs)))
theorem Ky:EK X (binaryOp .Add) RJ:=by
 intro pins s σ H x y v u Q I rx G h;obtain⟨l,b,xs,zs,rfl,rfl,J,hB,hz,q⟩:=h;cases rx;cases G;obtain⟨z,its,n,r,hl,e⟩:=I.lstM J;obtain⟨z2,F,n2,Y,hl2,W⟩:=I.lstM hB;refine PySem.P.add_list e W ?_ (by rw[B0,B0];lia);have Z:its.toArray++F.toArray=(its++F).toArray:=by simp
 rw[Z];exact⟨.ref _,_,I.lnew (t':=s.toks) (r.append Y) (by rw[Aa];lia),rfl,q _ I.fresh⟩
def RK:R2:=λx y H Q=>∃l k xs,x=.ref l/\y=.int k/\H l=some (.lst xs)/\-(2^63)<=k/\k<2^63/\xs.length*k.toNat<=sizeLine /\
 ∀p,H p=none->Q (.ref p) (upd H p (.lst (List.replicate k.toNat xs).flatten))
theorem UE{F:Type}(xs:List F)(k:Nat):(List.replicate k xs).flatten.length=k*xs.length:=by
 induction k with
 | zero=>simp
 | succ k ih=>rw[Co,Cr,Aa,ih,G0,Nat.add_comm]
theorem RL:EK X (binaryOp .Mult) RK:=by
 intro pins s σ H x y v u Q I rx ry h;obtain⟨l,k,xs,rfl,rfl,hH,h1,h2,hz,q⟩:=h;cases rx;obtain⟨t,rfl⟩:=ry;obtain⟨z,its,n,r,hl,e⟩:=I.lstM hH;have W:its.toArray.size*k.toNat<=sizeLine:=by rw[B0,<-hl];exact hz
 have Z:¬its.toArray.size*k.toNat > (2^63-1)/8:=by
  have:(sizeLine:Nat)<=(2^63-1)/8:=by decide
  lia
 have Y:¬(!Builtin.List.listFitsIndex k)=true:=by
  rw[fitsIndex_both h1 h2];exact B1
 have G:¬Builtin.List.listTooLong (its.toArray.size*k.toNat)=true:=by
  rw[UC W];exact B1
 have J:List.foldl (λx1 x2=>x1++x2) #[] (List.replicate (if its.toArray.isEmpty=true then 0 else k.toNat) its.toArray)=(List.replicate k.toNat its).flatten.toArray:=by
  have f0:∀m:Nat,List.foldl (λx1 x2=>x1++x2) #[] (List.replicate m its.toArray)=(List.replicate m its).flatten.toArray:=λm=>by
   have:=UB its m [];rw[List.nil_append]at this
   exact this
  rw[f0];cases its with
  | nil=>simp
  | cons a r'=>rw[Aq (by simp)]
 refine wpAny_binaryOp_repeat_ref (T:="list") (U:="int") (by decide) ⟨_,e,rfl⟩ (λs'=>Jd s' k t) noFill_list_mul F.fills_int_mul F.slot_int_rmul repeat_list F.slot_int_index.lookup
  (Eh F.slot_int_rmul (Jd s k t) F.entry_int_rmul (F.args_int_rmul_2 _ _) (int___rmul___int_list k t l its.toArray n)
    ⟨e,rfl,⟨_,e,rfl⟩,Eh F.slot_list_mul ⟨_,e,rfl⟩ F.entry_list_mul (F.args_list_mul_2 _ _) (AutoListH.list___mul___list_int_3 l its.toArray n k t Y Z G) ⟨e,?_⟩⟩)
 rw[J];exact⟨.ref _,_,I.lnew (t':=s.toks) (r.rep k.toNat) (by rw[UE,Nat.mul_comm];exact hz),rfl,q _ I.fresh⟩
end
end L2
namespace Att
open PySem PySem.W PySem.Calls PyProof.Rows
theorem d6:∀(ns:List Int) (vs:List Value),WellAll P h vs (ns.map WData.int)->IntsAre vs ns:=by
 intro ns;induction ns with
 | nil =>
   intro vs w;rw[K7]at w
   cases w;exact .nil
 | cons n ns ih =>
   intro vs w;rw[Bq]at w
   cases w with
   | cons a b =>
     cases a;exact .cons _ _ (ih _ b)
theorem d7{l:OpenLaw}{n:Nat}(hn:l.most=some n){P:Params}{h:Heap}{args:List WData}{vals:List Value}
 (hpre:l.row.toRowW.claim.pre args=true) (hwl:WellAll P h vals args) :
 ∃a vs ns,vals=[Value.ref a]/\args=[WData.list (ns.map WData.int)]/\h.get? a=some { cls:=.type "list",data:=.seq vs.toArray }/\IntsAre vs ns/\ns.length<=n:=by
 have W:WShape.hasAll [] args [.list .int]=true:=(pre_splitW hpre).1;have Y:l.pre.holds [] { args:=args }=true:=(pre_splitW hpre).2;obtain⟨d,r,rfl,h1,h2⟩:=hasAllW_cons W;obtain rfl:=hasAllW_nil h2;obtain⟨xs,rfl,h3⟩:=hasW_list h1;obtain⟨ns,rfl⟩:=items_int h3;have G:ns.length<=n:=by
  unfold OpenLaw.pre at Y;have J:(WTm.not (.lt (.lit (.int (n:Int))) (.len (.arg 0)))).holds [] { args:=[.list (ns.map .int)] }=true:=by
   have J:=(holds_andW Y).1;rw[hn]at J
   exact J
  have I:=condW_of J (w_not (w_lt w_lit (w_len_list (w_arg rfl))));rw[A6]at I
  refine Nat.le_of_not_lt λq=>?_
  have Z:(n:Int)<((ns.length:Nat):Int):=by lia
  first
   | (rw[Ae Z]at I;exact absurd I (by decide))
   | (simp at I;lia)
 cases hwl with
 | cons w1 w2 =>
   cases w2;cases w1 with
   | list ho F=>exact⟨_,_,ns,rfl,rfl,ho,d6 ns _ F,G⟩
theorem d8(l:OpenLaw)(args:List WData):l.row.toRowW.claim.post args (.bool true) args=true :=
 postW_of (r:=l.row.toRowW) (X:=(true==true))
  (show WShape.has [] (.bool true) .bool=true by first|rfl|decide|simp[WShape.has,WShape.arms,WShape.armsAll])
  (show(WTm.eq .res (.lit (.bool true))).value [] { args:=args,res:=some (.bool true),after:=args }=some (.bool (true==true))from w_eq_bool (w_res rfl) w_lit) rfl
theorem d9{l:OpenLaw}{n:Nat}{q:Program}{I:List Str}{XP:(Str->Option Value)->Heap->Prop}{YP:World->Heap->Prop}{d:DefRec}
 (hn:l.most=some n) (hdf:d.params.defaults=[])
 (call:∀(w:World) (s₀ F:Shared) (mg mb:Str->Option Value) (fa:Addr) (o:Obj) (pm cd doc:Value) (a:Addr) (vs:List Value) (ns:List Int),
   Ground q I [] XP w s₀ mg mb F.heap->YP w F.heap ->
   F.heap.get? fa=some o->o.data=.func (docDef d.name d.params d.body d.scope pm cd doc)->F.heap.CodeRec cd d.name->mg d.name=some (.ref fa) ->
   F.heap.get? a=some { cls:=.type "list",data:=.seq vs.toArray }->IntsAre vs ns->ns.length<=n->F.gens=#[] ->
   codeAny (model l.prog w) callerA (.call (.ref fa) ⟨[.ref a],[]⟩) (λr s'=>r=.ok (.ret (.bool true))/\OldK F.heap s'.heap/\s'.os=F.os/\AllBare s'.gens) F) :
 WalkO q I XP YP l.row.toRowW d [] (λf vs=>PySem.call f vs):=by
 intro w s₀ F mg mb G Y fa o pm cd doc dV kV ho hd ac hD ad hg args vals as hpre hlay af aa ae;obtain rfl:dV=.none:=Dflts.none hD hdf;obtain rfl:kV=.none:=Dflts.noKw hD;obtain⟨a,vs,ns,rfl,rfl,W,J,Z⟩:=d7 hn hpre aa;refine enter_call (E8 (call w s₀ F mg mb fa o pm cd doc a vs ns G Y ho (fd_plain hd) ac ad W J Z hg) λr s' hq=>?_);obtain⟨rfl,h2,h3,h4⟩:=hq;exact⟨.inl ⟨.bool true,.bool true,[],rfl,λ_=>rfl,.bool true,d8 l _,λ_=>⟨List.Pairwise.nil,λ_ hm=>(nomatch hm)⟩⟩,h2,h3,h4⟩
end Att
namespace L2
open PySem PySem.Spec PyProof.Rows
theorem UF:∀{vs:List Value}{ns:List Int},IntsAre vs ns->AS (ns.map V.int) vs
 | _,_,.nil=>.nil
 | _,_,.cons n t h=>.cons ⟨t,rfl⟩ (UF h)
def LH(H:Hp):Prop:=∀b,H b=none\/∃o xs,H b=some (.frz o (.lst xs))
theorem dm{P:Program}{w:World}{K:Frag}{mg mb:Str->Option Value}{CX:JF}{k:Nat}{fa a:Addr}{fd:FuncData}{x:Str}{sp:Sp}{G:Shared}{vs:List Value}{ns:List Int}
 (KX:K.In G.heap) (hns:G.heap.Ns mainGlobals mg) (hb:G.heap.Ns builtinsNs mb) (hbb:∀x:Str,x≠"__name__"->mb x=bootBuiltins x) (hlim:G.heap.NoLimit) (hg:G.gens=#[])
 (ha:G.heap.get? a=some { cls:=.type "list",data:=.seq vs.toArray }) (hi:IntsAre vs ns) (hl:ns.length<=sizeLine) (hr:BX k callerA)
 (F:∀base:Heap,K.In base->base.Ns mainGlobals mg->AJ P w K mg base CX k fa fd [x] sp) (hbind:∀(s:Shared) (u:Value),BindsTo s fd ⟨[u],[]⟩ [(x,u)])
 (hsp:∀H:Hp,LH H->AH K H a (ns.map V.int)->sp [.ref a] H (λv _=>v=.bl true) λ_ _ _=>False)
 (hCX:∀H e s',CX [] H G (λ_ _ _=>False) e s'->False) :
 codeAny (model P w) callerA (.call (.ref fa) ⟨[.ref a],[]⟩) (λr s'=>r=.ok (.ret (.bool true))/\OldK G.heap s'.heap/\s'.os=G.os/\AllBare s'.gens) G:=by
 have rv:=UF hi;have ac:=hi.length;have Y:∀H:Hp,LH H->AH K H a (ns.map V.int)->EL P w H G.heap->(∀b,H b≠none->b=a)->(H a≠none->K.lookup a=none) ->
  codeAny (model P w) callerA (.call (.ref fa) ⟨[.ref a],[]⟩) (λr s'=>r=.ok (.ret (.bool true))/\OldK G.heap s'.heap/\s'.os=G.os/\AllBare s'.gens) G:=by
  intro H hO hS hok hA hK;have I:∀{b:Addr}{o:Obj},G.heap.get? b=some o->H b=none->(HR G.heap H).get? b=some o:=λe n=>YN e n
  have ae:∀{b:Addr}{o:Obj}{es:Array DictEntry}{ep:Nat},G.heap.get? b=some o->o.data=.dict es ep->H b=none:=λ{b o es ep} e d=>by
   cases q:H b with
   | none=>rfl
   | some u =>
     have e':b=a:=hA b (by rw[q];simp);subst e';rw[ha]at e;cases e
     have d':Data.seq vs.toArray _=Data.dict es ep:=d;cases d'
  have J:∀{b:Addr}{m:Str->Option Value},G.heap.Ns b m->(HR G.heap H).Ns b m:=λ{b m} ⟨o,es,ep,e,d,r⟩=>⟨o,es,ep,I e (ae e d),d,r⟩
  have ad:K.In (HR G.heap H):=λb o e=>I (KX b o e) (by
   cases q:H b with
   | none=>rfl
   | some u =>
     have e':b=a:=hA b (by rw[q];simp);subst e';rw[hK (by rw[q];simp)]at e;cases e)
  have hM:Mod K mg (HR G.heap H):=⟨ad,J hns,⟨mb,J hb,hbb⟩,let ⟨mc,h1,h2⟩:=hlim;⟨mc,J h1,h2⟩⟩
  have e0:JG P w K mg (HR G.heap H) callerA [] G H:=⟨rfl,hM,λb o e=>YO e,E7 (YM _ _),trivial,λb hb=>absurd (show b∈([]:List Addr)from hb) (by simp),hok,.of_eq hg⟩
  refine E8 ((F _ ad (J hns)).run callerA [] G H ⟨[.ref a],[]⟩ [.ref a] [.ref a] _ _ hr e0 (hbind G (.ref a)) (.cons rfl .nil) (hsp H hO hS)) λr s' h=>?_
  cases r with
  | error e=>exact(hCX H e s' h).elim
  | ok fl =>
    cases fl with
    | next=>exact False.elim h
    | brk=>exact False.elim h
    | cont=>exact False.elim h
    | ret u =>
      obtain⟨v,H',os,bare,un,aa,r',q⟩:=h;have q':v=.bl true:=q;subst q';obtain rfl:u=Value.bool true:=r';refine⟨rfl,OldK.of_keep λb o e=>?_,os,bare⟩;cases q:H b with
      | none=>exact un.keep b o e q (by intro z;exact absurd (show b∈([]:List Addr)from z) (by simp)) (by simp)
      | some u =>
        rcases hO b with z|⟨ob,xs,z⟩
        .rw[q]at z;cases z
        .have z2:=un.frzs b ob _ z;obtain⟨e1,_⟩:=hok b _ z;obtain⟨e2,_⟩:=aa b _ z2;rw[e]at e1;cases e1
         exact e2
 cases hk:K.lookup a with
 | some o =>
   have e:=KX a o hk;rw[ha]at e
   cases e;refine Y (λ_=>none) (λ_=>.inl rfl) (.inr ⟨_,vs.toArray,_,hk,rfl,rfl,rfl,by rw[B0,ac];exact hl,by simpa using rv⟩) (λb u z=>by have Z:(none:Option HO)=some u:=z;cases Z) (λb z=>absurd rfl z) λz=>absurd rfl z
 | none =>
   refine Y (λb=>if b=a then some (.frz { cls:=.type "list",data:=.seq vs.toArray } (.lst (ns.map V.int)))else none) (λb=>?_) (.inl (.inr ⟨{ cls:=.type "list",data:=.seq vs.toArray },Ar rfl⟩)) (λb u z=>?_) (λb z=>?_) λ_=>hk
   .by_cases hb:b=a
    .exact .inr ⟨_,_,Ar hb⟩
    .exact .inl (Aq hb)
   .by_cases hb:b=a
    .have Z:=(Ar hb).symm.trans z;cases Z;subst hb;exact⟨ha,by rw[A6];exact hl,vs,_,rv,ha⟩
    .have Z:=(Aq hb).symm.trans z;cases Z
   .by_cases hb:b=a
    .exact hb
    .exact absurd (Aq hb) z
theorem dq{l:PySem.W.OpenLaw}{n k:Nat}{q:Program}{J:List Str}{XP:(Str->Option Value)->Heap->Prop}{YP:World->Heap->Prop}{d:DefRec}{K:Params->Frag}{CX:World->JF}{sp:World->Sp}{x:Str}
 (hn:l.most=some n) (hn2:n<=sizeLine) (hdf:d.params.defaults=[]) (hr:BX k callerA)
 (hY:∀(w:World) (h:Heap),YP w h->(K w.params).In h)
 (F:∀(w:World) (mg:Str->Option Value) (fa:Addr) (h:Heap),(K w.params).In h->h.Ns mainGlobals mg->mg d.name=some (.ref fa) ->
   ∃fd:FuncData,(∀(s:Shared) (u:Value),BindsTo s fd ⟨[u],[]⟩ [(x,u)]) /\
    ∀base:Heap,(K w.params).In base->base.Ns mainGlobals mg->AJ l.prog w (K w.params) mg base (CX w) k fa fd [x] (sp w))
 (hsp:∀(w:World) (H:Hp) (a:Addr) (ns:List Int),ns.length<=n->LH H->AH (K w.params) H a (ns.map V.int)->sp w [.ref a] H (λv _=>v=.bl true) λ_ _ _=>False)
 (hCX:∀(w:World) (H:Hp) (s:Shared) (e:Value) (s':Shared),CX w [] H s (λ_ _ _=>False) e s'->False) :
 PySem.W.WalkO q J XP YP l.row.toRowW d [] (λf vs=>PySem.call f vs):=by
 refine Att.d9 hn hdf λw s₀ aa mg mb fa o pm cd doc a vs ns G Y ho hd ae ad ac Z I hg=>?_
 have KX:=hY w _ Y;obtain⟨fd,hb,hF⟩:=F w mg fa _ KX G.T.g ad;exact dm KX G.T.g G.T.b G.T.builtins G.T.nolimit hg ac Z (B3 I hn2) hr hF hb (λH hO hS=>hsp w H a ns I hO hS) λH e s'=>hCX w H aa e s'
theorem KL{l:PySem.W.OpenLaw}{n k:Nat}{q:Program}{G:List Str}{Y:(Str->Option Value)->Heap->Prop}{I:World->Heap->Prop}{d:DefRec}{K:Params->Frag}{CX:JF}{sp:Frag->Sp}{x:Str}
 (hn:l.most=some n) (hn2:n<=sizeLine) (hdf:d.params.defaults=[]) (hr:BX k callerA)
 (hY:∀(w:World) (h:Heap),I w h->(K w.params).In h)
 (F:∀(w:World) (mg:Str->Option Value) (J:Addr) (h:Heap),(K w.params).In h->h.Ns mainGlobals mg->mg d.name=some (.ref J) ->
   ∃fd:FuncData,(∀(s:Shared) (u:Value),BindsTo s fd ⟨[u],[]⟩ [(x,u)]) /\
    ∀base:Heap,(K w.params).In base->base.Ns mainGlobals mg->AJ l.prog w (K w.params) mg base CX k J fd [x] (sp (K w.params)))
 (hsp:∀(K:Frag) (H:Hp) (a:Addr) (ns:List Int),ns.length<=n->LH H->AH K H a (ns.map V.int)->sp K [.ref a] H (λv _=>v=.bl true) λ_ _ _=>False)
 (hCX:∀(H:Hp) (s:Shared) (e:Value) (s':Shared),CX [] H s (λ_ _ _=>False) e s'->False) :
 PySem.W.WalkO q G Y I l.row.toRowW d [] (λf vs=>PySem.call f vs) :=
 dq (K:=K) (CX:=λ_=>CX) (sp:=λw=>sp (K w.params)) hn hn2 hdf hr hY F (λw H a ns h1 h2 Z=>hsp (K w.params) H a ns h1 h2 Z) λ_ H s e s'=>hCX H s e s'
def DT(s:Stmt)(j:Nat):Stmt:=match s with
 | .ClassDef _ _ _ body _ _ _ _ _ _ _=>body.getD j (.Pass ⟨0,0,0,0⟩)
 | _=>.Pass ⟨0,0,0,0⟩
def HV(s:Stmt):Arguments:=match s with
 | .FunctionDef _ a _ _ _ _ _ _ _ _=>a
 | _=>{ posonlyargs:=[],args:=[],vararg:=none,kwonlyargs:=[],kw_defaults:=[],kwarg:=none,defaults:=[] }
def HK(s:Stmt):List Stmt:=match s with
 | .FunctionDef _ _ b _ _ _ _ _ _ _=>b
 | _=>[]
def BJ(s:Stmt):Scope:=match s with
 | .FunctionDef _ _ _ _ _ _ F _ _ _=>F
 | _=>{ kind:=.function,names:=[],isGenerator:=false,isCoroutine:=false }
abbrev BL:JF:=λ_ _ _ _ _ _=>False
abbrev E0:XK:=λ_ _ _=>False
theorem PN:Ov BL X E0:=λ_ _ _ _ _ _ _ h=>h.elim
structure Mh(K:Frag)(x qual:Str)(st:Stmt)(f:Addr)(fd:FuncData):Prop where
 ex:∃(oc:Value) (od:Option Addr) (kV doc pm:Value) (an:Option Addr) (cdv ct:Value) (osl:Array (Option Value)),
  fd=PySem.W.fnOf x qual (HV st) (HK st) (BJ st) .none kV doc pm an cdv ct/\K.lookup f=some ⟨oc,od,.func fd,osl⟩/\PySem.W.codeIn K cdv qual=true
 kp:PySem.W.keepIn K (.ref f)=true
section
variable {P:Program}{w:World}{K:Frag}{mg:Str->Option Value}{base:Heap}
theorem Mh.ok{x qual:Str}{st:Stmt}{f:Addr}{fd:FuncData}{N ps:List Str}{k:Nat}{sp:Sp}(F:Mh K x qual st f fd)(S:AE N ps (BJ st))(len:∀vs H Q E,sp vs H Q E->vs.length=ps.length)
 (hbody:∀(G:Value) (A:Around) (outer:List Env) (s:Shared) (H:Hp) (vs:List V) (Q:VK) (E:XK),BX k (A.deeper (envOfC qual (BJ st) s.heap.objs.size f G))->sp vs H Q E ->
   ∃t,HA (GC BL P w K mg base N qual (BJ st) f G A outer s H E).nox (HK st) t/\t { nx:=λ_ H'=>Q .non H',rt:=Q } (start N vs) H):AJ P w K mg base BL (k+1) f fd ps sp:=by
 obtain⟨oc,Z,kV,doc,pm,an,G,ct,Y,rfl,lk,J⟩:=F.ex;refine RD lk J S len λA outer s H vs Q E W I=>?_
 obtain⟨t,h,q⟩:=hbody G A outer s H vs Q E W I;exact⟨t,h.nox,q⟩
end
theorem NG(F:BX k A):A.units+1<cLine:=Hj (Nat.add_le_add_left (by decide:1<=64) _) F.units
section
variable {X:Cx}
theorem pv(i:Nat)(hN:X.N[i]?=some x:=by rfl)(hv:R8 X.env.scope x:=by first|exact Or.inl rfl|exact Or.inr AM|exact Or.inr (Or.inr rfl))(hd:(x==("__debug__":Str))=false:=by decide)(hcd:(x==("__classdict__":Str))=false:=by decide):PE X (.Name x pos) (Og i):=YR hN hv hd hcd
end
theorem AR{A B:Prop}(h:B):if false=true then A else B:=by
 rw[Aq B1];exact h
theorem BB{A B:Prop}(h:A):if true=true then A else B:=by
 rw[Ar rfl];exact h
theorem CG{c A B:Prop}[Decidable c](h1:c->A)(h2:¬c->B):if c then A else B:=by
 by_cases h:c
 .rw[Ar h];exact h1 h
 .rw[Aq h];exact h2 h
def AF(H H':Hp):Prop:=∀b o,H b=some o->H' b=some o
theorem AF.refl(H:Hp):AF H H:=λ_ _ h=>h
theorem AF.trans{H H1 H2:Hp}(a:AF H H1)(b:AF H1 H2):AF H H2:=λc o h=>b c o (a c o h)
theorem AF.free{H H':Hp}(e:AF H H'){l:Addr}(h:H' l=Option.none):H l=Option.none:=by
 cases q:H l with
 | none=>rfl
 | some o =>
   rw[e l o q]at h
   cases h
theorem AF.seq{K:Frag}{H H':Hp}{a:Addr}{xs:List V}(e:AF H H')(h:AH K H a xs):AH K H' a xs:=by
 rcases h with(h|⟨o,h⟩)|h
 .exact .inl (.inl (e _ _ h))
 .exact .inl (.inr ⟨o,e _ _ h⟩)
 .exact .inr h
end L2
set_option maxHeartbeats 4000000
namespace L2
open PySem PySem.Spec PyProof.Rows
structure D(K:Frag)(mg:Str->Option Value)(x:Str)(st:Stmt)(ps:List Str)(f:Addr)(fd:FuncData):Prop where
 fn:Mh K x x st f fd
 ba:∀us:List Value,us.length=ps.length->bindArgs fd ⟨us,[]⟩=pure (ps.zip us)
 mg:mg x=some (.ref f)
section
variable {X:Cx}{k j:Nat}{f:Addr}{fd:FuncData}{ps:List Str}{sp:Sp}{x:Str}{st:Stmt}{p pos:Pos}{e:Expr}{es:List Expr}{t:TA}
theorem BN(d:D X.K X.mg x st ps f fd)(F:AJ X.prog X.w X.K X.mg X.base BL j f fd ps sp)(I:BX k X.A)(G:Gl X x)(J:PA X (e::es) t)(hjk:j<=k:=by decide)(hdb:(x==("__debug__":Str))=false:=by decide)
 (he:starEach (e::es) X.env=(false,eval e X.env)::starEach es X.env:=by rfl) (hpl:(backTo pos (starEach es X.env)).any (·.1)=false:=by rfl) :
 PE X (.Call (.Name x p) (e::es) [] pos) (Ui sp [] E0 t) :=
 Zv (F.mono hjk) I G d.mg d.fn.kp (.all d.ba) .nil PN J hdb he hpl
end
theorem DP:bootBuiltins "len"=some (.builtin "len"):=PySem.boot_len
theorem PP:bootBuiltins "sum"=some (.builtin "sum"):=by decide +kernel
theorem UG:bootBuiltins "all"=some (.builtin "all"):=by decide +kernel
theorem OA:bootBuiltins "int"=some (.type "int"):=by decide +kernel
theorem PQ:bootBuiltins "str"=some (.type "str"):=by decide +kernel
theorem OB:bootBuiltins "list"=some (.type "list"):=by decide +kernel
theorem Ki:decide (V.int i=V.int j)=decide (i=j):=by
 rw[Ca];exact⟨λh=>V.int.inj h,λh=>by rw[h]⟩
theorem AV(h:H p=none)(o:HO):AF H (upd H p o):=λb u q=>by rw[BV (GU q h)];exact q
theorem DO(s:AF H H1)(h:H p=none):AF H (upd H1 p o):=λb u q=>by rw[BV (GU q h)];exact s b u q
theorem FN(s:AF H H1)(h:H1 p=none):AF H (upd H1 p o):=DO s (s.free h)
theorem PR{B:Int}{zs:List Int}(h:∀z∈zs,0<=z/\z<B){i:Int}(I:0<=i)(h1:i<(zs.length:Int)):∃z,DJ (zs.map V.int) i=some (.int z)/\0<=z/\z<B:=by
 have F:i.toNat<zs.length:=by lia
 have G:i=((i.toNat:Nat):Int):=by lia
 refine⟨zs[i.toNat],?_,h _ (Dw F)⟩;have q:DJ (zs.map V.int) ((i.toNat:Nat):Int)=some (.int zs[i.toNat]):=EY (by rw[Ax,A7 F]<;>rfl);rw[<-G]at q
 exact q
theorem dr{zs:List Int}{i:Int}(I:0<=i)(h1:i<(zs.length:Int)):∃z,z∈zs/\DJ (zs.map V.int) i=some (.int z):=by
 have F:i.toNat<zs.length:=by lia
 have G:i=((i.toNat:Nat):Int):=by lia
 refine⟨zs[i.toNat],Dw F,?_⟩;have q:DJ (zs.map V.int) ((i.toNat:Nat):Int)=some (.int zs[i.toNat]):=EY (by rw[Ax,A7 F]<;>rfl);rw[<-G]at q
 exact q
theorem dv{zs:List Int}{i:Int}(I:0<=i)(h1:i<(zs.length:Int)):DJ (zs.map V.int) i=some (.int (zs.getD i.toNat 0)):=by
 have F:i.toNat<zs.length:=by lia
 have G:i=((i.toNat:Nat):Int):=by lia
 have q:DJ (zs.map V.int) ((i.toNat:Nat):Int)=some (.int zs[i.toNat]):=EY (by rw[Ax,A7 F]<;>rfl);rw[<-G]at q
 rw[q,B5,A7 F]<;>rfl
theorem LI{zs:List Int}{i:Nat}{y:V}(h:(zs.map V.int)[i]?=some y):∃z,y=.int z/\zs[i]?=some z:=by
 rw[Ax]at h
 cases e:zs[i]? with
 | none=>rw[e]at h;cases h
 | some z=>rw[e]at h;exact⟨z,(Ap h).symm,rfl⟩
theorem dw(zs:List Int)(n:Nat):DN (zs.map V.int) none (some (n:Int))=(zs.take n).map V.int:=by
 unfold DN;rw[HT.RE,HT.MN,Ex,A6,Je,<-Fm];congr 1
 by_cases h:n<=zs.length
 .rw[Dq h]
 .rw[Gg (by lia),Ak (Af _),Ak (by lia)]
theorem DD(h:n<=100000):n<=sizeLine:=B3 h (by decide)
theorem IV(h:n<=100000):n<sizeLine:=Hj h (by decide)
def RM(t:TS):TS:=λD σ H=>∃M:St->Hp->Prop,t { D with nx:=M } σ H/\∀F H',M F H'->D.nx F H'
theorem NH{X:Cx}{st:Stmt}{t:TS}(h:PS X st t):PS X st (RM t):=by
 intro pins s σ H D I hw;obtain⟨M,h1,h2⟩:=hw;refine BD (h pins s σ H _ I h1) λf J q=>?_
 cases f with
 | next=>obtain⟨F,H',G,m⟩:=q;exact⟨F,H',G,h2 F H' m⟩
 | ret v=>exact q
 | brk=>exact q
 | cont=>exact q
section
variable {X:Cx}{pins:List (Addr×Obj)}{σ:St}{H:Hp}{s:Shared}{h':Heap}
theorem AI.turnLay{t':Nat}{ch:List Addr}{l:Addr}{o:HO}(I:AI X pins σ H s)(k:∀b u,b∉ch->s.heap.get? b=some u->h'.get? b=some u)(W:∀b∈ch,EX X pins H b)
 (hp:s.heap.objs.size<=l) (new:GN X.prog X.w (upd H l o) h' l o):AI X pins σ (upd H l o) { s with heap:=h',toks:=t' }:=by
 have G:=I.hok.fresh hp;have J:∀b u,H b=some u->b∉ch:=λb u e z=>by rw[(W b z).1]at e;cases e
 refine I.step (g':=s.gens) (d':=s.drawn) (ch:=ch) (λb hb=>?_) (λb u _ _ F e _=>k b u F e) (λb u _ _ F e _=>⟨u.slots,k b u F e⟩)
  (λb u _ e n=>?_) (λb u F e=>⟨u,k b u F e⟩) (λb xs e=>?_) (λb u xs e=>?_) (λb ps e=>⟨#[],?_⟩) (λm hm=>?_) (λb u e=>?_) I.bare
 .obtain⟨f0,Z,f2,f3,f4,f5⟩:=W b hb;exact⟨f3,Z,f4,f5⟩
 .rw[BV (Be (Bo (As e) hp))];exact n
 .rw[BV (GU e G)];exact e
 .rw[BV (GU e G)];exact e
 .rw[BV (GU e G),e];simp
 .obtain⟨Y,es,ep,ho,r⟩:=hm;exact⟨Y,es,ep,k _ Y (λz=>(W _ z).2.1 rfl) ho,r⟩
 .by_cases hb:b=l
  .subst hb;rw[AA]at e
   cases e;exact new
  .rw[BV hb]at e
   refine(I.hok b u e).stay (λc v F q=>k c v ?_ q) (λc q=>by rw[BV (GU q G)];exact q) λc xs q=>by rw[BV (GU q G)];exact q
   rcases F with z|z
   .rw[z];exact J b u e
   .exact J c _ z
end
def OD(K:Frag)(a:Addr):It :=
 ⟨λi H=>∃xs x,AH K H a xs/\xs[i]?=some x,λi H v H'=>∃t x,v=.ref t/\H t=none/\(∀xs,AH K H a xs->xs[i]?=some x)/\H'=upd H t (.tup [.int i,x]),λi H=>∃xs,AH K H a xs/\xs.length<=i⟩
theorem dy{P:Program}{w:World}{K:Frag}{es:List Expr}{k1:Nat}{tp:Pos}(a e it:Addr)(ac:e≠it) :
 HU P w K (.Tuple es k1 tp) (OD K a) [e,it] e (λi h=>(∃F,IsEnum h e it (i:Nat) F)/\h.IsListIter it a i) where
 mem:=by simp
 obj:=λi h st b hb=>by
  obtain⟨⟨F,Y⟩,o,e2,c,d⟩:=st;have z:b=e\/b=it:=by simpa using hb
  rcases z with rfl|rfl
  .refine⟨_,Y,λv z=>?_⟩;have z':Data.fields _=Data.cell v:=z;cases z'
  .exact⟨o,e2,λv z=>by rw[d]at z;cases z⟩
 keep:=λi h h' st k=>⟨let ⟨F,Y⟩:=st.1;⟨F,k e (by simp) _ Y⟩,st.2.at λo e=>k it (by simp) o e⟩
 item:=by
  intro X hP hw hK hc i pins s σ H E I hf st hg;subst hP hw hK;obtain⟨xs,x,hq,hx⟩:=hg;obtain⟨its,rv,p,hz⟩:=I.list hq;obtain⟨u,hu,ru⟩:=rv.get hx;obtain⟨⟨F,he⟩,J⟩:=st;have Z:e<s.heap.objs.size:=As he;refine wpAny_pyNext_enum_item he J p.isList (x:=u) (by simpa using hu) ac λh1 ae aa ad aj ai=>⟨_,rfl,?_⟩
  refine Hl ae λh2 ag G=>?_
  replace G:Heap.SameBut e h1 h2:=G
  have af:h2.get? s.heap.objs.size=some { cls:=.type "tuple",data:=.seq #[.int i s.toks,u] }:=(G.2 _ (Cz Z)).trans ad;have kk:∀b o,b∉[e,it]->s.heap.get? b=some o->h2.get? b=some o:=λb o hb q=>by
   have h1:b≠e:=λz=>hb (by simp[z])
   have h2:b≠it:=λz=>hb (by simp[z])
   exact(G.2 b h1).trans (ai b o h1 h2 q)
  have hn:H s.heap.objs.size=none:=I.hok.fresh (Af _);have I2:AI X pins σ (upd H s.heap.objs.size (.tup [.int i,x])) { s with heap:=h2,toks:=s.toks+1 } :=
   I.turnLay kk hf (Af _) ⟨Ct rfl,[.int i s.toks,u],.cons ⟨_,rfl⟩ (.cons ru .nil),⟨_,af,rfl,0,rfl⟩⟩
  refine⟨.ref s.heap.objs.size,_,I2,rfl,⟨_,x,rfl,hn,λys hy=>by rw[I.list_inj hy hq];exact hx,rfl⟩,⟨⟨u,?_⟩,aa.extBut G.extBut (Ne.symm ac)⟩,λb hb=>?_⟩
  .have Y:((i+1:Nat):Int)=(i:Int)+1:=by lia
   rw[Y];exact ag
  .rw[BV]
   .exact(hf b hb).1
   .have z:b=e\/b=it:=by simpa using hb
    obtain⟨oi,ah,_⟩:=J;rcases z with rfl|rfl
    .exact Be Z
    .exact Be (As ah)
 done:=by
  intro X hP hw hK hc i pins s σ H E I hf st hg;subst hP hw hK;obtain⟨xs,hq,hx⟩:=hg;obtain⟨its,rv,p,hz⟩:=I.list hq;obtain⟨f0,f1,f2,f3,f4,f5⟩:=hf it (by simp);obtain⟨⟨F,he⟩,J⟩:=st;have hl:=rv.length;exact wpAny_pyNext_enum_end (I.ok.hd hc) he J p.isList (by simp;lia) λh' eb=>⟨rfl,I.turned (t':=s.toks) (λb o hb e=>eb b o hb e) f0 f1 f3 f4 f5⟩
 self:=λ_ _ _ _ _ st h=>let ⟨⟨_,Y⟩,_⟩:=st;G2 Y h
theorem UH:bootBuiltins "enumerate"=some (.type "enumerate"):=by decide +kernel
section
variable {X:Cx}{es:List Expr}{k1:Nat}{tp:Pos}
def UI(K:Frag)(ta:TA):TI:=λσ H R=>ta σ H λvs H1=>∃a,vs=[.ref a]/\(∃xs,AH K H1 a xs)/\R (OD K a) H1
theorem dz{a:Expr}{ta:TA}{p pos:Pos}(Z:Gl X "enumerate")(hm:X.mg "enumerate"=none)(ha:PA X [a] ta)(hs:starEach [a] X.env=(false,eval a X.env)::starEach [] X.env:=by rfl) :
 PI X (.Tuple es k1 tp) (.Call (.Name "enumerate" p) [a] [] pos) (UI X.K ta):=by
 intro pins s σ H R I h;refine C3 (L4 I Z hm UH ?_);refine C0 (BD (ha pos pins s σ H _ I h) λus F ⟨vs,H1,J,r1,q1⟩=>?_) hs (by rfl);obtain⟨l,rfl,⟨xs,hq⟩,q⟩:=q1;obtain⟨u,rfl,ru⟩:=ID r1;cases ru;obtain⟨its,rv,pl,hz⟩:=J.list hq;refine call_enumerate_list pl.isList λh' Y W hsz hk=>?_
 refine G2 Y ?_;refine⟨F.heap.objs.size+1,[F.heap.objs.size+1,F.heap.objs.size],_,_,H1,rfl,J.kept (t':=F.toks) hk,dy l _ F.heap.objs.size (Iq _),⟨⟨.none,Y⟩,W⟩,λb hb=>?_,q⟩;have z:b=F.heap.objs.size+1\/b=F.heap.objs.size:=by simpa using hb
 have G:F.heap.objs.size<=b:=by rcases z with rfl|rfl<;>lia
 exact J.fpOk G (J.hok.fresh G)
end
theorem RN{K:Frag}{a:Addr}{xs:List V}{g:TG}{tb:TS}{D:DV}{σ:St}{H:Hp}(F:Nat->St->Hp->Prop)(Z:F 0 σ H)(hl:∀i σ H,i<=xs.length->F i σ H->AH K H a xs)
 (hs:∀i x t σ H,xs[i]?=some x->F i σ H->H t=none->g (.ref t) σ (upd H t (.tup [.int i,x])) λG H2=>tb { D with nx:=F (i+1),ct:=F (i+1),bk:=D.nx } G H2) (hd:∀σ H,F xs.length σ H->D.nx σ H) :
 ∃W:Nat->Nat->St->Hp->Prop,(∃m,W 0 m σ H)/\∀i m σ H,W i m σ H ->
  ((OD K a).stop i H/\D.nx σ H)\/((OD K a).go i H/\∃N:St->Hp->Prop,(∀I H',N I H'->∃Y,Y<m/\W (i+1) Y I H')/\∀x H',(OD K a).yld i H x H'->g x σ H' λG H2=>tb { D with nx:=N,ct:=N,bk:=D.nx } G H2):=by
 refine⟨λi m σ H=>m=xs.length-i/\i<=xs.length/\F i σ H,⟨xs.length,by simp,B9 _,Z⟩,?_⟩;rintro i m σ H ⟨rfl,hi,p⟩;have q:=hl i σ H hi p;by_cases J:i<xs.length
 .refine .inr ⟨⟨xs,xs[i],q,by simp[J]⟩,F (i+1),λI H' p'=>⟨xs.length-(i+1),by lia,rfl,J,p'⟩,λv H' y=>?_⟩;obtain⟨t,x,rfl,hn,hx,rfl⟩:=y;exact hs i x t σ _ (hx xs q) p hn
 .have e:i=xs.length:=by lia
  subst e;exact .inl ⟨⟨xs,q,Af _⟩,hd σ H p⟩
mutual
inductive GD (K:Frag) (H:Hp):V->PyData->Prop
 | non:GD K H .non .none
 | bl (b:Bool):GD K H (.bl b) (.bool b)
 | int (i:Int):GD K H (.int i) (.int i)
 | str (x:Str):PyData.canLay0 (.str x)=true->GD K H (.str x) (.str x)
 | lst {a xs ds}:AH K H a xs->EF K H xs ds->GD K H (.ref a) (.list ds)
 | tup {a xs ds}:BP K H a xs->EF K H xs ds->GD K H (.ref a) (.tuple ds)
inductive EF (K:Frag) (H:Hp):List V->List PyData->Prop
 | nil:EF K H [] []
 | cons {x xs d ds}:GD K H x d->EF K H xs ds->EF K H (x::xs) (d::ds)
end
section
variable {X:Cx}{pins:List (Addr×Obj)}{σ:St}{H:Hp}{s:Shared}
mutual
theorem NI(I:AI X pins σ H s):∀(d:PyData) (v:V) (u:Value),GD X.K H v d->AX v u->∃as,Reads s.heap u d as
 | .none,v,u,h,r=>by cases h;cases r;exact⟨_,.none⟩
 | .bool b,v,u,h,r=>by cases h;cases r;exact⟨_,.bool b⟩
 | .int i,v,u,h,r=>by cases h;obtain⟨t,rfl⟩:=r;exact⟨_,.int i t⟩
 | .str x,v,u,h,r=>by cases h;obtain⟨t,rfl⟩:=r;exact⟨_,.str x t⟩
 | .list ds,v,u,h,r=>by
   cases h with
   | lst J F =>
     cases r;obtain⟨its,G,⟨o,n,e,c,_,d⟩,_⟩:=I.list J;obtain⟨as,q⟩:=PU I ds _ _ F G;exact⟨_,.list e c d (by simpa using q)⟩
 | .tuple ds,v,u,h,r=>by
   cases h with
   | tup J F =>
     cases r;obtain⟨its,G,⟨o,e,c,n,d⟩,_⟩:=I.tuple J;obtain⟨as,q⟩:=PU I ds _ _ F G;exact⟨_,.tuple e c d (by simpa using q)⟩
 | .dict _,v,u,h,r=>by cases h
theorem PU(I:AI X pins σ H s):∀(ds:List PyData) (xs:List V) (us:List Value),EF X.K H xs ds->AS xs us->∃as,ReadsAll s.heap us ds as
 | [],xs,us,h,r=>by cases h;cases r;exact⟨_,.nil⟩
 | d::ds,xs,us,h,r=>by
   cases h with
   | cons h1 h2 =>
     cases r with
     | cons J F =>
       obtain⟨Y,G⟩:=NI I d _ _ h1 J;obtain⟨Z,W⟩:=PU I ds _ _ h2 F;exact⟨_,.cons G W⟩
end
mutual
theorem MV{K:Frag}:∀(d:PyData) (v:V),GD K H v d->d.canLay0=true
 | .none,v,h=>rfl
 | .bool b,v,h=>rfl
 | .int i,v,h=>rfl
 | .str x,v,h=>by cases h with|str _ q=>exact q
 | .list ds,v,h=>by cases h with|lst _ q=>exact PV ds _ q
 | .tuple ds,v,h=>by cases h with|tup _ q=>exact PV ds _ q
 | .dict _,v,h=>by cases h
theorem PV{K:Frag}:∀(ds:List PyData) (xs:List V),EF K H xs ds->PyData.canLayAll0 ds=true
 | [],xs,h=>rfl
 | d::ds,xs,h=>by
   cases h with
   | cons h1 h2 =>
     show(PyData.canLay0 d&&PyData.canLayAll0 ds)=true;rw[MV d _ h1,PV ds _ h2];rfl
end
def LJ(K:Frag)(F:Bool):R2:=λx y H Q=>∃d e,GD K H x d/\GD K H y e/\min d.depth e.depth<=64/\Q (.bl (if F then !PyData.eqv d e else PyData.eqv d e)) H
theorem dA(hu:X.A.units+64<cLine):EK X (compareOp .Eq) (LJ X.K false):=by
 intro pins s σ H x y v u Q I W G h;obtain⟨d,e,hd,F,Z,q⟩:=h;obtain⟨as,J⟩:=NI I d _ _ hd W;obtain⟨bs,Y⟩:=NI I e _ _ F G;exact PySem.SeqAt.eqOverData X.prog X.w X.A X.xe s v u d e as bs _ J Y (MV d _ hd) (MV e _ F) (by lia) ⟨.bl _,H,I,rfl,q⟩
theorem dC(hu:X.A.units+64<cLine):EK X (compareOp .NotEq) (LJ X.K true):=by
 intro pins s σ H x y v u Q I W G h;obtain⟨d,e,hd,F,Z,q⟩:=h;obtain⟨as,J⟩:=NI I d _ _ hd W;obtain⟨bs,Y⟩:=NI I e _ _ F G;exact PySem.SeqAt.neOverData X.prog X.w X.A X.xe s v u d e as bs _ J Y (MV d _ hd) (MV e _ F) (by lia) ⟨.bl _,H,I,rfl,q⟩
end
mutual
def nb:PyData->Bool
 | .none|.int _|.str _=>true
 | .bool _|.dict _=>false
 | .list xs|.tuple xs=>IW xs
def IW:List PyData->Bool
 | []=>true
 | x::xs=>nb x&&IW xs
end
mutual
theorem RO:∀(d e:PyData),nb d=true->nb e=true->(PyData.eqv d e=true↔d=e)
 | .none,e,_,h=>by cases e<;>first|(simp[PyData.eqv];done)|cases h
 | .int i,e,_,h=>by cases e<;>first|(simp[PyData.eqv];done)|cases h
 | .str i,e,_,h=>by cases e<;>first|(simp[PyData.eqv];done)|cases h
 | .bool _,_,h,_=>by cases h
 | .dict _,_,h,_=>by cases h
 | .list xs,e,h1,h=>by
   cases e with
   | list ys =>
     have q:=RP xs ys h1 h;show PyData.eqvAll xs ys=true↔_;rw[q];exact⟨λz=>by rw[z],λz=>PyData.list.inj z⟩
   | none=>simp[PyData.eqv]
   | int _=>simp[PyData.eqv]
   | str _=>simp[PyData.eqv]
   | tuple _=>simp[PyData.eqv]
   | bool _=>cases h
   | dict _=>cases h
 | .tuple xs,e,h1,h=>by
   cases e with
   | tuple ys =>
     have q:=RP xs ys h1 h;show PyData.eqvAll xs ys=true↔_;rw[q];exact⟨λz=>by rw[z],λz=>PyData.tuple.inj z⟩
   | none=>simp[PyData.eqv]
   | int _=>simp[PyData.eqv]
   | str _=>simp[PyData.eqv]
   | list _=>simp[PyData.eqv]
   | bool _=>cases h
   | dict _=>cases h
theorem RP:∀(xs ys:List PyData),IW xs=true->IW ys=true->(PyData.eqvAll xs ys=true↔xs=ys)
 | [],[],_,_=>by simp[PyData.eqvAll]
 | [],_::_,_,_=>by simp[PyData.eqvAll]
 | _::_,[],_,_=>by simp[PyData.eqvAll]
 | x::xs,y::ys,h1,h2=>by
   have a:nb x=true/\IW xs=true:=by
    have:(nb x&&IW xs)=true:=h1;simpa using this
   have b:nb y=true/\IW ys=true:=by
    have:(nb y&&IW ys)=true:=h2;simpa using this
   have F:=RO x y a.1 b.1;have G:=RP xs ys a.2 b.2;show(PyData.eqv x y&&PyData.eqvAll xs ys)=true↔_;rw[Aw,F,G];simp
end
theorem eqv_refl(h:nb d=true):PyData.eqv d d=true:=(RO d d h h).mpr rfl
theorem dD(h:nb d=true)(h':nb e=true)(n:d≠e):PyData.eqv d e=false:=by
 cases q:PyData.eqv d e with
 | false=>rfl
 | true=>exact absurd ((RO d e h h').mp q) n
abbrev LK(zs:List Int):PyData:=.list (zs.map .int)
theorem OE:∀zs:List Int,IW (zs.map .int)=true
 | []=>rfl
 | z::zs=>by
   show(nb (.int z)&&IW (zs.map .int))=true;rw[OE zs];rfl
theorem RQ:∀zs:List Int,PyData.depthAll (zs.map .int)=0
 | []=>rfl
 | z::zs=>by
   show max (PyData.depth (.int z)) (PyData.depthAll (zs.map .int))=0;rw[RQ zs];rfl
theorem RS{K:Frag}{H:Hp}:∀zs:List Int,EF K H (zs.map V.int) (zs.map .int)
 | []=>.nil
 | z::zs=>.cons (.int z) (RS zs)
theorem UJ{K:Frag}{H:Hp}{a:Addr}{zs:List Int}(h:AH K H a (zs.map V.int)):GD K H (.ref a) (LK zs):=.lst h (RS zs)
theorem dE(zs:List Int)(e:PyData):min (LK zs).depth e.depth<=64:=by
 have q:(LK zs).depth=1:=by show PyData.depthAll (zs.map .int)+1=1;rw[RQ]
 lia
theorem dF(h:LK xs=LK ys):xs=ys:=by
 have q:=PyData.list.inj h;exact(List.map_inj_right (f:=PyData.int) (λa b z=>PyData.int.inj z)).mp q
theorem dG(xs ys:List Int):PyData.eqv (LK xs) (LK ys)=decide (xs=ys):=by
 by_cases h:xs=ys
 .subst h;rw[Ae rfl];exact eqv_refl (OE xs)
 .rw[Ai h];exact dD (OE xs) (OE ys) λz=>h (dF z)
end L2
namespace L2
open PySem PySem.Spec PyProof.Rows
section
variable {prog:Program}{w:World}{A:Around}{R:Result->Shared->Prop}{s:Shared}
theorem dH (I:Nat->Shared->Prop) (turn:∀n s,I n s->wpAny (model prog w) A (pyNext it) (λr J=>match r with
 | none=>R (.ok .next) J
 | some v=>wpAny (model prog w) A (letOwnedTupleGo target it v) (λ_ F=>wpAny (model prog w) A (assign target env v) (λ_ Y =>
    wpAny (model prog w) A (forIn ifs true λc r=>if r=true then do let ok <- isTrue c env (eval c env);pure (ForInStep.yield ok)else pure (ForInStep.yield r)) (λok G =>
     if ok=true then wpAny (model prog w) A (eval elt env) (λx s4 =>
      wpAny (model prog w) A (call (.builtin "list.append") [acc,x]) (λ_ Z=>∃m,m<n/\I m Z) (λ_ _=>False) s4) (λ_ _=>False) G
     else ∃m,m<n/\I m G) (λ_ _=>False) Y) (λ_ _=>False) F) (λ_ _=>False) J) (λ_ _=>False) s) (n:Nat) (h:I n s) :
 codeAny (model prog w) A (.compLoop (.ListComp elt [⟨target,iter,ifs,0⟩] scope pos) 0 it acc env) R s:=by
 refine codeAny_loop rfl I (λn s hI=>?_) n h;show wpAny _ A ((compTurn (.ListComp elt [⟨target,iter,ifs,0⟩] scope pos) 0 it acc env).onRaise (λx=>do noteFrame x env;theTreesLotGoes x)) _ _ s;refine wpAny_noted ?_;rw[compTurn_list];refine A8 (Dv (A8 (C8 (turn n s hI) (λr J h1=>?_) λ_ _ h'=>False.elim h')));cases r with
 | none=>exact An h1
 | some v =>
   refine A8 (C8 h1 (λ_ F W=>?_) λ_ _ h'=>False.elim h');refine A8 (C8 W (λ_ Y h2=>A8 (C8 h2 (λok G h3=>?_) λ_ _ h'=>False.elim h')) λ_ _ h'=>False.elim h');cases ok with
   | false=>exact An ⟨rfl,h3⟩
   | true =>
     exact A8 (A8 (C8 h3 (λx s4 h4=>A8 (C8 h4 (λ_ Z h5=>An (An ⟨rfl,h5⟩)) λ_ _ h'=>False.elim h')) λ_ _ h'=>False.elim h'))
end
def GM(env:Env):List (Str×NameKind)->List (Str×Addr)->List (Str×Addr)
 | [],F=>F
 | (n,k)::r,F=>if (k==.free)=true then GM env r ((n,(env.cells.lookup n).getD 0)::F)else GM env r F
theorem RU(P:Str->Addr->Prop):∀(names:List (Str×NameKind)) (F:List (Str×Addr)),(∀x∈names,x.2=.free->∃c,env.cells.lookup x.1=some c)->(∀n c,(n,c)∈F->P n c) ->
 (∀n c,env.cells.lookup n=some c->P n c)->∀n c,(n,c)∈GM env names F->P n c
 | [],F,_,G,_,n,c,h=>G n c h
 | (m,k)::r,F,W,G,I,n,c,h=>by
   unfold GM at h;split at h
   .rename_i Z;refine RU P r _ (λx J=>W x (Ac _ J)) (λn' c' h'=>?_) I n c h;rcases Am.mp h' with e|h'
    .obtain⟨c0,Y⟩:=W (m,k) Ab (eq_of_beq Z);injection e with e1 e2
     subst e1 e2;rw[Y];exact I _ _ Y
    .exact G n' c' h'
   .exact RU P r F (λx J=>W x (Ac _ J)) G I n c h
theorem RV:∀(names:List (Str×NameKind)) (F:List (Str×Addr)) (x:Str×Addr),x∈F->x∈GM env names F
 | [],_,_,h=>h
 | (m,k)::r,F,x,h=>by
   unfold GM;split
   .exact RV r _ x (Ac _ h)
   .exact RV r _ x h
theorem RW:∀(names:List (Str×NameKind)) (F:List (Str×Addr)) (x:Str),(x,NameKind.free)∈names->∃c,(x,c)∈GM env names F
 | [],_,_,h=>nomatch h
 | (m,k)::r,F,x,h=>by
   unfold GM;rcases Am.mp h with e|h
   .injection e with e1 e2
    subst e1 e2;rw[Ar (by decide)];exact⟨_,RV r _ _ Ab⟩
   .split
    .exact RW r _ x h
    .exact RW r _ x h
theorem dI(G:∀x∈scope.names,x.2=.free->∃c,env.cells.lookup x.1=some c):closureFor scope env=pure (GM env scope.names []):=by
 have go:∀(names:List (Str×NameKind)) (F:List (Str×Addr)),(∀x∈names,x.2=.free->∃c,env.cells.lookup x.1=some c) ->
  (forIn names F λ(x:Str×NameKind) (r:List (Str×Addr))=>(match x with
    | (name,kind)=>if (kind==NameKind.free)=true then do
        let a <- cellOf env name
        pure (ForInStep.yield ((name,a)::r))
     else pure (ForInStep.yield r):Sem (ForInStep (List (Str×Addr)))))=pure (GM env names F):=by
  intro names;induction names with
  | nil=>intro F _;rw[Ey];rfl
  | cons x r ih =>
    intro F G;obtain⟨n,k⟩:=x;rw[Fq];unfold GM;by_cases J:(k==NameKind.free)=true
    .obtain⟨c,e⟩:=G (n,k) Ab (eq_of_beq J);simp only[J,F9];have W:cellOf env n=pure c:=by unfold cellOf;rw[e]
     rw[W,e];simp only[pure_bind,Option.getD_some];exact ih _ λx I=>G x (Ac _ I)
    .simp only[J,Io];exact ih _ λx I=>G x (Ac _ I)
 simp only[closureFor];have:=go scope.names [] G;first
  | exact this
  | (simp only[bind_pure];exact this)
  | (rw[this];rfl)
theorem NJ:∀(names:List (Str×NameKind)) (n:Nat) (F:List (Str×Addr)),cellsFrom n names F=cellsFrom n names []++F
 | [],_,_=>rfl
 | (m,k)::r,n,F=>by
   unfold cellsFrom;split
   .rw[NJ r (n+1) ((m,n)::F),NJ r (n+1) [(m,n)],Ao];rfl
   .exact NJ r n F
theorem RX:∀(names:List (Str×NameKind)) (n:Nat) (F:List (Str×Addr)) (x:Str×Addr),x∈cellsFrom n names F->(x.1,NameKind.cell)∈names\/x∈F
 | [],_,_,_,h=>.inr h
 | (m,k)::r,n,F,x,h=>by
   unfold cellsFrom at h;split at h
   .rename_i G;rcases RX r _ _ x h with q|q
    .exact .inl (Ac _ q)
    .rcases Am.mp q with e|q
     .rw[e,eq_of_beq G];exact .inl Ab
     .exact .inr q
   .rcases RX r _ _ x h with q|q
    .exact .inl (Ac _ q)
    .exact .inr q
theorem PX{F:Type}(x:Str):∀(l r:List (Str×F)),(l++r).lookup x=(l.lookup x).or (r.lookup x)
 | [],r=>by simp
 | (k,v)::l,r=>by
   rw[Gh,Fb,Fb];cases hb:x==k with
   | true=>rfl
   | false=>exact PX x l r
theorem UK{F:Type}:∀{l:List (Str×F)}{c:F},(x,c)∈l->∃G,l.lookup x=some G
 | (k,v)::l,c,h=>by
   rw[Fb];cases hb:x==k with
   | true=>exact⟨v,rfl⟩
   | false =>
     rcases Am.mp h with e|h
     .injection e with e1 e2
      subst e1;rw[Fc]at hb
      cases hb
     .exact UK h
theorem PY(h:(relabel scope env).names.lookup x=some k):∃k0,scope.names.lookup x=some k0/\(k=k0\/(k=.cell/\k0=.free)):=by
 have go:∀names:List (Str×NameKind),(names.map λ(n,k)=>if (k==NameKind.free&&env.scope.kind==.function&&env.kindOf n==some .cell)then(n,NameKind.cell)else(n,k)).lookup x=some k ->
  ∃k0,names.lookup x=some k0/\(k=k0\/(k=.cell/\k0=.free)):=by
  intro names;induction names with
  | nil=>intro h;cases h
  | cons y r ih =>
    obtain⟨n,k1⟩:=y;intro h
    replace h:List.lookup x ((if (k1==NameKind.free&&env.scope.kind==.function&&env.kindOf n==some .cell)=true then(n,NameKind.cell)else(n,k1))::(r.map λ(n,k)=>if (k==NameKind.free&&env.scope.kind==.function&&env.kindOf n==some .cell)then(n,NameKind.cell)else(n,k)))=some k:=h
    by_cases F:(k1==NameKind.free&&env.scope.kind==.function&&env.kindOf n==some .cell)=true
    .rw[Ar F]at h
     rw[Fb]at h⊢
     cases hb:x==n with
     | true =>
       rw[hb]at h
       have e:NameKind.cell=k:=Ap h;simp only[Aw]at F;exact⟨k1,rfl,.inr ⟨e.symm,eq_of_beq F.1.1⟩⟩
     | false=>rw[hb]at h;exact ih h
    .rw[Aq F]at h
     rw[Fb]at h⊢
     cases hb:x==n with
     | true =>
       rw[hb]at h
       have e:k1=k:=Ap h;exact⟨k1,rfl,.inl e.symm⟩
     | false=>rw[hb]at h;exact ih h
 exact go _ h
def UL(scope:Scope)(env:Env)(C:Addr)(cells:List (Str×Addr)):Env :=
 { scope:=relabel scope env,locals:=C,globals:=env.globals,cells:=cells,qual:=env.qual,func:=none,code:=env.code,frame:=env.frame,builtins:=env.builtins }
def IX(X:Cx)(N':List Str)(scope:Scope)(C:Addr)(cells:List (Str×Addr))(s₀:Shared)(H₀:Hp)(ex:List Addr):Cx :=
 { X with N:=N',s₀:=s₀,H₀:=H₀,env:=UL scope X.env C cells,outer:=X.stack,stack:=X.stack,ex:=ex,fn:=λx=>scope.names.lookup x==some .cell,pn:=[],xe:=λ_ _=>False }
def NK(ms:List Nat)(k:Nat)(σ:St):St:=ms.foldl (λσ i=>σ.set i none) σ++List.replicate k none
theorem RY(ms:List Nat):∀σ:St,(ms.foldl (λσ i=>σ.set i none) σ).length=σ.length:=by
 induction ms with
 | nil=>intro σ;rfl
 | cons m ms ih=>intro σ;rw[Fp,ih,Em]
theorem dJ(ms:List Nat):∀(σ:St) (i:Nat) (v:V),(ms.foldl (λσ i=>σ.set i none) σ)[i]?=some (some v)->σ[i]?=some (some v)/\i∉ms:=by
 induction ms with
 | nil=>intro σ i v h;exact⟨h,by simp⟩
 | cons m ms ih =>
   intro σ i v h;rw[Fp]at h
   obtain⟨h1,h2⟩:=ih _ i v h;by_cases e:m=i
   .subst e;rw[Et]at h1
    split at h1
    .split at h1<;>cases h1
    .exact absurd rfl ‹_›
   .rw[Gm e]at h1
    exact⟨h1,by simp only[Am,Kg];exact⟨λz=>e z.symm,h2⟩⟩
structure BH(X:Cx)(N':List Str)(scope:Scope)(ms:List Nat)(k:Nat):Prop where
 kind:scope.kind=.function
 uniq:∀x∈scope.names,scope.names.lookup x.1=some x.2
 free:∀x∈scope.names,x.2=.free->X.env.kindOf x.1=some .cell\/X.env.kindOf x.1=some .free
 len:N'.length=X.N.length+k
 pre:∀i:Nat,i<X.N.length->N'[i]?=X.N[i]?
 vis:∀i:Nat,i<X.N.length->i∉ms->∀x k',N'[i]?=some x->scope.names.lookup x=some k'->k'=.local\/k'=.cell\/k'=.free->k'=.free
section
variable {X:Cx}{pins:List (Addr×Obj)}{σ:St}{H:Hp}{s:Shared}
theorem dM (hQ:Q { scope:=scope,locals:=s.heap.objs.size,globals:=globals,cells:=cellsFrom (s.heap.objs.size+1) scope.names cl,qual:=qual,func:=none,code:=env.code,frame:=env.frame,builtins:=env.builtins }
 { s with heap:=pushCells (s.heap.push { cls:=.type "dict",data:=.dict #[] }) scope.names }) :
 wpAny M A (newFunctionEnv scope globals cl [] qual none .none (some env)) Q E s:=by
 simp only[newFunctionEnv,Jy,F9];refine A8 (wpAny_alloc ?_);refine A8 (wpAny_layCells _ (λname kind cells=>by cases F:kind==NameKind.cell<;>simp[F]) _ _ _ _ ?_);rw[show({ s with heap:=s.heap.push { cls:=.type "dict",data:=.dict #[] } }:Shared).heap.objs.size=s.heap.objs.size+1 from C9 ..];rw[Ey];exact A8 (An (An hQ))
theorem dN(I:AI X pins σ H s)(B:BH X N' scope ms k)(Z:∀b∈ex,EX X pins H b/\b<s.heap.objs.size) :
 AI (IX X N' scope s.heap.objs.size (cellsFrom (s.heap.objs.size+1) scope.names (GM X.env scope.names [])) s H ex) [] (NK ms k σ) H
  { s with heap:=pushCells (s.heap.push { cls:=.type "dict",data:=.dict #[] }) scope.names }:=by
 have aa:∀x∈scope.names,x.2=.free->∃c,X.env.cells.lookup x.1=some c:=λx F Y=>I.ok.has x.1 (B.free x F Y)
 have keep:∀b o,s.heap.get? b=some o->(pushCells (s.heap.push { cls:=.type "dict",data:=.dict #[] }) scope.names).get? b=some o:=λb o e=>Jj _ _ b o (A9 _ e)
 have own:=cellsFrom_ok scope.names (s.heap.push { cls:=.type "dict",data:=.dict #[] }) (s.heap.objs.size+1) [] ⟨λ_ _ hm=>(nomatch hm),List.Pairwise.nil⟩ (by rw[C9];exact Af _);rw[C9]at own
 have al:∀n c,(n,c)∈GM X.env scope.names []->X.env.cells.lookup n=some c:=RU (λn c=>X.env.cells.lookup n=some c) scope.names [] aa (λ_ _ h=>nomatch h) λ_ _ h=>h
 have ah:∀n (c:Addr),X.env.cells.lookup n=some c->@LT.lt Nat instLTNat c s.heap.objs.size:=λn c e=>by obtain⟨v,q⟩:=I.cell n c e;exact q.lt
 have look:∀x c,(cellsFrom (s.heap.objs.size+1) scope.names (GM X.env scope.names [])).lookup x=some c ->
  ((x,c)∈cellsFrom (s.heap.objs.size+1) scope.names []/\s.heap.objs.size+1<=c)\/(X.env.cells.lookup x=some c/\@LT.lt Nat instLTNat c s.heap.objs.size):=λx c e=>by
  rw[NJ,PX]at e
  cases q:(cellsFrom (s.heap.objs.size+1) scope.names []).lookup x with
  | some c' =>
    rw[q]at e
    have e':c'=c:=Ap e;subst e';exact .inl ⟨mem_of_lookup q,(own.empty x c' (mem_of_lookup q)).2⟩
  | none =>
    rw[q]at e
    have e2:=al x c (mem_of_lookup e);exact .inr ⟨e2,ah x c e2⟩
 have J:∀x,scope.names.lookup x=some .cell\/scope.names.lookup x=some .free->∃c,(cellsFrom (s.heap.objs.size+1) scope.names (GM X.env scope.names [])).lookup x=some c:=λx F=>by
  rw[NJ,PX];cases q:(cellsFrom (s.heap.objs.size+1) scope.names []).lookup x with
  | some c'=>exact⟨c',rfl⟩
  | none =>
    rcases F with F|F
    .obtain⟨c,e⟩:=PL (n:=s.heap.objs.size+1) F;rw[q]at e;cases e
    .obtain⟨c,hc⟩:=RW (env:=X.env) scope.names [] x (D4 F);exact UK hc
 have Ir:=I.lt;refine⟨⟨I.ok.mod,B.kind,I.ok.glob,I.ok.blt,Af _,λx y c F hy=>?_,λx F=>?_,λx c hf F=>?_,I.ok.hd,I.ok.frames,.inl rfl,λb hb=>?_,I.bs,B3 I.ok.bsz I.sz,λb o e hb=>?_,λb hb aj=>?_,I.stack,I.stkFree⟩,
  rfl,I.bare,Un.kept keep,⟨λ_=>none,?_,λi x v h1 h2 G=>?_⟩,λx c F=>?_,?_,λx c F=>?_,λp hp=>absurd (show p∈([]:List (Addr×Obj))from hp) (by simp),I.hok.kept keep,?_⟩
 .rcases look x c F with⟨m1,l1⟩|⟨m1,l1⟩
  .rcases look y c hy with⟨m2,l2⟩|⟨m2,l2⟩
   .exact name_of_addr own.apart m1 m2
   .lia
  .rcases look y c hy with⟨m2,l2⟩|⟨m2,l2⟩
   .lia
   .exact I.ok.inj x y c m1 m2
 .have F:(relabel scope X.env).names.lookup x=some .cell\/(relabel scope X.env).names.lookup x=some .free:=F;rcases F with F|F
  .obtain⟨k0,e,z|⟨_,z⟩⟩:=PY F
   .exact J x (.inl (by rw[e,<-z]))
   .exact J x (.inr (by rw[e,z]))
  .obtain⟨k0,e,z|⟨z,_⟩⟩:=PY F
   .exact J x (.inr (by rw[e,<-z]))
   .cases z
 .show s.heap.objs.size<=c;have hf:(scope.names.lookup x==some .cell)=true:=hf;have ai:scope.names.lookup x=some .cell:=eq_of_beq hf;have F:(cellsFrom (s.heap.objs.size+1) scope.names (GM X.env scope.names [])).lookup x=some c:=F;rw[NJ,PX]at F
  obtain⟨c',e⟩:=PL (n:=s.heap.objs.size+1) ai;rw[e]at F
  have z:c'=c:=Ap F;subst z;exact Nat.le_of_succ_le (own.empty x c' (mem_of_lookup e)).2
 .obtain⟨_,ae⟩:=Z b hb;refine⟨Be ae,λx c F z=>?_⟩;subst z;have am:@LT.lt Nat instLTNat c s.heap.objs.size:=ae;rcases look x c F with⟨_,l1⟩|⟨m1,_⟩
  .lia
  .obtain⟨⟨_,_,_,_,f4,_⟩,_⟩:=Z c hb;exact f4 x c m1 rfl
 .obtain⟨⟨_,_,_,f3,_,_⟩,_⟩:=Z b hb;rcases f3 with z|z
  .exact I.ok.noex b o e z
  .have h1:@LT.lt Nat instLTNat b X.base.objs.size:=As e;have h2:=I.ok.bsz;have G:@LE.le Nat instLENat X.s₀.heap.objs.size b:=z
   lia
 .obtain⟨⟨_,f1,f2,_,_,_⟩,_⟩:=Z b hb;rcases Am.mp (I.stkSub b aj)with z|z
  .exact f1 z
  .exact f2 z
 .exact(Heap.Ns.new s.heap (.type "dict")).keeps (Jj _ _)
 .have hi:i<X.N.length:=by
   by_cases hi:i<X.N.length
   .exact hi
   .exfalso;unfold NK at h2;have hl:(ms.foldl (λσ i=>σ.set i none) σ).length=X.N.length:=by rw[RY,I.len]
    rw[Bv (by lia),Fu]at h2
    split at h2<;>cases h2
  have ak:(ms.foldl (λσ i=>σ.set i none) σ)[i]?=some (some v):=by
   unfold NK at h2;have hl:(ms.foldl (λσ i=>σ.set i none) σ).length=X.N.length:=by rw[RY,I.len]
   rw[Bz (by lia)]at h2
   exact h2
  obtain⟨h4,h5⟩:=dJ ms σ i v ak;have ad:N'[i]?=some x:=h1;have af:X.N[i]?=some x:=by rw[<-B.pre i hi];exact ad
  have G:(relabel scope X.env).names.lookup x=some .local\/(relabel scope X.env).names.lookup x=some .cell\/(relabel scope X.env).names.lookup x=some .free:=G;have fr:scope.names.lookup x=some .free:=by
   have go:∀k',(relabel scope X.env).names.lookup x=some k'->k'=.local\/k'=.cell\/k'=.free->scope.names.lookup x=some .free:=λk' e Y=>by
    obtain⟨k0,e0,z|⟨_,z⟩⟩:=PY e
    .have:=B.vis i hi h5 x k0 ad e0 (z ▸ Y);rw[e0,this]
    .rw[e0,z]
   rcases G with G|G|G
   .exact go _ G (.inl rfl)
   .exact go _ G (.inr (.inl rfl))
   .exact go _ G (.inr (.inr rfl))
  have Y:=B.free (x,.free) (D4 fr) rfl;obtain⟨m,hn,hl⟩:=I.loc;obtain⟨u,r,l⟩:=hl i x v af h4 (.inr Y);refine⟨u,r,.inr ⟨?_,?_⟩⟩
  .rcases G with G|G
   .exfalso;obtain⟨k0,e0,z|⟨z,_⟩⟩:=PY G
    .rw[fr]at e0;cases e0;cases z
    .cases z
   .exact G
  .rcases l with⟨W,_⟩|⟨_,c,hc,ac⟩
   .rcases Y with Y|Y
    .rw[Y]at W;cases W
    .rw[Y]at W;cases W
   .refine⟨c,?_,ac.keeps keep⟩;obtain⟨c2,e2⟩:=J x (.inr fr);have ag:(cellsFrom (s.heap.objs.size+1) scope.names (GM X.env scope.names [])).lookup x=some c2:=e2;rcases look x c2 ag with⟨m1,_⟩|⟨m1,_⟩
    .exfalso;rcases RX scope.names _ _ _ m1 with q|q
     .have:=B.uniq _ q;rw[fr]at this
      cases this
     .cases q
    .rw[hc]at m1
     have z:c=c2:=Ap m1;rw[z];exact e2
 .rcases look x c F with⟨m1,_⟩|⟨m1,_⟩
  .exact⟨none,(own.empty x c m1).1⟩
  .obtain⟨v,q⟩:=I.cell x c m1;exact⟨v,q.keeps keep⟩
 .exact I.hok.fresh (Af _)
 .rcases look x c F with⟨_,l1⟩|⟨m1,_⟩
  .exact I.hok.fresh (by lia)
  .exact I.freeC x c m1
 .show(NK ms k σ).length=N'.length;unfold NK;rw[Aa,RY,Ci,I.len,B.len]
end
def dO:TT:=λ_ H Q=>Q true H
def NL(J:It)(g:TG)(tc:TT)(te:TE)(D:Addr)(Q:VK)(Y:St)(H0:Hp):Prop:=∃W:Nat->Nat->St->Hp->Prop,(∃m,W 0 m Y (upd H0 D (.lst []))) /\
 ∀i m G H2,W i m G H2->(J.stop i H2/\Q (.ref D) H2)\/(J.go i H2/\∀x H3,J.yld i H2 x H3->g x G H3 λF H4=>tc F H4 λb H5 =>
  if b=true then te F H5 λv Z=>∃ys,Z D=some (.lst ys)/\ys.length<sizeLine/\∃I,I<m/\W (i+1) I F (upd Z D (.lst (ys++[v])))
  else ∃I,I<m/\W (i+1) I F H5)
def RZ(F:TI)(g:TG)(tc:TT)(te:TE)(ms:List Nat)(k:Nat):TE:=λσ H Q=>F σ H λJ H1=>∀D,H1 D=none->NL J g tc te D Q (NK ms k σ) H1
def OG(X:Cx)(F:List Expr)(t:TT):Prop :=
 ∀(pins:List (Addr×Obj)) (s:Shared) (σ:St) (H:Hp) (Q:Bool->Hp->Prop),AI X pins σ H s->t σ H Q ->
  wpAny (model X.prog X.w) X.A (forIn F true λc r=>if r=true then do let ok <- isTrue c X.env (eval c X.env);pure (ForInStep.yield ok)else pure (ForInStep.yield r)) (TP X pins σ Q) X.xe s
section
variable {X:Cx}
theorem GG:OG X [] dO:=λpins s σ H Q I h=>wpAny_tests_nil ⟨H,I,h⟩
theorem OH(h:PT X c t):OG X [c] t:=λpins s σ H Q I hw=>wpAny_tests_one (h pins s σ H Q I hw)
theorem UM (ac:X.calm=true) (hi:PI X target iter wi) (B:BH X N' scope ms k) (hg:∀C cells s₀ H₀ ex,PG (IX X N' scope C cells s₀ H₀ ex) target g) (hc:∀C cells s₀ H₀ ex,OG (IX X N' scope C cells s₀ H₀ ex) ifs tc) (he:∀C cells s₀ H₀ ex,PE (IX X N' scope C cells s₀ H₀ ex) elt te) (hs:∀x,foldedSetIterable iter X.env x=pure x) (I:AI X pins σ H s) (hw:RZ wi g tc te ms k σ H Qv) (ai:∀(D:Addr) (H':Hp) (s':Shared) (C:Addr) (m:Str->Option Value),AI X pins σ H' s'->s'.heap.Ns C m->H' C=none->C≠X.env.locals->X.s₀.heap.objs.size<=C ->
 (∀x c,X.env.cells.lookup x=some c->c≠C)->(∀p∈X.pn++pins,p.1≠C)->Qv (.ref D) H'->compPost (model X.prog X.w) X.A X.xe use Q (.ref D) C (.ok .next) s') :
 wpAny (model X.prog X.w) X.A (comprehension (.ListComp elt [⟨target,iter,ifs,0⟩] scope pos) scope X.env p (newList []) false (eval iter X.env) use) Q X.xe s:=by
 have al:∀x∈scope.names,x.2=.free->∃c,X.env.cells.lookup x.1=some c:=λx hx hk=>I.ok.has x.1 (B.free x hx hk)
 refine wpAny_comprehension_free (use:=use) rfl hs (dI al) B.kind (λx hx hl=>by rw[B.uniq x hx,hl]) ?_;refine BD (hi pins s σ H _ I hw) λv s1 h1=>BD h1 λaL G h2=>?_
 obtain⟨it,fp,tn,J,H2,rfl,I2,T,av,f2,h2⟩:=h2;refine Cy ?_;have I3:AI X pins σ (upd H2 G.heap.objs.size (.lst [])) { G with heap:=G.heap.push { cls:=.type "list",data:=.seq ([]:List Value).toArray } }:=I2.lnew (t':=G.toks) .nil (B9 _);obtain⟨W,⟨m0,w0⟩,au⟩:=h2 G.heap.objs.size I2.fresh;have Z:∀b∈fp,EX X pins (upd H2 G.heap.objs.size (.lst [])) b/\b<(G.heap.push { cls:=.type "list",data:=.seq ([]:List Value).toArray }).objs.size:=λb hb=>by
  obtain⟨o,e,_⟩:=T.obj _ _ av b hb;have ar:=As e;obtain⟨f0,fr⟩:=f2 b hb;refine⟨⟨by rw[BV (Be ar)];exact f0,fr⟩,?_⟩;rw[C9];exact Eu ar
 generalize aD:({ G with heap:=G.heap.push { cls:=.type "list",data:=.seq ([]:List Value).toArray } }:Shared)=F at I3;have aq:G.heap.push { cls:=.type "list",data:=.seq ([]:List Value).toArray }=F.heap:=by rw[<-aD]
 rw[aq]at Z
 refine dM ?_;have I4:=dN I3 B Z;have ag:tn 0 (pushCells (F.heap.push { cls:=.type "dict",data:=.dict #[] }) scope.names):=T.keep _ _ _ av λb hb o e=>Jj _ _ b o (A9 _ (by rw[<-aq];exact A9 _ e))
 have aC:∀b∈fp,upd H2 G.heap.objs.size (.lst []) b=none:=λb hb=>(Z b hb).1.1
 generalize az:({ F with heap:=pushCells (F.heap.push { cls:=.type "dict",data:=.dict #[] }) scope.names }:Shared)=s4 at I4;have aK:pushCells (F.heap.push { cls:=.type "dict",data:=.dict #[] }) scope.names=s4.heap:=by rw[<-az]
 rw[aK]at ag
 have aa:∀{H':Hp}{ao:List (Addr×Obj)},ao=[]->(∀b∈fp,H' b=none)->∀b∈fp,EX (IX X N' scope F.heap.objs.size (cellsFrom (F.heap.objs.size+1) scope.names (GM X.env scope.names [])) F (upd H2 G.heap.objs.size (.lst [])) fp) ao H' b:=λhp hn b hb=>by
  obtain⟨x1,x2⟩:=I4.ok.exf b hb;exact⟨hn b hb,x1,I4.ok.exfs b hb,.inl hb,x2,λp ap=>by rw[hp]at ap;exact absurd (show p∈([]:List (Addr×Obj))from ap) (by simp)⟩
 have ae:∀ak:Value,ak=.ref it->codeAny (model X.prog X.w) X.A (.compLoop (.ListComp elt [⟨target,iter,ifs,0⟩] scope pos) 0 ak (.ref G.heap.objs.size) (UL scope X.env F.heap.objs.size (cellsFrom (F.heap.objs.size+1) scope.names (GM X.env scope.names []))))
  (compPost (model X.prog X.w) X.A X.xe use Q (.ref G.heap.objs.size) F.heap.objs.size) s4:=by
  rintro ak rfl;refine dH (λn s'=>∃i Y H',AI (IX X N' scope F.heap.objs.size (cellsFrom (F.heap.objs.size+1) scope.names (GM X.env scope.names [])) F (upd H2 G.heap.objs.size (.lst [])) fp) [] Y H' s'/\tn i s'.heap/\(∀b∈fp,H' b=none)/\W i n Y H') ?_ m0 ⟨0,_,_,I4,ag,aC,w0⟩;rintro n s5 ⟨i,ad,H5,I5,an,aw,w5⟩;rcases au i n ad H5 w5 with⟨stop,q⟩|⟨go,step⟩
  .refine BD (T.done (IX X N' scope F.heap.objs.size (cellsFrom (F.heap.objs.size+1) scope.names (GM X.env scope.names [])) F (upd H2 G.heap.objs.size (.lst [])) fp) rfl rfl rfl ac i [] s5 ad H5 (λ_ _=>False) I5 (aa rfl aw) an stop) λr s6 ⟨hr,I6⟩=>?_
   subst hr;have I7:AI X pins σ H5 s6:=I3.call' I6.os I6.base I6.hok I6.bare λb hb=>by
    obtain⟨⟨_,f1,_,f3,f4,f5⟩,_⟩:=Z b hb;exact⟨f3,f1,f4,f5⟩
   obtain⟨m,hn,_⟩:=I6.loc;have l3:=I3.lt;refine ai _ H5 s6 _ m I7 hn I6.free (Cz l3) I3.sz (λx c e z=>?_) (λp hp z=>?_) q
   .obtain⟨v,hv⟩:=I3.cell x c e;have:=hv.lt;rw[z]at this
    exact Df _ this
   .have:=As (I3.pin p hp).1;rw[z]at this
    exact Df _ this
  .refine BD (T.item (IX X N' scope F.heap.objs.size (cellsFrom (F.heap.objs.size+1) scope.names (GM X.env scope.names [])) F (upd H2 G.heap.objs.size (.lst [])) fp) rfl rfl rfl ac i [] s5 ad H5 (λ_ _=>False) I5 (aa rfl aw) an go) λr s6 ⟨u,hr,h6⟩=>?_
   subst hr;refine BD h6 λ_ s7 ⟨x,H7,I7,r7,y7,aj,aG⟩=>?_
   have aI:=I7.pinned (aa rfl aG) (T.obj _ _ aj);refine BD (hg _ _ _ _ _ _ s7 ad H7 x u _ aI r7 (step x H7 y7)) λ_ s8 ⟨am,H8,I8,q8⟩=>?_
   refine BD (hc _ _ _ _ _ _ s8 am H8 _ I8 q8) λb s9 ⟨H9,I9,q9⟩=>?_
   have again:∀{Y:St}{H':Hp}{s':Shared},AI (IX X N' scope F.heap.objs.size (cellsFrom (F.heap.objs.size+1) scope.names (GM X.env scope.names [])) F (upd H2 G.heap.objs.size (.lst [])) fp) ([]++Os fp s7.heap) Y H' s' ->
    (∃m',m'<n/\W (i+1) m' Y H')->∃m,m<n/\∃i af ah,AI (IX X N' scope F.heap.objs.size (cellsFrom (F.heap.objs.size+1) scope.names (GM X.env scope.names [])) F (upd H2 G.heap.objs.size (.lst [])) fp) [] af ah s'/\tn i s'.heap/\(∀b∈fp,ah b=none)/\W i m af ah:=λ{Y H' s'} I' ⟨m',hm,w'⟩=>by
    refine⟨m',hm,i+1,Y,H',I'.unpinned,T.keep _ _ _ aj λb hb o e=>(I'.pin (b,o) (Bk _ (Bk _ (PH hb e)))).1,λb hb=>?_,w'⟩;obtain⟨o,e,d⟩:=T.obj _ _ aj b hb;exact(I'.pin (b,o) (Bk _ (Bk _ (PH hb e)))).2.1
   cases b with
   | false =>
     rw[Aq B1]at q9⊢
     exact again I9 q9
   | true =>
     rw[Ar rfl]at q9⊢
     refine BD (he _ _ _ _ _ _ s9 am H9 _ I9 q9) λy aJ ⟨vy,ax,aA,aF,ys,aE,hz,aH⟩=>?_
     refine BD (JH _ aJ am ax (.ref G.heap.objs.size) [vy] (.ref G.heap.objs.size) [y] (λ_ H'=>H'=upd ax G.heap.objs.size (.lst (ys++[vy]))) aA rfl (.cons aF .nil) ⟨_,ys,vy,rfl,rfl,aE,hz,rfl⟩) λ_ aM ⟨_,aN,ay,_,aB⟩=>?_
     subst aB;exact again ay aH
 have fin:=codeAny_compStart_list (ae _ rfl) (T.self _ 0 s4 _ _ ag (ae _ rfl));exact fin
theorem GV(F:X.calm=true)(hi:PI X target iter wi)(B:BH X N' scope ms k)(G:∀C cells s₀ H₀ ex,PG (IX X N' scope C cells s₀ H₀ ex) target g)(hc:∀C cells s₀ H₀ ex,OG (IX X N' scope C cells s₀ H₀ ex) ifs tc)(he:∀C cells s₀ H₀ ex,PE (IX X N' scope C cells s₀ H₀ ex) elt te)(hs:∀x,foldedSetIterable iter X.env x=pure x:=by intro _;rfl) :
 PE X (.ListComp elt [⟨target,iter,ifs,0⟩] scope pos) (RZ wi g tc te ms k):=by
 intro pins s σ H Q I h;rw[eval_ListComp];refine UM (use:=none) (Qv:=Q) F hi B G hc he hs I h λD H' s' C m W Z f0 J f3 f4 Y q=>?_
 exact⟨m,Z,λh' sb=>⟨.ref D,H',W.turned (t':=s'.toks) (λb o hb e=>(sb.2 b hb).trans e) f0 J (.inr f3) f4 Y,rfl,q⟩⟩
theorem Mi(hN:X.N.Nodup)(hx:X.N[i]?=some x)(hl:Of X.env.scope x)(hcalm:X.calm=true)(hi:PI X target iter wi)(B:BH X N' scope ms k)(hg:∀C cells s₀ H₀ ex,PG (IX X N' scope C cells s₀ H₀ ex) target g)(hc:∀C cells s₀ H₀ ex,OG (IX X N' scope C cells s₀ H₀ ex) ifs tc)(he:∀C cells s₀ H₀ ex,PE (IX X N' scope C cells s₀ H₀ ex) elt te)(hsw:swapsWith (.ListComp elt [⟨target,iter,ifs,0⟩] scope pos) (some (.Name x px)) spos.line X.env=pure true:=by rfl)(hs:∀x,foldedSetIterable iter X.env x=pure x:=by intro _;rfl)(hf:X.fn x=true\/X.env.scope.names.lookup x=some .local:=by first|exact .inl rfl|exact .inr rfl|assumption) :
 PS X (.Assign [.Name x px] (.ListComp elt [⟨target,iter,ifs,0⟩] scope pos) spos) (MB (RZ wi g tc te ms k) (PD i)):=by
 intro pins s σ H D I h;rw[exec_Assign_Name_used _ _ _ _ hsw];refine A8 (Dv (A8 ?_));show wpAny _ X.A (do let _ <- comprehension (.ListComp elt [⟨target,iter,ifs,0⟩] scope pos) scope X.env _ (newList []) false (eval iter X.env) (some (assign (.Name x px) X.env))) _ _ s;refine A8 (C8 (UM (use:=some (assign (.Name x px) X.env)) (Q:=λ_ s'=>∃F H',AI X pins F H' s'/\D.nx F H') hcalm hi B hg hc he hs I h λDa H' s' C m I' hn f0 Z f3 f4 f5 q=>?_)
  (λ_ s' hq=>An (An hq)) λ_ _ e=>e)
 show wpAny _ X.A (assign (.Name x px) X.env (.ref Da)) _ _ s';refine wpAny_assign_Name (TY I' hN hx hl (v:=.ref Da) rfl (λG J ⟨b,sb,hb⟩=>?_) hf);have W:C≠b:=by
  rcases hb with z|z
  .rw[z];exact Z
  .exact λe=>f4 x b z e.symm
 refine⟨m,hn.sameBut sb W,λh' Y=>⟨_,H',J.turned (t':=G.toks) (λb o hb e=>(Y.2 b hb).trans e) f0 Z (.inr f3) f4 f5,q⟩⟩
end
def OI(N:List Str)(lk:Str->Option NameKind)(N':List Str)(scope:Scope)(ms:List Nat)(k:Nat):Bool :=
 scope.kind==.function&&(scope.names.all λx=>scope.names.lookup x.1==some x.2)&&(scope.names.all λx=>!(x.2==.free)||lk x.1==some .cell||lk x.1==some .free) &&
 N'.length==N.length+k&&(N'.take N.length==N) &&
 (List.range N.length).all λi=>ms.contains i||(match N'[i]? with|none=>true|some x=>match scope.names.lookup x with|some .local=>false|some .cell=>false|_=>true)
theorem BH.of(h:OI X.N X.env.kindOf N' scope ms k=true):BH X N' scope ms k:=by
 unfold OI at h;simp only[Aw]at h;obtain⟨⟨⟨⟨⟨h1,h2⟩,Z⟩,Y⟩,J⟩,h6⟩:=h;have e5:N'.take X.N.length=X.N:=eq_of_beq J;refine⟨eq_of_beq h1,λx G=>eq_of_beq (C1.mp h2 x G),λx G F=>?_,eq_of_beq Y,λi hi=>?_,λi hi hm x k' W I F=>?_⟩
 .have q:=C1.mp Z x G;simp only[Bool.or_eq_true]at q;rcases q with(q|q)|q
  .rw[F]at q;cases q
  .exact .inl (eq_of_beq q)
  .exact .inr (eq_of_beq q)
 .have q:(N'.take X.N.length)[i]?=N'[i]?:=Hz hi;rw[e5]at q
  exact q.symm
 .have q:=C1.mp h6 i (Di.mpr hi);rw[Bool.or_eq_true]at q
  rcases q with q|q
  .exact absurd (by simpa using q) hm
  .rw[W]at q
   rcases F with rfl|rfl|rfl
   .simp only[I]at q;cases q
   .simp only[I]at q;cases q
   .rfl
section
variable {K:Frag}{a:Addr}{xs:List V}{g:TG}{tc:TT}{te:TE}{D:Addr}{σ:St}{H:Hp}{Q:VK}
def NM(D:Addr)(n i:Nat)(W:Nat->List V->St->Hp->Prop)(F:St):VK:=λv I=>∃ys,I D=some (.lst ys)/\ys.length<sizeLine/\∃J,J<n-i/\(J=n-(i+1)/\i+1<=n/\∃G,W (i+1) G F (upd I D (.lst (ys++[v]))))
def NN(n i:Nat)(W:Nat->List V->St->Hp->Prop)(F:St)(J:Hp):Prop:=∃I,I<n-i/\(I=n-(i+1)/\i+1<=n/\∃G,W (i+1) G F J)
theorem EN(hi:i<n)(h:H6 D=some (.lst ys))(F:ys.length<=100000)(p:Pv (i+1) (ys++[v]) σ2 (upd H6 D (.lst (ys++[v])))):NM D n i Pv σ2 v H6 :=
 ⟨ys,h,IV F,n-(i+1),by lia,rfl,hi,_,p⟩
theorem MW(hi:i<n)(p:Pv (i+1) ys σ2 H5):NN n i Pv σ2 H5:=⟨n-(i+1),by lia,rfl,hi,_,p⟩
theorem HB(G:Nat->List V->St->Hp->Prop)(h0:G 0 [] σ (upd H D (.lst [])))(hl:∀i ys σ H,i<=xs.length->G i ys σ H->AH K H a xs)
 (hs:∀i x ys σ H,xs[i]?=some x->i<xs.length->G i ys σ H->g x σ H λF W=>tc F W λb J=>if b=true then te F J (NM D xs.length i G F)else NN xs.length i G F J)
 (hd:∀ys σ H,G xs.length ys σ H->Q (.ref D) H) :
 NL (NB K a) g tc te D Q σ H:=by
 refine⟨λi m σ H=>m=xs.length-i/\i<=xs.length/\∃ys,G i ys σ H,⟨xs.length,by simp,B9 _,[],h0⟩,?_⟩;rintro i m σ H ⟨rfl,hi,ys,p⟩;have q:=hl i ys σ H hi p;by_cases I:i<xs.length
 .refine .inr ⟨⟨xs,xs[i],q,by simp[I]⟩,λx H' y=>?_⟩;obtain⟨e,y⟩:=y;subst e;exact hs i x ys σ _ (y xs q) I p
 .have e:i=xs.length:=by lia
  subst e;exact .inl ⟨⟨xs,q,Af _⟩,hd ys σ H p⟩
theorem UN(G:Nat->List V->St->Hp->Prop)(h0:G 0 [] σ (upd H D (.lst [])))(hl:∀i ys σ H,i<=xs.length->G i ys σ H->BP K H a xs)
 (hs:∀i x ys σ H,xs[i]?=some x->i<xs.length->G i ys σ H->g x σ H λF W=>tc F W λb J=>if b=true then te F J (NM D xs.length i G F)else NN xs.length i G F J)
 (hd:∀ys σ H,G xs.length ys σ H->Q (.ref D) H) :
 NL (Rl K a) g tc te D Q σ H:=by
 refine⟨λi m σ H=>m=xs.length-i/\i<=xs.length/\∃ys,G i ys σ H,⟨xs.length,by simp,B9 _,[],h0⟩,?_⟩;rintro i m σ H ⟨rfl,hi,ys,p⟩;have q:=hl i ys σ H hi p;by_cases I:i<xs.length
 .refine .inr ⟨⟨xs,xs[i],q,by simp[I]⟩,λx H' y=>?_⟩;obtain⟨e,y⟩:=y;subst e;exact hs i x ys σ _ (y xs q) I p
 .have e:i=xs.length:=by lia
  subst e;exact .inl ⟨⟨xs,q,Af _⟩,hd ys σ H p⟩
theorem dP{lo:Int}{n:Nat}(G:Nat->List V->St->Hp->Prop)(h0:G 0 [] σ (upd H D (.lst [])))
 (hs:∀i ys σ H,i<n->G i ys σ H->g (.int (lo+i)) σ H λF W=>tc F W λb J=>if b=true then te F J (NM D n i G F)else NN n i G F J)
 (hd:∀ys σ H,G n ys σ H->Q (.ref D) H) :
 NL (Me lo n) g tc te D Q σ H:=by
 refine⟨λi m σ H=>m=n-i/\i<=n/\∃ys,G i ys σ H,⟨n,by simp,B9 _,[],h0⟩,?_⟩;rintro i m σ H ⟨rfl,hi,ys,p⟩;by_cases I:i<n
 .refine .inr ⟨I,λx H' y=>?_⟩;obtain⟨e,y⟩:=y;subst e y;exact hs i ys σ _ I p
 .have e:i=n:=by lia
  subst e;exact .inl ⟨Af _,hd ys σ H p⟩
end
section
variable {X:Cx}
theorem dQ(Z:X.calm=true):HJ X (.builtin "sum") (λxs H Q=>∃p ns,xs=[.ref p]/\AH X.K H p (ns.map V.int)/\Q (.int (List.sum ns)) H):=by
 intro pins s σ H xs us Q I r h;obtain⟨p,ns,rfl,hq,q⟩:=h;obtain⟨u,rfl,Y⟩:=ID r;cases Y;obtain⟨its,rv,pl,hz⟩:=I.list hq;have hi:IntsAre its ns:=RF rv;obtain⟨zs,e⟩:=(hi.allInts).items;have W:numsOf its=ns:=hi.numsOf;refine sum_intListG (I.ok.hd Z) (by rw[<-e];exact pl.isList) λh' tk t' J=>⟨.int (List.sum ns),H,I.kept J,⟨t',?_⟩,q⟩
 have G:its.toArray.toList=(intItems zs).toList:=by rw[e]
 have F:numsOf its=numsOf (intItems zs).toList:=by rw[<-G]
 rw[nums_intItems]at F
 rw[preSum_eq,Ak (by simp),<-W,F]
end
section
variable {X:Cx}(K:Frag) (hK:X.K=K)
include hK
theorem DR:MO X (Ox K):=by subst hK;exact ZN
theorem IY:MO X (MT K):=by subst hK;exact Uu
theorem Le:ND X (Oz K):=by subst hK;exact ZS
theorem dR:ND X (Ow K):=by subst hK;exact ZL
theorem dS:EK X (compareOp .NotIn) (Ux K true):=by subst hK;exact ZU
theorem EZ(F:X.A.units+64<cLine):EK X (compareOp .Eq) (LJ K false):=by subst hK;exact dA F
theorem GH(F:X.A.units+64<cLine):EK X (compareOp .NotEq) (LJ K true):=by subst hK;exact dC F
def S1(K:Frag):List V->Hp->VK->Prop:=λxs H Q=>∃p ys,xs=[.ref p]/\(AH K H p ys\/BP K H p ys)/\Q (.int ys.length) H
theorem EB:HJ X (.builtin "len") (S1 K):=by subst hK;exact ZV
def dU(K:Frag):List V->Hp->VK->Prop:=λxs H Q=>∃p ys,xs=[.ref p]/\(AH K H p ys\/BP K H p ys)/\∀l,H l=none->Q (.ref l) (upd H l (.lst ys))
theorem OJ:HJ X (.type "list") (dU K):=by subst hK;exact ZW
def S2(K:Frag):List V->Hp->VK->Prop:=λxs H Q=>∃p ns,xs=[.ref p]/\AH K H p (ns.map V.int)/\Q (.int (List.sum ns)) H
theorem LL(F:X.calm=true):HJ X (.builtin "sum") (S2 K):=by subst hK;exact dQ F
theorem FJ(F:PE X l tl):PI X tg l (U4 K tl):=by subst hK;exact Z8 F
theorem UO(F:PE X l tl):PI X tg l (Oq K tl):=by subst hK;exact Z9 F
theorem S3(F:Gl X "enumerate")(hm:X.mg "enumerate"=none)(ha:PA X [e] ta)(hs:starEach [e] X.env=(false,eval e X.env)::starEach [] X.env:=by rfl) :
 PI X (.Tuple es k1 tp) (.Call (.Name "enumerate" p) [e] [] pos) (UI K ta):=by subst hK;exact dz F hm ha hs
theorem FO(I:X.calm=true)(h:Ol X es t)(G:(assignEach es X.env).length=n:=by rfl)(F:(assignEach es X.env).findIdx? (·.1)=none:=by rfl) :
 PG X (.Tuple es k pos) (On K n t):=by subst hK;exact Z3 I h G F
theorem DX{o e:Expr}{es:List Expr}{to:TE}{t:TA}{name:Str}{apos cpos:Pos}{T id:String}{r:V->List V->Hp->VK->Prop}(I:PlainAttrs T)(slot:Slot T name id)(F:typeOf (.builtin id)=pure (.type "method_descriptor"))(hm:MS X id r)(G:PE X o to)(J:PA X (e::es) t)
 (hbase:attributeBase o name X.env (eval o X.env)=eval o X.env:=by rfl)
 (hfew:((backTo cpos (starEach (e::es) X.env)).all (λx=>!x.1)&&(backToKw cpos (keywordEach [] X.env)).all (λx=>x.1.isSome)
   && decide ((e::es).length+([]:List Keyword).length+(if ([]:List Keyword).isEmpty then 0 else 1)<30))=true:=by rfl)
 (hline:(apos.endLine==cpos.line)=true:=by rfl) (hs:starEach (e::es) X.env=(false,eval e X.env)::starEach es X.env:=by rfl) (hplain:(backTo cpos (starEach es X.env)).any (·.1)=false:=by rfl) :
 PE X (.Call (.Attribute o name apos) (e::es) [] cpos) (Uz K T r to t):=by subst hK;exact ZY I slot F hm G J hbase hfew hline hs hplain
end
end L2
namespace Mt
open PySem
def has(t o:Int):Bool:=decide (∀k:Nat,k<7->o/2^k%2<=t/2^k%2)
theorem PZ(n k:Nat):((n:Int)/2^k%2)=((n/2^k%2:Nat):Int):=by
 have e:((2:Int)^k)=((2^k:Nat):Int):=by rw[Int.natCast_pow];rfl
 rw[e]
 lia
theorem dW(t o:Nat)(G:o<128):(t &&& o)=o↔∀k:Nat,k<7->o/2^k%2<=t/2^k%2:=by
 constructor
 .intro h k _;have e:(t &&& o).testBit k=o.testBit k:=by rw[h]
  rw[Nat.testBit_and,D0,D0]at e
  by_cases c:o/2^k%2=1
  .by_cases d:t/2^k%2=1
   .lia
   .rw[Ae c,Ai d]at e
    cases e
  .lia
 .intro h;apply Nat.eq_of_testBit_eq;intro k;rw[Nat.testBit_and,D0,D0];by_cases c:o/2^k%2=1
  .by_cases F:k<7
   .have:=h k F;rw[Ae c,Ae (by lia)];rfl
   .have e:o/2^k=0:=by
     apply Nat.div_eq_of_lt;exact Bo G (B3 (show 128<=2^7 by decide) (Nat.pow_le_pow_right (by decide) (by lia)))
    rw[e]at c
    cases c
  .rw[Ai c,Fz]
theorem dX(ht:0<=t)(G:0<=o)(h1:o<128):decide (Builtin.bitAnd t o=o)=has t o:=by
 obtain⟨a,rfl⟩:=Bu ht;obtain⟨b,rfl⟩:=Bu G;rw[PyProof.Rows.bitAnd_pp ht G];unfold has;rw[Dl,Dl];have q:=dW a b (by lia);have e:(∀k:Nat,k<7->(b:Int)/2^k%2<=(a:Int)/2^k%2)↔∀k:Nat,k<7->b/2^k%2<=a/2^k%2:=by
  constructor
  .intro h k F;have:=h k F;rw[PZ,PZ]at this
   lia
  .intro h k F;rw[PZ,PZ];have:=h k F
   lia
 rw[Ca,e,<-q]
 lia
theorem UP(t:Int):has t t=true:=Ae λ_ _=>Ez _
open L2
def IE(cs:List Int)(t:Int):Option Nat:=cs.findIdx? λc=>has c t
def MX:Option Nat->V
 | none=>.non
 | some i=>.int i
theorem UQ(h:cs[i]?=some c)(hc:has c t=true)(hj:∀(j:Nat) c',j<i->cs[j]?=some c'->has c' t=false):IE cs t=some i:=by
 obtain⟨hi,e⟩:=B2.mp h;unfold IE;rw[C7];refine⟨hi,by rw[e];exact hc,λj F=>?_⟩;rw[hj j cs[j] F (A7 (by lia))];exact B1
theorem dY(hj:∀(j:Nat) c',j<cs.length->cs[j]?=some c'->has c' t=false):IE cs t=none:=by
 unfold IE;rw[Fi];intro c G;obtain⟨j,F,e⟩:=Bt G;exact hj j c F (by rw[A7 F,e])
theorem dZ(h:has t o=true):o/1%2<=t/1%2/\o/2%2<=t/2%2/\o/4%2<=t/4%2/\o/8%2<=t/8%2/\o/16%2<=t/16%2/\o/32%2<=t/32%2/\o/64%2<=t/64%2:=by
 have h:∀k:Nat,k<7->o/2^k%2<=t/2^k%2:=Bc h;exact⟨h 0 (by decide),h 1 (by decide),h 2 (by decide),h 3 (by decide),h 4 (by decide),h 5 (by decide),h 6 (by decide)⟩
theorem e8:∀c:Fin 128,(c.val:Int)=(c.val:Int)/1%2+2*((c.val:Int)/2%2)+4*((c.val:Int)/4%2)+8*((c.val:Int)/8%2)+16*((c.val:Int)/16%2)+32*((c.val:Int)/32%2)+64*((c.val:Int)/64%2):=by decide +kernel
theorem UR{c:Int}(h:0<=c/\c<128):c=c/1%2+2*(c/2%2)+4*(c/4%2)+8*(c/8%2)+16*(c/16%2)+32*(c/32%2)+64*(c/64%2):=by
 have q:=e8 ⟨c.toNat,by lia⟩;have e:((c.toNat:Nat):Int)=c:=by lia
 simpa only[e]using q
end Mt
namespace L2
open PySem PySem.Spec PyProof.Rows
section
variable {X:Cx}{k:Nat}{f:Addr}{fd:FuncData}{ps:List Str}{sp:Sp}
theorem Q0:∀{xs:List V}{us:List Value}{j:Nat}{u:Value},AS xs us->us[j]?=some u->∃v,xs[j]?=some v/\AX v u
 | _,_,_,_,.nil,e=>by simp at e
 | _,_,0,_,.cons r _,e=>by simp at e;subst e;exact⟨_,rfl,r⟩
 | _,_,j+1,u,.cons _ t,e=>by
   obtain⟨v,h1,h2⟩:=Q0 (j:=j) (u:=u) t (by simpa using e);exact⟨v,by simpa using h1,h2⟩
end
section
variable {X:Cx}(K:Frag) (hK:X.K=K)
include hK
end
section
variable {X:Cx}(K:Frag) (hK:X.K=K)
include hK
end
end L2
namespace Mt
open PySem L2
def Kz(cs:List Int):Prop:=∀(j k:Nat) c d,j<k->cs[j]?=some c->cs[k]?=some d->has c d=false
end Mt
namespace L2
open PySem PySem.Spec PyProof.Rows
def sg(c:Nat):Str:=⟨#[c]⟩
def NO(x:Str):It:=⟨λi _=>i<x.cps.size,λi H v H'=>H'=H/\∃c,x.cps[i]?=some c/\v=.str (sg c),λi _=>x.cps.size<=i⟩
theorem ef{P:Program}{w:World}{K:Frag}{tg:Expr}{ty:String}(it:Addr)(x:Str)(t:Tok)(F:ty="str_ascii_iterator"\/ty="str_iterator") :
 HU P w K tg (NO x) [it] it (λi h=>h.IsStrIter it ty x t i) where
 mem:=by simp
 obj:=λi h st b hb=>by
  obtain rfl:b=it:=by simpa using hb
  obtain⟨o,e,c,d⟩:=st;exact⟨o,e,λv z=>by rw[d]at z;cases z⟩
 keep:=λi h h' st k=>by
  obtain⟨o,e,r⟩:=st;exact⟨o,k it (by simp) o e,r⟩
 item:=by
  intro X hP hw hK J i pins s σ H E I hf st Y;subst hP hw hK;obtain⟨f0,Z,f2,f3,f4,f5⟩:=hf it (by simp);have W:∀(Q:Option Value->Shared->Prop),(∀v h' tk,SignAt x i v->h'.IsStrIter it ty x t (i+1)->(∀b o,b∉[it]->s.heap.get? b=some o->h'.get? b=some o)->Q (some v) { s with heap:=h',toks:=tk }) ->
   wpAny (model X.prog X.w) X.A (pyNext (.ref it)) Q E s:=by
   intro Q hQ;rcases F with rfl|rfl
   .exact(Walks.strAscii (prog:=X.prog) (w:=X.w) (I.ok.hd J) it x t).item i s Q E Y st hQ
   .exact(Walks.strWide (prog:=X.prog) (w:=X.w) (I.ok.hd J) it x t).item i s Q E Y st hQ
  refine W _ λv h' tk hv G kk=>?_
  obtain⟨c,u,aa,rfl⟩:=hv;have I1:AI X pins σ H { s with heap:=h',toks:=tk }:=I.turned (λb o hb e=>kk b o (by simpa using hb) e) f0 Z f3 f4 f5;obtain⟨o,e,c',d⟩:=id G;exact⟨_,rfl,Oo (s:={ s with heap:=h',toks:=tk }) e c' d (by rcases F with rfl|rfl<;>decide) ⟨.str (sg c),H,I1,⟨u,rfl⟩,⟨rfl,c,aa,rfl⟩,G,λb hb=>(hf b hb).1⟩⟩
 done:=by
  intro X hP hw hK J i pins s σ H E I hf st Y;subst hP hw hK;obtain⟨f0,Z,f2,f3,f4,f5⟩:=hf it (by simp);have hi:x.cps.size<=i:=Y;rcases F with rfl|rfl
  .exact wpAny_pyNext_ascii_end (I.ok.hd J) st (by simpa using hi) λh' eb=>⟨rfl,I.turned (t':=s.toks) (λb o hb e=>eb b o hb e) f0 Z f3 f4 f5⟩
  .exact wpAny_pyNext_wide_end (I.ok.hd J) st (by simpa using hi) λh' eb=>⟨rfl,I.turned (t':=s.toks) (λb o hb e=>eb b o hb e) f0 Z f3 f4 f5⟩
 self:=λA i s Q E st h=>by
  rcases F with rfl|rfl
  .exact wpAny_pyIter_striter_ascii st h
  .exact wpAny_pyIter_striter_wide st h
section
variable {X:Cx}{tg:Expr}
def S4(tl:TE):TI:=λσ H R=>tl σ H λv H1=>∃x,v=.str x/\R (NO x) H1
theorem OK{l:Expr}{tl:TE}(Z:PE X l tl):PI X tg l (S4 tl):=by
 intro pins s σ H R I h;refine BD (Z pins s σ H _ I h) λv F ⟨y,H1,J,Y,W⟩=>?_
 obtain⟨x,rfl,q⟩:=W;obtain⟨t,rfl⟩:=Y;have fin:∀(ty:String) (G:ty="str_ascii_iterator"\/ty="str_iterator"),PF X pins σ tg R (.ref F.heap.objs.size) { F with heap:=F.heap.push { cls:=.type ty,data:=.fields #[.str x t,.int 0 0] } }:=by
  intro ty G;refine⟨F.heap.objs.size,[F.heap.objs.size],_,_,H1,rfl,J.kept (t':=F.toks) λb o e=>A9 _ e,ef _ x t G,⟨_,B4 _ rfl,rfl,rfl⟩,λb hb=>?_,q⟩;obtain rfl:b=F.heap.objs.size:=by simpa using hb
  exact J.fpOk (Af _) (J.hok.fresh (Af _))
 refine wpAny_pyIter_strU ?_;unfold strIterType;split
 .exact fin _ (.inl rfl)
 .exact fin _ (.inr rfl)
end
theorem Q2{x:Str}{g:TG}{tb:TS}{D:DV}{σ:St}{H:Hp}(I:Nat->St->Hp->Prop)(Z:I 0 σ H)
 (hs:∀i c σ H,x.cps[i]?=some c->i<x.cps.size->I i σ H->g (.str (sg c)) σ H λF H2=>tb { D with nx:=I (i+1),ct:=I (i+1),bk:=D.nx } F H2) (hd:∀σ H,I x.cps.size σ H->D.nx σ H) :
 ∃W:Nat->Nat->St->Hp->Prop,(∃m,W 0 m σ H)/\∀i m σ H,W i m σ H ->
  ((NO x).stop i H/\D.nx σ H)\/((NO x).go i H/\∃N:St->Hp->Prop,(∀G H',N G H'->∃Y,Y<m/\W (i+1) Y G H')/\∀v H',(NO x).yld i H v H'->g v σ H' λF H2=>tb { D with nx:=N,ct:=N,bk:=D.nx } F H2):=by
 refine⟨λi m σ H=>m=x.cps.size-i/\i<=x.cps.size/\I i σ H,⟨x.cps.size,by simp,B9 _,Z⟩,?_⟩;rintro i m σ H ⟨rfl,hi,p⟩;by_cases J:i<x.cps.size
 .refine .inr ⟨J,I (i+1),λG H' p'=>⟨x.cps.size-(i+1),by lia,rfl,J,p'⟩,λv H' y=>?_⟩;obtain⟨rfl,c,hc,rfl⟩:=y;exact hs i c σ _ hc J p
 .have e:i=x.cps.size:=by lia
  subst e;exact .inl ⟨Af _,hd σ H p⟩
theorem OL{x:Str}{g:TG}{tc:TT}{te:TE}{D:Addr}{σ:St}{H:Hp}{Q:VK}(G:Nat->List V->St->Hp->Prop)(h0:G 0 [] σ (upd H D (.lst [])))
 (hs:∀i c ys σ H,x.cps[i]?=some c->i<x.cps.size->G i ys σ H->g (.str (sg c)) σ H λF W=>tc F W λb J=>if b=true then te F J (NM D x.cps.size i G F)else NN x.cps.size i G F J)
 (hd:∀ys σ H,G x.cps.size ys σ H->Q (.ref D) H):NL (NO x) g tc te D Q σ H:=by
 refine⟨λi m σ H=>m=x.cps.size-i/\i<=x.cps.size/\∃ys,G i ys σ H,⟨x.cps.size,by simp,B9 _,[],h0⟩,?_⟩;rintro i m σ H ⟨rfl,hi,ys,p⟩;by_cases I:i<x.cps.size
 .refine .inr ⟨I,λv H' y=>?_⟩;obtain⟨rfl,c,Y,rfl⟩:=y;exact hs i c ys σ _ Y I p
 .have e:i=x.cps.size:=by lia
  subst e;exact .inl ⟨Af _,hd ys σ H p⟩
section
variable {X:Cx}
theorem US:ND X (λx lo hi H Q=>∃z,x=.str z/\z.length<=sizeLine/\Q (.str (Txt.slice z lo hi)) H):=by
 intro pins s σ H x v vl vu lo hi J Q I rx hs pl Y h;obtain⟨z,rfl,Z,q⟩:=h;obtain⟨t,rfl⟩:=rx;refine⟨"str",_,F.slot_str_getitem.lookup,Gf _ _ _,?_⟩;have fin:∀(l u:Option (Int×Tok)),s.heap.IsSlice J l u none->l.map (·.1)=lo->u.map (·.1)=hi->wpAny (model X.prog X.w) X.A (getItem (.str z t) (.ref J)) (EP X pins σ Q) X.xe s:=by
  rintro l u h1 rfl rfl;refine wpAny_getItem_str_slice (l:=l) (u:=u) (st:=none) h1 rfl ?_;exact post_val_or_str ⟨B3 (Txt.slice_le z _ _) Z,λt' k=>⟨.str _,H,I.tok _,⟨_,rfl⟩,q⟩⟩
 obtain⟨o,e,c,d⟩:=hs;cases pl with
 | none =>
   cases Y with
   | none=>exact fin none none ⟨o,e,c,d⟩ rfl rfl
   | int j G=>exact fin none (some (j,G)) ⟨o,e,c,d⟩ rfl rfl
 | int i W =>
   cases Y with
   | none=>exact fin (some (i,W)) none ⟨o,e,c,d⟩ rfl rfl
   | int j G=>exact fin (some (i,W)) (some (j,G)) ⟨o,e,c,d⟩ rfl rfl
theorem UT:∀{ys:List Str}{us:List Value},AS (ys.map V.str) us->StrsAre us ys
 | [],_,r=>by cases r;exact .nil
 | y::ys,_,r=>by
   cases r with
   | cons G F =>
     obtain⟨t,rfl⟩:=G;exact .cons y t (UT F)
def UU(K:Frag):V->List V->Hp->VK->Prop:=λx xs H Q=>∃(z:Str) (p:Addr) (ys:List Str),x=.str z/\xs=[.ref p]/\AH K H p (ys.map V.str)/\(ys.map (·.length)).sum+ys.length*z.length<=16777216/\Q (.str (Txt.join z ys)) H
theorem eg:MS X "str.join" (UU X.K):=by
 intro pins s σ H x xs v us Q I G rs h;obtain⟨z,p,ys,rfl,rfl,W,hb,q⟩:=h;obtain⟨t,rfl⟩:=G;obtain⟨u,rfl,F⟩:=ID rs;cases F;obtain⟨its,J,pl,Y⟩:=I.list W;exact join_list pl.isList (by simpa using UT J) hb λt' k=>⟨.str _,H,I.tok _,⟨_,rfl⟩,q⟩
def OM(K:Frag):List V->Hp->VK->Prop:=λxs H Q=>∃(p:Addr) (bs:List Bool),xs=[.ref p]/\AH K H p (bs.map V.bl)/\Q (.bl (bs.all id)) H
theorem eh(hc:X.calm=true):HJ X (.builtin "all") (OM X.K):=by
 intro pins s σ H xs us Q I r h;obtain⟨p,bs,rfl,hq,q⟩:=h;obtain⟨u,rfl,ru⟩:=ID r;cases ru;obtain⟨its,rv,pl,hz⟩:=I.list hq;have hl:its.length=bs.length:=by rw[<-rv.length,A6]
 obtain⟨ol,G,W⟩:=id pl.isList;have aa:p<s.heap.objs.size:=As G;refine call_all_walk (Fy pl.isList ?_);refine⟨s.heap.objs.size,_,_,_,_,_,λi=>bs.getD i false,rfl,Walks.list (A:=X.A.in1) (I.ok.hd hc) s.heap.objs.size p (Be aa) its.toArray,⟨⟨_,B4 _ rfl,rfl,rfl⟩,ol,A9 _ G,W⟩,λi v s' Q' E' hv J=>?_,λh' tk hk=>?_⟩
 .have Z:its[i]?=some v:=by simpa using hv
  obtain⟨y,F,ry⟩:=Q0 rv Z;rw[Ax]at F
  cases e:bs[i]? with
  | none=>rw[e]at F;cases F
  | some b =>
    rw[e]at F
    have Y:V.bl b=y:=Ap F;subst Y;cases ry;have J:Q' (bs.getD i false) s':=J;rw[B5,e]at J
    exact Ck J
 .have e:(List.range its.toArray.size).all (λi=>bs.getD i false)=bs.all id:=by
   rw[B0,hl,E6,C1,C1];constructor
   .intro h b hb;obtain⟨i,hi,e⟩:=Bt hb;have:=h i (Di.mpr hi);rw[B5,A7 hi,e]at this
    exact this
   .intro h i hi;have hi:=Di.mp hi;rw[B5,A7 hi];exact h _ (Dw hi)
  rw[e];exact⟨.bl _,H,I.kept (λb o e=>hk b o (by simp;exact Be (As e)) (A9 _ e)),rfl,q⟩
end
section
variable {X:Cx}(K:Frag) (hK:X.K=K)
include hK
theorem ON(F:X.calm=true):HJ X (.builtin "all") (OM K):=by subst hK;exact eh F
theorem JI:MS X "str.join" (UU K):=by subst hK;exact eg
end
end L2
namespace Cs
open PySem L2
structure CC where
 s:Str
 w:Int
 t:Int
 n:Int
abbrev JJ(r:CC):List V:=[.str r.s,.int r.w,.int r.t,.int r.n]
def HL(H:Hp)(v:V)(r:CC):Prop:=∃a,v=.ref a/\H a=some (.tup (JJ r))
theorem HL.same(h:HL H v r)(s:AF H H'):HL H' v r:=let ⟨a,e,h⟩:=h;⟨a,e,s _ _ h⟩
theorem II(h:Paired (HL H) xs rs)(s:AF H H'):Paired (HL H') xs rs:=Paired.mapP h λ_ _ z=>z.same s
theorem UV(h:Paired (HL H) xs rs)(F:H l=some ys)(G:∀z,ys≠.tup z):Paired (HL (upd H l o)) xs rs :=
 Paired.mapP h λx p ⟨t,e,ht⟩=>⟨t,e,by rw[BV (HI ht F λz=>G _ z.symm)];exact ht⟩
theorem Mj(h:Paired (HL H) xs rs):xs.length=rs.length:=Bh h
theorem FU{G I:Type}{F:G->I->Prop}:∀{xs:List G}{ys:List I}{i:Nat}{x:G},Paired F xs ys->xs[i]?=some x->∃y,ys[i]?=some y/\F x y
 | _,_,_,_,.nil,e=>by simp at e
 | _,_,0,_,.cons r _,e=>by simp at e;subst e;exact⟨_,rfl,r⟩
 | _,_,i+1,x,.cons _ t,e=>by
   obtain⟨p,h1,h2⟩:=FU (i:=i) (x:=x) t (by simpa using e);exact⟨p,by simpa using h1,h2⟩
theorem Ml{I G:Type}{F:I->G->Prop}:∀{xs:List I}{ys:List G}{i:Nat}{y:G},Paired F xs ys->ys[i]?=some y->∃x,xs[i]?=some x/\F x y
 | _,_,_,_,.nil,e=>by simp at e
 | _,_,0,_,.cons r _,e=>by simp at e;subst e;exact⟨_,rfl,r⟩
 | _,_,i+1,x,.cons _ t,e=>by
   obtain⟨p,h1,h2⟩:=Ml (i:=i) (y:=x) t (by simpa using e);exact⟨p,by simpa using h1,h2⟩
def IJ(K:Frag)(H:Hp)(l:Addr)(rs:List CC):Prop:=∃xs,AH K H l xs/\Paired (HL H) xs rs
theorem IJ.same(h:IJ K H l rs)(s:AF H H'):IJ K H' l rs:=let ⟨xs,h1,h2⟩:=h;⟨xs,s.seq h1,II h2 s⟩
def CK(rs:List CC)(x:Str):Option Nat:=rs.findIdx? λr=>decide (r.s=x)
theorem UW(h:rs[i]?=some r)(hx:r.s=x)(hj:∀(j:Nat) r',j<i->rs[j]?=some r'->r'.s≠x):CK rs x=some i:=by
 obtain⟨hi,e⟩:=B2.mp h;unfold CK;rw[C7];refine⟨hi,by rw[e];exact Ae hx,λj F=>?_⟩;have:=hj j rs[j] F (A7 (by lia));rw[Ai this];exact B1
theorem UX(hj:∀(j:Nat) r,j<rs.length->rs[j]?=some r->r.s≠x):CK rs x=none:=by
 unfold CK;rw[Fi];intro r G;obtain⟨j,F,e⟩:=Bt G;exact Ai (hj j r F (by rw[A7 F,e]))
theorem OO(h:CK rs x=some i):i<rs.length:=by
 unfold CK at h;obtain⟨hi,_⟩:=C7.mp h;exact hi
theorem FP:decide (V.str x=V.str y)=decide (x=y):=by
 rw[Ca];exact⟨λh=>V.str.inj h,λh=>by rw[h]⟩
def BR:List Nat:="abcdefghijklmnopqrstuvwxyz.,-'".toList.map Char.toNat
theorem UY:∀c∈BR,PyData.canLay0 (.str (sg c))=true:=by decide +kernel
def KM(rs:List CC)(x:Str):Int:=match CK rs x with
 | some i=>match rs[i]? with
   | some r=>r.w
   | none=>0
 | none=>0
def HC(rs:List CC)(x:Str):Int:=List.sum (x.cps.toList.map λc=>KM rs (sg c))
theorem UZ(h:CK rs x=some k)(F:k<rs.length):KM rs x=rs[k].w:=by
 unfold KM;rw[h];show(match rs[k]? with|some r=>r.w|none=>0)=_;rw[A7 F]
end Cs
namespace L2
open PySem PySem.Spec PyProof.Rows
section
variable {X:Cx}
def LM:V->List V->Hp->VK->Prop:=λx vs H Q=>∃(l:Addr) (ns:List Int) (z:Int),x=.ref l/\vs=[.int z]/\H l=some (.lst (ns.map V.int))/\z∈ns/\Q .non (upd H l (.lst ((ns.erase z).map V.int)))
theorem V0:∀(l:List Int) (n:Nat),(l.eraseIdx n).map V.int=(l.map V.int).eraseIdx n
 | [],_=>rfl
 | _::_,0=>rfl
 | a::l,n+1=>by
   show V.int a::(l.eraseIdx n).map V.int=V.int a::(l.map V.int).eraseIdx n;rw[V0 l n]
def OP(z:Int):Value->Bool
 | .int i _=>i==z
 | _=>false
theorem ei:PM X "list.remove" LM:=by
 intro pins s σ H x vs v us Q I rx rv h;obtain⟨l,ns,z,rfl,rfl,Z,hz,q⟩:=h;cases rx;obtain⟨u,rfl,W⟩:=rv.one;obtain⟨t,rfl⟩:=W;obtain⟨zz,its,n,r,hl,e⟩:=I.lstM Z;rw[A6]at hl
 have at_:∀(m:Nat) (hm:m<its.length),∃t',its[m]=.int (ns[m]'(by lia)) t':=λm hm=>by
  obtain⟨u,hu,W⟩:=r.get (i:=m) (x:=.int (ns[m]'(by lia))) (by rw[Ax,A7 (by lia)];rfl);rw[A7 hm]at hu
  obtain⟨t',rfl⟩:=W;exact⟨t',Ap hu⟩
 have hj:ns.idxOf z<ns.length:=List.idxOf_lt_length_of_mem hz;refine Eh F.slot_list_remove ⟨_,e,rfl⟩ F.entry_list_remove (F.args_list_remove_2 _ _)
  (MeetsSeq.list_remove l its.toArray n (.int z t) (OP z) (λy hy=>?_) (ns.idxOf z) (by rw[B0];lia) ?_ (λm hm Y=>?_) (by rw[B0,<-hl];rw[A6]at zz;exact zz)) ⟨e,?_⟩
 .obtain⟨m,hm,ey⟩:=Bt (show y∈its by simpa using hy);obtain⟨t',G⟩:=at_ m hm;rw[<-ey,G];exact MeetsSeq.EqGives.int _ _ _ _
 .obtain⟨t',G⟩:=at_ (ns.idxOf z) (by lia);show OP z its[ns.idxOf z]=true;rw[G];show(ns[ns.idxOf z]==z)=true;rw[List.getElem_idxOf hj];exact Fc z
 .have J:m<its.length:=by simpa using hm
  obtain⟨t',G⟩:=at_ m J;show OP z its[m]=false;rw[G];show(ns[m]==z)=false;have:=List.not_of_lt_findIdx (p:=(·== z)) (xs:=ns) (i:=m) Y;cases h:(ns[m]==z)with
  | false=>rfl
  | true=>exact absurd h (by simpa using this)
 .have ee:(ns.erase z).map V.int=(ns.map V.int).eraseIdx (ns.idxOf z):=by
   rw[List.erase_eq_eraseIdx_of_idxOf rfl,V0]
  rw[ee]at q
  refine⟨.non,_,I.lset (its':=its.eraseIdx (ns.idxOf z)) Z e ?_ (r.eraseIdx _) ?_,rfl,q⟩
  .show its.toArray.eraseIdxIfInBounds _=(its.eraseIdx _).toArray;rw[Ga]
  .have:=List.length_eraseIdx_le (ns.map V.int) (ns.idxOf z)
   lia
end
end L2
namespace Mt
open PySem L2
theorem ez(ht:0<=t/\t<128)(F:0<=o/\o<128)(h:has t o=true):o<=t:=by
 obtain⟨W,I,Z,G,a4,J,a6⟩:=dZ h;have b:=UR ht;have d:=UR F;clear h ht F;rw[b,d];clear b d;generalize t/1%2=Y at *;generalize t/2%2=t1 at *;generalize t/4%2=t2 at *;generalize t/8%2=t3 at *;generalize t/16%2=t4 at *;generalize t/32%2=t5 at *;generalize t/64%2=t6 at *
 lia
theorem V1:∀{ls:List Int},ls≠[]->∃m∈ls,∀o∈ls,m<=o
 | [],h=>absurd rfl h
 | [a],_=>⟨a,Ab,λo F=>by rw[Aj.mp F];exact Ez _⟩
 | a::b::r,_=>by
   obtain⟨m,hm,G⟩:=V1 (ls:=b::r) (by simp);by_cases h:a<=m
   .exact⟨a,Ab,λo F=>by
     rcases Am.mp F with rfl|F
     .exact Ez _
     .exact Int.le_trans h (G o F)⟩
   .exact⟨m,Ac _ hm,λo F=>by
     rcases Am.mp F with rfl|F
     .lia
     .exact G o F⟩
def under(ls:List Int)(c:Int):List Int:=ls.filter λo=>!decide (o=c)&&has c o
theorem eA(hne:ls≠[])(hb:∀c∈ls,0<=c/\c<128):∃c∈ls,under ls c=[]:=by
 obtain⟨m,hm,G⟩:=V1 hne;refine⟨m,hm,?_⟩;unfold under;rw[G4];intro o F h;rw[Aw]at h
 have h1:=ez (hb m hm) (hb o F) h.2;have h2:=G o F;have e:o=m:=by lia
 rw[Ae e]at h
 exact absurd h.1 (by decide)
theorem eB(h:under ls c=[])(ho:o∈ls)(hn:o≠c):has c o=false:=by
 unfold under at h;rw[G4]at h
 have:=h o ho;rw[Ai hn]at this
 cases q:has c o with
 | false=>rfl
 | true=>rw[q]at this;exact absurd rfl this
theorem eC(h:Kz rs)(J:∀r∈rs,has r c=false):Kz (rs++[c]):=by
 intro j k x y hjk G F;by_cases W:k<rs.length
 .rw[Bz W]at F
  rw[Bz (by lia)]at G
  exact h j k x y hjk G F
 .have I:k=rs.length:=by
   have:=(B2.mp F).1;rw[Aa]at this
   have:k<rs.length+1:=this
   lia
  subst I;rw[Bv (Af _),E9]at F
  have e:c=y:=by simpa using F
  subst e;rw[Bz hjk]at G
  exact J x (Ag G)
theorem eD(h:Kz rs)(hi:rs[i]?=some c):IE rs c=some i:=UQ hi (UP c) λj I G F=>h j i I c G F hi
def DK:Option Int->V
 | none=>.non
 | some i=>.int i
end Mt
namespace L2
open PySem PySem.Spec PyProof.Rows
section
variable {κ:Type} [DecidableEq κ]
def CM(F:List (κ×V))(k:κ):Option V:=(F.find? λG=>decide (G.1=k)).map (·.2)
def DY(F:List (κ×V))(k:κ)(v:V):List (κ×V) :=
 if (F.any λG=>decide (G.1=k))=true then F.map (λG=>if G.1=k then(G.1,v)else G)else F++[(k,v)]
theorem KN{p:κ×V}{r:List (κ×V)}{k:κ}(e:p.1=k):CM (p::r) k=some p.2:=by simp[CM,En,e]
theorem KO{p:κ×V}{r:List (κ×V)}{k:κ}(e:¬p.1=k):CM (p::r) k=CM r k:=by simp[CM,En,e]
theorem Q3(k:κ):∀F:List (κ×V),(F.any λG=>decide (G.1=k))=(CM F k).isSome
 | []=>rfl
 | p::r=>by
   rw[Gj];by_cases e:p.1=k
   .simp only[KN e,Ae e,Bool.true_or,Jy]
   .rw[KO e,Ai e,Bool.false_or];exact Q3 k r
theorem V2(k j:κ)(y:V):∀F:List (κ×V),CM (F.map λG=>if G.1=k then(G.1,y)else G) j=(CM F j).map λx=>if j=k then y else x
 | []=>rfl
 | p::r=>by
   have ih:=V2 k j y r;rw[Bq];by_cases h:p.1=k
   .rw[Ar h];by_cases e:p.1=j
    .rw[KN (p:=(p.1,y)) e,KN e,Gs,Ar (e.symm.trans h)]
    .rw[KO (p:=(p.1,y)) e,KO e,ih]
   .rw[Aq h];by_cases e:p.1=j
    .rw[KN (p:=p) e,KN e,Gs,Aq (λz=>h (e.trans z))]
    .rw[KO (p:=p) e,KO e,ih]
theorem V3(k j:κ)(y:V):∀F:List (κ×V),CM F k=none->CM (F++[(k,y)]) j=if j=k then some y else CM F j
 | [],_=>by
   by_cases e:k=j
   .rw[Ar e.symm];exact KN (p:=(k,y)) e
   .rw[Aq (λz=>e z.symm)];exact KO (p:=(k,y)) e
 | p::r,G=>by
   rw[Gh];have I:¬p.1=k:=λz=>by rw[KN z]at G;cases G
   rw[KO I]at G
   have ih:=V3 k j y r G;by_cases e:p.1=j
   .rw[KN e,KN e,Aq (λz=>I (e.trans z))]
   .rw[KO e,KO e,ih]
theorem S5(F:List (κ×V))(k j:κ)(y:V):CM (DY F k y) j=if j=k then some y else CM F j:=by
 unfold DY;by_cases a:(F.any λI=>decide (I.1=k))=true
 .rw[Ar a,V2];rw[Q3]at a
  by_cases e:j=k
  .obtain⟨x,G⟩:=Cv.mp a;rw[Ar e,e,G,Gs,Ar rfl]
  .rw[Aq e];cases CM F j with
   | none=>rfl
   | some x=>rw[Gs,Aq e]
 .rw[Aq a];refine V3 k j y F ?_;rw[Q3]at a
  cases q:CM F k with
  | none=>rfl
  | some x=>rw[q]at a;exact(a rfl).elim
theorem Q4(F:List (κ×V))(k:κ)(v:V):(DY F k v).length<=F.length+1:=by
 unfold DY;split
 .rw[A6];lia
 .rw[Aa,B8,List.length_nil];lia
theorem ED.isSome_eq(r:ED o u):o.isSome=u.isSome:=by
 cases o with
 | none=>cases u with
   | none=>rfl
   | some _=>exact(show False from r).elim
 | some _=>cases u with
   | none=>exact(show False from r).elim
   | some _=>rfl
theorem KV.val{F:List (κ×V)}{vs:List (κ×Value)}(r:KV F vs)(k:κ):ED (CM F k) (valueAt vs k):=by
 unfold KV at r;induction r with
 | nil=>exact True.intro
 | @cons p q ps qs h t ih =>
   obtain⟨h1,h2⟩:=h;by_cases e:p.1=k
   .have G:q.1=k:=h1.symm.trans e;have b:valueAt (q::qs) k=some q.2:=by simp[valueAt,En,G]
    rw[KN e,b];exact h2
   .have G:¬q.1=k:=λz=>e (h1.trans z)
    have b:valueAt (q::qs) k=valueAt qs k:=by simp[valueAt,En,G]
    rw[KO e,b];exact ih
theorem KV.any{F:List (κ×V)}{vs:List (κ×Value)}(r:KV F vs)(k:κ):(F.any λG=>decide (G.1=k))=vs.any λG=>decide (G.1=k):=by
 unfold KV at r;induction r with
 | nil=>rfl
 | cons h t ih=>rw[Gj,Gj,ih,h.1]
theorem KV.repl(r:KV kvs vs)(k:κ)(G:AX y u) :
 KV (kvs.map λF=>if F.1=k then(F.1,y)else F) (vs.map λF=>if F.1=k then(F.1,u)else F):=by
 unfold KV at r⊢;induction r with
 | nil=>exact .nil
 | @cons p q ps qs h t ih =>
   rw[Bq,Bq];refine .cons ?_ ih;obtain⟨h1,h2⟩:=h;by_cases e:p.1=k
   .rw[Ar e,Ar (h1.symm.trans e)];exact⟨h1,G⟩
   .rw[Aq e,Aq (λz=>e (h1.trans z))];exact⟨h1,h2⟩
theorem KV.put(r:KV kvs vs)(k:κ)(F:AX y u):KV (DY kvs k y) (stored vs k u):=by
 unfold DY stored;rw[r.any k];by_cases e:(vs.any λG=>decide (G.1=k))=true
 .rw[Ar e,Ar e];exact r.repl k F
 .rw[Aq e,Aq e];exact Ce r ⟨rfl,F⟩
theorem KV.length{F:List (κ×V)}{vs:List (κ×Value)}(r:KV F vs):F.length=vs.length:=Bh r
end
theorem Q5(r:AX (kV k) u):(JZ P w).is k u=true:=by
 cases k with
 | inl i=>obtain⟨t,e⟩:=(show ∃t,u=Value.int i t from r);subst e;exact YK P w i t
 | inr x=>obtain⟨t,e⟩:=(show ∃t,u=Value.str x t from r);subst e;exact YL P w x t
theorem V4:∀{ks:List DH}{us:List Value},AS (ks.map kV) us->ItemsAre (JZ P w) ks us
 | [],_,r=>by rw[K7]at r;cases r;exact .nil
 | k::ks,_,r=>by
   rw[Bq]at r
   cases r with
   | cons h t=>exact .cons (Q5 h) (V4 t)
abbrev KT(H:Hp):List (List DH×V)->List (List DH×Addr×Value)->Prop:=Paired λp q=>p.1=q.1/\H q.2.1=some (.tup (p.1.map kV))/\AX p.2 q.2.2
theorem KT.val{H:Hp}{F:List (List DH×V)}{xs:List (List DH×Addr×Value)}(r:KT H F xs)(k:List DH):ED (CM F k) ((atKey xs k).map (·.2)):=by
 induction r with
 | nil=>exact True.intro
 | @cons p q ps qs h t ih =>
   obtain⟨h1,_,h2⟩:=h;by_cases e:p.1=k
   .have G:q.1=k:=h1.symm.trans e;have b:atKey (q::qs) k=some q.2:=by simp[atKey,En,G]
    rw[KN e,b];exact h2
   .have G:¬q.1=k:=λz=>e (h1.trans z)
    have b:atKey (q::qs) k=atKey qs k:=by simp[atKey,En,G]
    rw[KO e,b];exact ih
theorem KT.repl(r:KT H kvs xs)(k:List DH)(G:AX y u) :
 KT H (kvs.map λF=>if F.1=k then(F.1,y)else F) (xs.map (putAt k u)):=by
 induction r with
 | nil=>exact .nil
 | @cons p q ps qs h t ih =>
   rw[Bq,Bq];refine .cons ?_ ih;obtain⟨h1,h2,I⟩:=h;unfold putAt;by_cases e:p.1=k
   .rw[Ar e,Ar (h1.symm.trans e)];exact⟨h1,h2,G⟩
   .rw[Aq e,Aq (λz=>e (h1.trans z))];exact⟨h1,h2,I⟩
theorem KT.put(r:KT H kvs xs)(k:List DH)(hb:H b=some (.tup (k.map kV)))(ry:AX y u) :
 KT H (DY kvs k y) (storedH xs k b u):=by
 have e:(kvs.any λF=>decide (F.1=k))=(atKey xs k).isSome:=by
  rw[Q3,(r.val k).isSome_eq,Hw]
 unfold DY storedH;rw[e];by_cases q:(atKey xs k).isSome=true
 .rw[Ar q,Ar q];exact r.repl k ry
 .rw[Aq q,Aq q];exact Ce r ⟨rfl,hb,ry⟩
theorem KT.keeps(r:KT H kvs xs)(ht:∀b ys,H b=some (.tup ys)->H' b=some (.tup ys)):KT H' kvs xs :=
 Paired.mapP r λ_ _ z=>⟨z.1,ht _ _ z.2.1,z.2.2⟩
section
variable {P:Program}{w:World}{H:Hp}{h:Heap}{a:Addr}
theorem V5(ok:EL P w H h)(e:Rd H a u):GN P w H h a u:=e.ok ok
theorem Q6(ok:EL P w H h)(e:Rd H a (.dK kvs)):kvs.length<=sizeLine/\(a==sysModules)=false/\∃vs,KV kvs vs/\h.DictOf (JZ P w) a vs :=
 show GN P w H h a (.dK kvs)from V5 ok e
theorem eE(ok:EL P w H h)(e:H a=some (.dK kvs)):kvs.length<=sizeLine/\(a==sysModules)=false/\∃vs,KV kvs vs/\h.DictOf (JZ P w) a vs:=Q6 ok (.inl e)
theorem Q7(ok:EL P w H h)(e:H a=some (.tup (ks.map kV))):(tupleKind (JZ P w)).is h ks a:=by
 obtain⟨_,its,r,o,h1,h2,n,F⟩:=(show GN P w H h a (.tup (ks.map kV))from ok a _ e)
 exact⟨o,its.toArray,n,h1,h2,F,by simpa using V4 r⟩
theorem Q8(ok:EL P w H h)(e:Rd H a (.dT kvs)):kvs.length<=sizeLine/\(a==sysModules)=false /\
 ∃xs,KT H kvs xs/\h.DictOfH (tupleKind (JZ P w)) a xs:=by
 obtain⟨z,y,xs,r,o,es,Y,h1,h2,W,J,I⟩:=(show GN P w H h a (.dT kvs)from V5 ok e)
 refine⟨z,y,xs,r,o,es,Y,h1,h2,W,J,λx F=>?_,I⟩;have all:∀{l:List (List DH×V)}{m:List (List DH×Addr×Value)},KT H l m->∀x∈m,(tupleKind (JZ P w)).is h x.1 x.2.1:=by
  intro l m q;induction q with
  | nil=>intro x F;exact nomatch F
  | @cons p q ps qs G t ih =>
    intro x F;rcases Am.mp F with e|F
    .subst e;exact Q7 ok (by rw[<-G.1];exact G.2.1)
    .exact ih x F
 exact all r x F
theorem eF(ok:EL P w H h)(e:H a=some (.dT kvs)):kvs.length<=sizeLine/\(a==sysModules)=false /\
 ∃xs,KT H kvs xs/\h.DictOfH (tupleKind (JZ P w)) a xs:=Q8 ok (.inl e)
end
def FQ(H:Hp)(a:Addr)(y:V)(r:Option V):Prop :=
 (∃F k,Rd H a (.dK F)/\y=kV k/\r=CM F k)\/∃F k b,Rd H a (.dT F)/\y=.ref b/\H b=some (.tup (k.map kV))/\r=CM F k
def IK(H:Hp)(a:Addr)(y v:V)(H':Hp):Prop :=
 (∃F k,H a=some (.dK F)/\y=kV k/\F.length<sizeLine/\H'=upd H a (.dK (DY F k v))) \/
 ∃F k b,H a=some (.dT F)/\y=.ref b/\H b=some (.tup (k.map kV))/\F.length<sizeLine/\H'=upd H a (.dT (DY F k v))
theorem FQ.k{H:Hp}{a:Addr}{F:List (DH×V)}{k:DH}(e:H a=some (.dK F)):FQ H a (kV k) (CM F k):=.inl ⟨F,k,.inl e,rfl,rfl⟩
theorem FQ.t{H:Hp}{a b:Addr}{F:List (List DH×V)}{k:List DH}(e:H a=some (.dT F))(eb:H b=some (.tup (k.map kV))):FQ H a (.ref b) (CM F k):=.inr ⟨F,k,b,.inl e,rfl,eb,rfl⟩
theorem IK.k{H:Hp}{a:Addr}{F:List (DH×V)}{k:DH}{v:V}(e:H a=some (.dK F))(G:F.length<sizeLine):IK H a (kV k) v (upd H a (.dK (DY F k v))):=.inl ⟨F,k,e,rfl,G,rfl⟩
theorem IK.t{H:Hp}{a b:Addr}{F:List (List DH×V)}{k:List DH}{v:V}(e:H a=some (.dT F))(eb:H b=some (.tup (k.map kV)))(hl:F.length<sizeLine) :
 IK H a (.ref b) v (upd H a (.dT (DY F k v))):=.inr ⟨F,k,b,e,rfl,eb,hl,rfl⟩
section
variable {X:Cx}{pins:List (Addr×Obj)}{σ:St}{H:Hp}{s:Shared}{a:Addr}{y v:V}{u r:Value}{o:Option V}{A:Around}{E:Value->Shared->Prop}
theorem AI.big(I:AI X pins σ H s):sysModules<s.heap.objs.size:=by
 have h:mainGlobals<s.heap.objs.size:=(I.mod.glob.keeps I.bk).lt;exact Nat.lt_trans (by decide) h
theorem eG(hu:A.units+1<cLine)(I:AI X pins σ H s)(g:FQ H a y (some v))(ry:AX y u)(h:∀J s',AI X pins σ H s'->AX v J->Q J s') :
 wpAny (model X.prog X.w) A (getItem (.ref a) u) Q E s:=by
 rcases g with⟨Z,k,e,Y,l⟩|⟨Z,k,b,e,Y,eb,l⟩
 .subst Y;obtain⟨z,hd,vs,F,dd⟩:=Q6 I.hok e;obtain⟨J,hw,G⟩:=ED.some_of (v:=v) (o:=valueAt vs k) (by rw[l];exact F.val k);exact wpAny_getItem_of (Q5 ry) dd.mapOf hw (h J _ (I.tok _) G)
 .subst Y;cases (show u=Value.ref b from ry);obtain⟨z,hd,xs,F,dd⟩:=Q8 I.hok e;obtain⟨J,hw,G⟩:=ED.some_of (v:=v) (o:=(atKey xs k).map (·.2)) (by rw[l];exact F.val k);obtain⟨p,hp,W⟩:=B6.mp hw;refine wpAny_getItem_heap (Hm hu) (Q7 I.hok eb) dd hp ?_;rw[W];exact h J _ (I.tok _) G
theorem S6(Z:A.units+1<cLine)(I:AI X pins σ H s)(g:FQ H a y o)(W:AX y u)(h:∀s',AI X pins σ H s'->Q (.bool o.isSome) s') :
 wpAny (model X.prog X.w) A (compareOp .In u (.ref a)) Q E s:=by
 rcases g with⟨J,k,e,G,l⟩|⟨J,k,b,e,G,Y,l⟩
 .subst G;obtain⟨z,hd,vs,F,dd⟩:=Q6 I.hok e;refine wpAny_in_of (Q5 W) hd dd.mapOf ?_;rw[<-(F.val k).isSome_eq,<-l];exact h _ (I.tok _)
 .subst G;cases (show u=Value.ref b from W);obtain⟨z,hd,xs,F,dd⟩:=Q8 I.hok e;refine wpAny_in_heap (Hm Z) (Q7 I.hok Y) hd dd ?_;have q:=(F.val k).isSome_eq;rw[Hw]at q
  rw[<-q,<-l];exact h _ (I.tok _)
theorem V6(I:AI X pins σ H s)(G:Oe (H a))(F:Heap.SameBut a s.heap h')(J:∃q,h'.get? a=some q)(new:GN X.prog X.w (upd H a ob) h' a ob) :
 AI X pins σ (upd H a ob) { s with heap:=h',toks:=t' } :=
 I.write (x:=a) (e:=a) G (.inl rfl) (λb q hb z=>(F.2 b hb).trans z) J new
theorem eI(z:kvs.length<=sizeLine)(hd:(a==sysModules)=false)(F:KV kvs vs)(dd:h'.DictOf (JZ P w) a vs) :
 GN P w H' h' a (.dK kvs):=⟨z,hd,vs,F,dd⟩
theorem eJ(hu:A.units+1<cLine)(I:AI X pins σ H s)(g:IK H a y v H')(ry:AX y u)(rv:AX v r)(h:∀s',AI X pins σ H' s'->Q () s') :
 wpAny (model X.prog X.w) A (setItem (.ref a) u r) Q E s:=by
 rcases g with⟨G,k,e,Z,l,Y⟩|⟨G,k,b,e,Z,eb,l,Y⟩
 .subst Z Y;obtain⟨z,hd,vs,F,dd⟩:=eE I.hok e;have hz:vs.length<=sizeLine:=by rw[<-F.length];exact z
  have hl:(DY G k v).length<=sizeLine:=by have:=Q4 G k v;lia
  refine wpAny_setItem_pairs (hsz:=hz) (Q5 ry) dd λh' J hs=>h _ ?_
  have he:∃q,h'.get? a=some q:=let ⟨q,_,_,W,_⟩:=J;⟨q,W⟩
  exact V6 I (by rw[e];exact True.intro) hs he (eI hl hd (F.put k rv) J)
 .subst Z Y;cases (show u=Value.ref b from ry);obtain⟨z,hd,xs,F,dd⟩:=eF I.hok e;have hz:xs.length<=sizeLine:=by rw[<-Bh F];exact z
  have hl:(DY G k v).length<=sizeLine:=by have:=Q4 G k v;lia
  refine wpAny_setItem_heap (hsz:=hz) (Hm hu) (Q7 I.hok eb) dd λh' J hs=>h _ ?_
  obtain⟨q,es,ep,W,h2,h3,h4,_,h5⟩:=J;refine V6 I (by rw[e];exact True.intro) hs ⟨q,W⟩ ⟨hl,hd,_,(F.put k eb rv).keeps λc ys ec=>?_,q,es,ep,W,h2,h3,h4,h5⟩;rw[BV (HI ec e (λz=>nomatch z))];exact ec
end
def OQ(i:Expr):Prop:=∀G F,subscripted i false G F=operate [G,F] (getItem G F)
theorem eK{prog:Program}{w:World}{A:Around}{E:Value->Shared->Prop}{s:Shared}{env:Env}{value slice:Expr}{pos:Pos}{T id:String}{Q:Value->Shared->Prop}
 (hl:typeLookup (.type T) "__getitem__"=pure (some (.builtin id))) (hs:OQ slice)
 (h:wpAny (model prog w) A (eval value env) (λo J=>wpAny (model prog w) A (eval slice env) (λi F=>F.TypeIs o T/\wpAny (model prog w) A (getItem o i) Q E F) E J) E s) :
 wpAny (model prog w) A (eval (.Subscript value slice pos) env) Q E s:=by
 refine Subscript_ (C8 h (λo J W=>C8 W (λi F G=>?_) λ_ _ x=>x) λ_ _ x=>x);obtain⟨Z,G⟩:=G;unfold subscriptTail;refine A8 ?_;rw[getitemInPython_of_ne Z.not_modules];refine A8 (wpAny_specialOf Z hl ?_);have fin:wpAny (model prog w) A (subscripted slice false o i) (λr I=>wpAny (model prog w) A (letTemporaryGo value o r >>= λ_=>pure r) Q E I) E F:=by
  rw[hs o i];exact wpAny_operating (C8 G (λr I Y=>A8 (wpAny_letTemporaryGo (An Y))) λ_ _ x=>x)
 first
  | exact An (A8 fin)
  | exact A8 (An (A8 fin))
  | exact A8 fin
theorem eM(I:AI X pins σ H s)(g:FQ H a y o):s.TypeIs (.ref a) "dict":=by
 rcases g with⟨F,k,e,_,_⟩|⟨F,k,b,e,_,_,_⟩
 .obtain⟨_,_,vs,_,dd⟩:=Q6 I.hok e;exact dd.typeIs
 .obtain⟨_,_,xs,_,dd⟩:=Q8 I.hok e;exact dd.typeIs
def eN(td ty:TE):TE:=λσ H Q=>td σ H λx H1=>ty σ H1 λy H2=>∃a v,x=.ref a/\FQ H2 a y (some v)/\Q v H2
def S7(ty td:TE):TE:=λσ H Q=>ty σ H λy H1=>td σ H1 λx H2=>∃a o,x=.ref a/\FQ H2 a y o/\Q (.bl o.isSome) H2
def eO(td ty tv:TE):TS:=λD σ H=>tv σ H λv H1=>td σ H1 λx H2=>ty σ H2 λy G=>∃a F,x=.ref a/\IK G a y v F/\D.nx σ F
section
variable {X:Cx}{o i e value:Expr}{pos pos' tpos:Pos}{td ty tv:TE}
theorem V7(hu:X.A.units+1<cLine)(Y:PE X o td)(hi:PE X i ty)(hs:OQ i):PE X (.Subscript o i pos) (eN td ty):=by
 intro pins s σ H Q I h;refine eK PySem.F.slot_dict_getitem.lookup hs (BD (Y pins s σ H _ I h) λu s1 ⟨x,H1,I1,rx,Z⟩=>BD (hi pins s1 σ H1 _ I1 Z) λiv s2 ⟨y,H2,J,W,a,v,ex,g,q2⟩=>?_);subst ex;obtain rfl:u=Value.ref a:=rx;exact⟨eM J g,eG hu J g W λw' s3 I3 G=>⟨v,H2,I3,G,q2⟩⟩
theorem V8(hu:X.A.units+1<cLine)(hi:PE X i ty)(J:PE X o td):PC X .In i o (S7 ty td):=by
 intro pins s σ H Q I h;refine BD (hi pins s σ H _ I h) λiv s1 ⟨y,H1,I1,F,W⟩=>BD (J pins s1 σ H1 _ I1 W) λu s2 ⟨x,H2,G,rx,a,ov,ex,g,Z⟩=>?_
 subst ex;obtain rfl:u=Value.ref a:=rx;exact S6 hu G g F λs3 Y=>⟨.bl ov.isSome,H2,Y,rfl,Z⟩
theorem V9(hu:X.A.units+1<cLine)(Z:PE X o td)(hi:PE X i ty)(hv:PE X value tv)(hs:swapsWith value (some (.Subscript o i pos')) pos.line X.env=pure false) :
 PS X (.Assign [.Subscript o i pos'] value pos) (eO td ty tv):=by
 intro pins s σ H D I h;refine wpAny_Assign_Subscript (BD (hv pins s σ H _ I h) λr s1 ⟨v,H1,I1,rv,q1⟩=>BD (Z pins s1 σ H1 _ I1 q1) λu G ⟨x,H2,W,rx,q2⟩=>BD (hi pins G σ H2 _ W q2) λiv s3 ⟨y,H3,I3,F,a,Y,ex,g,J⟩=>?_) hs;subst ex;obtain rfl:u=Value.ref a:=rx;exact eJ hu I3 g F rv λs4 I4=>⟨σ,Y,I4,J⟩
end
theorem eP(h:Heap)(hb:sysModules<h.objs.size):GN P w H (h.push { cls:=.type "dict",data:=.dict #[] }) h.objs.size (.dK []) :=
 ⟨B9 _,D3.mpr (Ne.symm (Be hb)),[],.nil,Heap.DictOf.new h⟩
theorem eQ(h:Heap)(hb:sysModules<h.objs.size):GN P w H (h.push { cls:=.type "dict",data:=.dict #[] }) h.objs.size (.dT []) :=
 ⟨B9 _,D3.mpr (Ne.symm (Be hb)),[],.nil,_,#[],0,B4 _ rfl,⟨rfl,rfl,rfl⟩,rfl,rfl,F1⟩
def eR:TE:=λ_ H Q=>∀p,H p=none->Q (.ref p) (upd H p (.dK []))
def eS:TE:=λ_ H Q=>∀p,H p=none->Q (.ref p) (upd H p (.dT []))
section
variable {X:Cx}{pos:Pos}
theorem eT:PE X (.Dict [] [] pos) eR:=λpins s σ H Q I h =>
 wpAny_Dict_empty ⟨.ref s.heap.objs.size,_,I.laid (a:=s.heap.objs.size) (o:=.dK []) (t':=s.toks) (λ_ _ q=>A9 _ q) (Af _) (eP s.heap I.big),rfl,h _ (I.hok.fresh (Af _))⟩
theorem eU:PE X (.Dict [] [] pos) eS:=λpins s σ H Q I h =>
 wpAny_Dict_empty ⟨.ref s.heap.objs.size,_,I.laid (a:=s.heap.objs.size) (o:=.dT []) (t':=s.toks) (λ_ _ q=>A9 _ q) (Af _) (eQ s.heap I.big),rfl,h _ (I.hok.fresh (Af _))⟩
end
structure M1(X:Cx)(o:Expr)(m:Str)(apos:Pos)(e:Expr)(cpos:Pos):Prop where
 base:attributeBase o m X.env (eval o X.env)=eval o X.env
 few:((backTo cpos (starEach [e] X.env)).all (λx=>!x.1)&&(backToKw cpos (keywordEach [] X.env)).all (λx=>x.1.isSome)
  && decide (([e]:List Expr).length+([]:List Keyword).length+(if ([]:List Keyword).isEmpty then 0 else 1)<30))=true
 line:(apos.endLine==cpos.line)=true
 trees:backTo cpos (starEach [e] X.env)=[(false,eval e X.env)]
structure M2(X:Cx)(o:Expr)(m:Str)(apos:Pos)(e f:Expr)(cpos:Pos):Prop where
 base:attributeBase o m X.env (eval o X.env)=eval o X.env
 few:((backTo cpos (starEach [e,f] X.env)).all (λx=>!x.1)&&(backToKw cpos (keywordEach [] X.env)).all (λx=>x.1.isSome)
  && decide (([e,f]:List Expr).length+([]:List Keyword).length+(if ([]:List Keyword).isEmpty then 0 else 1)<30))=true
 line:(apos.endLine==cpos.line)=true
 trees:backTo cpos (starEach [e,f] X.env)=[(false,eval e X.env),(false,eval f X.env)]
end L2
namespace Cs
open PySem L2
def Lf(rs:List CC):List (DH×V):=rs.foldl (λF r=>DY F (.inr r.s) (.int r.w)) []
theorem S8(rs:List CC)(r:CC):Lf (rs++[r])=DY (Lf rs) (.inr r.s) (.int r.w):=by
 unfold Lf;rw[List.foldl_append];rfl
theorem Va:∀(n:Nat) (rs:List CC),rs.length=n->(rs.map λr=>r.s).Nodup->∀r∈rs,CM (Lf rs) (.inr r.s)=some (.int r.w)
 | 0,rs,F,_,r,I=>by
   rw[Gn F]at I
   cases I
 | n+1,rs,F,G,r,I=>by
   obtain⟨ys,y,rfl⟩:∃ys y,rs=ys++[y]:=⟨rs.dropLast,rs.getLast (λz=>by rw[z]at F;cases F),(Eo _).symm⟩
   rw[Ah]at G
   have hd:=Dn.mp G;rw[S8,S5];rcases Az.mp I with h|h
   .have J:(Sum.inr r.s:DH)≠Sum.inr y.s:=λz=>by
     have e:r.s=y.s:=Sum.inr.inj z;exact hd.2.2 r.s (Dt h) y.s (by simp) e
    rw[Aq J];exact Va n ys (by rw[Aa]at F;exact Nat.succ.inj F) hd.1 r h
   .rw[Aj.mp h,Ar rfl]
theorem eV(rs:List CC):(Lf rs).length<=rs.length:=by
 have h:∀(n:Nat) (rs:List CC),rs.length=n->(Lf rs).length<=rs.length:=by
  intro n;induction n with
  | zero =>
    intro rs F;rw[Gn F];exact Af _
  | succ n ih =>
    intro rs F;obtain⟨ys,y,rfl⟩:∃ys y,rs=ys++[y]:=⟨rs.dropLast,rs.getLast (λz=>by rw[z]at F;cases F),(Eo _).symm⟩
    have h1:=ih ys (by rw[Aa]at F;exact Nat.succ.inj F);rw[S8,Aa];have h2:=Q4 (Lf ys) (Sum.inr y.s:DH) (V.int y.w);show _<=ys.length+1
    lia
 exact h rs.length rs rfl
def AO(rs:List CC)(ws:List Str):Int:=List.sum (ws.map λx=>HC rs x)
theorem Q9(h:CK rs x=some k):∃r,rs[k]?=some r/\r.s=x:=by
 unfold CK at h;obtain⟨hi,h1,_⟩:=C7.mp h;exact⟨rs[k],A7 hi,Bc h1⟩
theorem eW(F:(rs.map λr=>r.s).Nodup)(h:(CK rs x).isSome=true):CM (Lf rs) (.inr x)=some (.int (KM rs x)):=by
 obtain⟨k,J⟩:=Cv.mp h;obtain⟨r,I,e⟩:=Q9 J;obtain⟨G,W⟩:=B2.mp I;rw[UZ J G,W,<-e];exact Va rs.length rs rfl F r (Ag I)
end Cs
namespace L2
open PySem
theorem S9:bootBuiltins "min"=some (.builtin "min"):=by decide +kernel
open PySem.Spec PyProof.Rows
def Lg(g:Nat->Int)(n:Nat)(m:Int):Prop:=(∃i,i<n/\g i=m)/\∀i,i<n->m<=g i
theorem Lg.one:Lg g 1 (g 0):=⟨⟨0,by lia,rfl⟩,λi hi=>by
 have e:i=0:=by lia
 subst e;exact Ez _⟩
theorem Lg.yes(h:Lg g n m)(F:g n<m):Lg g (n+1) (g n):=⟨⟨n,by lia,rfl⟩,λi hi=>by
 by_cases e:i=n
 .subst e;exact Ez _
 .have:=h.2 i (by lia)
  lia⟩
theorem Lg.no(h:Lg g n m)(F:¬g n<m):Lg g (n+1) m:=⟨by obtain⟨i,hi,e⟩:=h.1;exact⟨i,by lia,e⟩,λi hi=>by
 by_cases e:i=n
 .subst e;lia
 .exact h.2 i (by lia)⟩
def OR(g:Nat->Int)(j:Nat)(F:Array Value):Prop:=(j=0/\F=#[])\/∃m t,F=#[.int m t,.int m t]/\Lg g j m
def MY(g:Nat->Int)(n:Nat)(d v:Value):Prop:=(n=0/\v=d)\/∃m t,v=.int m t/\Lg g n m
def Vb(F:Array Value)(c:Nat):Obj:={ cls:=.type "list",dict:=none,data:=.seq F c,slots:=#[] }
section
variable {P:Program}{w:World}{A:Around}{R:Result->Shared->Prop}{it:Addr}{fp wr:List Addr}{n:Nat}{Pr:Nat->Value->Prop}{St:Nat->Heap->Prop}
theorem eX(W:Walks P w A.in1 it fp wr n Pr St)(g:Nat->Int)(B:Addr)(hB:B∉fp)(d:Value)(s:Shared)(I:Array Value)(c:Nat)(st:St n s.heap)(ho:s.heap.get? B=some (Vb I c))(hh:OR g n I)
 (q:∀v h' tk,MY g n d v->(∀b o,b∉wr->b≠B->s.heap.get? b=some o->h'.get? b=some o)->R (.ok (.ret v)) { s with heap:=h',toks:=tk }) :
 codeAny (model P w) A (.builtin "min.loop" ⟨[.ref it,.none,.ref B],[(("default":Str),d)]⟩) R s:=by
 have aa:B∉wr:=λh=>hB (W.sub _ h)
 refine codeAny_builtin F.entry_min_loop ?_;rw[Around.under_plainId Eg _];refine A8 (m:=seqItems? (.ref B)) (Dz ho rfl ?_);rcases hh with⟨rfl,rfl⟩|⟨m,t,rfl,hl⟩
 .refine A8 (m:=tryCatch (pyNext (.ref it)) _) (G5 (W.done s _ _ st λh' tk J=>?_));refine A8 (m:=rule _) (J8 ?_);exact An (q d h' tk (.inl ⟨rfl,rfl⟩) λb o G _ e=>J b o G e)
 .refine A8 (m:=tryCatch (pyNext (.ref it)) _) (G5 (W.done s _ _ st λh' tk J=>?_));have Y:=J B _ aa ho;refine A8 (m:=updateSeq B (λ_=>#[])) (Jk Y rfl (A8 (F3 (An ?_))));exact q _ _ tk (.inr ⟨m,t,rfl,hl⟩) λb o G Z e=>(Bg _ _ (Ne.symm Z)).trans (J b o G e)
theorem eY(W:Walks P w A.in1 it fp wr n Pr St)(g:Nat->Int)(hg:∀(i:Nat) (v:Value),Pr i v->∃t,v=Value.int (g i) t)(B:Addr)(hB:B∉fp)(d:Value) :
 ∀(k j:Nat) (s:Shared) (ac:Array Value) (c:Nat),n-j=k->j<=n->St j s.heap->s.heap.get? B=some (Vb ac c)->OR g j ac ->
 (∀v h' tk,MY g n d v->(∀b o,b∉wr->b≠B->s.heap.get? b=some o->h'.get? b=some o)->R (.ok (.ret v)) { s with heap:=h',toks:=tk }) ->
 codeAny (model P w) A (.builtin "min.loop" ⟨[.ref it,.none,.ref B],[(("default":Str),d)]⟩) R s:=by
 have ai:B∉wr:=λh=>hB (W.sub _ h)
 have ah:(toString "min"++toString ".loop":String)="min.loop":=by decide
 intro k;induction k with
 | zero =>
   intro j s ac c hk hj st ho hh q;have e:j=n:=by lia
   subst e;exact eX W g B hB d s ac c st ho hh q
 | succ k ih =>
   intro j s ac c hk hj st ho hh q;have ae:j<n:=by lia
   refine codeAny_builtin F.entry_min_loop ?_;rw[Around.under_plainId Eg _];refine A8 (m:=seqItems? (.ref B)) (Dz ho rfl ?_);rcases hh with⟨rfl,rfl⟩|⟨m,t,rfl,hl⟩
   .refine A8 (m:=tryCatch (pyNext (.ref it)) _) (G5 (W.item 0 s _ _ ae st λv h' tk hP af Y=>?_));have J:=Y B _ ai ho;obtain⟨t,rfl⟩:=hg 0 v hP;refine A8 (m:=updateSeq B (λ_=>#[.int (g 0) t,.int (g 0) t])) (Jk J rfl ?_);rw[ah];refine An ⟨Ia Eg _,ih 1 _ _ _ (by lia) ae (W.frame _ _ _ af λb ag o e=>?_) (Cj _ J rfl) (.inr ⟨g 0,t,rfl,.one⟩) λv h2 ad aa Z=>?_⟩
    .exact(Bg _ _ (λh:B=b=>hB (h ▸ ag))).trans e
    .exact q v h2 ad aa λb o G I e=>Z b o G I ((Bg _ _ (Ne.symm I)).trans (Y b o G e))
   .refine A8 (m:=tryCatch (pyNext (.ref it)) _) (G5 (W.item j s _ _ ae st λv h' tk hP af Y=>?_));have J:=Y B _ ai ho;obtain⟨t2,rfl⟩:=hg j v hP;have aj:∀(s1:Shared) (Q:Value->Shared->Prop) (E:Value->Shared->Prop),Q (.bool (decide (g j<m))) s1->wpAny (model P w) A.in1 (richCompare .Lt (.int (g j) t2) (.int m t)) Q E s1:=λs1 Q E h =>
     richCompare_gives (op:=.Lt) (Jd s1 _ t2) (Jd s1 _ t) F.slot_int_lt F.entry_int_lt (F.args_int_lt_2 _ _) (gives_int_lt _ _ t2 t) (λx=>nomatch x) h
    refine A8 (m:=tryCatch (holding [_,_] (richCompare .Lt (.int (g j) t2) (.int m t) >>= _)) _) (G5 (Cu (A8 (aj _ _ _ ?_))));refine A8 (Cu (Ck ?_));refine A8 (F3 (An ?_));by_cases hb:g j<m
    .rw[Ae hb];simp only[F9];refine A8 (m:=updateSeq B (λ_=>#[.int (g j) t2,.int (g j) t2])) (Jk J rfl (A8 (F3 ?_)));rw[ah];refine An ⟨Ia Eg _,ih (j+1) _ _ _ (by lia) ae (W.frame _ _ _ af λb ag o e=>?_) (Cj _ J rfl) (.inr ⟨g j,t2,rfl,hl.yes hb⟩) λv h2 ad aa Z=>?_⟩
     .exact(Bg _ _ (λh:B=b=>hB (h ▸ ag))).trans e
     .exact q v h2 ad aa λb o G I e=>Z b o G I ((Bg _ _ (Ne.symm I)).trans (Y b o G e))
    .rw[Ai hb];simp only[Hn,Io];refine A8 (F3 ?_);rw[ah];refine An ⟨Ia Eg _,ih (j+1) _ _ _ (by lia) ae af J (.inr ⟨m,t,rfl,hl.no hb⟩) λv h2 ad aa Z=>?_⟩;exact q v h2 ad aa λb o G I e=>Z b o G I (Y b o G e)
end
section
variable {P:Program}{w:World}{A:Around}{E:Value->Shared->Prop}{s:Shared}
theorem eZ(a d:Value):argsOk "min" ⟨[a],[(("default":Str),d)]⟩:=by unfold argsOk;kernel_rfl
theorem fb{id:String}{f:Builtin}{xs:List Value}{G:List (Str×Value)}{Q:Value->Shared->Prop}(k1:builtinKind id=none)(k2:plainId id=true)(k3:entryFor table id=some f)(I:argsOk id ⟨xs,G⟩)
 (k5:wpAny (model P w) A.in1 (f ⟨xs,G⟩) (λz F=>match z with
   | .done y=>(match (Except.ok y:Result)with|.ok (.ret v)=>Q v F|.ok _=>False|.error e=>E e F)
   | .again y=>y.quiet=true/\codeAny (model P w) A y (λr F=>match r with|.ok (.ret v)=>Q v F|.ok _=>False|.error e=>E e F) F) E s) :
 wpAny (model P w) A (call (.builtin id) xs G) Q E s:=by
 refine Ew (F4 k2 k3 ?_);simp only[checkBuiltinCall,k1];cases e:Manifest.signature? id with
 | none=>exact An k5
 | some sg =>
   have J:Bind.checkArgs id sg ⟨xs,G⟩=pure ():=by simpa only[argsOk,e]using I
   simp only[J];exact An k5
theorem fc(hh:A.handled=none)(I:s.heap.IsList l its)(hg:∀(i:Nat) (v:Value),its[i]?=some v->∃t,v=Value.int (g i) t)(q:∀v h' tk,MY g its.size d v->(∀b o,s.heap.get? b=some o->h'.get? b=some o)->Q v { s with heap:=h',toks:=tk }) :
 wpAny (model P w) A (call (.builtin "min") [.ref l] [(("default":Str),d)]) Q E s:=by
 have J:(toString "min"++toString ".loop":String)="min.loop":=by decide
 have G:l<s.heap.objs.size:=by obtain⟨_,e,_⟩:=I;exact As e
 refine fb F.kind_min F.plain_min F.entry_min (eZ _ _) ?_;refine A8 (m:=Builtin.Builtins.bindParams "min" ["key","default"] 0 ⟨[],[(("default":Str),d)]⟩) (wpAny_of_eq (show Builtin.Builtins.bindParams "min" ["key","default"] 0 ⟨[],[(("default":Str),d)]⟩=pure [none,some d]from rfl) ?_);refine A8 (An ?_);refine A8 (m:=pyIter (.ref l)) (Fy I ?_);refine A8 (Cy ?_);rw[J];have hsz:(s.heap.push { cls:=.type "list_iterator",data:=.fields #[.ref l,.int 0 0] }).objs.size=s.heap.objs.size+1:=C9 ..;have W:=Walks.list (prog:=P) (w:=w) (A:=A.in1) hh s.heap.objs.size l (Be G) its;refine An ⟨Ia Eg _,eY W g hg _ ?_ d its.size 0 _ #[] 0 rfl (B9 _) ?_ (B4 _ rfl) (.inl ⟨rfl,rfl⟩) λv h' tk ht Z=>?_⟩
 .rw[hsz];intro hm;rcases Am.mp hm with e|hm
  .exact Iq _ e
  .rcases Am.mp hm with e|hm
   .exact absurd G (Nat.not_lt_of_le (B3 (D6 _) (E7 e)))
   .cases hm
 .exact⟨⟨_,A9 _ (B4 _ rfl),rfl,rfl⟩,(I.push _).push _⟩
 .refine q v h' tk ht λb o e=>Z b o ?_ ?_ (A9 _ (A9 _ e))
  .intro hm;rcases Am.mp hm with Y|hm
   .exact absurd (Y ▸ As e) (Df _)
   .cases hm
  .rw[hsz];exact Be (Eu (As e))
end
def NP:List Int->Option Int
 | []=>none
 | x::r=>some (r.foldl (λa b=>if b<a then b else a) x)
theorem Vc:∀(r:List Int) (x:Int),(r.foldl (λa b=>if b<a then b else a) x=x\/r.foldl (λa b=>if b<a then b else a) x∈r)/\r.foldl (λa b=>if b<a then b else a) x<=x/\∀y∈r,r.foldl (λa b=>if b<a then b else a) x<=y
 | [],x=>⟨.inl rfl,Ez _,λ_ h=>nomatch h⟩
 | z::r,x=>by
   obtain⟨h1,h2,I⟩:=Vc r (if z<x then z else x);rw[Fp];have F:(if z<x then z else x)=x\/(if z<x then z else x)=z:=by split<;>simp
   refine⟨?_,by lia,λy G=>?_⟩
   .rcases h1 with h1|h1
    .rcases F with e|e
     .exact .inl (h1.trans e)
     .exact .inr (by rw[h1,e];exact Ab)
    .exact .inr (Ac _ h1)
   .rcases Am.mp G with rfl|G
    .lia
    .exact I y G
theorem FV:NP xs=some m↔m∈xs/\∀y∈xs,m<=y:=by
 cases xs with
 | nil=>exact⟨λh=>(by cases h),λh=>absurd h.1 Bf⟩
 | cons x r =>
   obtain⟨h1,h2,W⟩:=Vc r x;have F:r.foldl (λa b=>if b<a then b else a) x∈x::r:=by
    rcases h1 with e|e
    .rw[e];exact Ab
    .exact Ac _ e
   have G:∀y∈x::r,r.foldl (λa b=>if b<a then b else a) x<=y:=λy I=>by
    rcases Am.mp I with rfl|I
    .exact h2
    .exact W y I
   constructor
   .intro h;cases h;exact⟨F,G⟩
   .intro ⟨J,Y⟩;have Z:=Y _ F;have a2:=G _ J;show some _=some m;rw[show r.foldl (λa b=>if b<a then b else a) x=m by lia]
section
variable {X:Cx}
def Sa(K:Frag):V->Hp->VK->Prop:=λv H Q=>∃a ns,v=.ref a/\AH K H a (ns.map V.int)/\Q (Mt.DK (NP ns)) H
theorem fe:bootBuiltins "min"=some (.builtin "min"):=by decide +kernel
theorem ff:bootBuiltins "max"=some (.builtin "max"):=by decide +kernel
theorem fg(hc:X.calm=true)(hg:Gl X "min")(hm:X.mg "min"=none)(he:PE X e te)(h1:backTo pos (starEach [e] X.env)=(false,eval e X.env)::backTo pos (starEach [] X.env):=by rfl)(h2:(backTo pos (starEach [e] X.env)).any (·.1)=false:=by rfl)(h3:starEach [e] X.env=(false,eval e X.env)::starEach [] X.env:=by rfl) :
 PE X (.Call (.Name "min" p) [e] [⟨some "default",.Constant .none p0 p2,kpos⟩] pos) (λσ H Q=>te σ H λv H1=>Sa X.K v H1 Q):=by
 intro pins s σ H Q I h;refine C3 (L4 I hg hm fe ?_ (by decide) (by decide));refine callWith_kw (BD ((AC he AG h3) pos pins s σ H (λvs H1=>match vs with|[v]=>Sa X.K v H1 Q|_=>False) I h) λus s1 ⟨vs,H1,I1,r1,F⟩=>?_) h1 h2;match vs,r1,F with
 | [],_,F=>exact F.elim
 | _::_::_,_,F=>exact F.elim
 | [v],r1,F =>
 obtain⟨u,rfl,ru⟩:=ID r1;refine BD ((Zz Lu Zy) pos pins s1 σ H1 (λzs H2=>zs=[.non]/\H2=H1) I1 ⟨rfl,rfl⟩) λws s2 ⟨zs,H2,J,rz,e1,e2⟩=>?_
 subst e1 e2;obtain⟨w',rfl,Z⟩:=ID rz;cases Z;obtain⟨a,ns,rfl,hq,q⟩:=F;cases ru;obtain⟨its,rv,pl,hz⟩:=J.list hq;have hi:IntsAre its ns:=RF rv;have W:=hi.length;have at_:∀(i:Nat) (v:Value),its.toArray[i]?=some v->∃t,v=Value.int (ns.getD i 0) t:=λi v e=>by
  rw[List.getElem?_toArray]at e
  obtain⟨x,h4,h5⟩:=Q0 rv e;obtain⟨z,rfl,h6⟩:=LI h4;rw[B5,h6];exact h5
 refine fc (g:=λi=>ns.getD i 0) (d:=.none) (J.ok.hd hc) pl.isList at_ λv h' tk ht hk=>?_
 rw[B0,W]at ht
 have val:∃v',AX v' v/\v'=Mt.DK (NP ns):=by
  rcases ht with⟨e,rfl⟩|⟨m,t,rfl,⟨i,G,e⟩,hl⟩
  .have:ns=[]:=Do.mp e;subst this;exact⟨.non,rfl,rfl⟩
  .refine⟨.int m,⟨t,rfl⟩,?_⟩;have:NP ns=some m:=FV.mpr ⟨?_,λy hy=>?_⟩
   .rw[this];rfl
   .have e:ns.getD i 0=m:=e;rw[<-e,B5,A7 G];exact Dw G
   .obtain⟨j,hj,rfl⟩:=Bt hy;have this:m<=ns.getD j 0:=hl j hj;rw[B5,A7 hj]at this
    exact this
 obtain⟨v',Y,rfl⟩:=val;exact⟨_,H2,J.kept hk,Y,q⟩
def OT:List Int->Option Int
 | []=>none
 | x::r=>some (r.foldl (λa b=>if b > a then b else a) x)
theorem Vd:∀(r:List Int) (x:Int),(r.foldl (λa b=>if b > a then b else a) x=x\/r.foldl (λa b=>if b > a then b else a) x∈r)/\x<=r.foldl (λa b=>if b > a then b else a) x/\∀y∈r,y<=r.foldl (λa b=>if b > a then b else a) x
 | [],x=>⟨.inl rfl,Ez _,λ_ h=>nomatch h⟩
 | z::r,x=>by
   obtain⟨h1,h2,I⟩:=Vd r (if z > x then z else x);rw[Fp];have F:(if z > x then z else x)=x\/(if z > x then z else x)=z:=by split<;>simp
   refine⟨?_,by lia,λy G=>?_⟩
   .rcases h1 with h1|h1
    .rcases F with e|e
     .exact .inl (h1.trans e)
     .exact .inr (by rw[h1,e];exact Ab)
    .exact .inr (Ac _ h1)
   .rcases Am.mp G with rfl|G
    .lia
    .exact I y G
theorem FW:OT xs=some m↔m∈xs/\∀y∈xs,y<=m:=by
 cases xs with
 | nil=>exact⟨λh=>(by cases h),λh=>absurd h.1 Bf⟩
 | cons x r =>
   obtain⟨h1,h2,W⟩:=Vd r x;have F:r.foldl (λa b=>if b > a then b else a) x∈x::r:=by
    rcases h1 with e|e
    .rw[e];exact Ab
    .exact Ac _ e
   have G:∀y∈x::r,y<=r.foldl (λa b=>if b > a then b else a) x:=λy I=>by
    rcases Am.mp I with rfl|I
    .exact h2
    .exact W y I
   constructor
   .intro h;cases h;exact⟨F,G⟩
   .intro ⟨J,Y⟩;have Z:=Y _ F;have a2:=G _ J;show some _=some m;rw[show r.foldl (λa b=>if b > a then b else a) x=m by lia]
theorem fh(hc:X.calm=true):HJ X (.builtin "max") (λxs H Q=>∃p ns m,xs=[.ref p]/\AH X.K H p (ns.map V.int)/\OT ns=some m/\Q (.int m) H):=by
 intro pins s σ H xs us Q I r h;obtain⟨p,ns,m,rfl,hq,Y,q⟩:=h;obtain⟨u,rfl,ru⟩:=ID r;cases ru;obtain⟨its,rv,pl,hz⟩:=I.list hq;have hi:IntsAre its ns:=RF rv;obtain⟨xs,e⟩:=hi.allInts.items;have F:ns=xs.toList.map (·.1):=by rw[<-hi.numsOf,<-nums_intItems,<-e]
 obtain⟨hm,G⟩:=FW.mp Y;have hsz:0<xs.size:=by
  have Z:0<ns.length:=G6 hm;rw[F,A6,Au]at Z
  exact Z
 have W:=pl.isList;rw[e]at W
 refine max_intList (I.ok.hd hc) W hsz λv h' tk hv hk=>?_
 obtain⟨t,rfl⟩:=intItems_at hv;obtain⟨g1,g2⟩:=argBest_gt (numAt xs) (xs.size-1);have e3:numAt xs (argBest (λi j=>decide (numAt xs i > numAt xs j)) (xs.size-1))=m:=by
  have a1:numAt xs (argBest (λi j=>decide (numAt xs i > numAt xs j)) (xs.size-1))∈ns:=by
   rw[F,numAt_eq];exact getD_mem (by rw[A6,Au];lia)
  have a2:=G _ a1;have J:=hm;rw[F]at J
  obtain⟨j,hj,ej⟩:=mem_getD J;rw[A6,Au]at hj
  have a3:=g2 j (by lia);rw[numAt_eq,ej]at a3
  lia
 rw[e3];exact⟨.int m,H,I.kept hk,⟨t,rfl⟩,q⟩
end
section
variable {X:Cx}(K:Frag) (hK:X.K=K)
include hK
theorem fj(G:X.calm=true)(F:Gl X "min")(hm:X.mg "min"=none)(I:PE X e te)(h1:backTo pos (starEach [e] X.env)=(false,eval e X.env)::backTo pos (starEach [] X.env):=by rfl)(h2:(backTo pos (starEach [e] X.env)).any (·.1)=false:=by rfl)(h3:starEach [e] X.env=(false,eval e X.env)::starEach [] X.env:=by rfl) :
 PE X (.Call (.Name "min" p) [e] [⟨some "default",.Constant .none p0 p2,kpos⟩] pos) (λσ H Q=>te σ H λv H1=>Sa K v H1 Q):=by subst hK;exact fg G F hm I h1 h2 h3
theorem fk(F:X.calm=true):HJ X (.builtin "max") (λxs H Q=>∃p ns m,xs=[.ref p]/\AH K H p (ns.map V.int)/\OT ns=some m/\Q (.int m) H):=by subst hK;exact fh F
end
section
variable {X:Cx}{a b:Expr}{rest:List Expr}{pos:Pos}{ta tb:TE}(K:Frag) (hK:X.K=K)
include hK
end
theorem Sb{ws:List Str}{i:Nat}{y:V}(h:(ws.map V.str)[i]?=some y):∃x,y=.str x/\ws[i]?=some x:=by
 rw[Ax]at h
 cases e:ws[i]? with
 | none=>rw[e]at h;cases h
 | some z=>rw[e]at h;exact⟨z,(Ap h).symm,rfl⟩
theorem Ve{F:Type}(f:F->V)(xs:List F)(a b:Nat)(h:b<=xs.length):DN (xs.map f) (some (a:Int)) (some (b:Int))=((xs.take b).drop a).map f:=by
 unfold DN;rw[HT.MN,HT.MN,A6,Dq h,<-Ib,<-Fm,List.drop_take];by_cases G:a<=xs.length
 .rw[Dq G]
 .rw[Gg (by lia),Cm (Af _),Cm (show xs.length<=a by lia)];simp
end L2
namespace Ln
open PySem L2
def misfit(sp m lo hi:Int):Int:=if m*hi<sp then sp-m*hi else if 0<sp-m*lo then 0 else sp-m*lo
def FA(sp m lo ideal hi:Int)(last:Bool):Option Int:=if last=true/\0<=sp-m*ideal then some 0 else if misfit sp m lo hi=0 then some ((sp-m*ideal)*(sp-m*ideal))else none
theorem fm(h1:last=true)(h2:0<=sp-m*ideal):FA sp m lo ideal hi last=some 0:=Ar ⟨h1,h2⟩
theorem Vf(h:m*lo<=m*hi):misfit sp m lo hi=0↔m*lo<=sp/\sp<=m*hi:=by
 unfold misfit;generalize m*lo=a at h⊢;generalize m*hi=b at h⊢;split
 .constructor<;>intro<;>lia
 .split<;>constructor<;>intro<;>lia
theorem fo(h:¬(last=true/\0<=sp-m*ideal))(h2:misfit sp m lo hi=0):FA sp m lo ideal hi last=some ((sp-m*ideal)*(sp-m*ideal)):=by
 unfold FA;rw[Aq h,Ar h2]
theorem fq(h:¬(last=true/\0<=sp-m*ideal))(h2:¬misfit sp m lo hi=0):FA sp m lo ideal hi last=none:=by
 unfold FA;rw[Aq h,Aq h2]
theorem fu{m a:Int}(hm:0<=m)(G:m<=1000)(I:0<=a)(F:a<=1000):0<=m*a/\m*a<=1000000:=by
 refine⟨F5 hm I,?_⟩;have h1:m*a<=m*1000:=Dj F hm
 lia
def Vg(zs:List Int)(ms lo ideal hi:Int)(last:Bool):Option Int:=FA (ms-List.sum zs) ((zs.length:Int)-1) lo ideal hi last
theorem Qa:∀{zs:List Int}{B:Int},0<=B->(∀z∈zs,0<=z/\z<=B)->0<=List.sum zs/\List.sum zs<=zs.length*B
 | [],B,_,_=>⟨Ez _,by simp⟩
 | z::zs,B,F,h=>by
   obtain⟨h1,h2⟩:=Qa (zs:=zs) F λy G=>h y (Ac _ G)
   obtain⟨J,I⟩:=h z Ab;rw[Ec,B8];refine⟨by lia,?_⟩;have e:(((zs.length+1:Nat):Int))*B=zs.length*B+B:=by
    rw[Gu,Int.add_mul];show _+1*B=_;rw[Int.one_mul]
   lia
abbrev FX(ws:List Str):PyData:=.list (ws.map PyData.str)
theorem Li:∀{ws:List Str},(∀x∈ws,PyData.canLay0 (.str x)=true)->EF K H (ws.map V.str) (ws.map PyData.str)
 | [],_=>.nil
 | x::ws,h=>.cons (.str _ (h x Ab)) (Li λy F=>h y (Ac _ F))
theorem Qb:∀ws:List Str,IW (ws.map PyData.str)=true
 | []=>rfl
 | x::ws=>by
   show(nb (PyData.str x)&&IW (ws.map PyData.str))=true;rw[Qb ws];rfl
theorem Qc:∀ws:List Str,PyData.depthAll (ws.map PyData.str)=0
 | []=>rfl
 | x::ws=>by
   show max (PyData.str x).depth (PyData.depthAll (ws.map PyData.str))=0;rw[Qc ws];rfl
end Ln
namespace L2
open PySem PySem.Spec PyProof.Rows
def Kj(lo st:Int)(n:Nat):It:=⟨λi _=>i<n,λi H x H'=>H'=H/\x=.int (lo+i*st),λi _=>n<=i⟩
theorem fv{P:Program}{w:World}{K:Frag}{tg:Expr}(it:Addr)(lo st:Int)(n:Nat):HU P w K tg (Kj lo st n) [it] it (λi h=>IsRangeIter h it (lo+(i:Nat)*st) ((n:Int)-(i:Nat)) st) where
 mem:=by simp
 obj:=λi h q b hb=>by
  have e:b=it:=by simpa using hb
  subst e;exact⟨_,q,λv z=>by
   have z':Data.fields _=Data.cell v:=z;cases z'⟩
 keep:=λi h h' q k=>k it (by simp) _ q
 item:=by
  intro X hP hw hK hc i pins s σ H E I F q G;subst hP hw hK;obtain⟨f0,J,f2,f3,Z,Y⟩:=F it (by simp);have W:=Walks.range (prog:=X.prog) (w:=X.w) (I.ok.hd hc) it lo st n;refine W.item i s _ _ G q λv h' tk hv q' kk=>?_
  obtain⟨t,rfl⟩:=hv;have I1:AI X pins σ H { s with heap:=h',toks:=tk }:=I.turned (λb o hb e=>kk b o (by simpa using hb) e) f0 J f3 Z Y;exact⟨_,rfl,Oo (s:={ s with heap:=h',toks:=tk }) (n:="range_iterator") q' rfl rfl (by decide) ⟨.int (lo+i*st),H,I1,⟨t,rfl⟩,⟨rfl,rfl⟩,q',λb hb=>(F b hb).1⟩⟩
 done:=by
  intro X hP hw hK hc i pins s σ H E I F q G;subst hP hw hK;obtain⟨f0,J,f2,f3,Z,Y⟩:=F it (by simp);exact wpAny_pyNext_range_end (I.ok.hd hc) q (by have:n<=i:=G;lia) λh' eb=>⟨rfl,I.turned (t':=s.toks) (λb o hb e=>eb b o hb e) f0 J f3 Z Y⟩
 self:=λ_ _ _ _ _ q h=>wpAny_pyIter_rangeiter q h
section
variable {X:Cx}{tg:Expr}
def FB(a b c:Int):Nat:=(Builtin.Range.rangeSize a b c).toNat
theorem Vh(a b c:Int)(h:c≠0):0<=Builtin.Range.rangeSize a b c:=by
 unfold Builtin.Range.rangeSize;split
 .split
  .have:=Jl (show 0<=b-a-1 by lia) (show 0<=c by lia)
   lia
  .lia
 .split
  .have:=Jl (show 0<=a-b-1 by lia) (show 0<=-c by lia)
   lia
  .lia
theorem Vi(n:Nat):FB ((n:Int)-1) (-1) (-1)=n:=by
 unfold FB Builtin.Range.rangeSize;rw[Aq (by decide)];split
 .rw[show(-(-1):Int)=1 from rfl,Jc]
  lia
 .lia
def fx(ta:TA):TI:=λσ H R=>ta σ H λvs H1=>∃i j k:Int,vs=[.int i,.int j,.int k]/\(-1000000<=i/\i<=1000000/\-1000000<=j/\j<=1000000)/\(k≠0/\-1000<=k/\k<=1000)/\R (Kj i k (FB i j k)) H1
theorem fy(h1:-1000000<=i)(h2:i<=1000000)(W:-1000000<=j)(J:j<=1000000)(F:k≠0)(Z:-1000<=k)(Y:k<=1000):Builtin.Range.small i j k=true:=by
 have G:=Vh i j k F;have I:Builtin.Range.rangeSize i j k<=2000001:=by
  unfold Builtin.Range.rangeSize;split
  .split
   .have:=Int.ediv_le_self (b:=k) (show 0<=j-i-1 by lia)
    lia
   .lia
  .split
   .have:=Int.ediv_le_self (b:=-k) (show 0<=i-j-1 by lia)
    lia
   .lia
 unfold Builtin.Range.small;generalize Builtin.Range.rangeSize i j k=r at G I⊢;have e:(if k > 0 then Builtin.Range.rangeFitsLong (j+(k-1))else Builtin.Range.rangeFitsLong (j+(k+1)))=true:=by
  split<;>simp only[Builtin.Range.rangeFitsLong,Aw,K8]<;>lia
 rw[e];simp only[Builtin.Range.rangeFitsLong,Aw,Fd,K8,and_true]
 lia
theorem fz(I:AI X pins σ H s)(F:Builtin.Range.small i j k=true)(Z:k≠0)(q:R (Kj i k (FB i j k)) H):wpAny (model X.prog X.w) X.A (pyIter (.ref s.heap.objs.size)) (PF X pins σ tg R) E { s with heap:=s.heap.push { cls:=.type "range",data:=.fields #[.int i t,.int j u,.int k v] },toks:=tk }:=by
 refine wpAny_pyIter_range (IsRange.new ..) F ?_;generalize J:s.heap.push { cls:=.type "range",data:=.fields #[.int i t,.int j u,.int k v] }=g;have G:AI X pins σ H { s with heap:=g,toks:=tk }:=I.kept λb o e=>by rw[<-J];exact A9 _ e
 refine⟨g.objs.size,[g.objs.size],_,_,H,rfl,G.kept (t':=tk) λb o e=>A9 _ e,fv _ i k (FB i j k),?_,λb hb=>?_,q⟩
 .have Y:i+((0:Nat):Int)*k=i:=by simp
  have W:((FB i j k:Nat):Int)-((0:Nat):Int)=Builtin.Range.rangeSize i j k:=by
   have:=Vh i j k Z;unfold FB
   lia
  show IsRangeIter _ _ (i+((0:Nat):Int)*k) (((FB i j k:Nat):Int)-((0:Nat):Int)) k;rw[Y,W];exact B4 _ rfl
 .have e:b=g.objs.size:=by simpa using hb
  subst e;exact G.fpOk (Af _) (G.hok.fresh (Af _))
theorem fC(W:Gl X "range")(hm:X.mg "range"=none)(ha:PA X [a,b,c] ta)(hs:starEach [a,b,c] X.env=[(false,eval a X.env),(false,eval b X.env),(false,eval c X.env)]:=by rfl)(hs2:starEach [b,c] X.env=[(false,eval b X.env),(false,eval c X.env)]:=by rfl) :
 PI X tg (.Call (.Name "range" p) [a,b,c] [] pos) (fx ta):=by
 intro pins s σ H R I h;refine Call_ (L4 I W hm boot_range (C0 (BD (ha pos pins s σ H _ I h) λus s1 ⟨vs,H1,I1,r1,q1⟩=>?_) (by rw[hs,hs2]) (by rw[hs2];rfl)));obtain⟨i,j,k,e,⟨h1,h2,h3,h4⟩,⟨G,h6,Y⟩,q⟩:=q1;subst e;cases r1 with
 | cons r F =>
   cases F with
   | cons r' F =>
     cases F with
     | cons J F =>
       cases F;obtain⟨t,rfl⟩:=r;obtain⟨t',rfl⟩:=r';obtain⟨Z,rfl⟩:=J;exact call_range_3 G (fz I1 (fy h1 h2 h3 h4 G h6 Y) G q) (Or.inl (J9 (by lia)))
end
theorem fD{lo st:Int}{n:Nat}{g:TG}{tb:TS}{D:DV}{σ:St}{H:Hp}(I:Nat->St->Hp->Prop)(Z:I 0 σ H)
 (hs:∀i σ H,i<n->I i σ H->g (.int (lo+i*st)) σ H λF H2=>tb { D with nx:=I (i+1),ct:=I (i+1),bk:=D.nx } F H2) (hd:∀σ H,I n σ H->D.nx σ H) :
 ∃W:Nat->Nat->St->Hp->Prop,(∃m,W 0 m σ H)/\∀i m σ H,W i m σ H ->
  ((Kj lo st n).stop i H/\D.nx σ H)\/((Kj lo st n).go i H/\∃N:St->Hp->Prop,(∀G H',N G H'->∃Y,Y<m/\W (i+1) Y G H')/\∀x H',(Kj lo st n).yld i H x H'->g x σ H' λF H2=>tb { D with nx:=N,ct:=N,bk:=D.nx } F H2):=by
 refine⟨λi m σ H=>m=n-i/\i<=n/\I i σ H,⟨n,by simp,B9 _,Z⟩,?_⟩;rintro i m σ H ⟨rfl,hi,p⟩;by_cases J:i<n
 .refine .inr ⟨J,I (i+1),λG H' p'=>⟨n-(i+1),by lia,rfl,J,p'⟩,λx H' y=>?_⟩;obtain⟨e,y⟩:=y;subst e y;exact hs i σ _ J p
 .have e:i=n:=by lia
  subst e;exact .inl ⟨Af _,hd σ H p⟩
end L2
namespace Br
open PySem L2
structure FY where
 zs:List Int
 ms:Int
 lo:Int
 ideal:Int
 hi:Int
abbrev FY.n(p:FY):Nat:=p.zs.length
def seg(zs:List Int)(i j:Nat):List Int:=(zs.take j).drop i
theorem Vj(h:j<=zs.length):(seg zs i j).length=j-i:=by
 unfold seg;rw[Bx,Al,Dq h]
theorem Vk(F:i<=j)(h:zs[j]?=some z):seg zs i (j+1)=seg zs i j++[z]:=by
 obtain⟨I,e⟩:=B2.mp h;unfold seg;rw[Ay,h,List.drop_append];have G:i-(zs.take j).length=0:=by
  rw[Al]
  lia
 rw[G];rfl
theorem fE(zs:List Int)(i:Nat):seg zs i i=[]:=by
 unfold seg;rw[Gp,Al]
 lia
def lc(p:FY)(i j:Nat):Option Int:=Ln.Vg (seg p.zs i j) p.ms p.lo p.ideal p.hi (decide (j=p.n))
def IL:Option Int->Option Int->Option Int
 | some a,some b=>some (a+b)
 | _,_=>none
def Mm(p:FY)(f:Nat->Option Int)(i m:Nat):List Int:=(List.range m).filterMap λk=>IL (lc p i (i+1+k)) (f (i+1+k))
def JK(p:FY)(f:Nat->Option Int)(i:Nat):Option Int:=NP (Mm p f i (p.n-i))
theorem NQ{F:Type}(g:Nat->Option F)(m:Nat):(List.range (m+1)).filterMap g=(List.range m).filterMap g++(g m).toList:=by
 rw[List.range_succ,E3];congr 1
theorem Vl(p:FY)(f:Nat->Option Int)(i m:Nat):Mm p f i (m+1)=Mm p f i m++(IL (lc p i (i+1+m)) (f (i+1+m))).toList:=NQ _ m
theorem fF(h:∀k,k<m->f (i+1+k)=g (i+1+k)):Mm p f i m=Mm p g i m:=by
 induction m with
 | zero=>rfl
 | succ m ih=>rw[Vl,Vl,ih λk F=>h k (by lia),h m (by lia)]
theorem Vm{p:FY}{f g:Nat->Option Int}{i:Nat}(h:∀k,k<p.n-i->f (i+1+k)=g (i+1+k)):JK p f i=JK p g i:=Bs NP (fF h)
structure Lj(p:FY)(f:Nat->Option Int)(k:Nat):Prop where
 last:f p.n=some 0
 rest:∀i,k<=i->i<p.n->f i=JK p f i
def IM(p:FY)(F:List (List DH×V))(D:Nat->Nat->Prop):Prop:=∀i j:Nat,i<j->j<=p.n->(D i j->CM F [.inl (i:Int),.inl (j:Int)]=(lc p i j).map V.int)/\(¬D i j->CM F [.inl (i:Int),.inl (j:Int)]=none)
def OU(p:FY)(F:List (List DH×V)):Prop:=∀i j:Nat,i<j->j<=p.n->CM F [.inl (i:Int),.inl (j:Int)]=(lc p i j).map V.int
theorem IM.all(h:IM p kvs λa _=>a<p.n):OU p kvs:=λi j F G=>(h i j F G).1 (by lia)
theorem IM.nil(p:FY):IM p [] λa _=>a<0:=λi j _ _=>⟨λh=>absurd h (Cg _),λ_=>rfl⟩
theorem IM.iff{p:FY}{F:List (List DH×V)}{D E:Nat->Nat->Prop}(h:IM p F D)(e:∀i j,i<j->j<=p.n->(D i j↔E i j)):IM p F E:=λi j G I=>by
 have h1:=h i j G I;have h2:=e i j G I;exact⟨λz=>h1.1 (h2.mpr z),λz=>h1.2 λy=>z (h2.mp y)⟩
theorem LN{i j a b:Nat}:([Sum.inl (i:Int),Sum.inl (j:Int)]:List DH)=[Sum.inl (a:Int),Sum.inl (b:Int)]↔i=a/\j=b:=by
 constructor
 .intro h;have h1:=C6 h;have h2:=C6 h1.2;have F:(i:Int)=a:=Ke h1.1;have G:(j:Int)=b:=Ke h2.1
  lia
 .rintro⟨rfl,rfl⟩;rfl
theorem IM.put{p:FY}{F:List (List DH×V)}{i k:Nat}{c:Int}(h:IM p F λa b=>a<i\/(a=i/\b<i+1+k))(I:lc p i (i+1+k)=some c) :
 IM p (DY F [.inl (i:Int),.inl ((i+1+k:Nat):Int)] (.int c)) λa b=>a<i\/(a=i/\b<i+1+(k+1)):=λa b G hb=>by
 have h1:=h a b G hb;by_cases e:a=i/\b=i+1+k
 .obtain⟨rfl,rfl⟩:=e;refine⟨λ_=>?_,λz=>absurd (.inr ⟨rfl,by lia⟩) z⟩;rw[S5,Ar rfl,I];rfl
 .have ne:¬([Sum.inl (a:Int),Sum.inl (b:Int)]:List DH)=[Sum.inl (i:Int),Sum.inl ((i+1+k:Nat):Int)]:=λz=>e (LN.mp z)
  rw[S5,Aq ne];exact⟨λz=>h1.1 (by lia),λz=>h1.2 (by lia)⟩
theorem IM.skip(h:IM p kvs λa b=>a<i\/(a=i/\b<i+1+k))(G:lc p i (i+1+k)=none) :
 IM p kvs λa b=>a<i\/(a=i/\b<i+1+(k+1)):=λa b F hb=>by
 have h1:=h a b F hb;by_cases e:a=i/\b=i+1+k
 .obtain⟨rfl,rfl⟩:=e;refine⟨λ_=>?_,λz=>absurd (.inr ⟨rfl,by lia⟩) z⟩;rw[h1.2 (by lia),G];rfl
 .exact⟨λz=>h1.1 (by lia),λz=>h1.2 (by lia)⟩
theorem fG(hz:p.zs[i+k]?=some z):Ln.FA (p.ms-List.sum (seg p.zs i (i+k))-z) (k:Int) p.lo p.ideal p.hi (decide (i+1+k=p.n))=lc p i (i+1+k):=by
 obtain⟨I,_⟩:=B2.mp hz;unfold lc Ln.Vg;have e:i+1+k=i+k+1:=by lia
 rw[e,Vj (by lia),Vk (by lia) hz,Gv];have G:(((i+k+1-i:Nat):Int))-1=k:=by lia
 rw[G];have F:p.ms-(List.sum (seg p.zs i (i+k))+List.sum [z])=p.ms-List.sum (seg p.zs i (i+k))-z:=by
  rw[Ec,List.sum_nil]
  lia
 rw[F]
def GI(p:FY)(f:Nat->Option Int)(i m:Nat):List (Int×Nat):=(List.range m).filterMap λk=>(IL (lc p i (i+1+k)) (f (i+1+k))).map λc=>(c,i+1+k)
def ends(p:FY)(f:Nat->Option Int)(i m:Nat):List Nat:=(List.range m).filterMap λk=>(IL (lc p i (i+1+k)) (f (i+1+k))).map λ_=>i+1+k
theorem Qd{F:Type}(g:Nat->Option F)(m:Nat):((List.range m).filterMap g).length<=m:=by
 have:=Ic g (List.range m)
 rwa [K9]at this
theorem fH(p:FY)(f:Nat->Option Int)(i m:Nat):(GI p f i m).map (·.1)=Mm p f i m:=by
 induction m with
 | zero=>rfl
 | succ m ih =>
   unfold GI Mm at ih⊢;rw[NQ,NQ,Ah,ih];congr 1
   cases IL (lc p i (i+1+m)) (f (i+1+m))<;>rfl
theorem Vn(p:FY)(f:Nat->Option Int)(i m:Nat):(GI p f i m).map (·.2)=ends p f i m:=by
 induction m with
 | zero=>rfl
 | succ m ih =>
   unfold GI ends at ih⊢;rw[NQ,NQ,Ah,ih];congr 1
   cases IL (lc p i (i+1+m)) (f (i+1+m))<;>rfl
theorem Vo(h:x∈GI p f i m):i<x.2/\x.2<=i+m/\∃a b,lc p i x.2=some a/\f x.2=some b/\x.1=a+b:=by
 unfold GI at h;obtain⟨k,F,e⟩:=D8.mp h;have F:=Di.mp F;cases h1:lc p i (i+1+k)with
 | none=>rw[h1]at e;cases e
 | some a =>
   cases h2:f (i+1+k)with
   | none=>rw[h1,h2]at e;cases e
   | some b =>
     rw[h1,h2]at e
     have e:(a+b,i+1+k)=x:=Ap e;subst e;exact⟨by show i<i+1+k;lia,by show i+1+k<=i+m;lia,a,b,h1,h2,rfl⟩
def NR(H:Hp)(v:V)(x:Int×Nat):Prop:=∃a,v=.ref a/\H a=some (.tup [.int x.1,.int (x.2:Int)])
theorem Vp(h:Paired (NR H) xs ys)(s:AF H H'):Paired (NR H') xs ys:=Paired.mapP h λ_ _ ⟨a,e,z⟩=>⟨a,e,s _ _ z⟩
theorem fI(h:Paired (NR H) xs zs)(F:H l=some ys)(G:∀z,ys≠.tup z):Paired (NR (upd H l o)) xs zs :=
 Paired.mapP h λx p ⟨t,e,ht⟩=>⟨t,e,by rw[BV (HI ht F λz=>G _ z.symm)];exact ht⟩
theorem Vq{tb:List (Option Int)}{i j:Nat}{v:Option Int}(hi:i<tb.length):(tb.set i v).getD j none=if j=i then v else tb.getD j none:=by
 rw[B5,B5,Et];by_cases e:i=j
 .subst e;rw[Ar rfl,Ar rfl,Ar hi];rfl
 .rw[Aq e,Aq (λz=>e z.symm)]
theorem Lj.set{p:FY}{tb:List (Option Int)}{i:Nat}(h:Lj p (λj=>tb.getD j none) (i+1))(W:tb.length=p.n+1)(hi:i<p.n):Lj p (λj=>(tb.set i (JK p (λj=>tb.getD j none) i)).getD j none) i:=by
 have e:∀j,i<j->(tb.set i (JK p (λj=>tb.getD j none) i)).getD j none=tb.getD j none:=λj G=>by
  rw[Vq (by lia),Aq (by lia)]
 refine⟨?_,λj G I=>?_⟩
 .show(tb.set i _).getD p.n none=some 0;rw[e p.n (by lia)];exact h.last
 .show(tb.set i _).getD j none=_;by_cases F:j=i
  .subst F;rw[Vq (by lia),Ar rfl];exact Vm λk J=>(e (j+1+k) (by lia)).symm
  .rw[e j (by lia),h.rest j (by lia) I];exact Vm λk J=>(e (j+1+k) (by lia)).symm
def JM(p:FY)(f:Nat->Option Int)(i e:Nat):Prop:=i<e/\e<=p.n/\∃a b,lc p i e=some a/\f e=some b/\f i=some (a+b)
def Vr(p:FY)(f:Nat->Option Int)(i e:Nat):Prop:=JM p f i e/\∀F,JM p f i F->F<=e
theorem fJ(W:Lj p f k)(Z:k<=i)(hi:i<p.n)(Y:f i≠none):∃e,JM p f i e:=by
 have h1:=W.rest i Z hi;cases h2:JK p f i with
 | none=>rw[h2]at h1;exact absurd h1 Y
 | some m =>
   rw[h2]at h1
   obtain⟨J,_⟩:=FV.mp h2;unfold Mm at J;obtain⟨j,I,e⟩:=D8.mp J;have I:=Di.mp I;cases F:lc p i (i+1+j)with
   | none=>rw[F]at e;cases e
   | some a =>
     cases G:f (i+1+j)with
     | none=>rw[F,G]at e;cases e
     | some b =>
       rw[F,G]at e
       have e:a+b=m:=Ap e;exact⟨i+1+j,by lia,by lia,a,b,F,G,by rw[h1,e]⟩
inductive FC (p:FY) (f:Nat->Option Int):Nat->List Nat->Prop
 | done:FC p f p.n []
 | step {i e:Nat}{bs:List Nat}:i<p.n->Vr p f i e->FC p f e bs->FC p f i (e::bs)
theorem FC.mem(x:FC p f i bs):∀e∈bs,e<=p.n:=by
 induction x with
 | done=>intro e h;cases h
 | step h1 h2 _ ih =>
   intro F h;rcases Am.mp h with rfl|h
   .exact h2.1.2.1
   .exact ih F h
theorem FC.len(x:FC p f i bs):bs.length+i<=p.n:=by
 induction x with
 | done=>simp
 | step h1 h2 _ ih =>
   have:=h2.1.1;rw[B8]
   lia
theorem fK:(x∈GI p f i (p.n-i)/\f i=some x.1)->JM p f i x.2:=by
 rintro⟨h1,h2⟩;obtain⟨m1,m2,a,b,I,G,F⟩:=Vo h1;exact⟨m1,by lia,a,b,I,G,by rw[h2,F]⟩
theorem fL(h:JM p f i e):∃c,(c,e)∈GI p f i (p.n-i)/\f i=some c:=by
 obtain⟨h1,h2,a,b,G,F,I⟩:=h;refine⟨a+b,?_,I⟩;unfold GI;refine D8.mpr ⟨e-i-1,Di.mpr (by lia),?_⟩;have J:i+1+(e-i-1)=e:=by lia
 rw[J,G,F];rfl
end Br
namespace L2
open PySem PySem.Spec PyProof.Rows
section
variable {X:Cx}{pins:List (Addr×Obj)}{σ:St}{H:Hp}{s:Shared}{h':Heap}
theorem AI.turned4{t':Nat}{ch:List Addr}(I:AI X pins σ H s)(k:∀b u,b∉ch->s.heap.get? b=some u->h'.get? b=some u)(J:∀b∈ch,EX X pins H b):AI X pins σ H { s with heap:=h',toks:=t' }:=by
 have G:∀b u,H b=some u->b∉ch:=λb u e z=>by rw[(J b z).1]at e;cases e
 refine I.step (g':=s.gens) (d':=s.drawn) (ch:=ch) (λb hb=>?_) (λb u _ _ F e _=>k b u F e) (λb u _ _ F e _=>⟨u.slots,k b u F e⟩)
  (λ_ _ _ _ n=>n) (λb u F e=>⟨u,k b u F e⟩) (λ_ _ e=>e) (λ_ _ _ e=>e) (λb ps e=>⟨#[],by rw[e];simp⟩) (λm hm=>?_) (λb u e=>?_) I.bare
 .obtain⟨f0,Y,f2,f3,f4,f5⟩:=J b hb;exact⟨f3,Y,f4,f5⟩
 .obtain⟨W,es,ep,Z,r⟩:=hm;exact⟨W,es,ep,k _ W (λz=>(J _ z).2.1 rfl) Z,r⟩
 .refine(I.hok b u e).stay (λc v F q=>k c v ?_ q) (λ_ q=>q) λ_ _ q=>q
  rcases F with z|z
  .rw[z];exact G b u e
  .exact G c _ z
end
def Sd(K:Frag)(a b:Addr):It :=
 ⟨λi H=>∃xs ys x y,AH K H a xs/\AH K H b ys/\xs[i]?=some x/\ys[i]?=some y,
  λi H v H'=>∃t x y,v=.ref t/\H t=none/\(∀xs,AH K H a xs->xs[i]?=some x)/\(∀ys,AH K H b ys->ys[i]?=some y)/\H'=upd H t (.tup [x,y]),
  λi H=>∃xs ys,AH K H a xs/\AH K H b ys/\(xs.length<=i\/ys.length<=i)⟩
theorem fM{P:Program}{w:World}{K:Frag}{es:List Expr}{k1:Nat}{tp:Pos}(a b z TI TO Z Y:Addr)(D:ZipApart z TI TO Z Y a b) :
 HU P w K (.Tuple es k1 tp) (Sd K a b) [z,TO,Z,Y,TI] z (λi h=>IsZip h z TI TO .none/\IsPair h TI (.ref Z) (.ref Y)/\(∃u v,IsPair h TO u v)/\h.IsListIter Z a i/\h.IsListIter Y b i) where
 mem:=by simp
 obj:=λi h st c F=>by
  obtain⟨e1,e2,⟨u,v,e3⟩,⟨o4,e4,c4,d4⟩,⟨o5,e5,c5,d5⟩⟩:=st;simp only[Am,Bf,D7]at F;rcases F with rfl|rfl|rfl|rfl|rfl
  .refine⟨_,e1,λv q=>?_⟩;have q':Data.fields _=Data.cell v:=q;cases q'
  .refine⟨_,e3,λv q=>?_⟩;have q':Data.seq _ _=Data.cell v:=q;cases q'
  .exact⟨o4,e4,λv q=>by rw[d4]at q;cases q⟩
  .exact⟨o5,e5,λv q=>by rw[d5]at q;cases q⟩
  .refine⟨_,e2,λv q=>?_⟩;have q':Data.seq _ _=Data.cell v:=q;cases q'
 keep:=λi h h' st k=>by
  obtain⟨e1,e2,⟨u,v,e3⟩,e4,e5⟩:=st;exact⟨k z (by simp) _ e1,k TI (by simp) _ e2,⟨u,v,k TO (by simp) _ e3⟩,e4.at λo e=>k Z (by simp) o e,e5.at λo e=>k Y (by simp) o e⟩
 item:=by
  intro X hP hw hK F i pins s σ H E I hf st hg;subst hP hw hK;obtain⟨xs,ys,x,y,ae,ad,hx,hy⟩:=hg;obtain⟨aw,rx,px,an⟩:=I.list ae;obtain⟨ay,ry,py,am⟩:=I.list ad;obtain⟨ux,av,ax⟩:=rx.get hx;obtain⟨uy,ap,az⟩:=ry.get hy;obtain⟨hz,J,⟨u,v,ac⟩,hi1,aa⟩:=st;have au:z<s.heap.objs.size:=As hz;refine wpAny_pyNext_zip_item D hz J ac hi1 aa px.isList py.isList (x:=ux) (y:=uy) (by simpa using av) (by simpa using ap) λh1 aq ai ag ak al aA aj=>⟨_,rfl,?_⟩
  refine wpAny_letOwnedTupleGo_zip aq λh2 ar G=>?_
  replace G:Heap.SameBut z h1 h2:=G
  have ao:h2.get? s.heap.objs.size=some { cls:=.type "tuple",data:=.seq #[ux,uy] }:=(G.2 _ (Cz au)).trans al;have kk:∀c o,c∉[z,TO,Z,Y]->s.heap.get? c=some o->h2.get? c=some o:=λc o F q=>by
   have n1:c≠z:=λe=>F (by simp[e])
   have n2:c≠TO:=λe=>F (by simp[e])
   have n3:c≠Z:=λe=>F (by simp[e])
   have n4:c≠Y:=λe=>F (by simp[e])
   exact(G.2 c n1).trans (aj c o n1 n2 n3 n4 q)
  have hn:H s.heap.objs.size=none:=I.hok.fresh (Af _);have af:∀c∈[z,TO,Z,Y],EX X pins H c:=λc F=>hf c (by
   simp only[Am,Bf,D7]at F⊢;rcases F with e|e|e|e<;>simp[e])
  have I2:AI X pins σ (upd H s.heap.objs.size (.tup [x,y])) { s with heap:=h2,toks:=s.toks } :=
   I.turnLay kk af (Af _) ⟨Ct rfl,[ux,uy],.cons ax (.cons az .nil),⟨_,ao,rfl,0,rfl⟩⟩
  have ah:IsPair h2 TI (.ref Z) (.ref Y):=(G.2 _ D.TIz).trans (aj TI _ D.TIz D.TITO D.TIi1 D.TIi2 J);refine⟨.ref s.heap.objs.size,_,I2,rfl,⟨_,x,y,rfl,hn,λzs h=>by rw[I.list_inj h ae];exact hx,λzs h=>by rw[I.list_inj h ad];exact hy,rfl⟩,
   ⟨ar,ah,⟨ux,uy,(G.2 _ D.TOz).trans ai⟩,ag.extBut G.extBut D.i1z,ak.extBut G.extBut D.i2z⟩,λc F=>?_⟩
  rw[BV]
  .exact(hf c F).1
  .have lt:∀d o,s.heap.get? d=some o->d≠s.heap.objs.size:=λd o e=>Be (As e)
   obtain⟨o4,e4,_⟩:=hi1;obtain⟨o5,e5,_⟩:=aa;simp only[Am,Bf,D7]at F;rcases F with rfl|rfl|rfl|rfl|rfl
   .exact lt _ _ hz
   .exact lt _ _ ac
   .exact lt _ _ e4
   .exact lt _ _ e5
   .exact lt _ _ J
 done:=by
  intro X hP hw hK F i pins s σ H E I hf st hg;subst hP hw hK;obtain⟨xs,ys,ae,ad,hx⟩:=hg;obtain⟨aw,rx,px,an⟩:=I.list ae;obtain⟨ay,ry,py,am⟩:=I.list ad;obtain⟨hz,J,⟨u,v,ac⟩,hi1,aa⟩:=st;have aC:=rx.length;have aB:=ry.length;refine wpAny_pyNext_zip_end (I.ok.hd F) D hz J ac hi1 aa px.isList py.isList ?_ λh' eb=>⟨rfl,?_⟩
  .rcases hx with h|h
   .exact .inl (by simp;lia)
   .exact .inr (by simp;lia)
  .have af:∀c∈[z,TO,Z,Y],EX X pins H c:=λc F=>hf c (by
    simp only[Am,Bf,D7]at F⊢;rcases F with e|e|e|e<;>simp[e])
   exact I.turned4 (t':=s.toks) (λc o F q=>eb c o (λe=>F (by simp[e])) (λe=>F (by simp[e])) (λe=>F (by simp[e])) (λe=>F (by simp[e])) q) af
 self:=λ_ _ _ _ _ st h=>Fe st.1 h
theorem Vs:bootBuiltins "zip"=some (.type "zip"):=by decide +kernel
section
variable {X:Cx}{es:List Expr}{k1:Nat}{tp:Pos}
def OV(K:Frag)(ta:TA):TI:=λσ H R=>ta σ H λvs H1=>∃a b,vs=[.ref a,.ref b]/\(∃xs,AH K H1 a xs)/\(∃ys,AH K H1 b ys)/\R (Sd K a b) H1
theorem fN{a b:Expr}{ta:TA}{p pos:Pos}(hg:Gl X "zip")(hm:X.mg "zip"=none)(ha:PA X [a,b] ta)(hs:starEach [a,b] X.env=[(false,eval a X.env),(false,eval b X.env)]:=by rfl)(hs2:starEach [b] X.env=[(false,eval b X.env)]:=by rfl) :
 PI X (.Tuple es k1 tp) (.Call (.Name "zip" p) [a,b] [] pos) (OV X.K ta):=by
 intro pins s σ H R I h;refine C3 (L4 I hg hm Vs ?_);refine C0 (BD (ha pos pins s σ H _ I h) λus F ⟨vs,H1,J,r1,q1⟩=>?_) (by rw[hs,hs2]) (by rw[hs2];rfl);obtain⟨l1,l2,rfl,⟨xs,ad⟩,⟨ys,ac⟩,q⟩:=q1;obtain⟨u1,u2,rfl,aa,W⟩:=Rr r1;cases aa;cases W;obtain⟨af,rx,px,ah⟩:=J.list ad;obtain⟨ai,ry,py,ag⟩:=J.list ac;have a1:l1<F.heap.objs.size:=by obtain⟨_,e,_⟩:=px.isList;exact As e
 have a2:l2<F.heap.objs.size:=by obtain⟨_,e,_⟩:=py.isList;exact As e
 refine call_zip_2 px.isList py.isList λh' hz Z Y hi1 ae hsz hk=>?_
 refine Fe hz ?_;refine⟨F.heap.objs.size+4,[F.heap.objs.size+4,F.heap.objs.size+3,F.heap.objs.size,F.heap.objs.size+1,F.heap.objs.size+2],_,_,H1,rfl,J.kept (t':=F.toks) hk,fM l1 l2 _ _ _ _ _ (zipApart_new a1 a2),⟨hz,Z,⟨_,_,Y⟩,hi1,ae⟩,λc hc=>?_,q⟩;have G:F.heap.objs.size<=c:=by
  simp only[Am,Bf,D7]at hc;rcases hc with rfl|rfl|rfl|rfl|rfl<;>lia
 exact J.fpOk G (J.hok.fresh G)
end
theorem fO{K:Frag}{a b:Addr}{xs ys:List V}{g:TG}{tc:TT}{te:TE}{D:Addr}{σ:St}{H:Hp}{Q:VK}(aa:ys.length<=xs.length)(G:Nat->List V->St->Hp->Prop)(h0:G 0 [] σ (upd H D (.lst [])))(hl:∀i zs σ H,i<=ys.length->G i zs σ H->AH K H a xs/\AH K H b ys)
 (hs:∀i x y t zs σ H,xs[i]?=some x->ys[i]?=some y->i<ys.length->G i zs σ H->H t=none->g (.ref t) σ (upd H t (.tup [x,y])) λF H4=>tc F H4 λb H5=>if b=true then te F H5 (NM D ys.length i G F)else NN ys.length i G F H5)
 (hd:∀zs σ H,G ys.length zs σ H->Q (.ref D) H) :
 NL (Sd K a b) g tc te D Q σ H:=by
 refine⟨λi m σ H=>m=ys.length-i/\i<=ys.length/\∃zs,G i zs σ H,⟨ys.length,by simp,B9 _,[],h0⟩,?_⟩;rintro i m σ H ⟨rfl,hi,zs,p⟩;obtain⟨Z,J⟩:=hl i zs σ H hi p;by_cases I:i<ys.length
 .have Y:i<xs.length:=by lia
  refine .inr ⟨⟨xs,ys,xs[i],ys[i],Z,J,by simp[Y],by simp[I]⟩,λv H' y=>?_⟩;obtain⟨t,x,y,rfl,hn,hx,hy,rfl⟩:=y;exact hs i x y t zs σ _ (hx xs Z) (hy ys J) I p hn
 .have e:i=ys.length:=by lia
  subst e;exact .inl ⟨⟨xs,ys,Z,J,.inr (Af _)⟩,hd zs σ H p⟩
section
variable {X:Cx}(K:Frag) (hK:X.K=K)
include hK
theorem fP(F:Gl X "zip")(hm:X.mg "zip"=none)(ha:PA X [a,b] ta)(hs:starEach [a,b] X.env=[(false,eval a X.env),(false,eval b X.env)]:=by rfl)(hs2:starEach [b] X.env=[(false,eval b X.env)]:=by rfl) :
 PI X (.Tuple es k1 tp) (.Call (.Name "zip" p) [a,b] [] pos) (OV K ta):=by subst hK;exact fN F hm ha hs hs2
end
end L2
namespace Lns
open PySem L2
def KA(no:Addr)(H:Hp)(v:V)(ws:List Str):Prop:=∃p,v=.ref p/\p≠no/\H p=some (.lst (ws.map V.str))
theorem KA.same(h:KA no H v ws)(s:AF H H'):KA no H' v ws:=let ⟨p,e,n,h⟩:=h;⟨p,e,n,s _ _ h⟩
theorem Mn(h:Paired (KA no H) xs ls)(s:AF H H'):Paired (KA no H') xs ls:=Paired.mapP h λ_ _ z=>z.same s
theorem OW(h:Paired (KA no H) xs ls):xs.length=ls.length:=Bh h
abbrev OX(ls:List (List Str)):PyData:=.list (ls.map Ln.FX)
theorem Qe:∀{xs:List V}{ls:List (List Str)},Paired (KA no H) xs ls->(∀l∈ls,∀x∈l,PyData.canLay0 (.str x)=true)->EF K H xs (ls.map Ln.FX)
 | _,_,.nil,_=>.nil
 | _,_,.cons ⟨p,e,_,h⟩ r,c=>by
   subst e;exact .cons (.lst (AH.of h) (Ln.Li λx F=>c _ Ab x F)) (Qe r λl G=>c l (Ac _ G))
theorem Vt:∀ls:List (List Str),IW (ls.map Ln.FX)=true
 | []=>rfl
 | l::ls=>by
   show(nb (Ln.FX l)&&IW (ls.map Ln.FX))=true;have h:nb (Ln.FX l)=true:=Ln.Qb l;rw[Vt ls,h];rfl
theorem Vu:∀ls:List (List Str),PyData.depthAll (ls.map Ln.FX)<=1
 | []=>B9 _
 | l::ls=>by
   show max (Ln.FX l).depth (PyData.depthAll (ls.map Ln.FX))<=1;have q:(Ln.FX l).depth=PyData.depthAll (l.map PyData.str)+1:=rfl;have:=Ln.Qc l;have:=Vu ls
   lia
theorem fQ(ls:List (List Str))(e:PyData):min (OX ls).depth e.depth<=64:=by
 have q:(OX ls).depth=PyData.depthAll (ls.map Ln.FX)+1:=rfl;have:=Vu ls
 lia
theorem Qf(x:Str):x++("":Str)=x:=by
 show(⟨x.cps++(#[]:Array Nat)⟩:Str)=x;rw[Jz]
def AD(ws:List Str):Str:=Txt.join " " ws
def BG:List (List Str)->Str
 | []=>""
 | l::r=>AD l++"/"++BG r
theorem Vv(l:List Str):BG [l]=AD l++"/":=Qf _
theorem fR:∀ls:List (List Str),Txt.join "" (ls.map λl=>AD l++"/")=BG ls:=by
 intro ls;unfold Txt.join;rw[Bp];induction ls with
 | nil=>rfl
 | cons l r ih =>
   cases r with
   | nil=>exact(Vv l).symm
   | cons l2 r =>
     show(AD l++"/")++""++Str.join "" ((l2::r).map λl=>AD l++"/")=AD l++"/"++BG (l2::r);rw[ih,Qf]
def Kz(ls:List (List Str)):Prop:=ls.length<=100/\∀l∈ls,l.length<=100/\∀x∈l,x.length<=100
theorem Se{F:Type}(f:F->Nat)(B:Nat):∀l:List F,(∀x∈l,f x<=B)->(l.map f).sum<=l.length*B
 | [],_=>by simp
 | x::l,h=>by
   have h1:=h x Ab;have h2:=Se f B l λy G=>h y (Ac _ G)
   rw[Bq,Ec,B8,G0]
   lia
theorem KP{F:Type}(f:F->Nat)(B N:Nat)(l:List F)(h:∀x∈l,f x<=B)(G:l.length<=N):(l.map f).sum<=N*B :=
 B3 (Se f B l h) (F6 _ G)
theorem Sf{l:List Str}(h1:l.length<=100)(h2:∀x∈l,x.length<=100):(l.map (·.length)).sum+l.length*(" ":Str).length<=16777216:=by
 have a:=KP (λx:Str=>x.length) 100 100 l h2 h1;have e:(" ":Str).length=1:=by decide
 rw[e];have a:(l.map (·.length)).sum<=100*100:=a
 lia
theorem Vw(h1:l.length<=100)(h2:∀x∈l,x.length<=100):(AD l).length<=10100:=by
 have a:=KP (λx:Str=>x.length) 100 100 l h2 h1;have a:(l.map (·.length)).sum<=100*100:=a;have b:=Cn " " l;have e:(" ":Str).length=1:=by decide
 unfold AD Txt.join;rw[Bp];have b:(Str.join " " l).length<=(l.map (·.length)).sum+l.length*(" ":Str).length:=b;rw[e]at b
 lia
theorem fS(h:Kz ls):((ls.map λl=>AD l++"/").map (·.length)).sum+(ls.map λl=>AD l++"/").length*("":Str).length<=16777216:=by
 rw[Ff,A6];have a:=KP ((λx:Str=>x.length)∘λl=>AD l++"/") 10101 100 ls (λl F=>by
  obtain⟨h1,h2⟩:=h.2 l F;have:=Vw h1 h2;show(AD l++"/").length<=10101;rw[Bl];have e:("/":Str).length=1:=by decide
  have e:("/":Str).length=1:=e
  lia) h.1
 have e:("":Str).length=0:=by decide
 rw[e];have a:(ls.map ((λx:Str=>x.length)∘λl=>AD l++"/")).sum<=100*10101:=a;have a:(ls.map ((·.length)∘λl=>AD l++"/")).sum<=100*10101:=a
 lia
theorem Vx{G:Type}(f:G->V)(F:List G)(last:G):DN ((F++[last]).map f) none (some (-1))=F.map f:=by
 have J:((F++[last]).map f).length=F.length+1:=by rw[A6,Aa];rfl
 have I:HT.CQ (F.length+1) 0 none=0:=rfl;have h1:HT.CQ (F.length+1) (F.length+1) (some (-1))=F.length:=by
  unfold HT.CQ;simp
  lia
 unfold DN;rw[J,I,h1,Ex,Je,Ah];exact List.take_left' (by rw[A6])
end Lns
namespace L2
open PySem PySem.Spec PyProof.Rows PySem.Builtin PySem.Builtin.Str
section
variable {X:Cx}
theorem Vy:∀(tk:Nat) (xs:List Str),AS (xs.map V.str) (strsFrom tk xs)
 | _,[]=>.nil
 | tk,x::r=>.cons ⟨tk,rfl⟩ (Vy (tk+1) r)
theorem fT(x y:Str):(partsBetween x (occurrences x y 0 x.length (x.length+1)) y.length).length<=x.length+2:=by
 unfold partsBetween;have:=StrLaws.occ_length_le x y 0 x.length (x.length+1);simp only[A6,List.length_zip,B8,Aa]
 lia
theorem Vz(x y:Str):(Txt.split x y).length<=x.length+2:=by
 have:=fT x y;unfold Txt.split;split
 .show 1<=_
  lia
 .split
  .show 1<=_
   lia
  .exact this
def MZ:V->List V->Hp->VK->Prop:=λx xs H Q=>∃z y,x=.str z/\xs=[.str y]/\1<=y.length/\z.length<=90000/\∀D,H D=none->Q (.ref D) (upd H D (.lst ((Txt.split z y).map V.str)))
theorem Sg:MS X "str.split" MZ:=by
 intro pins s σ H v0 xs v us Q I rx rs h;obtain⟨x,y,rfl,rfl,Z,hx,q⟩:=h;obtain⟨t,rfl⟩:=rx;obtain⟨u0,rfl,ru⟩:=ID rs;obtain⟨u,rfl⟩:=ru;have Y:(y.length==0)=false:=by
  rw[D3]
  lia
 have G:=q s.heap.objs.size I.fresh;have W:(Txt.split x y).length<=sizeLine:=B3 (Vz x y) (DD (by lia));cases h1:(decide (x.length<y.length)||decide (strKind x<strKind y))
 .cases J:(occurrences x y 0 x.length (x.length+1)).isEmpty
  .have e:Txt.split x y=partsBetween x (occurrences x y 0 x.length (x.length+1)) y.length:=by
    unfold Txt.split;rw[Aq (Gx h1),Aq (Gx J)]
   rw[e]at G W
   refine Eh Iu (Gf _ _ _) Hx (Ho _ _) (meets_str_split_sep x y t u h1 Y J (DD (by lia)) W) ?_;exact⟨.ref _,_,I.lnew (Vy _ _) (by rw[A6];exact W),rfl,G⟩
  .have e:Txt.split x y=[x]:=by
    unfold Txt.split;rw[Aq (Gx h1),Ar J]
   rw[e]at G
   exact Eh Iu (Gf _ _ _) Hx (Ho _ _) (meets_str_split_not_found x y t u h1 Y J)
    ⟨.ref _,_,I.lnew (t':=s.toks) (its:=[.str x t]) (ys:=[.str x]) (.cons ⟨t,rfl⟩ .nil) (by show 1<=sizeLine;exact DD (by lia)),rfl,G⟩
 .have e:Txt.split x y=[x]:=by
   unfold Txt.split;rw[Ar h1]
  rw[e]at G
  exact Eh Iu (Gf _ _ _) Hx (Ho _ _) (meets_str_split_cannot_occur x y t u h1)
   ⟨.ref _,_,I.lnew (t':=s.toks) (its:=[.str x t]) (ys:=[.str x]) (.cons ⟨t,rfl⟩ .nil) (by show 1<=sizeLine;exact DD (by lia)),rfl,G⟩
end
end L2
namespace Lns
open PySem L2
theorem Qg{x y:Str}(h:x.cps.toList=y.cps.toList):x=y:=Str.ext' (Array.toList_inj.mp h)
theorem EU(x y:Str):(x++y).cps.toList=x.cps.toList++y.cps.toList:=by rw[Jp,Cq]
theorem VA{c:Nat}:∀{a b r s:List Nat},c∉a->c∉b->a++c::r=b++c::s->a=b/\r=s
 | [],[],_,_,_,_,h=>⟨rfl,(C6 h).2⟩
 | [],y::b,_,_,_,hb,h=>absurd ((C6 h).1 ▸ Ab) hb
 | x::a,[],_,_,F,_,h=>absurd ((C6 h).1 ▸ Ab) F
 | x::a,y::b,_,_,F,hb,h=>by
   obtain⟨h1,h2⟩:=C6 h;obtain⟨I,G⟩:=VA (λz=>F (Ac _ z)) (λz=>hb (Ac _ z)) h2;exact⟨by rw[h1,I],G⟩
theorem VB{c:Nat}{a b r:List Nat}(F:c∉a)(h:a=b++c::r):False:=F (h ▸ Bk _ Ab)
theorem VC(c:Nat):∀(ps qs:List Str),ps≠[]->qs≠[]->(∀p∈ps,c∉p.cps.toList)->(∀p∈qs,c∉p.cps.toList)->Str.join ⟨#[c]⟩ ps=Str.join ⟨#[c]⟩ qs->ps=qs
 | [],_,h,_,_,_,_=>absurd rfl h
 | _,[],_,h,_,_,_=>absurd rfl h
 | [p],[q],_,_,_,_,h=>by
   have h:p=q:=h;rw[h]
 | [p],q::q2::qs,_,_,F,_,h=>by
   have h:p=q++⟨#[c]⟩++Str.join ⟨#[c]⟩ (q2::qs):=h;have h:=Bs (λz:Str=>z.cps.toList) h;simp only[EU,Ao]at h;exact(VB (F p Ab) h).elim
 | p::p2::ps,[q],_,_,_,G,h=>by
   have h:p++⟨#[c]⟩++Str.join ⟨#[c]⟩ (p2::ps)=q:=h;have h:=Bs (λz:Str=>z.cps.toList) h;simp only[EU,Ao]at h;exact(VB (G q Ab) h.symm).elim
 | p::p2::ps,q::q2::qs,_,_,F,G,h=>by
   have h:p++⟨#[c]⟩++Str.join ⟨#[c]⟩ (p2::ps)=q++⟨#[c]⟩++Str.join ⟨#[c]⟩ (q2::qs):=h;have h:=Bs (λz:Str=>z.cps.toList) h;simp only[EU,Ao]at h;obtain⟨h1,h2⟩:=VA (F p Ab) (G q Ab) h;have ih:=VC c (p2::ps) (q2::qs) (by simp) (by simp) (λx I=>F x (Ac _ I)) (λx I=>G x (Ac _ I)) (Qg h2);rw[Qg h1,ih]
theorem fU(x y:Str):Txt.split x y≠[]:=by
 unfold Txt.split;split
 .simp
 .split
  .simp
  .rw[Fw];obtain⟨p,r,e⟩:=StrLaws.partsFrom_ne x y.length 0 (Builtin.Str.occurrences x y 0 x.length (x.length+1));rw[e];simp
theorem Sh(c:Nat)(hne:ps≠[])(hf:∀p∈ps,c∉p.cps.toList):Txt.split (Str.join ⟨#[c]⟩ ps) ⟨#[c]⟩=ps :=
 VC c _ _ (fU _ _) hne (StrLaws.split_free _ c) hf (StrLaws.join_split _ _)
def OY(x:Str):Prop:=32∉x.cps.toList/\47∉x.cps.toList
theorem NS(ws:List Str):AD ws=Str.join ⟨#[32]⟩ ws:=by
 unfold AD Txt.join;rw[Bp];rfl
theorem fV(hne:ws≠[])(h:∀x∈ws,OY x):Txt.split (AD ws) " "=ws:=by
 rw[NS];exact Sh 32 hne λp F=>(h p F).1
theorem VD:∀{ws:List Str},(∀x∈ws,OY x)->47∉(AD ws).cps.toList:=by
 intro ws h;rw[NS];induction ws with
 | nil=>exact λz=>nomatch z
 | cons x r ih =>
   cases r with
   | nil=>exact(h x Ab).2
   | cons y r =>
     show 47∉(x++⟨#[32]⟩++Str.join ⟨#[32]⟩ (y::r)).cps.toList;rw[EU,EU];have:=ih λz F=>h z (Ac _ F)
     simp only[Az,Kg];exact⟨⟨(h x Ab).2,by decide⟩,this⟩
theorem VE:∀ls:List (List Str),BG ls=Str.join ⟨#[47]⟩ (ls.map AD++[("":Str)])
 | []=>rfl
 | l::r=>by
   show AD l++"/"++BG r=Str.join ⟨#[47]⟩ (AD l::(r.map AD++[("":Str)]));rw[VE r];cases h:r.map AD++[("":Str)]with
   | nil=>exact absurd h (by simp)
   | cons z s=>rfl
theorem fW(h:∀l∈ls,∀x∈l,OY x):Txt.split (BG ls) "/"=ls.map AD++[("":Str)]:=by
 rw[VE];refine Sh 47 (by simp) λp F=>?_
 rcases Az.mp F with F|F
 .obtain⟨l,G,rfl⟩:=Bw.mp F;exact VD (h l G)
 .rw[Aj.mp F];exact λz=>nomatch z
theorem VF{G:Type}(F:List G)(last:G):DJ (F++[last]) (-1)=some last:=by
 have h:Kx (F.length+1) (-1)=some F.length:=by
  unfold Kx;rw[Aq (by lia),Ar (by lia)];congr 1
  lia
 unfold DJ;rw[Aa];show((Kx (F.length+1) (-1)).bind _)=_;rw[h];show(F++[last])[F.length]?=_;rw[Bv (Af _),E9];rfl
def DE(H0:Hp)(no:Addr)(H:Hp)(v:V)(ws:List Str):Prop:=∃p,v=.ref p/\p≠no/\H0 p=none/\H p=some (.lst (ws.map V.str))
theorem DE.n(h:Paired (DE H0 no H) xs ls):Paired (KA no H) xs ls:=Paired.mapP h λ_ _ ⟨p,e,n,_,z⟩=>⟨p,e,n,z⟩
theorem Si(h:Paired (DE H0 no H) xs ls)(s:AF H H'):Paired (DE H0 no H') xs ls:=Paired.mapP h λ_ _ ⟨p,e,n,f,z⟩=>⟨p,e,n,f,s _ _ z⟩
theorem VG(h:Paired (DE H0 no H) xs ls):Paired (DE H0 no (upd H no o)) xs ls :=
 Paired.mapP h λ_ _ ⟨p,e,n,f,z⟩=>⟨p,e,n,f,by rw[BV n];exact z⟩
theorem Qh(h:Paired (DE H0 no H) xs ls):xs.length=ls.length:=Bh h
theorem fX(h:Paired (DE H0 no H) xs ls)(G:H p=none):V.ref p∉xs:=by
 intro hm;obtain⟨i,hi,e⟩:=Bt hm;obtain⟨_,_,p2,F,_,_,z⟩:=Cs.FU h (A7 hi);rw[e]at F
 cases F;rw[G]at z
 cases z
theorem OZ{I G:Type}{F:I->G->Prop}:∀{a c:List I}{b d:List G},Paired F a b->Paired F c d->Paired F (a++c) (b++d)
 | _,_,_,_,.nil,h=>h
 | _,_,_,_,.cons r t,h=>.cons r (OZ t h)
def GO(c:Nat):Bool:=!decide (c=32)&&!decide (c=47)
def HE(rs:List Cs.CC):Bool->List Nat->Bool
 | _,[]=>true
 | p,c::r=>if GO c=true then(Cs.CK rs (sg c)).isSome&&HE rs true r else p&&HE rs false r
def Qi(rs:List Cs.CC)(ks:List Nat)(i:Nat):Bool :=
 match ks[i]? with
 | none=>false
 | some c=>if GO c=true then(Cs.CK rs (sg c)).isSome else decide (0<i)&&(match ks[i-1]? with|none=>false|some d=>GO d)
theorem P0:∀{ks:List Nat}{p:Bool},HE rs p ks=true->∀(i:Nat) c,ks[i]?=some c ->
 if GO c=true then(Cs.CK rs (sg c)).isSome=true else(i=0/\p=true)\/∃j d,i=j+1/\ks[j]?=some d/\GO d=true
 | [],_,_,i,c,h=>by simp at h
 | k::r,p,ok,0,c,h=>by
   have h:k=c:=by simpa using h
   subst h;unfold HE at ok;by_cases F:GO k=true
   .rw[Ar F]at ok⊢
    exact(Dk.mp ok).1
   .rw[Aq F]at ok⊢
    exact .inl ⟨rfl,(Dk.mp ok).1⟩
 | k::r,p,ok,i+1,c,h=>by
   have h:r[i]?=some c:=by simpa using h
   unfold HE at ok;by_cases F:GO k=true
   .rw[Ar F]at ok
    have ih:=P0 (Dk.mp ok).2 i c h;by_cases G:GO c=true
    .rw[Ar G]at ih⊢
     exact ih
    .rw[Aq G]at ih⊢
     rcases ih with⟨rfl,_⟩|⟨j,d,rfl,I,hd⟩
     .exact .inr ⟨0,k,rfl,rfl,F⟩
     .exact .inr ⟨j+1,d,rfl,by simpa using I,hd⟩
   .rw[Aq F]at ok
    have ih:=P0 (Dk.mp ok).2 i c h;by_cases G:GO c=true
    .rw[Ar G]at ih⊢
     exact ih
    .rw[Aq G]at ih⊢
     rcases ih with⟨_,e⟩|⟨j,d,rfl,I,hd⟩
     .cases e
     .exact .inr ⟨j+1,d,rfl,by simpa using I,hd⟩
theorem fY(ok:HE rs false ks=true)(hi:i<ks.length):Qi rs ks i=true:=by
 have h:=P0 ok i ks[i] (A7 hi);unfold Qi;rw[A7 hi];show(if GO ks[i]=true then _ else _)=true;by_cases F:GO ks[i]=true
 .rw[Ar F]at h⊢
  exact h
 .rw[Aq F]at h⊢
  rcases h with⟨_,e⟩|⟨j,d,rfl,G,hd⟩
  .cases e
  .rw[show j+1-1=j from rfl,G];show(decide (0<j+1)&&GO d)=true;rw[hd];simp
theorem Sj:∀{w:List Nat}{p:Bool}(r:List Nat),(∀c∈w,GO c=true/\(Cs.CK rs (sg c)).isSome=true)->HE rs p (w++r)=HE rs (p||!w.isEmpty) r
 | [],p,r,_=>by simp
 | c::w,p,r,h=>by
   obtain⟨h1,h2⟩:=h c Ab;have ih:=Sj (w:=w) (p:=true) r λd hd=>h d (Ac _ hd)
   show HE rs p (c::(w++r))=_;conv=>lhs;unfold HE
   rw[Ar h1,h2,ih];simp
def KC(rs:List Cs.CC)(x:Str):Prop:=1<=x.length/\∀c∈x.cps.toList,GO c=true/\(Cs.CK rs (sg c)).isSome=true
theorem KC.ne(h:KC rs x):(!x.cps.toList.isEmpty)=true:=by
 have h1:=h.1;unfold Str.length at h1;cases e:x.cps.toList with
 | nil =>
   have:x.cps.toList.length=0:=by rw[e];rfl
   rw[Au]at this
   lia
 | cons a b=>rfl
theorem KC.plain(h:KC rs x):OY x:=by
 constructor
 .intro z;have:=(h.2 _ z).1;revert this;decide
 .intro z;have:=(h.2 _ z).1;revert this;decide
theorem VH(r:List Nat):∀{l:List Str}{p:Bool},l≠[]->(∀x∈l,KC rs x)->HE rs p ((AD l).cps.toList++r)=HE rs true r
 | [],_,h,_=>absurd rfl h
 | [x],p,_,h=>by
   have F:=h x Ab;rw[NS];show HE rs p (x.cps.toList++r)=_;rw[Sj r F.2,F.ne];simp
 | x::y::l,p,_,h=>by
   have F:=h x Ab;have ih:=VH r (l:=y::l) (p:=false) (by simp) λz G=>h z (Ac _ G)
   rw[NS]at ih⊢
   have e:(Str.join ⟨#[32]⟩ (x::y::l)).cps.toList++r=x.cps.toList++(32::((Str.join ⟨#[32]⟩ (y::l)).cps.toList++r)):=by
    show(x++⟨#[32]⟩++Str.join ⟨#[32]⟩ (y::l)).cps.toList++r=_;rw[EU,EU,Ao,Ao];rfl
   rw[e,Sj _ F.2,F.ne];conv=>lhs;unfold HE
   rw[Aq (by decide),ih];simp
theorem Qj:∀{ls:List (List Str)}{p:Bool},(∀l∈ls,l≠[]/\∀x∈l,KC rs x)->HE rs p (BG ls).cps.toList=true
 | [],_,_=>rfl
 | l::r,p,h=>by
   obtain⟨h1,h2⟩:=h l Ab;have ih:=Qj (ls:=r) (p:=false) λz F=>h z (Ac _ F)
   have e:(BG (l::r)).cps.toList=(AD l).cps.toList++(47::(BG r).cps.toList):=by
    show(AD l++"/"++BG r).cps.toList=_;rw[EU,EU,Ao];rfl
   rw[e,VH _ h1 h2];unfold HE;rw[Aq (by decide),ih];rfl
theorem Sk:∀(ls:List (List Str)),ls≠[]->∃a,(BG ls).cps.toList=a++[47]
 | [],h=>absurd rfl h
 | [l],_=>⟨(AD l).cps.toList,by
    rw[Vv,EU];rfl⟩
 | l::l2::r,_=>by
   obtain⟨a,e⟩:=Sk (l2::r) (by simp);refine⟨(AD l++"/").cps.toList++a,?_⟩;show(AD l++"/"++BG (l2::r)).cps.toList=_;rw[EU,e,Ao]
end Lns
namespace L2
open PySem PySem.Spec PyProof.Rows
section
variable {M:Model}{A:Around}{E:Value->Shared->Prop}{s:Shared}
def P1(S:List Addr)(ch:List Addr)(h h':Heap):Prop:=∀b o,h.get? b=some o->b∉ch->(b∉S->h'.get? b=some o)/\∃F,h'.get? b=some { o with slots:=F }
theorem fZ(o:Obj)(f):(o.mapFields f).dict=o.dict:=by
 obtain⟨c,d,F,G⟩:=o;cases F<;>rfl
def JU(P:Heap->Value->Prop)(h:Heap)(e:Addr)(cls:Value)(dx:Option Addr):Prop :=
 ∃F vs hd,h.get? e=some F/\F.cls=cls/\F.dict=dx/\F.data=.fields vs/\vs[1]?=some hd/\P h hd
def FR(F:Addr->Prop)(e:Addr)(x:Value)(h:Heap)(hd:Value):Prop:=∃T G ts,hd=.ref T/\F T/\T≠e/\h.get? T=some G/\G.data=.fields ts/\ts[3]?=some x
theorem VI(ae:A.frames=some (env::outer))(hl:s.heap.FunFrames base (env::outer))(hf:env.frame=some L)(he:s.heap.get? e=some oe)(hd:oe.data=.fields vs)(hsz:1<vs.size)(h:∀h',s.heap.objs.size<=h'.objs.size->P1 ((env::outer).filterMap (·.frame)) [e] s.heap h'->JU (FR (λb=>s.heap.objs.size<=b) e (rawInt L)) h' e oe.cls oe.dict->Q () { s with heap:=h' }) :
 wpAny M A (do let a <- frameOf env;let pl <- entryPlaceOf L hadNext;let b <- EntryCells.newEntry head a .none (rawInt L) .none pl;setField (.ref e) 1 b) Q E s:=by
 have ad:e∉(env::outer).filterMap (·.frame):=λhm=>by
  obtain⟨_,o,ho,af⟩:=hl.mem hm;rw[he]at ho;injection ho with ho;subst ho;exact af vs hd
 refine A8 (wpAny_frameOf_fun ae hl hf λF G=>?_);refine A8 (wpAny_entryPlaceOf λpl ah=>?_);unfold EntryCells.newEntry newFields;refine A8 (Cy ?_ (ah.sizeOk5 _ _ _ _ _));have W:F.get? e=some oe:=(G.2.1 e ad).trans he;have I:=A9 (h:=F) { cls:=.type "traceback",dict:=none,data:=.fields ([head,.ref L,.none,rawInt L,.none]++(if pl.isEmpty then List.replicate 6 Value.none else pl)).toArray } W;refine Jq I hd hsz ?_;have ac:F.objs.size≠e:=Cz (As W);have J:=Obj.data_mapFields hd (·.setIfInBounds 1 (Value.ref F.objs.size));have aa:=Cj (Obj.mapFields (·.setIfInBounds 1 (Value.ref F.objs.size))) I (Obj.isFreed_of_fields J);have Z:=(Bg (F.push { cls:=.type "traceback",dict:=none,data:=.fields ([head,.ref L,.none,rawInt L,.none]++(if pl.isEmpty then List.replicate 6 Value.none else pl)).toArray })
  (Obj.mapFields (·.setIfInBounds 1 (Value.ref F.objs.size))) (Ne.symm ac)).trans (B4 F rfl)
 have Y:F.objs.size=s.heap.objs.size:=G.1;refine h _ ?_ ?_ ?_
 .rw[Ei,C9,Y];exact D6 _
 .intro b o hb hn;have ag:b≠e:=λq=>hn (Aj.mpr q)
  have keep:∀o,F.get? b=some o->((F.push { cls:=.type "traceback",dict:=none,data:=.fields ([head,.ref L,.none,rawInt L,.none]++(if pl.isEmpty then List.replicate 6 Value.none else pl)).toArray }).update e (Obj.mapFields (·.setIfInBounds 1 (Value.ref F.objs.size)))).get? b=some o:=λo hb=>by
   rw[Bg _ _ (Ne.symm ag)];exact A9 _ hb
  refine⟨λhS=>keep o ((G.2.1 b hS).trans hb),?_⟩;obtain⟨sl,hs⟩:=G.2.2 b o hb;exact⟨sl,keep _ hs⟩
 .exact⟨_,_,.ref F.objs.size,aa,Obj.cls_mapFields _ _,fZ _ _,J,by simp[hsz],F.objs.size,_,_,rfl,E7 Y.symm,ac,Z,rfl,by simp⟩
theorem JU.mono(x:JU P h e cls dx)(f:∀hd,P h hd->P' h hd):JU P' h e cls dx :=
 let ⟨oe,vs,hd,a,b,c,d,g,p⟩:=x
 ⟨oe,vs,hd,a,b,c,d,g,f hd p⟩
theorem FR.mono(t:FR F e x h hd)(f:∀b,F b->F' b):FR F' e x h hd :=
 let ⟨T,oT,ts,a,b,c⟩:=t
 ⟨T,oT,ts,a,f T b,c⟩
def P2(F:Addr->Prop)(e L:Addr)(h:Heap)(hd:Value):Prop:=hd=.none\/∃x,FR F e x h hd
def N0(F:Addr->Prop)(h:Heap)(ch:List Addr):Prop:=∀b∈ch,F b/\∃o vs,h.get? b=some o/\o.data=.fields vs
theorem g7(S ch:List Addr)(h:Heap):P1 S ch h h:=λ_ o e _=>⟨λ_=>e,o.slots,e⟩
theorem g9(ad:A.frames=some (env::outer))(hl:s.heap.FunFrames base (env::outer))(hf:env.frame=some L)(hF:∀b,s.heap.objs.size<=b->F b)(ag:F e)(hx:JU (P2 F e L) s.heap e cls dx)(h:∀h' ch,N0 F s.heap ch->s.heap.objs.size<=h'.objs.size->P1 ((env::outer).filterMap (·.frame)) ch s.heap h'->JU (FR F e (rawInt L)) h' e cls dx->Q () { s with heap:=h' }) :
 wpAny M A (noteFrame (.ref e) env) Q E s:=by
 obtain⟨oe,vs,hd,he,rfl,rfl,J,h1,hp⟩:=hx;have hsz:1<vs.size:=(F7.mp h1).1;unfold noteFrame;simp only[hf];refine A8 (C5 he J h1 ?_);rcases hp with rfl|⟨x,T,oT,ts,rfl,ae,af,hT,W,h3⟩
 .rw[Aq (by decide)];exact VI ad hl hf he J hsz λh' hs ac hx=>h h' [e] (λb hb=>by rw[Aj.mp hb];exact⟨ag,_,_,he,J⟩) hs ac (hx.mono λhd t=>t.mono hF)
 by_cases aa:(x==rawInt L)=true
 .rw[Ar (show(Value.ref T !=Value.none)=true from by simp)];refine A8 (C5 hT W h3 ?_);rw[Ar aa];have h3:ts[3]?=some (rawInt L):=by rw[h3,eq_of_beq aa]
  exact An (h s.heap [] (λb hb=>nomatch hb) (Af _) (g7 _ _ _) ⟨oe,vs,_,he,rfl,rfl,J,h1,T,oT,ts,rfl,ae,af,hT,W,h3⟩)
 .rw[Ar (show(Value.ref T !=Value.none)=true from by simp)];refine A8 (C5 hT W h3 ?_);rw[Aq aa];refine A8 (Jq hT W (F7.mp h3).1 ?_);have G:∀b,b≠T->(s.heap.update T (Obj.mapFields (·.setIfInBounds 3 Value.none))).get? b=s.heap.get? b:=λb hb=>Bg _ _ (Ne.symm hb)
  have I:∀b o,s.heap.get? b=some o->(∀vs,o.data≠.fields vs)->b≠T:=λb o hb Z q=>by
   rw[q,hT]at hb;injection hb with hb;subst hb;exact Z ts W
  have Y:(s.heap.update T (Obj.mapFields (·.setIfInBounds 3 Value.none))).objs.size=s.heap.objs.size:=Ei ..;refine VI (s:={ s with heap:=s.heap.update T (Obj.mapFields (·.setIfInBounds 3 Value.none)) }) ad (hl.of_keeps λb o hb Z=>⟨o,(G b (I b o hb Z)).trans hb,rfl⟩) hf ((G e (Ne.symm af)).trans he) J hsz λh' hs ac hx=>?_
  refine h h' [e,T] (λb hb=>?_) (B3 (E7 Y.symm) hs) (λb o hb hn=>?_) (hx.mono λhd t=>t.mono λb hb=>hF b (B3 (E7 Y.symm) hb))
  .rcases Am.mp hb with rfl|hb
   .exact⟨ag,_,_,he,J⟩
   .rw[Aj.mp hb];exact⟨ae,_,_,hT,W⟩
  .have ah:b≠T:=λq=>hn (by rw[q];exact Ac _ Ab)
   exact ac b o ((G b ah).trans hb) λq=>hn (by rw[Aj.mp q];exact Ab)
theorem gc(ac:F e)(hx:JU (FR F e x) s.heap e cls dx)(h:∀h' ch,N0 F s.heap ch->s.heap.objs.size<=h'.objs.size->P1 S ch s.heap h'->JU (FR F e (fr.elim .none λf=>rawInt f)) h' e cls dx->Q () { s with heap:=h' }) :
 wpAny M A (setFlight (.ref e) fr) Q E s:=by
 obtain⟨oe,vs,hd,he,rfl,rfl,Y,h1,T,oT,ts,rfl,J,W,hT,I,h3⟩:=hx;unfold setFlight;refine A8 (C5 he Y h1 ?_);rw[Ar (show(Value.ref T !=Value.none)=true from by simp)];have Z:=(F7.mp h3).1;refine Jq hT I Z (h _ [T] (λb hb=>by rw[Aj.mp hb];exact⟨J,_,_,hT,I⟩) (E7 (Ei ..).symm) (λb o hb hn=>?_) ?_)
 .have aa:T≠b:=λq=>hn (by rw[q];exact Ab)
  have k:=(Bg s.heap (Obj.mapFields (·.setIfInBounds 3 (fr.elim Value.none λf=>rawInt f))) aa).trans hb;exact⟨λ_=>k,o.slots,k⟩
 .have G:=Obj.data_mapFields I (·.setIfInBounds 3 (fr.elim Value.none λf=>rawInt f));exact⟨oe,vs,_,(Bg _ _ W).trans he,rfl,rfl,Y,h1,T,_,_,rfl,J,W,Cj _ hT (Obj.isFreed_of_fields G),G,by simp[Z]⟩
end
def KQ(X:Cx)(H:Hp)(b:Addr):Prop:=X.s₀.heap.objs.size<=b/\H b=none/\∀p∈X.pn,p.1≠b
section
variable {X:Cx}{pins:List (Addr×Obj)}{σ:St}{H:Hp}{s:Shared}
theorem gf{H:Hp}(hok:EL P w H h)(k:∀b o,h.get? b=some o->H b≠none->h'.get? b=some o):EL P w H h':=λa o e =>
 (hok a o e).stay (λb u hb q=>k b u q (by
   rcases hb with rfl|hb
   .rw[e];exact λz=>nomatch z
   .rw[hb];exact λz=>nomatch z)) (λ_ q=>q) λ_ _ q=>q
theorem AI.exc(I:AI X [] σ H s)(hr:N0 (KQ X H) s.heap ch)(st:P1 (JC X.stack) ch s.heap h'):AI X [] σ H { s with heap:=h' }:=by
 have Y:∀b,H b≠none->b∉ch:=λb hb q=>hb (hr b q).1.2.1
 have W:∀b,H b≠none->b∉JC X.stack:=λb hb q=>hb (I.stkFree b q)
 refine AI.call' (ch:=ch) I rfl ⟨λb o q _ hb J=>(st b o q J).1 hb,λb o q _ _ J=>(st b o q J).2,λ_ _ _ q _=>q,λb o q J=>?_,λ_ _ q=>q,λ_ _ _ q=>q,λb ps q=>⟨#[],by rw[Jz];exact q⟩⟩
  (gf I.hok λb o q hb=>(st b o q (Y b hb)).1 (W b hb)) I.bare λb hb=>?_
 .obtain⟨sl,z⟩:=(st b o q J).2;exact⟨_,z⟩
 .obtain⟨⟨h1,h2,h3⟩,o,vs,ho,hd⟩:=hr b hb;refine⟨.inr h1,λq=>?_,λx c hc q=>?_,λp Z=>?_⟩
  .obtain⟨m,⟨o2,es,ep,G,F,_⟩,_⟩:=I.loc;rw[<-q,ho]at G
   cases G;rw[hd]at F
   cases F
  .obtain⟨v,o2,G,F⟩:=I.cell x c hc;rw[q,ho]at G
   cases G;rw[hd]at F
   cases F
  .rw[Av]at Z
   exact h3 p Z
end
def GW(X:Cx)(E:St->XK)(F:Value)(s:Shared):Prop:=∃e cls dx σ H L,F=.ref e/\X.env.frame=some L/\AI X [] σ H s/\KQ X H e/\JU (P2 (KQ X H) e L) s.heap e cls dx/\E σ cls dx H
abbrev GP(P:Program)(w:World):JF:=λouter H s E F s'=>∃e cls dx H',F=.ref e/\s'.os=s.os/\AllBare s'.gens/\Un (JC outer) [] H H' s.heap s'.heap/\EL P w H' s'.heap /\
 (s.heap.objs.size<=e/\H' e=none)/\JU (FR (λb=>s.heap.objs.size<=b/\H' b=none) e .none) s'.heap e cls dx/\E cls dx H'
section
variable {X:Cx}{pins:List (Addr×Obj)}{σ:St}{H:Hp}{s:Shared}
theorem AI.nopins(I:AI X pins σ H s):AI X [] σ H s:=⟨I.ok,I.os,I.bare,I.base,I.loc,I.cell,I.free,I.freeC,λp F=>I.pin p (Cw _ (by rwa [Av]at F)),I.hok,I.len⟩
theorem AI.pnlt(I:AI X pins σ H s)(h:s.heap.objs.size<=b):∀p∈X.pn,p.1≠b:=λp F q=>by
 have:=As (I.pin p (Cw _ F)).1;exact absurd (Bo this h) (by rw[q];exact Df _)
theorem AI.fr0(I:AI X pins σ H s)(h:s.heap.objs.size<=b):KQ X H b:=⟨B3 I.sz h,I.hok.fresh h,I.pnlt h⟩
theorem Sl(hA:A.frames=some X.stack)(F:X.stack=X.env::X.outer)(h:GW X E ev s)(q:∀h' e cls dx σ H L,ev=.ref e->X.env.frame=some L->AI X [] σ H { s with heap:=h' }->KQ X H e->JU (FR (KQ X H) e (rawInt L)) h' e cls dx->E σ cls dx H->Q () { s with heap:=h' }) :
 wpAny M A (noteFrame ev X.env) Q N s:=by
 obtain⟨e,cls,dx,σ,H,L,rfl,J,I,W,hx,Z⟩:=h;have Y:=I.stack;rw[F]at hA Y
 refine g9 hA Y J (λb hb=>I.fr0 hb) W hx λh' ch hr hs st G=>?_
 exact q h' e cls dx σ H L rfl J (I.exc hr (by rw[F];exact st)) W G Z
theorem Qk(I:AI X [] σ H s)(he:KQ X H e)(hx:JU (FR (KQ X H) e x) s.heap e cls dx)(q:∀h',AI X [] σ H { s with heap:=h' }->JU (FR (KQ X H) e (fr.elim .none λf=>rawInt f)) h' e cls dx->Q () { s with heap:=h' }) :
 wpAny M A (setFlight (.ref e) fr) Q N s :=
 gc (S:=JC X.stack) he hx λh' _ G _ st F=>q h' (I.exc G st) F
theorem Sm(W:X.stack=X.env::X.outer):PassesOwn M X.A X.env (GW X E):=by
 intro ev s h;have hA:X.A.frames=some X.stack:=let ⟨_,_,_,_,_,_,_,_,I,_⟩:=h;I.ok.frames
 refine Sl hA W h λh' e cls dx σ H L J Y I he Z hE=>?_
 subst J;obtain⟨oe,vs,hd,ho,hc,aa,F,h1,T,oT,ts,rfl,r⟩:=id Z;unfold cameBackBy;refine A8 (C5 (s:={ s with heap:=h' }) ho F h1 ?_);rw[Aq (show ¬((Value.ref T==Value.none)=true)from by simp)];rw[Y];exact Qk (s:={ s with heap:=h' }) (fr:=some L) I he Z λh2 I2 G=>⟨e,cls,dx,σ,H,L,rfl,Y,I2,he,G.mono λhd t=>.inr ⟨_,t⟩,hE⟩
theorem HA.wishTo{F:Value->Shared->Prop}{st:List Stmt}{t:TS}(h:HA (X.wish F) st t)(G:∀e s,F e s->X.xe e s):HA X st t:=λpins s σ H D I hw =>
 C8 (h pins s σ H D (I.wish _) hw) (λ_ _ q=>q.unwish) G
end
def VJ(sp:Sp)(E:St->XK)(t:TA):TE:=λσ H Q=>t σ H λvs H1=>sp vs H1 Q (E σ)
section
variable {X:Cx}{k:Nat}{f L:Addr}{fd:FuncData}{ps:List Str}{sp:Sp}{E:St->XK}{x:Str}{p pos:Pos}{e:Expr}{es:List Expr}{t:TA}
theorem gg(Y:X.env.frame=some L)(F:AJ X.prog X.w X.K X.mg X.base (GP X.prog X.w) k f fd ps sp)(hr:BX k X.A)(hb:JS X.K fd ps [])(I:AI (X.wish (GW X E)) pins σ H s)(r:AS vs us)(h:sp vs H Q (E σ)):wpAny (model X.prog X.w) X.A (call (.ref f) us) (EP (X.wish (GW X E)) pins σ Q) (GW X E) s:=by
 have hl:(us++[]).length=ps.length:=by rw[Av,<-r.length];exact F.len _ _ _ _ h
 have J:=hb s us I.kIn hl;rw[Av]at J
 refine Ew (E8 (F.run X.A X.stack s H ⟨us,[]⟩ us vs Q (E σ) hr I.env0 J r h) λr s' G=>?_);cases r with
 | error ev =>
   have G:GP X.prog X.w X.stack H s (E σ) ev s':=G;obtain⟨e,cls,dx,H',rfl,os,bare,un,hok,⟨h1,h2⟩,hx,Z⟩:=G;have W:=I.unwish;have I1:AI X pins σ H' s':=W.call' (ch:=[]) os un hok bare λb z=>absurd z (by simp)
   exact⟨e,cls,dx,σ,H',L,rfl,Y,I1.nopins,⟨B3 W.sz h1,h2,W.pnlt h1⟩,hx.mono λhd t=>.inr ⟨_,t.mono λb hb=>⟨B3 W.sz hb.1,hb.2,W.pnlt hb.1⟩⟩,Z⟩
 | ok fl =>
   cases fl with
   | ret u=>exact I.after G
   | next=>exact False.elim G
   | brk=>exact False.elim G
   | cont=>exact False.elim G
theorem gh(Y:X.env.frame=some L)(F:AJ X.prog X.w X.K X.mg X.base (GP X.prog X.w) k f fd ps sp)(hr:BX k X.A)(J:Gl X x)(hm:X.mg x=some (.ref f))(Z:PySem.W.keepIn X.K (.ref f)=true)(hb:JS X.K fd ps [])
 (ha:PA (X.wish (GW X E)) (e::es) t) (hdb:(x==("__debug__":Str))=false:=by decide) (he:starEach (e::es) X.env=(false,eval e X.env)::starEach es X.env:=by rfl) (hpl:(backTo pos (starEach es X.env)).any (·.1)=false:=by rfl) :
 PE (X.wish (GW X E)) (.Call (.Name x p) (e::es) [] pos) (VJ sp E t):=by
 intro pins s σ H Q I h;refine C3 (Mb I J hm ?_ hdb);refine Dy (h₀:=X.base) I.ok.mod.kin Z (BD (ha pos pins s σ H _ I h) λus s1 ⟨vs,H1,G,r,q⟩=>⟨G.kIn,?_⟩) he hpl;exact gg Y F hr hb G r q
end
section
variable {P:Program}{w:World}{K:Frag}{mg:Str->Option Value}{base:Heap}
abbrev gi(P:Program)(w:World)(K:Frag)(mg:Str->Option Value)(base:Heap)(N:List Str)(qual:Str)(scope:Scope)(f:Addr)(cd:Value)(A:Around)(outer:List Env)(s:Shared)(H:Hp)(E:XK):Cx :=
 (GC (GP P w) P w K mg base N qual scope f cd A outer s H E).wish (GW (GC (GP P w) P w K mg base N qual scope f cd A outer s H E) λ_=>E)
theorem gk{N:List Str}{qual:Str}{scope:Scope}{f:Addr}{cd:Value}{A:Around}{outer:List Env}{s:Shared}{H:Hp}{E:XK} :
 ∀G s',GW (GC (GP P w) P w K mg base N qual scope f cd A outer s H E) (λ_=>E) G s'->(GC (GP P w) P w K mg base N qual scope f cd A outer s H E).xe G s':=by
 intro G s' h;show wpAny (model P w) (A.deeper (envOfC qual scope s.heap.objs.size f cd)) (leaving (envOfC qual scope s.heap.objs.size f cd) G) _ _ s';unfold leaving;refine A8 (Sl (X:=GC (GP P w) P w K mg base N qual scope f cd A outer s H E) (let ⟨_,_,_,_,_,_,_,_,I,_⟩:=h;I.ok.frames) rfl h λh' e cls dx σ H1 L W hL I Y hx Z=>?_);subst W;refine Qk (s:={ s' with heap:=h' }) (fr:=none) I Y hx λh2 F J=>?_
 exact⟨e,cls,dx,H1,rfl,F.os,F.bare,F.base,F.hok,⟨Y.1,Y.2.1⟩,J.mono λhd t=>t.mono λb hb=>⟨hb.1,hb.2.1⟩,Z⟩
theorem Mh.okX{x qual:Str}{st:Stmt}{f:Addr}{fd:FuncData}{N ps:List Str}{k:Nat}{sp:Sp}(F:Mh K x qual st f fd)(S:AE N ps (BJ st))(len:∀vs H Q E,sp vs H Q E->vs.length=ps.length)
 (hbody:∀(G:Value) (A:Around) (outer:List Env) (s:Shared) (H:Hp) (vs:List V) (Q:VK) (E:XK),BX k (A.deeper (envOfC qual (BJ st) s.heap.objs.size f G))->sp vs H Q E ->
   ∃t,HA (gi P w K mg base N qual (BJ st) f G A outer s H E) (HK st) t/\t { nx:=λ_ H'=>Q .non H',rt:=Q } (start N vs) H):AJ P w K mg base (GP P w) (k+1) f fd ps sp:=by
 obtain⟨oc,Z,kV,doc,pm,an,G,ct,Y,rfl,lk,J⟩:=F.ex;refine RD lk J S len λA outer s H vs Q E W I=>?_
 obtain⟨t,h,q⟩:=hbody G A outer s H vs Q E W I;exact⟨t,h.wishTo gk,q⟩
end
open PySem.W PySem.Calls
abbrev KS:List Value:=[.type "ValueError",.type "Exception",.type "BaseException",.type "object"]
section
variable {prog:Program}{w:World}{A:Around}{R:Result->Shared->Prop}{h:Heap}{g:Array GenState}{d:Drawn}{t:Nat}{os:OsState}
variable {nm q:Str}{C N:Addr}{bs bm:List Value}{hdct:Bool}{sn:List Str}{sub:List Value}{ab:Bool}{col:Option Bool}{dd:Option Addr}{k0 k1 k2 k3 k5:Option Value}
abbrev HW(C:Addr)(t:Addr)(dx:Option Addr):Obj:={ cls:=.ref C,dict:=dx,data:=.fields #[.ref t,.none,.none,.none,.bool false,.none] }
theorem gn{E:Value->Shared->Prop}{f:Addr}{mN:Str->Option Value}{rest:List Value}{Q:Fin->Shared->Prop}(T:OwnTail h KS bm)(Z:h.get? C=some (excClassObj nm q C N bs bm hdct sn sub ab col dd k0 k1 k2 k3 k5 "ValueError.__new__"))(hn:h.Ns N mN)
 (hni:mN "__init__"=some (.ref f)) (hb:∀self,Looks (model prog w) h (bindSpecial (.ref f) self) (.ref f,[self])) (hrest:rest.length<=sizeLine)
 (hq:codeAny (model prog w) A (.call (.ref f) ⟨.ref (h.objs.size+1)::rest,[]⟩) (λr s'=>match r with|.ok (.ret v)=>v=.none/\Q (.done (.ret (.ref (h.objs.size+1)))) s'|.ok _=>False|.error x=>E x s')
   ⟨(h.push { cls:=.type "tuple",data:=.seq rest.toArray }).push (HW C h.objs.size none),g,d,t,os⟩) :
 wpAny (model prog w) A (Builtin.«type.__call__» ⟨.ref C::rest,[]⟩) Q E ⟨h,g,d,t,os⟩:=by
 have F:=F8;have Y:KS.contains (.type "ValueError")=true:=by decide
 repeat (first|with_reducible refine Cc Z ?_|with_reducible refine wpAny_madeBy_exc Z ?_|wp_step)
 refine Hr (Ft _ F.quiet) (wpAny_check_new_subU F Y T Z ?_);refine codeAny_exc_new_subU F Y F T Z ?_ hrest;show wpAny _ _ _ _ _ _;have G:=A9 { cls:=.ref C,data:=.fields #[.ref h.objs.size,.none,.none,.none,.bool false,.none] }
  (A9 { cls:=.type "tuple",data:=.seq rest.toArray } Z)
 have I:((h.push { cls:=.type "tuple",data:=.seq rest.toArray }).push { cls:=.ref C,data:=.fields #[.ref h.objs.size,.none,.none,.none,.bool false,.none] }).Ns N mN :=
  let ⟨o,es,ep,e,r⟩:=hn;⟨o,es,ep,A9 _ (A9 _ e),r⟩
 have J:((h.push { cls:=.type "tuple",data:=.seq rest.toArray }).push
  { cls:=.ref C,data:=.fields #[.ref h.objs.size,.none,.none,.none,.bool false,.none] }).get? (h.objs.size+1)=some
  { cls:=.ref C,data:=.fields #[.ref h.objs.size,.none,.none,.none,.bool false,.none] }:=by heap_get
 have aa:(Value.ref C::bm).contains (.ref C)=true:=by simp
 have W:=T.keeps (h':=(h.push { cls:=.type "tuple",data:=.seq rest.toArray }).push { cls:=.ref C,data:=.fields #[.ref h.objs.size,.none,.none,.none,.bool false,.none] })
  λb o e=>A9 _ (A9 _ e)
 have b1:=(hb (.ref (h.objs.size+1))).keeps (h':=(h.push { cls:=.type "tuple",data:=.seq rest.toArray }).push { cls:=.ref C,data:=.fields #[.ref h.objs.size,.none,.none,.none,.bool false,.none] })
  λb o e=>A9 _ (A9 _ e)
 unfold isInstance;repeat (first|with_reducible refine Cc J ?_|(with_reducible refine Ee G ?_;rw[aa])|wp_step)
 show wpAny _ _ (typeLookup (.ref C) _) _ _ _;refine wpAny_typeLookup_tail G I W F.mroIs F.init.lookup ?_;rw[hni];refine Cu (A8 (b1.here ?_));refine A8 (Ew ?_);refine E8 hq λr s' z=>?_
 rcases r with e|(v|_|_|_)<;>first|exact z|exact z.elim|skip
 obtain⟨rfl,z⟩:=z;exact An (An z)
theorem gq{f:Addr}{G:Str->Option Value}{rest:List Value}(T:OwnTail h KS bm)(F:h.get? C=some (excClassObj nm q C N bs bm hdct sn sub ab col dd k0 k1 k2 k3 k5 "ValueError.__new__"))(I:h.Ns N G)
 (hni:G "__init__"=some (.ref f)) (hb:∀self,Looks (model prog w) h (bindSpecial (.ref f) self) (.ref f,[self])) (hrest:rest.length<=sizeLine)
 (hq:codeAny (model prog w) (A.under (.builtin "type.__call__" ⟨.ref C::rest,[]⟩)) (.call (.ref f) ⟨.ref (h.objs.size+1)::rest,[]⟩) (InitBack (h.objs.size+1) R)
   ⟨(h.push { cls:=.type "tuple",data:=.seq rest.toArray }).push (HW C h.objs.size none),g,d,t,os⟩) :
 codeAny (model prog w) A (.call (.ref C) ⟨rest,[]⟩) R ⟨h,g,d,t,os⟩:=by
 have J:=tc_lookup;have Y:=PySem.tc_bind (.ref C);have W:(⟨h,g,d,t,os⟩:Shared).TypeIs (.ref C) "type":=⟨_,F,rfl⟩
 refine codeAny_of_tree ?_;show wpAny _ _ (callAny (.ref C) _) _ _ _;repeat (any_goals (first|assumption|with_reducible refine Cc F ?_|wp_step))
 refine⟨rfl,?_⟩;refine Iv (Ft _ (by decide +kernel)) entry_typeCall (Hs F ?_);exact gn T F I hni hb hrest (E8 hq λr s' z=>by
  rcases r with e|(v|_|_|_)<;>first|exact z|exact z.elim)
end
theorem gr{K:Frag}{h:Heap}{N:Addr}{mg:Str->Option Value}{n:Str}{v:Value}(X:K.In h)(G:h.Ns N mg)(e:nsIn K N n=some (some v)):mg n=some v:=by
 obtain⟨o,es,ep,F,hd,_,I⟩:=G;unfold nsIn at e;split at e
 .rename_i c d Y Z sl q;have:=X _ _ q;rw[F]at this
  cases this;cases hd;split at e
  .rename_i en J;cases e;rw[<-I];unfold nsFind findBy;rw[<-Jw,J];rfl
  .split at e<;>cases e
 .cases e
def HX(K:Frag)(C:Addr)(init:Option Addr):Bool:=match K.lookup C with
 | some ⟨.type "type",_,.cls cd,sl⟩=>(match cd.mro,sl.toList with
   | .ref F::bm,[_,_,_,_,some (.builtin n),_]=>F==C&&n=="ValueError.__new__"&&!cd.hasDel&&tailIn K KS bm&&nsOkIn K cd.ns&&nsIn K cd.ns "__init__"==some (init.map Value.ref)
   | _,_=>false)
 | _=>false
theorem N1{K:Frag}{h:Heap}{C:Addr}{init:Option Addr}(X:K.In h)(q:HX K C init=true) :
 ∃bm N nm J bs hd sn sub ab col dd k0 k1 k2 k3 k5 mN,h.get? C=some (excClassObj nm J C N bs bm hd sn sub ab col dd k0 k1 k2 k3 k5 "ValueError.__new__")/\h.Ns N mN/\mN "__init__"=init.map Value.ref/\OwnTail h KS bm:=by
 unfold HX at q;split at q
 .rename_i dd cd Z ho;split at q
  .rename_i C' bm k0 k1 k2 k3 n k5 hm hs;simp only[Aw,C2,Bool.not_eq_true']at q;obtain⟨⟨⟨⟨⟨rfl,rfl⟩,F⟩,ht⟩,hok⟩,I⟩:=q;obtain⟨nm,bs,mro,ns,J,hd,sn,sub,ab,col,aa⟩:=cd;dsimp only at hm F hok I;subst hm F;have Y:Z=#[k0,k1,k2,k3,some (.builtin "ValueError.__new__"),k5]:=by
    obtain⟨l⟩:=Z;simp only at hs;rw[hs]
   subst Y;have G:h.Ns ns (h.nsMap ns):=.of_isNs (isNs_of_in X hok);refine⟨bm,ns,nm,J,bs,hd,sn,sub,ab,col,dd,k0,k1,k2,k3,k5,_,X _ _ ho,G,?_,tail_of_in X ht⟩;cases init with
   | none=>exact ns_none_of X G I
   | some f=>exact gr X G I
  .cases q
 .cases q
theorem VL{K:Frag}{h h':Heap}{C:Addr}{init:Option Addr}(X:K.In h)(G:K.In h')(q:HX K C init=true):h'.get? C=h.get? C:=by
 unfold HX at q;split at q
 .rename_i F;rw[X _ _ F,G _ _ F]
 .cases q
abbrev XO(e C:Addr)(dx:Option Addr):HO:=.ext λh=>∃t,h.get? e=some (HW C t dx)
structure VM(K:Frag)(C f:Addr):Prop where
 cls:HX K C (some f)=true
 fn:PySem.W.isFn K (.ref f)=true
 kp:PySem.W.keepIn K (.ref C)=true
section
variable {X:Cx}{CX:JF}{k:Nat}{f C:Addr}{fd:FuncData}{ps:List Str}{sp:Sp}{x m:Str}{p pos apos:Pos}{e o:Expr}{es:List Expr}{ta:TE}{t:TA}{pins:List (Addr×Obj)}{σ:St}{H:Hp}{s:Shared}
theorem AI.exmade{vs:List Value}(I:AI X pins σ H s):AI X pins σ (upd H (s.heap.objs.size+1) (XO (s.heap.objs.size+1) C none))
 { s with heap:=(s.heap.push { cls:=.type "tuple",data:=.seq vs.toArray }).push (HW C s.heap.objs.size none) }:=by
 have F:((s.heap.push { cls:=.type "tuple",data:=.seq vs.toArray }).push (HW C s.heap.objs.size none)).get? (s.heap.objs.size+1)=some (HW C s.heap.objs.size none):=by
  have:=B4 (s.heap.push { cls:=.type "tuple",data:=.seq vs.toArray }) (o:=HW C s.heap.objs.size none) rfl
  rwa [C9]at this
 refine I.laid (t':=s.toks) (λb u q=>A9 _ (A9 _ q)) (D6 _) ⟨⟨_,F⟩,⟨_,F⟩,?_⟩;rintro h1 h2 ⟨t,e⟩ k;exact⟨t,k _ e⟩
theorem gu{Q:VK}{us:List Value}{vs:List V}(M:VM X.K C f)(F:AJ X.prog X.w X.K X.mg X.base BL k f fd ps sp)(hr:BX (k+1) X.A)(hb:JS X.K fd ps [])(I:AI X pins σ H s)(r:AS vs us)(hlen:vs.length<=10)
 (hq:sp (.ref (s.heap.objs.size+1)::vs) (upd H (s.heap.objs.size+1) (XO (s.heap.objs.size+1) C none)) (λv H2=>v=.non/\Q (.ref (s.heap.objs.size+1)) H2) E0) :
 wpAny (model X.prog X.w) X.A (call (.ref C) us) (EP X pins σ Q) X.xe s:=by
 have W:=AI.exmade (C:=C) (vs:=us) I;have r2:AS (V.ref (s.heap.objs.size+1)::vs) (Value.ref (s.heap.objs.size+1)::us):=.cons rfl r;have hl:(Value.ref (s.heap.objs.size+1)::us++[]).length=ps.length:=by
  have e:=r2.length;rw[F.len _ _ _ _ hq]at e
  rw[Av];exact e.symm
 obtain⟨bm,N,nm,qn,bs,hd,sn,sub,ab,col,dd,k0,k1,k2,k3,k5,mN,hC,hn,Z,T⟩:=N1 I.kIn M.cls;have aa:us.length<=sizeLine:=DD (by have:=r.length;lia);have J:=hb { s with heap:=(s.heap.push { cls:=.type "tuple",data:=.seq us.toArray }).push (HW C s.heap.objs.size none) } (Value.ref (s.heap.objs.size+1)::us) W.kIn hl;rw[Av]at J
 obtain⟨Y,g,d,tk,os⟩:=s;refine Ew (gq T hC hn Z (λself=>bind_fn I.kIn self (C2.mp M.fn)) aa (E8 (F.run _ X.stack _ _ ⟨Value.ref (Y.objs.size+1)::us,[]⟩ (Value.ref (Y.objs.size+1)::us) _ _ E0 (hr.make C us [])
  (W.env0.make C us []) J r2 hq) λr s' G=>?_))
 cases r with
 | error e=>exact False.elim G
 | ok fl =>
   cases fl with
   | ret u =>
     obtain⟨v,H',I3,rv,ev,q3⟩:=W.after G;subst ev;exact⟨rv,⟨V.ref (Y.objs.size+1),H',I3,rfl,q3⟩⟩
   | next=>exact False.elim G
   | brk=>exact False.elim G
   | cont=>exact False.elim G
end
open Builtin Builtin.ObjectAttr
theorem gv{h:Heap}{o:Obj}{b:Addr}(hb:b<h.objs.size):(h.push o).get? b=h.get? b:=by
 have e:(h.push o).objs[b]?=h.objs[b]?:=by
  cases h;simp[Heap.push,Array.getElem?_push];intro q;exact absurd q (Be hb)
 unfold Heap.get?;rw[e]
def P3:List Value->Bool
 | []=>false
 | .ref c::r=>P3 r
 | v::r=>(v::r)==KS
theorem Sn(self:Value):∀{l:List Value},P3 l=true->refuseLoop self "__setattr__" l=pure ()/\l.contains (.type "object")=true
 | [],e=>by cases e
 | v::r,e=>by
   cases v with
   | ref c =>
     have ih:=Sn self (l:=r) e;rw[refuseLoop_ref,Hq,ih.2];exact⟨ih.1,Fd _⟩
   | _ =>
     have G:=C2.mp (show((_::r)==KS)=true from e);rw[G];exact⟨PySem.F.store_ValueError.passes self,by decide⟩
section
variable {prog:Program}{w:World}{A:Around}{K:Frag}{C x:Addr}{s:Shared}{R:Result->Shared->Prop}
theorem gw (X:K.In s.heap) (I:PySem.W.InstAt s.heap x ox C od) (J:clsIn K C=some cd) (G:P3 cd.mro=true) (Z:findIn K (.ref C) name=some none) (h:wpAny (model prog w) A.in1 (storeInOwnDict (.ref x) (.ref C) (.str name tk) name v false)
 (λfin s'=>match fin with|.done f=>R (.ok f) s'|.again Y=>Y.quiet=true/\codeAny (model prog w) A Y R s') (λe s'=>R (.error e) s') s) :
 codeAny (model prog w) A (.call (.builtin "object.__setattr__") ⟨[.ref x,.str name tk,v],[]⟩) R s:=by
 have SF:=PySem.F.store_object;have ne:cd.mro.isEmpty=false:=by cases q:cd.mro with|nil=>rw[q]at G;cases G|cons _ _=>rfl
 have sub:Looks (model prog w) s.heap (isInstance (.ref x) (.type "object")) true:=I.type.andThen (looks_mroIn X (by unfold mroIn;rw[J,Option.bind_some,Aq (by rw[ne];decide),(Sn (.ref x) G).2]));refine F4 SF.slot.plain SF.entry (@check_slot (model prog w) _ _ s "object.__setattr__" "object" "__setattr__" (.ref x) [.str name tk,v] [] _ SF.kind SF.split sub (SF.args (.ref x) (.str name tk) v) ?_);have hm:Looks (model prog w) s.heap (mroOf (.ref C)) cd.mro:=(looks_clsIn X J).andThen .now;rw[osa_eq,refuse_eq];refine A8 (A8 (I.type.here (A8 (hm.here ?_))));rw[(Sn (.ref x) G).1];refine An (A8 (I.type.here (A8 ((looks_findIn X Z).here (A8 ?_)))));exact An h
structure XF(K:Frag)(C:Addr)(f:Str):Prop where
 cd:∃cd,clsIn K C=some cd/\P3 cd.mro=true/\cd.hasDict=true
 sa:findIn K (.ref C) "__setattr__"=some (some (.builtin "object.__setattr__"))
 no:findIn K (.ref C) f=some none
theorem gx(X:K.In s.heap)(hx:s.heap.get? x=some (HW C t none))(F:XF K C name)(h:∀h' k,s.heap.objs.size<=h'.objs.size->(∀b o,b≠x->s.heap.get? b=some o->h'.get? b=some o)->h'.get? x=some (HW C t (some s.heap.objs.size))->h'.Ns1 s.heap.objs.size (λy=>if y=name then some v else none)->Q () { s with heap:=h',toks:=k }) :
 wpAny (model prog w) A (setAttr (.ref x) name v) Q E s:=by
 obtain⟨⟨cd,hc,ht,hd⟩,ad,ag⟩:=F;have J:PySem.W.InstAt s.heap x (HW C t none) C none:=⟨hx,rfl,rfl,True.intro⟩
 refine set_plain X J ad (gw (s:={ s with toks:=s.toks+1 }) X J hc ht ag ?_);have I:x≠s.heap.objs.size:=Be (As hx);refine A8 (An (A8 (A8 (wpAny_loadPart (s:={ s with toks:=s.toks+1 }) hx (A8 (Jx (s:={ s with toks:=s.toks+1 }) (looks_clsIn X hc) ?_))))));rw[hd];show wpAny _ _ (do
  let d <- alloc { cls:=Value.type "dict",data:=Data.dict #[] }
  update x λo=>{ o with dict:=some d }
  dictMade (.ref C) x d) _ _ _
 refine A8 (wpAny_alloc (A8 ?_));have Y:=A9 (h:=s.heap) emptyDict hx;refine wpAny_update (o:=HW C t none) (s:={ s with heap:=s.heap.push emptyDict,toks:=s.toks+1 }) Y ?_;show wpAny _ _ (pure (some s.heap.objs.size)) _ _ _;refine An ?_;have e1:(s.heap.push emptyDict).get? s.heap.objs.size=some emptyDict:=B4 s.heap rfl;have e2:((s.heap.push emptyDict).update x λo=>{ o with dict:=some s.heap.objs.size }).get? s.heap.objs.size=some emptyDict:=(Bg _ _ I).trans e1;have e3:((s.heap.push emptyDict).update x λo=>{ o with dict:=some s.heap.objs.size }).get? x=some (HW C t (some s.heap.objs.size)):=Cj _ Y rfl;have n1:((s.heap.push emptyDict).update x λo=>{ o with dict:=some s.heap.objs.size }).Ns1 s.heap.objs.size (λ_=>none):=Heap.Ns1.of_empty ⟨emptyDict,#[],_,e2,rfl,(λe he=>absurd he (by simp)),λ_=>rfl⟩;have k1:∀b o,b≠x->s.heap.get? b=some o->((s.heap.push emptyDict).update x λo=>{ o with dict:=some s.heap.objs.size }).get? b=some o:=λb o hb q=>(Bg _ _ (Ne.symm hb)).trans (A9 _ q)
 have z1:((s.heap.push emptyDict).update x λo=>{ o with dict:=some s.heap.objs.size }).objs.size=s.heap.objs.size+1:=by rw[Ei,C9]
 generalize ((s.heap.push emptyDict).update x λo=>{ o with dict:=some s.heap.objs.size })=h1 at e2 e3 n1 k1 z1⊢;refine A8 (An (A8 ?_));refine wpAny_nsSet1 (s:={ s with heap:=h1,toks:=s.toks+1 }) n1 λh' Z G=>?_
 obtain⟨oD,ah,ai,ae,ac,af⟩:=Z.count (K6 (ns:=[]) name v (λy hy=>absurd rfl hy));refine A8 (wpAny_lookBehind ae (by rw[ac];exact pastItsLine_dict (B3 af (B3 (DD (show 1<=100000 by decide)) (D6 _)))) ?_);refine An (h h' _ ?_ (λb o hb q=>?_) ?_ Z)
 .rw[G.1];show s.heap.objs.size<=h1.objs.size
  lia
 .have aa:b≠s.heap.objs.size:=Be (As q);exact(G.2 b aa).trans (k1 b o hb q)
 .exact(G.2 x I).trans e3
end
section
variable {X:Cx}{pins:List (Addr×Obj)}{σ:St}{H:Hp}{s:Shared}
theorem AI.exset{e C t:Addr}{y:V}{u:Value}{f:Str}{h':Heap}{k:Nat}(I:AI X pins σ H s)(he:H e=some (XO e C none))(ry:AX y u)
 (k1:∀b o,b≠e->s.heap.get? b=some o->h'.get? b=some o) (e3:h'.get? e=some (HW C t (some s.heap.objs.size))) (n1:h'.Ns1 s.heap.objs.size (λz=>if z=f then some u else none)) :
 AI X pins σ (upd (upd H s.heap.objs.size (.xd [(f,y)])) e (XO e C (some s.heap.objs.size))) { s with heap:=h',toks:=k }:=by
 obtain⟨J,es,ep,W,r⟩:=id n1;have Z:J.isFreed=false:=(Heap.get?_some_iff.mp W).2;have g1:(s.heap.push J).get? s.heap.objs.size=some J:=B4 s.heap Z;have aa:e≠s.heap.objs.size:=Be (I.hok.lt he);have I1:=I.laid (a:=s.heap.objs.size) (o:=.xd [(f,y)]) (h':=s.heap.push J) (t':=s.toks) (λb u q=>A9 _ q) (Af _) ⟨_,⟨J,es,ep,g1,r⟩,λg=>by
  show ED (List.lookup g [(f,y)]) (if g=f then some u else none);by_cases q:g=f
  .rw[Ar q,q];simp;exact ry
  .rw[Aq q];have:List.lookup g [(f,y)]=none:=by simp[q]
   rw[this];exact True.intro⟩
 refine I1.write (x:=e) (e:=e) (h':=h') (o:=XO e C (some s.heap.objs.size)) (t':=k) (by rw[BV aa,he];exact True.intro) (.inl rfl) (λb v hb q=>?_) ⟨_,e3⟩ ⟨⟨_,e3⟩,⟨_,e3⟩,?_⟩
 .by_cases G:b=s.heap.objs.size
  .subst G;rw[g1]at q
   cases q;exact W
  .refine k1 b v hb ?_;have Y:=As q;rw[C9]at Y
   have F:b<s.heap.objs.size:=K0 (Nat.lt_succ_iff.mp Y) G
   rwa [gv F]at q
 .rintro h1 h2 ⟨t,q⟩ kk;exact⟨t,kk _ q⟩
def gy(K:Frag)(ta tv:TE)(f:Str):TS:=λD σ H=>tv σ H λy H1=>ta σ H1 λx H2=>∃e C,x=.ref e/\H2 e=some (XO e C none)/\XF K C f/\∀dx,H2 dx=none->D.nx σ (upd (upd H2 dx (.xd [(f,y)])) e (XO e C (some dx)))
theorem So(ha:PE X o ta)(hv:PE X value tv)(hs:swapsWith value (some (.Attribute o f pos')) pos.line X.env=pure false):PS X (.Assign [.Attribute o f pos'] value pos) (gy X.K ta tv f):=by
 intro pins s σ H D I h;refine Gb (BD (hv pins s σ H _ I h) λu s1 ⟨y,H1,I1,W,q⟩=>BD (ha pins s1 σ H1 _ I1 q) λov s2 ⟨x,H2,G,rx,e,C,ex,J,F,Z⟩=>?_) hs;subst ex;obtain rfl:ov=Value.ref e:=rx;obtain⟨⟨t,he⟩,_⟩:=G.hok e _ J;refine gx G.kIn he F λh' k _ k1 Y n1=>?_
 exact⟨σ,_,G.exset J W k1 Y n1,Z _ G.fresh⟩
end
structure BI(K:Frag)(CB:Addr):Prop where
 reads:readsIn K CB (.type "type")=true
 find:findCls K (.ref CB) (.type "type") "__init__"=some (.val (.builtin "ValueError.__init__"))
 ga:specialIn K (.ref CB) "__getattribute__"=some (some (.builtin "type.__getattribute__"))
section
variable {X:Cx}{pins:List (Addr×Obj)}{σ:St}{H:Hp}{s:Shared}
theorem gz(I:AI X pins σ H s)(Y:H e=some (XO e C dx))(Z:HX X.K C init=true)(q:Q .non H) :
 wpAny (model X.prog X.w) X.A (call (.builtin "ValueError.__init__") [.ref e,u]) (EP X pins σ Q) X.xe s:=by
 obtain⟨⟨t0,J⟩,_⟩:=I.hok e _ Y;obtain⟨bm,N,nm,qn,bs,hd,sn,sub,ab,col,dd,k0,k1,k2,k3,k5,mN,Z,hn,aa,T⟩:=N1 I.kIn Z;have F:=F8;obtain⟨G,g,d,tk,os⟩:=s;refine Ew (F4 F.init.plain F.initEntry (wpAny_check_init_subU F T Z J rfl ?_))
 wp_walk
 have J:G.get? e=some (HW C t0 dx):=J;have I1:=I.kept (h':=G.push { cls:=Value.type "tuple",data:=Data.seq #[u] }) (t':=tk) (λb u q=>A9 _ q);have W:((G.push { cls:=Value.type "tuple",data:=Data.seq #[u] }).update e (Obj.mapFields λx=>x.setIfInBounds 0 (Value.ref G.objs.size))).get? e=some (HW C G.objs.size dx) :=
  Cj _ (A9 _ J) rfl
 have I2:=I1.write (x:=e) (e:=e) (o:=XO e C dx) (h':=(G.push { cls:=Value.type "tuple",data:=Data.seq #[u] }).update e (Obj.mapFields λx=>x.setIfInBounds 0 (Value.ref G.objs.size))) (t':=tk)
  (by rw[Y];exact True.intro) (.inl rfl) (λb v hb q=>(Bg _ _ (Ne.symm hb)).trans q) ⟨_,W⟩ ⟨⟨_,W⟩,⟨_,W⟩,λh1 h2 ⟨t,z⟩ kk=>⟨t,kk _ z⟩⟩
 have eH:upd H e (XO e C dx)=H:=by
  funext b
  by_cases hb:b=e
  .subst hb;rw[AA,Y]
  .rw[BV hb]
 rw[eH]at I2
 exact⟨.non,H,I2,rfl,q⟩
def gC(K:Frag)(t:TA):TE:=λσ H Q=>t σ H λvs H1=>∃e C dx init x,vs=[.ref e,.str x]/\H1 e=some (XO e C dx)/\HX K C init=true/\Q .non H1
theorem Sq (F:BI X.K CB) (Y:Gl X x) (hm:X.mg x=some (.ref CB)) (ha:PA X (e::es) t) (hdb:(x==("__debug__":Str))=false:=by decide) (hst:starEach (e::es) X.env=(false,eval e X.env)::starEach es X.env:=by rfl) (hpl:(backTo pos (starEach es X.env)).any (·.1)=false:=by rfl) (ht:eval (.Call (.Attribute (.Name x np) "__init__" apos) (e::es) [] pos) X.env=(do
 let ov <- eval (.Name x np) X.env
 standAt apos.atName
 let (f,first) <- holding [ov] (getMethod ov "__init__" pl)
 callWith pos f first (backTo pos (starEach (e::es) X.env)) (backToKw pos (keywordEach [] X.env))):=by rfl) :
 PE X (.Call (.Attribute (.Name x np) "__init__" apos) (e::es) [] pos) (gC X.K t):=by
 intro pins s σ H Q I h;refine Gc (pl:=pl) (Mb I Y hm ?_ hdb) ht;refine method_cls I.kIn F.ga (cls_value I.kIn F.reads F.find rfl ?_);have hA:=ha pos pins { s with toks:=s.toks+1 } σ H _ (I.tok _) h;rw[hst]at hA⊢
 refine Calls.callWith_builtin (by show(false||(backTo pos (starEach es X.env)).any (·.1))=false;rw[hpl]<;>rfl) (Calls.evalArgs_plain ?_);refine BD hA λus s2 ⟨vs,H2,Z,G,ex,C,dx,init,z,J,he,hC,q⟩=>?_
 subst J;cases G with
 | cons r1 G =>
   cases G with
   | cons G r3 =>
     cases r3;obtain rfl:=(show _=Value.ref ex from r1)
     exact gz Z he hC q
def Ss(tv:TE):TE:=λσ H Q=>tv σ H λv H1=>∃i:Int,v=.int i/\i.natAbs<=1000000000/\∀x:Str,x.length<=2000->Q (.str x) H1
theorem VN(h:n<=1000000000):n.log2<1920:=by
 by_cases F:n=0
 .subst F;decide
 .have h1:n<2^30:=Hj h (by decide);exact Nat.lt_trans ((Nat.log2_lt F).mpr h1) (by decide)
theorem P4(Y:PE X value tv):PE X (.FormattedValue value (-1) none pos) (Ss tv):=by
 intro pins s σ H Q I h;refine wpAny_FormattedValue_plain (BD (Y pins s σ H _ I h) λv Z ⟨y,H1,W,F,i,G,hi,q⟩=>?_);subst G;obtain⟨t,rfl⟩:=F;have J:(Str.ofString (toString i)).length<=2000:=by
  have e:=int_text_length_le (k:=1920) (by decide) (VN hi);rw[PySem.ofString_length]
  lia
 exact wpAny_formatField_int (VN hi) ⟨.str _,H1,W.tok _,⟨_,rfl⟩,q _ J⟩
def gD(I J:TE):TE:=λσ H Q=>I σ H λa H1=>∃G:Str,a=.str G/\G.length<=2000/\J σ H1 λb H2=>∃F:Str,b=.str F/\F.length<=2000/\∀x,Q (.str x) H2
theorem VO(h1:PE X v1 t1)(h2:PE X v2 t2):PE X (.JoinedStr [v1,v2] pos) (gD t1 t2):=by
 intro pins s σ H Q I h;refine wpAny_JoinedStr ?_;show wpAny _ _ (eval v1 X.env) _ _ _;refine BD (h1 pins s σ H _ I h) λa s1 ⟨y1,H1,I1,r1,F,e1,l1,q1⟩=>?_
 subst e1;obtain⟨G,rfl⟩:=r1;have Y:(Str.empty++F).length=F.length:=by rw[Bl];show 0+_=_;lia
 refine⟨F,G,rfl,by rw[Y];exact DD (by lia),?_⟩;show wpAny _ _ (eval v2 X.env) _ _ _;refine BD (h2 pins s1 σ H1 _ I1 q1) λb s2 ⟨y2,H2,I2,r2,Z,e2,l2,q2⟩=>?_
 subst e2;obtain⟨J,rfl⟩:=r2;have W:(Str.empty++F++Z).length<=sizeLine:=by rw[Bl,Y];exact DD (by lia)
 exact⟨Z,J,rfl,W,W,.str _,H2,I2.tok _,⟨_,rfl⟩,q2 _⟩
def gE(J W Z:TE):TE:=λσ H Q=>J σ H λa H1=>∃I:Str,a=.str I/\I.length<=2000/\W σ H1 λb H2=>∃F:Str,b=.str F/\F.length<=2000/\Z σ H2 λc Y=>∃G:Str,c=.str G/\G.length<=2000/\∀x,Q (.str x) Y
theorem Su(h1:PE X v1 t1)(h2:PE X v2 t2)(h3:PE X v3 t3):PE X (.JoinedStr [v1,v2,v3] pos) (gE t1 t2 t3):=by
 intro pins s σ H Q I h;refine wpAny_JoinedStr ?_;show wpAny _ _ (eval v1 X.env) _ _ _;refine BD (h1 pins s σ H _ I h) λa s1 ⟨y1,H1,I1,r1,F,e1,l1,q1⟩=>?_
 subst e1;obtain⟨W,rfl⟩:=r1;have z0:(Str.empty++F).length=F.length:=by rw[Bl];show 0+_=_;lia
 refine⟨F,W,rfl,by rw[z0];exact DD (by lia),?_⟩;show wpAny _ _ (eval v2 X.env) _ _ _;refine BD (h2 pins s1 σ H1 _ I1 q1) λb s2 ⟨y2,H2,I2,r2,G,e2,l2,q2⟩=>?_
 subst e2;obtain⟨Y,rfl⟩:=r2;have Z:(Str.empty++F++G).length=F.length+G.length:=by rw[Bl,z0]
 refine⟨G,Y,rfl,by rw[Z];exact DD (by lia),?_⟩;show wpAny _ _ (eval v3 X.env) _ _ _;refine BD (h3 pins s2 σ H2 _ I2 q2) λc s3 ⟨y3,H3,I3,r3,x3,e3,l3,q3⟩=>?_
 subst e3;obtain⟨J,rfl⟩:=r3;have z2:(Str.empty++F++G++x3).length<=sizeLine:=by rw[Bl,Z];exact DD (by lia)
 exact⟨x3,J,rfl,z2,z2,.str _,H3,I3.tok _,⟨_,rfl⟩,q3 _⟩
end
def unt(H:Hp)(e:Addr):Hp:=λb=>if b=e then none else H b
theorem Ql{H:Hp}{e:Addr}:unt H e e=none:=by unfold unt;rw[Ar rfl]
theorem Qm(h:b≠e):unt H e b=H b:=by unfold unt;rw[Aq h]
section
variable {M:Model}{A:Around}{E:Value->Shared->Prop}{env:Env}
variable {nm q:Str}{C N:Addr}{bs bm:List Value}{hdct:Bool}{sn:List Str}{sub:List Value}{ab:Bool}{col:Option Bool}{dd:Option Addr}{k0 k1 k2 k3 k5:Option Value}{newId:String}
theorem VP{s:Shared}{x:Sem Value}{Q:Flow->Shared->Prop}(G:bm.contains (.type "BaseException")=true)(hh:A.handled=none)
 (h:wpAny M A x (λv F=>∃e t dx,v=.ref e/\F.heap.get? C=some (excClassObj nm q C N bs bm hdct sn sub ab col dd k0 k1 k2 k3 k5 newId)/\F.heap.get? e=some (HW C t dx)/\E (.ref e) F) E s) :
 wpAny M A (raiseStmt env (some x) none) Q E s:=by
 have J:(Value.ref C::bm).contains (.type "BaseException")=true:=by rw[Hq,G,Fd]
 unfold raiseStmt;refine A8 (C8 h (λv F I=>?_) λ_ _ x=>x);obtain⟨e,t,dx,rfl,Y,W,Z⟩:=I;obtain⟨hp,g,d,tk,os⟩:=F;have W:hp.get? e=some { cls:=.ref C,dict:=dx,data:=.fields #[.ref t,.none,.none,.none,.bool false,.none] }:=W;repeat (first|with_reducible refine Cc W ?_|with_reducible refine Cc Y ?_|(with_reducible refine Ee Y ?_;rw[J])|wp_step)
 exact wpAny_raiseNew_none hh Z
end
section
variable {prog:Program}{w:World}{A:Around}{E:Value->Shared->Prop}{h:Heap}{g:Array GenState}{d:Drawn}{t:Nat}{os:OsState}
variable {nm q:Str}{C N:Addr}{bs bm:List Value}{hdct:Bool}{sn:List Str}{sub:List Value}{ab:Bool}{col:Option Bool}{dd:Option Addr}{k0 k1 k2 k3 k5:Option Value}
theorem gF(T:OwnTail h KS bm){mN:Str->Option Value}{rest:List Value}{Q:PySem.Fin->Shared->Prop}
 (hC:h.get? C=some (excClassObj nm q C N bs bm hdct sn sub ab col dd k0 k1 k2 k3 k5 "ValueError.__new__")) (hn:h.Ns N mN) (hni:mN "__init__"=none) (hrest:rest.length<=sizeLine)
 (hq:∀h' t2,(∀b o,h.get? b=some o->h'.get? b=some o)->h'.get? (h.objs.size+1)=some (HW C t2 none)->Q (.done (.ret (.ref (h.objs.size+1)))) ⟨h',g,d,t,os⟩) :
 wpAny (model prog w) A (Builtin.«type.__call__» ⟨.ref C::rest,[]⟩) Q E ⟨h,g,d,t,os⟩:=by
 have F:=F8;have Y:KS.contains (.type "ValueError")=true:=by decide
 repeat (first|with_reducible refine Cc hC ?_|with_reducible refine wpAny_madeBy_exc hC ?_|wp_step)
 refine Hr (Ft _ F.quiet) (wpAny_check_new_subU F Y T hC ?_);refine codeAny_exc_new_subU F Y F T hC ?_ hrest;show wpAny _ _ _ _ _ _;have G:=A9 { cls:=.ref C,data:=.fields #[.ref h.objs.size,.none,.none,.none,.bool false,.none] }
  (A9 { cls:=.type "tuple",data:=.seq rest.toArray } hC)
 have W:((h.push { cls:=.type "tuple",data:=.seq rest.toArray }).push { cls:=.ref C,data:=.fields #[.ref h.objs.size,.none,.none,.none,.bool false,.none] }).Ns N mN :=
  let ⟨o,es,ep,e,r⟩:=hn;⟨o,es,ep,A9 _ (A9 _ e),r⟩
 have I:((h.push { cls:=.type "tuple",data:=.seq rest.toArray }).push
  { cls:=.ref C,data:=.fields #[.ref h.objs.size,.none,.none,.none,.bool false,.none] }).get? (h.objs.size+1)=some
  { cls:=.ref C,data:=.fields #[.ref h.objs.size,.none,.none,.none,.bool false,.none] }:=by heap_get
 have Z:(Value.ref C::bm).contains (.ref C)=true:=by simp
 have J:=T.keeps (h':=(h.push { cls:=.type "tuple",data:=.seq rest.toArray }).push { cls:=.ref C,data:=.fields #[.ref h.objs.size,.none,.none,.none,.bool false,.none] })
  λb o e=>A9 _ (A9 _ e)
 unfold isInstance;repeat (first|with_reducible refine Cc I ?_|(with_reducible refine Ee G ?_;rw[Z])|wp_step)
 show wpAny _ _ (typeLookup (.ref C) _) _ _ _;refine wpAny_typeLookup_tail G W J F.mroIs F.init.lookup ?_;rw[hni];refine Cu (A8 (wpAny_of_eq (F.init.bind _) ?_));refine A8 (Ew (F4 F.init.plain F.initEntry (wpAny_check_init_subU F J G I rfl ?_)))
 wp_walk
 refine hq _ (h.objs.size+2) (λb o hb=>?_) ?_
 .rw[Bg _ _ (Cz (Eu (As hb)))];exact A9 _ (A9 _ (A9 _ hb))
 .rw[Cj _ (A9 _ I) rfl];simp only[C9];rfl
theorem gG(T:OwnTail h KS bm){G:Str->Option Value}{rest:List Value}{Q:Value->Shared->Prop}
 (hC:h.get? C=some (excClassObj nm q C N bs bm hdct sn sub ab col dd k0 k1 k2 k3 k5 "ValueError.__new__")) (hn:h.Ns N G) (hni:G "__init__"=none) (hrest:rest.length<=sizeLine)
 (hq:∀h' F,(∀b o,h.get? b=some o->h'.get? b=some o)->h'.get? (h.objs.size+1)=some (HW C F none)->Q (.ref (h.objs.size+1)) ⟨h',g,d,t,os⟩) :
 wpAny (model prog w) A (call (.ref C) rest) Q E ⟨h,g,d,t,os⟩:=by
 have Y:=tc_lookup;have Z:=PySem.tc_bind (.ref C);have W:(⟨h,g,d,t,os⟩:Shared).TypeIs (.ref C) "type":=⟨_,hC,rfl⟩
 refine Ew (codeAny_of_tree ?_);show wpAny _ _ (callAny (.ref C) _) _ _ _;repeat (any_goals (first|assumption|with_reducible refine Cc hC ?_|wp_step))
 refine⟨rfl,?_⟩;refine Iv (Ft _ (by decide +kernel)) entry_typeCall (Hs hC (gF T hC hn hni hrest λh' F J I=>?_));exact hq h' F J I
end
section
variable {X:Cx}{pins:List (Addr×Obj)}{σ:St}{H:Hp}{s:Shared}
theorem AI.unt{e:Addr}{F:Heap->Prop}(I:AI X pins σ H s)(he:H e=some (.ext F)):AI X pins σ (unt H e) s:=by
 have W:∀b,H b=none->L2.unt H e b=none:=λb h=>by
  by_cases q:b=e
  .rw[q,Ql]
  .rw[Qm q];exact h
 have G:∀b o,H b=some o->(∀F,o≠.ext F)->L2.unt H e b=some o:=λb o h Z=>by
  rw[Qm (λq=>?_)]
  .exact h
  .rw[q,he]at h
   cases h;exact Z _ rfl
 refine⟨I.ok,I.os,I.bare,⟨I.base.keep,I.base.slot,λb o q n hx=>W b (I.base.free b o q n hx),I.base.there,λb xs q=>G b _ (I.base.tups b xs q) (λF z=>nomatch z),λb o u q=>G b _ (I.base.frzs b o u q) (λF z=>nomatch z),λb ps q=>?_⟩,I.loc,I.cell,W _ I.free,λx c h=>W _ (I.freeC x c h),λp Y=>?_,λb o q=>?_,I.len⟩
 .obtain⟨J,z⟩:=I.base.tbls b ps q;exact⟨J,G b _ z (λF w=>nomatch w)⟩
 .obtain⟨a,b,c⟩:=I.pin p Y;exact⟨a,W _ b,c⟩
 .have hb:b≠e:=λz=>by rw[z,Ql]at q;cases q
  rw[Qm hb]at q
  exact(I.hok b o q).stay (λ_ _ _ z=>z) (λc z=>G c _ z (λF w=>nomatch w)) λc xs z=>G c _ z (λF w=>nomatch w)
def gH(C:Addr)(sp:Sp)(E:St->XK)(σ:St)(vs:List V)(H1:Hp):Prop:=vs.length<=10/\∀e,H1 e=none->sp (.ref e::vs) (upd H1 e (XO e C none)) (λv H2=>v=.non/\V.ref e=.ref e/\∃dx,H2 e=some (XO e C dx)/\E σ (.ref C) dx (L2.unt H2 e)) E0
theorem gI{E:St->XK}{R:St->List V->Hp->Prop}{k:Nat}{f C L:Addr}{fd:FuncData}{ps:List Str}{sp:Sp}{x:Str}{np cpos pos:Pos}{e:Expr}{es:List Expr}{t:TA}(hL:X.env.frame=some L)(ac:X.calm=true)
 (M:VM X.K C f) (F:AJ X.prog X.w X.K X.mg X.base BL k f fd ps sp) (hr:BX (k+1) X.A) (hg:Gl X x) (hm:X.mg x=some (.ref C)) (hb:JS X.K fd ps []) (hR:∀σ vs H1,R σ vs H1->gH C sp E σ vs H1)
 (ha:PA (X.wish (GW X E)) (e::es) t) (hdb:(x==("__debug__":Str))=false:=by decide) (he:starEach (e::es) X.env=(false,eval e X.env)::starEach es X.env:=by rfl) (hpl:(backTo cpos (starEach es X.env)).any (·.1)=false:=by rfl) :
 PS (X.wish (GW X E)) (.Raise (some (.Call (.Name x np) (e::es) [] cpos)) none pos) (λ_ σ H=>t σ H (R σ)):=by
 intro pins s σ H D I h;obtain⟨bm,N,nm,qn,bs,hd,sn,sub,ab,col,dd,k0,k1,k2,k3,k5,mN,hC,hn,af,T⟩:=N1 I.kIn M.cls;have G:bm.contains (.type "BaseException")=true:=T.hasType (by decide);rw[arm_exec_Raise];refine A8 (Dv (VP (C:=C) (nm:=nm) (q:=qn) (N:=N) (bs:=bs) (bm:=bm) (hdct:=hd) (sn:=sn) (sub:=sub) (ab:=ab) (col:=col) (dd:=dd) (k0:=k0) (k1:=k1) (k2:=k2) (k3:=k3) (k5:=k5) (newId:="ValueError.__new__") G (I.ok.hd ac) ?_));show wpAny _ _ (do let v <- eval (.Call (.Name x np) (e::es) [] cpos) X.env;standAt pos;pure v) _ _ _;refine A8 (C8 (C3 (Mb I hg hm ?_ hdb)) (λv ae Z=>A8 (Dv (An Z))) λ_ _ z=>z);refine Dy (h₀:=X.base) I.ok.mod.kin M.kp (BD (ha cpos pins s σ H _ I h) λus J ⟨vs,H1,I1,r,q0⟩=>⟨I1.kIn,?_⟩) he hpl;obtain⟨hl,q⟩:=hR σ vs H1 q0;refine BD (gu (X:=X.wish (GW X E)) (Q:=λv H2=>v=.ref (J.heap.objs.size+1)/\∃dx,H2 (J.heap.objs.size+1)=some (XO (J.heap.objs.size+1) C dx)/\E σ (.ref C) dx (L2.unt H2 (J.heap.objs.size+1))) M F hr hb I1 r hl ?_) λv s2 ⟨y,H2,I2,ry,ey,dx,aa,ad⟩=>?_
 .exact q (J.heap.objs.size+1) (I1.hok.fresh (D6 _))
 .subst ey;obtain rfl:v=Value.ref (J.heap.objs.size+1):=ry;obtain⟨⟨t2,Y⟩,_⟩:=I2.hok _ _ aa;refine⟨_,t2,dx,rfl,(VL I.kIn I2.kIn M.cls).trans hC,Y,?_⟩;exact⟨_,.ref C,dx,σ,_,L,rfl,hL,(I2.unwish.nopins).unt aa,⟨B3 I1.sz (D6 _),Ql,I1.unwish.pnlt (D6 _)⟩,⟨_,_,.none,Y,rfl,rfl,rfl,rfl,.inl rfl⟩,ad⟩
def VQ(C:Addr)(E:St->XK)(t:TA):TS:=λ_ σ H=>t σ H λvs H1=>vs.length<=10/\E σ (.ref C) none H1
structure Sv(K:Frag)(C:Addr):Prop where
 cls:HX K C none=true
 kp:PySem.W.keepIn K (.ref C)=true
theorem gJ(hL:X.env.frame=some L)(aa:X.calm=true)(M:Sv X.K C)(hg:Gl X x)(hm:X.mg x=some (.ref C))(ha:PA (X.wish (GW X E)) (e::es) t)(hdb:(x==("__debug__":Str))=false:=by decide)(he:starEach (e::es) X.env=(false,eval e X.env)::starEach es X.env:=by rfl)(hpl:(backTo cpos (starEach es X.env)).any (·.1)=false:=by rfl) :
 PS (X.wish (GW X E)) (.Raise (some (.Call (.Name x np) (e::es) [] cpos)) none pos) (VQ C E t):=by
 intro pins s σ H D I h;obtain⟨bm,N,nm,qn,bs,hd,sn,sub,ab,col,dd,k0,k1,k2,k3,k5,mN,hC,hn,aj,T⟩:=N1 I.kIn M.cls;have F:bm.contains (.type "BaseException")=true:=T.hasType (by decide);rw[arm_exec_Raise];refine A8 (Dv (VP (C:=C) (nm:=nm) (q:=qn) (N:=N) (bs:=bs) (bm:=bm) (hdct:=hd) (sn:=sn) (sub:=sub) (ab:=ab) (col:=col) (dd:=dd) (k0:=k0) (k1:=k1) (k2:=k2) (k3:=k3) (k5:=k5) (newId:="ValueError.__new__") F (I.ok.hd aa) ?_));show wpAny _ _ (do let v <- eval (.Call (.Name x np) (e::es) [] cpos) X.env;standAt pos;pure v) _ _ _;refine A8 (C8 (C3 (Mb I hg hm ?_ hdb)) (λv ag Y=>A8 (Dv (An Y))) λ_ _ z=>z);refine Dy (h₀:=X.base) I.ok.mod.kin M.kp (BD (ha cpos pins s σ H _ I h) λus s1 ⟨vs,H1,Z,r,hl,q⟩=>⟨Z.kIn,?_⟩) he hpl;obtain⟨al,N2,ak,ar,an,ao,ai,ah,ap,af,aq,j0,j1,j2,j3,j5,am,ac,ae,J,T2⟩:=N1 Z.kIn M.cls;have ad:us.length<=sizeLine:=DD (by have:=r.length;lia);obtain⟨hp,g,d,tk,os⟩:=s1;refine gG T2 ac ae J ad λh' t2 hk G=>?_
 have I2:AI (X.wish (GW X E)) pins σ H1 ⟨h',g,d,tk,os⟩:=Z.kept (t':=tk) hk;refine⟨_,t2,none,rfl,(VL I.kIn I2.kIn M.cls).trans hC,G,?_⟩;exact⟨_,.ref C,none,σ,H1,L,rfl,hL,I2.unwish.nopins,Z.unwish.fr0 (D6 _),⟨_,_,.none,G,rfl,rfl,rfl,rfl,.inl rfl⟩,q⟩
end
section
variable {X:Cx}{pins:List (Addr×Obj)}{σ:St}{H:Hp}{s:Shared}
abbrev Cx.suite(X:Cx)(e:Addr):Cx:={ X with A:=X.A.mark (some (.ref e)),calm:=false,xe:=λ_ _=>False }
theorem AI.suite(I:AI X pins σ H s)(e:Addr):AI (X.suite e) pins σ H s :=
 ⟨⟨I.ok.mod,I.ok.kind,I.ok.glob,I.ok.blt,I.ok.above,I.ok.inj,I.ok.has,I.ok.cab,(λz=>nomatch z),I.ok.frames,I.ok.stk,I.ok.exf,I.ok.bs,I.ok.bsz,I.ok.noex,I.ok.exfs,I.ok.funs,I.ok.frf⟩,I.os,I.bare,I.base,I.loc,I.cell,I.free,I.freeC,I.pin,I.hok,I.len⟩
theorem AI.unsuite(hA:A.frames=some X.stack)(hd:c=true->A.handled=none)(I:AI (X.suite e) pins σ H s):AI { X with A:=A,calm:=c,xe:=xe } pins σ H s :=
 ⟨⟨I.ok.mod,I.ok.kind,I.ok.glob,I.ok.blt,I.ok.above,I.ok.inj,I.ok.has,I.ok.cab,hd,hA,I.ok.stk,I.ok.exf,I.ok.bs,I.ok.bsz,I.ok.noex,I.ok.exfs,I.ok.funs,I.ok.frf⟩,I.os,I.bare,I.base,I.loc,I.cell,I.free,I.freeC,I.pin,I.hok,I.len⟩
end
theorem gK{K:Frag}{h:Heap}{C:Addr}{init:Option Addr}{nm q:Str}{N:Addr}{bs bm:List Value}{hdct:Bool}{sn:List Str}{sub:List Value}{ab:Bool}{col:Option Bool}{dd:Option Addr}{k0 k1 k2 k3 k5:Option Value}{newId:String}
 (X:K.In h) (hq:HX K C init=true) (hC:h.get? C=some (excClassObj nm q C N bs bm hdct sn sub ab col dd k0 k1 k2 k3 k5 newId)) (v:Value):mroIn K C v=some ((Value.ref C::bm).contains v):=by
 unfold HX at hq;split at hq
 .rename_i F;have e:=X _ _ F;rw[hC]at e
  cases e;unfold mroIn clsIn;rw[F];rfl
 .cases hq
section
variable {M:Model}{A:Around}{E:Value->Shared->Prop}{h:Heap}{g:Array GenState}{d:Drawn}{t:Nat}{os:OsState}
theorem gL{K:Frag}{e C B:Addr}{oe:Obj}{init F:Option Addr}{b:Bool}{Q:Bool->Shared->Prop}(X:K.In h)(hC:HX K C init=true)(hB:HX K B F=true)(he:h.get? e=some oe)(G:oe.cls=.ref C)
 (hm:mroIn K C (.ref B)=some b) (hq:Q b ⟨h,g,d,t,os⟩):wpAny M A (excMatches (.ref e) (.ref B)) Q E ⟨h,g,d,t,os⟩:=by
 obtain⟨bm,N,nm,qn,bs,hd,sn,sub,ab,col,dd,k0,k1,k2,k3,k5,mN,I,_,_,T⟩:=N1 X hC;obtain⟨Y,N2,ag,aj,ak,ad,ae,aa,af,ac,ah,j0,j1,j2,j3,j5,ai,oB,_,_,T2⟩:=N1 X hB;have J:(Value.ref C::bm).contains (.ref B)=b:=by
  have:=gK X hC I (.ref B);rw[hm]at this
  exact(Ap this).symm
 have Z:(Value.ref B::Y).contains (.type "BaseException")=true:=by rw[Hq,T2.hasType (show KS.contains (.type "BaseException")=true by decide),Fd]
 have f:=tc_notTuple;unfold excMatches;repeat (first|(with_reducible refine Cc he ?_;rw[G])|with_reducible refine Cc oB ?_|with_reducible refine Cc I ?_|(with_reducible refine Ee oB ?_;rw[Z])|(with_reducible refine Ee I ?_;rw[J])|wp_step)
 cases b<;>(wp_walk;exact hq)
end
abbrev N3:=DV->St->Value->Option Addr->Hp->Prop
def NT(X:Cx)(F:List ExceptHandler)(th:N3):Prop:=∀(e:Addr) (cls:Value) (dx:Option Addr) (σ:St) (H:Hp) (s:Shared) (D:DV),AI X [] σ H s->KQ X H e->JU (FR (KQ X H) e .none) s.heap e cls dx->th D σ cls dx H ->
 wpAny (model X.prog X.w) X.A (handleBy (.ref e) X.env F) (SP X [] D) X.xe s
def gM:N3:=λ_ _ _ _ _=>False
theorem gN:NT X [] gM:=λ_ _ _ _ _ _ _ _ _ _ h=>h.elim
section
variable {X:Cx}{σ:St}{H:Hp}{s:Shared}
abbrev Cx.pinned(X:Cx)(pn:List (Addr×Obj)):Cx:={ X with pn:=pn }
theorem AI.heldP{pins:List (Addr×Obj)}(I:AI X pins σ H s):AI (X.pinned (X.pn++pins)) [] σ H s :=
 ⟨⟨I.ok.mod,I.ok.kind,I.ok.glob,I.ok.blt,I.ok.above,I.ok.inj,I.ok.has,I.ok.cab,I.ok.hd,I.ok.frames,I.ok.stk,I.ok.exf,I.ok.bs,I.ok.bsz,I.ok.noex,I.ok.exfs,I.ok.funs,I.ok.frf⟩,I.os,I.bare,I.base,I.loc,I.cell,I.free,I.freeC,λp F=>I.pin p (by rwa [Av]at F),I.hok,I.len⟩
theorem AI.unheldP{pins:List (Addr×Obj)}(I:AI (X.pinned (X.pn++pins)) [] σ H s):AI X pins σ H s :=
 ⟨⟨I.ok.mod,I.ok.kind,I.ok.glob,I.ok.blt,I.ok.above,I.ok.inj,I.ok.has,I.ok.cab,I.ok.hd,I.ok.frames,I.ok.stk,I.ok.exf,I.ok.bs,I.ok.bsz,I.ok.noex,I.ok.exfs,I.ok.funs,I.ok.frf⟩,I.os,I.bare,I.base,I.loc,I.cell,I.free,I.freeC,λp F=>I.pin p (by rw[Av];exact F),I.hok,I.len⟩
theorem SP.unheldP{pins:List (Addr×Obj)}{D:DV}{f:Flow}{s':Shared}(h:SP (X.pinned (X.pn++pins)) [] D f s'):SP X pins D f s':=by
 cases f with
 | next=>obtain⟨F,H',I,q⟩:=h;exact⟨F,H',I.unheldP,q⟩
 | brk=>obtain⟨F,H',I,q⟩:=h;exact⟨F,H',I.unheldP,q⟩
 | cont=>obtain⟨F,H',I,q⟩:=h;exact⟨F,H',I.unheldP,q⟩
 | ret u=>obtain⟨v,F,H',I,r,q⟩:=h;exact⟨v,F,H',I.unheldP,r,q⟩
theorem gO{body:List Stmt}{h₀:ExceptHandler}{hs:List ExceptHandler}{pos:Pos}{tb:DV->TS}{th:N3}(Y:X.stack=X.env::X.outer)(hb:∀D pn,HA ((X.pinned pn).wish (GW (X.pinned pn) (th D))) body (tb D))(hh:∀pn,NT (X.pinned pn) (h₀::hs) th) :
 PS X (.Try body (h₀::hs) [] [] pos) (λD σ H=>tb D D σ H):=by
 intro pins s σ H D I h;have I0:=I.heldP;refine wpAny_Try_except (C8 (hb D (X.pn++pins) [] s σ H D (I0.wish _) h) (λf s1 q=>?_) λev s1 q=>?_)
 .cases f with
  | next =>
    obtain⟨F,H',I',q⟩:=q;exact Fo ⟨F,H',I'.unwish.unheldP,q⟩
  | ret v=>exact SP.unheldP (SP.unwish q)
  | brk=>exact SP.unheldP (SP.unwish q)
  | cont=>exact SP.unheldP (SP.unwish q)
 .refine Sl (X:=X.pinned (X.pn++pins)) I0.ok.frames Y q λh' e cls dx G H1 L W hL I1 Z hx hE=>?_
  subst W;exact Qk (s:={ s1 with heap:=h' }) (fr:=none) I1 Z hx λh2 I2 J=>BD (hh (X.pn++pins) e cls dx G H1 _ D I2 Z J hE) λf s3 q=>SP.unheldP q
end
structure XG(K:Frag)(C:Addr):Prop where
 ga:findIn K (.ref C) "__getattribute__"=some (some (.builtin "BaseException.__getattribute__"))
 gt:findIn K (.ref C) "__getattr__"=some none
 be:mroIn K C (.type "BaseException")=some true
 ob:mroIn K C (.type "object")=some true
 cc:findIn K (.ref C) "__class__"=some (some (.builtin "object.__class__"))
 hd:∃cd,clsIn K C=some cd/\cd.hasDict=true
section
variable {X:Cx}{pins:List (Addr×Obj)}{σ:St}{H:Hp}{s:Shared}
variable {K:Frag}(hK:X.K=K)
include hK
end
structure CL(K:Frag)(mg:Str->Option Value)(x:Str)(C:Addr):Prop where
 mg:mg x=some (.ref C)
 is:isClsIn K C=true
 ty:typeIn K (.ref C)=some (.type "type")
def LO(K:Frag)(C:Addr):Bool :=
 findIn K (.ref C) "__getattribute__"==some (some (.builtin "BaseException.__getattribute__"))&&findIn K (.ref C) "__getattr__"==some none&&mroIn K C (.type "BaseException")==some true&&mroIn K C (.type "object")==some true &&
 findIn K (.ref C) "__class__"==some (some (.builtin "object.__class__"))&&(clsIn K C).any (·.hasDict)&&PySem.W.keepIn K (.ref C)&&typeIn K (.ref C)==some (.type "type")&&mroIn K C (.type "ValueError")==some true
structure XQ(K:Frag)(C:Addr):Prop where
 g:XG K C
 kp:PySem.W.keepIn K (.ref C)=true
 ty:typeIn K (.ref C)=some (.type "type")
 ve:mroIn K C (.type "ValueError")=some true
theorem VR{K:Frag}{C:Addr}(h:LO K C=true):XQ K C:=by
 simp only[LO,Aw,C2]at h;obtain⟨⟨⟨⟨⟨⟨⟨⟨h1,h2⟩,I⟩,F⟩,J⟩,h6⟩,Y⟩,G⟩,Z⟩:=h;obtain⟨cd,hc,hd⟩:=any_some h6;exact⟨⟨h1,h2,I,F,J,cd,hc,hd⟩,Y,G,Z⟩
def N4(K:Frag)(C f:Addr)(fld:Str):Bool :=
 (clsIn K C).any (λcd=>P3 cd.mro&&cd.hasDict)&&findIn K (.ref C) "__setattr__"==some (some (.builtin "object.__setattr__"))&&findIn K (.ref C) fld==some none&&PySem.W.isFn K (.ref f)
theorem gP{K:Frag}{C f:Addr}{fld:Str}(h:N4 K C f fld=true):XF K C fld/\PySem.W.isFn K (.ref f)=true:=by
 simp only[N4,Aw,C2]at h;obtain⟨⟨⟨h1,h2⟩,G⟩,F⟩:=h;obtain⟨cd,I,hd⟩:=any_some h1;rw[Aw]at hd
 exact⟨⟨⟨cd,I,hd.1,hd.2⟩,h2,G⟩,F⟩
structure CI(K:Frag)(mg:Str->Option Value)(x qual:Str)(st:Stmt)(ps:List Str)(C f:Addr)(fd:FuncData)(fld:Str):Prop where
 mg:mg x=some (.ref C)
 cls:HX K C (some f)=true
 q:XQ K C
 xf:XF K C fld
 fn:PySem.W.isFn K (.ref f)=true
 fi:Mh K "__init__" qual st f fd
 ba:∀us:List Value,us.length=ps.length->bindArgs fd ⟨us,[]⟩=pure (ps.zip us)
structure CN(K:Frag)(mg:Str->Option Value)(x:Str)(C:Addr):Prop where
 mg:mg x=some (.ref C)
 cls:HX K C none=true
 q:XQ K C
def NU(C:Addr)(fld:Str):Sp:=λvs H Q _=>∃(e:Addr) (i:Int),vs=[.ref e,.int i]/\H e=some (XO e C none)/\i.natAbs<=1000000000/\∀dx,H dx=none->Q .non (upd (upd H dx (.xd [(fld,.int i)])) e (XO e C (some dx)))
def gQ(C:Addr)(fld:Str)(E:St->XK)(t:TA):TS:=λ_ σ H=>t σ H λvs H1=>∃i:Int,vs=[.int i]/\i.natAbs<=1000000000/\∀dx,H1 dx=none->E σ (.ref C) (some dx) (upd H1 dx (.xd [(fld,.int i)]))
section
variable {X:Cx}{k j:Nat}{f C:Addr}{fd:FuncData}{ps:List Str}{sp:Sp}{x qual fld:Str}{st:Stmt}{p np cpos pos:Pos}{e:Expr}{es:List Expr}{t:TA}{E:St->XK}{L:Addr}
theorem gR(G:H1 ea=none)(F:dx≠ea):unt (upd (upd (upd H1 ea o) dx y) ea o') ea=upd H1 dx y:=by
 funext b
 by_cases hb:b=ea
 .subst hb;rw[Ql,BV F.symm,G]
 .rw[Qm hb,BV hb];by_cases hd:b=dx
  .subst hd;rw[AA,AA]
  .rw[BV hd,BV hd,BV hb]
theorem Sw(d:CI X.K X.mg x qual st ps C f fd fld)(F:AJ X.prog X.w X.K X.mg X.base BL j f fd ps (NU C fld))(hr:BX k X.A)(Z:Gl X x)(hL:X.env.frame=some L)(J:X.calm=true)(ha:PA (X.wish (GW X E)) (e::es) t)(hjk:j+1<=k:=by decide)(hdb:(x==("__debug__":Str))=false:=by decide)
 (he:starEach (e::es) X.env=(false,eval e X.env)::starEach es X.env:=by rfl) (hpl:(backTo cpos (starEach es X.env)).any (·.1)=false:=by rfl) :
 PS (X.wish (GW X E)) (.Raise (some (.Call (.Name x np) (e::es) [] cpos)) none pos) (gQ C fld E t):=by
 refine gI (R:=λσ vs H1=>∃i:Int,vs=[.int i]/\i.natAbs<=1000000000/\∀dx,H1 dx=none->E σ (.ref C) (some dx) (upd H1 dx (.xd [(fld,.int i)]))) hL J ⟨d.cls,d.fn,d.q.kp⟩ F (hr.mono hjk) Z d.mg (.all d.ba) (λσ vs H1 h1=>?_) ha hdb he hpl;obtain⟨i,rfl,hi,q⟩:=h1;refine⟨by show 1<=10;decide,λY W=>⟨Y,i,rfl,AA,hi,λdx G=>⟨rfl,rfl,some dx,AA,?_⟩⟩⟩;have I:dx≠Y:=λz=>by rw[z,AA]at G;cases G
 rw[BV I]at G
 rw[gR W I];exact q dx G
theorem VS(d:CN X.K X.mg x C)(G:Gl X x)(I:X.env.frame=some L)(F:X.calm=true)(ha:PA (X.wish (GW X E)) (e::es) t)(hdb:(x==("__debug__":Str))=false:=by decide)
 (he:starEach (e::es) X.env=(false,eval e X.env)::starEach es X.env:=by rfl) (hpl:(backTo cpos (starEach es X.env)).any (·.1)=false:=by rfl) :
 PS (X.wish (GW X E)) (.Raise (some (.Call (.Name x np) (e::es) [] cpos)) none pos) (VQ C E t):=gJ I F ⟨d.cls,d.q.kp⟩ G d.mg ha hdb he hpl
theorem NV(d:D X.K X.mg x st ps f fd)(F:AJ X.prog X.w X.K X.mg X.base (GP X.prog X.w) j f fd ps sp)(J:BX k X.A)(G:Gl X x)(I:X.env.frame=some L)(ha:PA (X.wish (GW X E)) (e::es) t)(hjk:j<=k:=by decide)(hdb:(x==("__debug__":Str))=false:=by decide)
 (he:starEach (e::es) X.env=(false,eval e X.env)::starEach es X.env:=by rfl) (hpl:(backTo pos (starEach es X.env)).any (·.1)=false:=by rfl) :
 PE (X.wish (GW X E)) (.Call (.Name x p) (e::es) [] pos) (VJ sp E t):=gh I (F.mono hjk) J G d.mg d.fn.kp (.all d.ba) ha hdb he hpl
end
theorem gS:bootBuiltins "any"=some (.builtin "any"):=by decide +kernel
def P5(K:Frag):List V->Hp->VK->Prop:=λxs H Q=>∃(p:Addr) (bs:List Bool),xs=[.ref p]/\AH K H p (bs.map V.bl)/\Q (.bl (bs.any id)) H
theorem gT(hc:X.calm=true):HJ X (.builtin "any") (P5 X.K):=by
 intro pins s σ H xs us Q I r h;obtain⟨p,bs,rfl,hq,q⟩:=h;obtain⟨u,rfl,ru⟩:=ID r;cases ru;obtain⟨its,rv,pl,hz⟩:=I.list hq;have hl:its.length=bs.length:=by rw[<-rv.length,A6]
 obtain⟨ol,G,W⟩:=id pl.isList;have aa:p<s.heap.objs.size:=As G;refine call_any_walk (Fy pl.isList ?_);refine⟨s.heap.objs.size,_,_,_,_,_,λi=>bs.getD i false,rfl,Walks.list (A:=X.A.in1) (I.ok.hd hc) s.heap.objs.size p (Be aa) its.toArray,⟨⟨_,B4 _ rfl,rfl,rfl⟩,ol,A9 _ G,W⟩,λi v s' Q' E' hv J=>?_,λh' tk hk=>?_⟩
 .have Z:its[i]?=some v:=by simpa using hv
  obtain⟨y,F,ry⟩:=Q0 rv Z;rw[Ax]at F
  cases e:bs[i]? with
  | none=>rw[e]at F;cases F
  | some b =>
    rw[e]at F
    have Y:V.bl b=y:=Ap F;subst Y;cases ry;have J:Q' (bs.getD i false) s':=J;rw[B5,e]at J
    exact Ck J
 .have e:(List.range its.toArray.size).any (λi=>bs.getD i false)=bs.any id:=by
   rw[B0,hl,E6,Fg,Fg];constructor
   .rintro⟨i,hi,h⟩;have hi:=Di.mp hi;rw[B5,A7 hi]at h
    exact⟨_,Dw hi,h⟩
   .rintro⟨b,hb,h⟩;obtain⟨i,hi,e⟩:=Bt hb;refine⟨i,Di.mpr hi,?_⟩;rw[B5,A7 hi,e];exact h
  rw[e];exact⟨.bl _,H,I.kept (λb o e=>hk b o (by simp;exact Be (As e)) (A9 _ e)),rfl,q⟩
theorem Sx(K:Frag)(hK:X.K=K)(F:X.calm=true):HJ X (.builtin "any") (P5 K):=by subst hK;exact gT F
def P6(K:Frag)(B:Addr)(ts:TS)(F:N3):N3:=λD σ cls dx H=>∃C init b,cls=.ref C/\HX K C init=true/\mroIn K C (.ref B)=some b /\
 (if b=true then ts D σ H else F D σ cls dx H)
section
variable {X:Cx}
theorem gU{B:Addr}{J:Option Addr}{x:Str}{np Y:Pos}{G:Stmt}{suite:List Stmt}{rest:List ExceptHandler}{ts:TS}{tr:N3}(hg:Gl X x)(hm:X.mg x=some (.ref B))(hB:HX X.K B J=true)
 (hsuite:∀e,HA (X.suite e) (G::suite) ts) (hrest:NT X rest tr) (hdb:(x==("__debug__":Str))=false:=by decide) :
 NT X (.ExceptHandler (some (.Name x np)) none (G::suite) Y::rest) (P6 X.K B ts tr):=by
 rintro e cls dx σ H s D I he Z ⟨C,init,b,rfl,hC,aa,hb⟩;obtain⟨oe,vs,hd,ho,hc,ac,ad,h1,hT⟩:=id Z;refine wpAny_handleBy_cons (codeAny_handlers_test (Mb (X:=X.suite e) (I.suite e) hg hm ?_ hdb)) (by intro q;cases q);obtain⟨hp,g,d,tk,os⟩:=s;refine gL I.kIn hC hB ho hc aa ?_;cases b with
 | false=>exact hrest e (.ref C) dx σ H _ D I he Z hb
 | true =>
   refine codeAny_handlers_suite ?_;refine Qk (s:=⟨hp,g,d,tk,os⟩) (fr:=none) I he Z λh2 I2 ae=>?_
   refine C8 (hsuite e [] _ σ _ D (I2.suite e) hb) (λf s3 q=>?_) λ_ _ z=>z.elim
   cases f with
   | next =>
     obtain⟨F,H',W,q⟩:=q;exact⟨F,H',W.unsuite (X:=X) (A:=X.A) (c:=X.calm) (xe:=X.xe) I.ok.frames I.ok.hd,q⟩
   | brk =>
     obtain⟨F,H',W,q⟩:=q;exact⟨F,H',W.unsuite (X:=X) (A:=X.A) (c:=X.calm) (xe:=X.xe) I.ok.frames I.ok.hd,q⟩
   | cont =>
     obtain⟨F,H',W,q⟩:=q;exact⟨F,H',W.unsuite (X:=X) (A:=X.A) (c:=X.calm) (xe:=X.xe) I.ok.frames I.ok.hd,q⟩
   | ret u =>
     obtain⟨v,F,H',W,r5,q⟩:=q;exact⟨v,F,H',W.unsuite (X:=X) (A:=X.A) (c:=X.calm) (xe:=X.xe) I.ok.frames I.ok.hd,r5,q⟩
end
theorem gW{X:Cx}(K:Frag)(hK:X.K=K){B:Addr}{G:Option Addr}{x:Str}{np I:Pos}{F:Stmt}{suite:List Stmt}{rest:List ExceptHandler}{ts:TS}{J:N3}(Y:Gl X x)(hm:X.mg x=some (.ref B))(hB:HX K B G=true)
 (hsuite:∀e,HA (X.suite e) (F::suite) ts) (hrest:NT X rest J) (hdb:(x==("__debug__":Str))=false:=by decide) :
 NT X (.ExceptHandler (some (.Name x np)) none (F::suite) I::rest) (P6 K B ts J):=by subst hK;exact gU Y hm hB hsuite hrest hdb
end L2
namespace Cs
open PySem L2
theorem gX:∀c,c<128->(!(Builtin.Str.occurrences ("abcdefghijklmnopqrstuvwxyz.,-'":Str) (sg c) 0 ("abcdefghijklmnopqrstuvwxyz.,-'":Str).length 1).isEmpty)=decide (c∈BR):=by decide +kernel
theorem VT{J:Type}[DecidableEq J]:∀{xs ys:List J},xs.Nodup->(∀x∈xs,x∈ys)->xs.length<=ys.length
 | [],_,_,_=>B9 _
 | x::xs,ys,h,I=>by
   obtain⟨h1,h2⟩:=By.mp h;have G:=I x Ab;have ih:=VT (xs:=xs) (ys:=ys.erase x) h2 λy W=>by
    have F:y≠x:=λe=>h1 (by rw[<-e];exact W)
    exact(List.mem_erase_of_ne F).mpr (I y (Ac _ W))
   rw[Ie G]at ih
   have:=G6 G;rw[B8]
   lia
end Cs
namespace L2
open PySem PySem.Spec PyProof.Rows
section
variable {X:Cx}
def N5:V->List V->Hp->VK->Prop:=λx vs H Q=>∃(l:Addr) (ns:List Int) (z:Int),x=.ref l/\vs=[.int z]/\H l=some (.lst (ns.map V.int))/\Q (.int (ns.count z:Nat)) H
theorem VU(z:Int):∀(ns:List Int) (its:List Value),AS (ns.map V.int) its->its.countP (OP z)=ns.count z
 | [],_,h=>by
   cases h;rfl
 | n::ns,_,h=>by
   cases h with
   | cons r t =>
     obtain⟨tk,rfl⟩:=r;rw[List.countP_cons,Jm,VU z ns _ t];rfl
theorem gY:MS X "list.count" N5:=by
 intro pins s σ H x vs v us Q I rx rv h;obtain⟨l,ns,z,rfl,rfl,W,q⟩:=h;cases rx;obtain⟨u,rfl,G⟩:=rv.one;obtain⟨t,rfl⟩:=G;obtain⟨zz,its,n,r,hl,e⟩:=I.lstM W;rw[A6]at hl
 have at_:∀(m:Nat) (hm:m<its.length),∃t',its[m]=.int (ns[m]'(by lia)) t':=λm hm=>by
  obtain⟨u,J,G⟩:=r.get (i:=m) (x:=.int (ns[m]'(by lia))) (by rw[Ax,A7 (by lia)];rfl);rw[A7 hm]at J
  obtain⟨t',rfl⟩:=G;exact⟨t',Ap J⟩
 refine Eh F.slot_list_count ⟨_,e,rfl⟩ F.entry_list_count (F.args_list_count_2 _ _)
  (MeetsSeq.list_count l its.toArray n (.int z t) (OP z) (λy hy=>?_)) ⟨e,?_⟩
 .obtain⟨m,hm,Z⟩:=Bt (show y∈its by simpa using hy);obtain⟨t',Y⟩:=at_ m hm;rw[<-Z,Y];exact MeetsSeq.EqGives.int _ _ _ _
 .rw[show its.toArray.toList=its from rfl,VU z ns its r];exact⟨.int (ns.count z:Nat),H,I.tok _,⟨_,rfl⟩,q⟩
end
end L2
namespace Lan
open PySem L2
abbrev Mx:=Str×Int
def GX(H:Hp)(v:V)(m:Mx):Prop:=∃a,v=.ref a/\H a=some (.tup [.str m.1,.int m.2])
theorem VW(h:Paired (GX H) xs ms)(s:AF H H'):Paired (GX H') xs ms:=Paired.mapP h λ_ _ ⟨a,e,z⟩=>⟨a,e,s _ _ z⟩
theorem Sy(h:Paired (GX H) xs ms)(F:H p=some (.lst ys)):Paired (GX (upd H p o)) xs ms :=
 Paired.mapP h λ_ _ ⟨a,e,z⟩=>⟨a,e,by rw[BV (HI z F (λq=>by cases q))];exact z⟩
theorem VX(h:GX H v m):∀n:Nat,Paired (GX H) (List.replicate n v) (List.replicate n m)
 | 0=>.nil
 | n+1=>.cons h (VX h n)
def N6(H0:Hp)(no:Addr)(H:Hp)(v:V)(ms:List Mx):Prop:=∃p xs,v=.ref p/\p≠no/\H0 p=none/\H p=some (.lst xs)/\Paired (GX H) xs ms
theorem gZ(h:Paired (N6 H0 no H) zs ls)(s:AF H H'):Paired (N6 H0 no H') zs ls :=
 Paired.mapP h λ_ _ ⟨p,xs,e,n,f,z,m⟩=>⟨p,xs,e,n,f,s _ _ z,VW m s⟩
theorem h7(h:Paired (N6 H0 no H) zs ls)(F:H no=some (.lst ys)):Paired (N6 H0 no (upd H no o)) zs ls :=
 Paired.mapP h λ_ _ ⟨p,xs,e,n,f,z,m⟩=>⟨p,xs,e,n,f,by rw[BV n];exact z,Sy m F⟩
theorem h8(h:Paired (N6 H0 no H) zs ls)(G:H p=none):V.ref p∉zs:=by
 intro hm;obtain⟨i,hi,e⟩:=Bt hm;obtain⟨_,_,p2,xs,F,_,_,z,_⟩:=Cs.FU h (A7 hi);rw[e]at F
 cases F;rw[G]at z
 cases z
end Lan
namespace L2
open PySem PySem.Spec PyProof.Rows
def Mo(h:Heap)(z TI TO:Addr):Prop :=
 ∃(F:Value) (G:Bool),(F=.none\/∃T:Addr,F=rawInt T)/\h.get? z=some { cls:=.type "zip",dict:=none,data:=.fields #[F,.bool G,.bool false,.ref TI,.ref TO],slots:=#[] }
section
variable {prog:Program}{w:World}{A:Around}{E:Value->Shared->Prop}{s:Shared}
theorem h9(h:Q (s.heap.get? a) s):wpAny (model prog w) A (loadIfAlive a) Q E s:=by
 intro G p F;unfold loadIfAlive;rw[Sem.wp_loadIfAlive];exact An (A:=A) h G p F
theorem VY{z TI TO:Addr}{Q:Bool->Shared->Prop}(F:Mo s.heap z TI TO)
 (h:∀b h',(∃J I,h'.get? z=some { cls:=.type "zip",dict:=none,data:=.fields #[J,.bool I,.bool false,.ref TI,.ref TO],slots:=#[] })->(b=false->Mo h' z TI TO)->Heap.SameBut z s.heap h'->Q b { s with heap:=h' }) :
 wpAny (model prog w) A (Builtin.SmallTypes.ownedTupleIsFree (.ref z)) Q E s:=by
 obtain⟨J,I,Y,F⟩:=F;unfold Builtin.SmallTypes.ownedTupleIsFree;refine A8 (C5 F rfl (x:=J) rfl ?_);rcases Y with rfl|⟨T,rfl⟩
 .exact An (h true s.heap ⟨_,_,F⟩ (λz=>nomatch z) ⟨rfl,λ_ _=>rfl⟩)
 .show wpAny _ _ (loadIfAlive (Int.toNat (T:Int)) >>= _) _ _ _;refine A8 (h9 ?_);cases s.heap.get? (Int.toNat (T:Int))with
  | none=>exact An (h true s.heap ⟨_,_,F⟩ (λz=>nomatch z) ⟨rfl,λ_ _=>rfl⟩)
  | some o =>
    show wpAny _ _ (field (.ref z) 1 >>= _) _ _ _;refine A8 (C5 F rfl (x:=.bool I) rfl ?_);cases I with
    | true =>
      rw[Aq (by decide)];exact A8 (An (An (h false s.heap ⟨_,_,F⟩ (λ_=>⟨_,_,.inr ⟨T,rfl⟩,F⟩) ⟨rfl,λ_ _=>rfl⟩)))
    | false =>
      rw[Ar (by decide)];refine A8 (C4 F (by simp) λh' G W=>An ?_);exact h false h' ⟨_,_,G⟩ (λ_=>⟨_,_,.inr ⟨T,rfl⟩,G⟩) W
theorem hU{z TI TO i1 i2 l1 l2:Addr}{k1 k2:Nat}{xs ys:Array Value}{x y a b:Value}{Q:Value->Shared->Prop}(D:ZipApart z TI TO i1 i2 l1 l2)
 (hz:Mo s.heap z TI TO) (hTI:IsPair s.heap TI (.ref i1) (.ref i2)) (hTO:IsPair s.heap TO a b)
 (h1:s.heap.IsListIter i1 l1 k1) (h2:s.heap.IsListIter i2 l2 k2) (hl1:s.heap.IsList l1 xs) (hl2:s.heap.IsList l2 ys) (hx:xs[k1]?=some x) (hy:ys[k2]?=some y)
 (hQ:∀h',Mo h' z TI TO->(∃u v,IsPair h' TO u v)->h'.IsListIter i1 l1 (k1+1)->h'.IsListIter i2 l2 (k2+1)->IsPair h' s.heap.objs.size x y->h'.objs.size=s.heap.objs.size+1 ->
   (∀c o,c≠z->c≠TO->c≠i1->c≠i2->s.heap.get? c=some o->h'.get? c=some o)->Q (.ref s.heap.objs.size) { s with heap:=h' }) :
 wpAny (model prog w) A (Builtin.«zip.__next__» ⟨[.ref z],[]⟩) (λfin s'=>∃v,fin=.done (.ret v)/\Q v s') E s:=by
 obtain⟨f0,f1,hf,aB⟩:=id hz;show wpAny _ _ (field (.ref z) 2 >>= _) _ _ _;refine A8 (C5 aB rfl (x:=.bool false) rfl ?_);show wpAny _ _ (field (.ref z) 3 >>= _) _ _ _;refine A8 (C5 aB rfl (x:=.ref TI) rfl ?_);refine A8 (Dz hTI rfl ?_);show wpAny _ _ (Builtin.SmallTypes.ownedTupleIsFree (.ref z) >>= _) _ _ _;refine A8 (VY hz λfr h₀ ao aG J=>?_);cases fr with
 | true =>
   obtain⟨aJ,aK,ao⟩:=ao;simp only[F9];refine A8 (J8 ?_);refine A8 (C5 ao rfl (x:=.ref TO) rfl ?_);refine A8 (C4 ao (by simp) λaD az ad=>?_);have W:Heap.SameBut z s.heap aD:=⟨ad.1.trans J.1,λc hc=>(ad.2 c hc).trans (J.2 c hc)⟩
   clear ad;refine A8 ?_;simp only[List.zipIdx_cons,List.zipIdx_nil,Fq,Ey];refine A8 (A8 (Ig ?_));show wpAny _ _ (Builtin.SmallTypes.nextOf (.ref i1) >>= _) _ _ _;refine A8 (D1 (h1.extBut W.extBut D.i1z) (hl1.extBut W.extBut D.l1z) hx λap ai F=>An ?_);have al:IsPair ap TO a b:=F.extBut _ _ D.TOi1 (W.extBut _ _ D.TOz hTO);refine A8 (Dz al rfl ?_);refine A8 (Gq al λaE ae Y=>?_)
   replace ae:IsPair aE TO x b:=ae
   refine A8 (F3 (An ?_));refine A8 (A8 (Ig ?_));show wpAny _ _ (Builtin.SmallTypes.nextOf (.ref i2) >>= _) _ _ _;refine A8 (D1 (((h2.extBut W.extBut D.i2z).extBut F.extBut D.i12.symm).extBut Y.extBut D.TOi2.symm)
    (((hl2.extBut W.extBut D.l2z).extBut F.extBut D.l2i1).extBut Y.extBut D.l2TO) hy λaa ag G=>An ?_)
   have ak:IsPair aa TO x b:=G.extBut _ _ D.TOi2 ae;refine A8 (Dz ak rfl ?_);refine A8 (Gq ak λI Z ac=>?_)
   replace Z:IsPair I TO x y:=Z
   refine A8 (F3 (An (An ?_)));refine A8 (Dz Z rfl ?_);refine A8 (Jr ?_);have hsz:I.objs.size=s.heap.objs.size:=by rw[ac.1,G.1,Y.1,F.1,W.1]
   have am:=ac.extBut _ _ D.TOz.symm (G.extBut _ _ D.i2z.symm (Y.extBut _ _ D.TOz.symm (F.extBut _ _ D.i1z.symm az)));have ax:∀c o,c≠z->c≠TO->c≠i1->c≠i2->s.heap.get? c=some o->I.get? c=some o:=λc o c1 c2 c3 c4 e =>
    ac.extBut _ _ c2 (G.extBut _ _ c4 (Y.extBut _ _ c2 (F.extBut _ _ c3 (W.extBut _ _ c1 e))))
   have ay:I.IsListIter i1 l1 (k1+1):=((ai.extBut Y.extBut D.TOi1.symm).extBut G.extBut D.i12).extBut ac.extBut D.TOi1.symm;have ar:I.IsListIter i2 l2 (k2+1):=ag.extBut ac.extBut D.TOi2.symm;have aq:z<I.objs.size:=As am;show wpAny _ _ (Builtin.SmallTypes.ownedTupleHandOut (.ref z) (.ref I.objs.size) >>= _) _ _ _;refine A8 ?_;unfold Builtin.SmallTypes.ownedTupleHandOut;have au:=A9 { cls:=.type "tuple",data:=.seq #[x,y] } am;refine A8 (C4 au (by simp) λaI aw aj=>?_);refine C4 aw (by simp) λaf av ah=>?_
   have up:∀c o,c≠z->I.get? c=some o->af.get? c=some o:=λc o c1 e=>ah.extBut _ _ c1 (aj.extBut _ _ c1 (A9 _ e))
   have an:IsPair af I.objs.size x y:=ah.extBut _ _ (Cz aq) (aj.extBut _ _ (Cz aq) (B4 _ rfl));have aC:af.objs.size=I.objs.size+1:=by rw[ah.1,aj.1,C9]
   have aF:Mo af z TI TO:=⟨_,_,.inr ⟨_,rfl⟩,av⟩
   rw[hsz]at an aC
   refine An ⟨_,rfl,?_⟩;show Q (.ref I.objs.size) _;rw[hsz];exact hQ af aF ⟨_,_,up _ _ D.TOz Z⟩ (ay.at λo e=>up _ o D.i1z e) (ar.at λo e=>up _ o D.i2z e) an aC λc o c1 c2 c3 c4 e=>up c o c1 (ax c o c1 c2 c3 c4 e)
 | false =>
   have aA:=aG rfl;simp only[Hn,Io];simp only[Fq,Ey,<-K1];refine A8 (A8 (A8 (Cu ?_)));show wpAny _ _ (Builtin.SmallTypes.nextOf (.ref i1) >>= _) _ _ _;refine A8 (D1 (h1.extBut J.extBut D.i1z) (hl1.extBut J.extBut D.l1z) hx λap ai F=>An (An ?_));refine A8 (A8 (Cu ?_));show wpAny _ _ (Builtin.SmallTypes.nextOf (.ref i2) >>= _) _ _ _;refine A8 (D1 ((h2.extBut J.extBut D.i2z).extBut F.extBut D.i12.symm) ((hl2.extBut J.extBut D.l2z).extBut F.extBut D.l2i1) hy λaa ag G=>An (An (An ?_)));show wpAny _ _ (newTuple [x,y] >>= _) _ _ _;refine A8 (Jr ?_);have hsz:aa.objs.size=s.heap.objs.size:=by rw[G.1,F.1,J.1]
   refine An ⟨_,rfl,?_⟩;show Q (.ref aa.objs.size) _;have up:∀c o,c≠z->c≠i1->c≠i2->s.heap.get? c=some o->aa.get? c=some o:=λc o c1 c3 c4 e=>G.extBut _ _ c4 (F.extBut _ _ c3 (J.extBut _ _ c1 e))
   obtain⟨g0,g1,hg,aH⟩:=aA;have p1:=A9 { cls:=.type "tuple",data:=.seq #[x,y] } (G.extBut _ _ D.i2z.symm (F.extBut _ _ D.i1z.symm aH));have p2:IsPair (aa.push { cls:=.type "tuple",data:=.seq #[x,y] }) aa.objs.size x y:=B4 _ rfl;rw[hsz]at p2⊢
   refine hQ _ ⟨g0,g1,hg,p1⟩ ⟨a,b,A9 _ (up _ _ D.TOz D.TOi1 D.TOi2 hTO)⟩ (((ai.extBut G.extBut D.i12)).at λo e=>A9 _ e) (ag.at λo e=>A9 _ e) p2 (by rw[C9,hsz]) λc o c1 c2 c3 c4 e=>A9 _ (up c o c1 c3 c4 e)
theorem hV{z TI TO i1 i2 l1 l2:Addr}{k1 k2:Nat}{xs ys:Array Value}{a b:Value}{Q:Fin->Shared->Prop}(hh:A.handled=none)(D:ZipApart z TI TO i1 i2 l1 l2)
 (hz:Mo s.heap z TI TO) (hTI:IsPair s.heap TI (.ref i1) (.ref i2)) (hTO:IsPair s.heap TO a b)
 (h1:s.heap.IsListIter i1 l1 k1) (h2:s.heap.IsListIter i2 l2 k2) (hl1:s.heap.IsList l1 xs) (hl2:s.heap.IsList l2 ys) (hend:xs[k1]?=none\/ys[k2]?=none)
 (hE:∀h' e,(∀c o,c≠z->c≠TO->c≠i1->c≠i2->s.heap.get? c=some o->h'.get? c=some o)->(∃o,h'.get? e=some o/\o.cls=.type "StopIteration")->E (.ref e) { s with heap:=h' }) :
 wpAny (model prog w) A (Builtin.«zip.__next__» ⟨[.ref z],[]⟩) Q E s:=by
 obtain⟨f0,f1,hf,ap⟩:=id hz;show wpAny _ _ (field (.ref z) 2 >>= _) _ _ _;refine A8 (C5 ap rfl (x:=.bool false) rfl ?_);show wpAny _ _ (field (.ref z) 3 >>= _) _ _ _;refine A8 (C5 ap rfl (x:=.ref TI) rfl ?_);refine A8 (Dz hTI rfl ?_);show wpAny _ _ (Builtin.SmallTypes.ownedTupleIsFree (.ref z) >>= _) _ _ _;refine A8 (VY hz λfr h₀ ai av G=>?_);cases fr with
 | true =>
   obtain⟨ar,au,ai⟩:=ai;simp only[F9];refine A8 (J8 ?_);refine A8 (C5 ai rfl (x:=.ref TO) rfl ?_);refine A8 (C4 ai (by simp) λan ae W=>?_);have I:Heap.SameBut z s.heap an:=⟨W.1.trans G.1,λc hc=>(W.2 c hc).trans (G.2 c hc)⟩
   clear W;refine A8 ?_;simp only[List.zipIdx_cons,List.zipIdx_nil,Fq,Ey];refine A8 (A8 (Ig ?_));show wpAny _ _ (Builtin.SmallTypes.nextOf (.ref i1) >>= _) _ _ _;cases hx:xs[k1]? with
   | none =>
     refine A8 (Er hh (h1.extBut I.extBut D.i1z) (hl1.extBut I.extBut D.l1z) hx λZ e F he=>?_);obtain⟨oe,aa,af⟩:=he;have ag:=F _ _ D.i1z.symm ae;have al:e≠z:=λx=>by subst x;rw[ag]at aa;cases aa;simp at af
     refine C4 ag (by simp) λak _ J=>hE ak e (λc o c1 _ c3 _ x=>J.extBut _ _ c1 (F _ _ c3 (I.extBut _ _ c1 x))) ⟨oe,J.extBut _ _ al aa,af⟩
   | some x =>
     have hy:ys[k2]?=none:=by rcases hend with h|h;rw[hx]at h;cases h;exact h
     refine A8 (D1 (h1.extBut I.extBut D.i1z) (hl1.extBut I.extBut D.l1z) hx λZ am F=>An ?_);have ac:IsPair Z TO a b:=F.extBut _ _ D.TOi1 (I.extBut _ _ D.TOz hTO);refine A8 (Dz ac rfl ?_);refine A8 (Gq ac λak aq J=>?_);refine A8 (F3 (An ?_));refine A8 (A8 (Ig ?_));show wpAny _ _ (Builtin.SmallTypes.nextOf (.ref i2) >>= _) _ _ _;refine A8 (Er hh (((h2.extBut I.extBut D.i2z).extBut F.extBut D.i12.symm).extBut J.extBut D.TOi2.symm)
      (((hl2.extBut I.extBut D.l2z).extBut F.extBut D.l2i1).extBut J.extBut D.l2TO) hy λaj e Y he=>?_)
     obtain⟨oe,aa,af⟩:=he;have ah:=Y _ _ D.i2z.symm (J.extBut _ _ D.TOz.symm (F.extBut _ _ D.i1z.symm ae));have al:e≠z:=λx=>by subst x;rw[ah]at aa;cases aa;simp at af
     refine C4 ah (by simp) λao _ ad=>hE ao e (λc o c1 c2 c3 c4 x=>ad.extBut _ _ c1 (Y _ _ c4 (J.extBut _ _ c2 (F.extBut _ _ c3 (I.extBut _ _ c1 x))))) ⟨oe,ad.extBut _ _ al aa,af⟩
 | false =>
   simp only[Hn,Io];simp only[Fq,Ey,<-K1];refine A8 (A8 (A8 (Cu ?_)));show wpAny _ _ (Builtin.SmallTypes.nextOf (.ref i1) >>= _) _ _ _;cases hx:xs[k1]? with
   | none =>
     refine A8 (Er hh (h1.extBut G.extBut D.i1z) (hl1.extBut G.extBut D.l1z) hx λZ e F he=>?_);exact hE Z e (λc o c1 _ c3 _ x=>F _ _ c3 (G.extBut _ _ c1 x)) he
   | some x =>
     have hy:ys[k2]?=none:=by rcases hend with h|h;rw[hx]at h;cases h;exact h
     refine A8 (D1 (h1.extBut G.extBut D.i1z) (hl1.extBut G.extBut D.l1z) hx λZ am F=>An (An ?_));refine A8 (A8 (Cu ?_));show wpAny _ _ (Builtin.SmallTypes.nextOf (.ref i2) >>= _) _ _ _;refine A8 (Er hh ((h2.extBut G.extBut D.i2z).extBut F.extBut D.i12.symm) ((hl2.extBut G.extBut D.l2z).extBut F.extBut D.l2i1) hy λaj e Y he=>?_);exact hE aj e (λc o c1 _ c3 c4 x=>Y _ _ c4 (F.extBut _ _ c3 (G.extBut _ _ c1 x))) he
theorem VZ(I:∃o,s.heap.get? z=some o/\o.cls=.type "zip")(h:wpAny (model prog w) A.in1 (Builtin.«zip.__next__» ⟨[.ref z],[]⟩) (λfin s'=>∃v,fin=.done (.ret v)/\Q v s') E s) :
 wpAny (model prog w) A (Builtin.SmallTypes.nextOf (.ref z)) Q E s:=by
 have G:s.TypeIs (.ref z) "zip":=I;unfold Builtin.SmallTypes.nextOf;refine A8 (Fv (name:=("__next__":Str)) G F.slot_zip_next
  (Ip F.slot_zip_next G F.entry_zip_next (C8 h (λfin s' ⟨v,e,q⟩=>⟨v,e,An q⟩) λ_ _ e=>e) (F.args_zip_next_1 _)))
end
open AutoSeq1 (wpAny_loadPart')
theorem hW(z TI TO:Addr) :
 Meets (Builtin.«enumerate.__new__» ⟨[.type "enumerate",.ref z],[]⟩) (λ_ R s=>s.heap.get? z=some { cls:=.type "zip",dict:=none,data:=.fields #[.none,.bool false,.bool false,.ref TI,.ref TO],slots:=#[] } /\
  R (.ok (.ret (.ref s.heap.objs.size))) { s with heap:=s.heap.push { cls:=.type "enumerate",data:=.fields #[.none,.bool false,.ref z,rawInt 0,.none,.none] } }) :=
 .of_wp λprog w A R s h=>by
  obtain⟨I,g,d,tk,os⟩:=s;obtain⟨hl,h⟩:=h;have G:=sub_enumerate;have F:IsZip (Shared.heap ⟨I,g,d,tk,os⟩) z TI TO .none:=hl
  wp_walk using Fs hl
  refine wpAny_stack_any λst=>An ?_
  split
  .rename_i c _ _ _ _ _;cases (c==Value.type "enumerate")
   .wp_walk using Fs hl,Fe F
    exact⟨_,rfl,h⟩
   .wp_walk using Fs hl,Fe F
    exact⟨_,rfl,h⟩
  .wp_walk using Fs hl,Fe F
   exact⟨_,rfl,h⟩
section
variable {prog:Program}{w:World}{A:Around}{E:Value->Shared->Prop}{s:Shared}
theorem hX{z TI TO:Addr}{Q:Value->Shared->Prop}(I:IsZip s.heap z TI TO .none)
 (h:∀h',IsEnum h' s.heap.objs.size z 0 .none->(∀b o,s.heap.get? b=some o->h'.get? b=some o)->Q (.ref s.heap.objs.size) { s with heap:=h' }) :
 wpAny (model prog w) A (call (.type "enumerate") [.ref z]) Q E s:=by
 refine callType_new F.called_enumerate (by decide) (F.typeCall_enumerate_1 _) (F.newCall_enumerate_1 _) (λobj=>F.args_object_init_2 obj _) F.entry_enumerate_new
  (hW z TI TO) ⟨I,?_⟩
 have G:IsEnum (s.heap.push { cls:=.type "enumerate",data:=.fields #[.none,.bool false,.ref z,rawInt 0,.none,.none] }) s.heap.objs.size z 0 .none:=B4 _ rfl;exact⟨⟨_,G,rfl⟩,h _ G λb o x=>A9 _ x⟩
theorem hZ{e it:Addr}{i:Nat}{an:Value}{Q1 Q:Value->Shared->Prop}(he:IsEnum s.heap e it i an)
 (hn:wpAny (model prog w) A (Builtin.SmallTypes.nextOf (.ref it)) (λx s1=>IsEnum s1.heap e it i an/\Q1 x s1) E s)
 (hQ:∀x s1 h',Q1 x s1->e<s1.heap.objs.size->IsEnumOut h' e it ((i:Int)+1) x s1.heap.objs.size ->
   h'.get? s1.heap.objs.size=some { cls:=.type "tuple",data:=.seq #[.int i s1.toks,x] } ->
   (∀b o,b≠e->s1.heap.get? b=some o->h'.get? b=some o)->Q (.ref s1.heap.objs.size) { s1 with heap:=h',toks:=s1.toks+1 }) :
 wpAny (model prog w) A (Builtin.«enumerate.__next__» ⟨[.ref e],[]⟩) (λfin s'=>∃v,fin=.done (.ret v)/\Q v s') E s:=by
 show wpAny _ _ (field (.ref e) 2 >>= _) _ _ _;refine A8 (C5 he rfl (x:=.ref it) rfl ?_);refine A8 (C8 hn (λx s1 hq=>?_) λ_ _ z=>z);obtain⟨G,q1⟩:=hq;obtain⟨F,g,d,tk,os⟩:=s1;have q2:=λh'=>hQ x ⟨F,g,d,tk,os⟩ h' q1 (As G)
 clear hQ hn q1;show wpAny _ _ (field (.ref e) 3 >>= _) _ _ ⟨F,g,d,tk,os⟩;refine A8 (C5 G rfl (x:=rawInt i) rfl ?_);show wpAny _ _ (field (.ref e) 4 >>= _) _ _ ⟨F,g,d,tk,os⟩;refine A8 (C5 G rfl (x:=.none) rfl ?_);show wpAny _ _ (mkInt i >>= _) _ _ ⟨F,g,d,tk,os⟩;refine A8 (wpAny_mkInt ?_);show wpAny _ _ (setField (.ref e) 3 (rawInt ((i:Int)+1)) >>= _) _ _ ⟨F,g,d,tk+1,os⟩;refine A8 (C4 G (by simp) λaf aa I=>?_)
 replace I:Heap.SameBut e F af:=I
 replace aa:IsEnum af e it ((i:Int)+1) an:=aa
 show wpAny _ _ (setField (.ref e) 4 .none >>= _) _ _ ⟨af,g,d,tk+1,os⟩;refine A8 (C4 aa (by simp) λJ ae W=>?_)
 replace W:Heap.SameBut e af J:=W
 replace ae:IsEnum J e it ((i:Int)+1) an:=ae
 show wpAny _ _ (newTuple [.int i tk,x] >>= _) _ _ ⟨J,g,d,tk+1,os⟩;refine A8 (Jr ?_);have Z:IsEnum (J.push { cls:=.type "tuple",data:=.seq #[.int i tk,x] }) e it ((i:Int)+1) an:=A9 _ ae;generalize ah:J.push { cls:=.type "tuple",data:=.seq #[.int i tk,x] }=am at Z;have hsz:J.objs.size=F.objs.size:=by rw[W.1,I.1]
 have aq:e<F.objs.size:=As G;have au:am.get? F.objs.size=some { cls:=.type "tuple",data:=.seq #[.int i tk,x] }:=by rw[<-ah,<-hsz];exact B4 _ rfl
 have ar:∀b o,b≠e->F.get? b=some o->am.get? b=some o:=λb o ag hb=>by
  rw[<-ah];exact A9 _ (W.extBut b o ag (I.extBut b o ag hb))
 show wpAny _ _ (Builtin.SmallTypes.ownedTupleIsFree (.ref e) >>= _) _ _ ⟨am,g,d,tk+1,os⟩;rw[hsz];clear ah ae W aa I G hsz J af;refine A8 ?_;unfold Builtin.SmallTypes.ownedTupleIsFree;refine A8 (C5 Z rfl (x:=.none) rfl (An ?_));simp only[F9];refine A8 (J8 ?_);refine A8 (C5 Z rfl (x:=an) rfl ?_);refine A8 (C4 Z (by simp) λal aj Y=>?_)
 replace Y:Heap.SameBut e am al:=Y
 replace aj:IsEnum al e it ((i:Int)+1) x:=aj
 show wpAny _ _ (Builtin.SmallTypes.ownedTupleHandOut (.ref e) (.ref F.objs.size) >>= _) _ _ ⟨al,g,d,tk+1,os⟩;refine A8 ?_;unfold Builtin.SmallTypes.ownedTupleHandOut;refine A8 (C4 aj (by simp) λao ak ac=>?_)
 replace ac:Heap.SameBut e al ao:=ac
 replace ak:IsEnumOut ao e it ((i:Int)+1) x F.objs.size:=ak
 refine C4 ak (by simp) λap ai ad=>?_
 replace ad:Heap.SameBut e ao ap:=ad
 replace ai:IsEnumOut ap e it ((i:Int)+1) x F.objs.size:=ai
 refine A8 (F3 (An ⟨_,rfl,q2 ap ai ?_ ?_⟩))
 .exact ad.extBut _ _ (Cz aq) (ac.extBut _ _ (Cz aq) (Y.extBut _ _ (Cz aq) au))
 .exact λb o ag hb=>ad.extBut b o ag (ac.extBut b o ag (Y.extBut b o ag (ar b o ag hb)))
theorem W0{e it:Addr}{i:Nat}{I:Value}{Q1:Value->Shared->Prop}{Q:Option Value->Shared->Prop}(W:IsEnum s.heap e it i I)
 (hn:wpAny (model prog w) A.in1 (Builtin.SmallTypes.nextOf (.ref it)) (λx G=>IsEnum G.heap e it i I/\Q1 x G) (λx G=>(∃a,x=.ref a/\∃o,G.heap.get? a=some o/\o.cls=.type "StopIteration")/\Q none G) s)
 (hQ:∀x G h',Q1 x G->e<G.heap.objs.size->IsEnumOut h' e it ((i:Int)+1) x G.heap.objs.size ->
   h'.get? G.heap.objs.size=some { cls:=.type "tuple",data:=.seq #[.int i G.toks,x] } ->
   (∀b o,b≠e->G.heap.get? b=some o->h'.get? b=some o)->Q (some (.ref G.heap.objs.size)) { G with heap:=h',toks:=G.toks+1 }) :
 wpAny (model prog w) A (pyNext (.ref e)) Q E s:=by
 have J:s.TypeIs (.ref e) "enumerate":=⟨_,W,rfl⟩
 unfold pyNext;refine A8 (wpAny_attempt (Fv (name:=("__next__":Str)) J F.slot_enumerate_next
  (Ip F.slot_enumerate_next J F.entry_enumerate_next (hZ W (C8 hn (λ_ _ z=>z) λx G z=>?_) λx G h' q a b c d=>An (hQ x G h' q a b c d)) (F.args_enumerate_next_1 _))))
 obtain⟨⟨a,rfl,o,Y,Z⟩,q⟩:=z;refine A8 (wpAny_isInstance (T:="StopIteration") (b:=true) ⟨o,Y,Z⟩ isSubtype_stop ?_);exact An q
end
def KU(K:Frag)(a b:Addr):It :=
 ⟨λi H=>∃xs ys x y,AH K H a xs/\AH K H b ys/\xs[i]?=some x/\ys[i]?=some y,
  λi H v H'=>∃p t x y,v=.ref t/\H p=none/\H t=none/\t≠p/\(∀xs,AH K H a xs->xs[i]?=some x)/\(∀ys,AH K H b ys->ys[i]?=some y)/\H'=upd (upd H p (.tup [x,y])) t (.tup [.int i,.ref p]),
  λi H=>∃xs ys,AH K H a xs/\AH K H b ys/\(xs.length<=i\/ys.length<=i)⟩
theorem i0{P:Program}{w:World}{K:Frag}{es:List Expr}{k1:Nat}{tp:Pos}(a b e z TI TO i1 Y:Addr)(D:ZipApart z TI TO i1 Y a b)(De:e≠z/\e≠TI/\e≠TO/\e≠i1/\e≠Y) :
 HU P w K (.Tuple es k1 tp) (KU K a b) [e,z,TO,i1,Y,TI] e (λi h=>(∃J,IsEnum h e z (i:Nat) J)/\Mo h z TI TO/\IsPair h TI (.ref i1) (.ref Y)/\(∃u v,IsPair h TO u v)/\h.IsListIter i1 a i/\h.IsListIter Y b i) where
 mem:=by simp
 obj:=λi h st c F=>by
  obtain⟨⟨J,e0⟩,⟨f0,f1,_,e1⟩,e2,⟨u,v,e3⟩,⟨o4,e4,c4,d4⟩,⟨o5,e5,c5,d5⟩⟩:=st;simp only[Am,Bf,D7]at F;rcases F with rfl|rfl|rfl|rfl|rfl|rfl
  .refine⟨_,e0,λv q=>?_⟩;have q':Data.fields _=Data.cell v:=q;cases q'
  .refine⟨_,e1,λv q=>?_⟩;have q':Data.fields _=Data.cell v:=q;cases q'
  .refine⟨_,e3,λv q=>?_⟩;have q':Data.seq _ _=Data.cell v:=q;cases q'
  .exact⟨o4,e4,λv q=>by rw[d4]at q;cases q⟩
  .exact⟨o5,e5,λv q=>by rw[d5]at q;cases q⟩
  .refine⟨_,e2,λv q=>?_⟩;have q':Data.seq _ _=Data.cell v:=q;cases q'
 keep:=λi h h' st k=>by
  obtain⟨⟨J,e0⟩,⟨f0,f1,hf,e1⟩,e2,⟨u,v,e3⟩,e4,e5⟩:=st;exact⟨⟨J,k e (by simp) _ e0⟩,⟨f0,f1,hf,k z (by simp) _ e1⟩,k TI (by simp) _ e2,⟨u,v,k TO (by simp) _ e3⟩,e4.at λo e=>k i1 (by simp) o e,e5.at λo e=>k Y (by simp) o e⟩
 item:=by
  intro X hP hw hK F i pins s σ H E I hf st hg;subst hP hw hK;obtain⟨xs,ys,x,y,ag,af,hx,hy⟩:=hg;obtain⟨aw,rx,px,ao⟩:=I.list ag;obtain⟨az,ry,py,an⟩:=I.list af;obtain⟨ux,av,ay⟩:=rx.get hx;obtain⟨uy,aq,aA⟩:=ry.get hy;obtain⟨⟨J,he⟩,hz,Z,⟨u,v,ad⟩,hi1,ac⟩:=st;have ah:∃o,s.heap.get? z=some o/\o.cls=.type "zip":=by obtain⟨_,_,_,h⟩:=hz;exact⟨_,h,rfl⟩
  have lt:∀c∈[e,z,TO,i1,Y,TI],c<s.heap.objs.size:=by
   obtain⟨_,_,_,h1⟩:=hz;obtain⟨o4,e4,_⟩:=hi1;obtain⟨o5,e5,_⟩:=ac;intro c F;simp only[Am,Bf,D7]at F;rcases F with rfl|rfl|rfl|rfl|rfl|rfl
   .exact As he
   .exact As h1
   .exact As ad
   .exact As e4
   .exact As e5
   .exact As Z
  refine W0 (Q1:=λvv s1=>vv=.ref s.heap.objs.size/\∃h1,s1={ s with heap:=h1 }/\Mo h1 z TI TO/\(∃u v,IsPair h1 TO u v)/\h1.IsListIter i1 a (i+1)/\h1.IsListIter Y b (i+1)/\IsPair h1 s.heap.objs.size ux uy/\h1.objs.size=s.heap.objs.size+1 /\
   (∀c o,c≠z->c≠TO->c≠i1->c≠Y->s.heap.get? c=some o->h1.get? c=some o)) he
   (VZ ah (hU D hz Z ad hi1 ac px.isList py.isList (x:=ux) (y:=uy) (by simpa using av) (by simpa using aq) λh1 b1 b2 b3 b4 b5 b6 b7=>⟨b7 _ _ De.1 De.2.2.1 De.2.2.2.1 De.2.2.2.2 he,rfl,h1,rfl,b1,b2,b3,b4,b5,b6,b7⟩)) ?_
  rintro vv s1 h2 ⟨rfl,h1,rfl,b1,b2,b3,b4,b5,b6,b7⟩ ax aa ai ak;dsimp only at ax aa ai ak;refine⟨_,rfl,?_⟩;refine Hl aa λh3 ap ae=>?_
  replace ae:Heap.SameBut e h2 h3:=ae
  rw[b6]at ai aa⊢
  have hn:H s.heap.objs.size=none:=I.hok.fresh (Af _);have aB:H (s.heap.objs.size+1)=none:=I.hok.fresh (D6 _);have I1:AI X pins σ (upd H s.heap.objs.size (.tup [x,y])) { s with heap:=h1,toks:=s.toks } :=
   I.turnLay (ch:=[z,TO,i1,Y]) (λc o F q=>b7 c o (λe=>F (by simp[e])) (λe=>F (by simp[e])) (λe=>F (by simp[e])) (λe=>F (by simp[e])) q)
    (λc F=>hf c (by simp only[Am,Bf,D7]at F⊢;rcases F with e|e|e|e<;>simp[e])) (Af _) ⟨Ct rfl,[ux,uy],.cons ay (.cons aA .nil),⟨_,b5,rfl,0,rfl⟩⟩
  have am:EX X pins (upd H s.heap.objs.size (.tup [x,y])) e:=by
   obtain⟨f0,f1⟩:=hf e (by simp);exact⟨by rw[BV (Be (lt e (by simp)))];exact f0,f1⟩
  have G:∀c o,c≠e->h1.get? c=some o->h3.get? c=some o:=λc o F q=>(ae.2 c F).trans (ak c o F q)
  have ar:h3.get? (s.heap.objs.size+1)=some { cls:=.type "tuple",data:=.seq #[.int i s.toks,.ref s.heap.objs.size] }:=(ae.2 _ (Cz (Eu (lt e (by simp))))).trans ai;have I2:AI X pins σ (upd (upd H s.heap.objs.size (.tup [x,y])) (s.heap.objs.size+1) (.tup [.int i,.ref s.heap.objs.size])) { s with heap:=h3,toks:=s.toks+1 } :=
   I1.turnLay (ch:=[e]) (λc o F q=>G c o (λz=>F (by simp[z])) q) (λc F=>by
    have z:c=e:=by simpa using F
    rw[z];exact am) (E7 b6) ⟨Ct rfl,[.int i s.toks,.ref s.heap.objs.size],.cons ⟨_,rfl⟩ (.cons rfl .nil),⟨_,ar,rfl,0,rfl⟩⟩
  refine⟨.ref (s.heap.objs.size+1),_,I2,rfl,⟨_,_,x,y,rfl,hn,aB,Iq _,λzs h=>by rw[I.list_inj h ag];exact hx,λzs h=>by rw[I.list_inj h af];exact hy,rfl⟩,?_,λc F=>?_⟩
  .obtain⟨g0,g1,hg,al⟩:=b1;obtain⟨u2,v2,aj⟩:=b2;refine⟨⟨.ref s.heap.objs.size,?_⟩,⟨g0,g1,hg,G _ _ De.1.symm al⟩,G _ _ De.2.1.symm (b7 _ _ D.TIz D.TITO D.TIi1 D.TIi2 Z),⟨u2,v2,G _ _ De.2.2.1.symm aj⟩,b3.at λo q=>G _ o De.2.2.2.1.symm q,b4.at λo q=>G _ o De.2.2.2.2.symm q⟩
   .have e1:((i+1:Nat):Int)=(i:Int)+1:=Int.natCast_succ i;rw[e1];exact ap
  .have l:=lt c F;rw[BV (Be (Eu l)),BV (Be l)];exact(hf c F).1
 done:=by
  intro X hP hw hK F i pins s σ H E I hf st hg;subst hP hw hK;obtain⟨xs,ys,ag,af,hx⟩:=hg;obtain⟨aw,rx,px,ao⟩:=I.list ag;obtain⟨az,ry,py,an⟩:=I.list af;obtain⟨⟨J,he⟩,hz,Z,⟨u,v,ad⟩,hi1,ac⟩:=st;have ah:∃o,s.heap.get? z=some o/\o.cls=.type "zip":=by obtain⟨_,_,_,h⟩:=hz;exact⟨_,h,rfl⟩
  have aD:=rx.length;have aC:=ry.length;refine W0 (Q1:=λ_ _=>False) he (VZ ah (hV (I.ok.hd F) D hz Z ad hi1 ac px.isList py.isList ?_ λh' ee k au=>⟨⟨ee,rfl,au⟩,rfl,?_⟩)) (λ_ _ _ q=>q.elim)
  .rcases hx with h|h
   .exact .inl (by simp;lia)
   .exact .inr (by simp;lia)
  .exact I.turned4 (t':=s.toks) (ch:=[z,TO,i1,Y]) (λc o F q=>k c o (λe=>F (by simp[e])) (λe=>F (by simp[e])) (λe=>F (by simp[e])) (λe=>F (by simp[e])) q)
    (λc F=>hf c (by simp only[Am,Bf,D7]at F⊢;rcases F with e|e|e|e<;>simp[e]))
 self:=λ_ _ _ _ _ st h=>let ⟨⟨_,e1⟩,_⟩:=st;G2 e1 h
theorem i3(n:Nat):n+5≠n+4/\n+5≠n+2/\n+5≠n+3/\n+5≠n/\n+5≠n+1:=by lia
section
variable {X:Cx}{es:List Expr}{k1:Nat}{tp:Pos}
def W5(K:Frag)(ta:TA):TI:=λσ H R=>ta σ H λvs H1=>∃a b,vs=[.ref a,.ref b]/\(∃xs,AH K H1 a xs)/\(∃ys,AH K H1 b ys)/\R (KU K a b) H1
theorem i4{a b:Expr}{ta:TA}{p pos p2 J:Pos}(hg:Gl X "enumerate")(hm:X.mg "enumerate"=none)(af:Gl X "zip")(ae:X.mg "zip"=none)(ha:PA X [a,b] ta)(hs:starEach [a,b] X.env=[(false,eval a X.env),(false,eval b X.env)]:=by rfl)(hs2:starEach [b] X.env=[(false,eval b X.env)]:=by rfl)
 (hs3:starEach [.Call (.Name "zip" p) [a,b] [] pos] X.env=(false,eval (.Call (.Name "zip" p) [a,b] [] pos) X.env)::starEach [] X.env:=by rfl) :
 PI X (.Tuple es k1 tp) (.Call (.Name "enumerate" p2) [.Call (.Name "zip" p) [a,b] [] pos] [] J) (W5 X.K ta):=by
 intro pins s σ H R I h;refine C3 (L4 I hg hm UH ?_);refine C0 ?_ hs3 (by rfl);rw[hs3];show wpAny _ _ (spliced ((false,eval (.Call (.Name "zip" p) [a,b] [] pos) X.env)::backTo J (starEach [] X.env))) _ _ s;refine Calls.spliced_cons ?_;refine C3 (L4 I af ae Vs ?_);refine C0 (BD (ha pos pins s σ H _ I h) λus G ⟨vs,H1,Y,r1,q1⟩=>?_) (by rw[hs,hs2]) (by rw[hs2];rfl);obtain⟨l1,l2,rfl,⟨xs,ai⟩,⟨ys,ah⟩,q⟩:=q1;obtain⟨u1,u2,rfl,ag,aa⟩:=Rr r1;cases ag;cases aa;obtain⟨ak,rx,px,am⟩:=Y.list ai;obtain⟨an,ry,py,al⟩:=Y.list ah;have a1:l1<G.heap.objs.size:=by obtain⟨_,e,_⟩:=px.isList;exact As e
 have a2:l2<G.heap.objs.size:=by obtain⟨_,e,_⟩:=py.isList;exact As e
 refine call_zip_2 px.isList py.isList λh' hz ad ac hi1 aj hsz hk=>?_
 refine Calls.spliced_nil ?_;refine hX hz λh2 Z F=>?_
 refine G2 Z ?_;dsimp only at Z F⊢;rw[hsz]at Z⊢
 refine⟨G.heap.objs.size+5,[G.heap.objs.size+5,G.heap.objs.size+4,G.heap.objs.size+3,G.heap.objs.size,G.heap.objs.size+1,G.heap.objs.size+2],_,_,H1,rfl,Y.kept (t':=G.toks) (λc o e=>F c o (hk c o e)),i0 l1 l2 _ _ _ _ _ _ (zipApart_new a1 a2) (i3 _),⟨⟨_,Z⟩,⟨_,_,.inl rfl,F _ _ hz⟩,F _ _ ad,⟨_,_,F _ _ ac⟩,hi1.at λo e=>F _ o e,aj.at λo e=>F _ o e⟩,λc hc=>?_,q⟩;have W:G.heap.objs.size<=c:=by
  simp only[Am,Bf,D7]at hc;rcases hc with rfl|rfl|rfl|rfl|rfl|rfl<;>lia
 exact Y.fpOk W (Y.hok.fresh W)
end
theorem i5{K:Frag}{a b:Addr}{xs ys:List V}{g:TG}{tb:TS}{D:DV}{σ:St}{H:Hp}(m:Nat)(hm:m<=xs.length/\m<=ys.length/\(xs.length<=m\/ys.length<=m))(F:Nat->St->Hp->Prop)(h0:F 0 σ H)(hl:∀i σ H,i<=m->F i σ H->AH K H a xs/\AH K H b ys)
 (hs:∀i x y p t σ H,i<m->xs[i]?=some x->ys[i]?=some y->F i σ H->H p=none->H t=none->t≠p->g (.ref t) σ (upd (upd H p (.tup [x,y])) t (.tup [.int i,.ref p])) λG H2=>tb { D with nx:=F (i+1),ct:=F (i+1),bk:=D.nx } G H2) (hd:∀σ H,F m σ H->D.nx σ H) :
 ∃W:Nat->Nat->St->Hp->Prop,(∃m,W 0 m σ H)/\∀i m σ H,W i m σ H ->
  ((KU K a b).stop i H/\D.nx σ H)\/((KU K a b).go i H/\∃N:St->Hp->Prop,(∀I H',N I H'->∃m',m'<m/\W (i+1) m' I H')/\∀x H',(KU K a b).yld i H x H'->g x σ H' λG H2=>tb { D with nx:=N,ct:=N,bk:=D.nx } G H2):=by
 refine⟨λi n σ H=>n=m-i/\i<=m/\F i σ H,⟨m,by simp,B9 _,h0⟩,?_⟩;rintro i n σ H ⟨rfl,hi,p⟩;obtain⟨qx,Y⟩:=hl i σ H hi p;by_cases J:i<m
 .have aa:i<xs.length:=by lia
  have ac:i<ys.length:=by lia
  refine .inr ⟨⟨xs,ys,xs[i],ys[i],qx,Y,by simp[aa],by simp[ac]⟩,F (i+1),λI H' p'=>⟨m-(i+1),by lia,rfl,J,p'⟩,λv H' y=>?_⟩;obtain⟨pp,t,x,y,rfl,hn,ad,Z,hx,hy,rfl⟩:=y;exact hs i x y pp t σ _ J (hx xs qx) (hy ys Y) p hn ad Z
 .have e:i=m:=by lia
  subst e;exact .inl ⟨⟨xs,ys,qx,Y,hm.2.2⟩,hd σ H p⟩
section
variable {X:Cx}(K:Frag) (hK:X.K=K)
include hK
theorem i6(I:Gl X "enumerate")(hm:X.mg "enumerate"=none)(G:Gl X "zip")(F:X.mg "zip"=none)(ha:PA X [a,b] ta)(hs:starEach [a,b] X.env=[(false,eval a X.env),(false,eval b X.env)]:=by rfl)(hs2:starEach [b] X.env=[(false,eval b X.env)]:=by rfl)(hs3:starEach [.Call (.Name "zip" p) [a,b] [] pos] X.env=(false,eval (.Call (.Name "zip" p) [a,b] [] pos) X.env)::starEach [] X.env:=by rfl) :
 PI X (.Tuple es k1 tp) (.Call (.Name "enumerate" p2) [.Call (.Name "zip" p) [a,b] [] pos] [] pos2) (W5 K ta):=by subst hK;exact i4 I hm G F ha hs hs2 hs3
end
end L2
namespace Unl
open PySem L2 PySem.Builtin.Str
theorem W6(x:Str)(a:Nat):∀n,((List.range n).map λ(k:Nat)=>a+k).filterMap (x.cps[·]?)=(x.cps.toList.drop a).take n
 | 0=>rfl
 | n+1=>by
   rw[List.range_succ,Ah,E3,W6 x a n,Ay,K2];congr 1
   show List.filterMap _ [a+n]=_;rw[Ep,Fk,List.filterMap_nil];cases x.cps[a+n]?<;>rfl
theorem W7{a b:Int}{p m:Nat}(F:a=(p:Int))(hb:(b-a).toNat=m):sliceRange a b 1=(List.range m).map λ(k:Nat)=>p+k:=by
 subst F;unfold sliceRange;simp only[show(1:Int) > 0 by decide,F9];have e:(if (p:Int)<b then(b-p+1-1)/1 else 0).toNat=m:=by
  split<;>lia
 rw[e];refine List.map_congr_left λk _=>?_
 lia
theorem W8(e:strSliceIndices lo hi 1 x.length=(List.range m).map λ(k:Nat)=>p+k)(hm:m=x.length->p=0):(Txt.slice x lo hi).cps.toList=(x.cps.toList.drop p).take m:=by
 have F:x.cps.toList.length=x.length:=Au;unfold Txt.slice;rw[e];split
 .rename_i h;simp only[A6,K9,Fc,Bool.true_and,C2]at h;rw[hm h,Ex,Ak (by lia)]
 .show((((List.range m).map λ(k:Nat)=>p+k).filterMap (x.cps[·]?)).toArray).toList=_;rw[W6]
theorem i7(x:Str){z:Int}(n:Nat)(G:z=(n:Int)):(Txt.slice x none (some z)).cps.toList=x.cps.toList.take n:=by
 have F:x.cps.toList.length=x.length:=Au;have e:strSliceIndices none (some z) 1 x.length=(List.range (min n x.length)).map λ(k:Nat)=>0+k:=by
  unfold strSliceIndices;simp only[show(1:Int) > 0 by decide,F9];exact W7 rfl (by split<;>lia)
 rw[W8 e (λ_=>rfl),Ex,<-F,<-List.take_take,List.take_length]
theorem i8(x:Str){z:Int}(n:Nat)(G:z=(n:Int)):(Txt.slice x (some z) none).cps.toList=x.cps.toList.drop n:=by
 have F:x.cps.toList.length=x.length:=Au;have e:strSliceIndices (some z) none 1 x.length=(List.range (x.length-min n x.length)).map λ(k:Nat)=>min n x.length+k:=by
  unfold strSliceIndices;simp only[show(1:Int) > 0 by decide,F9];exact W7 (by split<;>lia) (by split<;>lia)
 rw[W8 e (λ_=>by lia),Ak (by rw[Bx];lia)];by_cases h:n<=x.length
 .rw[Dq h]
 .rw[Gg (by lia),Cm (by lia),Cm (by lia)]
def cp:List Nat->List Nat->Nat
 | a::x,b::y=>if a=b then cp x y+1 else 0
 | _,_=>0
theorem W9:∀x y,cp x y<=x.length/\cp x y<=y.length
 | [],_=>⟨B9 _,by cases ‹List Nat›<;>exact B9 _⟩
 | _::_,[]=>⟨B9 _,B9 _⟩
 | a::x,b::y=>by
   have:=W9 x y;show(if a=b then cp x y+1 else 0)<=x.length+1/\(if a=b then cp x y+1 else 0)<=y.length+1;split<;>lia
theorem Wa:∀{x y:List Nat}{i:Nat},i<cp x y->x[i]?=y[i]?
 | [],_,_,h=>by cases ‹List Nat›<;>exact absurd h (Cg _)
 | _::_,[],_,h=>absurd h (Cg _)
 | a::x,b::y,i,h=>by
   have h:i<(if a=b then cp x y+1 else 0):=h;split at h
   .rename_i e;cases i with
    | zero=>rw[e];rfl
    | succ j=>exact Wa (x:=x) (y:=y) (Nat.lt_of_succ_lt_succ h)
   .exact absurd h (Cg _)
theorem Wb:∀{x y:List Nat}{c d:Nat},x[cp x y]?=some c->y[cp x y]?=some d->c≠d
 | [],_,_,_,h,_=>by simp at h
 | _::_,[],_,_,_,h=>by simp at h
 | a::x,b::y,c,d,h,h2=>by
   by_cases e:a=b
   .have F:cp (a::x) (b::y)=cp x y+1:=Ar e;rw[F]at h h2
    exact Wb (x:=x) (y:=y) h h2
   .have F:cp (a::x) (b::y)=0:=Aq e;rw[F]at h h2
    have h:some a=some c:=h;have h2:some b=some d:=h2;cases h;cases h2;exact e
def un:Nat->List Str->List Str->Option (Nat×Nat)
 | k,t::ts,s::ss=>if t=s then un (k+1) ts ss else some (k,cp t.cps.toList s.cps.toList)
 | _,[],[]=>none
 | k,_,_=>some (k,0)
theorem Qn:∀{i k:Nat}{ts ss:List Str}{t s:Str},(∀j,j<i->ts[j]?=ss[j]?)->ts[i]?=some t->ss[i]?=some s->t≠s->un k ts ss=some (k+i,cp t.cps.toList s.cps.toList)
 | _,_,[],_,_,_,_,h,_,_=>by simp at h
 | _,_,_::_,[],_,_,_,_,h,_=>by simp at h
 | 0,k,a::ts,b::ss,t,s,_,h,h2,n=>by
   have h:some a=some t:=h;have h2:some b=some s:=h2;cases h;cases h2;exact Aq n
 | i+1,k,a::ts,b::ss,t,s,q,h,h2,n=>by
   have e:a=b:=Ap (q 0 (Jf _));have:=Qn (i:=i) (k:=k+1) (ts:=ts) (ss:=ss) (λj F=>q (j+1) (Nat.succ_lt_succ F)) h h2 n;rw[show k+(i+1)=k+1+i by lia,<-this];exact Ar e
theorem Qo:∀{i k:Nat}{ts ss:List Str},(∀j,j<i->ts[j]?=ss[j]?)->i=min ts.length ss.length->ts.length≠ss.length->un k ts ss=some (k+i,0)
 | _,_,[],[],_,_,h=>absurd rfl h
 | i,k,[],b::ss,_,e,_=>by
   have:i=0:=by rw[e];exact Nat.zero_min _
   subst this;rfl
 | i,k,a::ts,[],_,e,_=>by
   have:i=0:=by rw[e];exact Nat.min_zero _
   subst this;rfl
 | 0,k,a::ts,b::ss,_,e,_=>by
   have e:0=min (ts.length+1) (ss.length+1):=e
   lia
 | i+1,k,a::ts,b::ss,q,e,n=>by
   have F:a=b:=Ap (q 0 (Jf _));have e:i+1=min (ts.length+1) (ss.length+1):=e;have n:ts.length+1≠ss.length+1:=n;have:=Qo (i:=i) (k:=k+1) (ts:=ts) (ss:=ss) (λj G=>q (j+1) (Nat.succ_lt_succ G)) (by lia) (by lia);rw[show k+(i+1)=k+1+i by lia,<-this];exact Ar F
theorem Sz:∀{k:Nat}(ts:List Str),un k ts ts=none
 | _,[]=>rfl
 | k,t::ts=>(Ar rfl:un k (t::ts) (t::ts)=un (k+1) ts ts).trans (Sz ts)
theorem i9(q:∀j,j<ts.length->ts[j]?=ss[j]?)(h:ts.length=ss.length):un k ts ss=none:=by
 have:ts=ss:=List.ext_getElem? λj=>by
  by_cases F:j<ts.length
  .exact q j F
  .rw[Es (by lia),Es (by lia)]
 rw[this];exact Sz ss
def N7(H:Hp)(v:V):Option (Nat×Nat)->Prop
 | none=>v=.non
 | some (i,p)=>∃t,v=.ref t/\H t=some (.tup [.int i,.int p])
end Unl
namespace L2
open PySem PySem.Spec PyProof.Rows
structure FS(ns:List Str)(fs:List (Str×V))(vals:List (Option V)):Prop where
 lk:∀m,fs.lookup m=(ns.idxOf? m).bind λi=>(vals[i]?).join
 ln:vals.length=ns.length
 nd:(fs.map (·.1)).Nodup
 sb:∀x∈fs.map (·.1),x∈ns
 fw:ns.length<1000
theorem Wc(f:Str)(v:V):∀fs:List (Str×V),(f∈fs.map (·.1)->(DS f v fs).map (·.1)=fs.map (·.1))/\(f∉fs.map (·.1)->(DS f v fs).map (·.1)=fs.map (·.1)++[f])
 | []=>⟨λh=>by simp at h,λ_=>rfl⟩
 | (k,x)::r=>by
   obtain⟨G,I⟩:=Wc f v r;rw[show DS f v ((k,x)::r)=(if k=f then(k,v)::r else(k,x)::DS f v r)from rfl];by_cases F:k=f
   .rw[Ar F];exact⟨λ_=>rfl,λh=>absurd (by rw[<-F];simp) h⟩
   .rw[Aq F];refine⟨λh=>?_,λh=>?_⟩
    .rw[Bq]at h
     rcases Am.mp h with h|h
     .exact absurd h.symm F
     .rw[Bq,G h,Bq]
    .rw[Bq,I λz=>h (by rw[Bq];exact Ac _ z),Bq];rfl
theorem FS.nil(h:ns.length<1000):FS ns [] (List.replicate ns.length none):=by
 refine⟨λm=>?_,Ci,F1,(λx F=>nomatch F),h⟩;cases e:ns.idxOf? m with
 | none=>rfl
 | some i =>
   show none=((List.replicate ns.length (none:Option V))[i]?).join;rw[Fu];split<;>rfl
theorem FS.len{ns:List Str}{fs:List (Str×V)}{vals:List (Option V)}(h:FS ns fs vals):fs.length<1000:=by
 have h1:=Cs.VT h.nd h.sb;have h2:=h.fw;rw[A6]at h1
 lia
theorem FS.get(h:FS ns fs vals)(hi:ns.idxOf? m=some i)(hv:vals[i]?=some (some v)):fs.lookup m=some v:=by
 rw[h.lk m,hi];show(vals[i]?).join=_;rw[hv];rfl
theorem FS.no(h:FS ns fs vals)(hi:ns.idxOf? m=none):fs.lookup m=none:=by
 rw[h.lk m,hi];rfl
theorem We{ns:List Str}{f:Str}{i:Nat}(h:ns.idxOf? f=some i):ns[i]?=some f:=by
 unfold List.idxOf? at h;obtain⟨hi,e,_⟩:=C7.mp h;rw[A7 hi,C2.mp e]
theorem FS.put{ns:List Str}{fs:List (Str×V)}{vals:List (Option V)}{f:Str}{i:Nat}(y:V)(h:FS ns fs vals)(hi:ns.idxOf? f=some i):FS ns (DS f y fs) (vals.set i (some y)):=by
 have F:=We hi;have J:i<vals.length:=by
  have:=(B2.mp F).1;rw[h.ln];exact this
 obtain⟨k1,k2⟩:=Wc f y fs;refine⟨λm=>?_,by rw[Em];exact h.ln,?_,?_,h.fw⟩
 .rw[Rx];by_cases e:m=f
  .rw[Ar e,e,hi];show _=((vals.set i (some y))[i]?).join;rw[Et,Ar rfl,Ar J];rfl
  .rw[Aq e,h.lk m];cases W:ns.idxOf? m with
   | none=>rfl
   | some j =>
     have Z:=We W;have I:i≠j:=λz=>by
      rw[z,Z]at F
      exact e (Ap F)
     show(vals[j]?).join=((vals.set i (some y))[j]?).join;rw[Et,Aq I]
 .by_cases e:f∈fs.map (·.1)
  .rw[k1 e];exact h.nd
  .rw[k2 e,Dn];refine⟨h.nd,by simp,λa Y b hb=>?_⟩;rw[Aj.mp hb];exact λz=>e (z ▸ Y)
 .intro x G;by_cases e:f∈fs.map (·.1)
  .rw[k1 e]at G
   exact h.sb x G
  .rw[k2 e]at G
   rcases Az.mp G with G|G
   .exact h.sb x G
   .rw[Aj.mp G];exact Ag F
def HM(C:Addr)(ns:List Str)(H:Hp)(a:Addr)(vals:List (Option V)):Prop:=∃dx fs,H a=some (.ins C dx fs)/\FS ns fs vals
theorem HM.same(h:HM C ns H a vals)(s:AF H H'):HM C ns H' a vals:=let ⟨dx,fs,e,f⟩:=h;⟨dx,fs,s _ _ e,f⟩
def ia(C:Addr)(ns:List Str)(ta:TE)(i:Nat):TE:=λσ H Q=>ta σ H λx H1=>∃a vals v,x=.ref a/\HM C ns H1 a vals/\vals[i]?=some (some v)/\Q v H1
def ic(C:Addr)(ns:List Str)(ta tv:TE)(i:Nat):TS:=λD σ H=>tv σ H λy H1=>ta σ H1 λx H2=>∃a vals,x=.ref a/\HM C ns H2 a vals /\
 ∀F,HM C ns F a (vals.set i (some y))->(∀b,b≠a->F b=H2 b)->D.nx σ F
def Wf(C:Addr)(ns:List Str)(sp:Sp)(E:XK)(ta:TE)(t:TA):TE:=λσ H Q=>ta σ H λx H1=>∃a vals,x=.ref a/\HM C ns H1 a vals/\t σ H1 λvs H2=>sp (x::vs) H2 Q E
structure DM(K:Frag)(x qual:Str)(st:Stmt)(ps:List Str)(C f:Addr)(fd:FuncData):Prop where
 fn:Mh K x qual st f fd
 ba:∀us:List Value,us.length=ps.length->bindArgs fd ⟨us,[]⟩=pure (ps.zip us)
 me:Ou K C x f
section
variable {X:Cx}{K:Frag}(hK:X.K=K) {ns:List Str}{C:Addr}{o e value:Expr}{es:List Expr}{f:Str}{i:Nat}{pos pos' apos:Pos}{ta tv:TE}{t:TA}{k j:Nat}{g:Addr}{fd:FuncData}{ps:List Str}{sp:Sp}{m qual:Str}{st:Stmt}
include hK
theorem BZ(c:L9 K C)(n:Mf K C f)(hi:ns.idxOf? f=some i)(J:PE X o ta)(hb:attributeBase o f X.env (eval o X.env)=eval o X.env:=by rfl):PE X (.Attribute o f pos) (ia C ns ta i):=by
 subst hK;intro pins s σ H Q I h;refine Zs hb (BD (J pins s σ H _ I h) λu s1 ⟨x,H1,I1,Z,a,vals,v,ex,⟨dx,fs,Y,F⟩,hv,q⟩=>?_);subst ex;obtain rfl:u=Value.ref a:=Z;exact Zq I1 Y c n (F.get hi hv) λu' s2 G W=>⟨v,H1,G,W,q⟩
theorem HG(c:L9 K C)(n:Mf K C f)(hi:ns.idxOf? f=some i)(Z:PE X o ta)(hv:PE X value tv)(hs:swapsWith value (some (.Attribute o f pos')) pos.line X.env=pure false:=by rfl):PS X (.Assign [.Attribute o f pos'] value pos) (ic C ns ta tv i):=by
 subst hK;intro pins s σ H D I h;refine Gb (BD (hv pins s σ H _ I h) λu s1 ⟨y,H1,I1,G,q⟩=>BD (Z pins s1 σ H1 _ I1 q) λov s2 ⟨x,H2,J,rx,a,vals,ex,⟨dx,fs,ea,F⟩,Y⟩=>?_) hs;subst ex;obtain rfl:ov=Value.ref a:=rx;exact Zr J ea c n F.len G λs3 W=>⟨σ,_,W,Y _ ⟨dx,_,AA,F.put y hi⟩ λb hb=>BV hb⟩
theorem Wg (c:L9 K C) (d:DM K m qual st ps C g fd) (F:AJ X.prog X.w X.K X.mg X.base BL j g fd ps sp) (Z:BX k X.A) (hi:ns.idxOf? m=none) (he:PE X o ta) (ha:PA X (e::es) t) (hjk:j<=k:=by decide) (G:starEach (e::es) X.env=(false,eval e X.env)::starEach es X.env:=by rfl) (hpl:(backTo pos (starEach es X.env)).any (·.1)=false:=by rfl) (ht:eval (.Call (.Attribute o m apos) (e::es) [] pos) X.env=(do
 let ov <- eval o X.env
 standAt apos.atName
 let (f,first) <- holding [ov] (getMethod ov m pl)
 callWith pos f first (backTo pos (starEach (e::es) X.env)) (backToKw pos (keywordEach [] X.env))):=by rfl) :
 PE X (.Call (.Attribute o m apos) (e::es) [] pos) (Wf C ns sp E0 ta t):=by
 subst hK;intro pins s σ H Q I h;refine Gc (pl:=pl) (BD (he pins s σ H _ I h) λu s1 ⟨x,H1,Y,rx,a,vals,ex,⟨dx,fs,ea,FF⟩,q⟩=>?_) ht;subst ex;obtain rfl:u=Value.ref a:=rx;refine Ug Y ea c d.me (FF.no hi) ?_;refine Dy (first:=[.ref a]) (h₀:=X.base) I.ok.mod.kin d.me.kp (BD (ha pos pins s1 σ H1 _ Y q) λus s2 ⟨vs,H2,J,r,q2⟩=>⟨J.kIn,?_⟩) G hpl;exact RC (us:=.ref a::us) (vs:=.ref a::vs) (F.mono hjk) Z (.all d.ba) .nil PN J (.cons rfl r) (by rw[Av];exact q2)
theorem JN (c:L9 K C) (d:DM K m qual st ps C g fd) (F:AJ X.prog X.w X.K X.mg X.base BL j g fd ps sp) (J:BX k X.A) (hi:ns.idxOf? m=none) (Y:PE X o ta) (hjk:j<=k:=by decide) (ht:eval (.Call (.Attribute o m apos) [] [] pos) X.env=(do
 let ov <- eval o X.env
 standAt apos.atName
 let (f,first) <- holding [ov] (getMethod ov m pl)
 callWith pos f first (backTo pos (starEach [] X.env)) (backToKw pos (keywordEach [] X.env))):=by rfl) :
 PE X (.Call (.Attribute o m apos) [] [] pos) (Wf C ns sp E0 ta MM):=by
 subst hK;intro pins s σ H Q I h;refine Gc (pl:=pl) (BD (Y pins s σ H _ I h) λu s1 ⟨x,H1,G,rx,a,vals,ex,⟨dx,fs,Z,FF⟩,q⟩=>?_) ht;subst ex;obtain rfl:u=Value.ref a:=rx;refine Ug G Z c d.me (FF.no hi) ?_;exact PySem.W.callWith_K0 (first:=[.ref a]) G.kIn d.me.kp (RC (us:=[.ref a]) (vs:=[.ref a]) (F.mono hjk) J (.all d.ba) .nil PN G (.cons rfl .nil) q)
end
structure N8(K:Frag)(x qual:Str)(st:Stmt)(f:Addr)(fd:FuncData):Prop where
 ex:∃(oc:Value) (od:Option Addr) (dV kV doc pm:Value) (an:Option Addr) (cdv ct:Value) (osl:Array (Option Value)),
  fd=PySem.W.fnOf x qual (HV st) (HK st) (BJ st) dV kV doc pm an cdv ct/\K.lookup f=some ⟨oc,od,.func fd,osl⟩/\PySem.W.codeIn K cdv qual=true
 kp:PySem.W.keepIn K (.ref f)=true
section
variable {P:Program}{w:World}{K:Frag}{mg:Str->Option Value}{base:Heap}
theorem N8.ok{x qual:Str}{st:Stmt}{f:Addr}{fd:FuncData}{N ps:List Str}{k:Nat}{sp:Sp}(F:N8 K x qual st f fd)(S:AE N ps (BJ st))(len:∀vs H Q E,sp vs H Q E->vs.length=ps.length)
 (hbody:∀(G:Value) (A:Around) (outer:List Env) (s:Shared) (H:Hp) (vs:List V) (Q:VK) (E:XK),BX k (A.deeper (envOfC qual (BJ st) s.heap.objs.size f G))->sp vs H Q E ->
   ∃t,HA (GC BL P w K mg base N qual (BJ st) f G A outer s H E).nox (HK st) t/\t { nx:=λ_ H'=>Q .non H',rt:=Q } (start N vs) H):AJ P w K mg base BL (k+1) f fd ps sp:=by
 obtain⟨oc,Z,dV,kV,doc,pm,an,G,ct,Y,rfl,lk,J⟩:=F.ex;refine RD lk J S len λA outer s H vs Q E W I=>?_
 obtain⟨t,h,q⟩:=hbody G A outer s H vs Q E W I;exact⟨t,h.nox,q⟩
theorem ie{P:List Value->Prop}(h:∀a,P [a]):∀us:List Value,us.length=1->P us
 | [a],_=>h a
theorem ig{P:List Value->Prop}(h:∀a b,P [a,b]):∀us:List Value,us.length=2->P us
 | [a,b],_=>h a b
theorem ij{P:List Value->Prop}(h:∀a b c,P [a,b,c]):∀us:List Value,us.length=3->P us
 | [a,b,c],_=>h a b c
theorem Wh{P:List Value->Prop}(h:∀a b c d,P [a,b,c,d]):∀us:List Value,us.length=4->P us
 | [a,b,c,d],_=>h a b c d
theorem Wi{P:List Value->Prop}(h:∀a b c d e,P [a,b,c,d,e]):∀us:List Value,us.length=5->P us
 | [a,b,c,d,e],_=>h a b c d e
theorem Wj{us ds:List Value}{n:Nat}(h:(us++ds).length=n):us.length=n-ds.length:=by
 rw[Aa]at h
 lia
structure DI(K:Frag)(mg:Str->Option Value)(x qual:Str)(st:Stmt)(ps:List Str)(C f:Addr)(fd:FuncData):Prop where
 mg:mg x=some (.ref C)
 cl:L9 K C
 mkr:Mk K C f
 fn:N8 K "__init__" qual st f fd
 b0:JS K fd ps []
 b1:JS K fd ps [.none]
end
section
variable {X:Cx}{k j:Nat}{C f:Addr}{fd:FuncData}{ps:List Str}{sp:Sp}{x qual:Str}{st:Stmt}{p pos:Pos}{e:Expr}{es:List Expr}{t:TA}
theorem ik(d:DI X.K X.mg x qual st ps C f fd)(F:AJ X.prog X.w X.K X.mg X.base BL j f fd ps sp)(I:BX k X.A)(G:Gl X x)(J:PA X (e::es) t)(hjk:j+1<=k:=by decide)(hdb:(x==("__debug__":Str))=false:=by decide)
 (he:starEach (e::es) X.env=(false,eval e X.env)::starEach es X.env:=by rfl) (hpl:(backTo pos (starEach es X.env)).any (·.1)=false:=by rfl) :
 PE X (.Call (.Name x p) (e::es) [] pos) (Uj C sp [.non] E0 t) :=
 Zx d.mkr (F.mono (Af j)) (I.mono hjk) G d.mg d.b1 (.cons rfl .nil) PN J hdb he hpl
end
def SD(K:Frag):R2:=λx y H Q=>MT K x y H Q\/Oy x y H Q
theorem ip(K:Frag)(hK:X.K=K):MO X (SD K):=by
 subst hK;intro value slice pins s σ H x y v u Q I G F h J;rcases h with h|h
 .exact Uu value slice pins s σ H x y v u Q I G F h J
 .exact Ld value slice pins s σ H x y v u Q I G F h J
end L2
namespace Mc
open PySem L2
abbrev Mx:=Lan.Mx
abbrev CU:=Option Mx
structure Cf where
 rs:List Cs.CC
 keys:Str
 cast:Int
structure Ms where
 lanes:List (List Mx)
 line:List CU
 heat:List CU
 togo:Int
 bar:List Mx
 texts:List Str
 at_:Nat
 done:Int
 waits:Int
def EV(c:Cf)(m:Ms):Option Nat:=c.keys.cps.toList[m.at_]?
def FD(c:Cf)(m:Ms):Str:=match EV c m with
 | some k=>sg k
 | none=>""
def N9(ls:List (List Mx))(k:Nat):Bool:=match ls[k]? with
 | some l=>l.isEmpty
 | none=>true
def HN(c:Cf)(m:Ms):Bool:=match Cs.CK c.rs (FD c m)with
 | some k=>N9 m.lanes k
 | none=>false
def LP(c:Cf)(m:Ms):Bool:=HN c m&&m.heat.isEmpty&&m.bar.isEmpty
def Na(c:Cf)(m:Ms):Bool:=(EV c m).isNone&&m.line.isEmpty&&m.heat.isEmpty&&m.bar.isEmpty
def IZ(ls:List (List Mx))(k:Nat)(x:Mx):List (List Mx):=match ls[k]? with
 | some l=>ls.set k (l++[x])
 | none=>ls
def fall(c:Cf)(m:Ms):Ms:=match m.bar with
 | []=>m
 | x::r=>match Mt.IE (c.rs.map λr=>r.t) x.2 with
   | some k=>{ m with bar:=r,lanes:=IZ m.lanes k x }
   | none=>m
def ER:CU->Str
 | none=>" "
 | some x=>x.1
def CZ(l:List CU):Str:=Txt.join "" (l.map ER)
def AZ(l:List CU):List Mx:=l.filterMap id
def cool(m:Ms):Ms:=if m.heat.isEmpty=true then m else
 if m.togo-1<=0 then { m with togo:=m.togo-1,texts:=m.texts++[CZ m.heat],bar:=m.bar++AZ m.heat,heat:=[] }else { m with togo:=m.togo-1 }
def send(c:Cf)(m:Ms):Ms:=if m.heat.isEmpty=true then { m with heat:=m.line,togo:=c.cast,line:=[],at_:=m.at_+1 }else m
def take(m:Ms)(p:CU):Ms:={ m with line:=m.line++[p],at_:=m.at_+1 }
def pick(m:Ms)(k:Nat):Ms:=match m.lanes[k]? with
 | some (x::r)=>take { m with lanes:=m.lanes.set k r } (some x)
 | _=>m
def strike(c:Cf)(m:Ms):Ms:=match EV c m with
 | none=>m
 | some k=>if k=47 then send c m else if k=32 then take m none else if HN c m=true then { m with waits:=m.waits+1 }else match Cs.CK c.rs (sg k)with
   | some j=>pick m j
   | none=>m
def tick(c:Cf)(m:Ms):Ms:=let m1:=strike c (cool (fall c m));{ m1 with done:=m1.done+1 }
def GY(c:Cf)(m:Ms):Bool:=Na c m||LP c m
def LQ(c:Cf)(x:Mx):Prop:=PyData.canLay0 (.str x.1)=true/\x.1.length<=1/\0<=x.2/\x.2<128/\∃k,Mt.IE (c.rs.map λr=>r.t) x.2=some k/\k<c.rs.length
def KW(m:Ms):Nat:=(m.lanes.map List.length).sum+m.line.length+m.heat.length+m.bar.length
structure NW(c:Cf):Prop where
 few:c.rs.length<=30
 short:c.keys.length<=90000
 known:∀k∈c.keys.cps.toList,k=47\/k=32\/((Cs.CK c.rs (sg k)).isSome=true/\k≠47/\k≠32)
 ends:c.keys.cps.toList=[]\/∃a,c.keys.cps.toList=a++[47]
 noWedge:Cs.CK c.rs (sg 47)=none/\Cs.CK c.rs (sg 32)=none/\Cs.CK c.rs ""=none
 cast1:1<=c.cast
 th:∀r∈c.rs,0<=r.t/\r.t<128
 lay:PyData.canLay0 (.str c.keys)=true
structure Ok(c:Cf)(m:Ms):Prop where
 cf:NW c
 ln:m.lanes.length=c.rs.length
 lm:∀l∈m.lanes,∀x∈l,LQ c x
 im:∀x,some x∈m.line->LQ c x
 hm:∀x,some x∈m.heat->LQ c x
 bm:∀x∈m.bar,LQ c x
 le:m.at_<=c.keys.cps.toList.length
 en:m.at_=c.keys.cps.toList.length->m.line=[]
 sz:KW m<=2000+m.at_
 tx:m.texts.length+(if m.heat.isEmpty=true then 0 else 1)<=m.at_
 tl:∀t∈m.texts,PyData.canLay0 (.str t)=true
 tg:m.heat≠[]->1<=m.togo
theorem SE(h:Ok c m):m.at_<=90000:=by
 have h1:=h.le;have h2:=h.cf.short;have F:c.keys.cps.toList.length=c.keys.length:=Au
 lia
theorem SG(ls:List (List Mx))(k:Nat)(l F:List Mx)(h:ls[k]?=some l):((ls.set k F).map List.length).sum+l.length=(ls.map List.length).sum+F.length:=by
 induction ls generalizing k with
 | nil=>simp at h
 | cons a r ih =>
   cases k with
   | zero =>
     have e:a=l:=Ap h;subst e;show(F.length+(r.map List.length).sum)+a.length=(a.length+(r.map List.length).sum)+F.length
     lia
   | succ j =>
     have:=ih j h;show(a.length+((r.set j F).map List.length).sum)+l.length=(a.length+(r.map List.length).sum)+F.length
     lia
theorem iq{ls:List (List Mx)}{k:Nat}{l:List Mx}(h:ls[k]?=some l):l.length<=(ls.map List.length).sum:=by
 have:=SG ls k l [] h;have e:([]:List Mx).length=0:=rfl
 lia
theorem SH(l:List CU):(AZ l).length<=l.length:=Ic _ _
theorem ir(h:x∈AZ l):some x∈l:=by
 obtain⟨y,F,e⟩:=D8.mp h;have e:y=some x:=e;rw[<-e];exact F
theorem Ok.fall(h:Ok c m):Ok c (fall c m):=by
 unfold Mc.fall;cases hb:m.bar with
 | nil=>exact h
 | cons x r =>
   have hx:=h.bm x (by rw[hb];exact Ab);obtain⟨_,_,_,_,k,hk,W⟩:=hx;show Ok c (match Mt.IE (c.rs.map λr=>r.t) x.2 with
    | some k=>{ m with bar:=r,lanes:=IZ m.lanes k x }
    | none=>m)
   rw[hk];have G:k<m.lanes.length:=by rw[h.ln];exact W
   have Y:m.lanes[k]?=some m.lanes[k]:=A7 G;have J:IZ m.lanes k x=m.lanes.set k (m.lanes[k]++[x]):=by unfold IZ;rw[Y]
   refine⟨h.cf,?_,?_,h.im,h.hm,?_,h.le,h.en,?_,h.tx,h.tl,h.tg⟩
   .show(IZ m.lanes k x).length=_;rw[J,Em];exact h.ln
   .intro l I y F;have I:l∈IZ m.lanes k x:=I;rw[J]at I
    rcases Ht I with I|I
    .exact h.lm l I y F
    .rw[I]at F
     rcases Az.mp F with F|F
     .exact h.lm _ (Dw G) y F
     .rw[Aj.mp F];exact h.bm x (by rw[hb];exact Ab)
   .intro y F;exact h.bm y (by rw[hb];exact Ac _ F)
   .have Z:=h.sz;have h1:=SG m.lanes k _ (m.lanes[k]++[x]) Y;rw[Aa]at h1
    unfold KW at Z⊢;rw[hb]at Z
    show((IZ m.lanes k x).map List.length).sum+m.line.length+m.heat.length+r.length<=2000+m.at_;rw[J];have e1:[x].length=1:=rfl;have e2:(x::r).length=r.length+1:=rfl
    lia
theorem Nb(x:Str)(xs:List Str):Txt.join "" (x::xs)=x++Txt.join "" xs:=by
 unfold Txt.join;rw[Bp,Bp];cases xs with
 | nil=>exact(Lns.Qf x).symm
 | cons y r =>
   show x++""++Str.join "" (y::r)=_;rw[Lns.Qf]
theorem iu(F:PyData.canLay0 (.str x)=true)(G:PyData.canLay0 (.str y)=true):PyData.canLay0 (.str (x++y))=true:=by
 have F:(x.cps.all λc=>decide (c<0x110000))=true:=F;have G:(y.cps.all λc=>decide (c<0x110000))=true:=G;show((x++y).cps.all λc=>decide (c<0x110000))=true;have e:(x++y).cps.toList=x.cps.toList++y.cps.toList:=Cq;rw[<-Gi]at F G⊢
 rw[e,List.all_append,F,G];rfl
theorem iw(h:∀x,some x∈l->LQ c x):PyData.canLay0 (.str (CZ l))=true:=by
 unfold CZ;induction l with
 | nil=>decide +kernel
 | cons p r ih =>
   have ih:=ih λx F=>h x (Ac _ F)
   have e:Txt.join "" ((p::r).map ER)=ER p++Txt.join "" (r.map ER):=Nb _ _;rw[e];have G:PyData.canLay0 (.str (ER p))=true:=by
    cases p with
    | none=>decide +kernel
    | some x=>exact(h x Ab).1
   exact iu G ih
theorem Ok.cool(h:Ok c m):Ok c (cool m):=by
 unfold Mc.cool;split
 .exact h
 .rename_i I;have G:m.heat≠[]:=λz=>I (by rw[z];rfl)
  have ht:=h.tg G;split
  .refine⟨h.cf,h.ln,h.lm,h.im,(λx F=>by cases F),?_,h.le,h.en,?_,?_,?_,λz=>absurd rfl z⟩
   .intro x F;rcases Az.mp F with F|F
    .exact h.bm x F
    .exact h.hm x (ir F)
   .have J:=h.sz;have Y:=SH m.heat;unfold KW at J⊢;show(m.lanes.map List.length).sum+m.line.length+0+(m.bar++AZ m.heat).length<=2000+m.at_;rw[Aa]
    lia
   .have h1:=h.tx;rw[Aq I]at h1
    show(m.texts++[CZ m.heat]).length+0<=m.at_;rw[Aa];show m.texts.length+1+0<=_
    lia
   .intro t ht;rcases Az.mp ht with ht|ht
    .exact h.tl t ht
    .rw[Aj.mp ht];exact iw h.hm
  .rename_i W;exact⟨h.cf,h.ln,h.lm,h.im,h.hm,h.bm,h.le,h.en,h.sz,h.tx,h.tl,λ_=>by show 1<=m.togo-1;lia⟩
theorem Qp(h:EV c m=some k):m.at_<c.keys.cps.toList.length:=(B2.mp h).1
theorem ix(h:NW c)(F:EV c m=some k)(e:m.at_+1=c.keys.cps.toList.length):k=47:=by
 unfold EV at F;rcases h.ends with z|⟨a,z⟩
 .rw[z]at e
  cases e
 .rw[z]at e F
  rw[Aa]at e
  have e:m.at_+1=a.length+1:=e;rw[Bv (by lia),show m.at_-a.length=0 by lia]at F
  exact(Ap F).symm
theorem Ok.send(h:Ok c m)(J:m.at_<c.keys.cps.toList.length):Ok c (send c m):=by
 unfold Mc.send;split
 .rename_i G;have W:m.heat=[]:=D9.mp G;refine⟨h.cf,h.ln,h.lm,(λx I=>by cases I),h.im,h.bm,J,λ_=>rfl,?_,?_,h.tl,λ_=>h.cf.cast1⟩
  .have F:=h.sz;unfold KW at F⊢;rw[W]at F
   have e:([]:List CU).length=0:=rfl;show(m.lanes.map List.length).sum+0+m.line.length+m.bar.length<=2000+(m.at_+1)
   lia
  .have h1:=h.tx;rw[Ar G]at h1
   show m.texts.length+(if m.line.isEmpty=true then 0 else 1)<=m.at_+1;split<;>lia
 .exact h
theorem Ok.take(h:Ok c m)(I:EV c m=some k)(G:k≠47)(Y:∀x,p=some x->LQ c x)(W:KW m+1<=2000+(m.at_+1)):Ok c (take m p):=by
 have J:=Qp I;refine⟨h.cf,h.ln,h.lm,?_,h.hm,h.bm,J,?_,?_,?_,h.tl,h.tg⟩
 .intro x F;rcases Az.mp F with F|F
  .exact h.im x F
  .exact Y x (Aj.mp F).symm
 .intro e;exact absurd (ix h.cf I e) G
 .unfold KW at W⊢;show(m.lanes.map List.length).sum+(m.line++[p]).length+m.heat.length+m.bar.length<=2000+(m.at_+1)
  rw[Aa];show(m.lanes.map List.length).sum+(m.line.length+1)+m.heat.length+m.bar.length<=2000+(m.at_+1)
  lia
 .have:=h.tx;show m.texts.length+(if m.heat.isEmpty=true then 0 else 1)<=m.at_+1
  lia
theorem Ok.pick(h:Ok c m)(Y:EV c m=some k)(G:k≠47):Ok c (pick m j):=by
 unfold Mc.pick;split
 .rename_i x r I;have h1:=SG m.lanes j _ r I;have Z:(x::r).length=r.length+1:=rfl;have hb:Ok c { m with lanes:=m.lanes.set j r }:=by
   refine⟨h.cf,by show(m.lanes.set j r).length=_;rw[Em];exact h.ln,?_,h.im,h.hm,h.bm,h.le,h.en,?_,h.tx,h.tl,h.tg⟩
   .intro l F y W;rcases Ht F with F|F
    .exact h.lm l F y W
    .rw[F]at W
     exact h.lm _ (Ag I) y (Ac _ W)
   .have J:=h.sz;unfold KW at J⊢;show((m.lanes.set j r).map List.length).sum+m.line.length+m.heat.length+m.bar.length<=2000+m.at_
    lia
  refine hb.take Y G (λy e=>?_) ?_
  .cases e;exact h.lm _ (Ag I) x Ab
  .have J:=h.sz;unfold KW at J⊢;show((m.lanes.set j r).map List.length).sum+m.line.length+m.heat.length+m.bar.length+1<=2000+(m.at_+1)
   lia
 .exact h
theorem Ok.strike(h:Ok c m):Ok c (strike c m):=by
 unfold Mc.strike;split
 .exact h
 .rename_i k G;split
  .exact h.send (Qp G)
  .rename_i F;split
   .exact h.take G F (λx e=>by cases e) (by have:=h.sz;lia)
   .split
    .exact⟨h.cf,h.ln,h.lm,h.im,h.hm,h.bm,h.le,h.en,h.sz,h.tx,h.tl,h.tg⟩
    .split
     .exact h.pick G F
     .exact h
theorem Ok.tick(h:Ok c m):Ok c (tick c m):=by
 have g:=h.fall.cool.strike;exact⟨g.cf,g.ln,g.lm,g.im,g.hm,g.bm,g.le,g.en,g.sz,g.tx,g.tl,g.tg⟩
def wt(c:Cf)(k:Nat):Nat:=if k=47 then 1+c.cast.toNat else if k=32 then 1 else 2
def left(c:Cf)(m:Ms):Nat:=((c.keys.cps.toList.drop m.at_).map (wt c)).sum
def CO(c:Cf)(m:Ms):Nat:=left c m+(AZ m.line).length+(AZ m.heat).length+(if m.heat.isEmpty=true then 0 else m.togo.toNat)+m.bar.length
theorem iy(h:EV c m=some k):left c m=wt c k+((c.keys.cps.toList.drop (m.at_+1)).map (wt c)).sum:=by
 unfold left;have F:=Qp h;rw[Fj F];have e:c.keys.cps.toList[m.at_]=k:=by
  unfold EV at h;rw[A7 F]at h
  exact Ap h
 rw[e];rfl
theorem iz(h:Ok c m):CO c (fall c m)+(if m.bar.isEmpty=true then 0 else 1)=CO c m:=by
 unfold Mc.fall;cases hb:m.bar with
 | nil=>rfl
 | cons x r =>
   obtain⟨_,_,_,_,k,F,_⟩:=h.bm x (by rw[hb];exact Ab);show CO c (match Mt.IE (c.rs.map λr=>r.t) x.2 with
    | some k=>{ m with bar:=r,lanes:=IZ m.lanes k x }
    | none=>m)+1=CO c m
   rw[F];unfold CO;rw[hb];show left c m+(AZ m.line).length+(AZ m.heat).length+(if m.heat.isEmpty=true then 0 else m.togo.toNat)+r.length+1=left c m+(AZ m.line).length+(AZ m.heat).length+(if m.heat.isEmpty=true then 0 else m.togo.toNat)+(r.length+1)
   lia
theorem iA(h:Ok c m):CO c (cool m)+(if m.heat.isEmpty=true then 0 else 1)=CO c m:=by
 unfold Mc.cool;split
 .rfl
 .rename_i F;have G:m.heat≠[]:=λz=>F (by rw[z];rfl)
  have ht:=h.tg G;split
  .unfold CO;rw[Aq F];show left c m+(AZ m.line).length+0+0+(m.bar++AZ m.heat).length+1=left c m+(AZ m.line).length+(AZ m.heat).length+m.togo.toNat+m.bar.length;rw[Aa]
   lia
  .unfold CO;have J:(if m.heat.isEmpty=true then 0 else m.togo.toNat)=m.togo.toNat:=Aq F;have I:(if m.heat.isEmpty=true then 0 else(m.togo-1).toNat)=(m.togo-1).toNat:=Aq F;show left c m+(AZ m.line).length+(AZ m.heat).length+(if m.heat.isEmpty=true then 0 else(m.togo-1).toNat)+m.bar.length+1=left c m+(AZ m.line).length+(AZ m.heat).length+(if m.heat.isEmpty=true then 0 else m.togo.toNat)+m.bar.length;rw[J,I]
   lia
theorem Wk(h:Ok c m)(Z:EV c m=some k)(G:k≠47)(W:k≠32)(F:HN c m=false):∃j,Cs.CK c.rs (sg k)=some j/\∃x r,m.lanes[j]?=some (x::r):=by
 have hm:k∈c.keys.cps.toList:=Ag Z;rcases h.cf.known k hm with z|z|⟨z,_,_⟩
 .exact absurd z G
 .exact absurd z W
 obtain⟨j,I⟩:=Cv.mp z;refine⟨j,I,?_⟩;have J:j<m.lanes.length:=by rw[h.ln];exact Cs.OO I
 have Y:m.lanes[j]?=some m.lanes[j]:=A7 J;unfold HN FD at F;rw[Z]at F
 have F:(match Cs.CK c.rs (sg k)with|some k=>N9 m.lanes k|none=>false)=false:=F;rw[I]at F
 have F:N9 m.lanes j=false:=F;unfold N9 at F;rw[Y]at F
 have F:(m.lanes[j]).isEmpty=false:=F;rw[Y];cases he:m.lanes[j]with
 | nil=>rw[he]at F;cases F
 | cons x r=>exact⟨x,r,rfl⟩
def Qq(c:Cf)(m:Ms):Bool:=match EV c m with
 | none=>false
 | some k=>if k=47 then m.heat.isEmpty else if k=32 then true else !HN c m
theorem Wl(l:List CU)(p:CU):(AZ (l++[p])).length=(AZ l).length+(match p with|none=>0|some _=>1):=by
 unfold AZ;rw[E3,Aa];cases p<;>rfl
theorem iB(h:Ok c m):CO c (strike c m)+(if Qq c m=true then 1 else 0)<=CO c m:=by
 unfold Mc.strike Qq;cases J:EV c m with
 | none=>exact Af _
 | some k =>
   have I:=iy J;have hc:=h.cf.cast1;show CO c (if k=47 then Mc.send c m else if k=32 then Mc.take m none else if HN c m=true then { m with waits:=m.waits+1 }else match Cs.CK c.rs (sg k)with
    | some j=>Mc.pick m j
    | none=>m)+(if (if k=47 then m.heat.isEmpty else if k=32 then true else !HN c m)=true then 1 else 0)<=CO c m
   by_cases F:k=47
   .rw[Ar F,Ar F];unfold Mc.send;cases W:m.heat.isEmpty with
    | false=>exact Af _
    | true =>
      have hn:m.heat=[]:=D9.mp W;rw[Ar rfl,Ar rfl];have e:wt c k=1+c.cast.toNat:=by unfold wt;rw[Ar F]
      have e3:(if m.line.isEmpty=true then 0 else c.cast.toNat)<=c.cast.toNat:=by split<;>lia
      have Z:CO c m=wt c k+((c.keys.cps.toList.drop (m.at_+1)).map (wt c)).sum+(AZ m.line).length+0+0+m.bar.length:=by
       unfold CO;rw[I,Ar W,hn];rfl
      rw[Z];show((c.keys.cps.toList.drop (m.at_+1)).map (wt c)).sum+0+(AZ m.line).length+(if m.line.isEmpty=true then 0 else c.cast.toNat)+m.bar.length+1<=_
      lia
   .rw[Aq F,Aq F];by_cases G:k=32
    .rw[Ar G,Ar G,Ar rfl];unfold CO;rw[I];have e:wt c k=1:=by unfold wt;rw[Aq F,Ar G]
     have Y:(AZ (m.line++[none])).length=(AZ m.line).length+0:=Wl m.line none;show((c.keys.cps.toList.drop (m.at_+1)).map (wt c)).sum+(AZ (m.line++[none])).length+(AZ m.heat).length+(if m.heat.isEmpty=true then 0 else m.togo.toNat)+m.bar.length+1<=_
     lia
    .rw[Aq G,Aq G];have e:wt c k=2:=by unfold wt;rw[Aq F,Aq G]
     cases hla:HN c m with
     | true=>exact Af _
     | false =>
       rw[Aq (by decide),Ar (by decide)];obtain⟨j,hj,x,r,hx⟩:=Wk h J F G hla;rw[hj];show CO c (Mc.pick m j)+1<=_;have ep:Mc.pick m j=Mc.take { m with lanes:=m.lanes.set j r } (some x):=by unfold Mc.pick;rw[hx]
       rw[ep];unfold CO;rw[I];have Y:(AZ (m.line++[some x])).length=(AZ m.line).length+1:=Wl m.line (some x);show((c.keys.cps.toList.drop (m.at_+1)).map (wt c)).sum+(AZ (m.line++[some x])).length+(AZ m.heat).length+(if m.heat.isEmpty=true then 0 else m.togo.toNat)+m.bar.length+1<=_
       lia
theorem iC(c:Cf)(m:Ms):(Mc.fall c m).at_=m.at_/\(Mc.fall c m).line=m.line/\(Mc.fall c m).heat=m.heat/\(Mc.fall c m).togo=m.togo/\(Mc.fall c m).texts=m.texts/\(Mc.fall c m).done=m.done/\(Mc.fall c m).waits=m.waits:=by
 unfold Mc.fall;split
 .exact⟨rfl,rfl,rfl,rfl,rfl,rfl,rfl⟩
 .split<;>exact⟨rfl,rfl,rfl,rfl,rfl,rfl,rfl⟩
theorem iD(m:Ms):(Mc.cool m).at_=m.at_/\(Mc.cool m).line=m.line/\(Mc.cool m).lanes=m.lanes/\(Mc.cool m).done=m.done/\(Mc.cool m).waits=m.waits:=by
 unfold Mc.cool;split
 .exact⟨rfl,rfl,rfl,rfl,rfl⟩
 .split<;>exact⟨rfl,rfl,rfl,rfl,rfl⟩
theorem P7(h:Ok c m)(F:GY c m=false):CO c (tick c m)<CO c m:=by
 have h1:=iz h;have h2:=iA h.fall;have J:=iB h.fall.cool;have Y:CO c (tick c m)=CO c (Mc.strike c (Mc.cool (Mc.fall c m))):=rfl;rw[Y];obtain⟨f1,f2,f3,f4,f5,f6,f7⟩:=iC c m;obtain⟨c1,c2,c3,c4,c5⟩:=iD (Mc.fall c m);by_cases hb:m.bar.isEmpty=true
 .by_cases G:m.heat.isEmpty=true
  .have W:Mc.fall c m=m:=by
    unfold Mc.fall;rw[D9.mp hb]
   have ec:Mc.cool m=m:=by
    unfold Mc.cool;rw[Ar G]
   rw[W,ec]at J⊢
   have ht:Qq c m=true:=by
    unfold GY Na LP at F;rw[hb,G,Ih,Ih,Ih,Ih,Js]at F
    unfold Qq;cases I:EV c m with
    | none =>
      have Z:m.at_=c.keys.cps.toList.length:=by
       have h1:=h.le;have h2:=Hu.mp I
       lia
      rw[I,h.en Z]at F
      exact absurd F.1 (by decide)
    | some k =>
      show(if k=47 then m.heat.isEmpty else if k=32 then true else !HN c m)=true;rw[G,F.2];split
      .rfl
      .split<;>rfl
   rw[Ar ht]at J
   lia
  .rw[f3,Aq G]at h2
   lia
 .rw[Aq hb]at h1
  lia
def GJ(c:Cf):Nat->Ms->Ms
 | 0,m=>m
 | n+1,m=>if GY c m=true then m else GJ c n (tick c m)
def fin(c:Cf)(m:Ms):Ms:=GJ c (CO c m) m
theorem Nc(h:GY c m=true):∀n,GJ c n m=m
 | 0=>rfl
 | n+1=>by
   show(if GY c m=true then m else GJ c n (tick c m))=m;rw[Ar h]
theorem P8(h:GY c m=false)(n:Nat):GJ c (n+1) m=GJ c n (tick c m):=by
 show(if GY c m=true then m else GJ c n (tick c m))=_;rw[h];rfl
theorem SI(O:Ok c m)(h:CO c m=0):GY c m=true:=by
 cases e:GY c m with
 | true=>rfl
 | false =>
   have:=P7 O e
   lia
theorem Wm:∀(n k:Nat) {m:Ms},Ok c m->CO c m<=n->CO c m<=k->GJ c n m=GJ c k m
 | 0,k,m,O,h,_=>by rw[Nc (SI O (by lia)),Nc (SI O (by lia))]
 | n+1,k,m,O,h1,h2=>by
   cases F:GY c m with
   | true=>rw[Nc F,Nc F]
   | false =>
     have hw:=P7 O F;obtain⟨j,rfl⟩:∃j,k=j+1:=⟨k-1,by lia⟩
     rw[P8 F,P8 F];exact Wm n j O.tick (by lia) (by lia)
theorem Wn:∀(n:Nat) {m:Ms},Ok c m->CO c m<=n->GY c (GJ c n m)=true/\Ok c (GJ c n m)
 | 0,m,O,h=>show GY c m=true/\Ok c m from⟨SI O (by lia),O⟩
 | n+1,m,O,h=>by
   cases F:GY c m with
   | true =>
     rw[Nc F];exact⟨F,O⟩
   | false =>
     have hw:=P7 O F;rw[P8 F];exact Wn n O.tick (by lia)
theorem iE(h:GY c m=true):fin c m=m:=Nc h _
theorem iF(O:Ok c m)(h:GY c m=false):fin c (tick c m)=fin c m:=by
 have hw:=P7 O h;unfold fin;obtain⟨j,F⟩:∃j,CO c m=j+1:=⟨CO c m-1,by lia⟩
 rw[F,P8 h];exact Wm _ _ O.tick (Af _) (by lia)
theorem iG(O:Ok c m):GY c (fin c m)=true/\Ok c (fin c m):=Wn _ O (Af _)
def Kk(H:Hp)(v:V):CU->Prop
 | none=>v=.str " "
 | some x=>Lan.GX H v x
def DZ(H:Hp)(a:Addr)(ms:List Mx):Prop:=∃xs,H a=some (.lst xs)/\Paired (Lan.GX H) xs ms
def Nd(H:Hp)(a:Addr)(ps:List CU):Prop:=∃xs,H a=some (.lst xs)/\Paired (Kk H) xs ps
structure DU where
 L:Addr
 c:Addr
 l:Addr
 h:Addr
 b:Addr
 t:Addr
 ls:List Addr
def DU.all(A:DU):List Addr:=A.L::A.c::A.l::A.h::A.b::A.t::A.ls
def BW(S:Addr->Prop)(H H':Hp):Prop:=∀b o,H b=some o->(S b\/∃xs,o=.tup xs)->H' b=some o
theorem BW.of_same(s:AF H H'):BW S H H':=λb o h _=>s b o h
theorem BW.lst(h:H a=some (.lst ys)):BW (λb=>b≠a) H (upd H a o):=λb u hb F=>by
 rcases F with F|⟨xs,e⟩
 .rw[BV F];exact hb
 .subst e;rw[BV (HI hb h λz=>by cases z)];exact hb
theorem BW.fld(h:H p=some (.ins C dx fs))(k:∀b,b≠p->H' b=H b):BW (λb=>b≠p) H H':=λb u hb F=>by
 rcases F with F|⟨xs,e⟩
 .rw[k b F];exact hb
 .subst e;rw[k b (HI hb h λz=>by cases z)];exact hb
theorem P9(k:BW S H H')(h:Lan.GX H v x):Lan.GX H' v x:=let ⟨a,e,z⟩:=h;⟨a,e,k _ _ z (.inr ⟨_,rfl⟩)⟩
theorem SJ(k:BW S H H')(h:Kk H v x):Kk H' v x:=by
 cases x with
 | none=>exact h
 | some x=>exact P9 k h
theorem SK(k:BW S H H')(h:Paired (Lan.GX H) xs ms):Paired (Lan.GX H') xs ms:=Paired.mapP h λ_ _ z=>P9 k z
theorem Wo(k:BW S H H')(h:Paired (Kk H) xs ms):Paired (Kk H') xs ms:=Paired.mapP h λ_ _ z=>SJ k z
theorem NX(k:BW S H H')(h:Paired (Cs.HL H) xs rs):Paired (Cs.HL H') xs rs:=Paired.mapP h λ_ _ ⟨a,e,z⟩=>⟨a,e,k _ _ z (.inr ⟨_,rfl⟩)⟩
theorem DZ.keep(k:BW S H H')(F:S a)(h:DZ H a ms):DZ H' a ms:=let ⟨xs,e,z⟩:=h;⟨xs,k _ _ e (.inl F),SK k z⟩
theorem Nd.keep(k:BW S H H')(F:S a)(h:Nd H a ms):Nd H' a ms:=let ⟨xs,e,z⟩:=h;⟨xs,k _ _ e (.inl F),Wo k z⟩
theorem Mp(k:BW S H H'):∀{ls:List Addr}{ms:List (List Mx)},(∀a∈ls,S a)->Paired (DZ H) ls ms->Paired (DZ H') ls ms
 | _,_,_,.nil=>.nil
 | _,_,F,.cons r t=>.cons (r.keep k (F _ Ab)) (Mp k (λa G=>F a (Ac _ G)) t)
theorem Wp(k:BW (λb=>b≠p) H H')(J:DZ H' p ms'):∀{ls:List Addr}{ms:List (List Mx)}(i:Nat),Paired (DZ H) ls ms->ls.Nodup->ls[i]?=some p->Paired (DZ H') ls (ms.set i ms')
 | _,_,_,.nil,_,h=>by simp at h
 | _,_,0,.cons r t,G,h=>by
   have h:_=p:=Ap h;subst h;obtain⟨F,_⟩:=By.mp G;exact .cons J (Mp k (λa W e=>F (e ▸ W)) t)
 | _,_,i+1,.cons r t,G,h=>by
   obtain⟨F,I⟩:=By.mp G;exact .cons (r.keep k λe=>F (e ▸ Ag h)) (Wp k J i t I h)
structure FE(c:Cf)(H:Hp)(A:DU)(m:Ms):Prop where
 rows:∃xs,H A.c=some (.lst xs)/\Paired (Cs.HL H) xs c.rs
 lan:H A.L=some (.lst (A.ls.map V.ref))
 lns:Paired (DZ H) A.ls m.lanes
 lin:Nd H A.l m.line
 het:Nd H A.h m.heat
 bar:DZ H A.b m.bar
 txt:H A.t=some (.lst (m.texts.map V.str))
theorem FE.keep(h:FE c H A m)(k:BW S H H')(F:∀a∈A.all,S a):FE c H' A m:=by
 unfold DU.all at F;obtain⟨xs,G,J⟩:=h.rows;exact⟨⟨xs,k _ _ G (.inl (F _ (by simp))),NX k J⟩,k _ _ h.lan (.inl (F _ (by simp))),Mp k (λa I=>F a (by simp[I])) h.lns,h.lin.keep k (F _ (by simp)),h.het.keep k (F _ (by simp)),h.bar.keep k (F _ (by simp)),k _ _ h.txt (.inl (F _ (by simp)))⟩
theorem FE.is(h:FE c H A m):∀a∈A.all,∃xs,H a=some (.lst xs):=by
 intro a F;obtain⟨xs,J,_⟩:=h.rows;obtain⟨Y,W,_⟩:=h.lin;obtain⟨Z,I,_⟩:=h.het;obtain⟨x4,G,_⟩:=h.bar;unfold DU.all at F;simp only[Am]at F;rcases F with rfl|rfl|rfl|rfl|rfl|rfl|F
 .exact⟨_,h.lan⟩
 .exact⟨_,J⟩
 .exact⟨_,W⟩
 .exact⟨_,I⟩
 .exact⟨_,G⟩
 .exact⟨_,h.txt⟩
 .obtain⟨i,hi,e⟩:=Bt F;obtain⟨_,_,xs,ex,_⟩:=Cs.FU h.lns (A7 hi);rw[e]at ex
  exact⟨xs,ex⟩
def vals(c:Cf)(A:DU)(m:Ms):List (Option V):=[some (.ref A.L),some (.ref A.c),some (.str c.keys),some (.int (m.at_:Int)),some (.int c.cast),some (.ref A.l),some (.ref A.h),some (.int m.togo),some (.ref A.b),some (.ref A.t),some (.int m.done),some (.int m.waits)]
structure EW(C:Addr)(ns:List Str)(c:Cf)(H:Hp)(p:Addr)(A:DU)(m:Ms):Prop where
 ins:HM C ns H p (vals c A m)
 nd:A.all.Nodup
 li:FE c H A m
structure BC(p:Addr)(A:DU)(H:Hp)(A':DU)(H':Hp):Prop where
 fr:∀b o,H b=some o->((b≠p/\b∉A.all)\/∃xs,o=.tup xs)->H' b=some o
 nw:∀b∈A'.all,b∈A.all\/H b=none
 al:∀b o,H b=some o->∃o',H' b=some o'
theorem BC.of_same(s:AF H H'):BC p A H A H':=⟨λb o h _=>s b o h,λb h=>.inl h,λb o h=>⟨o,s b o h⟩⟩
theorem BC.trans(a:BC p A H A1 H1)(b:BC p A1 H1 A2 H2):BC p A H A2 H2:=by
 refine⟨λx o h G=>?_,λx J=>?_,λx o h=>?_⟩
 .refine b.fr x o (a.fr x o h G) (G.imp (λ⟨h1,h2⟩=>⟨h1,λz=>?_⟩) id);rcases a.nw x z with z|z
  .exact h2 z
  .rw[h]at z
   cases z
 .rcases b.nw x J with z|z
  .exact a.nw x z
  .refine .inr ?_;cases e:H x with
   | none=>rfl
   | some o =>
     obtain⟨o',F⟩:=a.al x o e;rw[z]at F
     cases F
 .obtain⟨I,h1⟩:=a.al x o h;exact b.al x I h1
theorem EW.pne(h:EW C ns c H p A m):∀a∈A.all,a≠p:=λa F=>by
 obtain⟨xs,e⟩:=h.li.is a F;obtain⟨dx,fs,G,_⟩:=h.ins;exact HI e G λz=>by cases z
theorem EW.same(h:EW C ns c H p A m)(s:AF H H'):EW C ns c H' p A m:=⟨h.ins.same s,h.nd,h.li.keep (BW.of_same (S:=λ_=>True) s) λ_ _=>trivial⟩
theorem EW.fields(F:HM C ns H p vs)(h:HM C ns H' p (vals c A' m'))(k:∀b,b≠p->H' b=H b)(l:FE c H A' m')(n:A'.all.Nodup):EW C ns c H' p A' m':=by
 obtain⟨dx,fs,e,_⟩:=F;refine⟨h,n,l.keep (BW.fld e k) λa G=>?_⟩;obtain⟨xs,ex⟩:=l.is a G;exact HI ex e λz=>by cases z
theorem BC.lst(G:a∈A.all)(h:H a=some (.lst ys)):BC p A H A (upd H a o):=by
 refine⟨λb u hb F=>?_,λb hb=>.inl hb,λb u hb=>?_⟩
 .exact BW.lst h b u hb (F.imp (λz e=>z.2 (e ▸ G)) id)
 .by_cases e:b=a
  .rw[e];exact⟨_,AA⟩
  .exact⟨u,by rw[BV e];exact hb⟩
theorem Qr(h:HM C ns H p vs)(G:H a=some (.lst ys)):HM C ns (upd H a o) p vs:=by
 obtain⟨dx,fs,e,F⟩:=h;exact⟨dx,fs,by rw[BV (HI e G λz=>by cases z)];exact e,F⟩
structure iH(A:DU):Prop where
 Lc:A.L≠A.c
 Ll:A.L≠A.l
 Lh:A.L≠A.h
 Lb:A.L≠A.b
 Lt:A.L≠A.t
 cl:A.c≠A.l
 ch:A.c≠A.h
 cb:A.c≠A.b
 ct:A.c≠A.t
 lh:A.l≠A.h
 lb:A.l≠A.b
 lt:A.l≠A.t
 hb:A.h≠A.b
 ht:A.h≠A.t
 bt:A.b≠A.t
 ls:∀q∈A.ls,q≠A.L/\q≠A.c/\q≠A.l/\q≠A.h/\q≠A.b/\q≠A.t
 nd:A.ls.Nodup
theorem Qs(h:A.all.Nodup):iH A:=by
 unfold DU.all at h;simp only[By,Am,Kg]at h;obtain⟨⟨I,Y,G,a4,J,a6⟩,⟨b1,b2,Z,b4,b5⟩,⟨c1,c2,F,c4⟩,⟨d1,d2,d3⟩,⟨W,e2⟩,f1,n⟩:=h;refine⟨I,Y,G,a4,J,b1,b2,Z,b4,c1,c2,F,d1,d2,W,λq hq=>⟨?_,?_,?_,?_,?_,?_⟩,n⟩;all_goals
  intro e;rw[e]at hq
  contradiction
theorem EW.setLane(h:EW C ns c H p A m)(hq:A.ls[k]?=some q)(hy:H q=some (.lst ys))(hx:Paired (Lan.GX H) xs l) :
 EW C ns c (upd H q (.lst xs)) p A { m with lanes:=m.lanes.set k l }:=by
 have d:=Qs h.nd;have kp:BW (λb=>b≠q) H (upd H q (.lst xs)):=BW.lst hy;obtain⟨n1,n2,n3,n4,F,G⟩:=d.ls q (Ag hq);obtain⟨zs,J,I⟩:=h.li.rows;exact⟨Qr h.ins hy,h.nd,⟨⟨zs,kp _ _ J (.inl n2.symm),NX kp I⟩,kp _ _ h.li.lan (.inl n1.symm),Wp kp ⟨xs,AA,SK kp hx⟩ k h.li.lns d.nd hq,h.li.lin.keep kp n3.symm,h.li.het.keep kp n4.symm,h.li.bar.keep kp F.symm,kp _ _ h.li.txt (.inl G.symm)⟩⟩
theorem EW.setBar(h:EW C ns c H p A m)(F:H A.b=some (.lst ys))(G:Paired (Lan.GX H) xs l) :
 EW C ns c (upd H A.b (.lst xs)) p A { m with bar:=l }:=by
 have d:=Qs h.nd;have kp:BW (λb=>b≠A.b) H (upd H A.b (.lst xs)):=BW.lst F;obtain⟨zs,W,I⟩:=h.li.rows;exact⟨Qr h.ins F,h.nd,⟨⟨zs,kp _ _ W (.inl d.cb),NX kp I⟩,kp _ _ h.li.lan (.inl d.Lb),Mp kp (λa J=>(d.ls a J).2.2.2.2.1) h.li.lns,h.li.lin.keep kp d.lb,h.li.het.keep kp d.hb,⟨xs,AA,SK kp G⟩,kp _ _ h.li.txt (.inl d.bt.symm)⟩⟩
theorem EW.setTxt(h:EW C ns c H p A m)(F:H A.t=some (.lst ys)) :
 EW C ns c (upd H A.t (.lst (l.map V.str))) p A { m with texts:=l }:=by
 have d:=Qs h.nd;have kp:BW (λb=>b≠A.t) H (upd H A.t (.lst (l.map V.str))):=BW.lst F;obtain⟨zs,J,G⟩:=h.li.rows;exact⟨Qr h.ins F,h.nd,⟨⟨zs,kp _ _ J (.inl d.ct),NX kp G⟩,kp _ _ h.li.lan (.inl d.Lt),Mp kp (λa I=>(d.ls a I).2.2.2.2.2) h.li.lns,h.li.lin.keep kp d.lt,h.li.het.keep kp d.ht,h.li.bar.keep kp d.bt,AA⟩⟩
theorem EW.setLine(h:EW C ns c H p A m)(F:H A.l=some (.lst ys))(G:Paired (Kk H) xs l) :
 EW C ns c (upd H A.l (.lst xs)) p A { m with line:=l }:=by
 have d:=Qs h.nd;have kp:BW (λb=>b≠A.l) H (upd H A.l (.lst xs)):=BW.lst F;obtain⟨zs,W,I⟩:=h.li.rows;exact⟨Qr h.ins F,h.nd,⟨⟨zs,kp _ _ W (.inl d.cl),NX kp I⟩,kp _ _ h.li.lan (.inl d.Ll),Mp kp (λa J=>(d.ls a J).2.2.1) h.li.lns,⟨xs,AA,Wo kp G⟩,h.li.het.keep kp d.lh.symm,h.li.bar.keep kp d.lb.symm,kp _ _ h.li.txt (.inl d.lt.symm)⟩⟩
def Mq(m:Mx):PyData:=.tuple [.str m.1,.int m.2]
def KD:CU->PyData
 | none=>.str " "
 | some x=>Mq x
theorem Wq(h:Lan.GX H v x)(F:PyData.canLay0 (.str x.1)=true):GD K H v (Mq x):=by
 obtain⟨t,rfl,e⟩:=h;exact .tup (BP.of e) (.cons (.str _ F) (.cons (.int _) .nil))
theorem Wr(h:Kk H v p)(F:∀x,p=some x->PyData.canLay0 (.str x.1)=true):GD K H v (KD p):=by
 cases p with
 | none =>
   have h:v=.str " ":=h;rw[h];exact .str _ (by decide +kernel)
 | some x=>exact Wq h (F x rfl)
theorem Ws:∀{xs:List V}{ms:List Mx},Paired (Lan.GX H) xs ms->(∀m∈ms,PyData.canLay0 (.str m.1)=true)->EF K H xs (ms.map Mq)
 | _,_,.nil,_=>.nil
 | _,_,.cons h r,c=>.cons (Wq h (c _ Ab)) (Ws r λx F=>c x (Ac _ F))
theorem Wt:∀{xs:List V}{ms:List CU},Paired (Kk H) xs ms->(∀x,some x∈ms->PyData.canLay0 (.str x.1)=true)->EF K H xs (ms.map KD)
 | _,_,.nil,_=>.nil
 | _,_,.cons h r,c=>.cons (Wr h λx e=>c x (by rw[e];exact Ab)) (Wt r λx F=>c x (Ac _ F))
theorem DZ.den(h:DZ H a ms)(F:∀m∈ms,PyData.canLay0 (.str m.1)=true):GD K H (.ref a) (.list (ms.map Mq)):=let ⟨_,e,z⟩:=h;.lst (AH.of e) (Ws z F)
theorem Nd.den(h:Nd H a ms)(F:∀x,some x∈ms->PyData.canLay0 (.str x.1)=true):GD K H (.ref a) (.list (ms.map KD)):=let ⟨_,e,z⟩:=h;.lst (AH.of e) (Wt z F)
theorem LR(h:H a=some (.lst [])):GD K H (.ref a) (.list []):=.lst (AH.of h) .nil
theorem LS{F:Type}(f:F->PyData)(l:List F):PyData.eqv (.list (l.map f)) (.list [])=l.isEmpty:=by
 cases l with
 | nil=>rfl
 | cons a r=>rfl
theorem LU(d:PyData):min d.depth (PyData.list []).depth<=64:=by
 have:(PyData.list []).depth=1:=rfl
 lia
theorem Qt(h:Cs.CK c.rs (FD c m)=none):HN c m=false:=by
 unfold HN;rw[h]
theorem Wu(h:Cs.CK c.rs (FD c m)=some k):HN c m=N9 m.lanes k:=by
 unfold HN;rw[h]
theorem Wv(h:ls[k]?=some l):N9 ls k=l.isEmpty:=by
 unfold N9;rw[h]
theorem EW.lane(h:EW C ns c H p A m)(O:Ok c m)(J:k<c.rs.length):∃q l,A.ls[k]?=some q/\m.lanes[k]?=some l/\DZ H q l/\DJ (A.ls.map V.ref) (k:Int)=some (.ref q):=by
 have G:k<m.lanes.length:=by rw[O.ln];exact J
 obtain⟨q,I,F⟩:=Cs.Ml h.li.lns (A7 G);exact⟨q,_,I,A7 G,F,EY (by rw[Ax,I];rfl)⟩
theorem Ok.llay{c:Cf}{m:Ms}{k:Nat}{l:List Mx}(O:Ok c m)(h:m.lanes[k]?=some l):∀x∈l,PyData.canLay0 (.str x.1)=true:=λx F=>(O.lm l (Ag h) x F).1
theorem Ok.hlay(O:Ok c m):∀x,some x∈m.heat->PyData.canLay0 (.str x.1)=true:=λx F=>(O.hm x F).1
theorem Ok.ilay(O:Ok c m):∀x,some x∈m.line->PyData.canLay0 (.str x.1)=true:=λx F=>(O.im x F).1
theorem Ok.blay(O:Ok c m):∀x∈m.bar,PyData.canLay0 (.str x.1)=true:=λx F=>(O.bm x F).1
theorem BC.flds(h:HM C ns H p vs)(h':HM C ns H' p vs')(k:∀b,b≠p->H' b=H b):BC p A H A H':=by
 obtain⟨dx,fs,e,_⟩:=h;obtain⟨I,fs',G,_⟩:=h';refine⟨λb o hb F=>?_,λb hb=>.inl hb,λb o hb=>?_⟩
 .rcases F with⟨F,_⟩|⟨xs,z⟩
  .rw[k b F];exact hb
  .subst z;rw[k b (HI hb e λz=>by cases z)];exact hb
 .by_cases z:b=p
  .rw[z];exact⟨_,G⟩
  .exact⟨o,by rw[k b z];exact hb⟩
theorem EW.setF(h:EW C ns c H p A m)(i:HM C ns H' p (vals c A m'))(k:∀b,b≠p->H' b=H b)(W:m'.lanes=m.lanes)(J:m'.line=m.line)(I:m'.heat=m.heat)(F:m'.bar=m.bar)(G:m'.texts=m.texts):EW C ns c H' p A m':=by
 refine EW.fields h.ins i k ⟨h.li.rows,h.li.lan,?_,?_,?_,?_,?_⟩ h.nd
 .rw[W];exact h.li.lns
 .rw[J];exact h.li.lin
 .rw[I];exact h.li.het
 .rw[F];exact h.li.bar
 .rw[G];exact h.li.txt
theorem Ww{H:Hp}{xs:List V}{ps:List CU}{i:Nat}{x:V}(h:Paired (Kk H) xs ps)(hx:xs[i]?=some x):∃p,ps[i]?=some p/\Kk H x p:=Cs.FU h hx
theorem Wx{ps:List CU}{i:Nat}{p:CU}(h:ps[i]?=some p):AZ (ps.take (i+1))=AZ (ps.take i)++p.toList:=by
 unfold AZ;rw[Ay,h,E3];cases p<;>rfl
theorem SL{A:DU}{e:Addr}(n:A.all.Nodup)(h:e∉A.all):({ A with h:=e }:DU).all.Nodup:=by
 unfold DU.all at n h⊢;simp only[By,Am,Kg]at n h⊢;obtain⟨⟨I,a2,a3,a4,W,a6⟩,⟨b1,b2,b3,b4,b5⟩,⟨c1,c2,F,c4⟩,⟨d1,d2,d3⟩,⟨Z,e2⟩,Y,n⟩:=n;obtain⟨h1,h2,h3,h4,G,h6,J⟩:=h;exact⟨⟨I,a2,Ne.symm h1,a4,W,a6⟩,⟨b1,Ne.symm h2,b3,b4,b5⟩,⟨Ne.symm h3,c2,F,c4⟩,⟨G,h6,J⟩,⟨Z,e2⟩,Y,n⟩
theorem SM{A:DU}{e:Addr}(n:A.all.Nodup)(h:e∉A.all):({ A with h:=A.l,l:=e }:DU).all.Nodup:=by
 unfold DU.all at n h⊢;simp only[By,Am,Kg]at n h⊢;obtain⟨⟨I,a2,a3,a4,W,a6⟩,⟨b1,b2,b3,b4,b5⟩,⟨c1,c2,F,c4⟩,⟨d1,d2,d3⟩,⟨Z,e2⟩,Y,n⟩:=n;obtain⟨h1,h2,h3,h4,G,h6,J⟩:=h;exact⟨⟨I,Ne.symm h1,a2,a4,W,a6⟩,⟨Ne.symm h2,b1,b3,b4,b5⟩,⟨h3,G,h6,J⟩,⟨c2,F,c4⟩,⟨Z,e2⟩,Y,n⟩
theorem EW.new(h:EW C ns c H p A m)(F:H e=none):e∉A.all:=λz=>by
 obtain⟨xs,ex⟩:=h.li.is e z;rw[F]at ex
 cases ex
theorem iI{c:Cf}{l:List CU}(h:∀x,some x∈l->LQ c x)(G:l.length<=100000):((l.map ER).map (·.length)).sum+(l.map ER).length*("":Str).length<=16777216:=by
 have h1:=Lns.KP (λx:Str=>x.length) 1 100000 (l.map ER) (λx F=>by
  obtain⟨p,I,rfl⟩:=Bw.mp F;cases p with
  | none=>exact Af 1
  | some x=>exact(h x I).2.1) (by rw[A6];exact G)
 have e:("":Str).length=0:=by decide
 rw[e,Nat.mul_zero];have h1:((l.map ER).map (·.length)).sum<=100000*1:=h1
 lia
theorem iJ:PyData.eqv (.str " ") (.str " ")=true:=by decide +kernel
theorem BC.free(s:BC p A H A' H')(h:H' b=none):H b=none:=by
 cases e:H b with
 | none=>rfl
 | some o =>
   obtain⟨o',F⟩:=s.al b o e;rw[h]at F
   cases F
theorem BC.to(s:BC p A H A1 H')(h:∀b∈A'.all,b∈A1.all\/H b=none):BC p A H A' H':=⟨s.fr,λb hb=>(h b hb).elim (s.nw b) .inr,s.al⟩
theorem iK{A:DU}{e:Addr}{H:Hp}(F:H e=none):∀b∈({ A with h:=e }:DU).all,b∈A.all\/H b=none:=by
 intro b hb;unfold DU.all at hb⊢;simp only[Am]at hb⊢;rcases hb with rfl|rfl|rfl|rfl|rfl|rfl|hb
 .exact .inl (.inl rfl)
 .exact .inl (.inr (.inl rfl))
 .exact .inl (.inr (.inr (.inl rfl)))
 .exact .inr F
 .exact .inl (.inr (.inr (.inr (.inr (.inl rfl)))))
 .exact .inl (.inr (.inr (.inr (.inr (.inr (.inl rfl))))))
 .exact .inl (.inr (.inr (.inr (.inr (.inr (.inr hb))))))
theorem iL{A:DU}{e:Addr}{H:Hp}(F:H e=none):∀b∈({ A with h:=A.l,l:=e }:DU).all,b∈A.all\/H b=none:=by
 intro b hb;unfold DU.all at hb⊢;simp only[Am]at hb⊢;rcases hb with rfl|rfl|rfl|rfl|rfl|rfl|hb
 .exact .inl (.inl rfl)
 .exact .inl (.inr (.inl rfl))
 .exact .inr F
 .exact .inl (.inr (.inr (.inl rfl)))
 .exact .inl (.inr (.inr (.inr (.inr (.inl rfl)))))
 .exact .inl (.inr (.inr (.inr (.inr (.inr (.inl rfl))))))
 .exact .inl (.inr (.inr (.inr (.inr (.inr (.inr hb))))))
theorem Wy:decide (V.str (sg c)=V.str (sg d))=decide (c=d):=by
 rw[Cs.FP,Ca];refine⟨λh=>?_,λh=>by rw[h]⟩;have h:(#[c]:Array Nat)=#[d]:=Bs Str.cps h;simpa using h
theorem Wz(h:EV c m=some k):FD c m=sg k:=by
 unfold FD;rw[h]
theorem WA(h:EV c m=none):FD c m="":=by
 unfold FD;rw[h]
def Kl(rs:List Cs.CC):List (List Mx):=rs.map λr=>List.replicate r.n.toNat (r.s,r.t)
def start(rs:List Cs.CC):Ms:=⟨Kl rs,[],[],0,[],[],0,0,0⟩
theorem iM(h:Paired (Lan.N6 H0 no H) zs ms)(hn:zs.Nodup):∃ls:List Addr,zs=ls.map V.ref/\Paired (DZ H) ls ms/\(no::ls).Nodup/\∀z∈ls,H0 z=none:=by
 induction h with
 | nil=>exact⟨[],rfl,.nil,by simp,λz F=>nomatch F⟩
 | cons x t ih =>
   obtain⟨p,xs,e,n,f,z,m⟩:=x;obtain⟨G,Y⟩:=By.mp hn;obtain⟨ls,Z,h2,h3,h4⟩:=ih Y;obtain⟨W,J⟩:=By.mp h3;refine⟨p::ls,by rw[e,Z];rfl,.cons ⟨xs,z,m⟩ h2,?_,λy I=>?_⟩
   .rw[By,By];refine⟨λF=>?_,λF=>?_,J⟩
    .rcases Am.mp F with F|F
     .exact n F.symm
     .exact W F
    .rw[e,Z]at G
     exact G (Dt F)
   .rcases Am.mp I with I|I
    .rw[I];exact f
    .exact h4 y I
def CV(p:Addr)(H H':Hp):Prop:=∀b o,b≠p->H b=some o->H' b=some o
theorem CV.of_same(s:AF H H'):CV p H H':=λb o _ h=>s b o h
theorem CV.of_fld(k:∀b,b≠p->H' b=H b):CV p H H':=λb o hb h=>(k b hb).trans h
theorem CV.trans(a:CV p H H1)(b:CV p H1 H2):CV p H H2:=λx o F h=>b x o F (a x o F h)
theorem CV.free(o:CV p H H')(i:HM C ns H' p vs)(h:H' b=none):H b=none:=by
 cases e:H b with
 | none=>rfl
 | some x =>
   have hb:b≠p:=λz=>by
    obtain⟨dx,fs,F,_⟩:=i;rw[z,F]at h
    cases h
   rw[o b x hb e]at h
   cases h
theorem CV.keep(i:HM C ns H p vs)(o:CV p H H'):BW (λb=>b≠p) H H':=λb u hb F=>by
 obtain⟨dx,fs,e,_⟩:=i;rcases F with F|⟨xs,z⟩
 .exact o b u F hb
 .subst z;exact o b _ (HI hb e λz=>by cases z) hb
theorem WB(i:HM C ns H p vs)(h:H q=some (.lst xs)):q≠p:=by
 obtain⟨dx,fs,e,_⟩:=i;exact HI h e λz=>by cases z
theorem NY(i:HM C ns H p vs)(h:H q=none):q≠p:=λe=>by
 obtain⟨dx,fs,F,_⟩:=i;rw[e,F]at h
 cases h
def Wd(rs:List Cs.CC)(m:Nat)(x:Str):Prop:=1<=x.length/\x.length<=m/\∀c∈x.cps.toList,c∈Cs.BR/\(Cs.CK rs (sg c)).isSome=true
theorem Mr:∀c∈Cs.BR,Lns.GO c=true/\c<0x110000/\c≠47/\c≠32:=by decide +kernel
theorem Wd.settable(h:Wd rs m x):Lns.KC rs x:=⟨h.1,λc F=>⟨(Mr c (h.2.2 c F).1).1,(h.2.2 c F).2⟩⟩
theorem Wd.lay(h:Wd rs m x):PyData.canLay0 (.str x)=true:=by
 show(x.cps.all λc=>decide (c<0x110000))=true;rw[<-Gi,C1];exact λc F=>Ae (Mr c (h.2.2 c F).1).2.1
theorem WC{F:Type}(f:F->PyData)(n:Nat)(h:∀a,(f a).depth<=n):∀l:List F,PyData.depthAll (l.map f)<=n
 | []=>B9 _
 | a::l=>Nat.max_le.mpr ⟨h a,WC f n h l⟩
theorem iN(h:GD K H v d):PyData.eqv d d=true:=PySem.SeqAt.eqv_refl d (MV d v h)
structure Rows(rs:List Cs.CC):Prop where
 few:rs.length<=30
 sg:∀r∈rs,∃c∈Cs.BR,r.s=L2.sg c
 th:∀r∈rs,0<=r.t/\r.t<128
 mn:∀r∈rs,0<=r.n/\r.n<=40
theorem Rows.none{rs:List Cs.CC}(R:Rows rs){x:Str}(h:∀c∈Cs.BR,L2.sg c≠x):Cs.CK rs x=Option.none:=Cs.UX λj r _ F=>by
 obtain⟨c,G,e⟩:=R.sg r (Ag F);rw[e];exact h c G
theorem Nf(h:L2.sg c=L2.sg d):c=d:=by
 have h:(#[c]:Array Nat)=#[d]:=Bs Str.cps h;simpa using h
theorem Rows.sign(R:Rows rs)(h:(Cs.CK rs (L2.sg k)).isSome=true):k∈Cs.BR:=by
 obtain⟨j,G⟩:=Cv.mp h;obtain⟨r,I,e⟩:=Cs.Q9 G;obtain⟨c,J,F⟩:=R.sg r (Ag I);rw[e]at F
 rw[Nf F];exact J
theorem Rows.okC(R:Rows rs)(F:(Lns.BG ls).length<=90000)(I:∀l∈ls,l≠[]/\∀x∈l,Lns.KC rs x)(hz:1<=z):NW ⟨rs,Lns.BG ls,z⟩:=by
 have ok:Lns.HE rs false (Lns.BG ls).cps.toList=true:=Lns.Qj I;have J:∀k∈(Lns.BG ls).cps.toList,k=47\/k=32\/((Cs.CK rs (L2.sg k)).isSome=true/\k≠47/\k≠32):=λk F=>by
  obtain⟨i,hi,e⟩:=Bt F;have h:=Lns.P0 ok i k (by rw[A7 hi,e]);by_cases h1:k=47
  .exact .inl h1
  by_cases h2:k=32
  .exact .inr (.inl h2)
  have I:Lns.GO k=true:=by
   unfold Lns.GO;rw[Ai h1,Ai h2];rfl
  rw[Ar I]at h
  exact .inr (.inr ⟨h,h1,h2⟩)
 refine⟨R.few,F,J,?_,⟨R.none λc G e=>?_,R.none λc G e=>?_,R.none λc G e=>?_⟩,hz,R.th,?_⟩
 .by_cases e:ls=[]
  .rw[e];exact .inl rfl
  .exact .inr (Lns.Sk ls e)
 .exact(Mr c G).2.2.1 (Nf e)
 .exact(Mr c G).2.2.2 (Nf e)
 .cases e
 .show((Lns.BG ls).cps.all λc=>decide (c<0x110000))=true;rw[<-Gi,C1];intro k F;refine Ae ?_;rcases J k F with h|h|⟨h,_,_⟩
  .lia
  .lia
  .exact(Mr k (R.sign h)).2.1
theorem iO(h:t∈cs):∃k,Mt.IE cs t=some k/\k<cs.length:=by
 cases e:Mt.IE cs t with
 | none =>
   unfold Mt.IE at e;rw[Fi]at e
   have:=e t h;rw[Mt.UP]at this
   cases this
 | some k =>
   refine⟨k,rfl,?_⟩;unfold Mt.IE at e;obtain⟨hi,_⟩:=C7.mp e;exact hi
theorem Rows.okM(R:Rows rs)(G:c.rs=rs)(h:r∈rs):LQ c (r.s,r.t):=by
 obtain⟨d,hd,e⟩:=R.sg r h;obtain⟨h1,h2⟩:=R.th r h;obtain⟨k,I,F⟩:=iO (cs:=c.rs.map λr=>r.t) (t:=r.t) (by rw[G];exact Dt h);refine⟨?_,?_,h1,h2,k,I,by rw[A6]at F;exact F⟩
 .show PyData.canLay0 (.str r.s)=true;rw[e];exact Cs.UY d hd
 .show r.s.length<=1;rw[e];exact Af _
theorem iP(h:∀r∈rs,0<=r.n/\r.n<=40):((Kl rs).map List.length).sum<=rs.length*40:=by
 unfold Kl;rw[Ff];refine Lns.Se (List.length∘λr:Cs.CC=>List.replicate r.n.toNat (r.s,r.t)) 40 rs λr F=>?_
 show(List.replicate r.n.toNat (r.s,r.t)).length<=40;rw[Ci];have:=h r F
 lia
theorem Rows.ok(R:Rows rs)(G:c.rs=rs)(O:NW c):Ok c (start rs):=by
 have W:=R.few;refine⟨O,?_,λl I x F=>?_,(λx F=>nomatch F),(λx F=>nomatch F),(λx F=>nomatch F),B9 _,λ_=>rfl,?_,Af _,(λx F=>nomatch F),λz=>absurd rfl z⟩
 .show(Kl rs).length=c.rs.length;unfold Kl;rw[A6,G]
 .obtain⟨r,J,rfl⟩:=Bw.mp I;rw[Ii F];exact R.okM G J
 .have h:=iP R.mn;show((Kl rs).map List.length).sum+0+0+0<=2000+0
  lia
theorem Pa(h1:l.length<=n)(h2:∀x∈l,Wd rs 5 x):(Lns.AD l).length<=n*6:=by
 have a:=Lns.KP (λx:Str=>x.length) 5 n l (λx F=>(h2 x F).2.1) h1;have a:(l.map (·.length)).sum<=n*5:=a;have b:=Cn " " l;have e:(" ":Str).length=1:=by decide
 unfold Lns.AD Txt.join;rw[Bp];have b:(Str.join " " l).length<=(l.map (·.length)).sum+l.length*(" ":Str).length:=b;rw[e]at b
 lia
theorem WD:∀{ls:List (List Str)},(∀l∈ls,l.length<=n/\∀x∈l,Wd rs 5 x)->(Lns.BG ls).length<=ls.length*(n*6+1)
 | [],_=>B3 (E7 (show("":Str).length=0 by decide)) (B9 _)
 | l::r,h=>by
   obtain⟨h1,h2⟩:=h l Ab;have a:=Pa h1 h2;have b:=WD λl F=>h l (Ac _ F)
   show(Lns.AD l++"/"++Lns.BG r).length<=_;rw[Bl,Bl,B8,G0];have e:("/":Str).length=1:=by decide
   lia
theorem iQ(F:H p=none)(hd:H dx=none)(o:CV p (upd (upd H dx (.own p)) p (.ins C dx [])) H'):AF H H':=λb u hb=>by
 have n1:=GU hb F;exact o b u n1 (by rw[BV n1,BV (GU hb hd)];exact hb)
theorem iR(F:H p=none)(hd:H dx=none)(h:upd (upd H dx (.own p)) p (.ins C dx []) b=none):H b=none:=by
 cases e:H b with
 | none=>rfl
 | some u =>
   rw[BV (GU e F),BV (GU e hd),e]at h
   cases h
theorem WE(v:V)(vs:List V):seqIndex? 0 (v::vs).length=some 0:=by
 have h:decide ((0:Int)<((v::vs).length:Int))=true:=Ae (by rw[B8];lia);show(if (decide ((0:Int)<=0)&&decide ((0:Int)<((v::vs).length:Int)))=true then some (Int.toNat 0)else none)=some 0;rw[h];rfl
structure Rt(c:Cf):Prop where
 fl:∀(j:Nat) r,c.rs[j]?=some r->Mt.IE (c.rs.map λr=>r.t) r.t=some j
 pl:∀(j:Nat) r,c.rs[j]?=some r->Cs.CK c.rs r.s=some j
 sg:∀r∈c.rs,∃k∈Cs.BR,r.s=L2.sg k
 gd:Lns.HE c.rs false c.keys.cps.toList=true
def Km(m:Ms)(x:Mx):Nat:=(AZ m.line).count x+(AZ m.heat).count x+m.bar.count x
def DW(ts:List (List Nat)):List Nat:=ts.flatMap λt=>t++[47]
def cps(t:Str):List Nat:=t.cps.toList
def hot(m:Ms):List Nat:=if m.heat.isEmpty=true then []else cps (CZ m.heat)++[47]
def Pb(c:Cf)(x:Mx):Prop:=∃(j:Nat) (r:Cs.CC),c.rs[j]?=some r/\x=(r.s,r.t)
structure Gd(c:Cf)(m:Ms):Prop where
 ow:∀(j:Nat) l,m.lanes[j]?=some l->∃r,c.rs[j]?=some r/\∀x∈l,x=(r.s,r.t)
 il:∀x∈AZ m.line,Pb c x
 ih:∀x∈AZ m.heat,Pb c x
 ib:∀x∈m.bar,Pb c x
 ct:∀(j:Nat) r l,c.rs[j]?=some r->m.lanes[j]?=some l->l.length+Km m (r.s,r.t)=r.n.toNat
 tx:DW (m.texts.map cps)++hot m++cps (CZ m.line)=c.keys.cps.toList.take m.at_
 lm:∀t∈m.texts,∀r∈c.rs,∀k,r.s=L2.sg k->(cps t).count k<=r.n.toNat
 pn:∀t∈m.texts,47∉cps t
theorem Qu(l:List CU):cps (CZ l)=l.flatMap λp=>cps (ER p):=by
 unfold CZ;induction l with
 | nil=>rfl
 | cons p r ih =>
   have e:Txt.join "" ((p::r).map ER)=ER p++Txt.join "" (r.map ER):=Nb _ _;rw[e];show(ER p++Txt.join "" (r.map ER)).cps.toList=_;have F:(ER p++Txt.join "" (r.map ER)).cps.toList=(ER p).cps.toList++(Txt.join "" (r.map ER)).cps.toList:=Cq;rw[F,Dp];show _++cps (Txt.join "" (r.map ER))=_;rw[ih];rfl
theorem WG(l:List CU)(p:CU):cps (CZ (l++[p]))=cps (CZ l)++cps (ER p):=by
 rw[Qu,Qu,Ef];simp
theorem WH(k:Nat):cps (L2.sg k)=[k]:=rfl
theorem iS{c:Cf}(R:Rt c){r F:Cs.CC}{j G:Nat}(h:c.rs[j]?=some r)(h':c.rs[G]?=some F)(e:F.s=r.s):F=r:=by
 have h1:=R.pl j r h;have h2:=R.pl G F h';rw[e,h1]at h2
 cases h2;rw[h]at h'
 exact(Ap h').symm
theorem SN(p:CU)(l:List CU):AZ (p::l)=p.toList++AZ l:=by
 unfold AZ;cases p<;>rfl
theorem SO{c:Cf}(R:Rt c){r:Cs.CC}{j k:Nat}(h:c.rs[j]?=some r)(hk:r.s=L2.sg k):∀{l:List CU},(∀x∈AZ l,Pb c x)->(cps (CZ l)).count k=(AZ l).count (r.s,r.t)
 | [],_=>rfl
 | p::l,hl=>by
   have ih:=SO R h hk (l:=l) λx hx=>hl x (by rw[SN];exact Bk _ hx)
   rw[Qu]at ih⊢
   rw[Dp,Cd,ih,SN,Cd];congr 1
   obtain⟨d,hd,ed⟩:=R.sg r (Ag h);have I:k=d:=Nf (hk.symm.trans ed);have W:=Mr d hd;cases p with
   | none =>
     show List.count k [32]=0;rw[Dc];intro z;rw[Aj]at z
     exact W.2.2.2 (I ▸ z)
   | some x =>
     obtain⟨j',F,h',e⟩:=hl x (by rw[SN];exact Cw _ (by simp));subst e;obtain⟨d',_,Y⟩:=R.sg F (Ag h');show List.count k (cps F.s)=List.count (r.s,r.t) [(F.s,F.t)];rw[Y,WH];by_cases G:k=d'
     .have es:F.s=r.s:=by rw[Y,hk,G]
      have er:=iS R h h' es;rw[<-Y,er,G];simp
     .have J:¬(L2.sg d',F.t)=(r.s,r.t):=λz=>by
       have Z:=Bs Prod.fst z;rw[hk]at Z
       exact G (Nf Z).symm
      rw[Dc.mpr (λz=>G (Aj.mp z)),Dc.mpr (λz=>J (Aj.mp z).symm)]
theorem WI(R:Rt c)(h:∀x∈AZ l,Pb c x):47∉cps (CZ l):=by
 rw[Qu];intro z;obtain⟨p,I,F⟩:=Iw.mp z;cases p with
 | none =>
   have F:47∈([32]:List Nat):=F;exact absurd F (by decide)
 | some x =>
   obtain⟨j,r,G,e⟩:=h x (D8.mpr ⟨some x,I,rfl⟩);subst e;obtain⟨d,hd,J⟩:=R.sg r (Ag G);have F:47∈cps r.s:=F;rw[J,WH,Aj]at F
   exact(Mr d hd).2.2.1 F.symm
theorem WJ{m:Ms}{x y:Mx}{r:List Mx}(h:m.bar=y::r):Km m x=Km { m with bar:=r } x+(if y=x then 1 else 0):=by
 unfold Km;rw[h,Jm];show _+(List.count x r+if (y==x)=true then 1 else 0)=(AZ m.line).count x+(AZ m.heat).count x+r.count x+_;by_cases e:y=x
 .rw[Ar e,Ar (by rw[e];exact Fc x)]
  lia
 .rw[Aq e,Aq (λz=>e (C2.mp z))]
  lia
theorem Qw{ls:List (List Mx)}{i j:Nat}{v l:List Mx}(h:(ls.set j v)[i]?=some l):(i=j/\l=v)\/(i≠j/\ls[i]?=some l):=by
 rw[Et]at h
 by_cases e:j=i
 .rw[Ar e]at h
  split at h
  .exact .inl ⟨e.symm,(Ap h).symm⟩
  .cases h
 .rw[Aq e]at h
  exact .inr ⟨λz=>e z.symm,h⟩
theorem Gd.fall{c:Cf}{m:Ms}(R:Rt c)(O:Ok c m)(g:Gd c m):Gd c (fall c m):=by
 unfold Mc.fall;cases hb:m.bar with
 | nil=>exact g
 | cons x r =>
   obtain⟨j,q,J,ex⟩:=g.ib x (by rw[hb];exact Ab);have Z:=R.fl j q J;have e2:x.2=q.t:=by rw[ex]
   show Gd c (match Mt.IE (c.rs.map λr=>r.t) x.2 with
    | some k=>{ m with bar:=r,lanes:=IZ m.lanes k x }
    | none=>m)
   rw[e2,Z];show Gd c { m with bar:=r,lanes:=IZ m.lanes j x };have aa:j<m.lanes.length:=by rw[O.ln];exact(B2.mp J).1
   have hg:m.lanes[j]?=some m.lanes[j]:=A7 aa;have ea:IZ m.lanes j x=m.lanes.set j (m.lanes[j]++[x]):=by unfold IZ;rw[hg]
   rw[ea];refine⟨?_,g.il,g.ih,λy G=>g.ib y (by rw[hb];exact Ac _ G),?_,g.tx,g.lm,g.pn⟩
   .intro i l I;rcases Qw I with⟨rfl,rfl⟩|⟨Y,I⟩
    .obtain⟨W,F,ho⟩:=g.ow i _ hg;rw[J]at F
     cases F;refine⟨q,J,λy G=>?_⟩;rcases Az.mp G with G|G
     .exact ho y G
     .rw[Aj.mp G];exact ex
    .exact g.ow i l I
   .intro i W l F I;rcases Qw I with⟨rfl,rfl⟩|⟨Y,I⟩
    .rw[J]at F
     cases F;have h1:=g.ct i q _ J hg;rw[WJ (x:=(q.s,q.t)) hb,Ar ex]at h1
     rw[Aa];show m.lanes[i].length+1+Km { m with bar:=r } (q.s,q.t)=_
     lia
    .have h1:=g.ct i W l F I;rw[WJ (x:=(W.s,W.t)) hb,Aq (λz=>?_)]at h1
     .exact h1
     .rw[ex]at z
      have z1:=Bs Prod.fst z;have h2:=R.pl j q J;rw[show q.s=W.s from z1,R.pl i W F]at h2
      exact Y (Ap h2)
theorem Gd.cool{c:Cf}{m:Ms}(R:Rt c)(O:Ok c m)(g:Gd c m):Gd c (cool m):=by
 unfold Mc.cool;split
 .exact g
 .rename_i Z;split
  .refine⟨g.ow,g.il,(λx F=>nomatch F),?_,?_,?_,?_,?_⟩
   .intro x F;rcases Az.mp F with F|F
    .exact g.ib x F
    .exact g.ih x F
   .intro j r l I hl;have h1:=g.ct j r l I hl;unfold Km at h1⊢;show l.length+((AZ m.line).count (r.s,r.t)+0+(m.bar++AZ m.heat).count (r.s,r.t))=_;rw[Cd]
    lia
   .have h1:=g.tx;unfold hot at h1⊢;rw[Aq Z]at h1
    rw[<-h1];show DW ((m.texts++[CZ m.heat]).map cps)++[]++cps (CZ m.line)=_;unfold DW;rw[Ah,Ef];simp
   .intro t ht r I k W;rcases Az.mp ht with ht|ht
    .exact g.lm t ht r I k W
    .rw[Aj.mp ht];obtain⟨j,Y,e⟩:=Bt I;have G:c.rs[j]?=some r:=by rw[A7 Y,e]
     rw[SO R G W g.ih];have J:j<m.lanes.length:=by rw[O.ln];exact Y
     have h1:=g.ct j r _ G (A7 J);unfold Km at h1
     lia
   .intro t ht;rcases Az.mp ht with ht|ht
    .exact g.pn t ht
    .rw[Aj.mp ht];exact WI R g.ih
  .refine⟨g.ow,g.il,g.ih,g.ib,g.ct,?_,g.lm,g.pn⟩;have h1:=g.tx;unfold hot at h1⊢;exact h1
theorem SQ{c:Cf}{m:Ms}{k:Nat}(h:EV c m=some k):c.keys.cps.toList.take (m.at_+1)=c.keys.cps.toList.take m.at_++[k]:=by
 rw[Ay,show c.keys.cps.toList[m.at_]?=some k from h];rfl
theorem Gd.line_ne(R:Rt c)(g:Gd c m)(h:EV c m=some 47):m.line≠[]:=by
 intro e;have G:=Lns.P0 R.gd m.at_ 47 h;rw[Aq (by decide)]at G
 rcases G with⟨_,z⟩|⟨i,d,hi,hd,Z⟩
 .cases z
 .have h1:=g.tx;rw[e,hi]at h1
  have aa:i<c.keys.cps.toList.length:=(B2.mp hd).1;rw[Ay,hd]at h1
  have h1:DW (m.texts.map cps)++hot m++[]=c.keys.cps.toList.take i++[d]:=h1;rw[Av]at h1
  have F:d≠47:=λz=>by rw[z]at Z;exact absurd Z (by decide)
  by_cases Y:m.heat.isEmpty=true
  .have J:hot m=[]:=by unfold hot;rw[Ar Y]
   rw[J,Av]at h1
   rcases List.eq_nil_or_concat m.texts with z|⟨a,t,z⟩
   .rw[z]at h1
    have h2:=Bs List.length h1;rw[Aa]at h2
    have h2:0=_+1:=h2
    lia
   .rw[z]at h1
    unfold DW at h1;rw[List.concat_eq_append,Ah,Ef]at h1
    have h1:(a.map cps).flatMap (λt=>t++[47])++(cps t++[47]++[])=c.keys.cps.toList.take i++[d]:=by simpa using h1
    rw[Av,<-Ao]at h1
    have W:=(List.append_inj' h1 rfl).2;cases W;exact F rfl
  .have I:hot m=cps (CZ m.heat)++[47]:=by unfold hot;rw[Aq Y]
   rw[I,<-Ao]at h1
   have W:=(List.append_inj' h1 rfl).2;cases W;exact F rfl
theorem Gd.send(R:Rt c)(g:Gd c m)(J:EV c m=some 47):Gd c (send c m):=by
 unfold Mc.send;split
 .rename_i I;have Y:m.heat=[]:=D9.mp I;refine⟨g.ow,(λx W=>nomatch W),g.il,g.ib,?_,?_,g.lm,g.pn⟩
  .intro j r l Z G;have h1:=g.ct j r l Z G;unfold Km at h1⊢;rw[Y]at h1
   have e:(AZ []).count (r.s,r.t)=0:=rfl;show l.length+(0+(AZ m.line).count (r.s,r.t)+m.bar.count (r.s,r.t))=_
   lia
  .have F:=g.line_ne R J;have G:m.line.isEmpty=false:=by
    cases e:m.line with
    | nil=>exact absurd e F
    | cons _ _=>rfl
   have h1:=g.tx;unfold hot at h1;rw[Ar I]at h1
   show DW (m.texts.map cps)++(if m.line.isEmpty=true then []else cps (CZ m.line)++[47])++[]=c.keys.cps.toList.take (m.at_+1);rw[G,Aq (by decide),SQ J,<-h1];simp
 .exact g
theorem Qx(l:List CU)(p:CU):AZ (l++[p])=AZ l++p.toList:=by
 unfold AZ;rw[E3];cases p<;>rfl
theorem Gd.gap(g:Gd c m)(J:EV c m=some 32):Gd c (take m none):=by
 refine⟨g.ow,?_,g.ih,g.ib,?_,?_,g.lm,g.pn⟩
 .intro x F;have F:x∈AZ (m.line++[none]):=F;rw[Qx]at F
  exact g.il x (by simpa using F)
 .intro j r l I G;have h1:=g.ct j r l I G;unfold Km at h1⊢;show l.length+((AZ (m.line++[none])).count (r.s,r.t)+_+_)=_;rw[Qx,K3,Av];exact h1
 .show DW (m.texts.map cps)++hot m++cps (CZ (m.line++[none]))=c.keys.cps.toList.take (m.at_+1);rw[WG,SQ J,<-g.tx,Ao];simp only[Ao];rfl
theorem Gd.pick{c:Cf}{m:Ms}{k j:Nat}(R:Rt c)(O:Ok c m)(g:Gd c m)(hk:EV c m=some k)(hj:Cs.CK c.rs (L2.sg k)=some j):Gd c (pick m j):=by
 unfold Mc.pick;split
 .rename_i x r Z;obtain⟨q,W,aa⟩:=Cs.Q9 hj;obtain⟨F,G,ho⟩:=g.ow j _ Z;rw[W]at G
  cases G;have ex:=ho x Ab;have ac:j<m.lanes.length:=(B2.mp Z).1;refine⟨?_,?_,g.ih,g.ib,?_,?_,g.lm,g.pn⟩
  .intro i l J;rcases Qw J with⟨rfl,rfl⟩|⟨Y,J⟩
   .exact⟨q,W,λy I=>ho y (Ac _ I)⟩
   .exact g.ow i l J
  .intro y I;have I:y∈AZ (m.line++[some x]):=I;rw[Qx]at I
   rcases Az.mp I with I|I
   .exact g.il y I
   .have:y=x:=by simpa using I
    rw[this];exact⟨j,q,W,ex⟩
  .intro i F l G J;have J:(m.lanes.set j r)[i]?=some l:=J;have eo:Km (take { m with lanes:=m.lanes.set j r } (some x)) (F.s,F.t)=Km m (F.s,F.t)+(if x=(F.s,F.t)then 1 else 0):=by
    unfold Km;show(AZ (m.line++[some x])).count (F.s,F.t)+(AZ m.heat).count (F.s,F.t)+m.bar.count (F.s,F.t)=_;rw[Qx,Cd];have e1:(some x:CU).toList.count (F.s,F.t)=if x=(F.s,F.t)then 1 else 0:=by
     show List.count (F.s,F.t) [x]=_;by_cases e:x=(F.s,F.t)
     .rw[Ar e,e];simp
     .rw[Aq e];exact Dc.mpr λz=>e (Aj.mp z).symm
    rw[e1]
    lia
   rw[eo];rcases Qw J with⟨rfl,rfl⟩|⟨Y,J⟩
   .rw[W]at G
    cases G;have h1:=g.ct i q _ W Z;have e3:(x::l).length=l.length+1:=rfl;rw[Ar ex]
    lia
   .have h1:=g.ct i F l G J;rw[Aq λz=>?_]
    .exact h1
    .rw[ex]at z
     have z1:=Bs Prod.fst z;have h2:=R.pl j q W;rw[show q.s=F.s from z1,R.pl i F G]at h2
     exact Y (Ap h2)
  .show DW (m.texts.map cps)++hot m++cps (CZ (m.line++[some x]))=c.keys.cps.toList.take (m.at_+1);rw[WG,SQ hk,<-g.tx];have e:cps (ER (some x))=[k]:=by
    show cps x.1=[k]
    rw[ex];show cps q.s=[k]
    rw[aa];rfl
   rw[e];simp only[Ao]
 .exact g
theorem Gd.strike(R:Rt c)(O:Ok c m)(g:Gd c m):Gd c (strike c m):=by
 unfold Mc.strike;split
 .exact g
 .rename_i k F;split
  .rename_i G;rw[G]at F
   exact g.send R F
  .split
   .rename_i I;rw[I]at F
    exact g.gap F
   .split
    .exact⟨g.ow,g.il,g.ih,g.ib,g.ct,g.tx,g.lm,g.pn⟩
    .split
     .rename_i j J;exact g.pick R O F J
     .exact g
theorem Gd.tick(R:Rt c)(O:Ok c m)(g:Gd c m):Gd c (tick c m):=by
 have h:=((g.fall R O).cool R O.fall).strike R O.fall.cool;exact⟨h.ow,h.il,h.ih,h.ib,h.ct,h.tx,h.lm,h.pn⟩
theorem Gd.run(R:Rt c):∀(n:Nat) {m:Ms},Ok c m->Gd c m->Gd c (GJ c n m)
 | 0,_,_,g=>g
 | n+1,m,O,g=>by
   cases F:GY c m with
   | true =>
     rw[Nc F];exact g
   | false =>
     rw[P8 F];exact Gd.run R n O.tick (g.tick R O)
theorem Gd.fin(R:Rt c)(O:Ok c m)(g:Gd c m):Gd c (fin c m):=Gd.run R _ O g
theorem Gd.start(h:∀r∈c.rs,0<=r.n):Gd c (start c.rs):=by
 have lane:∀(j:Nat) l,(Kl c.rs)[j]?=some l->∃r,c.rs[j]?=some r/\l=List.replicate r.n.toNat (r.s,r.t):=λj l G=>by
  unfold Kl at G;rw[Ax]at G
  obtain⟨r,J,rfl⟩:=B6.mp G;exact⟨r,J,rfl⟩
 refine⟨λj l G=>?_,(λx F=>nomatch F),(λx F=>nomatch F),(λx F=>nomatch F),λj r l J G=>?_,rfl,(λt ht=>nomatch ht),(λt ht=>nomatch ht)⟩
 .obtain⟨r,J,rfl⟩:=lane j l G;exact⟨r,J,λx F=>Ii F⟩
 .obtain⟨W,I,rfl⟩:=lane j l G;rw[J]at I
  cases I;rw[Ci];rfl
theorem iT(h:cps x=cps y):x=y:=by
 obtain⟨a⟩:=x;obtain⟨b⟩:=y;have h:a.toList=b.toList:=h;rw[Array.toList_inj.mp h]
theorem WK:∀{a b X Y:List Nat},47∉a->47∉b->a++47::X=b++47::Y->a=b/\X=Y
 | [],[],_,_,_,_,h=>⟨rfl,(C6 h).2⟩
 | [],y::b,_,_,_,hb,h=>absurd ((C6 h).1 ▸ Ab) hb
 | x::a,[],_,_,F,_,h=>absurd ((C6 h).1 ▸ Ab) F
 | x::a,y::b,X,Y,F,hb,h=>by
   obtain⟨h1,h2⟩:=C6 h;obtain⟨G,I⟩:=WK (λz=>F (Ac _ z)) (λz=>hb (Ac _ z)) h2;exact⟨by rw[h1,G],I⟩
theorem NZ(a:List Nat)(r:List (List Nat)):DW (a::r)=a++47::DW r:=by
 unfold DW;rw[Dp];simp
theorem SR:∀{as bs:List (List Nat)}{v:List Nat},(∀a∈as,47∉a)->(∀b∈bs,47∉b)->DW as++v=DW bs->as.length<=bs.length/\as=bs.take as.length/\v=DW (bs.drop as.length)
 | [],bs,v,_,_,h=>⟨B9 _,rfl,h⟩
 | a::as,[],v,_,_,h=>by
   rw[NZ]at h
   have:=Bs List.length h;rw[Aa,Aa]at this
   have:_+(_+1)+_=0:=this
   lia
 | a::as,b::bs,v,G,hb,h=>by
   rw[NZ,NZ,Ao]at h
   obtain⟨J,W⟩:=WK (G a Ab) (hb b Ab) h;obtain⟨h1,h2,I⟩:=SR (λx F=>G x (Ac _ F)) (λx F=>hb x (Ac _ F)) W;refine⟨Nat.succ_le_succ h1,?_,I⟩;show a::as=b::bs.take as.length;rw[J,<-h2]
theorem WL:∀{u b rest Y:List Nat}{k:Nat},47∉u->k≠47->u++k::rest=b++47::Y->∃w,b=u++k::w
 | [],[],_,_,k,_,G,h=>absurd (C6 h).1 G
 | [],y::b,_,_,k,_,_,h=>⟨b,by rw[(C6 h).1];rfl⟩
 | x::u,[],_,_,k,F,_,h=>absurd ((C6 h).1 ▸ Ab) F
 | x::u,y::b,rest,Y,k,F,G,h=>by
   obtain⟨h1,h2⟩:=C6 h;obtain⟨w,e⟩:=WL (λz=>F (Ac _ z)) G h2;exact⟨w,by rw[h1,e];rfl⟩
theorem SS:∀ls:List (List Str),cps (Lns.BG ls)=DW (ls.map λl=>cps (Lns.AD l))
 | []=>rfl
 | l::r=>by
   rw[Bq,NZ,<-SS r];have e:(Lns.AD l++"/"++Lns.BG r).cps.toList=(Lns.AD l).cps.toList++("/":Str).cps.toList++(Lns.BG r).cps.toList:=by
    show(Lns.AD l++"/"++Lns.BG r).cps.toList=_;rw[Jp,Cq,Jp,Cq]
   show(Lns.AD l++"/"++Lns.BG r).cps.toList=_;rw[e,Ao];rfl
theorem WM:∀{xs ys:List Str},xs.map cps=ys.map cps->xs=ys
 | [],[],_=>rfl
 | [],_::_,h=>nomatch h
 | _::_,[],h=>nomatch h
 | x::xs,y::ys,h=>by
   obtain⟨h1,h2⟩:=C6 h;rw[iT h1,WM h2]
theorem WN{m:Ms}{ls:List (List Str)}{n:Nat}(h:m.texts.map cps=(ls.map λl=>cps (Lns.AD l)).take n):m.texts=(ls.take n).map Lns.AD:=by
 rw[<-Fm]at h
 have h2:m.texts.map cps=((ls.take n).map Lns.AD).map cps:=by
  rw[h,Ff];rfl
 exact WM h2
theorem iU{c:Cf}{m:Ms}{ls:List (List Str)}(O:Ok c m)(g:Gd c m)(G:Na c m=true)(Z:c.keys=Lns.BG ls)(W:∀l∈ls,47∉cps (Lns.AD l)):m.texts=ls.map Lns.AD/\m.at_=c.keys.cps.toList.length:=by
 unfold Na at G;simp only[Aw]at G;obtain⟨⟨⟨h1,h2⟩,h3⟩,h4⟩:=G;have F:m.at_=c.keys.cps.toList.length:=by
  have a:=O.le;have b:=Hu.mp (Option.isNone_iff_eq_none.mp h1)
  lia
 refine⟨?_,F⟩;have t:=g.tx;rw[F,Ak (Af _),D9.mp h2]at t
 unfold hot at t;rw[Ar h3]at t
 have t:DW (m.texts.map cps)++[]++[]=c.keys.cps.toList:=t;rw[Z]at t
 have t:DW (m.texts.map cps)++[]++[]=cps (Lns.BG ls):=t;rw[SS,Av]at t
 obtain⟨e1,Y,I⟩:=SR (as:=m.texts.map cps) (λa ha=>by obtain⟨x,hx,rfl⟩:=Bw.mp ha;exact g.pn x hx) (λb hb=>by obtain⟨x,hx,rfl⟩:=Bw.mp hb;exact W x hx) t;have e4:(ls.map λl=>cps (Lns.AD l)).drop (m.texts.map cps).length=[]:=by
  cases e:(ls.map λl=>cps (Lns.AD l)).drop (m.texts.map cps).length with
  | nil=>rfl
  | cons x r =>
    rw[e,NZ]at I
    have:=Bs List.length I;rw[Aa]at this
    have:0=_+(_+1):=this
    lia
 have J:=Gp.mp e4;have e6:=WN (n:=(m.texts.map cps).length) Y;rw[e6,Ak (by rw[A6]at J;exact J)]
theorem iV{c:Cf}{m:Ms}{ls:List (List Str)}(R:Rt c)(O:Ok c m)(g:Gd c m)(hs:LP c m=true)(hk:c.keys=Lns.BG ls)(hp:∀l∈ls,47∉cps (Lns.AD l)) :
 m.heat=[]/\m.bar=[]/\∃(j k:Nat) (r:Cs.CC) (l:List Str) (w:List Nat),c.rs[j]?=some r/\r.s=L2.sg k/\m.lanes[j]?=some []/\(cps (CZ m.line)).count k=r.n.toNat/\ls[m.texts.length]?=some l/\m.texts=(ls.take m.texts.length).map Lns.AD/\cps (Lns.AD l)=cps (CZ m.line)++k::w/\EV c m=some k:=by
 unfold LP at hs;simp only[Aw]at hs;obtain⟨⟨h1,h2⟩,h3⟩:=hs;have hh:=D9.mp h2;have hb:=D9.mp h3;refine⟨hh,hb,?_⟩;cases F:EV c m with
 | none =>
   rw[Qt (by rw[WA F];exact O.cf.noWedge.2.2)]at h1
   cases h1
 | some k =>
   have es:=Wz F;cases G:Cs.CK c.rs (FD c m)with
   | none =>
     rw[Qt G]at h1
     cases h1
   | some j =>
     rw[Wu G]at h1
     rw[es]at G
     obtain⟨r,hr,aa⟩:=Cs.Q9 G;have ae:j<m.lanes.length:=by rw[O.ln];exact Cs.OO G
     have hg:m.lanes[j]?=some m.lanes[j]:=A7 ae;rw[Wv hg]at h1
     have ad:=D9.mp h1;rw[ad]at hg
     have hc:=g.ct j r [] hr hg;unfold Km at hc;rw[hh,hb]at hc
     have hc:0+((AZ m.line).count (r.s,r.t)+0+0)=r.n.toNat:=hc;have Y:=SO R hr aa g.il;have W:k≠47:=λe=>by
      rw[e,O.cf.noWedge.1]at G
      cases G
     have t:=g.tx;unfold hot at t;rw[Ar h2,Av]at t
     have I:=Qp F;have ek:c.keys.cps.toList=c.keys.cps.toList.take m.at_++k::c.keys.cps.toList.drop (m.at_+1):=by
      have J:=(E4 m.at_ c.keys.cps.toList).symm;rw[Fj I]at J
      have e2:c.keys.cps.toList[m.at_]=k:=by
       unfold EV at F;rw[A7 I]at F
       exact Ap F
      rw[e2]at J
      exact J
     rw[<-t,Ao]at ek
     have ac:DW (m.texts.map cps)++(cps (CZ m.line)++k::c.keys.cps.toList.drop (m.at_+1))=DW (ls.map λl=>cps (Lns.AD l)):=by
      rw[<-SS,<-hk];exact ek.symm
     obtain⟨J,e2,e3⟩:=SR (as:=m.texts.map cps) (λa ha=>by obtain⟨x,hx,rfl⟩:=Bw.mp ha;exact g.pn x hx) (λb hb=>by obtain⟨x,hx,rfl⟩:=Bw.mp hb;exact hp x hx) ac;rw[A6]at J e2 e3
     cases ed:(ls.map λl=>cps (Lns.AD l)).drop m.texts.length with
     | nil =>
       rw[ed]at e3
       have:=Bs List.length e3;rw[Aa]at this
       have:_+(_+1)=0:=this
       lia
     | cons b bs =>
       rw[ed,NZ]at e3
       obtain⟨w,ew⟩:=WL (WI R g.il) W e3;have Z:(ls.map λl=>cps (Lns.AD l))[m.texts.length]?=some b:=by
        have:=Bs (λx=>x[0]?) ed;simpa using this
       rw[Ax]at Z
       obtain⟨l,hl,rfl⟩:=B6.mp Z;exact⟨j,k,r,l,w,hr,aa,hg,by rw[Y];lia,hl,WN e2,ew,rfl⟩
end Mc
namespace L2
open PySem PySem.Spec PyProof.Rows PySem.Builtin PySem.Builtin.Str
section
variable {X:Cx}{a:Expr}{ta:TE}
def SU(F b:Bool)(ta:TE):TE:=λσ H Q=>ta σ H λx H1=>∃k,x=.bl k/\Q (.bl (if F then !decide (k=b)else decide (k=b))) H1
theorem iW{j pos'}(ha:PE X a ta):PC X .IsNot a (.Constant (.bool b) j pos') (SU true b ta):=by
 intro pins s σ H Q I h;refine BD (ha pins s σ H _ I h) λv W ⟨x,H1,G,J,k,e,F⟩=>?_
 subst e;cases J;refine Constant_bool ?_;cases k<;>cases b<;>exact An ⟨.bl _,H1,G,rfl,F⟩
end
theorem WO(c:Nat):∀{ps:List Str},ps≠[]->(∀p∈ps,c∉p.cps.toList)->(Str.join ⟨#[c]⟩ ps).cps.toList.count c+1=ps.length
 | [],h,_=>absurd rfl h
 | [p],_,h=>by
   show List.count c p.cps.toList+1=1;rw[Dc.mpr (h p Ab)]
 | p::p2::ps,_,h=>by
   have ih:=WO c (ps:=p2::ps) (by simp) λx F=>h x (Ac _ F)
   show List.count c (p++⟨#[c]⟩++Str.join ⟨#[c]⟩ (p2::ps)).cps.toList+1=_;rw[Lns.EU,Lns.EU,Cd,Cd,Dc.mpr (h p Ab)];have e:List.count c (⟨#[c]⟩:Str).cps.toList=1:=by
    show List.count c [c]=1;simp
   rw[e];show 0+1+_+1=(p2::ps).length+1
   lia
theorem iX(x:Str)(c:Nat):(occurrences x ⟨#[c]⟩ 0 x.length (x.length+1)).length=x.cps.toList.count c:=by
 obtain⟨f,J,W⟩:=StrLaws.occ_tight x ⟨#[c]⟩ (Af 1);have G:=StrLaws.parts_free x c _ _ _ J W;have I:Str.join ⟨#[c]⟩ (partsBetween x (occurrences x ⟨#[c]⟩ 0 x.length (x.length+1)) 1)=x:=by
  rw[<-Bp];exact StrLaws.glued_between_self x ⟨#[c]⟩ (x.length+1)
 have F:partsBetween x (occurrences x ⟨#[c]⟩ 0 x.length (x.length+1)) 1≠[]:=by
  rw[Fw];obtain⟨p,r,e⟩:=StrLaws.partsFrom_ne x 1 0 (occurrences x ⟨#[c]⟩ 0 x.length (x.length+1));rw[e];simp
 have h:=WO c F (by rw[Fw];exact G);rw[I]at h
 unfold partsBetween at h;simp only[A6,List.length_zip,B8,Aa]at h
 lia
section
variable {X:Cx}
def LV:V->List V->Hp->VK->Prop:=λx xs H Q=>∃(z:Str) (c:Nat),x=.str z/\xs=[.str (sg c)]/\Q (.int (z.cps.toList.count c:Nat)) H
theorem iY:MS X "str.count" LV:=by
 intro pins s σ H x xs v us Q I W rs h;obtain⟨z,c,rfl,rfl,q⟩:=h;obtain⟨t,rfl⟩:=W;obtain⟨Y,rfl,J⟩:=ID rs;obtain⟨u,rfl⟩:=J;have e:=iX z c;have G:Q (.int ((occurrences z (sg c) 0 z.length (z.length+1)).length:Nat)) H:=by
  have e:(occurrences z (sg c) 0 z.length (z.length+1)).length=z.cps.toList.count c:=e;rw[e];exact q
 exact call_gives F.slot_str_count (Gf _ _ _) F.entry_str_count (F.args_str_count_2 _ _) (gives_str_count z (sg c) t u) ⟨.int _,H,I.tok _,⟨_,rfl⟩,G⟩
end
end L2
namespace Mc
open PySem L2
theorem iZ(h:∀x∈l,Wd rs 5 x):47∉cps (Lns.AD l):=Lns.VD λx F=>(h x F).settable.plain
theorem j4(R:Rt c)(O:Ok c m)(g:Gd c m)(F:GY c m=true)(W:c.keys=Lns.BG ls)(J:∀l∈ls,47∉cps (Lns.AD l))(en:∀r∈c.rs,∀k,r.s=L2.sg k->∀l∈ls,(cps (Lns.AD l)).count k<=r.n.toNat):Na c m=true/\LP c m=false:=by
 have I:LP c m=false:=by
  cases e:LP c m with
  | false=>rfl
  | true =>
    obtain⟨_,_,j,k,r,l,w,Y,G,_,hc,Z,_,hw,_⟩:=iV R O g e W J;have h1:=en r (Ag Y) k G l (Ag Z);rw[hw,Cd,hc,List.count_cons_self]at h1
    lia
 unfold GY at F;rw[I,Bool.or_false]at F
 exact⟨F,I⟩
end Mc
namespace Br
open PySem L2
inductive Ng (c:Nat->Nat->Option Int):Nat->Prop
 | zero:Ng c 0
 | step {i j:Nat}:Ng c i->i<j->(c i j).isSome=true->Ng c j
structure Pc(c:Nat->Nat->Option Int)(n m:Nat):Prop where
 rch:Ng c m
 le:m<=n
 top:∀j,j<=n->Ng c j->j<=m
end Br
namespace Mc
open PySem L2
theorem j6(e:AF H H')(h:BP K H a xs):BP K H' a xs:=by
 rcases h with(h|⟨o,h⟩)|h
 .exact .inl (.inl (e _ _ h))
 .exact .inl (.inr ⟨o,e _ _ h⟩)
 .exact .inr h
mutual
theorem j7(s:AF H H'):∀(d:PyData) (v:V),GD K H v d->GD K H' v d
 | .none,v,h=>by cases h with|non=>exact .non
 | .bool b,v,h=>by cases h with|bl=>exact .bl _
 | .int i,v,h=>by cases h with|int=>exact .int _
 | .str x,v,h=>by cases h with|str _ q=>exact .str _ q
 | .list ds,v,h=>by cases h with|lst h1 q=>exact .lst (s.seq h1) (SV s ds _ q)
 | .tuple ds,v,h=>by cases h with|tup h1 q=>exact .tup (j6 s h1) (SV s ds _ q)
 | .dict _,v,h=>by cases h
theorem SV(s:AF H H'):∀(ds:List PyData) (xs:List V),EF K H xs ds->EF K H' xs ds
 | [],xs,h=>by cases h with|nil=>exact .nil
 | d::ds,xs,h=>by
   cases h with
   | cons h1 h2=>exact .cons (j7 s d _ h1) (SV s ds _ h2)
end
end Mc
namespace L2
open PySem PySem.Spec PyProof.Rows
section
variable {X:Cx}(K:Frag) (hK:X.K=K)
include hK
end
section
variable {X:Cx}(K:Frag) (hK:X.K=K)
include hK
end
section
variable {X:Cx}(K:Frag) (hK:X.K=K)
include hK
end
end L2
namespace Jb
open PySem L2
inductive HP where
 | ms (n:Int)
 | gp (a b c:Int)
 | st (ws:List Str)
def CS:Nat->Type
 | 0=>HP
 | d+1=>HP ⊕ (Nat×List (CS d))
abbrev St:=Int×List Int
abbrev BE:=Int×List Int×List Str
abbrev Lm:=List BE×St
def bas:HP->St->Lm
 | .ms n,s=>([],(n,s.2))
 | .gp a b c,s=>([],(s.1,[a,b,c]))
 | .st ws,s=>([(s.1,s.2,ws)],s)
def BS{F:Type}(f:F->St->Lm):List F->St->Lm
 | [],s=>([],s)
 | j::js,s=>((f j s).1++(BS f js (f j s).2).1,(BS f js (f j s).2).2)
def HY(f:St->Lm):Nat->St->Lm
 | 0,s=>([],s)
 | n+1,s=>if (f s).1=[]then f s else((f s).1++(HY f n (f s).2).1,(HY f n (f s).2).2)
def EC:(d:Nat)->CS d->St->Lm
 | 0,b,s=>bas b s
 | _+1,.inl b,s=>bas b s
 | d+1,.inr (n,js),s=>HY (BS (EC d) js) n s
theorem WQ{F:Type}(f:F->St->Lm):∀(js:List F) (j:F) (s:St),BS f (js++[j]) s=((BS f js s).1++(f j (BS f js s).2).1,(f j (BS f js s).2).2)
 | [],j,s=>by
   show((f j s).1++[],(f j s).2)=_;rw[Av];rfl
 | k::js,j,s=>by
   show((f k s).1++(BS f (js++[j]) (f k s).2).1,(BS f (js++[j]) (f k s).2).2)=_;rw[WQ f js j];show(_++(_++_),_)=((_++_)++_,_)
   rw[Ao];rfl
theorem SW{F:Type}(f:F->St->Lm):∀(a b:List F) (s:St),BS f (a++b) s=((BS f a s).1++(BS f b (BS f a s).2).1,(BS f b (BS f a s).2).2)
 | [],b,s=>rfl
 | k::a,b,s=>by
   show((f k s).1++(BS f (a++b) (f k s).2).1,(BS f (a++b) (f k s).2).2)=_;rw[SW f a b];show(_++(_++_),_)=((_++_)++_,_)
   rw[Ao];rfl
def KE(ps:List BE):Nat:=(ps.map λp=>p.2.2.length).sum
def EA(ps:List BE):Prop:=ps.length<=60/\KE ps<=400
theorem WR(a b:List BE):KE (a++b)=KE a+KE b:=by
 unfold KE;rw[Ah,Gv]
theorem EA.left(h:EA (a++b)):EA a:=by
 unfold EA at h⊢;rw[Aa,WR]at h
 lia
noncomputable instance (ps:List BE):Decidable (EA ps):=by unfold EA;infer_instance
def AY(no:Addr)(H H':Hp):Prop:=∀a o,a≠no->H a=some o->H' a=some o
theorem AY.refl(no:Addr)(H:Hp):AY no H H:=λ_ _ _ h=>h
theorem AY.trans(h:AY no H1 H2)(h':AY no H2 H3):AY no H1 H3:=λa o n e=>h' a o n (h a o n e)
theorem AY.of(h:AF H H'):AY no H H':=λa o _ e=>h a o e
theorem AY.upd(h:AY no H H'):AY no H (upd H' no o):=λa o' n e=>by
 rw[BV n];exact h a o' n e
theorem AY.tup(h:AY no H H')(F:H no=some (.lst vs))(ht:H t=some (.tup xs)):H' t=some (.tup xs):=h t _ (λe=>by rw[e,F]at ht;cases ht) ht
theorem AY.sqt(h:AY no H H')(F:H no=some (.lst vs))(ht:BP K H t xs):BP K H' t xs:=by
 rcases ht with ht|ht
 .rcases ht with ht|ht
  .exact .inl (.inl (h.tup F ht))
  .obtain⟨o,ht⟩:=ht;exact .inl (.inr ⟨o,h t _ (λe=>by rw[e,F]at ht;cases ht) ht⟩)
 .exact .inr ht
def LW(no:Addr)(H:Hp)(v:V):HP->Prop
 | .ms n=>∃t,v=.ref t/\H t=some (.tup [.str "measure",.int n])
 | .gp a b c=>∃t,v=.ref t/\H t=some (.tup [.str "gaps",.int a,.int b,.int c])
 | .st ws=>∃t p,v=.ref t/\H t=some (.tup [.str "set",.ref p])/\p≠no/\H p=some (.lst (ws.map V.str))
def DQ(no:Addr)(H:Hp):(d:Nat)->V->CS d->Prop
 | 0,v,b=>LW no H v b
 | _+1,v,.inl b=>LW no H v b
 | d+1,v,.inr (n,js)=>n<=1000/\js.length<=1000/\∃t p xs,v=.ref t/\H t=some (.tup [.str "times",.int (n:Int),.ref p])/\p≠no/\H p=some (.lst xs)/\Paired (DQ no H d) xs js
theorem LW.same(h:LW no H v b)(s:AY no H H')(F:H no=some (.lst vs)):LW no H' v b:=by
 cases b with
 | ms n=>obtain⟨t,e,z⟩:=h;exact⟨t,e,s.tup F z⟩
 | gp a b c=>obtain⟨t,e,z⟩:=h;exact⟨t,e,s.tup F z⟩
 | st ws=>obtain⟨t,p,e,z,n,y⟩:=h;exact⟨t,p,e,s.tup F z,n,s _ _ n y⟩
theorem DQ.same(s:AY no H H')(F:H no=some (.lst vs)):∀(d:Nat) {v:V}{j:CS d},DQ no H d v j->DQ no H' d v j
 | 0,_,_,h=>LW.same h s F
 | _+1,_,.inl _,h=>LW.same h s F
 | d+1,_,.inr (_,_),h=>by
   obtain⟨b1,G,t,p,xs,e,z,n,y,w⟩:=h;exact⟨b1,G,t,p,xs,e,s.tup F z,n,s _ _ n y,Paired.mapP w λ_ _ q=>DQ.same s F d q⟩
theorem DQ.view:∀(d:Nat) {v:V}{j:CS d},DQ no H d v j->(∃b,LW no H v b/\∀s,EC d j s=bas b s) \/
 ∃(d' n:Nat) (js:List (CS d')),d=d'+1/\n<=1000/\js.length<=1000/\(∃t p xs,v=.ref t/\H t=some (.tup [.str "times",.int (n:Int),.ref p])/\p≠no/\H p=some (.lst xs)/\Paired (DQ no H d') xs js)/\∀s,EC d j s=HY (BS (EC d') js) n s
 | 0,_,b,h=>.inl ⟨b,h,λ_=>rfl⟩
 | _+1,_,.inl b,h=>.inl ⟨b,h,λ_=>rfl⟩
 | d+1,_,.inr (n,js),⟨b1,F,h⟩=>.inr ⟨d,n,js,rfl,b1,F,h,λ_=>rfl⟩
def Lo(K:Frag)(no:Addr)(H:Hp)(v:V)(p:BE):Prop:=∃t g w,v=.ref t/\H t=some (.tup [.int p.1,.ref g,.ref w])/\BP K H g (p.2.1.map V.int)/\w≠no/\H w=some (.lst (p.2.2.map V.str))
theorem Lo.same(h:Lo K no H v p)(s:AY no H H')(F:H no=some (.lst vs)):Lo K no H' v p:=by
 obtain⟨t,g,w,e,z,y,n,x⟩:=h;exact⟨t,g,w,e,s.tup F z,s.sqt F y,n,s _ _ n x⟩
structure Mu(K:Frag)(q:Addr)(H:Hp)(ps:List BE):Prop where
 ex:∃vs,H q=some (.lst vs)/\Paired (Lo K q H) vs ps
theorem Mu.add(F:H q=some (.lst vs))(G:Paired (Lo K q H) vs ps)(h:Lo K q H v p):Paired (Lo K q (upd H q (.lst (vs++[v])))) (vs++[v]) (ps++[p]):=by
 have s:AY q H (upd H q (.lst (vs++[v]))):=(AY.refl q H).upd;exact Ce (Paired.mapP G λ_ _ z=>z.same s F) (h.same s F)
end Jb
namespace L2
open PySem PySem.Spec PyProof.Rows
section
variable {X:Cx}(K:Frag) (hK:X.K=K)
include hK
end
abbrev j8:=Nat×Nat×Bool
section
variable {X:Cx}{o i e value:Expr}{pos pos' tpos:Pos}{td ty tv:TE}
variable (P:Program) (w:World) (hP:X.prog=P) (hw:X.w=w)
include hP hw
end
end L2
namespace Jb
open PySem L2
structure HZ(x:Str):Prop where
 l1:1<=x.cps.toList.length
 l2:x.cps.toList.length<=12
 sn:∀c∈x.cps.toList,c∈Cs.BR
 ne:x≠"end"
def Nh:HP->Prop
 | .ms n=>1<=n/\n<=2000
 | .gp a b c=>0<=a/\a<=b/\b<=c/\c<=99
 | .st ws=>1<=ws.length/\ws.length<=200/\∀x∈ws,HZ x
def HH:(d:Nat)->CS d->Prop
 | 0,b=>Nh b
 | _+1,.inl b=>Nh b
 | d+1,.inr (n,js)=>1<=n/\n<=9/\js≠[]/\js.length<=100/\∀j∈js,HH d j
def EG(N:Addr->Prop)(H:Hp)(v:V):HP->Prop
 | .ms n=>∃t,v=.ref t/\H t=some (.tup [.str "measure",.int n])
 | .gp a b c=>∃t,v=.ref t/\H t=some (.tup [.str "gaps",.int a,.int b,.int c])
 | .st ws=>∃t p,v=.ref t/\H t=some (.tup [.str "set",.ref p])/\¬N p/\H p=some (.lst (ws.map V.str))
def BO(N:Addr->Prop)(H:Hp):(d:Nat)->V->CS d->Prop
 | 0,v,b=>EG N H v b
 | _+1,v,.inl b=>EG N H v b
 | d+1,v,.inr (n,js)=>n<=1000/\js.length<=1000/\∃t p xs,v=.ref t/\H t=some (.tup [.str "times",.int (n:Int),.ref p])/\¬N p/\H p=some (.lst xs)/\Paired (BO N H d) xs js
structure DF(N:Addr->Prop)(H H':Hp):Prop where
 tup:∀a xs,H a=some (.tup xs)->H' a=some (.tup xs)
 lst:∀a xs,¬N a->H a=some (.lst xs)->H' a=some (.lst xs)
theorem DF.of{N:Addr->Prop}{H H':Hp}(s:AF H H'):DF N H H':=⟨λa xs h=>s _ _ h,λa xs _ h=>s _ _ h⟩
theorem DF.upd{N:Addr->Prop}{H:Hp}{q:Addr}{ys:List V}{o:HO}(F:H q=some (.lst ys))(G:N q):DF N H (upd H q o):=by
 refine⟨λa xs h=>?_,λa xs n h=>?_⟩
 .rw[BV (HI h F (λz=>by cases z))];exact h
 .rw[BV (λz=>n (by rw[z];exact G))];exact h
theorem DF.trans{N:Addr->Prop}{H1 H2 F:Hp}(h:DF N H1 H2)(h':DF N H2 F):DF N H1 F:=⟨λa xs e=>h'.tup a xs (h.tup a xs e),λa xs n e=>h'.lst a xs n (h.lst a xs n e)⟩
section
variable {N M:Addr->Prop}{H H':Hp}
theorem EG.to(s:DF N H H')(hm:∀p xs,H p=some (.lst xs)->¬N p->¬M p)(h:EG N H v b):EG M H' v b:=by
 cases b with
 | ms n=>obtain⟨t,e,z⟩:=h;exact⟨t,e,s.tup _ _ z⟩
 | gp a b c=>obtain⟨t,e,z⟩:=h;exact⟨t,e,s.tup _ _ z⟩
 | st ws=>obtain⟨t,p,e,z,n,y⟩:=h;exact⟨t,p,e,s.tup _ _ z,hm _ _ y n,s.lst _ _ n y⟩
theorem BO.to(s:DF N H H')(hm:∀p xs,H p=some (.lst xs)->¬N p->¬M p):∀(d:Nat) {v:V}{j:CS d},BO N H d v j->BO M H' d v j
 | 0,_,_,h=>EG.to s hm h
 | _+1,_,.inl _,h=>EG.to s hm h
 | d+1,_,.inr (_,_),h=>by
   obtain⟨b1,F,t,p,xs,e,z,n,y,w⟩:=h;exact⟨b1,F,t,p,xs,e,s.tup _ _ z,hm _ _ y n,s.lst _ _ n y,Paired.mapP w λ_ _ q=>BO.to s hm d q⟩
theorem BO.same(s:DF N H H')(d:Nat){v:V}{j:CS d}(h:BO N H d v j):BO N H' d v j:=BO.to s (λ_ _ _ n=>n) d h
theorem BO.weak(w:∀a,M a->N a)(d:Nat){v:V}{j:CS d}(h:BO N H d v j):BO M H d v j:=BO.to (DF.of (AF.refl _)) (λ_ _ _ n z=>n (w _ z)) d h
theorem BO.fresh(w:∀a,M a->N a\/H a=none)(d:Nat){v:V}{j:CS d}(h:BO N H d v j):BO M H d v j:=BO.to (DF.of (AF.refl _)) (λp xs e n z=>by
 rcases w p z with h|h
 .exact n h
 .rw[e]at h;cases h) d h
theorem EG.at{q:Addr}{v:V}{b:HP}(h:EG (λa=>a=q) H v b):LW q H v b:=by
 cases b with
 | ms n=>exact h
 | gp a b c=>exact h
 | st ws=>exact h
theorem BO.at{q:Addr}:∀(d:Nat) {v:V}{j:CS d},BO (λa=>a=q) H d v j->DQ q H d v j
 | 0,_,_,h=>EG.at h
 | _+1,_,.inl _,h=>EG.at h
 | d+1,_,.inr (_,_),h=>by
   obtain⟨b1,F,t,p,xs,e,z,n,y,w⟩:=h;exact⟨b1,F,t,p,xs,e,z,n,y,Paired.mapP w λ_ _ q=>BO.at d q⟩
end
theorem WS{K:Frag}{H:Hp}{G:Type}{F:V->G->Prop}{f:G->PyData}:∀{vs:List V}{js:List G},Paired F vs js->(∀v j,j∈js->F v j->GD K H v (f j))->EF K H vs (js.map f)
 | _,_,.nil,_=>.nil
 | _,_,.cons r t,h=>.cons (h _ _ Ab r) (WS t λv j I=>h v j (Ac _ I))
theorem WT{F:Type}{f:F->PyData}:∀{js:List F},(∀j,nb (f j)=true)->IW (js.map f)=true
 | [],_=>rfl
 | j::js,h=>by
   show(nb (f j)&&IW (js.map f))=true;rw[h j,WT h];rfl
theorem WU{F:Type}{f:F->PyData}{k:Nat}:∀{js:List F},(∀j,(f j).depth<=k)->PyData.depthAll (js.map f)<=k
 | [],_=>B9 _
 | j::js,h=>by
   show max (f j).depth (PyData.depthAll (js.map f))<=k;have:=h j;have:=WU (js:=js) h
   lia
end Jb
namespace L2
open PySem PySem.Spec PyProof.Rows
section
variable {X:Cx}
theorem WV:HJ X (.type "int") (λxs H Q=>∃(x:Str) (n:Int),xs=[.str x]/\PySem.intText? x=some n/\x.length<=640/\Q (.int n) H):=by
 intro pins s σ H xs us Q I r h;obtain⟨x,n,rfl,G,F,q⟩:=h;obtain⟨u,rfl,t,rfl⟩:=ID r;exact PySem.W.KIN.call_text G F ⟨.int _,H,I.tok _,⟨_,rfl⟩,q⟩
theorem Qy:HJ X (.type "str") (λxs H Q=>∃i:Int,xs=[.int i]/\i.natAbs<100000/\Q (.str (Str.ofString (toString i))) H):=by
 intro pins s σ H xs us Q I r h;obtain⟨i,rfl,hi,q⟩:=h;obtain⟨u,rfl,t,rfl⟩:=ID r;refine P.str_of_int ?_ ⟨.str _,H,I.tok _,⟨_,rfl⟩,q⟩;have:i.natAbs.log2<17:=by
  rcases Nat.eq_zero_or_pos i.natAbs with e|e
  .rw[e];decide
  .exact(Nat.log2_lt (by lia)).mpr (by lia)
 lia
end
end L2
namespace Cp
open PySem L2 Jb
def Ni(c:Nat):Bool:=decide (48<=c)&&decide (c<=57)
def IP(x:Str):Bool:=!(decide (1<x.cps.toList.length)&&decide (x.cps.toList[0]?=some 48))&&(decide (1<=x.cps.toList.length)&&decide (x.cps.toList.length<=4))&&x.cps.toList.all Ni
def IQ(x:Str):Int:=(PySem.intText? x).getD 0
theorem SX(h:IP x=true):1<=x.cps.toList.length/\x.cps.toList.length<=4:=by
 unfold IP at h;simp only[Aw,Ej]at h;exact h.1.2
theorem j9(h:IP x=true):PySem.intText? x=some (IQ x):=by
 have F:=SX h;unfold IP at h;simp only[Aw]at h;have hd:PySem.NumText.AllDigits x.cps.toList:=λc G=>by
  have:=C1.mp h.2 c G;unfold Ni at this;simp only[Aw,Ej]at this;exact this
 have e:x.cps.toList.length=x.length:=Au;have:=PySem.intText_digits hd (λz=>by rw[z]at F;exact absurd F.1 (by decide)) (by lia);unfold IQ;rw[this];rfl
def HQ(x:Str):Bool:=decide (x≠"")&&decide (x≠"end")&&x.cps.toList.all λc=>decide (c∈Cs.BR)
def hd(r:List Str)(k:Nat):Str:=(r[k]?).getD ""
def FZ(x:Str)(lo hi:Int):Option Int:=if IP x=true/\lo<=IQ x/\IQ x<=hi then some (IQ x)else none
abbrev Rd(F:Type):=Option (F×Nat)
def Pd(r:List Str):Rd HP:=(FZ (hd r 1) 1 2000).map λn=>(.ms n,2)
def Nj(r:List Str):Rd HP:=match FZ (hd r 1) 0 99 with
 | none=>none
 | some lo=>match FZ (hd r 2) lo 99 with
   | none=>none
   | some ideal=>(FZ (hd r 3) ideal 99).map λhi=>(.gp lo ideal hi,4)
def EH(r:List Str):List Str:=(r.drop 1).takeWhile HQ
def O0(r:List Str):Rd HP:=if EH r=[]then none else if hd r ((EH r).length+1)="end" then some (.st (EH r),(EH r).length+2)else none
def LX(r:List Str):Bool:=decide (hd r 0="measure")||decide (hd r 0="gaps")||decide (hd r 0="set")
def JV(r:List Str):Rd HP:=if hd r 0="measure" then Pd r else if hd r 0="gaps" then Nj r else if hd r 0="set" then O0 r else none
def JW(r:List Str):Bool:=decide (r=[])||decide (hd r 0=")")
def KF{F:Type}(f:List Str->Rd F):Nat->List Str->Rd (List F)
 | 0,_=>none
 | n+1,r=>if JW r=true then some ([],0)else match f r with
   | none=>none
   | some (x,k)=>(KF f n (r.drop k)).map λz=>(x::z.1,k+z.2)
def Nk{F:Type}(g:List Str->Rd (List F))(r:List Str):Rd (Nat×List F):=match FZ (hd r 0) 1 9 with
 | none=>none
 | some n=>if hd r 1="times"/\hd r 2="(" then(match g (r.drop 3)with
    | none=>none
    | some (js,k)=>if js=[]then none else if hd r (3+k)=")" then some ((n.toNat,js),4+k)else none)
   else none
def IR:(d:Nat)->List Str->Rd (CS d)
 | 0,r=>JV r
 | d+1,r=>if LX r=true then(JV r).map λz=>(Sum.inl z.1,z.2)else(Nk (λr=>KF (IR d) (r.length+1) r) r).map λz=>(Sum.inr z.1,z.2)
def FG(d:Nat)(r:List Str):Rd (List (CS d)):=KF (IR d) (r.length+1) r
theorem O3(h:hd r k≠""):k<r.length:=by
 cases e:r[k]? with
 | none =>
   unfold hd at h;rw[e]at h
   exact absurd rfl h
 | some x=>exact(B2.mp e).1
theorem Lp(r:List Str)(a k:Nat):hd (r.drop a) k=hd r (a+k):=by
 unfold hd;rw[K2]
theorem ja:IP ""=false:=by decide +kernel
theorem SY(h:FZ x lo hi=some n):IP x=true/\lo<=n/\n<=hi/\n=IQ x:=by
 unfold FZ at h;split at h
 .rename_i c;have h:=Ap h;rw[<-h];exact⟨c.1,c.2.1,c.2.2,rfl⟩
 .cases h
theorem WW(h:FZ x lo hi=some n):x≠"":=λz=>by
 have:=(SY h).1;rw[z,ja]at this
 cases this
theorem jc(h:Pd r=some (b,k)):1<=k/\k<=r.length:=by
 unfold Pd at h;obtain⟨n,F,e⟩:=B6.mp h;have:=O3 (WW F);cases e
 lia
theorem jd(h:Nj r=some (b,k)):1<=k/\k<=r.length:=by
 unfold Nj at h;split at h
 .cases h
 .split at h
  .cases h
  .obtain⟨n,F,e⟩:=B6.mp h;have:=O3 (WW F);cases e
   lia
theorem je(h:O0 r=some (b,k)):1<=k/\k<=r.length:=by
 unfold O0 at h;split at h
 .cases h
 .split at h
  .rename_i e;have F:hd r ((EH r).length+1)≠"":=by rw[e];decide +kernel
   have:=O3 F;cases h
   lia
  .cases h
theorem WX{r:List Str}{b:HP}{k:Nat}(h:JV r=some (b,k)):1<=k/\k<=r.length:=by
 unfold JV at h;split at h
 .exact jc h
 .split at h
  .exact jd h
  .split at h
   .exact je h
   .cases h
theorem jf{F:Type}{g:List Str->Rd (List F)}{r:List Str}{x:Nat×List F}{k:Nat}(h:Nk g r=some (x,k)):1<=k/\k<=r.length:=by
 unfold Nk at h;split at h
 .cases h
 .split at h
  .split at h
   .cases h
   .split at h
    .cases h
    .split at h
     .rename_i e;have:=O3 (r:=r) (λz=>absurd (e.symm.trans z) (by decide +kernel));cases h
      lia
     .cases h
  .cases h
theorem SZ:∀(d:Nat) {r:List Str}{j:CS d}{k:Nat},IR d r=some (j,k)->1<=k/\k<=r.length
 | 0,r,j,k,h=>WX (b:=j) h
 | d+1,r,j,k,h=>by
   unfold IR at h;split at h
   .obtain⟨z,F,e⟩:=B6.mp h;cases e;exact WX F
   .obtain⟨z,F,e⟩:=B6.mp h;cases e;exact jf F
theorem WY{G:Type}{f:List Str->Rd G}(F:∀r x k,f r=some (x,k)->1<=k/\k<=r.length):∀(n m:Nat) (r:List Str),r.length<n->r.length<m->KF f n r=KF f m r
 | 0,_,r,h,_=>absurd h (Cg _)
 | _+1,0,r,_,h=>absurd h (Cg _)
 | n+1,m+1,r,I,hm=>by
   unfold KF;split
   .rfl
   .split
    .rfl
    .rename_i x k e;have h1:=F _ _ _ e;rw[WY F n m (r.drop k) (by rw[Bx];lia) (by rw[Bx];lia)]
theorem T1{d:Nat}{r:List Str}:FG d r=if JW r=true then some ([],0)else match IR d r with
 | none=>none
 | some (x,k)=>(FG d (r.drop k)).map λz=>(x::z.1,k+z.2):=by
 have G:FG d r=KF (IR d) (r.length+1) r:=rfl;rw[G];unfold KF;by_cases F:JW r=true
 .rw[Ar F,Ar F]
 .rw[Aq F,Aq F];cases e:IR d r with
  | none=>rfl
  | some z =>
    obtain⟨x,k⟩:=z;have h1:=SZ d e;have h2:KF (IR d) r.length (r.drop k)=FG d (r.drop k):=WY (λr x k=>SZ d) r.length ((r.drop k).length+1) (r.drop k) (by rw[Bx];lia) (Il _);show(KF (IR d) r.length (r.drop k)).map _=(FG d (r.drop k)).map _;rw[h2]
def Qz(ws:List Str):Option (List (CS 4)):=match FG 4 ws with
 | none=>none
 | some (js,k)=>if k<ws.length then none else some js
abbrev AK(n:Int):Str:=Str.ofString (toString n)
def CJ:HP->List Str
 | .ms n=>["measure",AK n]
 | .gp a b c=>["gaps",AK a,AK b,AK c]
 | .st ws=>("set":Str)::ws++[("end":Str)]
def EI:(d:Nat)->CS d->List Str
 | 0,b=>CJ b
 | _+1,.inl b=>CJ b
 | d+1,.inr (n,js)=>[AK (n:Int),("times":Str),("(":Str)]++js.flatMap (EI d)++[(")":Str)]
abbrev DC(d:Nat)(js:List (CS d)):List Str:=js.flatMap (EI d)
theorem jg:∀n:Fin 2001,IP (AK (n.val:Int))=true:=by decide +kernel
theorem QA(F:0<=n)(h1:n<=2000):IP (AK n)=true:=by
 have:=jg ⟨n.toNat,by lia⟩;rw[show((n.toNat:Nat):Int)=n by lia]at this
 exact this
theorem jh(F:0<=n)(h1:n<=2000):IQ (AK n)=n:=by
 unfold IQ AK;rw[PySem.W.KIN.num_reads F (by lia)];rfl
theorem Pe(F:0<=n)(h1:n<=2000)(h2:lo<=n)(G:n<=hi):FZ (AK n) lo hi=some n:=by
 unfold FZ;rw[jh F h1,Ar ⟨QA F h1,h2,G⟩]
theorem ji(h:HZ x):HQ x=true:=by
 unfold HQ;have h1:x≠"":=λz=>by
  have:=h.l1;rw[z]at this
  exact absurd this (by decide +kernel)
 rw[Ae h1,Ae (p:=x≠("end":Str)) h.ne];show(true&&true&&_)=true;rw[C1.mpr λc F=>Ae (h.sn c F)];rfl
theorem jj:HQ "end"=false:=by decide +kernel
theorem WZ:∀{us:List Str}{y:Str}{r:List Str},(∀x∈us,p x=true)->p y=false->(us++y::r).takeWhile p=us
 | [],y,r,_,F=>by
   show(y::r).takeWhile p=[]
   rw[Fl,F];rfl
 | x::us,y,r,h,F=>by
   show(x::(us++y::r)).takeWhile p=x::us;rw[Fl,h x Ab];show x::(us++y::r).takeWhile p=_;rw[WZ (λz G=>h z (Ac _ G)) F]
theorem X0(g:Nh b)(rest:List Str):JV (CJ b++rest)=some (b,(CJ b).length)/\LX (CJ b++rest)=true:=by
 cases b with
 | ms n =>
   have h:FZ (AK n) 1 2000=some n:=Pe (by have:=g.1;lia) g.2 g.1 g.2;refine⟨?_,?_⟩
   .show(FZ (AK n) 1 2000).map _=_;rw[h];rfl
   .show(decide (("measure":Str)=("measure":Str))||_||_)=true;rw[Ae rfl];rfl
 | gp a b c =>
   obtain⟨g1,g2,Z,Y⟩:=g;have h1:FZ (AK a) 0 99=some a:=Pe (by lia) (by lia) (by lia) (by lia);have h2:FZ (AK b) a 99=some b:=Pe (by lia) (by lia) (by lia) (by lia);have J:FZ (AK c) b 99=some c:=Pe (by lia) (by lia) (by lia) (by lia);have m1:¬(("gaps":Str)=("measure":Str)):=by decide +kernel
   refine⟨?_,?_⟩
   .unfold JV;show(if ("gaps":Str)=("measure":Str)then _ else if ("gaps":Str)=("gaps":Str)then Nj _ else _)=_;rw[Aq m1,Ar rfl];unfold Nj;show(match FZ (AK a) 0 99 with|none=>none|some lo=>match FZ (AK b) lo 99 with|none=>none|some ideal=>(FZ (AK c) ideal 99).map λhi=>(HP.gp lo ideal hi,4))=_;rw[h1];show(match FZ (AK b) a 99 with|none=>none|some ideal=>(FZ (AK c) ideal 99).map λhi=>(HP.gp a ideal hi,4))=_;rw[h2];show(FZ (AK c) b 99).map _=_;rw[J];rfl
   .show(_||decide (("gaps":Str)=("gaps":Str))||_)=true;rw[Ae (rfl:("gaps":Str)=("gaps":Str)),Fd];rfl
 | st ws =>
   have m1:¬(("set":Str)=("measure":Str)):=by decide +kernel
   have m2:¬(("set":Str)=("gaps":Str)):=by decide +kernel
   have F:CJ (.st ws)++rest=("set":Str)::(ws++("end":Str)::rest):=by
    show(("set":Str)::ws++[("end":Str)])++rest=_;rw[Gh,Gh,Ao];rfl
   have hw:EH (CJ (.st ws)++rest)=ws:=by
    unfold EH;rw[F];exact WZ (λx I=>ji (g.2.2 x I)) jj
   have W:hd (CJ (.st ws)++rest) (ws.length+1)="end":=by
    rw[F];show((ws++("end":Str)::rest)[ws.length]?).getD ""=_;rw[Bv (Af _),E9];rfl
   refine⟨?_,?_⟩
   .unfold JV;have G:hd (CJ (.st ws)++rest) 0="set":=rfl;rw[G,Aq m1,Aq m2,Ar rfl];unfold O0;rw[hw,Aq (λz=>by have:=g.1;rw[z]at this;exact absurd this (by decide)),W,Ar rfl];show _=some (_,(("set":Str)::ws++[("end":Str)]).length);rw[Aa];rfl
   .show(_||_||decide (("set":Str)=("set":Str)))=true;rw[Ae (rfl:("set":Str)=("set":Str)),Fd]
theorem X1(h:IP x=true):x≠"measure"/\x≠"gaps"/\x≠"set"/\x≠")":=by
 refine⟨?_,?_,?_,?_⟩<;>intro z<;>rw[z]at h<;>revert h<;>decide +kernel
theorem jk:∀(d:Nat) (j:CS d) (rest:List Str),HH d j->JW (EI d j++rest)=false
 | 0,b,rest,g=>by cases b<;>(show(decide (_::_=[])||decide (Str.ofString _=(")":Str)))=false;rw[Ai (λz=>nomatch z)];decide +kernel)
 | _+1,.inl b,rest,g=>by cases b<;>(show(decide (_::_=[])||decide (Str.ofString _=(")":Str)))=false;rw[Ai (λz=>nomatch z)];decide +kernel)
 | d+1,.inr (n,js),rest,g=>by
   have h:=QA (n:=(n:Int)) (by lia) (by have:=g.2.1;lia);show(decide (_::_=[])||decide (AK (n:Int)=(")":Str)))=false;rw[Ai (λz=>nomatch z),Ai (X1 h).2.2.2];rfl
mutual
theorem jm:∀(d:Nat) (j:CS d) (rest:List Str),HH d j->IR d (EI d j++rest)=some (j,(EI d j).length)
 | 0,b,rest,g=>(X0 (b:=b) g rest).1
 | _+1,.inl b,rest,g=>by
   obtain⟨h1,h2⟩:=X0 (b:=b) g rest;unfold IR;show(if LX (CJ b++rest)=true then _ else _)=_;rw[Ar h2];show(JV (CJ b++rest)).map _=_;rw[h1];rfl
 | d+1,.inr (n,js),rest,g=>by
   obtain⟨g1,g2,g3,g4,g5⟩:=g;have hn:=QA (n:=(n:Int)) (by lia) (by lia);have F:=X1 hn;have W:EI (d+1) (.inr (n,js))++rest=AK (n:Int)::("times":Str)::("(":Str)::(DC d js++(")":Str)::rest):=by
    show([AK (n:Int),("times":Str),("(":Str)]++js.flatMap (EI d)++[(")":Str)])++rest=_;rw[Ao,Ao];rfl
   have hB:¬LX (EI (d+1) (.inr (n,js))++rest)=true:=by
    rw[W];show ¬((decide (AK (n:Int)=("measure":Str))||decide (AK (n:Int)=("gaps":Str))||decide (AK (n:Int)=("set":Str)))=true);rw[Ai F.1,Ai F.2.1,Ai F.2.2.1];decide
   have Z:(EI (d+1) (.inr (n,js))).length=4+(DC d js).length:=by
    show([AK (n:Int),("times":Str),("(":Str)]++js.flatMap (EI d)++[(")":Str)]).length=_;rw[Aa,Aa];show 3+(DC d js).length+1=_
    lia
   have G:=T3 d js ((")":Str)::rest) g5 (by
    show(_||decide ((")":Str)=(")":Str)))=true;rw[Ae (rfl:(")":Str)=(")":Str)),Fd])
   unfold IR;rw[Aq hB];unfold Nk;have Y:FZ (AK (n:Int)) 1 9=some (n:Int):=Pe (by lia) (by lia) (by lia) (by lia);have I:hd (AK (n:Int)::("times":Str)::("(":Str)::(DC d js++(")":Str)::rest)) (3+(DC d js).length)=")":=by
    rw[Nat.add_comm];show((DC d js++(")":Str)::rest)[(DC d js).length]?).getD ""=_;rw[Bv (Af _),E9];rfl
   rw[W];have q0:hd (AK (n:Int)::("times":Str)::("(":Str)::(DC d js++(")":Str)::rest)) 0=AK (n:Int):=rfl;have q1:hd (AK (n:Int)::("times":Str)::("(":Str)::(DC d js++(")":Str)::rest)) 1=("times":Str):=rfl;have q2:hd (AK (n:Int)::("times":Str)::("(":Str)::(DC d js++(")":Str)::rest)) 2=("(":Str):=rfl;have J:(λr=>KF (IR d) (r.length+1) r) ((AK (n:Int)::("times":Str)::("(":Str)::(DC d js++(")":Str)::rest)).drop 3)=some (js,(DC d js).length):=G;rw[q0,Y];dsimp only;rw[Ar ⟨q1,q2⟩];have J:KF (IR d) (((AK (n:Int)::("times":Str)::("(":Str)::(DC d js++(")":Str)::rest)).drop 3).length+1) ((AK (n:Int)::("times":Str)::("(":Str)::(DC d js++(")":Str)::rest)).drop 3)=some (js,(DC d js).length):=G;rw[J];dsimp only;rw[Aq g3,Ar I,Z];rfl
theorem T3:∀(d:Nat) (js:List (CS d)) (rest:List Str),(∀j∈js,HH d j)->JW rest=true->FG d (DC d js++rest)=some (js,(DC d js).length)
 | d,[],rest,_,G=>by
   rw[T1];show(if JW rest=true then _ else _)=_;rw[Ar G];rfl
 | d,j::js,rest,g,G=>by
   have e:DC d (j::js)++rest=EI d j++(DC d js++rest):=by
    show(j::js).flatMap (EI d)++rest=_;rw[Dp,Ao]
   have h1:=jm d j (DC d js++rest) (g j Ab);have h2:=T3 d js rest (λx I=>g x (Ac _ I)) G;have F:=jk d j (DC d js++rest) (g j Ab);rw[T1,e,F,h1];show(FG d ((EI d j++(DC d js++rest)).drop (EI d j).length)).map _=_;rw[List.drop_left,h2];show some (j::js,(EI d j).length+(DC d js).length)=some (j::js,((j::js).flatMap (EI d)).length);rw[Dp,Aa]
end
theorem jn(g:∀j∈js,HH 4 j):Qz (DC 4 js)=some js:=by
 have h:=T3 4 js [] g rfl;rw[Av]at h
 unfold Qz;rw[h];show(if (DC 4 js).length<(DC 4 js).length then none else some js)=_;rw[Aq (Df _)]
end Cp
namespace L2
open PySem PySem.Spec PyProof.Rows
section
variable {X:Cx}
theorem jo:HJ X (.type "str") (λxs H Q=>(∃i:Int,xs=[.int i]/\i.natAbs<100000/\Q (.str (Str.ofString (toString i))) H)\/∃x:Str,xs=[.str x]/\Q (.str x) H):=by
 intro pins s σ H xs us Q I r h;rcases h with⟨i,rfl,hi,q⟩|⟨x,rfl,q⟩
 .exact Qy pins s σ H _ us Q I r ⟨i,rfl,hi,q⟩
 .obtain⟨u,rfl,t,rfl⟩:=ID r;exact P.str_of_str ⟨.str _,H,I,⟨_,rfl⟩,q⟩
end
end L2
namespace Cp
open PySem L2 Jb Lns
theorem Kn(x:Str):AD [x]=x:=by rw[NS];rfl
theorem KY(y:Str)(h:ys≠[]):AD (y::ys)=y++" "++AD ys:=by
 cases ys with
 | nil=>exact absurd rfl h
 | cons z zs =>
   unfold AD Txt.join;rw[Bp,Bp];rfl
theorem X2(a b c:Str):a++b++c=a++(b++c):=by
 apply Qg;rw[EU,EU,EU,EU,Ao]
theorem Pf:∀{a b:List Str},a≠[]->b≠[]->AD (a++b)=AD a++" "++AD b
 | [],b,h,_=>absurd rfl h
 | [x],b,_,hb=>by
   show AD (x::b)=_;rw[KY x hb,Kn]
 | x::y::a,b,_,hb=>by
   show AD (x::((y::a)++b))=_;rw[KY x (by exact λz=>nomatch z),Pf (a:=y::a) (λz=>nomatch z) hb,KY x (ys:=y::a) (λz=>nomatch z)];simp only[Str.append_assoc]
theorem QB:∀{xss:List (List Str)},(∀xs∈xss,xs≠[])->AD (xss.map AD)=AD xss.flatten
 | [],_=>rfl
 | [x],h=>by
   show AD [AD x]=AD (x++[]);rw[Kn,Av]
 | x::y::r,h=>by
   have F:=h x Ab;have I:=h y (Ac _ Ab);have ih:=QB (xss:=y::r) λz G=>h z (Ac _ G)
   show AD (AD x::(y::r).map AD)=AD (x++(y::r).flatten);rw[KY _ (by exact λz=>nomatch z),ih,Pf F];intro z;rw[Cr]at z
   exact I (Du.mp z).1
structure TW(x:Str):Prop where
 l1:1<=x.cps.toList.length
 l2:x.cps.toList.length<=12
 as:∀c∈x.cps.toList,c<128/\c≠32
theorem Nl(h:(decide (1<=x.cps.toList.length)&&decide (x.cps.toList.length<=12)&&x.cps.toList.all λc=>decide (c<128)&&decide (c≠32))=true):TW x:=by
 simp only[Aw,Ej,C1]at h;exact⟨h.1.1,h.1.2,h.2⟩
theorem Nm(G:0<=n)(h1:n<=2000):TW (AK n):=by
 have h:=QA G h1;have F:=SX h;refine⟨F.1,by lia,λc I=>?_⟩;unfold IP at h;simp only[Aw]at h;have:=C1.mp h.2 c I;unfold Ni at this;simp only[Aw,Ej]at this
 lia
theorem jq:∀c∈Cs.BR,c<128/\c≠32:=by decide +kernel
theorem jr(h:HZ x):TW x:=⟨h.l1,h.l2,λc F=>jq c (h.sn c F)⟩
theorem X3(g:Nh b):∀x∈CJ b,TW x:=λx F=>by
 cases b with
 | ms n =>
   have I:=g.1;have G:=g.2;rcases Am.mp F with e|F
   .rw[e];exact Nl (by decide +kernel)
   .rw[Aj.mp F];exact Nm (by lia) G
 | gp a b c =>
   obtain⟨I,G,W,J⟩:=g;rcases Am.mp F with e|F
   .rw[e];exact Nl (by decide +kernel)
   rcases Am.mp F with e|F
   .rw[e];exact Nm (by lia) (by lia)
   rcases Am.mp F with e|F
   .rw[e];exact Nm (by lia) (by lia)
   .rw[Aj.mp F];exact Nm (by lia) (by lia)
 | st ws =>
   rcases Az.mp F with F|F
   .rcases Am.mp F with e|F
    .rw[e];exact Nl (by decide +kernel)
    .exact jr (g.2.2 x F)
   .rw[Aj.mp F];exact Nl (by decide +kernel)
theorem QC:∀(d:Nat) (j:CS d),HH d j->∀x∈EI d j,TW x
 | 0,b,g,x,F=>X3 (b:=b) g x F
 | _+1,.inl b,g,x,F=>X3 (b:=b) g x F
 | d+1,.inr (n,js),g,x,F=>by
   have F:x∈[AK (n:Int),("times":Str),("(":Str)]++js.flatMap (EI d)++[(")":Str)]:=F;obtain⟨Z,Y,W,J,G⟩:=g;rcases Az.mp F with F|F
   .rcases Az.mp F with F|F
    .rcases Am.mp F with e|F
     .rw[e];exact Nm (by lia) (by lia)
     rcases Am.mp F with e|F
     .rw[e];exact Nl (by decide +kernel)
     .rw[Aj.mp F];exact Nl (by decide +kernel)
    .obtain⟨j,I,F⟩:=Iw.mp F;exact QC d j (G j I) x F
   .rw[Aj.mp F];exact Nl (by decide +kernel)
theorem O4{d:Nat}{js:List (CS d)}(g:∀j∈js,HH d j):∀x∈DC d js,TW x:=λx F=>by
 obtain⟨j,G,F⟩:=Iw.mp F;exact QC d j (g j G) x F
theorem T4:∀(d:Nat) (j:CS d),EI d j≠[]
 | 0,b=>by cases b<;>exact λz=>nomatch z
 | _+1,.inl b=>by cases b<;>exact λz=>nomatch z
 | _+1,.inr (n,js)=>λz=>nomatch z
theorem QD(h:DC d js=[]):js=[]:=by
 cases js with
 | nil=>rfl
 | cons j js =>
   have h:(j::js).flatMap (EI d)=[]:=h;rw[Dp]at h
   exact absurd (Du.mp h).1 (T4 d j)
def CZ(d:Nat)(js:List (CS d)):Str:=AD (DC d js)
theorem Pa:∀{ws:List Str},(∀x∈ws,TW x)->(AD ws).cps.toList.length<=13*ws.length
 | [],_=>by
   show(AD []).cps.toList.length<=0;decide +kernel
 | [x],h=>by
   rw[Kn];have:=(h x Ab).l2;show _<=13*1
   lia
 | x::y::r,h=>by
   have h1:=(h x Ab).l2;have ih:=Pa (ws:=y::r) λz F=>h z (Ac _ F)
   rw[KY x (ys:=y::r) (λz=>nomatch z),EU,EU,Aa,Aa];have h2:(" ":Str).cps.toList.length=1:=by decide +kernel
   rw[B8]
   lia
theorem jt(hne:ws≠[])(h:∀x∈ws,TW x):Txt.split (AD ws) " "=ws:=by
 rw[NS];exact Sh 32 hne λp F z=>((h p F).as 32 z).2 rfl
theorem line_ne(hne:ws≠[])(h:∀x∈ws,TW x):AD ws≠"":=λz=>by
 have h1:(AD ws).cps.toList=[]:=by rw[z];decide +kernel
 cases ws with
 | nil=>exact hne rfl
 | cons x r =>
   have F:=(h x Ab).l1;cases r with
   | nil=>rw[Kn]at h1;rw[h1]at F;exact absurd F (by decide)
   | cons y r =>
     rw[KY x (ys:=y::r) (λz=>nomatch z),EU,EU]at h1
     have:=(Du.mp (Du.mp h1).1).1;rw[this]at F
     exact absurd F (by decide)
end Cp
namespace Hd
open PySem PySem.W PyProof.Rows L2
noncomputable section
abbrev qr(n:Nat):Value:=.ref n
abbrev qi(n:Nat):Value:=.int (Int.ofNat n) 0
abbrev qs(x:String)(t:Nat):Value:=.str (Str.ofString x) t
abbrev qt(x:String):Value:=.type x
abbrev qb(x:String):Value:=.builtin x
abbrev qe(P:Params)(x:String)(t:Nat)(v:Value):DictEntry:=⟨PyData.keyHash P (Str.ofString x),.str (Str.ofString x) t,v⟩
abbrev qF(x y:String)(st:Stmt)(dV kV doc F:Value)(G:Option Addr)(cd ct:Value):Data:=.func (fnOf (Str.ofString x) (Str.ofString y) (HV st) (HK st) (BJ st) dV kV doc F G cd ct)
abbrev qG(g b:Addr)(x y:String)(st:Stmt)(dV kV doc F:Value)(G:Option Addr)(cd ct:Value):Data:=.func { name:=Str.ofString x,qualname:=Str.ofString y,params:=HV st,body:=.stmts (HK st),scope:=BJ st,globals:=g,closure:=[],defaults:=dV,kwdefaults:=kV,doc,pyModule:=F,annotations:=G,code:=cd,closureTuple:=ct,builtins:=b }
abbrev qT(l:List Value):Obj:=⟨.type "tuple",.none,.seq l.toArray 0,#[]⟩
abbrev qN(l:List Value):Obj:=⟨.none,.none,.fields l.toArray,#[]⟩
abbrev qf(x y:String)(st:Stmt)(F cd:Value):Obj:=⟨.type "function",.none,qF x y st .none .none .none F .none cd .none,#[]⟩
abbrev qg(x y:String)(st:Stmt):Obj:=⟨.none,.none,qG 0 0 x y st .none .none .none .none .none .none .none,#[]⟩
abbrev qC(x y:String)(t l a b d f Y:Nat)(g:Bool)(F:Nat)(I J G W:Value)(k Z:Nat):Obj:=⟨.type "code",.none,.fields #[qs x t,qs y (t+1),qs "/claim/cut.py" (t+2),qi l,qi a,qi b,qi d,qi f,qr Y,.bool g,qi 181,qr F,I,J,G,W,qi k,qi l,qs "/claim/cut.py" Z],#[]⟩
structure HD where
 N:Nat
 n1:Nat
 n2:Nat
 n3:Nat
 n4:Nat
 d1:Drawn
 k1:Nat
 d2:Drawn
 k2:Nat
 d3:Drawn
 k3:Nat
 many:Nat
 few:Nat
 fp:Pos
 p1:Pos
 p2:Pos
 p3:Pos
 cd:Value
 fr:Nat
 ann:Option Value
def X4:List Obj->List Obj×List Obj
 | []=>([],[])
 | a::l=>let r:=X4 l;(a::r.2,r.1)
def LY:Nat->List Obj->BT
 | 0,_=>.nil
 | n+1,l=>match l with
   | []=>.nil
   | a::l=>let r:=X4 l;.node a (LY n r.1) (LY n r.2)
abbrev Ko(p:Program)(D:HD):Env:={ scope:=p.main.scope,locals:=mainNs,globals:=mainNs,cells:=[],code:=D.cd,frame:=some D.fr }
abbrev JX(p:Program)(D:HD):Code:=.body (behindTheImports p) (Ko p D)
abbrev S0(w:World)(os:OsState):Shared:=⟨boot_heap w.params,Array.mk [],boot_drawn,boot_toks,os⟩
abbrev SA(D:HD)(L:Life)(A:Params->List Obj)(w:World)(os:OsState):Shared:=⟨⟨⟨A w.params⟩,L⟩,Array.mk [],D.d1,D.k1,os⟩
abbrev SB(D:HD)(L:Life)(A:Params->List Obj)(w:World)(os:OsState):SharedT:=⟨LY 12 (A w.params),D.few,L,Array.mk [],D.d2,D.k2,os⟩
abbrev SC(D:HD)(L:Life)(O:Params->List Obj)(w:World)(os:OsState):SharedT:=⟨LY 12 (O w.params),D.many,L,Array.mk [],D.d3,D.k3,os⟩
abbrev SF(D:HD)(L:Life)(O:Params->List Obj)(w:World)(os:OsState):Shared:=⟨⟨⟨O w.params⟩,L⟩,Array.mk [],D.d3,D.k3,os⟩
abbrev O5:=PySem.W.Fast.tw14364793385576792824
abbrev T5(p:Program)(D:HD)(L:Life)(A:Params->List Obj):Prop:=∀(w:World) (os:OsState),PySem.W.Fast.tw15667345088766844465 O5 p w 11 D.ann D.n1 (S0 w os) (topStub p) =
 some (SA D L A w os,⟨PySem.W.Fast.tw11892475500146522536 O5 (JX p D),JX p D,D.p1,[topFrame D.fp]⟩)
abbrev T6(p:Program)(D:HD)(L:Life)(A:Params->List Obj):Prop:=∀(w:World) (os:OsState),PySem.W.Fast.tw14374325043358763698 O5 p w 11 D.ann 1 (D.n2+1) (SA D L A w os) (blockOf (behindTheImports p) (Ko p D) (JX p D) D.p1 [topFrame D.fp]) =
 some (.next,(SB D L A w os).abs,JX p D,D.p2)
abbrev Go(p:Program)(D:HD)(L:Life)(A O:Params->List Obj):Prop:=∀(w:World) (os:OsState),PySem.W.Fast.tw10110043849684766642 O5 p w 11 D.ann 1 (D.n3+1) (SB D L A w os) (piecesOf (behindTheImports p) (Ko p D) (JX p D) D.p2 [topFrame D.fp]) =
 some (.next,SC D L O w os,JX p D,D.p3)
abbrev Fin(p:Program)(D:HD)(L:Life)(O:Params->List Obj):Prop:=∀(w:World) (os:OsState),PySem.W.Fast.tw14082659384304107361 O5 p w 11 D.ann (D.n4+1) (SC D L O w os).abs ⟨doneF .next,JX p D,D.p3,[topFrame D.fp]⟩=some (SF D L O w os)
theorem QE:treeTable=O5:=PySem.W.Fast.te14364793385576792824
theorem ju{p:Program}{D:HD}{L:Life}{A O:Params->List Obj}(h1:T5 p D L A)(h2:T6 p D L A)(I:Go p D L A O)(G:Fin p D L O)(w:World)(os:OsState) :
 topRun treeTable p w 11 D.ann (D.n1+((D.n2+1)+((D.n3+1)+(D.n4+1)))) (S0 w os) (topStub p)=some (SF D L O w os):=by
 have Y:topGo treeTable p w 11 D.ann D.n1 (S0 w os) (topStub p)=some (SA D L A w os,⟨denote treeTable (JX p D),JX p D,D.p1,[topFrame D.fp]⟩):=by
  rw[PySem.W.Fast.te15667345088766844465,PySem.W.Fast.te11892475500146522536,QE];exact h1 w os
 have Z:segRun treeTable p w 11 D.ann 1 (D.n2+1) (SA D L A w os) (blockOf (behindTheImports p) (Ko p D) (JX p D) D.p1 [topFrame D.fp])=some (.next,(SB D L A w os).abs,JX p D,D.p2):=by
  rw[PySem.W.Fast.te14374325043358763698,QE];exact h2 w os
 have J:segRunT treeTable p w 11 D.ann 1 (D.n3+1) (SB D L A w os) (piecesOf (behindTheImports p) (Ko p D) (JX p D) D.p2 [topFrame D.fp])=some (.next,SC D L O w os,JX p D,D.p3):=by
  rw[PySem.W.Fast.te10110043849684766642,QE];exact I w os
 have F:topRun treeTable p w 11 D.ann (D.n4+1) (SC D L O w os).abs ⟨doneF .next,JX p D,D.p3,[topFrame D.fp]⟩=some (SF D L O w os):=by
  rw[PySem.W.Fast.te14082659384304107361,QE];exact G w os
 refine go_top Y (piece_block Z ?_);have:=piece_app (rest:=[]) (segRun_of J) (piece_nil (env:=Ko p D) F);rw[Av]at this
 exact this
abbrev HF(L:Life)(O:Params->List Obj)(w:World):Heap:=⟨⟨O w.params⟩,L⟩
abbrev Nn:=PySem.W.Fast.tw5923862056798008813
theorem jv:importedModules=Nn:=PySem.W.Fast.te5923862056798008813
abbrev X5(p:Program)(D:HD)(L:Life)(O:Params->List Obj):Prop:=∀(w:World) (os:OsState),
 (staticsOk (Nn p.main.body) (boot_heap w.params) (HF L O w)&&namesBound p (HF L O w)&&gensDone (SF D L O w os)&&laidKept (boot_heap w.params) (HF L O w))=true
abbrev T7(p q:Program)(D:HD)(L:Life)(O:Params->List Obj)(F:Shared->Bool):Prop:=∀(w:World) (os:OsState),
 PySem.W.Fast.tw4187177175401517315 q [] (Nn p.main.body) F true (SF D L O w os)=openGood q []
abbrev X6(D:HD)(L:Life)(O:Params->List Obj)(K:Params->Frag)(as:List Addr):Prop:=∀(w:World) (os:OsState),
 as.map (SF D L O w os).heap.get?=(K w.params).map λx=>some x.2
theorem jw(w:World)(D:HD)(F:D.ann=some (.ref 6)):((boot_heap w.params).isNs mainGlobals&&(Array.mk []:Array GenState).size==0,(boot_heap w.params).objs.size,(boot_heap w.params).nsMap mainGlobals "__annotations__")=(true,11,D.ann):=by
 rw[F];kernel_rfl
theorem jx{p q:Program}{D:HD}{L:Life}{A O:Params->List Obj}{I:Shared->Bool}{K:Params->Frag}{as:List Addr}{N:Nat}{e:∀P,as=(K P).map (·.1)}
 (h0:opening p=plainProg p.main.scope.names) (h0':∀s,fenceModules? p s=some s) (h6:Nat.ble 600 N=true) (ha:D.ann=some (.ref 6)) (hn:Nat.ble (D.n1+((D.n2+1)+((D.n3+1)+(D.n4+1)))) N=true)
 (h1:T5 p D L A) (h2:T6 p D L A) (h3:Go p D L A O) (h4:Fin p D L O) (l1:X5 p D L O) (l2:T7 p q D L O I) (l3:X6 D L O K as) :
 LeftO p q [] I (Hook.obs (kHook K as e)) (Hook.val (kHook K as e)) N :=
 LeftO.of_pieces (H₀:=boot_heap) (H₁:=λP=>⟨⟨O P⟩,L⟩) (gs₀:=Array.mk []) (gs₁:=Array.mk []) (d₁:=D.d3) (k₁:=D.k3) (m₀:=11) (ann:=D.ann) (boot_open h0 h6 h0') (λw=>jw w D ha) (ju h1 h2 h3 h4) hn λw=>funext λos=>by
  have G:=l1 w os;have F:=l2 w os;rw[<-jv]at G F
  rw[<-PySem.W.Fast.te4187177175401517315]at F
  exact looks_pair G (looks_pair F (l3 w os))
abbrev X7:=PySem.W.Fast.tw9446332074065402090
abbrev jy(s:Stmt):Pos:=match s with
 | .FunctionDef _ _ _ _ _ _ _ _ _ p=>p
 | _=>⟨0,0,0,0⟩
abbrev T8(x:String)(s:Stmt):DefRec:=⟨Str.ofString x,HV s,HK s,BJ s,jy s⟩
abbrev O6(l:OpenLaw)(q:Program):Shared->Bool:=λs=>xlAt q [] s&&recOk (RowW.records l.row.toRowW) s
theorem holds{l:OpenLaw}{q:Program}{K:Params->Frag}{as:List Addr}{e:∀P,as=(K P).map (·.1)}{N:Nat}{x:String}{st:Stmt}(F:X7 l=true)
 (left:LeftO l.row.prog q [] (O6 l q) (Hook.obs (kHook K as e)) (Hook.val (kHook K as e)) N) (hdef:defOf q l.row.name=some (T8 x st,[]))
 (hp:l.row.prog.theDef l.row.name=some (HV st,HK st,BJ st)) (hk:kwWritten? (HV st).kwonlyargs (HV st).kw_defaults=some []) (hwr:(!l.row.writes||l.row.records.isEmpty)=true)
 (ok:(chainsOk q&&opensWell l.row.prog&&(frees l.row.toRowW&&l.row.within.isEmpty))=true) (hb:l.row.prog.bare) (hw:l.row.toRowW.promised)
 (call:WalkO q [] (XL q []) (Hook.says (kHook K as e)) l.row.toRowW (T8 x st) [] λf vs=>PySem.call f vs):l.Holds :=
 have F:l.wellSaid=true:=(congrFun PySem.W.Fast.te9446332074065402090 l).trans F
 holds_law F λrs=>holds_open (d:=T8 x st) (kwd:=[]) left (Hook.of _) (Hook.keeps _) (λs z=>xl_of s (Dk.mp z).1) XL.keeps hdef hp hk (λs z=>recFacts_of (Dk.mp z).2) hwr rs ok hb hw call
end
end Hd
namespace L2
open PySem PySem.Spec PyProof.Rows
section
variable {X:Cx}
def Pg(K:Frag):R2:=λx y H Q=>∃(l:Addr) (xs:List V) (ds:List PyData) (d:PyData),y=.ref l/\AH K H l xs/\EF K H xs ds/\GD K H x d/\d.depth<=60/\Q (.bl (ds.any λc=>PyData.eqv c d)) H
theorem jz(hu:X.A.units+64<cLine):EK X (compareOp .In) (Pg X.K):=by
 intro pins s σ H x y v u Q I J Y h;obtain⟨l,xs,ds,d,rfl,Z,hD,hd,G,q⟩:=h;cases Y;obtain⟨its,r,pl,hz⟩:=I.list Z;obtain⟨as,rs⟩:=PU I ds xs its hD r;obtain⟨bs,J⟩:=NI I d x v hd J;have W:=PV ds xs hD;have F:=MV d x hd;have hm:=PySem.SeqAt.readsAll_map ds _ _ W rs;refine PySem.SeqAt.in_listAt (λy=>PyData.eqv (PySem.SeqAt.readOf s.heap y) d) pl.isList (PySem.SeqAt.items_eqAt (by simpa using rs) J W F ?_) ⟨.bl _,H,I,rfl,?_⟩
 .have h1:min (PyData.depthAll ds) d.depth<=60:=B3 (Im _ _) G
  lia
 .rw[show its.toArray.any (λy=>PyData.eqv (PySem.SeqAt.readOf s.heap y) d)=ds.any λc=>PyData.eqv c d by rw[<-hm,Jg];simp[Function.comp_def]];exact q
end
theorem jA(K:Frag)(hK:X.K=K)(F:X.A.units+64<cLine):EK X (compareOp .In) (Pg K):=by subst hK;exact jz F
section
variable {X:Cx}(K:Frag) (hK:X.K=K)
include hK
end
open PySem.W
def KZ(K:Frag)(x:Str):Addr:=match nsIn K mainGlobals x with
 | some (some (.ref f))=>f
 | _=>0
def KG(K:Frag)(C:Addr)(x:Str):Addr:=match findIn K (.ref C) x with
 | some (some (.ref f))=>f
 | _=>0
def GK(K:Frag)(f:Addr)(x q:Str)(s:Stmt)(dV:Value):FuncData:=match K.lookup f with
 | some ⟨_,_,.func d,_⟩=>fnOf x q (HV s) (HK s) (BJ s) dV d.kwdefaults d.doc d.pyModule d.annotations d.code d.closureTuple
 | _=>fnOf x q (HV s) (HK s) (BJ s) dV .none .none .none none .none .none
def Np(K:Frag)(f:Addr)(d:FuncData):Option Obj:=(K.lookup f).map λo=>⟨o.cls,o.dict,.func d,o.slots⟩
abbrev TR:=Str×Stmt×List Str
def X8(K:Frag)(r:TR):Bool:=(nsIn K mainGlobals r.1==some (some (.ref (KZ K r.1))))&&codeIn K (GK K (KZ K r.1) r.1 r.1 r.2.1 .none).code r.1&&keepIn K (.ref (KZ K r.1))
def X9(K:Frag)(t:List TR):Prop:=(t.map λr=>K.lookup (KZ K r.1))=t.map λr=>Np K (KZ K r.1) (GK K (KZ K r.1) r.1 r.1 r.2.1 .none)
def BA(x q:Str)(s:Stmt)(ps:List Str):Prop:=∀(kV doc G:Value) (I:Option Addr) (F ct:Value) (us:List Value),us.length=ps.length->bindArgs (fnOf x q (HV s) (HK s) (BJ s) .none kV doc G I F ct) ⟨us,[]⟩=pure (ps.zip us)
def QF:List TR->Prop
 | []=>True
 | r::t=>BA r.1 r.1 r.2.1 r.2.2/\QF t
theorem Xa:∀{t:List TR}{i:Nat}{x:Str}{s:Stmt}{ps:List Str},QF t->t[i]?=some (x,s,ps)->BA x x s ps
 | _::_,0,_,_,_,h,e=>by cases e;exact h.1
 | _::_,i+1,_,_,_,h,e=>Xa (i:=i) h.2 e
theorem Ph{K:Frag}{f:Addr}{x q:Str}{s:Stmt}{dV:Value}:∃kV doc G I F ct,GK K f x q s dV=fnOf x q (HV s) (HK s) (BJ s) dV kV doc G I F ct:=by
 unfold GK;split<;>exact⟨_,_,_,_,_,_,rfl⟩
theorem Xb{K:Frag}{f:Addr}(h:keepIn K (.ref f)=true):∃o,K.lookup f=some o:=by
 unfold keepIn at h;dsimp only at h;split at h
 .exact⟨_,by assumption⟩
 .exact⟨_,by assumption⟩
 .cases h
theorem Nq{K:Frag}{f:Addr}{x q:Str}{s:Stmt}(e:K.lookup f=Np K f (GK K f x q s .none))(c:codeIn K (GK K f x q s .none).code q=true)(k:keepIn K (.ref f)=true):Mh K x q s f (GK K f x q s .none):=by
 obtain⟨o,G⟩:=Xb k;obtain⟨kV,doc,I,J,F,ct,hd⟩:=Ph (K:=K) (f:=f) (x:=x) (q:=q) (s:=s) (dV:=.none);unfold Np at e;rw[G]at e
 rw[hd]at e c⊢
 exact⟨⟨_,_,kV,doc,I,J,F,ct,_,rfl,G.trans e,c⟩,k⟩
theorem T9{F G:Type}{f g:F->G}:∀{l:List F}{i:Nat}{x:F},l.map f=l.map g->l[i]?=some x->f x=g x
 | _::_,0,_,h,e=>by cases e;exact(C6 h).1
 | _::_,i+1,_,h,e=>T9 (i:=i) (C6 h).2 e
theorem QG{F:Type}{f:F->Bool}{l:List F}{i:Nat}{x:F}(h:l.all f=true)(e:l[i]?=some x):f x=true:=C1.mp h x (Ag e)
section
variable {K:Frag}{h:Heap}{mg:Str->Option Value}
def QH(K:Frag)(t:List TR)(i:Nat):Addr:=match t[i]? with
 | some r=>KZ K r.1
 | none=>0
def QI(K:Frag)(t:List TR)(i:Nat):FuncData:=match t[i]? with
 | some r=>GK K (KZ K r.1) r.1 r.1 r.2.1 .none
 | none=>GK K 0 "" "" (.Pass ⟨0,0,0,0⟩) .none
theorem jB{t:List TR}(X:K.In h)(G:h.Ns mainGlobals mg)(c:t.all (X8 K)=true)(e:X9 K t)(b:QF t)(i:Nat)(x:Str)(s:Stmt)(ps:List Str)(hi:t[i]?=some (x,s,ps)) :
 D K mg x s ps (QH K t i) (QI K t i):=by
 have hA:QH K t i=KZ K x:=by unfold QH;rw[hi]
 have hD:QI K t i=GK K (KZ K x) x x s .none:=by unfold QI;rw[hi]
 rw[hA,hD];have c:=QG c hi;unfold X8 at c;rw[Aw,Aw]at c
 obtain⟨⟨Y,Z⟩,I⟩:=c;have b:=Xa b hi;have e:=T9 e hi;obtain⟨kV,doc,W,J,F,ct,hd⟩:=Ph (K:=K) (f:=KZ K x) (x:=x) (q:=x) (s:=s) (dV:=.none);refine⟨Nq e Z I,?_,mg_of X G (C2.mp Y)⟩;rw[hd];exact b kV doc W J F ct
abbrev MR:=Str×Str×Stmt×List Str
def Xc(K:Frag)(C:Addr)(r:MR):Bool:=(findIn K (.ref C) r.1==some (some (.ref (KG K C r.1))))&&codeIn K (GK K (KG K C r.1) r.1 r.2.1 r.2.2.1 .none).code r.2.1&&keepIn K (.ref (KG K C r.1))&&isFn K (.ref (KG K C r.1))
def Xd(K:Frag)(C:Addr)(t:List MR):Prop:=(t.map λr=>K.lookup (KG K C r.1))=t.map λr=>Np K (KG K C r.1) (GK K (KG K C r.1) r.1 r.2.1 r.2.2.1 .none)
def QJ:List MR->Prop
 | []=>True
 | r::t=>BA r.1 r.2.1 r.2.2.1 r.2.2.2/\QJ t
theorem Xe:∀{t:List MR}{i:Nat}{x q:Str}{s:Stmt}{ps:List Str},QJ t->t[i]?=some (x,q,s,ps)->BA x q s ps
 | _::_,0,_,_,_,_,h,e=>by cases e;exact h.1
 | _::_,i+1,_,_,_,_,h,e=>Xe (i:=i) h.2 e
def QK(K:Frag)(C:Addr)(t:List MR)(i:Nat):Addr:=match t[i]? with
 | some r=>KG K C r.1
 | none=>0
def QL(K:Frag)(C:Addr)(t:List MR)(i:Nat):FuncData:=match t[i]? with
 | some r=>GK K (KG K C r.1) r.1 r.2.1 r.2.2.1 .none
 | none=>GK K 0 "" "" (.Pass ⟨0,0,0,0⟩) .none
theorem jC{C:Addr}{t:List MR}(c:t.all (Xc K C)=true)(e:Xd K C t)(b:QJ t)(i:Nat)(x q:Str)(s:Stmt)(ps:List Str)(hi:t[i]?=some (x,q,s,ps)) :
 DM K x q s ps C (QK K C t i) (QL K C t i):=by
 have hA:QK K C t i=KG K C x:=by unfold QK;rw[hi]
 have hD:QL K C t i=GK K (KG K C x) x q s .none:=by unfold QL;rw[hi]
 rw[hA,hD];have c:=QG c hi;unfold Xc at c;rw[Aw,Aw,Aw]at c
 obtain⟨⟨⟨Y,Z⟩,G⟩,I⟩:=c;have b:=Xe b hi;have e:=T9 e hi;obtain⟨kV,doc,W,J,F,ct,hd⟩:=Ph (K:=K) (f:=KG K C x) (x:=x) (q:=q) (s:=s) (dV:=.none);refine⟨Nq e Z G,?_,C2.mp Y,I,G⟩;rw[hd];exact b kV doc W J F ct
def Xf(K:Frag)(C:Addr)(x:Str):Bool:=findIn K (.ref C) x==some none
theorem jD{C:Addr}{t:List Str}(c:t.all (Xf K C)=true)(i:Nat)(x:Str)(hi:t[i]?=some x):Mf K C x:=by
 have e:=QG c hi;unfold Xf at e;exact C2.mp e
def Xg(K:Frag)(x:Str):Bool:=nsIn K mainGlobals x==some none
theorem jE{t:List Str}(X:K.In h)(G:h.Ns mainGlobals mg)(c:t.all (Xg K)=true)(i:Nat)(x:Str)(hi:t[i]?=some x):mg x=none:=by
 have e:=QG c hi;unfold Xg at e;exact mg_none_of X G (C2.mp e)
def Xh(K:Frag)(C f:Addr)(x q fld:Str)(s:Stmt):Bool:=(nsIn K mainGlobals x==some (some (.ref C)))&&HX K C (some f)&&LO K C&&N4 K C f fld&&codeIn K (GK K f "__init__" q s .none).code q&&keepIn K (.ref f)
theorem Ta{C f:Addr}{x q fld:Str}{s:Stmt}{ps:List Str}(X:K.In h)(G:h.Ns mainGlobals mg)(c:Xh K C f x q fld s=true)(e:K.lookup f=Np K f (GK K f "__init__" q s .none))(b:BA "__init__" q s ps) :
 CI K mg x q s ps C f (GK K f "__init__" q s .none) fld:=by
 unfold Xh at c;rw[Aw,Aw,Aw,Aw,Aw]at c
 obtain⟨⟨⟨⟨⟨c1,c2⟩,I⟩,J⟩,c5⟩,Y⟩:=c;obtain⟨kV,doc,pm,Z,F,ct,hd⟩:=Ph (K:=K) (f:=f) (x:="__init__") (q:=q) (s:=s) (dV:=.none);have W:=gP J;refine⟨mg_of X G (C2.mp c1),c2,VR I,W.1,W.2,Nq e c5 Y,?_⟩;rw[hd];exact b kV doc pm Z F ct
def Xi(K:Frag)(C:Addr)(x:Str):Bool:=(nsIn K mainGlobals x==some (some (.ref C)))&&HX K C none&&LO K C
theorem jF(X:K.In h)(G:h.Ns mainGlobals mg)(c:Xi K C x=true):CN K mg x C:=by
 unfold Xi at c;rw[Aw,Aw]at c
 exact⟨mg_of X G (C2.mp c.1.1),c.1.2,VR c.2⟩
def Xj(K:Frag)(C:Addr)(x:Str):Bool:=(nsIn K mainGlobals x==some (some (.ref C)))&&isClsIn K C&&typeIn K (.ref C)==some (.type "type")
theorem jG(X:K.In h)(G:h.Ns mainGlobals mg)(c:Xj K C x=true):CL K mg x C:=by
 unfold Xj at c;rw[Aw,Aw]at c
 exact⟨mg_of X G (C2.mp c.1.1),c.1.2,C2.mp c.2⟩
theorem ba1(h:∀kV doc G I F ct a,bindArgs (fnOf x q (HV s) (HK s) (BJ s) .none kV doc G I F ct) ⟨[a],[]⟩=pure [(p1,a)]):BA x q s [p1]:=λ_ _ _ _ _ _=>ie (h _ _ _ _ _ _)
theorem ba2(h:∀kV doc G I F ct a b,bindArgs (fnOf x q (HV s) (HK s) (BJ s) .none kV doc G I F ct) ⟨[a,b],[]⟩=pure [(p1,a),(p2,b)]):BA x q s [p1,p2]:=λ_ _ _ _ _ _=>ig (h _ _ _ _ _ _)
theorem ba3(h:∀kV doc G I F ct a b c,bindArgs (fnOf x q (HV s) (HK s) (BJ s) .none kV doc G I F ct) ⟨[a,b,c],[]⟩=pure [(p1,a),(p2,b),(p3,c)]):BA x q s [p1,p2,p3]:=λ_ _ _ _ _ _=>ij (h _ _ _ _ _ _)
theorem ba4(h:∀kV doc G I F ct a b c d,bindArgs (fnOf x q (HV s) (HK s) (BJ s) .none kV doc G I F ct) ⟨[a,b,c,d],[]⟩=pure [(p1,a),(p2,b),(p3,c),(p4,d)]):BA x q s [p1,p2,p3,p4]:=λ_ _ _ _ _ _=>Wh (h _ _ _ _ _ _)
theorem ba5(h:∀kV doc G I F ct a b c d e,bindArgs (fnOf x q (HV s) (HK s) (BJ s) .none kV doc G I F ct) ⟨[a,b,c,d,e],[]⟩=pure [(p1,a),(p2,b),(p3,c),(p4,d),(p5,e)]):BA x q s [p1,p2,p3,p4,p5]:=λ_ _ _ _ _ _=>Wi (h _ _ _ _ _ _)
end
def Xk(K:Frag)(C f T:Addr)(x q:Str)(s:Stmt):Bool:=(nsIn K mainGlobals x==some (some (.ref C)))&&plainGet K C Str.empty&&hasDictIn K C&&plainOver K C&&(findIn K (.ref C) "__setattr__"==some (some (.builtin "object.__setattr__"))) &&
 makesIn K C&&(findIn K (.ref C) "__init__"==some (some (.ref f)))&&isFn K (.ref f)&&keepIn K (.ref C)&&codeIn K (GK K f "__init__" q s (.ref T)).code q&&keepIn K (.ref f)
theorem jH{K:Frag}{h:Heap}{mg:Str->Option Value}{C f T:Addr}{x q:Str}{s:Stmt}{ps:List Str}(X:K.In h)(G:h.Ns mainGlobals mg)(c:Xk K C f T x q s=true)(e:K.lookup f=Np K f (GK K f "__init__" q s (.ref T)))
 (b0:∀kV doc J I F ct,JS K (fnOf "__init__" q (HV s) (HK s) (BJ s) (.ref T) kV doc J I F ct) ps []) (b1:∀kV doc J I F ct,JS K (fnOf "__init__" q (HV s) (HK s) (BJ s) (.ref T) kV doc J I F ct) ps [.none]):DI K mg x q s ps C f (GK K f "__init__" q s (.ref T)):=by
 unfold Xk at c;simp only[Aw]at c;obtain⟨⟨⟨⟨⟨⟨⟨⟨⟨⟨c1,c2⟩,Y⟩,Z⟩,c5⟩,c6⟩,c7⟩,c8⟩,c9⟩,d1⟩,d2⟩:=c;obtain⟨o,W⟩:=Xb d2;obtain⟨kV,doc,J,I,F,ct,hd⟩:=Ph (K:=K) (f:=f) (x:="__init__") (q:=q) (s:=s) (dV:=.ref T);refine⟨mg_of X G (C2.mp c1),⟨c2,Y,Z,C2.mp c5⟩,⟨c6,C2.mp c7,c8,c9⟩,?_,by rw[hd];exact b0 kV doc J I F ct,by rw[hd];exact b1 kV doc J I F ct⟩;unfold Np at e;rw[W]at e
 rw[hd]at e d1⊢
 exact⟨⟨_,_,_,kV,doc,J,I,F,ct,_,rfl,W.trans e,d1⟩,d2⟩
end L2
namespace Hd
open PySem PySem.W PyProof.Rows
noncomputable section
abbrev qP:Obj:=⟨qt "builtin_function_or_method",.none,.fields #[qb "type.__prepare__",qt "type"],#[]⟩
abbrev qU(n:Nat):Obj:=⟨qt "super",.none,.fields #[qr n,qr n,qr n],#[]⟩
abbrev qI(n:Nat):Obj:=⟨qt "builtin_function_or_method",.none,.fields #[qb "object.__init_subclass__",qr n],#[]⟩
abbrev qW(a b:Nat)(m:Value):Obj:=⟨qt "frame",.none,.plain,#[.some (qr a),.some (qr 3),.some (qr b),.none,.some m,.none,.some (qr 0)]⟩
abbrev qD(n:Nat)(l:List DictEntry):Obj:=⟨qt "dict",.none,.dict l.toArray n,#[]⟩
abbrev qv(P:Params)(x:String)(t r:Nat):DictEntry:=qe P x t (qr r)
abbrev qX(x:String)(r c n b t u:Nat):Obj:=⟨qt "type",.none,.cls ⟨.ofString x,[qr r],[qr c,qr r,qt "ValueError",qt "Exception",qt "BaseException",qt "object"],n,.ofString x,true,[],[],false,.none,false⟩,#[.some (qr b),.none,.some (qs x t),.some (qs x u),.some (qb "ValueError.__new__"),.some (.bool true)]⟩
abbrev qM(x:String)(t l n k:Nat):Obj:=qC x x t l 0 0 0 0 n false (n+1) .none .none .none .none k (k+1)
def z3:List Nat->List Value
 | a::b::c::r=>qi a::qi b::qr c::z3 r
 | _=>[]
def Xl:List String->Nat->List Value
 | [],_=>[]
 | x::r,t=>qs x t::Xl r (t+1)
abbrev hA(n:Nat)(x y:String)(s:Stmt)(t l a:Nat)(ls:List Nat)(F:Value)(ns:List String)(r:List Obj):List Obj:=qT []::qN (z3 ls)::qT (Xl ns (t+3))::qT []::qg x y s::qC x y t l a 0 0 3 n true (n+1) .none (qr (n+2)) (qr (n+3)) (qr (n+4)) (t+3+ns.length) (t+4+ns.length)::qf x y s F (qr (n+5))::r
abbrev hB(n:Nat)(x y:String)(s:Stmt)(t l a:Nat)(ls:List Nat)(F:Value)(r:List Obj):List Obj:=qT []::qN (z3 ls)::qg x y s::qC x y t l a 0 0 3 n true (n+1) .none .none .none (qr (n+2)) (t+3) (t+4)::qf x y s F (qr (n+3))::r
end
def fs{F G:Type}:F×G->F
 | (a,_)=>a
def md{Y F I G J W:Type}(x:Y×F×I×G×J×W):F×I×G×J:=(x.2.1,x.2.2.1,x.2.2.2.1,x.2.2.2.2.1)
def me{Y F I G J W:Type}:Y×F×I×G×J×W->F×I×G×J
 | (_,b,c,d,e,_)=>(b,c,d,e)
def sn{Y G J I W F:Type}:Y×G×J×I×W×F->F
 | (_,_,_,_,_,z)=>z
abbrev Xm(p q:Program)(D:HD)(L:Life)(O:Params->List Obj)(F:Shared->Bool):Prop:=∀(w:World) (os:OsState),(PySem.W.Fast.tw4187177175401517315 q [] (Nn p.main.body) F true (SF D L O w os)).1=fs (openGood q [])
abbrev Xn(p q:Program)(D:HD)(L:Life)(O:Params->List Obj)(F:Shared->Bool):Prop:=∀(w:World) (os:OsState),md (PySem.W.Fast.tw4187177175401517315 q [] (Nn p.main.body) F true (SF D L O w os))=me (openGood q [])
abbrev Xo(p q:Program)(D:HD)(L:Life)(O:Params->List Obj)(F:Shared->Bool):Prop:=∀(w:World) (os:OsState),(PySem.W.Fast.tw4187177175401517315 q [] (Nn p.main.body) F true (SF D L O w os)).2.2.2.2.2=sn (openGood q [])
theorem jI{p q:Program}{D:HD}{L:Life}{O:Params->List Obj}{G:Shared->Bool}(a:Xm p q D L O G)(b:Xn p q D L O G)(c:Xo p q D L O G):T7 p q D L O G:=λw os=>by
 have h1:=a w os;have h2:=b w os;have F:=c w os;generalize PySem.W.Fast.tw4187177175401517315 q [] (Nn p.main.body) G true (SF D L O w os)=X at h1 h2 F;generalize openGood q []=Y at h1 h2 F;obtain⟨J,x2,x3,x4,x5,Z⟩:=X;obtain⟨y1,I,y3,y4,y5,y6⟩:=Y;have h1:J=y1:=h1;have h2:(x2,x3,x4,x5)=(I,y3,y4,y5):=h2;have F:Z=y6:=F;cases h1;cases h2;cases F;rfl
end Hd
namespace L2
open PySem
theorem Xp{t u:TS}{D:DV}{σ:St}{H:Hp}(h:let D':DV:={ D with nx:=u D };t D' σ H):My t u D σ H:=h
theorem hideAll{t u:TS}{D:DV}{σ:St}{H:Hp}(h:let D':DV:={ D with nx:=u D };let σ':St:=σ;t D' σ' H):My t u D σ H:=h
theorem JO(h:Q (σ.set i (some v)) H):PD i v σ H Q:=h
end L2
namespace Lw
open PySem L2
open Br (GI IL JM NR Ng OU Pc Qd Vn Vp)
open Cp (AK CJ DC EH EI FG FZ HQ IP IR JV JW KY Kn LX Lp Ni Nj Nk Nm O0 O3 O4 Pd Pf QB QC QD Qz SY T4 TW X2)
open Cs (AO BR CC CK FP FU HC II JJ KM Lf Mj OO UV UW)
open Jb (BE BS CS EC HH HP HY KE Lm Nh SW)
open Ln (FA FX Li Qa Qb Qc Vf)
open Lns (AD BG EU GO HE KP Mn OW OX Qe Qh Qi Qj Sf Si VF VG Vx)
open Mc (AZ Cf ER EV FD GY HN IZ KD KW Kk Kl LP LR LS LU Mp Mq Ms NW NY Na Nb Nf P9 Qt SE SH SJ WB WE Ww Wx Wy)
open Mt (DK IE MX)
set_option maxHeartbeats 4000000
section
local macro_rules | `(tactic| walk_at "5") => `(tactic| first | (with_reducible refine Xp ?_; intro Dzz) | with_reducible refine JO ?_ | refine ⟨_, rfl, ?_⟩ | refine ⟨_, _, rfl, rfl, ?_⟩ | refine ⟨_, _, _, _, rfl, rfl, AH.of (by walk_at "0"), (by assumption), ?_⟩ | refine And.intro rfl ?_ | refine And.intro (Ct rfl) ?_ | refine And.intro (by first | decide | lia | omega) ?_ | refine And.intro ⟨by first | decide | lia | omega, by first | decide | lia | omega⟩ ?_ | refine And.intro (.inl ⟨by first | decide | lia | omega, by first | decide | lia | omega⟩) ?_ | refine And.intro (.inr ⟨by first | decide | lia | omega, by first | decide | lia | omega⟩) ?_ | refine ⟨_, _, rfl, BP.of (by first | exact AA | assumption), rfl, ?_⟩)
local macro_rules | `(tactic| walk_at "4") => `(tactic| repeat (walk_at "5"))
def top(i:Nat):Stmt:=PySem.Challenge.pw_linecaster_k70_whole_copy_to_slugs.main.body.getD i (.Pass ⟨0,0,0,0⟩)
local macro_rules | `(tactic| walk_at "sc") => `(tactic| exact ⟨rfl, rfl, rfl, by decide +kernel, rfl, by decide +kernel, by decide +kernel⟩)
theorem jJ:AE ["teeth","others"] ["teeth","others"] (BJ (top 11)):=by walk_at "sc"
theorem Tb:AE ["codes","teeth","channel","code"] ["codes","teeth"] (BJ (top 12)):=by walk_at "sc"
theorem jK:AE ["text"] ["text"] (BJ (top 15)):=by walk_at "sc"
theorem Tc:AE ["case","sign","number","channel"] ["case","sign"] (BJ (top 16)):=by walk_at "sc"
theorem jL:AE ["case","word"] ["case","word"] (BJ (top 17)):=by walk_at "sc"
theorem jM:AE ["case"] ["case"] (BJ (top 18)):=by walk_at "sc"
theorem jN:AE ["lines"] ["lines"] (BJ (top 22)):=by walk_at "sc"
theorem jO:AE ["key"] ["key"] (BJ (top 23)):=by walk_at "sc"
theorem jP:AE ["case","keys","at"] ["case","keys","at"] (BJ (top 24)):=by walk_at "sc"
theorem Xq:AE ["case","keys","at"] ["case","keys"] (BJ (top 25)):=by walk_at "sc"
theorem jQ:AE ["case","keys"] ["case","keys"] (BJ (top 26)):=by walk_at "sc"
theorem L0:AE ["case","broken","channels","ahead","at","part","channel","lost","sign","width","own","many"] ["case","broken"] (BJ (top 29)):=by walk_at "sc"
theorem jR:AE ["case","line"] ["case","line"] (BJ (top 34)):=by walk_at "sc"
theorem QM:AE ["spare","many","gaps","low","ideal","high"] ["spare","many","gaps"] (BJ (top 35)):=by walk_at "sc"
theorem Xr:AE ["one","other"] ["one","other"] (BJ (top 36)):=by walk_at "sc"
theorem Xs:AE ["top","bottom","divisor"] ["top","bottom"] (BJ (top 37)):=by walk_at "sc"
theorem QN:AE ["case","line","measure","gaps","many","spare","off"] ["case","line","measure","gaps"] (BJ (top 38)):=by walk_at "sc"
theorem QO:AE ["case","line","measure","gaps","low","ideal","high"] ["case","line","measure","gaps"] (BJ (top 39)):=by walk_at "sc"
theorem Pj:AE ["spare","many","gaps","last","low","ideal","high","off"] ["spare","many","gaps","last"] (BJ (top 41)):=by walk_at "sc"
theorem Mv:AE ["case","words","measure","gaps","widths","costs","start","spare","end","cost"] ["case","words","measure","gaps"] (BJ (top 42)):=by walk_at "sc"
theorem jS:AE ["costs","table","start","end"] ["costs","table","start","end"] (BJ (top 43)):=by walk_at "sc"
theorem Xt:AE ["costs","table","start","ends"] ["costs","table","start"] (BJ (top 44)):=by walk_at "sc"
theorem Td:AE ["costs","many","table","start"] ["costs","many"] (BJ (top 45)):=by walk_at "sc"
theorem Te:AE ["costs","many","reached","end"] ["costs","many"] (BJ (top 46)):=by walk_at "sc"
theorem O7:AE ["case","words","measure","gaps","costs","table","breaks","at"] ["case","words","measure","gaps"] (BJ (top 47)):=by walk_at "sc"
theorem jT:AE ["words","breaks"] ["words","breaks"] (BJ (top 48)):=by walk_at "sc"
theorem jU:AE ["word"] ["word"] (BJ (top 52)):=by walk_at "sc"
theorem jV:AE ["word"] ["word"] (BJ (top 53)):=by walk_at "sc"
theorem jW:AE ["words","at"] ["words","at"] (BJ (top 54)):=by walk_at "sc"
theorem Xu:AE ["words","at","low","high","word"] ["words","at","low","high"] (BJ (top 55)):=by walk_at "sc"
theorem jX:AE ["words","at","word"] ["words","at","word"] (BJ (top 56)):=by walk_at "sc"
theorem jY:AE ["words","at"] ["words","at"] (BJ (top 57)):=by walk_at "sc"
theorem QP:AE ["words","at","low","ideal","high"] ["words","at"] (BJ (top 58)):=by walk_at "sc"
theorem Tf:AE ["words","at","end"] ["words","at"] (BJ (top 59)):=by walk_at "sc"
theorem QQ:AE ["words","at","brackets","many","jobs","end"] ["words","at","brackets"] (BJ (top 60)):=by walk_at "sc"
theorem jZ:AE ["words","at","brackets"] ["words","at","brackets"] (BJ (top 61)):=by walk_at "sc"
theorem QR:AE ["words","at","brackets","jobs","job"] ["words","at","brackets"] (BJ (top 62)):=by walk_at "sc"
theorem QS:AE ["text","words","jobs","end"] ["text"] (BJ (top 63)):=by walk_at "sc"
theorem k4:AE ["job"] ["job"] (BJ (top 64)):=by walk_at "sc"
theorem k9:AE ["jobs"] ["jobs"] (BJ (top 65)):=by walk_at "sc"
theorem ka:AE ["paragraphs","paragraph"] ["paragraphs","paragraph"] (BJ (top 71)):=by walk_at "sc"
theorem Pl:AE ["many","jobs","measure","gaps","paragraphs","again","ahead"] ["many","jobs","measure","gaps","paragraphs"] (BJ (top 72)):=by walk_at "sc"
theorem O8:AE ["jobs","measure","gaps","paragraphs","job"] ["jobs","measure","gaps","paragraphs"] (BJ (top 73)):=by walk_at "sc"
theorem Xv:AE ["jobs","paragraphs"] ["jobs"] (BJ (top 74)):=by walk_at "sc"
theorem Tg:AE ["one","other","place"] ["one","other"] (BJ (top 76)):=by walk_at "sc"
theorem O9:AE ["case","keys","slugs","texts","number","pair","text","slug"] ["case","keys","slugs"] (BJ (top 77)):=by walk_at "sc"
theorem kc:AE ["_law_script","_law_k"] ["_law_script","_law_k"] (BJ (top 79)):=by walk_at "sc"
theorem Pm:AE ["_law_cell_here","_law_many","_law_number","_law_found","_law_k"] ["_law_cell_here","_law_many"] (BJ (top 80)):=by walk_at "sc"
theorem Th:AE ["_law_code","_law_other"] ["_law_code","_law_other"] (BJ (top 81)):=by walk_at "sc"
theorem Xw:AE ["_law_left","_law_code"] ["_law_left"] (BJ (top 82)):=by walk_at "sc"
theorem Nr:AE ["_law_cell_here","_law_many","_law_left","_law_number","_law_code","_law_codes_here","_law_k"] ["_law_cell_here","_law_many"] (BJ (top 83)):=by walk_at "sc"
theorem LZ:AE ["_law_script","_law_most","_law_signs","_law_first_here","_law_many","_law_codes_here","_law_some","_law_case_here","_law_k","_law_sign"] ["_law_script","_law_most"] (BJ (top 84)):=by walk_at "sc"
theorem Xx:AE ["_law_case_here","_law_cell_here","_law_most","_law_some"] ["_law_case_here","_law_cell_here","_law_most"] (BJ (top 85)):=by walk_at "sc"
theorem Lq:AE ["_law_script","_law_case_here","_law_found","_law_at","_law_k","_law_some","_law_many","_law_words","_law_gaps"] ["_law_script","_law_case_here"] (BJ (top 86)):=by walk_at "sc"
theorem M8:AE ["_law_paragraphs_here","_law_twice","_law_jobs","_law_k","_law_measure","_law_gaps","_law_words","_law_row"] ["_law_paragraphs_here","_law_twice"] (BJ (top 87)):=by walk_at "sc"
theorem Oa:AE ["_law_case_here","_law_line","_law_widths","_law_sign","_law_width","_law_teeth","_law_many"] ["_law_case_here","_law_line"] (BJ (top 88)):=by walk_at "sc"
theorem Xy:AE ["_law_one","_law_other"] ["_law_one","_law_other"] (BJ (top 89)):=by walk_at "sc"
theorem M9:AE ["_law_case_here","_law_line","_law_measure","_law_gaps","_law_last","_law_low","_law_ideal","_law_high","_law_body","_law_many","_law_found","_law_top","_law_bottom"] ["_law_case_here","_law_line","_law_measure","_law_gaps","_law_last"] (BJ (top 90)):=by walk_at "sc"
theorem Lr:AE ["_law_case_here","_law_paragraph","_law_measure","_law_gaps","_law_words","_law_breaks","_law_lines","_law_flat","_law_line","_law_k"] ["_law_case_here","_law_paragraph"] (BJ (top 91)):=by walk_at "sc"
theorem QT:AE ["_law_case_here","_law_keys","_law_slugs","_law_cell_here","_law_at","_law_place","_law_odd"] ["_law_case_here","_law_keys","_law_slugs","_law_cell_here"] (BJ (top 92)):=by walk_at "sc"
theorem Ti:AE ["_law_lines","_law_line","_law_text"] ["_law_lines"] (BJ (top 93)):=by walk_at "sc"
theorem JA:AE ["_law_script","_law_case_here","_law_paragraphs_here","_law_twice","_law_text","_law_due","_law_k","_law_jobs","_law_lines","_law_paragraph","_law_found","_law_keys","_law_machine","_law_texts"] ["_law_script"] (BJ (top 94)):=by walk_at "sc"
theorem kd:AE ["self","by"] ["self","by"] (BJ (DT (top 5) 0)):=by walk_at "sc"
theorem ke:AE ["self","by"] ["self","by"] (BJ (DT (top 6) 0)):=by walk_at "sc"
theorem kf:AE ["self","words"] ["self","words"] (BJ (DT (top 7) 0)):=by walk_at "sc"
abbrev FK:List Str:=["lying","case","played","struck","casting","line","heated","to_go","hanging","texts","done","waits"]
theorem QU:FK.idxOf? ("lying":Str)=some 0:=by decide +kernel
theorem QV:FK.idxOf? ("case":Str)=some 1:=by decide +kernel
theorem Tj:FK.idxOf? ("played":Str)=some 2:=by decide +kernel
theorem Nt:FK.idxOf? ("struck":Str)=some 3:=by decide +kernel
theorem Xz:FK.idxOf? ("casting":Str)=some 4:=by decide +kernel
theorem Po:FK.idxOf? ("line":Str)=some 5:=by decide +kernel
theorem Ma:FK.idxOf? ("heated":Str)=some 6:=by decide +kernel
theorem Pp:FK.idxOf? ("to_go":Str)=some 7:=by decide +kernel
theorem Ob:FK.idxOf? ("hanging":Str)=some 8:=by decide +kernel
theorem Tn:FK.idxOf? ("texts":Str)=some 9:=by decide +kernel
theorem Pq:FK.idxOf? ("done":Str)=some 10:=by decide +kernel
theorem To:FK.idxOf? ("waits":Str)=some 11:=by decide +kernel
theorem kg:AE ["self","case","keys","casting","broken"] ["self","case","keys","casting","broken"] (BJ (DT (top 32) 0)):=by walk_at "sc"
theorem kh:AE ["self"] ["self"] (BJ (DT (top 32) 1)):=by walk_at "sc"
theorem Tp:FK.idxOf? ("next_key":Str)=none:=by decide +kernel
theorem XA:AE ["self","channel"] ["self"] (BJ (DT (top 32) 2)):=by walk_at "sc"
theorem XB:FK.idxOf? ("lacks_matrix":Str)=none:=by decide +kernel
theorem ki:AE ["self"] ["self"] (BJ (DT (top 32) 3)):=by walk_at "sc"
theorem kl:FK.idxOf? ("stuck":Str)=none:=by decide +kernel
theorem km:AE ["self"] ["self"] (BJ (DT (top 32) 4)):=by walk_at "sc"
theorem XC:FK.idxOf? ("resting":Str)=none:=by decide +kernel
theorem XD:AE ["self","matrix"] ["self"] (BJ (DT (top 32) 5)):=by walk_at "sc"
theorem ko:FK.idxOf? ("move_bar":Str)=none:=by decide +kernel
theorem kq:AE ["self"] ["self"] (BJ (DT (top 32) 6)):=by walk_at "sc"
theorem kr:FK.idxOf? ("move_caster":Str)=none:=by decide +kernel
theorem XH:AE ["self","key"] ["self"] (BJ (DT (top 32) 7)):=by walk_at "sc"
theorem ku:FK.idxOf? ("move_line":Str)=none:=by decide +kernel
theorem kv:AE ["self"] ["self"] (BJ (DT (top 32) 8)):=by walk_at "sc"
theorem kx:FK.idxOf? ("send_line":Str)=none:=by decide +kernel
theorem kz:AE ["self","part"] ["self","part"] (BJ (DT (top 32) 9)):=by walk_at "sc"
theorem XI:FK.idxOf? ("take":Str)=none:=by decide +kernel
theorem kA:AE ["self"] ["self"] (BJ (DT (top 32) 10)):=by walk_at "sc"
theorem kB:FK.idxOf? ("tick":Str)=none:=by decide +kernel
theorem XJ:AE ["self","ahead"] ["self"] (BJ (DT (top 32) 11)):=by walk_at "sc"
theorem kC:FK.idxOf? ("run":Str)=none:=by decide +kernel
theorem kD:AE ["self"] ["self"] (BJ (DT (top 32) 13)):=by walk_at "sc"
theorem kE:FK.idxOf? ("slugs":Str)=none:=by decide +kernel
abbrev tb:List TR:=("_wall",top 0,["k"])::("has_all",top 11,["teeth","others"])::("falls_at",top 12,["codes","teeth"])::("is_sign",top 15,["text"])::("channel_of",top 16,["case","sign"])::("width_of",top 17,["case","word"])::("codes_of",top 18,["case"])::("keys_of",top 22,["lines"])::("is_sign_key",top 23,["key"])::("goes_on",top 24,["case","keys","at"])::("look_at_keys",top 25,["case","keys"])::("lines_of",top 26,["case","keys"])::("can_break",top 28,["case","ahead","channel","teeth"])::("channels_of",top 29,["case","broken"])::("body_of",top 34,["case","line"])::("misfit",top 35,["spare","many","gaps"])::("greatest_divisor",top 36,["one","other"])::("lowest_terms",top 37,["top","bottom"])::("full_gap",top 38,["case","line","measure","gaps"])::("last_gap",top 39,["case","line","measure","gaps"])::("cost_of",top 41,["spare","many","gaps","last"])::("costs_of",top 42,["case","words","measure","gaps"])::("can_follow",top 43,["costs","table","start","end"])::("choices",top 44,["costs","table","start"])::("table_of",top 45,["costs","many"])::("most_in_full_lines",top 46,["costs","many"])::("breaks_of",top 47,["case","words","measure","gaps"])::("broken_lines",top 48,["words","breaks"])::("is_number",top 52,["word"])::("is_set_word",top 53,["word"])::("word_at",top 54,["words","at"])::("read_number",top 55,["words","at","low","high"])::("look_for",top 56,["words","at","word"])::("read_measure",top 57,["words","at"])::("read_gaps",top 58,["words","at"])::("read_set",top 59,["words","at"])::("read_times",top 60,["words","at","brackets"])::("read_job",top 61,["words","at","brackets"])::("read_jobs",top 62,["words","at","brackets"])::("read_copy",top 63,["text"])::("shown_job",top 64,["job"])::("shown_copy",top 65,["jobs"])::("add_paragraph",top 71,["paragraphs","paragraph"])::("do_times",top 72,["many","jobs","measure","gaps","paragraphs"])::("do_jobs",top 73,["jobs","measure","gaps","paragraphs"])::("opened_jobs",top 74,["jobs"])::("first_place_unlike",top 76,["one","other"])::("first_unlike",top 77,["case","keys","slugs"])::("_law_cell",top 79,["_law_script","_law_k"])::("_law_stream",top 80,["_law_cell_here","_law_many"])::("_law_over",top 81,["_law_code","_law_other"])::("_law_first",top 82,["_law_left"])::("_law_codes",top 83,["_law_cell_here","_law_many"])::("_law_case",top 84,["_law_script","_law_most"])::("_law_word",top 85,["_law_case_here","_law_cell_here","_law_most"])::("_law_paragraphs",top 86,["_law_script","_law_case_here"])::("_law_copy",top 87,["_law_paragraphs_here","_law_twice"])::("_law_wide",top 88,["_law_case_here","_law_line"])::("_law_divisor",top 89,["_law_one","_law_other"])::("_law_set",top 90,["_law_case_here","_law_line","_law_measure","_law_gaps","_law_last"])::("_law_broken",top 91,["_law_case_here","_law_paragraph"])::("_law_unlike",top 92,["_law_case_here","_law_keys","_law_slugs","_law_cell_here"])::("_law_lacks",top 93,["_law_lines"])::("law",top 94,["_law_script"])::[]
abbrev QW:List MR:=("next_key","Machine.next_key",DT (top 32) 1,["self"])::("lacks_matrix","Machine.lacks_matrix",DT (top 32) 2,["self"])::("stuck","Machine.stuck",DT (top 32) 3,["self"])::("resting","Machine.resting",DT (top 32) 4,["self"])::("move_bar","Machine.move_bar",DT (top 32) 5,["self"])::("move_caster","Machine.move_caster",DT (top 32) 6,["self"])::("move_line","Machine.move_line",DT (top 32) 7,["self"])::("send_line","Machine.send_line",DT (top 32) 8,["self"])::("take","Machine.take",DT (top 32) 9,["self","part"])::("tick","Machine.tick",DT (top 32) 10,["self"])::("run","Machine.run",DT (top 32) 11,["self"])::("slugs","Machine.slugs",DT (top 32) 13,["self"])::("channels","Machine.channels",DT (top 32) 15,["self"])::[]
abbrev tu:List Str:=["ValueError","all","any","enumerate","int","len","list","max","min","range","str","sum","zip"]
set_option genInjectivity false
set_option genSizeOf false
structure Ad where
 f:Nat->Addr
 d:Nat->FuncData
 g_Machine:Nat->Addr
 h_Machine:Nat->FuncData
 c_Machine:Addr
 f_Machine_init:Addr
 c_CasterError:Addr
 c_TooMany:Addr
 c_Loose:Addr
 f_init_Loose:Addr
 c_Tight:Addr
 f_init_Tight:Addr
 c_NoBreak:Addr
 f_init_NoBreak:Addr
 t_FIRST_GAPS:Addr
 d_Machine_init:FuncData
 d_init_Loose:FuncData
 d_init_Tight:FuncData
 d_init_NoBreak:FuncData
 t_SIGNS:Tok
 t_GAP_KEY:Tok
 t_SEND_KEY:Tok
 t_WEDGE:Tok
 t_FIGURES:Tok
 t_MOST_BRACKETS:Tok
 t_FIRST_MEASURE:Tok
 t_MOST_PARAGRAPHS:Tok
 t_MOST_WORDS:Tok
structure Tx(K:Frag)(mg:Str->Option Value)(a:Ad):Prop where
 f:∀i x s ps,tb[i]?=some (x,s,ps)->D K mg x s ps (a.f i) (a.d i)
 b:∀(i:Nat) x,tu[i]?=some x->mg x=none
 me_Machine:∀i x q s ps,QW[i]?=some (x,q,s,ps)->DM K x q s ps a.c_Machine (a.g_Machine i) (a.h_Machine i)
 na_Machine:∀(i:Nat) x,FK[i]?=some x->Mf K a.c_Machine x
 Machine:DI K mg "Machine" "Machine.__init__" (DT (top 32) 0) ["self","case","keys","casting","broken"] a.c_Machine a.f_Machine_init a.d_Machine_init
 cl_CasterError:CL K mg "CasterError" a.c_CasterError
 cl_TooMany:CN K mg "TooMany" a.c_TooMany
 cl_Loose:CI K mg "Loose" "Loose.__init__" (DT (top 5) 0) ["self","by"] a.c_Loose a.f_init_Loose a.d_init_Loose "by"
 cl_Tight:CI K mg "Tight" "Tight.__init__" (DT (top 6) 0) ["self","by"] a.c_Tight a.f_init_Tight a.d_init_Tight "by"
 cl_NoBreak:CI K mg "NoBreak" "NoBreak.__init__" (DT (top 7) 0) ["self","words"] a.c_NoBreak a.f_init_NoBreak a.d_init_NoBreak "words"
 bi:BI K a.c_CasterError
 m_NoBreak_NoBreak:PySem.W.mroIn K a.c_NoBreak (.ref a.c_NoBreak)=some true
 g_FIRST_GAPS:mg "FIRST_GAPS"=some (.ref a.t_FIRST_GAPS)
 k_FIRST_GAPS:∀H,BP K H a.t_FIRST_GAPS [.int 2,.int 4,.int 8]
 g_SIGNS:mg "SIGNS"=some (.str "abcdefghijklmnopqrstuvwxyz.,-'" a.t_SIGNS)
 g_GAP_KEY:mg "GAP_KEY"=some (.str " " a.t_GAP_KEY)
 g_SEND_KEY:mg "SEND_KEY"=some (.str "/" a.t_SEND_KEY)
 g_WEDGE:mg "WEDGE"=some (.str " " a.t_WEDGE)
 g_FIGURES:mg "FIGURES"=some (.str "0123456789" a.t_FIGURES)
 g_MOST_BRACKETS:mg "MOST_BRACKETS"=some (.int 4 a.t_MOST_BRACKETS)
 g_FIRST_MEASURE:mg "FIRST_MEASURE"=some (.int 100 a.t_FIRST_MEASURE)
 g_MOST_PARAGRAPHS:mg "MOST_PARAGRAPHS"=some (.int 60 a.t_MOST_PARAGRAPHS)
 g_MOST_WORDS:mg "MOST_WORDS"=some (.int 400 a.t_MOST_WORDS)
section
variable {K:Frag}{mg:Str->Option Value}{a:Ad}(T:Tx K mg a)
include T
def Tx.has_all:=T.f 1 _ _ _ rfl
def Tx.falls_at:=T.f 2 _ _ _ rfl
def Tx.is_sign:=T.f 3 _ _ _ rfl
def Tx.channel_of:=T.f 4 _ _ _ rfl
def Tx.width_of:=T.f 5 _ _ _ rfl
def Tx.codes_of_:=T.f 6 _ _ _ rfl
def Tx.keys_of:=T.f 7 _ _ _ rfl
def Tx.is_sign_key:=T.f 8 _ _ _ rfl
def Tx.goes_on:=T.f 9 _ _ _ rfl
def Tx.look_at_keys:=T.f 10 _ _ _ rfl
def Tx.lines_of:=T.f 11 _ _ _ rfl
def Tx.can_break:=T.f 12 _ _ _ rfl
def Tx.channels_of:=T.f 13 _ _ _ rfl
def Tx.body_of:=T.f 14 _ _ _ rfl
def Tx.misfit:=T.f 15 _ _ _ rfl
def Tx.greatest_divisor:=T.f 16 _ _ _ rfl
def Tx.lowest_terms:=T.f 17 _ _ _ rfl
def Tx.full_gap:=T.f 18 _ _ _ rfl
def Tx.last_gap:=T.f 19 _ _ _ rfl
def Tx.cost_of:=T.f 20 _ _ _ rfl
def Tx.costs_of:=T.f 21 _ _ _ rfl
def Tx.can_follow:=T.f 22 _ _ _ rfl
def Tx.choices:=T.f 23 _ _ _ rfl
def Tx.table_of:=T.f 24 _ _ _ rfl
def Tx.most_in_full_lines:=T.f 25 _ _ _ rfl
def Tx.breaks_of:=T.f 26 _ _ _ rfl
def Tx.broken_lines:=T.f 27 _ _ _ rfl
def Tx.is_number:=T.f 28 _ _ _ rfl
def Tx.is_set_word:=T.f 29 _ _ _ rfl
def Tx.word_at:=T.f 30 _ _ _ rfl
def Tx.read_number:=T.f 31 _ _ _ rfl
def Tx.look_for:=T.f 32 _ _ _ rfl
def Tx.read_measure:=T.f 33 _ _ _ rfl
def Tx.read_gaps:=T.f 34 _ _ _ rfl
def Tx.read_set:=T.f 35 _ _ _ rfl
def Tx.read_times:=T.f 36 _ _ _ rfl
def Tx.read_job:=T.f 37 _ _ _ rfl
def Tx.read_jobs:=T.f 38 _ _ _ rfl
def Tx.read_copy:=T.f 39 _ _ _ rfl
def Tx.shown_job:=T.f 40 _ _ _ rfl
def Tx.shown_copy:=T.f 41 _ _ _ rfl
def Tx.add_paragraph:=T.f 42 _ _ _ rfl
def Tx.do_times:=T.f 43 _ _ _ rfl
def Tx.do_jobs:=T.f 44 _ _ _ rfl
def Tx.opened_jobs:=T.f 45 _ _ _ rfl
def Tx.first_place_unlike:=T.f 46 _ _ _ rfl
def Tx.first_unlike:=T.f 47 _ _ _ rfl
def Tx.law_cell:=T.f 48 _ _ _ rfl
def Tx.law_stream:=T.f 49 _ _ _ rfl
def Tx.law_over:=T.f 50 _ _ _ rfl
def Tx.law_first:=T.f 51 _ _ _ rfl
def Tx.law_codes:=T.f 52 _ _ _ rfl
def Tx.law_case:=T.f 53 _ _ _ rfl
def Tx.law_word:=T.f 54 _ _ _ rfl
def Tx.law_paragraphs:=T.f 55 _ _ _ rfl
def Tx.law_copy:=T.f 56 _ _ _ rfl
def Tx.law_wide:=T.f 57 _ _ _ rfl
def Tx.law_divisor:=T.f 58 _ _ _ rfl
def Tx.law_set:=T.f 59 _ _ _ rfl
def Tx.law_broken:=T.f 60 _ _ _ rfl
def Tx.law_unlike:=T.f 61 _ _ _ rfl
def Tx.law_lacks:=T.f 62 _ _ _ rfl
def Tx.law:=T.f 63 _ _ _ rfl
def Tx.b_all:=T.b 1 _ rfl
def Tx.b_any:=T.b 2 _ rfl
def Tx.b_enumerate:=T.b 3 _ rfl
def Tx.b_int:=T.b 4 _ rfl
def Tx.b_len:=T.b 5 _ rfl
def Tx.b_list:=T.b 6 _ rfl
def Tx.b_max:=T.b 7 _ rfl
def Tx.b_min:=T.b 8 _ rfl
def Tx.b_range:=T.b 9 _ rfl
def Tx.b_str:=T.b 10 _ rfl
def Tx.b_sum:=T.b 11 _ rfl
def Tx.b_zip:=T.b 12 _ rfl
def Tx.Machine_next_key:=T.me_Machine 0 _ _ _ _ rfl
def Tx.Machine_lacks_matrix:=T.me_Machine 1 _ _ _ _ rfl
def Tx.Machine_stuck:=T.me_Machine 2 _ _ _ _ rfl
def Tx.Machine_resting:=T.me_Machine 3 _ _ _ _ rfl
def Tx.Machine_move_bar:=T.me_Machine 4 _ _ _ _ rfl
def Tx.Machine_move_caster:=T.me_Machine 5 _ _ _ _ rfl
def Tx.Machine_move_line:=T.me_Machine 6 _ _ _ _ rfl
def Tx.Machine_send_line:=T.me_Machine 7 _ _ _ _ rfl
def Tx.Machine_take:=T.me_Machine 8 _ _ _ _ rfl
def Tx.Machine_tick:=T.me_Machine 9 _ _ _ _ rfl
def Tx.Machine_run:=T.me_Machine 10 _ _ _ _ rfl
def Tx.Machine_slugs:=T.me_Machine 11 _ _ _ _ rfl
def Tx.n_Machine_lying:=T.na_Machine 0 _ rfl
def Tx.n_Machine_case:=T.na_Machine 1 _ rfl
def Tx.n_Machine_played:=T.na_Machine 2 _ rfl
def Tx.n_Machine_struck:=T.na_Machine 3 _ rfl
def Tx.n_Machine_casting:=T.na_Machine 4 _ rfl
def Tx.n_Machine_line:=T.na_Machine 5 _ rfl
def Tx.n_Machine_heated:=T.na_Machine 6 _ rfl
def Tx.n_Machine_to_go:=T.na_Machine 7 _ rfl
def Tx.n_Machine_hanging:=T.na_Machine 8 _ rfl
def Tx.n_Machine_texts:=T.na_Machine 9 _ rfl
def Tx.n_Machine_done:=T.na_Machine 10 _ rfl
def Tx.n_Machine_waits:=T.na_Machine 11 _ rfl
end
abbrev lawLevel:Nat:=20
end
set_option maxHeartbeats 4000000
section
variable {P:Program}{w:World}{K:Frag}{mg:Str->Option Value}{base:Heap}{a:Ad}
local macro_rules | `(tactic| walk_at "0") => `(tactic| first | assumption | exact AA | exact AV (by assumption) _ _ _ (by walk_at "0"))
local macro_rules | `(tactic| walk_at "3") => `(tactic| first | (with_reducible refine hideAll ?_; intro Dzz σzz) | with_reducible refine JO ?_ | refine ⟨_, rfl, ?_⟩ | refine ⟨_, _, rfl, rfl, ?_⟩ | refine ⟨_, _, _, _, rfl, rfl, AH.of (by walk_at "0"), (by assumption), ?_⟩ | refine And.intro rfl ?_ | refine And.intro (Ct rfl) ?_ | refine And.intro (by first | decide | lia | omega) ?_ | refine And.intro ⟨by first | decide | lia | omega, by first | decide | lia | omega⟩ ?_ | refine And.intro (.inl ⟨by first | decide | lia | omega, by first | decide | lia | omega⟩) ?_ | refine And.intro (.inr ⟨by first | decide | lia | omega, by first | decide | lia | omega⟩) ?_ | refine ⟨_, _, rfl, BP.of (by first | exact AA | assumption), rfl, ?_⟩ | refine ⟨_, _, _, rfl, (by assumption), rfl, ?_⟩ | refine ⟨_, _, rfl, (by assumption), ?_⟩)
local macro_rules | `(tactic| walk_at "2") => `(tactic| repeat (walk_at "3"))
local macro_rules | `(tactic| walk_at "1") => `(tactic| refine ⟨_, _, rfl, ?_⟩)
local macro_rules | `(tactic| walk_at "5") => `(tactic| first | (with_reducible refine Xp ?_; intro Dzz) | with_reducible refine JO ?_ | refine ⟨_, rfl, ?_⟩ | refine ⟨_, _, rfl, rfl, ?_⟩ | refine ⟨_, _, _, _, rfl, rfl, AH.of (by walk_at "0"), (by assumption), ?_⟩ | refine And.intro rfl ?_ | refine And.intro (Ct rfl) ?_ | refine And.intro (by first | decide | lia | omega) ?_ | refine And.intro ⟨by first | decide | lia | omega, by first | decide | lia | omega⟩ ?_ | refine And.intro (.inl ⟨by first | decide | lia | omega, by first | decide | lia | omega⟩) ?_ | refine And.intro (.inr ⟨by first | decide | lia | omega, by first | decide | lia | omega⟩) ?_ | refine ⟨_, _, rfl, BP.of (by first | exact AA | assumption), rfl, ?_⟩)
local macro_rules | `(tactic| walk_at "4") => `(tactic| repeat (walk_at "5"))
theorem kF(T:Tx K mg a):AJ P w K mg base BL 1 a.f_init_Loose a.d_init_Loose ["self","by"] (NU a.c_Loose "by"):=by
 refine T.cl_Loose.fi.ok kd (λvs H Q E h=>?_) (λJ A outer s H vs Q E W h=>?_)
 .obtain⟨e,i,rfl,_⟩:=h;rfl
 obtain⟨e,i,rfl,G,hi,q⟩:=h;refine⟨_,(AL (EJ (Sq T.bi rfl T.cl_CasterError.mg (AC (pv 0) (AC (VO CD (P4 (pv 1))) AG)))) (AQ (So (pv 0) (pv 1) rfl))),?_⟩;refine⟨_,rfl,?_⟩;refine⟨_,rfl,by decide,?_⟩;refine⟨_,rfl,?_⟩;refine⟨i,rfl,hi,λx I=>?_⟩;refine⟨x,rfl,I,λy=>?_⟩;refine⟨e,a.c_Loose,none,some a.f_init_Loose,y,rfl,G,T.cl_Loose.cls,?_⟩;refine⟨_,rfl,?_⟩;refine⟨_,rfl,?_⟩;exact⟨e,a.c_Loose,rfl,G,T.cl_Loose.xf,λdx F=>q dx F⟩
theorem kG(T:Tx K mg a):AJ P w K mg base BL 1 a.f_init_Tight a.d_init_Tight ["self","by"] (NU a.c_Tight "by"):=by
 refine T.cl_Tight.fi.ok ke (λvs H Q E h=>?_) (λJ A outer s H vs Q E W h=>?_)
 .obtain⟨e,i,rfl,_⟩:=h;rfl
 obtain⟨e,i,rfl,G,hi,q⟩:=h;refine⟨_,(AL (EJ (Sq T.bi rfl T.cl_CasterError.mg (AC (pv 0) (AC (VO CD (P4 (pv 1))) AG)))) (AQ (So (pv 0) (pv 1) rfl))),?_⟩;refine⟨_,rfl,?_⟩;refine⟨_,rfl,by decide,?_⟩;refine⟨_,rfl,?_⟩;refine⟨i,rfl,hi,λx I=>?_⟩;refine⟨x,rfl,I,λy=>?_⟩;refine⟨e,a.c_Tight,none,some a.f_init_Tight,y,rfl,G,T.cl_Tight.cls,?_⟩;refine⟨_,rfl,?_⟩;refine⟨_,rfl,?_⟩;exact⟨e,a.c_Tight,rfl,G,T.cl_Tight.xf,λdx F=>q dx F⟩
theorem kH(T:Tx K mg a):AJ P w K mg base BL 1 a.f_init_NoBreak a.d_init_NoBreak ["self","words"] (NU a.c_NoBreak "words"):=by
 refine T.cl_NoBreak.fi.ok kf (λvs H Q E h=>?_) (λJ A outer s H vs Q E W h=>?_)
 .obtain⟨e,i,rfl,_⟩:=h;rfl
 obtain⟨e,i,rfl,G,hi,q⟩:=h;refine⟨_,(AL (EJ (Sq T.bi rfl T.cl_CasterError.mg (AC (pv 0) (AC (Su CD (P4 (pv 1)) CD) AG)))) (AQ (So (pv 0) (pv 1) rfl))),?_⟩;refine⟨_,rfl,?_⟩;refine⟨_,rfl,by decide,?_⟩;refine⟨_,rfl,?_⟩;refine⟨i,rfl,hi,λx I=>?_⟩;refine⟨x,rfl,I,?_⟩;refine⟨_,rfl,by decide,λy=>?_⟩;refine⟨e,a.c_NoBreak,none,some a.f_init_NoBreak,y,rfl,G,T.cl_NoBreak.cls,?_⟩;refine⟨_,rfl,?_⟩;refine⟨_,rfl,?_⟩;exact⟨e,a.c_NoBreak,rfl,G,T.cl_NoBreak.xf,λdx F=>q dx F⟩
def kJ(K:Frag):Sp:=λvs H Q _=>∃(l:Addr) (k:Int) (ns:List Int),vs=[.ref l,.int k]/\AH K H l (ns.map V.int)/\0<=k/\∀z,Q (.int z) H
theorem Tq(T:Tx K mg a):AJ P w K mg base BL 1 (a.f 48) (a.d 48) ["_law_script","_law_k"] (kJ K):=by
 refine T.law_cell.fn.ok kc (λvs H Q E h=>?_) (λJ A outer s H vs Q E W h=>?_)
 .obtain⟨l,k,ns,rfl,_⟩:=h;rfl
 obtain⟨l,k,ns,rfl,G,I,q⟩:=h;refine⟨_,(AL (CF (BU L8 (pv 1) (CY (EB K rfl) rfl T.b_len DP (AC (pv 0) AG)) (BM _)) (AQ (BK (CA (DR K rfl) (pv 0) (pv 1) (λ_ _=>rfl)))) CP)
  (AQ (BK AN))),?_⟩
 walk_at "2";refine⟨l,_,rfl,.inl G,?_⟩;walk_at "2";refine CG (λc=>?_) (λc=>?_)
 .have F:=Bc c;rw[A6]at F
  walk_at "2";exact⟨l,_,_,_,rfl,rfl,G,dv I F,q _⟩
 .exact q _
def kK:Sp:=λvs H Q _=>∃c n:Int,vs=[.int c,.int n]/\0<=n/\n<=1000 /\
 ∀(zs:List Int) (r:Addr) (H':Hp),(zs.length:Int)=n->(∀z∈zs,0<=z/\z<33554432)->H r=none->AF H H'->H' r=some (.lst (zs.map V.int))->Q (.ref r) H'
theorem QX(T:Tx K mg a):AJ P w K mg base BL 1 (a.f 49) (a.d 49) ["_law_cell_here","_law_many"] kK:=by
 refine T.law_stream.fn.ok Pm (λvs H Q E h=>?_) (λac A outer s H vs Q E hr h=>?_)
 .obtain⟨c,n,rfl,_⟩:=h;rfl
 obtain⟨c,n,rfl,h0,h1,q⟩:=h;refine⟨_,(AL (BQ (i:=2) Pm.nd rfl AM (AU DG (AU FI (pv 0) AN) AN))
  (AL (BQ (i:=3) Pm.nd rfl AM (DA AG))
  (AL (GL Bb rfl (L7 rfl T.b_range (AC (pv 1) AG)) (BF (i:=4) Pm.nd rfl AM) (AL (BQ (i:=2) Pm.nd rfl AM (AU FI (AU DG (AU DG (AU DG (AU IS (pv 2) (pv 2)) (AU IS AN (pv 2))) (AU IS AN (pv 4))) AN) AN))
  (AQ (EJ (DX K rfl B7 Bi Bj JH (pv 3) (AC (AU JR (pv 2) AN) AG))))))
  (AQ (BK (pv 3)))))),?_⟩
 walk_at "2";intro r G;walk_at "2";refine Kv (n:=n.toNat) (λi σ H2=>∃(x:Int) (zs:List Int) (v:Option V),σ=[some (.int c),some (.int n),some (.int x),some (.ref r),v]/\0<=x/\x<2147600000/\zs.length=i/\(∀z∈zs,0<=z/\z<33554432)/\AF H H2/\H2 r=some (.lst (zs.map V.int)))
  ⟨_,[],none,rfl,by lia,by lia,rfl,(λz I=>nomatch I),AV G _,AA⟩ ?_ ?_
 .rintro i σ H2 hi ⟨x,zs,v,rfl,Z,W,hl,I,hs,J⟩;walk_at "2";refine⟨.inl ⟨rfl,_,AH.of J⟩,?_⟩;walk_at "2";refine⟨_,_,_,rfl,rfl,J,IV (by rw[A6];lia),?_⟩;have aa:=Ds (x*x+48271*x+7*(0+(i:Int))+1) (show(2147483647:Int)≠0 by decide);refine⟨_,zs++[((x*x+48271*x+7*(0+(i:Int))+1)%2147483647)/64],_,rfl,aa,by lia,by rw[Aa,hl];rfl,λz Y=>?_,DO hs G,?_⟩
  .rcases Az.mp Y with q|q
   .exact I z q
   .rw[Aj.mp q]
    lia
  .rw[AA,Ah];rfl
 .rintro σ H2 ⟨x,zs,v,rfl,Z,W,hl,I,hs,J⟩;walk_at "2";exact q zs r H2 (by lia) I G hs J
theorem XM{o:Int}(i:Nat):o/2^i/2=o/2^(i+1):=by
 rw[Int.pow_succ,Iy (Ka (Kf (by decide)))]
theorem kL{o:Int}(F:0<=o){i k:Nat}(h:o/2^i<=0)(G:i<=k):o/2^k%2=0:=by
 obtain⟨j,rfl⟩:=Nat.exists_eq_add_of_le G;have e:o/2^i=0:=Int.le_antisymm h (Jl F (Ka (Kf (by decide))));rw[Int.pow_add,<-Iy (Ka (Kf (by decide))),e,Int.zero_ediv];rfl
theorem kN{x:Int}:0<=x%2/\x%2<2:=⟨Ds _ (by decide),Dd _ (by decide)⟩
def kO:Sp:=λvs H Q _=>∃t o:Int,vs=[.int t,.int o]/\0<=t/\0<=o/\o<128/\Q (.bl (Mt.has t o)) H
theorem kP(T:Tx K mg a):AJ P w K mg base BL 1 (a.f 50) (a.d 50) ["_law_code","_law_other"] kO:=by
 refine T.law_over.fn.ok Th (λvs H Q E h=>?_) (λaa A outer s H vs Q E hr h=>?_)
 .obtain⟨t,o,rfl,_⟩:=h;rfl
 obtain⟨t,o,rfl,h1,h2,h3,q⟩:=h;refine⟨_,(AL (Md Bb (BU KJ (pv 1) AN (BM _)) (AL (CF (PW.pt (L6 (BU EM (AU FI (pv 1) AN) AN (BM _)) (L5 (BU EM (AU FI (pv 0) AN) AN (BM _))))) (AQ (BK IB)) CP)
  (AL (BQ (i:=1) Th.nd rfl AM (AU JR (pv 1) AN))
  (AQ (BQ (i:=0) Th.nd rfl AM (AU JR (pv 0) AN))))))
  (AQ (BK IB))),?_⟩
 refine⟨λn σ H2=>∃i:Nat,n=8-i/\i<=7/\σ=[some (.int (t/2^i)),some (.int (o/2^i))]/\H2=H/\∀k,k<i->o/2^k%2<=t/2^k%2,⟨8,0,rfl,by decide,by rw[Int.pow_zero,Jc,Jc];rfl,rfl,λk W=>absurd W (Cg _)⟩,?_⟩;rintro n σ H2 ⟨i,rfl,hi,rfl,rfl,hb⟩;walk_at "2";refine CG (λc=>?_) (λc=>?_)
 .have c:0<o/2^i:=Bc c;have G:i<7:=K0 hi λe=>by
   rw[e]at c
   lia
  refine⟨λF H'=>F=[some (.int (t/2^(i+1))),some (.int (o/2^(i+1)))]/\H'=H2/\∀k,k<i+1->o/2^k%2<=t/2^k%2,λF H' h=>⟨8-(i+1),by lia,i+1,rfl,G,h⟩,?_⟩;have go:o/2^i%2<=t/2^i%2->∀k,k<i+1->o/2^k%2<=t/2^k%2:=λh k W=>by
   by_cases e:k=i
   .rw[e];exact h
   .exact hb k (by lia)
  rw[<-XM,<-XM];generalize hot:o/2^i=Z at *;generalize Y:t/2^i=ti at *;walk_at "2";rw[Ki];refine CG (λI=>?_) (λI=>?_)
  .have I:Z%2=1:=Bc I;walk_at "2";rw[Ki];refine CG (λJ=>?_) (λJ=>?_)
   .have J:ti%2=0:=Bc J;walk_at "2";have e:Mt.has t o=false:=Ai λh=>by
     have:=h i G;rw[hot,Y]at this
     lia
    rw[e]at q
    exact q
   .have J:¬ti%2=0:=λz=>J (Ae z)
    walk_at "2";first|exact⟨rfl,rfl,go (by lia)⟩|exact go (by lia)
  .have I:¬Z%2=1:=λz=>I (Ae z)
   try refine AR ?_
   walk_at "2";first|exact⟨rfl,rfl,go (by lia)⟩|exact go (by lia)
 .have c:o/2^i<=0:=Int.not_lt.mp λz=>c (Ae z)
  walk_at "2";have e:Mt.has t o=true:=Ae λk W=>by
   by_cases h:k<i
   .exact hb k h
   .rw[kL h2 c (Nat.not_lt.mp h)];exact kN.1
  rw[e]at q
  exact q
def kQ(K:Frag):Sp:=λvs H Q _=>∃(l:Addr) (ls:List Int),vs=[.ref l]/\AH K H l (ls.map V.int)/\ls≠[]/\(∀c∈ls,0<=c/\c<128)/\ls.length<=30/\∀c H',AF H H'->c∈ls->Mt.under ls c=[]->Q (.int c) H'
theorem kR(T:Tx K mg a):AJ P w K mg base BL 2 (a.f 51) (a.d 51) ["_law_left"] (kQ K):=by
 have F:=@kP P w K mg base a T;refine T.law_first.fn.ok Xw (λvs H Q E h=>?_) (λan A outer s H vs Q E hr h=>?_)
 .obtain⟨l,ls,rfl,_⟩:=h;rfl
 obtain⟨l,ls,rfl,hS,ai,hlb,al,q⟩:=h;refine⟨_,(AL (GL Bb rfl (FJ K rfl (pv 0)) (BF (i:=1) Xw.nd rfl (Or.inr rfl)) (AQ (CF (BU (EZ K rfl hr.units) (GV rfl (FJ K rfl (pv 0)) (BH.of (N':=["_law_left","_law_code","_law_other"]) (ms:=[]) (k:=1) (by rfl)) (λ_ _ _ _ _=>(BF (i:=2) (show List.Nodup (["_law_left","_law_code","_law_other"]:List Str)from by decide +kernel) rfl AM)) (λ_ _ _ _ _=>(OH (PW.pt (L6 (BU IT (pv 2) (pv 1) (BM _)) (L5 (IC (BN T.law_over F hr rfl (AC (pv 1) (AC (pv 2) AG))))))))) (λ_ _ _ _ _=>(pv 2))) (DA AG) (BM _)) (AQ (BK (pv 1))) CP)))
  (AQ (BK Lu))),?_⟩
 walk_at "2";refine⟨⟨_,hS⟩,?_⟩;refine MC (a:=l) (xs:=ls.map V.int) (λi σ H5=>∃(v1:Option V),σ=[some (.ref l),v1]/\AF H H5/\∀(j:Nat) c,j<i->ls[j]?=some c->Mt.under ls c≠[])
  ⟨_,rfl,AF.refl _,λj _ h=>absurd h (Cg _)⟩ (λi σ H5 _ ⟨_,_,J,_⟩=>J.seq hS) ?_ ?_
 .rintro i y σ H5 hy ⟨w3,rfl,J,aa⟩;obtain⟨c,rfl,af⟩:=LI hy;have Y:c∈ls:=Ag af;have aj:=hlb c Y;have ad:=J.seq hS;walk_at "2";refine⟨⟨_,ad⟩,λD hD=>?_⟩;refine HB (a:=l) (xs:=ls.map V.int) (λi ys σ H6=>∃(v4:Option V),ys=(Mt.under (ls.take i) c).map V.int/\σ=[some (.ref l),some (.int c),v4]/\AF H5 H6/\H6 D=some (.lst ys))
   ?_ ?_ ?_ ?_
  .exact⟨none,rfl,rfl,AV hD _,AA⟩
  .exact λi ys σ H6 _ ⟨_,_,_,G,_⟩=>G.seq ad
  .rintro k y ys σ H6 ak W ⟨v4,rfl,rfl,G,I⟩;obtain⟨o,rfl,hok⟩:=LI ak;have ac:=hlb o (Ag hok);have ag:=W;rw[A6]at ag
   have ae:ls.take (k+1)=ls.take k++[o]:=by rw[Ay,hok];rfl
   have am:(Mt.under (ls.take k) c).length<=30:=by
    have h1:(Mt.under (ls.take k) c).length<=(ls.take k).length:=Ge _ _;rw[Al]at h1
    lia
   have skip:¬((!decide (o=c)&&Mt.has c o)=true)->Mt.under (ls.take (k+1)) c=Mt.under (ls.take k) c:=λhn=>by
    unfold Mt.under;rw[ae,Ek,Fh,Aq hn,List.filter_nil,Av]
   walk_at "2";rw[Ki];refine CG (λh1=>?_) (λh1=>?_)
   .walk_at "2";refine⟨c,o,rfl,aj.1,ac.1,ac.2,?_⟩;walk_at "2";refine CG (λh2=>?_) (λh2=>?_)
    .walk_at "2";refine EN W I (by rw[A6];lia) ⟨_,?_,rfl,DO G hD,AA⟩;unfold Mt.under;rw[ae,Ek,Fh,Ar (by rw[Aw];exact⟨h1,h2⟩),List.filter_nil,Ah];rfl
    .refine MW W ⟨_,?_,rfl,G,I⟩;rw[skip (by rw[Aw];exact λz=>h2 z.2)]
   .try refine AR ?_
    refine MW W ⟨_,?_,rfl,G,I⟩;rw[skip (by rw[Aw];exact λz=>h1 z.1)]
  rintro ys σ H6 ⟨v4,rfl,rfl,G,I⟩;rw[A6,Ak (Af _)]at I
  walk_at "2";intro p7 ah;refine⟨LK (Mt.under ls c),LK [],UJ (AH.of (AV ah _ _ _ I)),UJ (AH.of AA),dE _ _,?_⟩;rw[dG];walk_at "2";have Z:=FN (o:=.lst []) G ah;by_cases hu:Mt.under ls c=[]
  .rw[Ae hu];refine BB ?_;walk_at "2";exact q c _ (J.trans Z) Y hu
  .rw[Ai hu];refine AR ?_;refine⟨_,rfl,J.trans Z,λj x hj hx=>?_⟩;by_cases z:j=i
   .subst z;rw[af]at hx
    cases hx;exact hu
   .exact aa j x (by lia) hx
 .rintro σ H5 ⟨w3,rfl,J,aa⟩;exfalso;obtain⟨c,Y,hu⟩:=Mt.eA ai hlb;obtain⟨j,hj,e⟩:=Bt Y;exact aa j c (by rw[A6];exact hj) (by rw[A7 hj,e]) hu
def kS:Sp:=λvs H Q _=>∃(c n:Int),vs=[.int c,.int n]/\1<=n/\n<=30 /\
 ∀(r:Addr) (rs:List Int) (H':Hp),H r=none->AF H H'->H' r=some (.lst (rs.map V.int))->rs.Nodup->(∀c∈rs,0<=c/\c<128)->Mt.Kz rs->1<=rs.length->rs.length<=30->Q (.ref r) H'
theorem kU(T:Tx K mg a):AJ P w K mg base BL 3 (a.f 52) (a.d 52) ["_law_cell_here","_law_many"] kS:=by
 have I:=@QX P w K mg base a T;have J:=@kR P w K mg base a T;refine T.law_codes.fn.ok Nr (λvs H Q E h=>?_) (λaV A outer s H vs Q E hr h=>?_)
 .obtain⟨c,n,rfl,_⟩:=h;rfl
 obtain⟨c,n,rfl,aU,aX,q⟩:=h;refine⟨_,(AL (BQ (i:=2) Nr.nd rfl AM (DA AG))
  (AL (GL Bb rfl (FJ K rfl (BN T.law_stream I hr rfl (AC (pv 0) (AC AN AG)))) (BF (i:=3) Nr.nd rfl AM) (AL (BQ (i:=4) Nr.nd rfl AM (AU FI (pv 3) AN))
  (AQ (CF (PW.pt (L6 (BU (dS K rfl) (pv 4) (pv 2) (by with_unfolding_all rfl)) (L5 (BU L8 (CY (EB K rfl) rfl T.b_len DP (AC (pv 2) AG)) (pv 1) (BM _))))) (AQ (EJ (DX K rfl B7 Bi Bj JH (pv 2) (AC (pv 4) AG)))) CP))))
  (AL (BQ (i:=5) Nr.nd rfl AM (DA AG))
  (AL (GL Bb rfl (L7 rfl T.b_range (AC (CY (EB K rfl) rfl T.b_len DP (AC (pv 2) AG)) AG)) (BF (i:=6) Nr.nd rfl AM) (AL (BQ (i:=4) Nr.nd rfl AM (BN T.law_first J hr rfl (AC (pv 2) AG)))
  (AL (EJ (DX K rfl B7 Bi Bj JH (pv 5) (AC (pv 4) AG)))
  (AQ (EJ (DX K rfl B7 PySem.F.slot_list_remove PySem.F.type_list_remove ei (pv 2) (AC (pv 4) AG)))))))
  (AQ (BK (pv 5))))))),?_⟩
 walk_at "2";intro p hp;have av:=AV hp (.lst []);have ap:upd H p (.lst []) p=some (.lst (([]:List Int).map V.int)):=AA;generalize upd H p (.lst [])=H1 at av ap⊢;walk_at "2";refine⟨c,60,rfl,by decide,by decide,λzs st H2 aL aT aB aM aN=>?_⟩;have aL:zs.length=60:=by lia
 refine⟨st,rfl,⟨_,AH.of aN⟩,?_⟩;have aD:p≠st:=GU ap aB;refine MC (a:=st) (xs:=zs.map V.int) (λi σ H3=>∃(ls:List Int) (v3 v4:Option V),σ=[some (.int c),some (.int n),some (.ref p),v3,v4,none,none]/\AF H H3/\H3 p=some (.lst (ls.map V.int))/\H3 st=some (.lst (zs.map V.int))/\ls.Nodup/\(∀c∈ls,0<=c/\c<128)/\(ls.length:Int)<=n/\(1<=i->1<=ls.length))
  ⟨[],none,none,rfl,av.trans aM,aM _ _ ap,aN,F1,(λc h=>nomatch h),by show(0:Int)<=n;lia,λh=>absurd h (by decide)⟩ (by rintro i σ H3 _ ⟨_,_,_,_,_,_,h,_⟩;exact AH.of h) ?_ ?_
 .rintro i y σ H3 hy ⟨ls,v3,v4,rfl,Z,W,Y,aa,hb,aq,aG⟩;obtain⟨z,rfl,aW⟩:=LI hy;walk_at "2";have aP:0<=z%128/\z%128<128:=⟨Ds _ (by decide),Dd _ (by decide)⟩
  have an:(ls.map V.int).all LA=true:=by rw[Kb];exact C1.mpr λ_ _=>rfl
  have aJ:NF (.int (z%128)) (ls.map V.int)=decide ((z%128)∈ls):=by
   unfold NF;rw[Jg,E6,Fg,Ej];constructor
   .rintro⟨x,hx,e⟩;have e':x=(z%128):=eq_of_beq e;rw[<-e'];exact hx
   .intro h;exact⟨(z%128),h,Fc (z%128)⟩
  walk_at "2";refine⟨p,_,rfl,.inl (AH.of W),rfl,an,?_⟩;walk_at "2";refine CG (λhc=>?_) (λhc=>?_)
  .have hc:=hc;rw[Ar rfl]at hc
   change (!NF (V.int (z%128)) (ls.map V.int))=true at hc;rw[aJ]at hc
   have aE:(z%128)∉ls:=by
    intro z3;rw[Ae z3]at hc
    exact absurd hc (by decide)
   walk_at "2";refine⟨p,_,rfl,.inl (AH.of W),?_⟩;rw[A6];walk_at "2";refine CG (λac=>?_) (λac=>?_)
   .have ac:(ls.length:Int)<n:=Bc ac;walk_at "2";refine⟨.inl ⟨rfl,_,AH.of W⟩,?_⟩;walk_at "2";refine⟨p,_,_,rfl,rfl,W,IV (by rw[A6];lia),?_⟩;refine⟨ls++[(z%128)],_,_,rfl,DO Z hp,by rw[AA,Ah];rfl,by rw[BV aD.symm];exact Y,?_,λz2 aO=>?_,by rw[Aa];show((ls.length+1:Nat):Int)<=n;lia,λ_=>by rw[Aa];exact Nat.le_add_left _ _⟩
    .exact Dn.mpr ⟨aa,by simp,λx hx y hy=>by rw[Aj.mp hy];exact λz3=>aE (z3 ▸ hx)⟩
    .rcases Az.mp aO with q|q
     .exact hb z2 q
     .rw[Aj.mp q];exact aP
   .have ac:¬(ls.length:Int)<n:=λz3=>ac (Ae z3)
    exact⟨ls,_,_,rfl,Z,W,Y,aa,hb,aq,λ_=>by lia⟩
  .rw[Ar rfl]at hc
   change ¬(!NF (V.int (z%128)) (ls.map V.int))=true at hc;rw[aJ]at hc
   have au:(z%128)∈ls:=by
    by_cases z3:(z%128)∈ls
    .exact z3
    .rw[Ai z3]at hc
     exact absurd rfl hc
   try refine AR ?_
   exact⟨ls,_,_,rfl,Z,W,Y,aa,hb,aq,λ_=>G6 au⟩
 .rintro σ H3 ⟨cs,v3,v4,rfl,Z,W,Y,aa,hb,aq,aG⟩;have hl1:1<=cs.length:=aG (by rw[A6,aL];decide);have aR:H p=none:=hp;walk_at "2";intro rr af;have az:H rr=none:=Z.free af;have ar:p≠rr:=GU W af;have aA:=FN (o:=.lst []) Z af;have ag:upd H3 rr (.lst []) p=some (.lst (cs.map V.int)):=AV af _ _ _ W;have aF:upd H3 rr (.lst []) rr=some (.lst (([]:List Int).map V.int)):=AA;generalize upd H3 rr (.lst [])=H4 at aA ag aF⊢;walk_at "2";refine⟨p,_,rfl,.inl (AH.of ag),?_⟩;rw[A6];walk_at "2";refine Kv (lo:=0) (n:=((cs.length:Nat):Int).toNat) (λi σ H2=>∃(ls rs:List Int) (v4 v6:Option V),σ=[some (.int c),some (.int n),some (.ref p),v3,v4,some (.ref rr),v6]/\ls.length+i=cs.length/\AF H H2/\H2 p=some (.lst (ls.map V.int))/\H2 rr=some (.lst (rs.map V.int))/\(rs++ls).Perm cs/\Mt.Kz rs/\∀r∈rs,∀o∈ls,Mt.has r o=false)
   ⟨cs,[],_,_,rfl,rfl,aA,ag,aF,List.Perm.refl _,(λj k x y _ hx=>by simp at hx),λr ad=>nomatch ad⟩ ?_ ?_
  .rintro i σ H2 hi ⟨ls,rs,w4,w6,rfl,al,hs,am,aj,G,ah,ai⟩;have hlb:∀c∈ls,0<=c/\c<128:=λc aQ=>hb c (G.mem_iff.mp (Bk _ aQ))
   have ay:(rs++ls).Nodup:=G.nodup_iff.mpr aa;have aI:ls.Nodup:=(Dn.mp ay).2.1;have aH:=G.length_eq;rw[Aa]at aH
   have aK:ls≠[]:=λz=>by rw[z]at al;have:0+i=cs.length:=al;lia
   walk_at "2";refine⟨p,ls,rfl,AH.of am,aK,hlb,by lia,λd H5 ak ae hu=>?_⟩;have aw:=ak _ _ aj;have aS:=ak _ _ am;walk_at "2";refine⟨.inl ⟨rfl,_,AH.of aw⟩,?_⟩;walk_at "2";refine⟨rr,_,_,rfl,rfl,aw,IV (by rw[A6];lia),?_⟩;have aC:upd H5 rr (.lst (rs.map V.int++[.int d])) p=some (.lst (ls.map V.int)):=by rw[BV ar];exact aS
   walk_at "2";refine⟨.inl ⟨rfl,_,AH.of aC⟩,?_⟩;walk_at "2";refine⟨p,ls,d,rfl,rfl,aC,ae,?_⟩;refine⟨ls.erase d,rs++[d],_,_,rfl,?_,?_,AA,?_,?_,Mt.eC ah λr ad=>ai r ad d ae,λr ad o ao=>?_⟩
   .rw[Ie ae]
    lia
   .exact DO (DO (hs.trans ak) az) aR
   .rw[BV (Ne.symm ar),AA,Ah];rfl
   .refine List.Perm.trans ?_ G;rw[Ao];exact List.Perm.append_left rs (List.perm_cons_erase ae).symm
   .have ax:o∈ls:=List.mem_of_mem_erase ao;rcases Az.mp ad with h|h
    .exact ai r h o ax
    .rw[Aj.mp h];exact Mt.eB hu ax λz=>by
      rw[z]at ao
      exact absurd ao (aI.not_mem_erase)
  .rintro σ H2 ⟨ls,rs,w4,w6,rfl,al,hs,am,aj,G,ah,ai⟩;have he:ls=[]:=Do.mp (by lia);subst he;rw[Av]at G
   walk_at "2";exact q rr rs H2 az hs aj (G.nodup_iff.mpr aa) (λz hz=>hb z (G.mem_iff.mp hz)) ah (by rw[G.length_eq];exact hl1) (by rw[G.length_eq];lia)
structure GQ(most:Int)(rs:List CC):Prop where
 l1:1<=rs.length
 l2:rs.length<=30
 sg:∀r∈rs,∃c∈BR,r.s=L2.sg c
 wd:∀r∈rs,2<=r.w/\r.w<=10
 th:∀r∈rs,0<=r.t/\r.t<128
 mn:∀r∈rs,0<=r.n/\r.n<=most
 nd:(rs.map λr=>r.t).Nodup
 ft:Mt.Kz (rs.map λr=>r.t)
 pl:∀(j:Nat) r,rs[j]?=some r->CK rs r.s=some j
theorem GQ.fl(R:GQ most rs):∀(j:Nat) r,rs[j]?=some r->IE (rs.map λr=>r.t) r.t=some j:=λj r F=>Mt.eD R.ft (by rw[Ax,F];rfl)
def L1(z:Int):Nat:=BR.getD z.toNat 0
theorem kW:∀k:Fin 30,DJ ("abcdefghijklmnopqrstuvwxyz.,-'":Str).cps.toList (k.val:Int)=some (L1 (k.val:Int))/\L1 (k.val:Int)∈BR:=by decide +kernel
theorem kX{z:Int}(F:0<=z)(h1:z<30):DJ ("abcdefghijklmnopqrstuvwxyz.,-'":Str).cps.toList z=some (L1 z)/\L1 z∈BR:=by
 obtain⟨k,rfl⟩:=Bu F;exact kW ⟨k,by lia⟩
theorem kY:∀j k:Fin 30,L1 (j.val:Int)=L1 (k.val:Int)->j=k:=by decide +kernel
theorem kZ(F:0<=y/\y<30)(h1:0<=z/\z<30)(h:L1 y=L1 z):y=z:=by
 obtain⟨j,rfl⟩:=Bu F.1;obtain⟨k,rfl⟩:=Bu h1.1;have:=kY ⟨j,by lia⟩ ⟨k,by lia⟩ h;have:=Bs Fin.val this;have:j=k:=this
 lia
theorem l4{rs:List CC}{b st:Int}(I:st=1\/st=7\/st=11\/st=13)(Y:rs.length<=30)(h:∀(j:Nat) r,rs[j]?=some r->r.s=L2.sg (L1 ((b+st*(j:Int))%30))):∀(j:Nat) r,rs[j]?=some r->CK rs r.s=some j:=λj r G=>by
 refine UW G rfl λi W hi F e=>?_
 have J:=(B2.mp G).1;rw[h i W F,h j r G]at e
 have Z:=kZ (by lia) (by lia) (Nf e);rcases I with rfl|rfl|rfl|rfl<;>lia
theorem Tr{xs:List Int}{z:Int}(F:0<=z)(h1:z<(xs.length:Int)):∃y,DJ (xs.map V.int) z=some (.int y)/\y∈xs:=by
 obtain⟨y,G,e⟩:=dr F h1;exact⟨y,e,G⟩
def l6(K:Frag):Sp:=λvs H Q _=>∃(l:Addr) (ns:List Int) (most:Int),vs=[.ref l,.int most]/\AH K H l (ns.map V.int)/\0<=most/\most<=40 /\
 ∀(r:Addr) (xs:List V) (rs:List CC) (H':Hp),H r=none->AF H H'->H' r=some (.lst xs)->Paired (Cs.HL H') xs rs->GQ most rs->Q (.ref r) H'
theorem l7(T:Tx K mg a):AJ P w K mg base BL 4 (a.f 53) (a.d 53) ["_law_script","_law_most"] (l6 K):=by
 have G:=@Tq P w K mg base a T;have I:=@QX P w K mg base a T;have W:=@kU P w K mg base a T;refine T.law_case.fn.ok LZ (λvs H Q E h=>?_) (λa6 A outer s H vs Q E J h=>?_)
 .obtain⟨l,ns,most,rfl,_⟩:=h;rfl
 obtain⟨l,ns,most,rfl,hS,a5,a1,q⟩:=h;refine⟨_,(AL (BQ (i:=2) LZ.nd rfl AM CD)
  (AL (BQ (i:=3) LZ.nd rfl AM (BN T.law_cell G J rfl (AC (pv 0) (AC AN AG))))
  (AL (BQ (i:=4) LZ.nd rfl AM (AU DG AN (CA (DR K rfl) (DA (AC (AU FI (pv 3) AN) (AC (AU FI (pv 3) AN) (AC (AU FI (AU JR (pv 3) AN) AN) AG)))) (AU FI (AU JR (pv 3) AN) AN) (λ_ _=>rfl))))
  (AL (BQ (i:=5) LZ.nd rfl AM (BN T.law_codes W J rfl (AC (BN T.law_cell G J rfl (AC (pv 0) (AC AN AG))) (AC (pv 4) AG))))
  (AL (BQ (i:=6) LZ.nd rfl AM (BN T.law_stream I J rfl (AC (BN T.law_cell G J rfl (AC (pv 0) (AC AN AG))) (AC (CY (EB K rfl) rfl T.b_len DP (AC (pv 5) AG)) AG))))
  (AL (BQ (i:=7) LZ.nd rfl AM (DA AG))
  (AL (GL Bb rfl (L7 rfl T.b_range (AC (CY (EB K rfl) rfl T.b_len DP (AC (pv 5) AG)) AG)) (BF (i:=8) LZ.nd rfl AM) (AL (BQ (i:=9) LZ.nd rfl AM (CA Ld (pv 2) (AU FI (AU DG (AU JR (pv 3) AN) (AU IS (CA (DR K rfl) (DA (AC AN (AC AN (AC AN (AC AN AG))))) (AU FI (AU JR (pv 3) AN) AN) (λ_ _=>rfl)) (pv 8))) AN) (λ_ _=>rfl)))
  (AQ (EJ (DX K rfl B7 Bi Bj JH (pv 7) (AC (EE (AC (pv 9) (AC (AU DG AN (AU FI (CA (DR K rfl) (pv 6) (pv 8) (λ_ _=>rfl)) AN)) (AC (CA (DR K rfl) (pv 5) (pv 8) (λ_ _=>rfl)) (AC (AU FI (AU JR (CA (DR K rfl) (pv 6) (pv 8) (λ_ _=>rfl)) AN) (AU DG (pv 1) AN)) AG))))) AG))))))
  (AQ (BK (pv 7)))))))))),?_⟩
 walk_at "2";refine⟨l,0,ns,rfl,hS,by decide,λc0=>?_⟩;walk_at "2";refine λp1 aA=>?_
 obtain⟨y,ey,hy⟩:=Tr (xs:=[c0%7,c0%7,c0/7%29]) (z:=c0/840%3) (by lia) (by show c0/840%3<((3:Nat):Int);lia);have a3:0<=y/\y<=28:=by
  simp only[Am,Bf,D7]at hy;rcases hy with rfl|rfl|rfl<;>lia
 obtain⟨Y,ah,ac⟩:=Tr (xs:=[1,7,11,13]) (z:=c0/210%4) (by lia) (by show c0/210%4<((4:Nat):Int);lia);have ac:Y=1\/Y=7\/Y=11\/Y=13:=by simpa using ac
 have ah:∀_:Unit,DJ [V.int 1,V.int 7,V.int 11,V.int 13] (c0/210%4)=some (.int Y):=λ_=>ah
 walk_at "2";clear ey hy;refine⟨l,1,ns,rfl,(AV aA _).seq hS,by decide,λc1=>?_⟩;walk_at "2";refine⟨c1,2+y,rfl,by lia,by lia,λrc cs H2 aX aU av aQ aN aM aY aW=>?_⟩;have ak:=(AV aA _).trans aU;walk_at "2";refine⟨l,2,ns,rfl,ak.seq hS,by decide,λc2=>?_⟩;walk_at "2";refine⟨rc,_,rfl,.inl (AH.of av),?_⟩;rw[A6];refine⟨c2,_,rfl,by lia,by lia,λzs st H3 aS aL aV ao aJ=>?_⟩;have aS:zs.length=cs.length:=by lia
 walk_at "2";intro pc ap;have ag:=ak.trans ao;have aD:H pc=none:=ag.free ap;have ae:=AV ap (.lst []);have aK:upd H3 pc (.lst []) pc=some (.lst []):=AA;generalize upd H3 pc (.lst [])=H4 at ae aK⊢;have aG:=(ao.trans ae) _ _ av;have a0:=ae _ _ aJ;walk_at "2";refine⟨rc,_,rfl,.inl (AH.of aG),?_⟩;rw[A6];walk_at "2";refine Kv (lo:=0) (n:=((cs.length:Nat):Int).toNat) (λi σ H5=>∃(xs:List V) (rs:List CC) (v8 v9:Option V),σ=[some (.ref l),some (.int most),some (.str "abcdefghijklmnopqrstuvwxyz.,-'"),some (.int c0),some (.int (2+y)),some (.ref rc),some (.ref st),some (.ref pc),v8,v9]/\AF H3 H5/\H5 pc=some (.lst xs)/\Paired (Cs.HL H5) xs rs/\(rs.map λr=>r.t)=cs.take i/\(∀r∈rs,∃c∈BR,r.s=sg c)/\(∀r∈rs,2<=r.w/\r.w<=10)/\(∀r∈rs,0<=r.n/\r.n<=most)/\(∀(j:Nat) r,rs[j]?=some r->r.s=sg (L1 ((c0/7+Y*(j:Int))%30))))
  ⟨[],[],none,none,rfl,ae,aK,.nil,rfl,(λr h=>by cases h),(λr h=>by cases h),(λr h=>by cases h),(λj r h=>by simp at h)⟩ ?_ ?_
 .rintro i σ H5 hi ⟨xs,rs,v8,v9,rfl,aq,al,af,Z,aw,ax,an,ar⟩;rw[El];have aO:i<cs.length:=by lia
  have a7:=Mj af;have az:rs.length=i:=by
   have:=Bs List.length Z;rw[A6,Al]at this
   lia
  obtain⟨ci,aI⟩:∃x,cs[i]?=some x:=⟨_,A7 aO⟩
  obtain⟨zi,aH⟩:∃x,zs[i]?=some x:=⟨_,A7 (by lia)⟩
  have a2:=aL zi (Ag aH);have aC:∀_:Unit,DJ (cs.map V.int) (i:Int)=some (.int ci):=λ_=>EY (by rw[Ax,aI];rfl)
  have aZ:∀_:Unit,DJ (zs.map V.int) (i:Int)=some (.int zi):=λ_=>EY (by rw[Ax,aH];rfl)
  obtain⟨ec,aF⟩:=kX (z:=(c0/7+Y*(i:Int))%30) (by lia) (by lia);generalize aR:L1 ((c0/7+Y*(i:Int))%30)=cc at ec aF;have ec:∀_:Unit,DJ ("abcdefghijklmnopqrstuvwxyz.,-'":Str).cps.toList ((c0/7+Y*(i:Int))%30)=some cc:=λ_=>ec
  walk_at "2";refine λp5 aT=>?_
  have aa:=AV aT (.lst [.int 1,.int 7,.int 11,.int 13]);have aP:upd H5 p5 (.lst [.int 1,.int 7,.int 11,.int 13]) p5=some (.lst [.int 1,.int 7,.int 11,.int 13]):=AA;generalize upd H5 p5 (.lst [.int 1,.int 7,.int 11,.int 13])=H6 at aa aP⊢;walk_at "2";refine⟨_,_,_,rfl,rfl,by decide,ec (),?_⟩;have am:=aq.trans aa;have ai:=aa _ _ al;have aB:=(ao.trans am) _ _ av;have aj:=am _ _ aJ;walk_at "2";refine⟨.inl ⟨rfl,_,AH.of ai⟩,?_⟩;walk_at "2";refine⟨st,_,_,_,rfl,rfl,AH.of aj,aZ (),?_⟩;walk_at "2";refine⟨rc,_,_,_,rfl,rfl,AH.of aB,aC (),?_⟩;walk_at "2";refine⟨st,_,_,_,rfl,rfl,AH.of aj,aZ (),?_⟩;walk_at "2";intro t ht;have a4:=Ds (zi/16) (show most+1≠0 by lia);have a8:=Dd (zi/16) (show 0<most+1 by lia);have ad:=AV ht (.tup (JJ ⟨sg cc,2+zi%9,ci,zi/16%(most+1)⟩));have au:=ad _ _ ai;have ay:upd H6 t (.tup (JJ ⟨sg cc,2+zi%9,ci,zi/16%(most+1)⟩)) t=some (.tup (JJ ⟨sg cc,2+zi%9,ci,zi/16%(most+1)⟩)):=AA;refine⟨pc,_,_,rfl,rfl,au,IV (by lia),?_⟩;refine⟨xs++[.ref t],rs++[⟨sg cc,2+zi%9,ci,zi/16%(most+1)⟩],_,_,rfl,DO (am.trans ad) ap,AA,?_,?_,?_,?_,?_,?_⟩
  .exact Ce (UV (II af (aa.trans ad)) au (λz e=>by cases e)) ⟨t,rfl,by rw[BV (HI ay au (λe=>by cases e))];exact ay⟩
  .rw[Ah,Z,Ay,aI];rfl
  .intro r J;rcases Az.mp J with h|h
   .exact aw r h
   .rw[Aj.mp h];exact⟨cc,aF,rfl⟩
  .intro r J;rcases Az.mp J with h|h
   .exact ax r h
   .rw[Aj.mp h];show 2<=2+zi%9/\2+zi%9<=10
    lia
  .intro r J;rcases Az.mp J with h|h
   .exact an r h
   .rw[Aj.mp h];show 0<=zi/16%(most+1)/\zi/16%(most+1)<=most
    lia
  .intro j r J;by_cases hj:j<rs.length
   .rw[Bz hj]at J
    exact ar j r J
   .rw[Bv (by lia)]at J
    have aE:j=i:=by
     have:=(B2.mp J).1;have:j-rs.length<1:=this
     lia
    rw[aE,az,E9]at J
    cases J;rw[aE,aR]
 .rintro σ H5 ⟨xs,rs,v8,v9,rfl,aq,al,af,Z,aw,ax,an,ar⟩;rw[Ak (by lia)]at Z
  have az:rs.length=cs.length:=by
   have:=Bs List.length Z;rw[A6]at this
   exact this
  walk_at "2";refine q pc xs rs H5 aD (ag.trans aq) al af ⟨by lia,by lia,aw,ax,λr J=>?_,an,by rw[Z];exact aQ,by rw[Z];exact aM,l4 ac (by lia) ar⟩;exact aN r.t (by rw[<-Z];exact Dt J)
theorem l8(h:r∈rs):(CK rs r.s).isSome=true:=by
 unfold CK;rw[List.findIdx?_isSome,Fg];exact⟨r,h,Ae rfl⟩
theorem XN:∀{ws:List Str},(∀x∈ws,∃c∈BR,x=sg c/\(CK rs (sg c)).isSome=true)->(Txt.join "" ws).length=ws.length/\∀c∈(Txt.join "" ws).cps.toList,c∈BR/\(CK rs (sg c)).isSome=true
 | [],_=>⟨by decide,λc h=>by rw[show(Txt.join "" []).cps.toList=[] by decide]at h;cases h⟩
 | x::ws,h=>by
   obtain⟨c,G,rfl,F⟩:=h x Ab;obtain⟨h1,h2⟩:=XN λy I=>h y (Ac _ I)
   rw[Nb];refine⟨?_,λd hd=>?_⟩
   .rw[Bl,h1,B8];show 1+_=_
    lia
   .have e:(sg c++Txt.join "" ws).cps.toList=c::(Txt.join "" ws).cps.toList:=Cq;rw[e]at hd
    rcases Am.mp hd with rfl|hd
    .exact⟨G,F⟩
    .exact h2 d hd
theorem XR:∀{ws:List Str},(∀x∈ws,∃c∈BR,x=sg c)->(ws.map (·.length)).sum=ws.length
 | [],_=>rfl
 | x::ws,h=>by
   obtain⟨c,_,rfl⟩:=h x Ab;rw[Bq,Ec,XR λy F=>h y (Ac _ F),B8];show 1+_=_
   lia
def l9(K:Frag):Sp:=λvs H Q _=>∃(F:Addr) (c:Int) (xs:List V) (rs:List CC),vs=[.ref F,.int c,.int 5]/\H F=some (.lst xs)/\Paired (Cs.HL H) xs rs/\rs≠[]/\rs.length<=30/\(∀r∈rs,∃c∈BR,r.s=sg c)/\∀(x:Str) H',AF H H'->Mc.Wd rs 5 x->Q (.str x) H'
theorem lg(T:Tx K mg a):AJ P w K mg base BL 2 (a.f 54) (a.d 54) ["_law_case_here","_law_cell_here","_law_most"] (l9 K):=by
 have G:=@QX P w K mg base a T;refine T.law_word.fn.ok Xx (λvs H Q E h=>?_) (λaK A outer s H vs Q E hr h=>?_)
 .obtain⟨pc,c,xs,rs,rfl,_⟩:=h;rfl
 obtain⟨pc,c,xs,rs,rfl,av,an,az,aE,aA,q⟩:=h;have aM:=Mj an;have aG:0<rs.length:=D5.mpr az;refine⟨_,(AL (BQ (i:=3) Xx.nd rfl AM (BN T.law_stream G hr rfl (AC (pv 1) (AC (AU DG (pv 2) AN) AG))))
  (AQ (BK (DX K rfl Ba Bm Bn (JI K rfl) CD (AC (GV rfl (FJ K rfl (Kh (Le K rfl) (pv 3) La (IU (AU DG AN (AU FI (CA (DR K rfl) (pv 3) (pv 2) (λ_ _=>rfl)) (pv 2)))))) (BH.of (N':=["_law_case_here","_law_cell_here","_law_most","_law_some","_law_number"]) (ms:=[]) (k:=1) (by rfl)) (λ_ _ _ _ _=>(BF (i:=4) (show List.Nodup (["_law_case_here","_law_cell_here","_law_most","_law_some","_law_number"]:List Str)from by decide +kernel) rfl AM)) (λ_ _ _ _ _=>GG) (λ_ _ _ _ _=>(CA (IY K rfl) (CA (DR K rfl) (pv 0) (AU FI (pv 4) (CY (EB K rfl) rfl T.b_len DP (AC (pv 0) AG))) (λ_ _=>rfl)) AN (λ_ _=>rfl)))) AG))))),?_⟩
 walk_at "2";refine⟨c,6,rfl,by decide,by decide,λzs st H1 ay af aF aa ap=>?_⟩;have ay:zs.length=6:=by lia
 obtain⟨z5,am⟩:∃x,zs[5]?=some x:=⟨_,A7 (by lia)⟩
 have a5:∀_:Unit,DJ (zs.map V.int) (5:Int)=some (.int z5):=λ_=>EY (j:=5) (by rw[Ax,am];rfl)
 have aN:=af z5 (Ag am);obtain⟨n,hn,aJ,aI⟩:∃n:Nat,1+z5%5=(n:Int)/\1<=n/\n<=5:=⟨(1+z5%5).toNat,by lia,by lia,by lia⟩
 have aj:=aa _ _ av;have ag:=II an aa;walk_at "2";refine⟨st,_,_,_,rfl,rfl,AH.of ap,a5 (),?_⟩;walk_at "2";refine⟨st,_,rfl,AH.of ap,λps aB=>?_⟩;rw[hn,dw];have W:=AV aB (.lst ((zs.take n).map V.int));have Z:upd H1 ps (.lst ((zs.take n).map V.int)) ps=some (.lst ((zs.take n).map V.int)):=AA;generalize upd H1 ps (.lst ((zs.take n).map V.int))=H2 at W Z⊢;have al:=W _ _ aj;have aq:=II ag W;have ar:(zs.take n).length=n:=by rw[Al];lia
 refine⟨ps,rfl,⟨_,AH.of Z⟩,λD hD=>?_⟩;refine HB (a:=ps) (xs:=(zs.take n).map V.int) (λi ys σ H3=>∃(ws:List Str) (v4:Option V),ys=ws.map V.str/\σ=[some (.ref pc),some (.int c),some (.int 5),some (.ref st),v4]/\AF H2 H3/\H3 D=some (.lst ys)/\ws.length=i/\∀x∈ws,∃c∈BR,x=sg c/\(CK rs (sg c)).isSome=true)
  ?_ ?_ ?_ ?_
 .exact⟨[],none,rfl,rfl,AV hD _,AA,rfl,λx h=>nomatch h⟩
 .rintro i ys σ H3 hi ⟨_,_,_,_,hs,_⟩;exact hs.seq (AH.of Z)
 .rintro i y ys σ H3 hy ai ⟨ws,v4,rfl,rfl,I,ad,ac,J⟩;obtain⟨z,rfl,aC⟩:=LI hy;have aH:=af z (Ea (Ag aC));rw[A6]at ai
  have aD:=Ds z (show(xs.length:Int)≠0 by lia);have aL:=Dd z (show(0:Int)<xs.length by lia);obtain⟨k,hk⟩:=Bu aD;have ak:k<xs.length:=by lia
  obtain⟨r,au,t,et,ht⟩:=FU aq (A7 ak);have ah:=Ag au;obtain⟨d,aw,ed⟩:=aA r ah;have ae:∀_:Unit,DJ xs (k:Int)=some (.ref t):=λ_=>by rw[<-et];exact EY (A7 ak)
  have Y:=I _ _ al;have ax:=I _ _ ht;walk_at "2";refine⟨pc,_,rfl,.inl (AH.of Y),?_⟩;refine⟨_,_,rfl,rfl,(by show(0:Int)<_;lia),?_⟩;dsimp only;rw[hk];refine⟨pc,_,_,_,rfl,rfl,AH.of Y,ae (),?_⟩;walk_at "2";try refine⟨t,_,_,_,rfl,rfl,BP.of ax,rfl,?_⟩
  refine EN (by rw[A6];exact ai) ad (by rw[A6];lia) ⟨ws++[r.s],_,?_,rfl,DO I hD,AA,?_,?_⟩
  .rw[Ah];rfl
  .rw[Aa,ac];rfl
  .intro x hx;rcases Az.mp hx with h|h
   .exact J x h
   .rw[Aj.mp h];exact⟨d,aw,ed,by rw[<-ed];exact l8 ah⟩
 .rintro ys σ H3 ⟨ws,v4,rfl,rfl,I,ad,ac,J⟩;rw[A6,ar]at ac
  have e0:("":Str).length=0:=by decide
  have ao:=XR (ws:=ws) λx hx=>by obtain⟨c,h1,h2,_⟩:=J x hx;exact⟨c,h1,h2⟩
  refine⟨_,D,ws,rfl,rfl,AH.of ad,by rw[ao,e0];lia,?_⟩;obtain⟨j1,j2⟩:=XN J;exact q _ H3 (aa.trans (W.trans I)) ⟨by lia,by lia,j2⟩
structure FH(rs:List CC)(p:BE):Prop where
 m:20<=p.1/\p.1<=140
 g:∃lo md hi:Int,p.2.1=[lo,md,hi]/\0<=lo/\lo<=3/\3<=md/\md<=5/\6<=hi/\hi<=15
 w:1<=p.2.2.length/\p.2.2.length<=14
 ok:∀x∈p.2.2,Mc.Wd rs 5 x/\x≠"end"
def JP(no:Addr)(H:Hp)(v:V)(p:BE):Prop:=∃t g w,v=.ref t/\H t=some (.tup [.int p.1,.ref g,.ref w])/\H g=some (.tup (p.2.1.map V.int))/\w≠no/\H w=some (.lst (p.2.2.map V.str))
theorem JP.same(h:JP no H v p)(s:∀b o,b≠no->H b=some o->H' b=some o)(F:∃xs,H no=some (.lst xs)):JP no H' v p:=by
 obtain⟨t,g,w,e,h1,h2,n,G⟩:=h;obtain⟨xs,F⟩:=F;exact⟨t,g,w,e,s _ _ (HI h1 F λz=>nomatch z) h1,s _ _ (HI h2 F λz=>nomatch z) h2,n,s _ _ n G⟩
theorem lj(h:Mc.Wd rs 5 "end"):Mc.Wd rs 5 "dne":=⟨by decide,by decide,λc F=>h.2.2 c (by
 have e:∀c∈("dne":Str).cps.toList,c∈("end":Str).cps.toList:=by decide +kernel
 exact e c F)⟩
theorem Ts(b:Bool)(x y:V):DJ [x,y] (if b=true then 1 else 0)=some (if b=true then y else x):=by cases b<;>rfl
theorem ll(zs:List Int)(i m:Nat):∃ms:List Int,DN (zs.map V.int) (some (i:Int)) (some ((i:Int)+(m:Int)))=ms.map V.int/\ms.length<=m:=by
 refine⟨(zs.drop (HT.CQ zs.length 0 (some (i:Int)))).take (HT.CQ zs.length zs.length (some ((i+m:Nat):Int))-HT.CQ zs.length 0 (some (i:Int))),?_,?_⟩
 .rw[show(i:Int)+(m:Int)=((i+m:Nat):Int) by lia];unfold DN;rw[A6,Fm,Ib]
 .rw[HT.MN,HT.MN,Al,Bx]
  lia
def lr(K:Frag):Sp:=λvs H Q _=>∃(l F:Addr) (ns:List Int) (xs:List V) (rs:List CC),vs=[.ref l,.ref F]/\AH K H l (ns.map V.int)/\H F=some (.lst xs)/\Paired (Cs.HL H) xs rs/\rs≠[]/\rs.length<=30/\(∀r∈rs,∃c∈BR,r.s=sg c) /\
 ∀(D:Addr) (zs:List V) (ps:List BE) H',H D=none->AF H H'->H' D=some (.lst zs)->ps.length<=3->Paired (JP D H') zs ps->(∀p∈ps,FH rs p)->Q (.ref D) H'
theorem lx(T:Tx K mg a):AJ P w K mg base BL 3 (a.f 55) (a.d 55) ["_law_script","_law_case_here"] (lr K):=by
 have G:=@Tq P w K mg base a T;have I:=@QX P w K mg base a T;have W:=@lg P w K mg base a T;refine T.law_paragraphs.fn.ok Lq (λvs H Q E h=>?_) (λbr A outer s H vs Q E hr h=>?_)
 .obtain⟨l,pc,ns,xs,rs,rfl,_⟩:=h;rfl
 obtain⟨l,pc,ns,xs,rs,rfl,hS,aT,bd,bf,aP,bg,q⟩:=h;refine⟨_,(AL (BQ (i:=2) Lq.nd rfl AM (DA AG))
  (AL (BQ (i:=3) Lq.nd rfl AM AN)
  (AL (GL Bb rfl (L7 rfl T.b_range (AC (AU DG AN (AU FI (AU JR (BN T.law_cell G hr rfl (AC (pv 0) (AC AN AG))) AN) AN)) AG)) (BF (i:=4) Lq.nd rfl AM) (AL (BQ (i:=5) Lq.nd rfl AM (BN T.law_stream I hr rfl (AC (AU DG (BN T.law_cell G hr rfl (AC (pv 0) (AC AN AG))) (pv 4)) (AC AN AG))))
  (AL (BQ (i:=6) Lq.nd rfl AM (AU DG AN (AU FI (CA (DR K rfl) (pv 5) AN (λ_ _=>rfl)) (CA (DR K rfl) (DA (AC AN (AC AN (AC (CA (DR K rfl) (DA (AC AN (AC AN AG))) (JT Rv rfl T.b_int OA (AC (FM KJ (CY (EB K rfl) rfl T.b_len DP (AC (pv 1) AG)) AN (BM _)) AG)) (λ_ _=>rfl)) AG)))) (AU FI (AU JR (CA (DR K rfl) (pv 5) AN (λ_ _=>rfl)) AN) AN) (λ_ _=>rfl)))))
  (AL (Mi (i:=7) Lq.nd rfl AM rfl (FJ K rfl (Kh (Le K rfl) (pv 0) (IU (pv 3)) (IU (AU DG (pv 3) (pv 6))))) (BH.of (N':=["_law_script","_law_case_here","_law_found","_law_at","_law_k","_law_some","_law_many","_law_words","_law_gaps","_law_cell_here"]) (ms:=[]) (k:=1) (by rfl)) (λ_ _ _ _ _=>(BF (i:=9) (show List.Nodup (["_law_script","_law_case_here","_law_found","_law_at","_law_k","_law_some","_law_many","_law_words","_law_gaps","_law_cell_here"]:List Str)from by decide +kernel) rfl AM)) (λ_ _ _ _ _=>GG) (λ_ _ _ _ _=>(BN T.law_word W hr rfl (AC (pv 1) (AC (pv 9) (AC AN AG))))))
  (AL (Mi (i:=7) Lq.nd rfl AM rfl (FJ K rfl (pv 7)) (BH.of (N':=["_law_script","_law_case_here","_law_found","_law_at","_law_k","_law_some","_law_many","_law_words","_law_gaps","_law_word_here"]) (ms:=[]) (k:=1) (by rfl)) (λ_ _ _ _ _=>(BF (i:=9) (show List.Nodup (["_law_script","_law_case_here","_law_found","_law_at","_law_k","_law_some","_law_many","_law_words","_law_gaps","_law_word_here"]:List Str)from by decide +kernel) rfl AM)) (λ_ _ _ _ _=>GG) (λ_ _ _ _ _=>(CA (DR K rfl) (DA (AC (pv 9) (AC CD AG))) (JT Rv rfl T.b_int OA (AC (FM EM (pv 9) CD (BM _)) AG)) (λ_ _=>rfl))))
  (AL (BQ (i:=3) Lq.nd rfl AM (AU DG (pv 3) (pv 6)))
  (AL (BQ (i:=8) Lq.nd rfl AM (EE (AC (AU FI (CA (DR K rfl) (pv 5) AN (λ_ _=>rfl)) AN) (AC (AU DG AN (AU FI (CA (DR K rfl) (pv 5) AN (λ_ _=>rfl)) AN)) (AC (AU DG AN (AU FI (CA (DR K rfl) (pv 5) AN (λ_ _=>rfl)) AN)) AG)))))
  (AQ (CF (BU (GH K rfl hr.units) (pv 7) (DA AG) (BM _)) (AQ (EJ (DX K rfl B7 Bi Bj JH (pv 2) (AC (EE (AC (AU DG AN (AU FI (CA (DR K rfl) (pv 5) AN (λ_ _=>rfl)) AN)) (AC (pv 8) (AC (pv 7) AG)))) AG)))) CP)))))))))
  (AQ (BK (pv 2)))))),?_⟩
 walk_at "2";refine λD hD=>?_
 have av:=AV hD (.lst []);have aR:upd H D (.lst []) D=some (.lst []):=AA;generalize upd H D (.lst [])=H1 at av aR⊢;walk_at "2";refine⟨l,3,ns,rfl,av.seq hS,by decide,λc3=>?_⟩;walk_at "2";refine Kv (lo:=0) (n:=(1+c3/12%3).toNat) (λi σ H2=>∃(Y:Nat) (zs:List V) (ps:List BE) (v4 v5 v6 v7 v8:Option V),σ=[some (.ref l),some (.ref pc),some (.ref D),some (.int (Y:Int)),v4,v5,v6,v7,v8]/\AF H H2/\H2 D=some (.lst zs)/\ps.length<=i/\Paired (JP D H2) zs ps/\∀p∈ps,FH rs p)
  ⟨4,[],[],none,none,none,none,none,rfl,av,aR,Af _,.nil,λp h=>nomatch h⟩ ?_ ?_
 .rintro i σ H2 hi ⟨Y,zs,ps,v4,v5,v6,v7,v8,rfl,an,af,a8,al,ao⟩;walk_at "2";refine⟨l,3,ns,rfl,an.seq hS,by decide,λc4=>?_⟩;walk_at "2";refine⟨_,5,rfl,by decide,by decide,λss st H3 aM a5 bl aB ag=>?_⟩;have aM:ss.length=5:=by lia
  obtain⟨s0,s1,s2,s3,s4,rfl⟩:∃s0 s1 s2 s3 s4,ss=[s0,s1,s2,s3,s4]:=by
   match ss,aM with
   | [s0,s1,s2,s3,s4],_=>exact⟨s0,s1,s2,s3,s4,rfl⟩
  have b0:=a5 s0 (by simp);have ag:H3 st=some (.lst [.int s0,.int s1,.int s2,.int s3,.int s4]):=ag;walk_at "2";refine⟨st,_,_,_,rfl,rfl,AH.of ag,rfl,?_⟩;walk_at "2";refine λp1 a7=>?_
  have aJ:=AV a7 (.lst [.int 14,.int 7]);have aW:upd H3 p1 (.lst [.int 14,.int 7]) p1=some (.lst [.int 14,.int 7]):=AA;generalize upd H3 p1 (.lst [.int 14,.int 7])=H4 at aJ aW⊢;have aN:=an.trans (aB.trans aJ);walk_at "2";refine⟨pc,_,rfl,.inl (AH.of (aN _ _ aT)),?_⟩;walk_at "2";refine .inr ⟨_,rfl,?_⟩;refine⟨p1,_,_,_,rfl,rfl,AH.of aW,Ts _ _ _,?_⟩;obtain⟨y3,bb,bu⟩:∃y:Int,(if decide ((8:Int)<(xs.length:Int))=true then V.int 7 else V.int 14)=.int y/\(y=7\/y=14):=by
   cases decide ((8:Int)<(xs.length:Int))with
   | true=>exact⟨7,rfl,.inl rfl⟩
   | false=>exact⟨14,rfl,.inr rfl⟩
  rw[bb];walk_at "2";refine λp2 ba=>?_
  have aE:=AV ba (.lst [.int 7,.int 7,.int y3]);have aV:upd H4 p2 (.lst [.int 7,.int 7,.int y3]) p2=some (.lst [.int 7,.int 7,.int y3]):=AA;generalize upd H4 p2 (.lst [.int 7,.int 7,.int y3])=H5 at aE aV⊢;have aw:=aJ.trans aE;have aS:=aN.trans aE;have aQ:=aw _ _ ag;walk_at "2";refine⟨st,_,_,_,rfl,rfl,AH.of aQ,rfl,?_⟩;obtain⟨y,a1,hy⟩:=Tr (xs:=[7,7,y3]) (z:=s1/4%3) (by lia) (by show s1/4%3<((3:Nat):Int);lia);have ey:∀_:Unit,DJ [V.int 7,V.int 7,V.int y3] (s1/4%3)=some (.int y):=λ_=>a1
  clear a1;have bp:7<=y/\y<=14:=by
   simp only[Am,Bf,D7]at hy
   lia
  walk_at "2";refine⟨p2,_,_,_,rfl,rfl,AH.of aV,ey (),?_⟩;have bq:=Ds s0 (show y≠0 by lia);have bn:=Dd s0 (show 0<y by lia);obtain⟨mn,aK⟩:=Bu (show 0<=1+s0%y by lia);refine⟨_,_,rfl,rfl,by show 0<y;lia,?_⟩;dsimp only;walk_at "2";refine⟨l,_,rfl,aS.seq hS,λp3 a6=>?_⟩;obtain⟨ms,aq,bo⟩:=ll ns Y mn;rw[show((mn:Nat):Int)=1+s0%y from aK.symm]at aq
  rw[aq];have am:=AV a6 (.lst (ms.map V.int));have az:upd H5 p3 (.lst (ms.map V.int)) p3=some (.lst (ms.map V.int)):=AA;generalize upd H5 p3 (.lst (ms.map V.int))=H6 at am az⊢;have ai:=aS.trans am;refine⟨p3,rfl,⟨_,AH.of az⟩,λE1 aD=>?_⟩;refine HB (a:=p3) (xs:=ms.map V.int) (λj ys σ H7=>∃(ws:List Str) (v9:Option V),ys=ws.map V.str/\σ=[some (.ref l),some (.ref pc),some (.ref D),some (.int (Y:Int)),some (.int (0+(i:Int))),some (.ref st),some (.int (1+s0%y)),v7,v8,v9]/\AF H6 H7/\H7 E1=some (.lst ys)/\ws.length=j/\∀x∈ws,Mc.Wd rs 5 x)
   ?_ ?_ ?_ ?_
  .exact⟨[],none,rfl,rfl,AV aD _,AA,rfl,λx h=>nomatch h⟩
  .rintro j ys σ H7 hj ⟨_,_,_,_,hs,_⟩;exact hs.seq (AH.of az)
  .rintro j y' ys σ H7 aI ah ⟨ws,v9,rfl,rfl,ae,aj,ay,aC⟩;obtain⟨z,rfl,bv⟩:=LI aI;rw[A6]at ah
   have aH:=ai.trans ae;walk_at "2";refine⟨pc,z,xs,rs,rfl,aH _ _ aT,II bd aH,bf,aP,bg,λx H8 ac hx=>?_⟩;refine EN (by rw[A6];exact ah) (ac _ _ aj) (by rw[A6];lia) ⟨ws++[x],_,by rw[Ah];rfl,rfl,DO (ae.trans ac) aD,AA,by rw[Aa,ay];rfl,λz hz=>?_⟩;rcases Az.mp hz with h|h
   .exact aC z h
   .rw[Aj.mp h];exact hx
  .rintro ys σ H7 ⟨ws,v9,rfl,rfl,ae,aj,ay,aC⟩;rw[A6]at ay
   have aH:=ai.trans ae;have bj:=ai.free aD;walk_at "2";refine⟨⟨_,AH.of aj⟩,λE2 ak=>?_⟩;refine HB (a:=E1) (xs:=ws.map V.str) (λj ys σ H8=>∃(us:List Str) (v9:Option V),ys=us.map V.str/\σ=[some (.ref l),some (.ref pc),some (.ref D),some (.int (Y:Int)),some (.int (0+(i:Int))),some (.ref st),some (.int (1+s0%y)),some (.ref E1),v8,v9]/\AF H7 H8/\H8 E2=some (.lst ys)/\us.length=j/\∀x∈us,Mc.Wd rs 5 x/\x≠"end")
    ?_ ?_ ?_ ?_
   .exact⟨[],none,rfl,rfl,AV ak _,AA,rfl,λx h=>nomatch h⟩
   .rintro j ys σ H8 hj ⟨_,_,_,_,hs,_⟩;exact hs.seq (AH.of aj)
   .rintro j y' ys σ H8 aI ah ⟨us,v9,rfl,rfl,ac,au,aF,ap⟩;obtain⟨x,rfl,bc⟩:=Sb aI;rw[A6]at ah
    have hx:=aC x (Ag bc);walk_at "2";refine λp4 a'=>?_
    have J:=AV a' (.lst [.str x,.str "dne"]);have aX:upd H8 p4 (.lst [.str x,.str "dne"]) p4=some (.lst [.str x,.str "dne"]):=AA;generalize upd H8 p4 (.lst [.str x,.str "dne"])=H9 at J aX⊢;walk_at "2";refine .inr ⟨_,rfl,?_⟩;refine⟨p4,_,_,_,rfl,rfl,AH.of aX,Ts _ _ _,?_⟩;obtain⟨u,eu,hu⟩:∃u:Str,(if decide (V.str x=V.str "end")=true then V.str "dne" else V.str x)=.str u/\Mc.Wd rs 5 u/\u≠"end":=by
     rw[FP];by_cases e:x="end"
     .rw[Ae e];exact⟨_,rfl,lj (e ▸ hx),by decide +kernel⟩
     .rw[Ai e];exact⟨x,rfl,hx,e⟩
    rw[eu];refine EN (by rw[A6];exact ah) (J _ _ au) (by rw[A6];lia) ⟨us++[u],_,by rw[Ah];rfl,rfl,DO (ac.trans J) ak,AA,by rw[Aa,aF];rfl,λz hz=>?_⟩;rcases Az.mp hz with h|h
    .exact ap z h
    .rw[Aj.mp h];exact hu
   .rintro ys σ H8 ⟨us,v9,rfl,rfl,ac,au,aF,ap⟩;rw[A6]at aF
    have a4:=ae.trans ac;have a9:=ai.trans a4;have aZ:=aw.trans (am.trans a4);have aa:=aZ _ _ ag;have ar:E2≠D:=λz=>by rw[z,(aB.trans (aw.trans (am.trans ae))) _ _ af]at ak;cases ak
    walk_at "2";refine⟨st,_,_,_,rfl,rfl,AH.of aa,rfl,?_⟩;walk_at "2";refine⟨st,_,_,_,rfl,rfl,AH.of aa,rfl,?_⟩;walk_at "2";refine⟨st,_,_,_,rfl,rfl,AH.of aa,rfl,?_⟩;walk_at "2";refine λtg bh=>?_
    have J:=AV bh (.tup [.int (s1%4),.int (3+s2%3),.int (6+s3%10)]);have a0:upd H8 tg (.tup [.int (s1%4),.int (3+s2%3),.int (6+s3%10)]) tg=some (.tup [.int (s1%4),.int (3+s2%3),.int (6+s3%10)]):=AA;generalize upd H8 tg (.tup [.int (s1%4),.int (3+s2%3),.int (6+s3%10)])=H9 at J a0⊢;have aL:=J _ _ au;walk_at "2";refine λp5 be=>?_
    have Z:=AV be (.lst []);have aO:upd H9 p5 (.lst []) p5=some (.lst []):=AA;generalize upd H9 p5 (.lst [])=Ha at Z aO⊢;have aY:=a9.trans (J.trans Z);have aU:=aB.trans (aZ.trans (J.trans Z));have ax:=aU _ _ af;have a3:∀{Hb:Hp},(∀b o,b≠D->Ha b=some o->Hb b=some o)->Paired (JP D Hb) zs ps:=λ{Hb} s=>Paired.mapP al λ_ _ z=>z.same (λb o n e=>s b o n (aU b o e)) ⟨_,af⟩
    refine⟨FX us,.list [],.lst (AH.of (Z _ _ aL)) (Li λx hx=>(ap x hx).1.lay),.lst (AH.of aO) .nil,by have:(PyData.list []).depth=1:=rfl;lia,?_⟩;refine⟨_,rfl,?_⟩;cases us with
    | nil =>
      refine AR ?_;walk_at "2";exact⟨Y+mn,zs,ps,_,_,_,_,_,by rw[Gu,show((mn:Nat):Int)=1+s0%y from aK.symm];rfl,aY,ax,by lia,a3 λb o _ e=>e,ao⟩
    | cons u us =>
      refine BB ?_;walk_at "2";refine⟨.inl ⟨rfl,_,AH.of ax⟩,?_⟩;walk_at "2";refine⟨st,_,_,_,rfl,rfl,AH.of ((J.trans Z) _ _ aa),rfl,?_⟩;walk_at "2";refine λt ht=>?_
      have ad:=AV ht (.tup [.int (20+s4%121),.ref tg,.ref E2]);have aG:upd Ha t (.tup [.int (20+s4%121),.ref tg,.ref E2]) t=some (.tup [.int (20+s4%121),.ref tg,.ref E2]):=AA;generalize upd Ha t (.tup [.int (20+s4%121),.ref tg,.ref E2])=Hb at ad aG⊢;have aA:=ad _ _ ax;have bt:=Bh al;have bi:ps.length<=3:=by lia
      refine⟨D,_,_,rfl,rfl,aA,IV (by lia),?_⟩;refine⟨Y+mn,zs++[.ref t],ps++[(20+s4%121,[s1%4,3+s2%3,6+s3%10],u::us)],_,_,_,_,_,by rw[Gu,show((mn:Nat):Int)=1+s0%y from aK.symm];rfl,DO (aY.trans ad) hD,AA,by rw[Aa];show _+1<=_;lia,Ce (a3 λb o n e=>by rw[BV n];exact ad b o e) ⟨t,tg,E2,rfl,?_,?_,ar,?_⟩,λp hp=>?_⟩
      .rw[BV (HI aG aA λz=>nomatch z)];exact aG
      .have a2:=(Z.trans ad) _ _ a0;rw[BV (HI a2 aA λz=>nomatch z)];exact a2
      .rw[BV ar];exact(Z.trans ad) _ _ aL
      .rcases Az.mp hp with h|h
       .exact ao p h
       .rw[Aj.mp h];exact⟨⟨by show 20<=20+s4%121;lia,by show 20+s4%121<=140;lia⟩,⟨_,_,_,rfl,by lia,by lia,by lia,by lia,by lia,by lia⟩,⟨by show 1<=(u::us).length;rw[B8];lia,by show(u::us).length<=14;lia⟩,ap⟩
 .rintro σ H2 ⟨Y,zs,ps,v4,v5,v6,v7,v8,rfl,an,af,a8,al,ao⟩;walk_at "2";exact q D zs ps H2 hD an af (by lia) al ao
def Kq(p:BE):List HP:=[.ms p.1,.gp (p.2.1.getD 0 0) (p.2.1.getD 1 0) (p.2.1.getD 2 0),.st p.2.2]
def jb(tw:Int)(k:Nat)(p:BE):List (CS 4):=if (k:Int)=tw then [(Sum.inr (2,(Kq p).map λb=>(Sum.inl b:CS 3)):CS 4)]else(Kq p).map λb=>(Sum.inl b:CS 4)
def GZ(tw:Int):Nat->List BE->List (List (CS 4))
 | _,[]=>[]
 | k,p::ps=>jb tw k p::GZ tw (k+1) ps
theorem XS(tw:Int):∀(ps:List BE) (k:Nat) (p:BE),GZ tw k (ps++[p])=GZ tw k ps++[jb tw (k+ps.length) p]
 | [],k,p=>rfl
 | x::ps,k,p=>by
   show jb tw k x::GZ tw (k+1) (ps++[p])=_;rw[XS tw ps (k+1) p,show k+1+ps.length=k+(x::ps).length by rw[B8];lia];rfl
theorem QY(tw:Int):∀(ps:List BE) (k:Nat),(GZ tw k ps).length=ps.length
 | [],_=>rfl
 | _::ps,k=>Bs (·+ 1) (QY tw ps (k+1))
theorem QZ{tw:Int}:∀{ps:List BE}{k:Nat}{js:List (CS 4)},js∈GZ tw k ps->∃p∈ps,∃i,js=jb tw i p
 | p::ps,k,js,h=>by
   rcases Am.mp h with h|h
   .exact⟨p,Ab,k,h⟩
   .obtain⟨x,F,i,e⟩:=QZ h;exact⟨x,Ac _ F,i,e⟩
abbrev IF(tw:Int)(ps:List BE):List (CS 4):=(GZ tw 0 ps).flatten
def Kr(p:BE):List Str:=[("measure":Str),AK p.1,("gaps":Str),AK (p.2.1.getD 0 0),AK (p.2.1.getD 1 0),AK (p.2.1.getD 2 0)]++(("set":Str)::p.2.2++[("end":Str)])
theorem XT(tw:Int)(k:Nat)(p:BE):DC 4 (jb tw k p)=if (k:Int)=tw then [("2":Str),("times":Str),("(":Str)]++Kr p++[(")":Str)]else Kr p:=by
 have e:("2":Str)=AK (2:Nat):=by decide +kernel
 unfold jb;split
 .rw[e];show([_,_,_]++(_++(_++(_++[])))++[_])++[]=_;rw[Av,Av];rfl
 .show _++(_++(_++[]))=_;rw[Av];rfl
theorem ly(tw:Int)(k:Nat)(p:BE):jb tw k p≠[]:=by
 unfold jb;split<;>exact λz=>nomatch z
theorem lz{m a b c:Int}{ws:List Str}(hw:ws≠[]):("measure ":Str)++AK m++(" gaps ":Str)++AD [AK a,AK b,AK c]++(" set ":Str)++AD ws++(" end":Str)=AD (Kr (m,[a,b,c],ws)):=by
 have Z:("measure ":Str)=("measure":Str)++(" ":Str):=by decide +kernel
 have e2:(" gaps ":Str)=(" ":Str)++(("gaps":Str)++(" ":Str)):=by decide +kernel
 have W:(" set ":Str)=(" ":Str)++(("set":Str)++(" ":Str)):=by decide +kernel
 have J:(" end":Str)=(" ":Str)++("end":Str):=by decide +kernel
 show _=AD (("measure":Str)::AK m::("gaps":Str)::([AK a,AK b,AK c]++(("set":Str)::(ws++[("end":Str)]))));have I:∀(y z:Str) (r:List Str),AD (y::z::r)=y++(" ":Str)++AD (z::r):=λy z r=>KY y (Cb _ _)
 have F:∀(y:Str) (u v:List Str),u≠[]->v≠[]->AD (y::(u++v))=y++(" ":Str)++(AD u++(" ":Str)++AD v):=λy u v G Y=>by
  rw[KY y (λz=>G (Du.mp z).1),Pf G Y]
 rw[I ("measure":Str) (AK m),I (AK m) ("gaps":Str),F ("gaps":Str) [AK a,AK b,AK c] _ (Cb _ _) (Cb _ _),F ("set":Str) ws _ hw (Cb _ _),Kn,Z,e2,W,J];simp only[X2]
theorem lA{r:List Str}(h:r≠[]):AD ([("2":Str),("times":Str),("(":Str)]++r++[(")":Str)])=("2 times ( ":Str)++AD r++(" )":Str):=by
 have G:("2 times ( ":Str)=AD [("2":Str),("times":Str),("(":Str)]++(" ":Str):=by decide +kernel
 have F:(" )":Str)=(" ":Str)++(")":Str):=by decide +kernel
 rw[Pf (a:=[("2":Str),("times":Str),("(":Str)]++r) (Cb _ _) (Cb _ _),Pf (Cb _ _) h,Kn,G,F];simp only[X2]
theorem lB{tw:Int}{ps:List BE}:AD ((GZ tw 0 ps).map λjs=>Cp.CZ 4 js)=Cp.CZ 4 (IF tw ps):=by
 have:=QB (xss:=(GZ tw 0 ps).map λjs=>DC 4 js) λys G=>by
  obtain⟨js,F,rfl⟩:=Bw.mp G;obtain⟨p,_,i,rfl⟩:=QZ F;exact λz=>ly _ _ _ (QD z)
 rw[Ff]at this
 have e:∀xs:List (List (CS 4)),(xs.map λjs=>DC 4 js).flatten=DC 4 xs.flatten:=λxs=>by
  induction xs with
  | nil=>rfl
  | cons x xs ih =>
    rw[Bq,Cr,ih,Cr];exact Ef.symm
 rw[e]at this
 exact this
theorem FH.word(h:FH rs p):∀x∈p.2.2,Jb.HZ x:=λx G=>by
 obtain⟨⟨h1,h2,I⟩,F⟩:=h.ok x G;have e:x.cps.toList.length=x.length:=Au;exact⟨by lia,by lia,λc J=>(I c J).1,F⟩
theorem FH.good{rs:List CC}{p:BE}(h:FH rs p){tw:Int}{k:Nat}:∀j∈jb tw k p,HH 4 j:=by
 obtain⟨lo,md,hi,e,G,Z,W,I,Y,J⟩:=h.g;have hb:∀b∈Kq p,Nh b:=λb hb=>by
  unfold Kq at hb;rw[e]at hb
  simp only[Am,Bf,D7]at hb;rcases hb with rfl|rfl|rfl
  .exact⟨by have:=h.m;lia,by have:=h.m;lia⟩
  .exact⟨G,by show lo<=md;lia,by show md<=hi;lia,by show hi<=99;lia⟩
  .exact⟨h.w.1,by have:=h.w.2;lia,h.word⟩
 intro j F;unfold jb at F;split at F
 .rw[Aj.mp F];refine⟨by decide,by decide,Cb _ _,by show 3<=100;decide,λj F=>?_⟩;obtain⟨b,h1,rfl⟩:=Bw.mp F;exact hb b h1
 .obtain⟨b,h1,rfl⟩:=Bw.mp F;exact hb b h1
theorem lC(h:∀p∈ps,FH rs p):∀j∈IF tw ps,HH 4 j:=λj G=>by
 obtain⟨js,h1,h2⟩:=List.mem_flatten.mp G;obtain⟨p,F,i,rfl⟩:=QZ h1;exact(h p F).good j h2
theorem XU{rs:List CC}{p:BE}(h:FH rs p)(tw:Int)(k:Nat):(DC 4 (jb tw k p)).length<=26:=by
 have hw:=h.w.2;have e:(Kr p).length=p.2.2.length+8:=by
  show([_,_,_,_,_,_]++(_::p.2.2++[_])).length=_;rw[Aa,Aa,B8];show 6+(p.2.2.length+1+1)=_
  lia
 rw[XT];split
 .rw[Aa,Aa,e];show 3+_+1<=_
  lia
 .lia
theorem XW:∀{ps:List BE}{k:Nat},(∀p∈ps,FH rs p)->(DC 4 (GZ tw k ps).flatten).length<=ps.length*26
 | [],_,_=>B9 _
 | p::ps,k,h=>by
   have h1:=XU (h p Ab) tw k;have h2:=XW (tw:=tw) (k:=k+1) λq F=>h q (Ac _ F)
   show(((jb tw k p)++(GZ tw (k+1) ps).flatten).flatMap _).length<=_;rw[Ef,Aa,B8,G0];have h1:((jb tw k p).flatMap (EI 4)).length<=26:=h1;have h2:((GZ tw (k+1) ps).flatten.flatMap (EI 4)).length<=ps.length*26:=h2
   lia
theorem XX{n:Int}(F:0<=n)(h1:n<=2000):(AK n).length<=12:=by
 rw[<-show(AK n).cps.toList.length=(AK n).length from Au];exact(Nm F h1).l2
theorem Mw{x y:Str}{m n:Nat}(h1:x.length<=m)(h2:y.length<=n):(x++y).length<=m+n:=by
 rw[Bl]
 lia
def lD:Sp:=λvs H Q _=>∃(D:Addr) (tw:Int) (zs:List V) (ps:List BE) (rs:List CC),vs=[.ref D,.int tw]/\H D=some (.lst zs)/\Paired (JP D H) zs ps/\ps.length<=3/\(∀p∈ps,FH rs p)/\∀H',AF H H'->Q (.str (Cp.CZ 4 (IF tw ps))) H'
theorem lE(T:Tx K mg a):AJ P w K mg base BL 1 (a.f 56) (a.d 56) ["_law_paragraphs_here","_law_twice"] lD:=by
 refine T.law_copy.fn.ok M8 (λvs H Q E h=>?_) (λaC A outer s H vs Q E hr h=>?_)
 .obtain⟨D,tw,zs,ps,rs,rfl,_⟩:=h;rfl
 obtain⟨D,tw,zs,ps,rs,rfl,hD,an,au,af,q⟩:=h;have aE:=Bh an;have e1:(" ":Str).length=1:=by decide
 refine⟨_,(AL (BQ (i:=2) M8.nd rfl AM (DA AG))
  (AL (GL Bb rfl (L7 rfl T.b_range (AC (CY (EB K rfl) rfl T.b_len DP (AC (pv 0) AG)) AG)) (BF (i:=3) M8.nd rfl AM) (AL (IG (CA (DR K rfl) (pv 0) (pv 3) (λ_ _=>rfl)) (FO K rfl (n:=3) rfl (BY (BF (i:=4) M8.nd rfl AM) (BY (BF (i:=5) M8.nd rfl AM) (BY (BF (i:=6) M8.nd rfl AM) FL)))))
  (AL (BQ (i:=7) M8.nd rfl AM (AU Kw (AU Kw (AU Kw CD (JT Qy rfl T.b_str PQ (AC (pv 4) AG))) CD) (DX K rfl Ba Bm Bn (JI K rfl) CD (AC (GV rfl (UO K rfl (pv 5)) (BH.of (N':=["_law_paragraphs_here","_law_twice","_law_jobs","_law_k","_law_measure","_law_gaps","_law_words","_law_row","_law_gap"]) (ms:=[]) (k:=1) (by rfl)) (λ_ _ _ _ _=>(BF (i:=8) (show List.Nodup (["_law_paragraphs_here","_law_twice","_law_jobs","_law_k","_law_measure","_law_gaps","_law_words","_law_row","_law_gap"]:List Str)from by decide +kernel) rfl AM)) (λ_ _ _ _ _=>GG) (λ_ _ _ _ _=>(JT Qy rfl T.b_str PQ (AC (pv 8) AG)))) AG))))
  (AL (BQ (i:=7) M8.nd rfl AM (AU Kw (AU Kw (AU Kw (pv 7) CD) (DX K rfl Ba Bm Bn (JI K rfl) CD (AC (pv 6) AG))) CD))
  (AL (NH (CF (BU EM (pv 3) (pv 1) (BM _)) (AQ (BQ (i:=7) M8.nd rfl AM (AU Kw (AU Kw CD (pv 7)) CD))) CP))
  (AQ (EJ (DX K rfl B7 Bi Bj JH (pv 2) (AC (pv 7) AG)))))))))
  (AQ (BK (DX K rfl Ba Bm Bn (JI K rfl) CD (AC (pv 2) AG)))))),?_⟩
 walk_at "2";refine λJ hJ=>?_
 have ad:=AV hJ (.lst []);have ai:upd H J (.lst []) J=some (.lst []):=AA;generalize upd H J (.lst [])=H1 at ad ai⊢;walk_at "2";refine⟨D,_,rfl,.inl (AH.of (ad _ _ hD)),?_⟩;walk_at "2";refine Kv (lo:=0) (n:=(zs.length:Int).toNat) (λi σ H2=>∃(v3 v4 v5 v6 v7:Option V),σ=[some (.ref D),some (.int tw),some (.ref J),v3,v4,v5,v6,v7]/\AF H H2/\H2 J=some (.lst (((GZ tw 0 (ps.take i)).map λjs=>Cp.CZ 4 js).map V.str)))
  ⟨none,none,none,none,none,rfl,ad,ai⟩ ?_ ?_
 .rintro i σ H2 hi ⟨v3,v4,v5,v6,v7,rfl,I,aa⟩;have aj:i<zs.length:=by lia
  obtain⟨p,ak,t,g,w',et,ht,hg,aD,hw⟩:=FU an (A7 aj);obtain⟨m,gs,ws⟩:=p;have pa:=af _ (Ag ak);obtain⟨lo,md,G,e,g1,g2,g3,g4,g5,g6⟩:=pa.g;have e:gs=[lo,md,G]:=e;subst e;have ht:H t=some (.tup [.int m,.ref g,.ref w']):=ht;have hg:H g=some (.tup [.int lo,.int md,.int G]):=hg;have hw:H w'=some (.lst (ws.map V.str)):=hw;have hm:=pa.m;have hm:20<=m/\m<=140:=hm;have W:=pa.w;have W:1<=ws.length/\ws.length<=14:=W;have aA:∀x∈ws,x.length<=5:=λx hx=>(pa.ok x hx).1.2.1
  have ax:∀_:Unit,DJ zs (0+(i:Int))=some (.ref t):=λ_=>by rw[El,<-et];exact EY (A7 aj)
  have aw:GZ tw 0 (ps.take (i+1))=GZ tw 0 (ps.take i)++[jb tw i (m,[lo,md,G],ws)]:=by
   rw[Ay,ak];show GZ tw 0 (ps.take i++[_])=_;rw[XS,Al,Eb,Dq (by lia)]
  have ap:(ws.map (·.length)).sum+ws.length*(" ":Str).length<=84:=by
   have a:=KP (λx:Str=>x.length) 5 14 ws aA W.2;have a:(ws.map (·.length)).sum<=14*5:=a;rw[e1]
   lia
  have az:(AD ws).length<=84:=by
   have b:=Cn " " ws;have b:(Str.join " " ws).length<=(ws.map (·.length)).sum+ws.length*(" ":Str).length:=b;unfold AD Txt.join;rw[Bp]
   lia
  have n1:=XX (n:=m) (by lia) (by lia);have hn:∀x∈[AK lo,AK md,AK G],x.length<=12:=λx hx=>by
   simp only[Am,Bf,D7]at hx;rcases hx with rfl|rfl|rfl<;>exact XX (by lia) (by lia)
  have ae:([AK lo,AK md,AK G].map (·.length)).sum+[AK lo,AK md,AK G].length*(" ":Str).length<=39:=by
   have a:=KP (λx:Str=>x.length) 12 3 [AK lo,AK md,AK G] hn (Af 3);have a:([AK lo,AK md,AK G].map (·.length)).sum<=3*12:=a;rw[e1];show _+3*1<=_
   lia
  have hl3:(AD [AK lo,AK md,AK G]).length<=39:=by
   have b:=Cn " " [AK lo,AK md,AK G];have b:(Str.join " " [AK lo,AK md,AK G]).length<=([AK lo,AK md,AK G].map (·.length)).sum+[AK lo,AK md,AK G].length*(" ":Str).length:=b;unfold AD Txt.join;rw[Bp]
   lia
  walk_at "2";refine⟨D,_,_,_,rfl,rfl,AH.of (I _ _ hD),ax (),?_⟩;refine⟨_,_,rfl,BP.of (I _ _ ht),rfl,?_⟩;walk_at "1";walk_at "1";walk_at "1";have a1:("measure ":Str).length<=8:=by decide
  have a2:=Mw a1 n1;have a3:=Mw a2 (show(" gaps ":Str).length<=6 by decide);have a4:=Mw a3 hl3;have a5:=Mw a4 (show(" set ":Str).length<=5 by decide);have a6:=Mw a5 az;have a7:=Mw a6 (show(" end":Str).length<=4 by decide);walk_at "2";refine⟨DD (by rw[<-Bl];exact B3 a2 (by decide)),?_⟩;walk_at "2";refine⟨DD (by rw[<-Bl];exact B3 a3 (by decide)),?_⟩;walk_at "2";refine⟨⟨_,BP.of (I _ _ hg)⟩,λE1 am=>?_⟩;refine UN (a:=g) (xs:=[lo,md,G].map V.int) (λj ys σ H3=>∃(v8:Option V),ys=(([lo,md,G].take j).map AK).map V.str/\σ=[some (.ref D),some (.int tw),some (.ref J),some (.int (0+(i:Int))),some (.int m),some (.ref g),some (.ref w'),v7,v8]/\AF H2 H3/\H3 E1=some (.lst ys))
   ?_ ?_ ?_ ?_
  .exact⟨none,rfl,rfl,AV am _,AA⟩
  .rintro j ys σ H3 hj ⟨_,_,_,hs,_⟩;exact BP.of ((I.trans hs) _ _ hg)
  .rintro j y ys σ H3 hy aB ⟨v8,rfl,rfl,Z,Y⟩;obtain⟨z,rfl,aq⟩:=LI hy;have hz:0<=z/\z<=15:=by
    have:=Ag aq;simp only[Am,Bf,D7]at this
    lia
   walk_at "2";refine EN aB Y (by rw[A6,A6,Al];exact B3 (Im _ _) (by show 3<=100000;decide)) ⟨_,?_,rfl,DO Z am,AA⟩;rw[Ay,aq,Ah,Ah];rfl
  .rintro ys σ H3 ⟨v8,rfl,rfl,Z,Y⟩;have al:=I.trans Z;have Y:H3 E1=some (.lst ([AK lo,AK md,AK G].map V.str)):=Y;refine⟨_,E1,[AK lo,AK md,AK G],rfl,rfl,AH.of Y,B3 ae (by decide),?_⟩;walk_at "2";refine⟨DD (by rw[<-Bl];exact B3 a4 (by decide)),?_⟩;walk_at "2";refine⟨DD (by rw[<-Bl];exact B3 a5 (by decide)),?_⟩;walk_at "2";refine⟨_,w',ws,rfl,rfl,AH.of (al _ _ hw),B3 ap (by decide),?_⟩;walk_at "2";refine⟨DD (by rw[<-Bl];exact B3 a6 (by decide)),?_⟩;walk_at "2";refine⟨DD (by rw[<-Bl];exact B3 a7 (by decide)),?_⟩;have ac:=lz (m:=m) (a:=lo) (b:=md) (c:=G) (ws:=ws) (λz=>by rw[z]at W;exact absurd W.1 (by decide));have ay:Txt.join (" ":Str) [AK lo,AK md,AK G]=AD [AK lo,AK md,AK G]:=rfl;have ar:Txt.join (" ":Str) ws=AD ws:=rfl;rw[ac]at a7
   rw[ay,ar,ac];generalize ah:AD (Kr (m,[lo,md,G],ws))=ag at a7⊢;refine⟨λσ H4=>σ=[some (.ref D),some (.int tw),some (.ref J),some (.int (0+(i:Int))),some (.int m),some (.ref g),some (.ref w'),some (.str (Cp.CZ 4 (jb tw i (m,[lo,md,G],ws))))]/\H4=H3,?_,?_⟩
   .walk_at "2";have ec:decide (V.int (0+(i:Int))=V.int tw)=decide ((i:Int)=tw):=by rw[El];exact Ca.mpr ⟨λz=>V.int.inj z,λz=>by rw[z]⟩
    rw[ec];have av:Cp.CZ 4 (jb tw i (m,[lo,md,G],ws))=if (i:Int)=tw then("2 times ( ":Str)++ag++(" )":Str)else ag:=by
     unfold Cp.CZ;rw[XT];split
     .rw[lA (r:=Kr (m,[lo,md,G],ws)) (Cb _ _),ah]
     .exact ah
    rw[av];by_cases c:(i:Int)=tw
    .rw[Ae c,Ar c];refine BB ?_;walk_at "2";have b1:=Mw (show("2 times ( ":Str).length<=10 by decide) a7;have b2:=Mw b1 (show(" )":Str).length<=2 by decide);refine⟨DD (by rw[<-Bl];exact B3 b1 (by decide)),?_⟩;walk_at "2";refine⟨DD (by rw[<-Bl];exact B3 b2 (by decide)),?_⟩;exact⟨rfl,rfl⟩
    .rw[Ai c,Aq c];refine AR ?_;exact⟨rfl,rfl⟩
   .rintro σ H4 ⟨rfl,rfl⟩;have ao:=Z _ _ aa;walk_at "2";refine⟨.inl ⟨rfl,_,AH.of ao⟩,?_⟩;walk_at "2";refine⟨J,_,_,rfl,rfl,ao,IV (by rw[A6,A6,QY,Al];lia),?_⟩;refine⟨_,_,_,_,_,rfl,DO al hJ,?_⟩;rw[AA,aw,Ah,Ah];rfl
 .rintro σ H2 ⟨v3,v4,v5,v6,v7,rfl,I,aa⟩;rw[Ak (by lia)]at aa
  walk_at "2";refine⟨_,J,_,rfl,rfl,AH.of aa,?_,?_⟩
  .have hx:∀x∈(GZ tw 0 ps).map λjs=>Cp.CZ 4 js,x.length<=338:=λx hx=>by
    obtain⟨js,hj,rfl⟩:=Bw.mp hx;obtain⟨p,hp,k,rfl⟩:=QZ hj;have h1:=XU (af p hp) tw k;have h2:=Cp.Pa (O4 (af p hp).good (d:=4) (js:=jb tw k p));rw[<-show(Cp.CZ 4 (jb tw k p)).cps.toList.length=(Cp.CZ 4 (jb tw k p)).length from Au];have h2:(Cp.CZ 4 (jb tw k p)).cps.toList.length<=13*(DC 4 (jb tw k p)).length:=h2
    lia
   have a:=KP (λx:Str=>x.length) 338 3 ((GZ tw 0 ps).map λjs=>Cp.CZ 4 js) hx (by rw[A6,QY];exact au);have a:(((GZ tw 0 ps).map λjs=>Cp.CZ 4 js).map (·.length)).sum<=3*338:=a;rw[e1,A6,QY]
   lia
  .have e:=lB (tw:=tw) (ps:=ps);have q:=q H2 I;rw[<-e]at q
   exact q
def lF:Sp:=λvs H Q _=>∃t o:Int,vs=[.int t,.int o]/\0<=t/\0<=o/\o<128/\Q (.bl (Mt.has t o)) H
theorem lG(T:Tx K mg a):AJ P w K mg base BL 1 (a.f 1) (a.d 1) ["teeth","others"] lF:=by
 refine T.has_all.fn.ok jJ (λvs H Q E h=>?_) (λG A outer s H vs Q E I h=>?_)
 .obtain⟨t,o,rfl,_⟩:=h;rfl
 obtain⟨t,o,rfl,h1,h2,F,q⟩:=h;refine⟨_,(AQ (BK (FM EM (AU Ze (pv 0) (pv 1)) (pv 1) (BM _)))),?_⟩;walk_at "2";rw[Ki,Mt.dX h1 h2 F];exact q
def lH(K:Frag):Sp:=λvs H Q _=>∃(l:Addr) (t:Int) (cs:List Int),vs=[.ref l,.int t]/\AH K H l (cs.map V.int)/\(∀c∈cs,0<=c)/\0<=t/\t<128/\∀H',AF H H'->Q (MX (IE cs t)) H'
theorem lI(T:Tx K mg a):AJ P w K mg base BL 2 (a.f 2) (a.d 2) ["codes","teeth"] (lH K):=by
 have F:=@lG P w K mg base a T;refine T.falls_at.fn.ok Tb (λvs H Q E h=>?_) (λaa A outer s H vs Q E hr h=>?_)
 .obtain⟨l,t,cs,rfl,_⟩:=h;rfl
 obtain⟨l,t,cs,rfl,hS,hc,h0,h1,q⟩:=h;refine⟨_,(AL (GL Bb rfl (S3 K rfl rfl T.b_enumerate (AC (pv 0) AG)) (FO K rfl (n:=2) rfl (BY (BF (i:=2) Tb.nd rfl AM) (BY (BF (i:=3) Tb.nd rfl AM) FL))) (AQ (CF (IC (BN T.has_all F hr rfl (AC (pv 3) (AC (pv 1) AG)))) (AQ (BK (pv 2))) CP)))
  (AQ (BK Lu))),?_⟩
 walk_at "2";refine⟨⟨_,hS⟩,?_⟩;refine RN (a:=l) (xs:=cs.map V.int) (λi σ H2=>∃(v1 Z:Option V),σ=[some (.ref l),some (.int t),v1,Z]/\AF H H2/\∀(j:Nat) J,j<i->cs[j]?=some J->Mt.has J t=false)
  ⟨none,none,rfl,AF.refl _,λj _ h=>absurd h (Cg _)⟩ (by rintro i σ H2 _ ⟨_,_,_,Y,_⟩;exact Y.seq hS) ?_ ?_
 .rintro i y p σ H2 hy ⟨v1,Z,rfl,Y,hb⟩ hp;obtain⟨c,rfl,G⟩:=LI hy;have W:=FN (o:=.tup [.int i,.int c]) Y hp;walk_at "2";walk_at "1";walk_at "1";walk_at "2";refine⟨_,_,rfl,hc c (Ag G),h0,h1,?_⟩;walk_at "2";cases e:Mt.has c t with
  | true =>
    refine BB ?_;walk_at "2";have:=q _ W;rw[Mt.UQ G e hb]at this
    exact this
  | false =>
    refine AR ?_;refine⟨_,_,rfl,W,λj J hj I=>?_⟩;by_cases z:j=i
    .subst z;rw[G]at I
     cases I;exact e
    .exact hb j J (by lia) I
 .rintro σ H2 ⟨v1,Z,rfl,Y,hb⟩;have:=q _ Y;rw[Mt.dY (λj J hj=>hb j J (by rw[A6];exact hj))]at this
  exact this
def lJ(K:Frag):Sp:=λvs H Q _=>∃(l:Addr) (x:Str) (rs:List CC),vs=[.ref l,.str x]/\Cs.IJ K H l rs/\∀H',AF H H'->Q (MX (CK rs x)) H'
theorem R1(T:Tx K mg a):AJ P w K mg base BL 1 (a.f 4) (a.d 4) ["case","sign"] (lJ K):=by
 refine T.channel_of.fn.ok Tc (λvs H Q E h=>?_) (λaa A outer s H vs Q E hr h=>?_)
 .obtain⟨l,x,rs,rfl,_⟩:=h;rfl
 obtain⟨l,x,rs,rfl,⟨xs,hS,hp⟩,q⟩:=h;refine⟨_,(AL (GL Bb rfl (S3 K rfl rfl T.b_enumerate (AC (pv 0) AG)) (FO K rfl (n:=2) rfl (BY (BF (i:=2) Tc.nd rfl AM) (BY (BF (i:=3) Tc.nd rfl AM) FL))) (AQ (CF (BU EM (CA (IY K rfl) (pv 3) AN (λ_ _=>rfl)) (pv 1) (BM _)) (AQ (BK (pv 2))) CP)))
  (AQ (BK Lu))),?_⟩
 walk_at "2";try refine⟨⟨_,hS⟩,?_⟩
 refine RN (a:=l) (xs:=xs) (λi σ H2=>∃(v1 W:Option V),σ=[some (.ref l),some (.str x),v1,W]/\AF H H2/\∀(j:Nat) r,j<i->rs[j]?=some r->r.s≠x)
  ⟨none,none,rfl,AF.refl _,λj _ h=>absurd h (Cg _)⟩ (by rintro i σ H2 _ ⟨_,_,_,J,_⟩;exact J.seq hS) ?_ ?_
 .rintro i y p σ H2 hy ⟨v1,W,rfl,J,hb⟩ Z;obtain⟨r,I,t,rfl,ht⟩:=FU hp hy;have G:=FN (o:=.tup [.int i,.ref t]) J Z;have Y:=G _ _ ht;walk_at "2";walk_at "1";walk_at "1";walk_at "2";refine⟨t,_,_,_,rfl,rfl,BP.of Y,rfl,?_⟩;walk_at "2";rw[FP];by_cases e:r.s=x
  .rw[Ae e];refine BB ?_;walk_at "2";have:=q _ G;rw[UW I e hb]at this
   exact this
  .rw[Ai e];refine AR ?_;refine⟨_,_,rfl,G,λj r' hj F=>?_⟩;by_cases z:j=i
   .subst z;rw[I]at F
    cases F;exact e
   .exact hb j r' (by lia) F
 .rintro σ H2 ⟨v1,W,rfl,J,hb⟩;have:=q _ J;rw[Cs.UX (λj r hj=>hb j r (by rw[Mj hp];exact hj))]at this
  exact this
def lK(K:Frag):Sp:=λvs H Q _=>∃(l:Addr) (x:Str) (rs:List CC),vs=[.ref l,.str x]/\Cs.IJ K H l rs/\x.length<=1000/\(∀c∈x.cps.toList,(CK rs (sg c)).isSome=true)/\∀H',AF H H'->Q (.int (HC rs x)) H'
theorem XY(T:Tx K mg a):AJ P w K mg base BL 2 (a.f 5) (a.d 5) ["case","word"] (lK K):=by
 have F:=@R1 P w K mg base a T;refine T.width_of.fn.ok jL (λvs H Q E h=>?_) (λad A outer s H vs Q E hr h=>?_)
 .obtain⟨l,x,rs,rfl,_⟩:=h;rfl
 obtain⟨l,x,rs,rfl,hC,hx,I,q⟩:=h;refine⟨_,(AQ (BK (CY (LL K rfl rfl) rfl T.b_sum PP (AC (GV rfl (OK (pv 1)) (BH.of (N':=["case","word","sign"]) (ms:=[]) (k:=1) (by rfl)) (λ_ _ _ _ _=>(BF (i:=2) (show List.Nodup (["case","word","sign"]:List Str)from by decide +kernel) rfl AM)) (λ_ _ _ _ _=>GG) (λ_ _ _ _ _=>(CA (IY K rfl) (CA (DR K rfl) (pv 0) (BN T.channel_of F hr rfl (AC (pv 0) (AC (pv 2) AG))) (λ_ _=>rfl)) AN (λ_ _=>rfl)))) AG)))),?_⟩;have ae:x.cps.size<=1000:=hx;walk_at "2";intro D hD;refine OL (x:=x) (λi ys σ H2=>∃(v2:Option V),ys=((x.cps.toList.take i).map λc=>KM rs (sg c)).map V.int/\σ=[some (.ref l),some (.str x),v2]/\AF H H2/\H2 D=some (.lst ys))
  ?_ ?_ ?_
 .exact⟨none,rfl,rfl,AV hD _,AA⟩
 .rintro i c ys σ H2 hc ac ⟨v2,rfl,rfl,W,Z⟩;have J:x.cps.toList[i]?=some c:=by simpa using hc
  obtain⟨k,hk⟩:=Cv.mp (I c (Ag J));walk_at "2";refine⟨l,sg c,rs,rfl,hC.same W,λH3 G=>?_⟩;rw[hk];obtain⟨xs,hS,hp⟩:=hC.same (W.trans G);have Y:=OO hk;obtain⟨y,hy,t,et,ht⟩:=Cs.Ml hp (A7 Y);have aa:DJ xs (k:Int)=some (.ref t):=by rw[<-et];exact EY hy
  refine⟨l,_,_,_,rfl,rfl,hS,aa,?_⟩;walk_at "2";refine⟨t,_,_,_,rfl,rfl,BP.of ht,rfl,?_⟩;refine EN ac (G _ _ Z) ?_ ⟨_,?_,rfl,DO (W.trans G) hD,AA⟩
  .rw[A6,A6,Al]
   lia
  .rw[Ay,J,Ah,Ah];show _=_++[V.int (KM rs (sg c))]
   rw[Cs.UZ hk Y]
 .rintro ys σ H2 ⟨v2,rfl,rfl,W,Z⟩;rw[Ak (by simp)]at Z
  refine⟨D,_,rfl,AH.of Z,?_⟩;exact q _ W
def lL(K:Frag):Sp:=λvs H Q _=>∃(l p:Addr) (rs:List CC) (ws:List Str),vs=[.ref l,.ref p]/\Cs.IJ K H l rs/\AH K H p (ws.map V.str)/\ws.length<=1000/\(∀x∈ws,x.length<=1000/\∀c∈x.cps.toList,(CK rs (sg c)).isSome=true)/\∀H',AF H H'->Q (.int (AO rs ws)) H'
theorem XZ(T:Tx K mg a):AJ P w K mg base BL 3 (a.f 14) (a.d 14) ["case","line"] (lL K):=by
 have F:=@XY P w K mg base a T;refine T.body_of.fn.ok jR (λvs H Q E h=>?_) (λac A outer s H vs Q E hr h=>?_)
 .obtain⟨l,p,rs,ws,rfl,_⟩:=h;rfl
 obtain⟨l,p,rs,ws,rfl,hC,hL,aa,hw,q⟩:=h;refine⟨_,(AQ (BK (CY (LL K rfl rfl) rfl T.b_sum PP (AC (GV rfl (FJ K rfl (pv 1)) (BH.of (N':=["case","line","word"]) (ms:=[]) (k:=1) (by rfl)) (λ_ _ _ _ _=>(BF (i:=2) (show List.Nodup (["case","line","word"]:List Str)from by decide +kernel) rfl AM)) (λ_ _ _ _ _=>GG) (λ_ _ _ _ _=>(BN T.width_of F hr rfl (AC (pv 0) (AC (pv 2) AG))))) AG)))),?_⟩;walk_at "2";try refine⟨⟨_,hL⟩,?_⟩
 intro D hD;refine HB (a:=p) (xs:=ws.map V.str) (λi ys σ H2=>∃(Z:Option V),ys=((ws.take i).map λx=>HC rs x).map V.int/\σ=[some (.ref l),some (.ref p),Z]/\AF H H2/\H2 D=some (.lst ys))
  ?_ ?_ ?_ ?_
 .exact⟨none,rfl,rfl,AV hD _,AA⟩
 .exact λi ys σ H2 _ ⟨_,_,_,G,_⟩=>G.seq hL
 .rintro i y ys σ H2 hy Y ⟨Z,rfl,rfl,G,W⟩;obtain⟨x,rfl,I⟩:=Sb hy;obtain⟨h1,h2⟩:=hw x (Ag I);walk_at "2";refine⟨l,x,rs,rfl,hC.same G,h1,h2,λH3 J=>?_⟩;refine EN Y (J _ _ W) ?_ ⟨_,?_,rfl,DO (G.trans J) hD,AA⟩
  .rw[A6,A6,Al]
   lia
  .rw[Ay,I,Ah,Ah];rfl
 .rintro ys σ H2 ⟨Z,rfl,rfl,G,W⟩;rw[A6,Ak (Af _)]at W
  refine⟨D,_,rfl,AH.of W,?_⟩;exact q _ G
def lM:Sp:=λvs H Q _=>∃(sp m lo ideal hi:Int) (g:Addr),vs=[.int sp,.int m,.ref g]/\H g=some (.tup [.int lo,.int ideal,.int hi])/\0<=m/\m<=1000/\Q (.int (Ln.misfit sp m lo hi)) H
theorem Y0(T:Tx K mg a):AJ P w K mg base BL 1 (a.f 15) (a.d 15) ["spare","many","gaps"] lM:=by
 refine T.misfit.fn.ok QM (λvs H Q E h=>?_) (λJ A outer s H vs Q E W h=>?_)
 .obtain⟨sp,m,lo,ideal,hi,g,rfl,_⟩:=h;rfl
 obtain⟨sp,m,lo,ideal,hi,g,rfl,I,F,G,q⟩:=h;unfold Ln.misfit at q;refine⟨_,(AL (IG (pv 2) (FO K rfl (n:=3) rfl (BY (BF (i:=3) QM.nd rfl AM) (BY (BF (i:=4) QM.nd rfl AM) (BY (BF (i:=5) QM.nd rfl AM) FL)))))
  (AL (CF (BU KJ (pv 0) (AU IS (pv 1) (pv 5)) (BM _)) (AQ (BK (AU IH (pv 0) (AU IS (pv 1) (pv 5))))) CP)
  (AQ (BK (CY (Ru rfl) rfl T.b_min S9 (AC (AU IH (pv 0) (AU IS (pv 1) (pv 3))) (AC AN AG))))))),?_⟩
 walk_at "2";try refine⟨_,_,rfl,BP.of I,rfl,?_⟩
 walk_at "1";walk_at "1";walk_at "1";walk_at "2";refine CG (λc=>?_) (λc=>?_)
 .rw[Ar (Bc c)]at q
  walk_at "2";exact q
 .rw[Aq (λz=>c (Ae z))]at q
  walk_at "2";exact⟨_,_,rfl,q⟩
def lN:Sp:=λvs H Q _=>∃a b:Nat,vs=[.int (a:Int),.int (b:Int)]/\∀H',AF H H'->Q (.int ((Nat.gcd a b:Nat):Int)) H'
theorem lO(T:Tx K mg a):AJ P w K mg base BL 1 (a.f 16) (a.d 16) ["one","other"] lN:=by
 refine T.greatest_divisor.fn.ok Xr (λvs H Q E h=>?_) (λaa A outer s H vs Q E hr h=>?_)
 .obtain⟨x,y,rfl,_⟩:=h;rfl
 obtain⟨x,y,rfl,q⟩:=h;refine⟨_,(AL (Md Bb (BU IT (pv 1) AN (BM _)) (AQ (U3 (i:=0) (j:=1) rfl Xr.nd rfl rfl (by decide) rfl rfl (AC (pv 1) (AC (AU FI (pv 0) (pv 1)) AG)) rfl)))
  (AQ (BK (pv 0)))),?_⟩
 refine⟨λm σ H2=>∃u v:Nat,σ=[some (.int (u:Int)),some (.int (v:Int))]/\H2=H/\Nat.gcd u v=Nat.gcd x y/\v=m,⟨y,x,y,rfl,rfl,rfl,rfl⟩,?_⟩;rintro m σ H2 ⟨u,v,rfl,rfl,W,rfl⟩;walk_at "4";refine CG (λc=>?_) (λc=>?_)
 .have I:v≠0:=λz=>by
   rw[z]at c
   exact absurd c (by decide)
  refine⟨λG H'=>∃J F:Nat,G=[some (.int (J:Int)),some (.int (F:Int))]/\H'=H2/\Nat.gcd J F=Nat.gcd x y/\F<v,λG H' ⟨J,F,Y,Z,e3,e4⟩=>⟨F,e4,J,F,Y,Z,e3,rfl⟩,?_⟩;walk_at "4";refine⟨_,_,rfl,v,u%v,by rw[Int.natCast_emod];rfl,rfl,?_,Nat.mod_lt _ (by lia)⟩;rw[Jh v,<-Nat.gcd_rec v u,Jh v u];exact W
 .have I:v=0:=by
   by_cases I:v=0
   .exact I
   .refine absurd ?_ c;have:(V.int (v:Int)=V.int 0)↔False:=⟨λh=>I (by have:=V.int.inj h;lia),False.elim⟩
    simp[this]
  walk_at "4";subst I;rw[K4]at W
  have q:=q _ (AF.refl _);rw[<-W]at q
  exact q
def ES(F many:Int):Int×Int:=if 0<many then(F/(Nat.gcd F.toNat many.toNat:Nat),many/(Nat.gcd F.toNat many.toNat:Nat))else(0,1)
def lP:Sp:=λvs H Q _=>∃u v:Nat,vs=[.int (u:Int),.int (v:Int)]/\0<v/\v<=1000000/\∀t H',H t=none->AF H H'->H' t=some (.tup [.int ((u:Int)/(Nat.gcd u v:Nat)),.int ((v:Int)/(Nat.gcd u v:Nat))])->Q (.ref t) H'
theorem lQ(T:Tx K mg a):AJ P w K mg base BL 2 (a.f 17) (a.d 17) ["top","bottom"] lP:=by
 have F:=@lO P w K mg base a T;refine T.lowest_terms.fn.ok Xs (λvs H Q E h=>?_) (λY A outer s H vs Q E W h=>?_)
 .obtain⟨x,y,rfl,_⟩:=h;rfl
 obtain⟨x,y,rfl,G,J,q⟩:=h;have hg:0<Nat.gcd x y:=Ij _ G;refine⟨_,(AL (BQ (i:=2) Xs.nd rfl AM (BN T.greatest_divisor F W rfl (AC (pv 0) (AC (pv 1) AG))))
  (AQ (BK (EE (AC (AU JR (pv 0) (pv 2)) (AC (AU JR (pv 1) (pv 2)) AG)))))),?_⟩
 walk_at "4";refine⟨x,y,rfl,λH1 I=>?_⟩;have aa:(0:Int)<((Nat.gcd x y:Nat):Int):=by lia
 have Z:Nat.gcd x y<=y:=Nat.gcd_le_right _ G;walk_at "4";intro t ht;exact q t _ (I.free ht) (FN I ht) AA
def lR(K:Frag)(G F:Addr):Sp:=λvs H Q E=>∃(l p g:Addr) (m lo ideal hi:Int) (rs:List CC) (ws:List Str),vs=[.ref l,.ref p,.int m,.ref g]/\Cs.IJ K H l rs/\AH K H p (ws.map V.str)/\H g=some (.tup [.int lo,.int ideal,.int hi])/\ws≠[]/\ws.length<=100 /\
 (∀x∈ws,x.length<=1000/\∀c∈x.cps.toList,(CK rs (sg c)).isSome=true)/\0<=lo/\lo<=hi/\hi<=1000/\0<=m/\m<=100000/\0<=AO rs ws/\AO rs ws<=10000000 /\
 (∀H' dx,AF H H'->H' dx=none->0<Ln.misfit (m-AO rs ws) ((ws.length:Int)-1) lo hi->E (.ref G) (some dx) (upd H' dx (.xd [("by",.int (Ln.misfit (m-AO rs ws) ((ws.length:Int)-1) lo hi))]))) /\
 (∀H' dx,AF H H'->H' dx=none->Ln.misfit (m-AO rs ws) ((ws.length:Int)-1) lo hi<0->E (.ref F) (some dx) (upd H' dx (.xd [("by",.int (-Ln.misfit (m-AO rs ws) ((ws.length:Int)-1) lo hi))]))) /\
 (∀t H',H t=none->AF H H'->Ln.misfit (m-AO rs ws) ((ws.length:Int)-1) lo hi=0->H' t=some (.tup [.int (ES (m-AO rs ws) ((ws.length:Int)-1)).1,.int (ES (m-AO rs ws) ((ws.length:Int)-1)).2])->Q (.ref t) H')
theorem Y1(T:Tx K mg a):AJ P w K mg base (GP P w) 4 (a.f 18) (a.d 18) ["case","line","measure","gaps"] (lR K a.c_Loose a.c_Tight):=by
 have Y:=@XZ P w K mg base a T;have Z:=@Y0 P w K mg base a T;have F:=@lQ P w K mg base a T;have G:=@kF P w K mg base a T;have I:=@kG P w K mg base a T;refine T.full_gap.fn.okX QN (λvs H Q E h=>?_) (λau A outer s H vs Q E hr h=>?_)
 .obtain⟨l,p,g,m,lo,ideal,hi,rs,ws,rfl,_⟩:=h;rfl
 obtain⟨l,p,g,m,lo,ideal,hi,rs,ws,rfl,hC,hS,hG,ae,ao,hw,ad,aj,ap,aq,ar,aw,av,q1,q2,q3⟩:=h;refine⟨_,(AL (BQ (i:=4) QN.nd rfl AM (AU IH (CY (EB K rfl) rfl T.b_len DP (AC (pv 1) AG)) AN))
  (AL (BQ (i:=5) QN.nd rfl AM (AU IH (pv 2) (BN T.body_of Y hr rfl (AC (pv 0) (AC (pv 1) AG)))))
  (AL (BQ (i:=6) QN.nd rfl AM (BN T.misfit Z hr rfl (AC (pv 5) (AC (pv 4) (AC (pv 3) AG)))))
  (AL (CF (BU KJ (pv 6) AN (BM _)) (AQ (Sw T.cl_Loose G hr rfl rfl rfl (AC (pv 6) AG))) CP)
  (AL (CF (BU L8 (pv 6) AN (BM _)) (AQ (Sw T.cl_Tight I hr rfl rfl rfl (AC (MF ML (pv 6)) AG))) CP)
  (AQ (BK (Nz (BU KJ (pv 4) AN (BM _)) (BN T.lowest_terms F hr rfl (AC (pv 5) (AC (pv 4) AG))) (EE (AC AN (AC AN AG))))))))))),?_⟩
 have al:1<=ws.length:=D5.mpr ae;walk_at "4";refine⟨p,_,rfl,.inl hS,?_⟩;rw[A6];walk_at "4";refine⟨l,p,rs,ws,rfl,hC,hS,by lia,hw,λH1 J=>?_⟩;walk_at "4";generalize aa:Ln.misfit (m-AO rs ws) ((ws.length:Int)-1) lo hi=W at q1 q2 q3;refine⟨_,_,lo,ideal,hi,g,rfl,J _ _ hG,by lia,by lia,?_⟩;rw[aa];have am:-100000000<=W/\W<=100000000:=by
  have h1:(0:Int)<=((ws.length:Int)-1)*hi:=F5 (by lia) (by lia);have h2:((ws.length:Int)-1)*lo<=100*1000:=Jt (by lia) (by lia) ad (by lia);have h3:(0:Int)<=((ws.length:Int)-1)*lo:=F5 (by lia) ad;rw[<-aa];unfold Ln.misfit;split
  .lia
  .split<;>lia
 walk_at "4";refine CG (λc=>?_) (λc=>?_)
 .have c:0<W:=Bc c;walk_at "4";exact λdx ac=>q1 H1 dx J ac c
 .have c:¬0<W:=λz=>c (Ae z)
  walk_at "4";refine CG (λc2=>?_) (λc2=>?_)
  .have c2:W<0:=Bc c2;walk_at "4";exact λdx ac=>q2 H1 dx J ac c2
  .have c2:¬W<0:=λz=>c2 (Ae z)
   have h0:W=0:=by lia
   have an:=(Vf (sp:=m-AO rs ws) (Dj aj (by lia))).mp (aa.trans h0);have af:0<=m-AO rs ws:=by
    have h3:(0:Int)<=((ws.length:Int)-1)*lo:=F5 (by lia) ad
    lia
   walk_at "4";refine CG (λc3=>?_) (λc3=>?_)
   .have c3:0<(ws.length:Int)-1:=Bc c3;obtain⟨u,hu⟩:=Bu af;have hv:(ws.length:Int)-1=((ws.length-1:Nat):Int):=by lia
    have ak:(m-AO rs ws).toNat=u:=by lia
    have ag:((ws.length:Int)-1).toNat=ws.length-1:=by lia
    walk_at "4";refine⟨u,ws.length-1,by show [V.int (m-AO rs ws),V.int ((ws.length:Int)-1)]=_;rw[hu,hv],by lia,by lia,λt H2 ht ah ai=>?_⟩;refine q3 t H2 (J.free ht) (J.trans ah) h0 ?_;rw[ai];unfold ES;rw[Ar c3,ak,ag,hu,hv]
   .have c3:¬0<(ws.length:Int)-1:=λz=>c3 (Ae z)
    walk_at "4";intro t ht;refine q3 t _ (J.free ht) (FN J ht) h0 ?_;rw[AA];unfold ES;rw[Aq c3]
structure GA(K:Frag)(H:Hp)(l p g:Addr)(m lo ideal hi:Int)(rs:List CC)(ws:List Str):Prop where
 case:Cs.IJ K H l rs
 line:AH K H p (ws.map V.str)
 gaps:H g=some (.tup [.int lo,.int ideal,.int hi])
 ne:ws≠[]
 few:ws.length<=100
 ok:∀x∈ws,x.length<=1000/\∀c∈x.cps.toList,(CK rs (sg c)).isSome=true
 lo0:0<=lo
 lohi:lo<=hi
 hi1:hi<=1000
 m0:0<=m
 m1:m<=100000
 b0:0<=AO rs ws
 b1:AO rs ws<=10000000
theorem GA.same{K:Frag}(h:GA K H l p g m lo ideal hi rs ws)(s:AF H H'):GA K H' l p g m lo ideal hi rs ws :=
 ⟨h.case.same s,s.seq h.line,s _ _ h.gaps,h.ne,h.few,h.ok,h.lo0,h.lohi,h.hi1,h.m0,h.m1,h.b0,h.b1⟩
abbrev Oc(m lo hi:Int)(rs:List CC)(ws:List Str):Int:=Ln.misfit (m-AO rs ws) ((ws.length:Int)-1) lo hi
abbrev KH(m ideal:Int)(rs:List CC)(ws:List Str):Prop:=AO rs ws+((ws.length:Int)-1)*ideal<=m
def lS(K:Frag)(F:Addr):Sp:=λvs H Q E=>∃(l p g:Addr) (m lo ideal hi:Int) (rs:List CC) (ws:List Str),vs=[.ref l,.ref p,.int m,.ref g]/\GA K H l p g m lo ideal hi rs ws/\lo<=ideal/\ideal<=hi /\
 (∀H' dx,AF H H'->H' dx=none->¬KH m ideal rs ws->Oc m lo hi rs ws<0->E (.ref F) (some dx) (upd H' dx (.xd [("by",.int (-Oc m lo hi rs ws))]))) /\
 (∀t H',H t=none->AF H H'->KH m ideal rs ws->H' t=some (.tup [.int ideal,.int 1])->Q (.ref t) H') /\
 (∀t H',H t=none->AF H H'->¬KH m ideal rs ws->Oc m lo hi rs ws=0->H' t=some (.tup [.int (ES (m-AO rs ws) ((ws.length:Int)-1)).1,.int (ES (m-AO rs ws) ((ws.length:Int)-1)).2])->Q (.ref t) H')
theorem lT(T:Tx K mg a):AJ P w K mg base (GP P w) 5 (a.f 19) (a.d 19) ["case","line","measure","gaps"] (lS K a.c_Tight):=by
 have J:=@XZ P w K mg base a T;have F:=@Y1 P w K mg base a T;refine T.last_gap.fn.okX QO (λvs H Q E h=>?_) (λak A outer s H vs Q E hr h=>?_)
 .obtain⟨l,p,g,m,lo,ideal,hi,rs,ws,rfl,_⟩:=h;rfl
 obtain⟨l,p,g,m,lo,ideal,hi,rs,ws,rfl,G,ah,ad,q1,q2,q3⟩:=h;have hG:=G.gaps;have W:1<=ws.length:=D5.mpr G.ne;have af:=G.few;have hi1:=G.hi1;have lo0:=G.lo0;have ai:(0:Int)<=((ws.length:Int)-1)*ideal:=F5 (by lia) (by lia);have aj:((ws.length:Int)-1)*ideal<=100*1000:=Jt (by lia) (by lia) (by lia) (by lia);have ag:((ws.length:Int)-1)*ideal<=((ws.length:Int)-1)*hi:=Dj ad (by lia);have b0:=G.b0;have b1:=G.b1;have m1:=G.m1;refine⟨_,(AL (IG (pv 3) (FO K rfl (n:=3) rfl (BY (BF (i:=4) QO.nd rfl AM) (BY (BF (i:=5) QO.nd rfl AM) (BY (BF (i:=6) QO.nd rfl AM) FL)))))
  (AL (CF (BU Lz (AU DG (BN T.body_of J hr rfl (AC (pv 0) (AC (pv 1) AG))) (AU IS (AU IH (CY (EB K rfl) rfl T.b_len DP (AC (pv 1) AG)) AN) (pv 5))) (pv 2) (BM _)) (AQ (BK (EE (AC (pv 5) (AC AN AG))))) CP)
  (AQ (BK (NV T.full_gap F hr rfl rfl (AC (pv 0) (AC (pv 1) (AC (pv 2) (AC (pv 3) AG))))))))),?_⟩
 walk_at "4";try refine⟨_,_,rfl,BP.of hG,rfl,?_⟩
 walk_at "1";walk_at "1";walk_at "1";walk_at "4";refine⟨l,p,rs,ws,rfl,G.case,G.line,by lia,G.ok,λH1 I=>?_⟩;walk_at "4";refine⟨p,_,rfl,.inl (I.seq G.line),?_⟩;rw[A6];walk_at "4";refine CG (λc=>?_) (λc=>?_)
 .have c:KH m ideal rs ws:=Bc c;walk_at "4";intro t ht;exact q2 t _ (I.free ht) (FN I ht) c AA
 .have c:¬KH m ideal rs ws:=λz=>c (Ae z)
  have c':¬AO rs ws+((ws.length:Int)-1)*ideal<=m:=c;have Y:=G.same I;walk_at "4";refine⟨l,p,g,m,lo,ideal,hi,rs,ws,rfl,Y.case,Y.line,Y.gaps,Y.ne,Y.few,Y.ok,Y.lo0,Y.lohi,Y.hi1,Y.m0,Y.m1,Y.b0,Y.b1,λH3 dx Z ac W=>?_,λH3 dx Z ac aa=>?_,λt H3 ht Z h0 ae=>?_⟩
  .exfalso;unfold Ln.misfit at W;rw[Aq (by lia)]at W
   split at W<;>lia
  .exact q1 H3 dx (I.trans Z) ac c aa
  .exact q3 t H3 (I.free ht) (I.trans Z) c h0 ae
theorem Tt{P:Program}{w:World}{K:Frag}{mg:Str->Option Value}{base:Heap}(F:AJ P w K mg base (GP P w) k f fd ps sp)(h:∀vs H Q E,sp0 vs H Q E->sp vs H Q E0):AJ P w K mg base BL k f fd ps sp0:=by
 refine⟨λvs H Q E q=>F.len vs H Q E0 (h _ _ _ _ q),λA outer s H args us vs Q E G I hb J Y=>E8 (F.run A outer s H args us vs Q E0 G I hb J (h _ _ _ _ Y)) λr s' z=>?_⟩;cases r with
 | ok fl =>
   cases fl with
   | ret u=>exact z
   | next=>exact z
   | brk=>exact z
   | cont=>exact z
 | error e =>
   obtain⟨_,_,_,_,_,_,_,_,_,_,_,z⟩:=z;exact z
theorem lU(pl:∀(j:Nat) r,rs[j]?=some r->CK rs r.s=some j):(rs.map λr=>r.s).Nodup:=by
 rw[List.Nodup,List.pairwise_iff_getElem];intro i j hi F G e;rw[List.getElem_map,List.getElem_map]at e
 rw[A6]at hi F
 have h1:=pl i _ (A7 hi);have h2:=pl j _ (A7 F);rw[e,h2]at h1
 have:=Ap h1
 lia
theorem lV(rs:List CC)(x y:Str):HC rs (x++y)=HC rs x+HC rs y:=by
 unfold HC;rw[EU,Ah,Gv]
theorem Y2(rs:List CC):∀ws:List Str,HC rs (Txt.join "" ws)=AO rs ws
 | []=>rfl
 | x::ws=>by
   rw[Nb,lV,Y2 rs ws];rfl
theorem Tu:∀{ws:List Str},c∈(Txt.join "" ws).cps.toList->∃x∈ws,c∈x.cps.toList
 | [],h=>by rw[show(Txt.join "" []).cps.toList=[] by decide]at h;cases h
 | x::ws,F=>by
   rw[Nb,EU]at F
   rcases Az.mp F with z|z
   .exact⟨x,Ab,z⟩
   .obtain⟨y,G,z⟩:=Tu z;exact⟨y,Ac _ G,z⟩
def lW(K:Frag):Sp:=λvs H Q _=>∃(l p:Addr) (rs:List CC) (ws:List Str),vs=[.ref l,.ref p]/\Cs.IJ K H l rs/\(rs.map λr=>r.s).Nodup/\rs.length<=1000/\AH K H p (ws.map V.str)/\ws.length<=100/\(∀x∈ws,x.length<=100/\∀c∈x.cps.toList,(CK rs (sg c)).isSome=true)/\∀H',AF H H'->Q (.int (AO rs ws)) H'
theorem lX(T:Tx K mg a):AJ P w K mg base BL 1 (a.f 57) (a.d 57) ["_law_case_here","_law_line"] (lW K):=by
 refine T.law_wide.fn.ok Oa (λvs H Q E h=>?_) (λak A outer s H vs Q E hr h=>?_)
 .obtain⟨l,p,rs,ws,rfl,_⟩:=h;rfl
 obtain⟨l,p,rs,ws,rfl,hC,af,hl,hL,J,hw,q⟩:=h;obtain⟨xs,hS,hp⟩:=hC;have Y:(ws.map (·.length)).sum+ws.length*("":Str).length<=10000:=by
  have a:=KP (λx:Str=>x.length) 100 100 ws (λx hx=>(hw x hx).1) J;have a:(ws.map (·.length)).sum<=100*100:=a;rw[show("":Str).length=0 by decide]
  lia
 have aj:(Txt.join "" ws).cps.size<=10000:=by
  have b:=Cn "" ws;have b:(Str.join "" ws).length<=(ws.map (·.length)).sum+ws.length*("":Str).length:=b;show(Txt.join "" ws).length<=_;unfold Txt.join;rw[Bp]
  lia
 have ac:∀c∈(Txt.join "" ws).cps.toList,(CK rs (sg c)).isSome=true:=λc hc=>by
  obtain⟨x,hx,z⟩:=Tu hc;exact(hw x hx).2 c z
 have ad:=Y2 rs ws;have ah:=Mj hp;refine⟨_,(AL (BQ (i:=2) Oa.nd rfl (Or.inr rfl) eT)
  (AL (GL Bb rfl (FJ K rfl (pv 0)) (FO K rfl (n:=4) rfl (BY (BF (i:=3) Oa.nd rfl AM) (BY (BF (i:=4) Oa.nd rfl AM) (BY (BF (i:=5) Oa.nd rfl AM) (BY (BF (i:=6) Oa.nd rfl AM) FL))))) (AQ (V9 (NG hr) (pv 2) (pv 3) (pv 4) rfl)))
  (AQ (BK (CY (LL K rfl rfl) rfl T.b_sum PP (AC (GV rfl (OK (DX K rfl Ba Bm Bn (JI K rfl) CD (AC (pv 1) AG))) (BH.of (N':=["_law_case_here","_law_line","_law_widths","_law_sign","_law_width","_law_teeth","_law_many"]) (ms:=[3]) (k:=0) (by rfl)) (λ_ _ _ _ _=>(BF (i:=3) (show List.Nodup (["_law_case_here","_law_line","_law_widths","_law_sign","_law_width","_law_teeth","_law_many"]:List Str)from by decide +kernel) rfl AM)) (λ_ _ _ _ _=>GG) (λ_ _ _ _ _=>(V7 (NG hr) (pv 2) (pv 3) (λ_ _=>rfl)))) AG)))))),?_⟩
 walk_at "2";intro d hd;refine⟨_,rfl,?_⟩;refine⟨l,rfl,⟨_,(AV hd _).seq hS⟩,?_⟩;refine MC (a:=l) (xs:=xs) (λi σ H2=>∃(v3 v4 v5 v6:Option V),σ=[some (.ref l),some (.ref p),some (.ref d),v3,v4,v5,v6]/\AF H H2/\H2 d=some (.dK (Lf (rs.take i))))
  ⟨none,none,none,none,rfl,AV hd _,AA⟩ (λi σ H2 _ ⟨_,_,_,_,_,W,_⟩=>W.seq hS) ?_ ?_
 .rintro i y σ H2 hy ⟨v3,v4,v5,v6,rfl,W,hh⟩;obtain⟨r,ag,t,rfl,ht⟩:=FU hp hy;refine⟨_,_,rfl,BP.of (W _ _ ht),rfl,?_⟩;walk_at "1";walk_at "1";walk_at "1";walk_at "1";refine And.intro rfl ?_;refine⟨_,rfl,?_⟩;refine⟨_,rfl,?_⟩;refine⟨_,rfl,?_⟩;have J:=Cs.eV (rs.take i);rw[Al]at J
  refine⟨d,_,rfl,IK.k (k:=Sum.inr r.s) hh (IV (by lia)),?_⟩;refine⟨_,_,_,_,rfl,DO W hd,?_⟩;rw[AA,Ay,ag];show _=some (HO.dK (Lf (rs.take i++[r])));rw[Cs.S8]
 .rintro σ H2 ⟨v3,v4,v5,v6,rfl,W,hh⟩;rw[ah,Ak (Af _)]at hh
  walk_at "2";refine⟨_,p,ws,rfl,rfl,W.seq hL,B3 Y (by decide),?_⟩;refine⟨_,rfl,λD hD=>?_⟩;generalize hx:Txt.join ("":Str) ws=x;have ai:Txt.join "" ws=x:=hx;rw[ai]at aj ac ad
  refine OL (x:=x) (λj ys σ Z=>∃(v3:Option V),ys=((x.cps.toList.take j).map λc=>KM rs (sg c)).map V.int/\σ=[some (.ref l),some (.ref p),some (.ref d),v3,v4,v5,v6]/\AF H2 Z/\Z D=some (.lst ys))
   ?_ ?_ ?_
  .exact⟨_,rfl,rfl,AV hD _,AA⟩
  .rintro j c ys σ Z hc aa ⟨u3,rfl,rfl,G,I⟩;have ae:x.cps.toList[j]?=some c:=by simpa using hc
   refine⟨_,rfl,?_⟩;refine⟨_,rfl,?_⟩;have hg:=FQ.k (k:=Sum.inr (sg c)) (G _ _ hh);rw[Cs.eW af (ac c (Ag ae))]at hg
   refine⟨d,_,rfl,hg,?_⟩;refine EN aa I ?_ ⟨_,?_,rfl,DO G hD,AA⟩
   .rw[A6,A6,Al]
    lia
   .rw[Ay,ae,Ah,Ah];rfl
  .rintro ys σ Z ⟨u3,rfl,rfl,G,I⟩;rw[Ak (by simp)]at I
   refine⟨D,_,rfl,AH.of I,?_⟩;have q:=q Z (W.trans G);rw[<-ad]at q
   exact q
def lY:Sp:=λvs H Q _=>∃a b:Nat,vs=[.int (a:Int),.int (b:Int)]/\∀H',AF H H'->Q (.int ((Nat.gcd a b:Nat):Int)) H'
theorem lZ(T:Tx K mg a):AJ P w K mg base BL 1 (a.f 58) (a.d 58) ["_law_one","_law_other"] lY:=by
 refine T.law_divisor.fn.ok Xy (λvs H Q E h=>?_) (λaa A outer s H vs Q E hr h=>?_)
 .obtain⟨x,y,rfl,_⟩:=h;rfl
 obtain⟨x,y,rfl,q⟩:=h;refine⟨_,(AL (Md Bb (BU KJ (pv 1) AN (BM _)) (AQ (U3 (i:=0) (j:=1) rfl Xy.nd rfl rfl (by decide) rfl rfl (AC (pv 1) (AC (AU FI (pv 0) (pv 1)) AG)) rfl)))
  (AQ (BK (pv 0)))),?_⟩
 refine⟨λm σ H2=>∃u v:Nat,σ=[some (.int (u:Int)),some (.int (v:Int))]/\H2=H/\Nat.gcd u v=Nat.gcd x y/\v=m,⟨y,x,y,rfl,rfl,rfl,rfl⟩,?_⟩;rintro m σ H2 ⟨u,v,rfl,rfl,J,rfl⟩;walk_at "4";refine CG (λc=>?_) (λc=>?_)
 .have c:(0:Int)<(v:Int):=Bc c;refine⟨λG H'=>∃I F:Nat,G=[some (.int (I:Int)),some (.int (F:Int))]/\H'=H2/\Nat.gcd I F=Nat.gcd x y/\F<v,λG H' ⟨I,F,W,Y,e3,Z⟩=>⟨F,Z,I,F,W,Y,e3,rfl⟩,?_⟩;walk_at "4";refine⟨_,_,rfl,v,u%v,by rw[Int.natCast_emod];rfl,rfl,?_,Nat.mod_lt _ (by lia)⟩;rw[Jh v,<-Nat.gcd_rec v u,Jh v u];exact J
 .have hv:v=0:=by
   have:¬(0:Int)<(v:Int):=λz=>c (Ae z)
   lia
  walk_at "4";subst hv;rw[K4]at J
  have q:=q _ (AF.refl _);rw[<-J]at q
  exact q
def ma(K:Frag):Sp:=λvs H Q _=>∃(l p g:Addr) (m lo ideal hi:Int) (rs:List CC) (ws:List Str),vs=[.ref l,.ref p,.int m,.ref g]/\GA K H l p g m lo ideal hi rs ws/\Oc m lo hi rs ws=0/\∀t H',H t=none->AF H H'->H' t=some (.tup [.int (ES (m-AO rs ws) ((ws.length:Int)-1)).1,.int (ES (m-AO rs ws) ((ws.length:Int)-1)).2])->Q (.ref t) H'
theorem mh(T:Tx K mg a):AJ P w K mg base BL 4 (a.f 18) (a.d 18) ["case","line","measure","gaps"] (ma K):=Tt (Y1 T) λvs H Q E h=>by
 obtain⟨l,p,g,m,lo,ideal,hi,rs,ws,e,G,F,q⟩:=h;have F:Ln.misfit (m-AO rs ws) ((ws.length:Int)-1) lo hi=0:=F;exact⟨l,p,g,m,lo,ideal,hi,rs,ws,e,G.case,G.line,G.gaps,G.ne,G.few,G.ok,G.lo0,G.lohi,G.hi1,G.m0,G.m1,G.b0,G.b1,λH' dx _ _ z=>absurd z (by lia),λH' dx _ _ z=>absurd z (by lia),λt H' h1 h2 _ I=>q t H' h1 h2 I⟩
def ml(K:Frag):Sp:=λvs H Q _=>∃(l p g:Addr) (m lo ideal hi:Int) (rs:List CC) (ws:List Str),vs=[.ref l,.ref p,.int m,.ref g]/\GA K H l p g m lo ideal hi rs ws/\lo<=ideal/\ideal<=hi/\(¬KH m ideal rs ws->Oc m lo hi rs ws=0) /\
 (∀t H',H t=none->AF H H'->KH m ideal rs ws->H' t=some (.tup [.int ideal,.int 1])->Q (.ref t) H') /\
 (∀t H',H t=none->AF H H'->¬KH m ideal rs ws->H' t=some (.tup [.int (ES (m-AO rs ws) ((ws.length:Int)-1)).1,.int (ES (m-AO rs ws) ((ws.length:Int)-1)).2])->Q (.ref t) H')
theorem mr(T:Tx K mg a):AJ P w K mg base BL 5 (a.f 19) (a.d 19) ["case","line","measure","gaps"] (ml K):=Tt (lT T) λvs H Q E h=>by
 obtain⟨l,p,g,m,lo,ideal,hi,rs,ws,e,G,h1,h2,F,q2,J⟩:=h;exact⟨l,p,g,m,lo,ideal,hi,rs,ws,e,G,h1,h2,λH' dx _ _ n z=>absurd z (by rw[F n];decide),q2,λt H' W Y I _ Z=>J t H' W Y I Z⟩
theorem mu(h0:0<mn)(h1:mn*lo<=sp)(h2:sp<=mn*hi)(hl:0<=lo):∃t b:Nat,(ES sp mn).1=(t:Int)/\(ES sp mn).2=(b:Int)/\1<=b/\Nat.gcd t b=1/\mn*(t:Int)=sp*(b:Int)/\lo*(b:Int)<=(t:Int)/\(t:Int)<=hi*(b:Int)/\(b:Int)<=mn:=by
 have Y:0<=mn*lo:=F5 (by lia) hl;obtain⟨s,rfl⟩:=Bu (show 0<=sp by lia);obtain⟨n,rfl⟩:=Bu (show 0<=mn by lia);have hn:0<n:=by lia
 have J:0<Nat.gcd s n:=Ij _ hn;obtain⟨t,ht⟩:=Nat.gcd_dvd_left s n;obtain⟨b,hb⟩:=Nat.gcd_dvd_right s n;have W:Nat.gcd t b=1:=by
  have Y:Nat.gcd (Nat.gcd s n*t) (Nat.gcd s n*b)=Nat.gcd s n:=by rw[<-ht,<-hb]
  rw[Nat.gcd_mul_left]at Y
  exact Nat.eq_of_mul_eq_mul_left J (by rw[Y,Nat.mul_one])
 generalize hG:Nat.gcd s n=g at *;have e1:s/g=t:=by rw[ht];exact Iz _ J
 have e2:n/g=b:=by rw[hb];exact Iz _ J
 have Z:1<=b:=by
  cases b with
  | zero=>rw[Nat.mul_zero]at hb;lia
  | succ b=>lia
 have I:(0:Int)<(g:Int):=by lia
 have G:(s:Int)=(g:Int)*(t:Int):=by rw[ht];exact Int.natCast_mul ..
 have F:(n:Int)=(g:Int)*(b:Int):=by rw[hb];exact Int.natCast_mul ..
 have aa:b<=n:=by
  rw[hb];exact Nat.le_mul_of_pos_left _ J
 refine⟨t,b,?_,?_,Z,W,?_,?_,?_,by lia⟩
 .unfold ES;rw[Ar h0];show(s:Int)/(((Nat.gcd (s:Int).toNat (n:Int).toNat:Nat)):Int)=_;rw[Dl,Dl,hG,<-e1];exact(Int.natCast_ediv ..).symm
 .unfold ES;rw[Ar h0];show(n:Int)/(((Nat.gcd (s:Int).toNat (n:Int).toNat:Nat)):Int)=_;rw[Dl,Dl,hG,<-e2];exact(Int.natCast_ediv ..).symm
 .rw[G,F];rw[Ik,Ik,Kc (b:Int)]
 .rw[G,F,Ik]at h1
  rw[Kc lo];exact Hv h1 I
 .rw[G,F,Ik]at h2
  rw[Kc hi];exact Hv h2 I
def mv(K:Frag):Sp:=λvs H Q _=>∃(l p g:Addr) (m lo md hi:Int) (last:Bool) (rs:List CC) (ws:List Str),vs=[.ref l,.ref p,.int m,.ref g,.bl last]/\GA K H l p g m lo md hi rs ws/\lo<=md/\md<=hi/\(rs.map λr=>r.s).Nodup/\rs.length<=1000/\(∀x∈ws,x.length<=100)/\FA (m-AO rs ws) ((ws.length:Int)-1) lo md hi last≠none/\∀H',AF H H'->Q (.bl true) H'
theorem mw(T:Tx K mg a):AJ P w K mg base BL 6 (a.f 59) (a.d 59) ["_law_case_here","_law_line","_law_measure","_law_gaps","_law_last"] (mv K):=by
 have W:=@lX P w K mg base a T;have I:=@lZ P w K mg base a T;have J:=@mh P w K mg base a T;have F:=@mr P w K mg base a T;refine T.law_set.fn.ok M9 (λvs H Q E h=>?_) (λaK A outer s H vs Q E hr h=>?_)
 .obtain⟨l,p,g,m,lo,md,hi,last,rs,ws,rfl,_⟩:=h;rfl
 obtain⟨l,p,g,m,lo,md,hi,last,rs,ws,rfl,G,an,aj,aD,az,hx,ae,q⟩:=h;have hG:=G.gaps;have aG:1<=ws.length:=D5.mpr G.ne;have aq:=G.few;have aF:=G.lo0;have am:¬(last=true/\KH m md rs ws)->Oc m lo hi rs ws=0:=λz=>by
  unfold FA at ae;rw[Aq (λy=>z ⟨y.1,by have:=y.2;show _+_<=_;lia⟩)]at ae
  by_cases e:Ln.misfit (m-AO rs ws) ((ws.length:Int)-1) lo hi=0
  .exact e
  .rw[Aq e]at ae
   exact absurd rfl ae
 have dt:∀{H':Hp}{t:Addr}{x y:Int},H' t=some (.tup [.int x,.int y])->GD K H' (.ref t) (.tuple [.int x,.int y]):=λh=>.tup (BP.of h) (.cons (.int _) (.cons (.int _) .nil))
 have d2:∀{x y u v:Int},min (PyData.tuple [.int x,.int y]).depth (PyData.tuple [.int u,.int v]).depth<=64:=λ{x y u v}=>by
  have:(PyData.tuple [.int x,.int y]).depth=1:=rfl
  lia
 have ed:∀{x y:Int},PyData.eqv (.tuple [.int x,.int y]) (.tuple [.int x,.int y])=true:=λ{x y}=>eqv_refl rfl
 refine⟨_,(AL (IG (pv 3) (FO K rfl (n:=3) rfl (BY (BF (i:=5) M9.nd rfl AM) (BY (BF (i:=6) M9.nd rfl AM) (BY (BF (i:=7) M9.nd rfl AM) FL)))))
  (AL (BQ (i:=8) M9.nd rfl AM (BN T.law_wide W hr rfl (AC (pv 0) (AC (pv 1) AG))))
  (AL (BQ (i:=9) M9.nd rfl AM (AU IH (CY (EB K rfl) rfl T.b_len DP (AC (pv 1) AG)) AN))
  (AL (NH (CF (PW.pt (L6 (IC (pv 4)) (L5 (BU Lz (AU DG (pv 8) (AU IS (pv 9) (pv 6))) (pv 2) (BM _))))) (AQ (BK (FM (EZ K rfl hr.units) (BN T.last_gap F hr rfl (AC (pv 0) (AC (pv 1) (AC (pv 2) (AC (pv 3) AG))))) (EE (AC (pv 6) (AC AN AG))) (BM _)))) CP))
  (AL (BQ (i:=10) M9.nd rfl AM (BN T.full_gap J hr rfl (AC (pv 0) (AC (pv 1) (AC (pv 2) (AC (pv 3) AG))))))
  (AL (NH (CF (PW.pt (L6 (IC (pv 4)) (L5 (BU (GH K rfl hr.units) (BN T.last_gap F hr rfl (AC (pv 0) (AC (pv 1) (AC (pv 2) (AC (pv 3) AG))))) (pv 10) (BM _))))) (AQ (BK IB)) CP))
  (AL (CF (BU EM (pv 9) AN (BM _)) (AQ (BK (JD (FM (EZ K rfl hr.units) (pv 10) (EE (AC AN (AC AN AG))) (BM _)) (KI (FM EM (pv 8) (pv 2) (BM _)))))) CP)
  (AL (IG (pv 10) (FO K rfl (n:=2) rfl (BY (BF (i:=11) M9.nd rfl AM) (BY (BF (i:=12) M9.nd rfl AM) FL))))
  (AL (CF (PW.pt (Ny (BU L8 (pv 12) AN (BM _)) (Nx (BU IT (BN T.law_divisor I hr rfl (AC (pv 11) (AC (pv 12) AG))) AN (BM _))))) (AQ (BK IB)) CP)
  (AQ (BK (JD (FM EM (AU DG (AU IS (pv 8) (pv 12)) (AU IS (pv 9) (pv 11))) (AU IS (pv 2) (pv 12)) (BM _)) (KI (Ud Lz Lz (AU IS (pv 5) (pv 12)) (pv 11) (AU IS (pv 7) (pv 12)))))))))))))))),?_⟩
 walk_at "2";try refine⟨_,_,rfl,BP.of hG,rfl,?_⟩
 walk_at "1";walk_at "1";walk_at "1";walk_at "2";refine⟨l,p,rs,ws,rfl,G.case,aD,az,G.line,aq,λx aw=>⟨hx x aw,(G.ok x aw).2⟩,λH1 ah=>?_⟩;have G1:=G.same ah;walk_at "2";refine⟨p,_,rfl,.inl G1.line,?_⟩;rw[A6];walk_at "2";refine⟨λσ H2=>σ=[some (.ref l),some (.ref p),some (.int m),some (.ref g),some (.bl last),some (.int lo),some (.int md),some (.int hi),some (.int (AO rs ws)),some (.int ((ws.length:Int)-1)),none,none,none]/\H2=H1/\¬(last=true/\KH m md rs ws),?_,?_⟩
 .walk_at "2";cases last with
  | false =>
    refine AR ?_;refine AR ?_;exact⟨rfl,rfl,λz=>nomatch z.1⟩
  | true =>
    refine BB ?_;walk_at "2";by_cases hf:KH m md rs ws
    .rw[Ae (show AO rs ws+((ws.length:Int)-1)*md<=m from hf)];refine BB ?_;walk_at "2";refine⟨l,p,g,m,lo,md,hi,rs,ws,rfl,G1,an,aj,λn=>absurd hf n,λt H2 ax aA _ ht=>?_,λt H2 _ _ n _=>absurd hf n⟩;walk_at "2";refine λt2 Y=>?_
     have Z:=AV Y (.tup [.int md,.int 1]);refine⟨_,_,dt (Z _ _ ht),dt AA,d2,?_⟩;rw[ed];exact q _ (ah.trans (aA.trans Z))
    .rw[Ai (show ¬AO rs ws+((ws.length:Int)-1)*md<=m from hf)];refine AR ?_;exact⟨rfl,rfl,λz=>hf z.2⟩
 rintro σ H2 ⟨rfl,rfl,hF⟩;have h0:=am hF;have aE:Ln.misfit (m-AO rs ws) ((ws.length:Int)-1) lo hi=0:=h0;obtain⟨aa,ad⟩:=(Vf (sp:=m-AO rs ws) (Dj (show lo<=hi by lia) (show(0:Int)<=(ws.length:Int)-1 by lia))).mp aE;walk_at "2";refine⟨l,p,g,m,lo,md,hi,rs,ws,rfl,G1,h0,λt H3 ax Z ht=>?_⟩;have G3:=G1.same Z;have aC:=ah.trans Z;walk_at "2";refine⟨λσ H4=>σ=[some (.ref l),some (.ref p),some (.int m),some (.ref g),some (.bl last),some (.int lo),some (.int md),some (.int hi),some (.int (AO rs ws)),some (.int ((ws.length:Int)-1)),some (.ref t),none,none]/\AF H3 H4,?_,?_⟩
 .walk_at "2";cases last with
  | false =>
    refine AR ?_;refine AR ?_;exact⟨rfl,AF.refl _⟩
  | true =>
    have aB:¬KH m md rs ws:=λz=>hF ⟨rfl,z⟩
    refine BB ?_;walk_at "2";refine⟨l,p,g,m,lo,md,hi,rs,ws,rfl,G3,an,aj,λ_=>h0,λt2 H4 _ _ y _=>absurd y aB,λt2 H4 _ ac _ Y=>?_⟩;walk_at "2";refine⟨_,_,dt Y,dt (ac _ _ ht),d2,?_⟩;rw[ed];refine⟨_,rfl,?_⟩;refine AR ?_;exact⟨rfl,ac⟩
 rintro σ H4 ⟨rfl,ac⟩;have ai:=ac _ _ ht;have al:=aC.trans ac;generalize ap:ES (m-AO rs ws) ((ws.length:Int)-1)=gp at ht ai;walk_at "2";by_cases ag:(ws.length:Int)-1=0
 .rw[show decide (V.int ((ws.length:Int)-1)=V.int 0)=true from Ae (by rw[ag])];refine BB ?_;rw[ag,Int.zero_mul]at aa ad
  have au:gp=(0,1):=by
   rw[<-ap,ag];rfl
  subst au;walk_at "2";refine λt2 Y=>?_
  have af:=AV Y (.tup [.int 0,.int 1]);refine⟨_,_,dt (af _ _ ai),dt AA,d2,?_⟩;walk_at "2";rw[show decide (V.int (AO rs ws)=V.int m)=true from Ae (by rw[show AO rs ws=m by lia])];exact q _ (al.trans af)
 .rw[show decide (V.int ((ws.length:Int)-1)=V.int 0)=false from Ai (λz=>ag (V.int.inj z))];refine AR ?_;obtain⟨tt,bb,e1,e2,aN,ar,ao,av,ak,aI⟩:=mu (sp:=m-AO rs ws) (mn:=(ws.length:Int)-1) (by lia) aa ad aF;rw[ap]at e1 e2
  rw[e1,e2]at ai
  have ay:=G.hi1;have aJ:=G.b0;have aO:=G.b1;have aM:=G.m0;have aL:=G.m1;have aH:hi*(bb:Int)<=1000*99:=Jt ay (by lia) (by lia) (by lia);walk_at "2";walk_at "1";walk_at "1";walk_at "2";rw[Ai (show ¬(bb:Int)<1 by lia)];refine AR ?_;walk_at "2";refine⟨tt,bb,rfl,λH5 af=>?_⟩;rw[ar];have e3:AO rs ws*(bb:Int)+((ws.length:Int)-1)*(tt:Int)=m*(bb:Int):=by
   rw[ao,Int.sub_mul]
   lia
  walk_at "2";refine CG (λ_=>?_) (λc=>absurd (Ae (by show V.int _=V.int _;rw[e3])) c);walk_at "2";rw[Ae av];refine BB ?_;walk_at "2";show Q (V.bl (decide ((tt:Int)<=hi*(bb:Int)))) H5;rw[Ae ak];exact q _ (al.trans af)
def mx:Sp:=λvs H Q _=>∃(sp m lo ideal hi:Int) (g:Addr) (last:Bool),vs=[.int sp,.int m,.ref g,.bl last]/\H g=some (.tup [.int lo,.int ideal,.int hi])/\0<=m/\m<=1000/\-1000000000<=sp/\sp<=1000000000/\0<=ideal/\ideal<=1000/\∀H',AF H H'->Q (DK (FA sp m lo ideal hi last)) H'
theorem my(T:Tx K mg a):AJ P w K mg base BL 2 (a.f 20) (a.d 20) ["spare","many","gaps","last"] mx:=by
 have F:=@Y0 P w K mg base a T;refine T.cost_of.fn.ok Pj (λvs H Q E h=>?_) (λae A outer s H vs Q E hr h=>?_)
 .obtain⟨sp,m,lo,ideal,hi,g,last,rfl,_⟩:=h;rfl
 obtain⟨sp,m,lo,ideal,hi,g,last,rfl,Z,G,I,aa,ac,Y,hi1,q⟩:=h;obtain⟨ad,af⟩:=Ln.fu G I Y hi1;refine⟨_,(AL (IG (pv 2) (FO K rfl (n:=3) rfl (BY (BF (i:=4) Pj.nd rfl AM) (BY (BF (i:=5) Pj.nd rfl AM) (BY (BF (i:=6) Pj.nd rfl AM) FL)))))
  (AL (BQ (i:=7) Pj.nd rfl AM (AU IH (pv 0) (AU IS (pv 1) (pv 5))))
  (AL (CF (PW.pt (L6 (IC (pv 3)) (L5 (BU Zi (pv 7) AN (BM _))))) (AQ (BK AN)) CP)
  (AQ (BK (Nz (BU EM (BN T.misfit F hr rfl (AC (pv 0) (AC (pv 1) (AC (pv 2) AG)))) AN (BM _)) (AU IS (pv 7) (pv 7)) Lu)))))),?_⟩
 walk_at "4";try refine⟨_,_,rfl,BP.of Z,rfl,?_⟩
 walk_at "1";walk_at "1";walk_at "1";have rest:∀W:V->Hp->Prop,(∀H',AF H H'->W (DK (FA sp m lo ideal hi last)) H')->¬(last=true/\0<=sp-m*ideal) ->
  (if Ln.misfit sp m lo hi=0 then W (.int ((sp-m*ideal)*(sp-m*ideal))) H else W .non H):=λW q' hn=>by
  have J:=q' H (AF.refl _);split
  .rename_i hz;rw[Ln.fo hn hz]at J
   exact J
  .rename_i hz;rw[Ln.fq hn hz]at J
   exact J
 cases last with
 | false =>
   walk_at "4";try refine AR ?_
   try refine AR ?_
   walk_at "4";refine⟨_,_,lo,ideal,hi,g,rfl,Z,G,I,?_⟩;walk_at "4";have r:=rest _ q (λz=>by cases z.1);refine CG (λc=>?_) (λc=>?_)
   .rw[Ar (V.int.inj (Bc c))]at r
    walk_at "4";exact r
   .rw[Aq (λz=>c (Ae (Bs V.int z)))]at r
    exact r
 | true =>
   walk_at "4";try refine BB ?_
   walk_at "4";refine CG (λc=>?_) (λc=>?_)
   .have J:=q H (AF.refl _);rw[Ln.fm rfl (Bc c)]at J
    exact J
   .walk_at "4";refine⟨_,_,lo,ideal,hi,g,rfl,Z,G,I,?_⟩;walk_at "4";have r:=rest _ q (λz=>c (Ae z.2));refine CG (λc=>?_) (λc=>?_)
    .rw[Ar (V.int.inj (Bc c))]at r
     walk_at "4";exact r
    .rw[Aq (λz=>c (Ae (Bs V.int z)))]at r
     exact r
abbrev CT(rs:List CC)(ws:List Str)(ms lo ideal hi:Int):Br.FY:=⟨ws.map λx=>HC rs x,ms,lo,ideal,hi⟩
def mz(K:Frag):Sp:=λvs H Q _=>∃(l p g:Addr) (rs:List CC) (ws:List Str) (ms lo ideal hi:Int),vs=[.ref l,.ref p,.int ms,.ref g]/\Cs.IJ K H l rs/\AH K H p (ws.map V.str)/\ws.length<=63/\(∀x∈ws,x.length<=1000/\∀c∈x.cps.toList,(CK rs (sg c)).isSome=true)/\(∀x∈ws,0<=HC rs x/\HC rs x<=100000) /\
 H g=some (.tup [.int lo,.int ideal,.int hi])/\0<=ideal/\ideal<=1000/\0<=ms/\ms<=1000000/\∀(d:Addr) (F:List (List DH×V)) (H':Hp),H d=none->AF H H'->H' d=some (.dT F)->OU (CT rs ws ms lo ideal hi) F->Q (.ref d) H'
theorem mB(T:Tx K mg a):AJ P w K mg base BL 3 (a.f 21) (a.d 21) ["case","words","measure","gaps"] (mz K):=by
 have G:=@XY P w K mg base a T;have W:=@my P w K mg base a T;refine T.costs_of.fn.ok Mv (λvs H Q E h=>?_) (λaQ A outer s H vs Q E hr h=>?_)
 .obtain⟨l,p,g,rs,ws,ms,lo,ideal,hi,rfl,_⟩:=h;rfl
 obtain⟨l,p,g,rs,ws,ms,lo,ideal,hi,rfl,hC,hL,aO,hw,aE,hG,au,hi1,aP,aL,q⟩:=h;refine⟨_,(AL (Mi (i:=4) Mv.nd rfl AM rfl (FJ K rfl (pv 1)) (BH.of (N':=["case","words","measure","gaps","widths","costs","start","spare","end","cost","word"]) (ms:=[]) (k:=1) (by rfl)) (λ_ _ _ _ _=>(BF (i:=10) (show List.Nodup (["case","words","measure","gaps","widths","costs","start","spare","end","cost","word"]:List Str)from by decide +kernel) rfl AM)) (λ_ _ _ _ _=>GG) (λ_ _ _ _ _=>(BN T.width_of G hr rfl (AC (pv 0) (AC (pv 10) AG)))))
  (AL (BQ (i:=5) Mv.nd rfl AM eU)
  (AL (GL Bb rfl (L7 rfl T.b_range (AC (CY (EB K rfl) rfl T.b_len DP (AC (pv 1) AG)) AG)) (BF (i:=6) Mv.nd rfl AM) (AL (BQ (i:=7) Mv.nd rfl AM (pv 2))
  (AQ (GL Bb rfl (Rm rfl T.b_range (AC (AU DG (pv 6) AN) (AC (AU DG (CY (EB K rfl) rfl T.b_len DP (AC (pv 1) AG)) AN) AG))) (BF (i:=8) Mv.nd rfl AM) (AL (BQ (i:=7) Mv.nd rfl AM (AU IH (pv 7) (CA (DR K rfl) (pv 4) (AU IH (pv 8) AN) (λ_ _=>rfl))))
  (AL (BQ (i:=9) Mv.nd rfl AM (BN T.cost_of W hr rfl (AC (pv 7) (AC (AU IH (AU IH (pv 8) (pv 6)) AN) (AC (pv 3) (AC (FM EM (pv 8) (CY (EB K rfl) rfl T.b_len DP (AC (pv 1) AG)) (BM _)) AG))))))
  (AQ (CF (Nw (Oh (pv 9))) (AQ (V9 (NG hr) (pv 5) (EE (AC (pv 6) (AC (pv 8) AG))) (pv 9) rfl)) CP))))))))
  (AQ (BK (pv 5)))))),?_⟩
 generalize aa:CT rs ws ms lo ideal hi=pr at q;have af:pr.zs=ws.map λx=>HC rs x:=by rw[<-aa]
 have aF:pr.zs.length=ws.length:=by rw[af,A6]
 have aB:pr.n=ws.length:=aF;have av:pr.ms=ms:=by rw[<-aa]
 have aw:pr.lo=lo:=by rw[<-aa]
 have az:pr.ideal=ideal:=by rw[<-aa]
 have aD:pr.hi=hi:=by rw[<-aa]
 have ak:∀z∈pr.zs,0<=z/\z<=100000:=λz hz=>by
  rw[af]at hz
  obtain⟨x,hx,rfl⟩:=Bw.mp hz;exact aE x hx
 have aq:∀i j,j<=pr.zs.length->0<=List.sum (Br.seg pr.zs i j)/\List.sum (Br.seg pr.zs i j)<=6300000:=λi j hj=>by
  have h1:=Qa (zs:=Br.seg pr.zs i j) (B:=100000) (by decide) λz hz=>ak z (Ea (Gr hz))
  have h2:=Br.Vj (i:=i) hj;have h3:((Br.seg pr.zs i j).length:Int)<=63:=by lia
  have h4:((Br.seg pr.zs i j).length:Int)*100000<=6300000:=by lia
  lia
 walk_at "4";try refine⟨⟨_,hL⟩,?_⟩
 intro D hD;refine HB (a:=p) (xs:=ws.map V.str) (λi ys σ H2=>∃(aC:Option V),ys=((ws.take i).map λx=>HC rs x).map V.int/\σ=[some (.ref l),some (.ref p),some (.int ms),some (.ref g),none,none,none,none,none,none,aC]/\AF H H2/\H2 D=some (.lst ys))
  ?_ ?_ ?_ ?_
 .exact⟨none,rfl,rfl,AV hD _,AA⟩
 .exact λi ys σ H2 _ ⟨_,_,_,hs,_⟩=>hs.seq hL
 .rintro i y ys σ H2 hy aA ⟨v2,rfl,rfl,hs,hh⟩;obtain⟨x,rfl,ap⟩:=Sb hy;obtain⟨h1,h2⟩:=hw x (Ag ap);walk_at "4";refine⟨l,x,rs,rfl,hC.same hs,h1,h2,λH3 J=>?_⟩;refine EN aA (J _ _ hh) ?_ ⟨_,?_,rfl,DO (hs.trans J) hD,AA⟩
  .rw[A6,A6,Al]
   lia
  .rw[Ay,ap,Ah,Ah];rfl
 .rintro ys σ H2 ⟨v2,rfl,rfl,Z,an⟩;rw[A6,Ak (Af _),<-af]at an
  walk_at "4";intro d hd;have aJ:H d=none:=Z.free hd;walk_at "4";refine⟨p,_,rfl,.inl ((FN Z hd).seq hL),?_⟩;rw[A6];refine⟨_,rfl,by lia,by lia,?_⟩;refine Kv (n:=ws.length) (λi σ H3=>∃(F:List (List DH×V)) (v6 v7 v8 v9:Option V),σ=[some (.ref l),some (.ref p),some (.int ms),some (.ref g),some (.ref D),some (.ref d),v6,v7,v8,v9]/\AF H2 H3/\H3 d=some (.dT F)/\F.length<=i*100/\Br.IM pr F λa _=>a<i)
   ⟨[],none,none,none,none,rfl,AV hd _,AA,B9 _,Br.IM.nil pr⟩ ?_ ?_
  .rintro i σ H3 aR ⟨F,v6,v7,v8,v9,rfl,J,ai,ao,ah⟩;walk_at "4";refine⟨p,_,rfl,.inl ((Z.trans J).seq hL),?_⟩;rw[A6];refine⟨_,_,rfl,rfl,?_⟩;refine⟨_,_,rfl,⟨by lia,by lia,by lia,by lia⟩,?_⟩;refine Kv (n:=((ws.length:Int)+1-(0+(i:Int)+1)).toNat) (λk σ H4=>∃(F:List (List DH×V)) (v8 v9:Option V),σ=[some (.ref l),some (.ref p),some (.int ms),some (.ref g),some (.ref D),some (.ref d),some (.int (0+(i:Int))),some (.int (ms-List.sum (Br.seg pr.zs i (i+k)))),v8,v9]/\AF H2 H4/\H4 d=some (.dT F)/\F.length<=i*100+k/\Br.IM pr F λa b=>a<i\/(a=i/\b<i+1+k))
    ⟨F,v8,v9,?_,J,ai,ao,ah.iff λa b ay hb=>?_⟩ ?_ ?_
   .rw[Kd,Br.fE];show _=[_,_,_,_,_,_,_,some (V.int (ms-0)),_,_]
    rw[Int.sub_zero];rfl
   .constructor<;>intro z<;>lia
   .rintro k σ H4 hk ⟨F,v8,v9,rfl,I,ae,al,Y⟩;have ar:i+k<pr.zs.length:=by lia
    have ac:pr.zs[i+k]?=some pr.zs[i+k]:=A7 ar;have aG:DJ (pr.zs.map V.int) (0+(i:Int)+1+(k:Int)-1)=some (.int pr.zs[i+k]):=by
     rw[show 0+(i:Int)+1+(k:Int)-1=((i+k:Nat):Int) by lia];exact EY (by rw[Ax,ac]<;>rfl)
    have am:=ak _ (Dw ar);have aM:=aq i (i+k) (by lia);have aj:=Br.fG ac;rw[av,aw,az,aD]at aj
    generalize pr.zs[i+k]=z at ac aG am aj;have aN:H4 D=some (.lst (pr.zs.map V.int)):=I _ _ an;have aI:H4 g=some (.tup [.int lo,.int ideal,.int hi]):=(Z.trans I) _ _ hG;have aH:=(Z.trans I).seq hL;have e3:0+(i:Int)+1+(k:Int)-(0+(i:Int))-1=(k:Int):=by lia
    have e4:decide (V.int (0+(i:Int)+1+(k:Int))=V.int (ws.length:Int))=decide (i+1+k=pr.n):=by
     rw[Ki,Ca]
     lia
    have e5:ms-List.sum (Br.seg pr.zs i (i+k))-z=ms-List.sum (Br.seg pr.zs i (i+(k+1))):=by
     rw[show i+(k+1)=i+k+1 by lia,Br.Vk (by lia) ac,Gv,Ec,List.sum_nil]
     lia
    have ek:([Sum.inl (0+(i:Int)),Sum.inl (0+(i:Int)+1+(k:Int))]:List DH)=[Sum.inl (i:Int),Sum.inl ((i+1+k:Nat):Int)]:=by
     rw[show 0+(i:Int)=(i:Int) by lia,show(i:Int)+1+(k:Int)=((i+1+k:Nat):Int) by lia]
    walk_at "4";refine⟨p,_,rfl,.inl aH,?_⟩;rw[A6];walk_at "4";refine⟨_,_,lo,ideal,hi,g,_,rfl,aI,by lia,by lia,by lia,by lia,au,hi1,λH5 ad=>?_⟩;rw[e3,e4,aj];cases hlc:Br.lc pr i (i+1+k)with
    | none =>
      walk_at "4";try refine AR ?_
      exact⟨F,_,_,by rw[<-e5];rfl,I.trans ad,ad _ _ ae,by lia,Y.skip hlc⟩
    | some c =>
      walk_at "4";try refine BB ?_
      walk_at "4";intro b hb;have ax:=AV hb (.tup [.int (0+(i:Int)),.int (0+(i:Int)+1+(k:Int))]) _ _ (ad _ _ ae);refine⟨d,_,rfl,IK.t (k:=[Sum.inl (0+(i:Int)),Sum.inl (0+(i:Int)+1+(k:Int))]) ax AA (IV (by lia)),?_⟩;rw[ek];have aK:=Q4 F [Sum.inl (i:Int),Sum.inl ((i+1+k:Nat):Int)] (V.int c);have ag:(DY F [Sum.inl (i:Int),Sum.inl ((i+1+k:Nat):Int)] (V.int c)).length<=i*100+(k+1):=by lia
      exact⟨_,_,_,by rw[<-e5];rfl,DO (FN (I.trans ad) hb) hd,AA,ag,Y.put hlc⟩
   .rintro σ H4 ⟨F,v8,v9,rfl,I,ae,al,Y⟩;refine⟨F,_,_,_,_,rfl,I,ae,by lia,Y.iff λa b ay hb=>?_⟩;constructor<;>intro z<;>lia
  .rintro σ H3 ⟨F,v6,v7,v8,v9,rfl,J,ai,ao,ah⟩;walk_at "4";exact q d F H3 aJ (Z.trans J) ai (Br.IM.all (ah.iff λa b _ _=>by rw[aB]))
def mC(K:Frag):Sp:=λvs H Q _=>∃(d t:Addr) (F:List (List DH×V)) (tb:List (Option Int)) (i j:Nat),vs=[.ref d,.ref t,.int (i:Int),.int (j:Int)]/\H d=some (.dT F)/\AH K H t (tb.map DK)/\j<tb.length /\
 ∀H',AF H H'->Q (.bl ((CM F [.inl (i:Int),.inl (j:Int)]).isSome&&(tb.getD j none).isSome)) H'
theorem mD(T:Tx K mg a):AJ P w K mg base BL 1 (a.f 22) (a.d 22) ["costs","table","start","end"] (mC K):=by
 refine T.can_follow.fn.ok jS (λvs H Q E h=>?_) (λaa A outer s H vs Q E Z h=>?_)
 .obtain⟨d,t,G,tb,i,j,rfl,_⟩:=h;rfl
 obtain⟨d,t,G,tb,i,j,rfl,hd,hT,W,q⟩:=h;refine⟨_,(AQ (BK (JD (Oi (V8 (NG Z) (EE (AC (pv 2) (AC (pv 3) AG))) (pv 0))) (KI (Oi (Oh (CA (DR K rfl) (pv 1) (pv 3) (λ_ _=>rfl)))))))),?_⟩;have F:DJ (tb.map DK) (j:Int)=some (DK (tb.getD j none)):=EY (by rw[Ax,A7 W,B5,A7 W]<;>rfl);walk_at "4";intro b hb;have J:=AV hb (.tup [.int (i:Int),.int (j:Int)]) _ _ hd;walk_at "4";refine⟨d,_,rfl,FQ.t (k:=[Sum.inl (i:Int),Sum.inl (j:Int)]) J AA,?_⟩;have I:=q _ (AV hb (.tup [.int (i:Int),.int (j:Int)]));generalize CM G [Sum.inl (i:Int),Sum.inl (j:Int)]=Y at I⊢;generalize tb.getD j none=tv at I F⊢;cases Y with
 | none =>
   refine⟨_,rfl,?_⟩;exact AR I
 | some c =>
   refine⟨_,rfl,?_⟩;refine BB ?_;refine⟨_,rfl,?_⟩;refine⟨_,rfl,?_⟩;refine⟨t,_,_,_,rfl,rfl,(AV hb _).seq hT,F,?_⟩;cases tv with
   | none=>exact I
   | some c2=>exact I
def mE(K:Frag):Sp:=λvs H Q _=>∃(d t:Addr) (F:List (List DH×V)) (tb:List (Option Int)) (pr:Br.FY) (i:Nat),vs=[.ref d,.ref t,.int (i:Int)]/\H d=some (.dT F)/\OU pr F/\AH K H t (tb.map DK)/\tb.length=pr.n+1/\i<pr.n/\pr.n<=63 /\
 ∀(r:Addr) (xs:List V) (H':Hp),H r=none->AF H H'->H' r=some (.lst xs)->Paired (NR H') xs (GI pr (λj=>tb.getD j none) i (pr.n-i))->Q (.ref r) H'
theorem Y3(T:Tx K mg a):AJ P w K mg base BL 2 (a.f 23) (a.d 23) ["costs","table","start"] (mE K):=by
 have G:=@mD P w K mg base a T;refine T.choices.fn.ok Xt (λvs H Q E h=>?_) (λay A outer s H vs Q E hr h=>?_)
 .obtain⟨d,t,am,tb,pr,i,rfl,_⟩:=h;rfl
 obtain⟨d,t,am,tb,pr,i,rfl,hd,al,hT,ao,hi,hn,q⟩:=h;refine⟨_,(AL (Mi (i:=3) Xt.nd rfl AM rfl (Rm rfl T.b_range (AC (AU DG (pv 2) AN) (AC (CY (EB K rfl) rfl T.b_len DP (AC (pv 1) AG)) AG))) (BH.of (N':=["costs","table","start","ends","end"]) (ms:=[]) (k:=1) (by rfl)) (λ_ _ _ _ _=>(BF (i:=4) (show List.Nodup (["costs","table","start","ends","end"]:List Str)from by decide +kernel) rfl AM)) (λ_ _ _ _ _=>(OH (IC (BN T.can_follow G hr rfl (AC (pv 0) (AC (pv 1) (AC (pv 2) (AC (pv 4) AG)))))))) (λ_ _ _ _ _=>(pv 4)))
  (AQ (BK (GV rfl (FJ K rfl (pv 3)) (BH.of (N':=["costs","table","start","ends","end"]) (ms:=[]) (k:=1) (by rfl)) (λ_ _ _ _ _=>(BF (i:=4) (show List.Nodup (["costs","table","start","ends","end"]:List Str)from by decide +kernel) rfl AM)) (λ_ _ _ _ _=>GG) (λ_ _ _ _ _=>(EE (AC (AU DG (V7 (NG hr) (pv 0) (EE (AC (pv 2) (AC (pv 4) AG))) (λ_ _=>rfl)) (CA (DR K rfl) (pv 1) (pv 4) (λ_ _=>rfl))) (AC (pv 4) AG)))))))),?_⟩
 have aj:(tb.map DK).length=pr.n+1:=by rw[A6,ao]
 walk_at "4";refine⟨t,_,rfl,.inl hT,?_⟩;rw[aj];refine⟨_,_,rfl,⟨by lia,by lia,by lia,by lia⟩,λD hD=>?_⟩;generalize aq:(λj=>tb.getD j none)=f at q;have hf:∀j,tb.getD j none=f j:=λj=>by rw[<-aq]
 refine dP (n:=(((pr.n+1:Nat):Int)-((i:Int)+1)).toNat) (λk ys σ H2=>∃(v4:Option V),ys=(Br.ends pr f i k).map (λe:Nat=>V.int (e:Int))/\σ=[some (.ref d),some (.ref t),some (.int (i:Int)),none,v4]/\AF H H2/\H2 D=some (.lst ys))
  ?_ ?_ ?_
 .exact⟨none,rfl,rfl,AV hD _,AA⟩
 .rintro k ys σ H2 hk ⟨v4,rfl,rfl,hs,hh⟩;have ag:=Qd (λk=>(IL (Br.lc pr i (i+1+k)) (f (i+1+k))).map λ_=>i+1+k) k;have ag:(Br.ends pr f i k).length<=k:=ag;have I:Br.ends pr f i (k+1)=Br.ends pr f i k++((IL (Br.lc pr i (i+1+k)) (f (i+1+k))).map λ_=>i+1+k).toList:=Br.NQ _ k;have ej:(i:Int)+1+(k:Int)=((i+1+k:Nat):Int):=by lia
  rw[ej];walk_at "4";refine⟨d,t,am,tb,i,i+1+k,rfl,hs _ _ hd,hs.seq hT,by lia,λY F=>?_⟩;rw[al i (i+1+k) (by lia) (by lia),hf];walk_at "4";cases h1:Br.lc pr i (i+1+k)with
  | none =>
    rw[h1]at I
    refine AR ?_;refine MW hk ⟨_,?_,rfl,hs.trans F,F _ _ hh⟩;rw[I];show _=(_++[]).map _;rw[Av]
  | some c =>
    cases h2:f (i+1+k)with
    | none =>
      rw[h1,h2]at I
      refine AR ?_;refine MW hk ⟨_,?_,rfl,hs.trans F,F _ _ hh⟩;rw[I];show _=(_++[]).map _;rw[Av]
    | some c2 =>
      rw[h1,h2]at I
      refine BB ?_;walk_at "4";refine EN hk (F _ _ hh) (by rw[A6];lia) ⟨_,?_,rfl,DO (hs.trans F) hD,AA⟩;rw[I,Ah];rfl
 .rintro ys σ H2 ⟨v4,rfl,rfl,ah,aa⟩;have en:(((pr.n+1:Nat):Int)-((i:Int)+1)).toNat=pr.n-i:=by lia
  rw[en]at aa
  have ax:=hD;walk_at "4";try refine⟨⟨_,AH.of aa⟩,?_⟩
  intro D2 ac;have ag:(Br.ends pr f i (pr.n-i)).length<=pr.n-i:=Qd _ _;have Z:(GI pr f i (pr.n-i)).length=(Br.ends pr f i (pr.n-i)).length:=by rw[<-Vn,A6]
  refine HB (a:=D) (xs:=(Br.ends pr f i (pr.n-i)).map (λe:Nat=>V.int (e:Int))) (λk ys σ Y=>∃(v4:Option V),σ=[some (.ref d),some (.ref t),some (.int (i:Int)),some (.ref D),v4]/\AF H2 Y/\Y D2=some (.lst ys)/\Paired (NR Y) ys ((GI pr f i (pr.n-i)).take k))
   ?_ ?_ ?_ ?_
  .exact⟨none,rfl,AV ac _,AA,.nil⟩
  .exact λk ys σ Y _ ⟨_,_,F,_⟩=>AH.of (F _ _ aa)
  .rintro k y ys σ Y hy ad ⟨v4,rfl,F,af,J⟩;have ak:=ad;rw[A6,<-Z]at ad
   obtain⟨x,hx⟩:∃x,(GI pr f i (pr.n-i))[k]?=some x:=⟨_,A7 ad⟩
   obtain⟨m1,m2,c1,c2,e1,e2,e3⟩:=Br.Vo (Ag hx);have ar:y=.int ((x.2:Nat):Int):=by
    rw[<-Vn,Ff,Ax,hx]at hy
    exact(Ap hy).symm
   subst ar;have au:(GI pr f i (pr.n-i)).take (k+1)=(GI pr f i (pr.n-i)).take k++[x]:=by rw[Ay,hx];rfl
   have aw:ys.length<=63:=by
    rw[Bh J,Al]
    lia
   have W:=ah.trans F;have av:DJ (tb.map DK) ((x.2:Nat):Int)=some (.int c2):=by
    have an:x.2<tb.length:=by lia
    have e4:=hf x.2;rw[e2,B5,A7 an]at e4
    have e4:tb[x.2]=some c2:=e4;exact EY (by rw[Ax,A7 an,e4]<;>rfl)
   walk_at "4";intro b hb;have hg:=FQ.t (k:=[Sum.inl (i:Int),Sum.inl ((x.2:Nat):Int)]) (AV hb (.tup [.int (i:Int),.int ((x.2:Nat):Int)]) _ _ (W _ _ hd)) AA;rw[al i x.2 m1 (by lia),e1]at hg
   walk_at "4";refine⟨d,_,rfl,hg,?_⟩;have ap:=FN (o:=.tup [.int (i:Int),.int ((x.2:Nat):Int)]) W hb;walk_at "4";refine⟨t,_,_,_,rfl,rfl,ap.seq hT,av,?_⟩;walk_at "4";intro b2 ai;have ae:=AV ai (.tup [.int (c1+c2),.int ((x.2:Nat):Int)]) _ _ (AV hb (.tup [.int (i:Int),.int ((x.2:Nat):Int)]) _ _ af);refine EN (ys:=ys) ak ae (by lia) ⟨_,rfl,DO (FN (FN F hb) ai) ac,AA,?_⟩;rw[au];refine Ce (Br.fI (Vp (Vp J (AV hb _)) (AV ai _)) ae (λz e=>by cases e)) ⟨b2,rfl,?_⟩;rw[BV (HI AA ae (λe=>by cases e)),AA,e3]
  .rintro ys σ Y ⟨v4,rfl,F,af,J⟩;rw[A6,<-Z,Ak (Af _)]at J
   exact q D2 ys Y (ah.free ac) (ah.trans F) af J
theorem mF(h:k<n):Kx n (k:Int)=some k:=by
 unfold Kx;rw[Ar (by lia),Ar (by lia)];congr 1
theorem mG(n:Nat):(List.replicate n [V.non]).flatten++[V.int 0]=((List.replicate n (none:Option Int))++[some 0]).map DK:=by
 induction n with
 | zero=>rfl
 | succ n ih =>
   rw[Co,Cr,Co];show V.non::((List.replicate n [V.non]).flatten++[V.int 0])=DK none::_;rw[ih];rfl
theorem mH(pr:Br.FY):Br.Lj pr (λj=>((List.replicate pr.n (none:Option Int))++[some 0]).getD j none) pr.n:=by
 refine⟨?_,λi h1 h2=>absurd h1 (Nat.not_le_of_lt h2)⟩;show((List.replicate pr.n (none:Option Int))++[some 0]).getD pr.n none=some 0;rw[B5,Bv (by rw[Ci];exact Af _),Ci,E9];rfl
theorem map_set{tb:List (Option Int)}{i:Nat}{v:Option Int}:(tb.map DK).set i (DK v)=(tb.set i v).map DK:=by rw[List.map_set]
def mI(K:Frag):Sp:=λvs H Q _=>∃(d:Addr) (F:List (List DH×V)) (pr:Br.FY),vs=[.ref d,.int (pr.n:Int)]/\H d=some (.dT F)/\OU pr F/\pr.n<=63 /\
 ∀(r:Addr) (tb:List (Option Int)) (H':Hp),H r=none->AF H H'->H' r=some (.lst (tb.map DK))->tb.length=pr.n+1->Br.Lj pr (λj=>tb.getD j none) 0->Q (.ref r) H'
theorem mJ(T:Tx K mg a):AJ P w K mg base BL 3 (a.f 24) (a.d 24) ["costs","many"] (mI K):=by
 have G:=@Y3 P w K mg base a T;refine T.table_of.fn.ok Td (λvs H Q E h=>?_) (λar A outer s H vs Q E hr h=>?_)
 .obtain⟨d,ag,pr,rfl,_⟩:=h;rfl
 obtain⟨d,ag,pr,rfl,hd,ak,hn,q⟩:=h;refine⟨_,(AL (BQ (i:=2) Td.nd rfl AM (AU Ky (AU RL (DA (AC Lu AG)) (pv 1)) (DA (AC AN AG))))
  (AL (GL Bb rfl (fC rfl T.b_range (AC (AU IH (pv 1) AN) (AC (MF ML AN) (AC (MF ML AN) AG)))) (BF (i:=3) Td.nd rfl AM) (AQ (IG (fj K rfl rfl rfl T.b_min (GV rfl (FJ K rfl (BN T.choices G hr rfl (AC (pv 0) (AC (pv 2) (AC (pv 3) AG))))) (BH.of (N':=["costs","many","table","start","cost","end"]) (ms:=[]) (k:=2) (by rfl)) (λ_ _ _ _ _=>(FO K rfl (n:=2) rfl (BY (BF (i:=4) (show List.Nodup (["costs","many","table","start","cost","end"]:List Str)from by decide +kernel) rfl AM) (BY (BF (i:=5) (show List.Nodup (["costs","many","table","start","cost","end"]:List Str)from by decide +kernel) rfl AM) FL)))) (λ_ _ _ _ _=>GG) (λ_ _ _ _ _=>(pv 4)))) (U2 (pv 2) (pv 3) Uv))))
  (AQ (BK (pv 2))))),?_⟩
 walk_at "4";intro p1 ae;refine⟨_,rfl,?_⟩;refine⟨p1,_,_,rfl,rfl,AA,by lia,by lia,DD (by show 1*_<=_;lia),λp2 ad=>?_⟩;walk_at "4";intro p3 ac;have aq:((List.replicate ((pr.n:Int)).toNat [V.non]).flatten).length<=63:=by
  rw[UE];show _*1<=_
  lia
 refine⟨p2,p3,_,_,rfl,rfl,by walk_at "0",AA,DD (by show _+1<=_;lia),λp4 ai=>?_⟩;rw[show((pr.n:Int)).toNat=pr.n by lia,mG pr.n]at *
 have al:=FN (o:=.lst ((List.replicate pr.n (none:Option Int)++[some 0]).map DK)) (FN (o:=.lst [.int 0]) (FN (o:=.lst (List.replicate pr.n [V.non]).flatten) (AV ae (.lst [V.non])) ad) ac) ai;have h0:H p4=none:=(FN (o:=.lst [.int 0]) (FN (o:=.lst (List.replicate pr.n [V.non]).flatten) (AV ae (.lst [V.non])) ad) ac).free ai;walk_at "4";refine⟨_,_,_,rfl,⟨by lia,by lia,by lia,by lia⟩,⟨by decide,by decide,by decide⟩,?_⟩;refine  fD (lo:=(pr.n:Int)-1) (st:=-1) (n:=FB ((pr.n:Int)-1) (-1) (-1)) (λc σ H5=>∃(tb:List (Option Int)) (v3:Option V),σ=[some (.ref d),some (.int (pr.n:Int)),some (.ref p4),v3]/\AF H H5/\H5 p4=some (.lst (tb.map DK))/\tb.length=pr.n+1/\Br.Lj pr (λj=>tb.getD j none) (pr.n-c))
  ⟨_,none,rfl,al,AA,by rw[Aa,Ci];rfl,mH pr⟩ ?_ ?_
 .rintro c σ H5 hc ⟨tb,v3,rfl,Y,h5,J,F⟩;rw[Vi]at hc
  have ev:(pr.n:Int)-1+(c:Int)*-1=((pr.n-(c+1):Nat):Int):=by lia
  rw[ev];have aa:pr.n-(c+1)<pr.n:=by lia
  have F:Br.Lj pr (λj=>tb.getD j none) (pr.n-(c+1)+1):=by rw[show pr.n-(c+1)+1=pr.n-c by lia];exact F
  generalize pr.n-(c+1)=st at aa F⊢;walk_at "4";refine⟨d,p4,ag,tb,pr,st,rfl,Y _ _ hd,ak,AH.of h5,J,aa,hn,λr xs H6 au an ah af=>?_⟩;refine⟨r,rfl,⟨_,AH.of ah⟩,λD hD=>?_⟩;have ao:=Bh af;have ap:(GI pr (λj=>tb.getD j none) st (pr.n-st)).length<=pr.n-st:=Qd _ _;refine HB (a:=r) (xs:=xs) (λk ys σ H7=>∃(v4 v5:Option V),ys=(((GI pr (λj=>tb.getD j none) st (pr.n-st)).take k).map λx=>x.1).map V.int/\σ=[some (.ref d),some (.int (pr.n:Int)),some (.ref p4),some (.int (st:Int)),v4,v5]/\AF H6 H7/\H7 D=some (.lst ys))
   ?_ ?_ ?_ ?_
  .exact⟨none,none,rfl,rfl,AV hD _,AA⟩
  .exact λk ys σ H7 _ ⟨_,_,_,_,I,_⟩=>AH.of (I _ _ ah)
  .rintro k y ys σ H7 hy aj ⟨v4,v5,rfl,rfl,I,W⟩;obtain⟨x,am,t,rfl,ht⟩:=FU af hy;refine⟨_,_,rfl,BP.of (I _ _ ht),rfl,?_⟩;walk_at "1";walk_at "1";walk_at "4";refine EN aj W ?_ ⟨_,_,?_,rfl,DO I hD,AA⟩
   .rw[A6,A6,Al]
    lia
   .rw[Ay,am,Ah,Ah];rfl
  .rintro ys σ H7 ⟨v4,v5,rfl,rfl,I,W⟩;rw[ao,Ak (Af _),Br.fH]at W
   have Z:=an.trans I;refine⟨D,_,rfl,AH.of W,?_⟩;walk_at "4";refine⟨p4,_,_,st,rfl,rfl,Z _ _ h5,mF (by rw[A6];lia),?_⟩;refine⟨tb.set st (Br.JK pr (λj=>tb.getD j none) st),_,rfl,DO (Y.trans Z) h0,?_,by rw[Em];exact J,?_⟩
   .rw[AA];exact Bs (λz=>some (HO.lst z)) map_set
   .exact F.set J aa
 .rintro σ H5 ⟨tb,v3,rfl,Y,h5,J,F⟩;rw[Vi,E9]at F
  walk_at "4";exact q p4 tb H5 h0 Y h5 J F
abbrev DL:Nat->V:=λb=>V.int (b:Int)
def mK(K:Frag):Sp:=λvs H Q _=>∃(d:Addr) (F:List (List DH×V)) (pr:Br.FY),vs=[.ref d,.int (pr.n:Int)]/\H d=some (.dT F)/\pr.n<=63/\OU pr F/\∀(m:Nat) (H':Hp),Pc (Br.lc pr) pr.n m->AF H H'->Q (.int (m:Int)) H'
theorem mL(T:Tx K mg a):AJ P w K mg base BL 1 (a.f 25) (a.d 25) ["costs","many"] (mK K):=by
 refine T.most_in_full_lines.fn.ok Te (λvs H Q E h=>?_) (λaw A outer s H vs Q E hr h=>?_)
 .obtain⟨d,ag,pr,rfl,_⟩:=h;rfl
 obtain⟨d,ag,pr,rfl,hd,hn,Z,q⟩:=h;refine⟨_,(AL (BQ (i:=2) Te.nd rfl AM (DA (AC AN AG)))
  (AL (GL Bb rfl (Rm rfl T.b_range (AC AN (AC (AU DG (pv 1) AN) AG))) (BF (i:=3) Te.nd rfl (Or.inr rfl)) (AQ (CF (IC (CY (Sx K rfl rfl) rfl T.b_any gS (AC (GV rfl (FJ K rfl (pv 2)) (BH.of (N':=["costs","many","reached","end","start"]) (ms:=[]) (k:=1) (by rfl)) (λ_ _ _ _ _=>(BF (i:=4) (show List.Nodup (["costs","many","reached","end","start"]:List Str)from by decide +kernel) rfl AM)) (λ_ _ _ _ _=>GG) (λ_ _ _ _ _=>(Oi (V8 (NG hr) (EE (AC (pv 4) (AC (pv 3) AG))) (pv 0))))) AG))) (AQ (EJ (DX K rfl B7 Bi Bj JH (pv 2) (AC (pv 3) AG)))) CP)))
  (AQ (BK (CA (DR K rfl) (pv 2) (MF ML AN) (λ_ _=>rfl)))))),?_⟩
 have Z:∀i j:Nat,i<j->j<=pr.n->CM ag [.inl (i:Int),.inl (j:Int)]=(Br.lc pr i j).map V.int:=Z;generalize pr.n=n at hn Z q⊢;generalize Br.lc pr=lc at Z q;walk_at "4";intro p1 aj;have ah:=AV aj (.lst [V.int 0]);have ai:upd H p1 (.lst [V.int 0]) p1=some (.lst (([]++[0]).map DL)):=AA;generalize upd H p1 (.lst [V.int 0])=H1 at ah ai⊢;walk_at "4";refine⟨_,_,rfl,⟨by lia,by lia,by lia,by lia⟩,?_⟩;refine Kv (lo:=1) (n:=((n:Int)+1-1).toNat) (λi σ H5=>∃(v3:Option V) (G:List Nat) (m:Nat),σ=[some (.ref d),some (.int (n:Int)),some (.ref p1),v3]/\AF H H5/\H5 p1=some (.lst ((G++[m]).map DL))/\G.length<=i/\(∀j∈G++[m],j<=i/\j<=m/\Ng lc j)/\∀j,j<=i->Ng lc j->j∈G++[m])
  ⟨none,[],0,rfl,ah,ai,B9 _,λj hj=>by rw[Aj.mp hj];exact⟨Af _,Af _,.zero⟩,λj hj _=>by rw[Nat.le_zero.mp hj];exact Aj.mpr rfl⟩ ?_ ?_
 .rintro i σ H5 hi ⟨v3,G,m,rfl,aa,h5,ao,J,I⟩;have ev:(1:Int)+(i:Int)=((i+1:Nat):Int):=by lia
  rw[ev];have hi1:i+1<=n:=by lia
  walk_at "4";refine⟨⟨_,AH.of h5⟩,λD hD=>?_⟩;refine HB (a:=p1) (xs:=(G++[m]).map DL) (λj zs σ H6=>∃(v4:Option V) (bs:List Bool),zs=bs.map V.bl/\σ=[some (.ref d),some (.int (n:Int)),some (.ref p1),some (.int ((i+1:Nat):Int)),v4]/\AF H5 H6/\H6 D=some (.lst zs)/\bs=((G++[m]).take j).map λy=>(lc y (i+1)).isSome)
   ?_ ?_ ?_ ?_
  .exact⟨none,[],rfl,rfl,AV hD _,AA,rfl⟩
  .rintro j zs σ H6 hj ⟨_,_,_,_,hs,_⟩;exact hs.seq (AH.of h5)
  .rintro j x zs σ H6 hx ar ⟨v4,bs,rfl,rfl,W,af,Y⟩;rw[Ax]at hx
   obtain⟨y,hy,rfl⟩:=B6.mp hx;have au:bs.length<=64:=by
    rw[Y,A6,Al,Aa];show min _ (_+1)<=64
    lia
   have av:y<=i:=(J y (Ag hy)).1;have ak:=Z y (i+1) (by lia) hi1;walk_at "4";intro b hb;have ac:=AV hb (.tup [.int (y:Int),.int ((i+1:Nat):Int)]);have am:=ac _ _ ((aa.trans W) _ _ hd);walk_at "4";refine⟨d,_,rfl,FQ.t (k:=[Sum.inl (y:Int),Sum.inl ((i+1:Nat):Int)]) am AA,?_⟩;generalize upd H6 b (.tup [.int (y:Int),.int ((i+1:Nat):Int)])=H7 at ac⊢;refine EN ar (ac _ _ af) (by rw[A6];lia) ⟨_,bs++[(CM ag [Sum.inl (y:Int),Sum.inl ((i+1:Nat):Int)]).isSome],?_,rfl,DO (W.trans ac) hD,AA,?_⟩
   .rw[Ah];rfl
   .rw[ak,Hw,Y,Ay,hy,Ah];rfl
  .rintro zs σ H6 ⟨v4,bs,rfl,rfl,W,af,Y⟩;rw[A6,Ak (Af _)]at Y
   refine⟨D,bs,rfl,AH.of af,?_⟩;refine⟨_,rfl,?_⟩;have h6:=W _ _ h5;have ad:=aa.trans W;have ae:bs.any id=true↔∃y∈G++[m],(lc y (i+1)).isSome=true:=by
    rw[Y,Jg,Fg];rfl
   refine CG (λc=>?_) (λc=>?_)
   .obtain⟨y,hy,hc⟩:=ae.mp c;have an:=J y hy;walk_at "4";refine⟨.inl ⟨rfl,_,AH.of h6⟩,?_⟩;walk_at "4";refine⟨p1,_,_,rfl,rfl,h6,IV (by rw[A6,Aa];show _+1<=_;lia),?_⟩;refine⟨_,G++[m],i+1,rfl,DO ad aj,?_,?_,?_,?_⟩
    .rw[AA,Ah (l₁:=G++[m])];rfl
    .rw[Aa];show G.length+1<=i+1
     lia
    .intro j hj;rcases Az.mp hj with h|h
     .have:=J j h;exact⟨by lia,by lia,this.2.2⟩
     .rw[Aj.mp h];exact⟨Af _,Af _,.step an.2.2 (by lia) hc⟩
    .intro j hj hr;by_cases e:j=i+1
     .exact Bk _ (Aj.mpr e)
     .exact Cw _ (I j (by lia) hr)
   .refine⟨_,G,m,rfl,ad,h6,by lia,λj hj=>?_,λj hj hr=>?_⟩
    .have:=J j hj;exact⟨by lia,this.2⟩
    .by_cases e:j=i+1
     .subst e;refine absurd (ae.mpr ?_) c;cases hr with
      | step al ax hc=>exact⟨_,I _ (by lia) al,hc⟩
     .exact I j (by lia) hr
 .rintro σ H5 ⟨v3,G,m,rfl,aa,h5,ao,J,I⟩;have aq:DJ ((G++[m]).map DL) (-1)=some (DL m):=by rw[Ah];exact VF (G.map DL) (DL m)
  refine⟨_,rfl,?_⟩;refine⟨_,rfl,?_⟩;refine⟨p1,_,_,_,rfl,rfl,AH.of h5,aq,?_⟩;have ap:=J m (Bk _ (Aj.mpr rfl));exact q m H5 ⟨ap.2.2,by lia,λj hj hr=>(J j (I j (by lia) hr)).2.1⟩ aa
theorem mM(Y:f i=some c)(he:JM pr f i e) :
 ∃m:Nat,Br.Vr pr f i m/\OT ((((GI pr f i (pr.n-i)).filter λx=>decide (x.1=c)).map λx=>((x.2:Nat):Int)))=some (m:Int):=by
 have mem:∀z:Int,z∈(((GI pr f i (pr.n-i)).filter λx=>decide (x.1=c)).map λx=>((x.2:Nat):Int))↔∃e:Nat,z=(e:Int)/\JM pr f i e:=λz=>by
  constructor
  .intro h;obtain⟨x,hx,rfl⟩:=Bw.mp h;obtain⟨h1,h2⟩:=Fn.mp hx;exact⟨x.2,rfl,Br.fK ⟨h1,by rw[Y,Bc h2]⟩⟩
  .rintro⟨e,rfl,F⟩;obtain⟨W,h1,h2⟩:=Br.fL F;have e2:W=c:=by rw[Y]at h2;exact(Ap h2).symm
   subst e2;exact Bw.mpr ⟨(W,e),Fn.mpr ⟨h1,Ae rfl⟩,rfl⟩
 generalize (((GI pr f i (pr.n-i)).filter λx=>decide (x.1=c)).map λx=>((x.2:Nat):Int))=zs at mem;cases J:OT zs with
 | none =>
   cases zs with
   | nil=>exact absurd ((mem e).mpr ⟨e,rfl,he⟩) Bf
   | cons z r=>cases J
 | some m =>
   obtain⟨h1,h2⟩:=FW.mp J;obtain⟨Z,rfl,F⟩:=(mem m).mp h1;exact⟨Z,⟨F,λI G=>by
    have:=h2 (I:Int) ((mem _).mpr ⟨I,rfl,G⟩)
    lia⟩,rfl⟩
def mO(K:Frag)(C:Addr):Sp:=λvs H Q E=>∃(l p g:Addr) (rs:List CC) (ws:List Str) (ms lo ideal hi:Int),vs=[.ref l,.ref p,.int ms,.ref g]/\Cs.IJ K H l rs/\AH K H p (ws.map V.str)/\ws.length<=63/\(∀x∈ws,x.length<=1000/\∀c∈x.cps.toList,(CK rs (sg c)).isSome=true)/\(∀x∈ws,0<=HC rs x/\HC rs x<=100000) /\
 H g=some (.tup [.int lo,.int ideal,.int hi])/\0<=ideal/\ideal<=1000/\0<=ms/\ms<=1000000/\
 (∀H' dx (m:Nat) f,AF H H'->H' dx=none->Br.Lj (CT rs ws ms lo ideal hi) f 0->f 0=none->Pc (Br.lc (CT rs ws ms lo ideal hi)) (CT rs ws ms lo ideal hi).n m->E (.ref C) (some dx) (upd H' dx (.xd [("words",.int (m:Int))]))) /\
 ∀(r:Addr) (bs:List Nat) (f:Nat->Option Int) (H':Hp),H r=none->AF H H'->H' r=some (.lst (bs.map λb:Nat=>V.int (b:Int)))->Br.Lj (CT rs ws ms lo ideal hi) f 0->Br.FC (CT rs ws ms lo ideal hi) f 0 bs->Q (.ref r) H'
theorem mP(T:Tx K mg a):AJ P w K mg base (GP P w) 4 (a.f 26) (a.d 26) ["case","words","measure","gaps"] (mO K a.c_NoBreak):=by
 have aa:=@mB P w K mg base a T;have Z:=@mJ P w K mg base a T;have ac:=@Y3 P w K mg base a T;have G:=@mL P w K mg base a T;have I:=@kH P w K mg base a T;refine T.breaks_of.fn.okX O7 (λvs H Q E h=>?_) (λa2 A outer s H vs Q E hr h=>?_)
 .obtain⟨l,p,g,rs,ws,ms,lo,ideal,hi,rfl,_⟩:=h;rfl
 obtain⟨l,p,g,rs,ws,ms,lo,ideal,hi,rfl,hC,hL,aO,hw,aS,hG,aN,hi1,aR,aM,qx,q⟩:=h;refine⟨_,(AL (BQ (i:=4) O7.nd rfl AM (BN T.costs_of aa hr rfl (AC (pv 0) (AC (pv 1) (AC (pv 2) (AC (pv 3) AG))))))
  (AL (BQ (i:=5) O7.nd rfl (Or.inr rfl) (BN T.table_of Z hr rfl (AC (pv 4) (AC (CY (EB K rfl) rfl T.b_len DP (AC (pv 1) AG)) AG))))
  (AL (CF (Nw (Rb (CA (DR K rfl) (pv 5) AN (λ_ _=>rfl)))) (AQ (Sw T.cl_NoBreak I hr rfl rfl rfl (AC (BN T.most_in_full_lines G hr rfl (AC (pv 4) (AC (CY (EB K rfl) rfl T.b_len DP (AC (pv 1) AG)) AG))) AG))) CP)
  (AL (BQ (i:=6) O7.nd rfl AM (DA AG))
  (AL (BQ (i:=7) O7.nd rfl (Or.inr rfl) AN)
  (AL (Md (Sm rfl) (BU L8 (pv 7) (CY (EB K rfl) rfl T.b_len DP (AC (pv 1) AG)) (BM _)) (AL (BQ (i:=7) O7.nd rfl (Or.inr rfl) (CY (fk K rfl rfl) rfl T.b_max ff (AC (GV rfl (FJ K rfl (BN T.choices ac hr rfl (AC (pv 4) (AC (pv 5) (AC (pv 7) AG))))) (BH.of (N':=["case","words","measure","gaps","costs","table","breaks","at","cost","end"]) (ms:=[]) (k:=2) (by rfl)) (λ_ _ _ _ _=>(FO K rfl (n:=2) rfl (BY (BF (i:=8) (show List.Nodup (["case","words","measure","gaps","costs","table","breaks","at","cost","end"]:List Str)from by decide +kernel) rfl AM) (BY (BF (i:=9) (show List.Nodup (["case","words","measure","gaps","costs","table","breaks","at","cost","end"]:List Str)from by decide +kernel) rfl AM) FL)))) (λ_ _ _ _ _=>(OH (BU EM (pv 8) (CA (DR K rfl) (pv 5) (pv 7) (λ_ _=>rfl)) (BM _)))) (λ_ _ _ _ _=>(pv 9))) AG)))
  (AQ (EJ (DX K rfl B7 Bi Bj JH (pv 6) (AC (pv 7) AG))))))
  (AQ (BK (pv 6))))))))),?_⟩
 have am:(CT rs ws ms lo ideal hi).n=ws.length:=A6 _;walk_at "4";refine⟨l,p,g,rs,ws,ms,lo,ideal,hi,rfl,hC,hL,aO,hw,aS,hG,aN,hi1,aR,aM,λd ar H1 a4 av ao ai=>?_⟩;walk_at "4";refine⟨p,_,rfl,.inl (av.seq hL),?_⟩;rw[A6];refine⟨d,ar,CT rs ws ms lo ideal hi,by rw[am];rfl,ao,ai,by lia,λr tb H2 aZ aq an au ad=>?_⟩;have Y:=av.trans aq;generalize aK:CT rs ws ms lo ideal hi=pr at q qx am ai au ad;have aA:DJ (tb.map DK) 0=some (DK (tb.getD 0 none)):=by
  have h1:0<tb.length:=by lia
  have h2:DJ (tb.map DK) ((0:Nat):Int)=some (DK (tb.getD 0 none)):=EY (by rw[Ax,A7 h1,B5,A7 h1]<;>rfl);exact h2
 refine⟨_,rfl,?_⟩;refine⟨r,_,_,_,rfl,rfl,AH.of an,aA,?_⟩;cases ay:tb.getD 0 none with
 | none =>
   refine⟨_,rfl,?_⟩;refine BB ?_;walk_at "4";refine⟨p,_,rfl,.inl (Y.seq hL),?_⟩;rw[A6];walk_at "4";refine⟨d,ar,pr,by rw[am];rfl,aq _ _ ao,by lia,ai,λm H3 hm J=>?_⟩;have aY:=hm.le;walk_at "4";exact λdx aL=>qx H3 dx m _ (Y.trans J) aL ad ay hm
 | some c0 =>
 refine⟨_,rfl,?_⟩;refine AR ?_;walk_at "4";intro br al;have aF:H br=none:=Y.free al;have aC:=AV al (.lst []);refine⟨λm σ H3=>∃(k:Nat) (bs:List Nat),m=pr.n-k/\k<=pr.n/\σ=[some (.ref l),some (.ref p),some (.int ms),some (.ref g),some (.ref d),some (.ref r),some (.ref br),some (.int (k:Int))]/\AF H2 H3/\H3 br=some (.lst (bs.map λb:Nat=>V.int (b:Int)))/\bs.length<=k/\tb.getD k none≠none/\∀rest,Br.FC pr (λj=>tb.getD j none) k rest->Br.FC pr (λj=>tb.getD j none) 0 (bs++rest),
  ⟨_,0,[],rfl,B9 _,rfl,aC,AA,Af _,by rw[ay];exact λz=>(by cases z),λrest h=>h⟩,?_⟩
 rintro m σ H3 ⟨k,bs,rfl,hk,rfl,J,aB,a0,az,ag⟩;walk_at "4";refine⟨p,_,rfl,.inl ((Y.trans J).seq hL),?_⟩;rw[A6];walk_at "4";refine CG (λah=>?_) (λah=>?_)
 .have ah:(k:Int)<(ws.length:Int):=Bc ah;have ap:k<pr.n:=by lia
  have ak:k<tb.length:=by lia
  cases ae:tb.getD k none with
  | none=>exact absurd ae az
  | some c =>
  have a3:DJ (tb.map DK) (k:Int)=some (.int c):=EY (by
   rw[B5,A7 ak]at ae
   have ae:tb[k]=some c:=ae;rw[Ax,A7 ak,ae]<;>rfl)
  obtain⟨e0,aT⟩:=Br.fJ ad (B9 k) ap az;obtain⟨gm,aH,hgo⟩:=mM (f:=λj=>tb.getD j none) ae aT;refine⟨_,λa1 H' h=>h,?_⟩;walk_at "4";refine⟨d,r,ar,tb,pr,k,rfl,(aq.trans J) _ _ ao,ai,AH.of (J _ _ an),au,ap,by lia,λrc xs H4 aW ax aG aE=>?_⟩;refine⟨rc,rfl,⟨_,AH.of aG⟩,λD hD=>?_⟩;have aP:=Bh aE;have aV:(GI pr (λj=>tb.getD j none) k (pr.n-k)).length<=pr.n-k:=Qd _ _;refine HB (a:=rc) (xs:=xs) (λj ys σ H5=>∃(v8 v9:Option V),ys=((((GI pr (λj=>tb.getD j none) k (pr.n-k)).take j).filter λx=>decide (x.1=c)).map λx=>((x.2:Nat):Int)).map V.int/\σ=[some (.ref l),some (.ref p),some (.int ms),some (.ref g),some (.ref d),some (.ref r),some (.ref br),some (.int (k:Int)),v8,v9]/\AF H4 H5/\H5 D=some (.lst ys))
   ?_ ?_ ?_ ?_
  .exact⟨none,none,rfl,rfl,AV hD _,AA⟩
  .exact λj ys σ H5 _ ⟨_,_,_,_,W,_⟩=>AH.of (W _ _ aG)
  .rintro j y ys σ H5 hy aI ⟨v8,v9,rfl,rfl,W,af⟩;obtain⟨x,aU,t,rfl,ht⟩:=FU aE hy;have aX:H5 r=some (.lst (tb.map DK)):=((J.trans ax).trans W) _ _ an;have aD:(GI pr (λj=>tb.getD j none) k (pr.n-k)).take (j+1)=(GI pr (λj=>tb.getD j none) k (pr.n-k)).take j++[x]:=by rw[Ay,aU];rfl
   have aQ:=Ge (λx:Int×Nat=>decide (x.1=c)) ((GI pr (λj=>tb.getD j none) k (pr.n-k)).take j);rw[Al]at aQ
   refine⟨_,_,rfl,BP.of (W _ _ ht),rfl,?_⟩;walk_at "1";walk_at "1";walk_at "4";rw[Ki];refine CG (λc1=>?_) (λc1=>?_)
   .walk_at "4";refine EN aI af (by rw[A6,A6];lia) ⟨_,_,?_,rfl,DO W hD,AA⟩;rw[aD,Ek,Ah,Ah];congr 1
    rw[Fh,Ar c1];rfl
   .refine MW aI ⟨_,_,?_,rfl,W,af⟩;rw[aD,Ek,Fh,Aq c1];show _=List.map V.int (List.map _ (_++[]));rw[Av]
  .rintro ys σ H5 ⟨v8,v9,rfl,rfl,W,af⟩;rw[aP,Ak (Af _)]at af
   have aj:=ax.trans W;have aJ:=aj _ _ aB;refine⟨D,_,_,rfl,AH.of af,hgo,?_⟩;walk_at "4";refine⟨.inl ⟨rfl,_,AH.of aJ⟩,?_⟩;walk_at "4";refine⟨br,_,_,rfl,rfl,aJ,IV (by rw[A6];lia),?_⟩;obtain⟨g1,g2,ga,gb,g3,g4,g5⟩:=aH.1;refine⟨pr.n-gm,by lia,gm,bs++[gm],rfl,g2,rfl,DO (J.trans aj) al,by rw[AA,Ah];rfl,by rw[Aa];show _+1<=_;lia,?_,λrest h=>?_⟩
   .have g4:tb.getD gm none=some gb:=g4;rw[g4];exact λz=>(by cases z)
   .rw[Ao];exact ag _ (.step ap aH h)
 .have aw:k=pr.n:=by
   have:¬(k:Int)<(ws.length:Int):=λz=>ah (Ae z)
   lia
  subst aw;walk_at "4";have hb:=ag [] .done;rw[Av]at hb
  subst aK;exact q br bs _ H3 aF (Y.trans J) aB ad hb
def CH(ws:List Str):Nat->List Nat->List (List Str)
 | _,[]=>[]
 | s,e::r=>(ws.take e).drop s::CH ws e r
theorem Y4:∀{bs:List Nat}{s i a b:Nat},(s::bs)[i]?=some a->bs[i]?=some b->(CH ws s bs)[i]?=some ((ws.take b).drop a)
 | [],_,_,_,_,_,h=>by simp at h
 | e::r,s,0,a,b,h1,h2=>by
   have h1:s=a:=Ap h1;have h2:e=b:=Ap h2;subst h1;subst h2;rfl
 | e::r,s,i+1,a,b,h1,h2=>Y4 (bs:=r) (s:=e) (i:=i) h1 h2
theorem Pt(ws:List Str):∀(bs:List Nat) (s:Nat),(CH ws s bs).length=bs.length
 | [],_=>rfl
 | e::r,s=>Bs (·+ 1) (Pt ws r e)
def mQ(K:Frag):Sp:=λvs H Q _=>∃(p b:Addr) (ws:List Str) (bs:List Nat),vs=[.ref p,.ref b]/\AH K H p (ws.map V.str)/\H b=some (.lst (bs.map DL))/\ws.length<=63/\bs.length<=63/\(∀e∈bs,e<=ws.length) /\
 ∀(D:Addr) (zs:List V) H',H D=none->AF H H'->H' D=some (.lst zs)->Paired (Lns.DE H D H') zs (CH ws 0 bs)->Q (.ref D) H'
theorem mR(T:Tx K mg a):AJ P w K mg base BL 1 (a.f 27) (a.d 27) ["words","breaks"] (mQ K):=by
 refine T.broken_lines.fn.ok jT (λvs H Q E h=>?_) (λaw A outer s H vs Q E hr h=>?_)
 .obtain⟨p,b,ws,bs,rfl,_⟩:=h;rfl
 obtain⟨p,b,ws,bs,rfl,hP,hB,av,ax,ao,q⟩:=h;refine⟨_,(AQ (BK (GV rfl (fP K rfl rfl T.b_zip (AC (AU Ky (DA (AC AN AG)) (pv 1)) (AC (pv 1) AG))) (BH.of (N':=["words","breaks","start","end"]) (ms:=[]) (k:=2) (by rfl)) (λ_ _ _ _ _=>(FO K rfl (n:=2) rfl (BY (BF (i:=2) (show List.Nodup (["words","breaks","start","end"]:List Str)from by decide +kernel) rfl AM) (BY (BF (i:=3) (show List.Nodup (["words","breaks","start","end"]:List Str)from by decide +kernel) rfl AM) FL)))) (λ_ _ _ _ _=>GG) (λ_ _ _ _ _=>(Kh (Le K rfl) (pv 0) (IU (pv 2)) (IU (pv 3))))))),?_⟩;walk_at "4";intro p1 am;have aa:=AV am (.lst [V.int 0]);have ac:upd H p1 (.lst [V.int 0]) p1=some (.lst [V.int 0]):=AA;generalize upd H p1 (.lst [V.int 0])=H1 at aa ac⊢;walk_at "4";refine⟨p1,b,_,_,rfl,rfl,ac,aa _ _ hB,DD (by rw[A6];show 1+_<=_;lia),λp2 ak=>?_⟩;have e1:[V.int 0]++bs.map DL=(0::bs).map DL:=rfl;rw[e1];have F:=FN (o:=.lst ((0::bs).map DL)) aa ak;have Z:upd H1 p2 (.lst ((0::bs).map DL)) p2=some (.lst ((0::bs).map DL)):=AA;generalize upd H1 p2 (.lst ((0::bs).map DL))=H2 at F Z⊢;walk_at "4";refine⟨p2,b,rfl,⟨_,AH.of Z⟩,⟨_,AH.of (F _ _ hB)⟩,λD hD=>?_⟩;have al:=F.free hD;refine fO (a:=p2) (b:=b) (xs:=(0::bs).map DL) (ys:=bs.map DL) (by rw[A6,A6];exact D6 _) (λi zs σ Y=>∃(v2 v3:Option V),σ=[some (.ref p),some (.ref b),v2,v3]/\AF H2 Y/\Y D=some (.lst zs)/\Paired (Lns.DE H D Y) zs ((CH ws 0 bs).take i))
  ?_ ?_ ?_ ?_
 .exact⟨none,none,rfl,AV hD _,AA,.nil⟩
 .rintro i zs σ Y hi ⟨_,_,_,hs,_⟩;exact⟨hs.seq (AH.of Z),hs.seq (AH.of (F _ _ hB))⟩
 .rintro i x y t zs σ Y hx hy hi ⟨v2,v3,rfl,hs,hh,hz⟩ ht;rw[Ax]at hx hy
  obtain⟨J,an,rfl⟩:=B6.mp hx;obtain⟨b0,ah,rfl⟩:=B6.mp hy;have ad:=Y4 (ws:=ws) an ah;have au:=ao b0 (Ag ah);have ar:=Qh hz;rw[Al,Pt]at ar
  rw[A6]at hi
  have G:=AV ht (.tup [DL J,DL b0]);have ae:upd Y t (.tup [DL J,DL b0]) t=some (.tup [DL J,DL b0]):=AA;generalize upd Y t (.tup [DL J,DL b0])=H7 at G ae⊢;refine⟨_,_,rfl,BP.of ae,rfl,?_⟩;walk_at "1";walk_at "1";try refine And.intro rfl ?_
  walk_at "4";refine⟨p,_,rfl,(F.trans (hs.trans G)).seq hP,λpn W=>?_⟩;rw[Ve V.str ws J b0 (by lia)];have I:=FN (o:=.lst (((ws.take b0).drop J).map V.str)) G W;have ai:pn≠D:=λe=>by rw[e,G _ _ hh]at W;cases W
  have af:upd H7 pn (.lst (((ws.take b0).drop J).map V.str)) pn=some (.lst (((ws.take b0).drop J).map V.str)):=AA;have ag:H pn=none:=F.free (hs.free (G.free W));generalize upd H7 pn (.lst (((ws.take b0).drop J).map V.str))=H8 at I af⊢;refine EN (by rw[A6];exact hi) (I _ _ hh) (by lia) ⟨_,_,rfl,DO (hs.trans I) hD,AA,?_⟩;rw[Ay,ad];exact Ce (VG (Si hz I)) ⟨pn,rfl,ai,ag,by rw[BV ai];exact af⟩
 .rintro zs σ Y ⟨v2,v3,rfl,aq,ap,aj⟩;rw[A6,Ak (by rw[Pt];exact Af _)]at aj
  exact q D zs Y al (F.trans aq) ap aj
theorem mS(hw:∀r∈rs,2<=r.w/\r.w<=10)(x:Str):0<=KM rs x/\KM rs x<=10:=by
 unfold KM;split
 .split
  .rename_i r F;have:=hw r (Ag F)
   lia
  .lia
 .lia
theorem Y5(hw:∀r∈rs,2<=r.w/\r.w<=10)(G:x.length<=5):0<=HC rs x/\HC rs x<=50:=by
 unfold HC;obtain⟨h1,h2⟩:=Qa (zs:=x.cps.toList.map λc=>KM rs (sg c)) (B:=10) (by lia) λz F=>by
  obtain⟨c,_,rfl⟩:=Bw.mp F;exact mS hw _
 rw[A6,show x.cps.toList.length=x.length from Au]at h2
 lia
theorem mT(hw:∀r∈rs,2<=r.w/\r.w<=10)(F:∀x∈ws,x.length<=5)(I:ws.length<=14):0<=AO rs ws/\AO rs ws<=700:=by
 unfold AO;obtain⟨h1,h2⟩:=Qa (zs:=ws.map λx=>HC rs x) (B:=50) (by lia) λz G=>by
  obtain⟨x,h,rfl⟩:=Bw.mp G;exact Y5 hw (F x h)
 rw[A6]at h2
 lia
theorem mU(h:Br.FC p f i bs):i<=p.n/\(bs=[]↔i=p.n):=by
 cases h with
 | done=>exact⟨Af _,Iff.intro (λ_=>rfl) (λ_=>rfl)⟩
 | step h1 _ _=>exact⟨J6 h1,Iff.intro (λz=>nomatch z) (λz=>absurd z (Be h1))⟩
theorem mV(h:Br.FC (CT rs ws ms lo md hi) f i bs):(CH ws i bs).flatten=ws.drop i:=by
 induction h with
 | done=>exact(Cm (by show ws.length<=(ws.map _).length;rw[A6];exact Af _)).symm
 | step h1 h2 _ ih =>
   rename_i i e bs _;have G:e<=ws.length:=by
    have:=h2.1.2.1
    rwa [show(CT rs ws ms lo md hi).n=ws.length from A6 _]at this
   show(ws.take e).drop i++(CH ws e bs).flatten=_;rw[ih];have F:=h2.1.1;have:=List.drop_append_of_le_length (l₁:=ws.take e) (l₂:=ws.drop e) (i:=i) (by rw[Al];lia);rw[E4]at this
   exact this.symm
theorem mW(h:Br.FC (CT rs ws ms lo md hi) f i bs):∀(k:Nat) l,(CH ws i bs)[k]?=some l->l≠[]/\l.length<=ws.length/\(∀x∈l,x∈ws)/\FA (ms-AO rs l) ((l.length:Int)-1) lo md hi (decide (k+1=(CH ws i bs).length))≠none:=by
 induction h with
 | done=>exact λk l h=>by cases h
 | step h1 h2 h3 ih =>
   rename_i i e bs;have hn:(CT rs ws ms lo md hi).n=ws.length:=A6 _;obtain⟨g1,g2,a,b,g3,_⟩:=h2.1;rw[hn]at g2
   intro k l F;cases k with
   | succ k =>
     obtain⟨W,Y,J,a4⟩:=ih k l F;refine⟨W,Y,J,?_⟩;have G:decide (k+1+1=(CH ws i (e::bs)).length)=decide (k+1=(CH ws e bs).length):=Ca.mpr (by show k+1+1=(CH ws e bs).length+1↔_;lia);rw[G];exact a4
   | zero =>
     have F:(ws.take e).drop i=l:=Ap F;subst F;have I:((ws.take e).drop i).length=e-i:=by
      rw[Bx,Al]
      lia
     refine⟨λz=>by rw[z]at I;have:0=e-i:=I;lia,by lia,λx hx=>Ea (Gr hx),?_⟩;have G:decide (0+1=(CH ws i (e::bs)).length)=decide (e=(CT rs ws ms lo md hi).n):=Ca.mpr (by
      have:=(mU h3).2;rw[<-this];show 0+1=(CH ws e bs).length+1↔_;rw[Pt,<-Do]
      lia)
     rw[G];have Z:Br.lc (CT rs ws ms lo md hi) i e=FA (ms-AO rs ((ws.take e).drop i)) ((((ws.take e).drop i).length:Int)-1) lo md hi (decide (e=(CT rs ws ms lo md hi).n)):=by
      show FA (ms-List.sum (((ws.map λx=>HC rs x).take e).drop i)) (((((ws.map λx=>HC rs x).take e).drop i).length:Int)-1) lo md hi _=_;rw[<-Fm,<-Ib,A6];rfl
     rw[<-Z,g3];exact λz=>nomatch z
structure JQ(rs:List CC)(ls:List (List Str)):Prop where
 one:∀l∈ls,l≠[]/\l.length<=14/\∀x∈l,Mc.Wd rs 5 x
def mX(K:Frag)(most:Int):Sp:=λvs H Q _=>∃(F no:Addr) (v:V) (p:BE) (xs:List V) (rs:List CC),vs=[.ref F,v]/\H F=some (.lst xs)/\Paired (Cs.HL H) xs rs/\GQ most rs/\JP no H v p/\FH rs p /\
 ∀(D:Addr) (zs:List V) (ls:List (List Str)) H',H D=none->AF H H'->H' D=some (.lst zs)->Paired (Lns.DE H D H') zs ls->ls.length<=14->JQ rs ls->Q (.ref D) H'
theorem mY(T:Tx K mg a):AJ P w K mg base BL 7 (a.f 60) (a.d 60) ["_law_case_here","_law_paragraph"] (mX K most):=by
 have Y:=@mP P w K mg base a T;have G:=@mR P w K mg base a T;have aa:=@mw P w K mg base a T;refine T.law_broken.fn.ok Lr (λvs H Q E h=>?_) (λa6 A outer s H vs Q E hr h=>?_)
 .obtain⟨pc,no,v,p,xs,rs,rfl,_⟩:=h;rfl
 obtain⟨pc,no,v,⟨m,gs,ws⟩,xs,rs,rfl,av,aA,R,⟨t,g,w',rfl,ht,hg,_,hw⟩,PA,q⟩:=h;obtain⟨lo,md,hi,e,g1,g2,g3,g4,g5,g6⟩:=PA.g;have e:gs=[lo,md,hi]:=e;subst e;have hm:20<=m/\m<=140:=PA.m;have a5:1<=ws.length/\ws.length<=14:=PA.w;have hok:∀x∈ws,Mc.Wd rs 5 x:=λx W=>(PA.ok x W).1
 have hg:H g=some (.tup [.int lo,.int md,.int hi]):=hg;have hw:H w'=some (.lst (ws.map V.str)):=hw;have ht:H t=some (.tup [.int m,.ref g,.ref w']):=ht;have aS:=lU R.pl;have aZ:=R.l2;have aJ:∀x∈ws,x.length<=1000/\∀c∈x.cps.toList,(CK rs (sg c)).isSome=true:=λx W=>⟨by have:=(hok x W).2.1;lia,λc hc=>((hok x W).2.2 c hc).2⟩
 refine⟨_,(AL (IG (pv 1) (FO K rfl (n:=3) rfl (BY (BF (i:=2) Lr.nd rfl AM) (BY (BF (i:=3) Lr.nd rfl AM) (BY (BF (i:=4) Lr.nd rfl AM) FL)))))
  (AL (NH (gO rfl (λ_ _=>(AQ (BQ (i:=5) Lr.nd rfl AM (NV T.breaks_of Y hr rfl rfl (AC (pv 0) (AC (JT (OJ K rfl) rfl T.b_list OB (AC (pv 4) AG)) (AC (pv 2) (AC (pv 3) AG)))))))) (λ_=>(gW K rfl rfl T.cl_NoBreak.mg T.cl_NoBreak.cls (λ_=>(AQ (BK (DA AG)))) gN))))
  (AL (BQ (i:=6) Lr.nd rfl AM (BN T.broken_lines G hr rfl (AC (pv 4) (AC (pv 5) AG))))
  (AL (BQ (i:=7) Lr.nd rfl AM (DA AG))
  (AL (GL Bb rfl (FJ K rfl (pv 6)) (BF (i:=8) Lr.nd rfl AM) (AQ (BQ (i:=7) Lr.nd rfl AM (AU Ky (pv 7) (pv 8)))))
  (AL (CF (PW.pt (Ny (BU (GH K rfl hr.units) (pv 7) (pv 4) (BM _)) (Nx (BU (jA K rfl hr.units) (DA AG) (pv 6) (by with_unfolding_all rfl))))) (AQ (BK Lu)) CP)
  (AL (GL Bb rfl (L7 rfl T.b_range (AC (CY (EB K rfl) rfl T.b_len DP (AC (pv 6) AG)) AG)) (BF (i:=9) Lr.nd rfl AM) (AQ (CF (Oj (IC (BN T.law_set aa hr rfl (AC (pv 0) (AC (CA (DR K rfl) (pv 6) (pv 9) (λ_ _=>rfl)) (AC (pv 2) (AC (pv 3) (AC (FM EM (AU DG (pv 9) AN) (CY (EB K rfl) rfl T.b_len DP (AC (pv 6) AG)) (BM _)) AG)))))))) (AQ (BK Lu)) CP)))
  (AQ (BK (pv 6)))))))))),?_⟩
 walk_at "2";try refine⟨_,_,rfl,BP.of ht,rfl,?_⟩
 walk_at "1";walk_at "1";walk_at "1";walk_at "2";refine⟨λσ H2=>∃(r:Addr) (bs:List Nat) (f:Nat->Option Int),σ=[some (.ref pc),some (.ref t),some (.int m),some (.ref g),some (.ref w'),some (.ref r),none,none,none,none]/\AF H H2/\H2 r=some (.lst (bs.map λb:Nat=>V.int (b:Int)))/\Br.FC (CT rs ws m lo md hi) f 0 bs,?_,?_⟩
 .walk_at "2";refine⟨w',_,rfl,.inl (AH.of hw),λw2 aG=>?_⟩;have s1:=AV aG (.lst (ws.map V.str));have ax:upd H w2 (.lst (ws.map V.str)) w2=some (.lst (ws.map V.str)):=AA;generalize upd H w2 (.lst (ws.map V.str))=H1 at s1 ax⊢;walk_at "2";refine⟨pc,w2,g,rs,ws,m,lo,md,hi,rfl,⟨xs,AH.of (s1 _ _ av),II aA s1⟩,AH.of ax,by lia,aJ,λx W=>by have:=Y5 R.wd (hok x W).2.1;lia,s1 _ _ hg,by lia,by lia,by lia,by lia,λH3 dx mm f s3 aE _ _ _=>?_,λr bs f H3 a0 s3 aF _ hb=>?_⟩
  .refine⟨a.c_NoBreak,some a.f_init_NoBreak,true,rfl,T.cl_NoBreak.cls,T.m_NoBreak_NoBreak,BB ?_⟩;walk_at "2";intro D hD;have s4:AF H1 (upd H3 dx (.xd [("words",.int (mm:Int))])):=FN s3 aE;refine q D [] [] _ (s1.free (s4.free hD)) ((s1.trans s4).trans (AV hD _)) AA .nil (by decide) ⟨λl h=>nomatch h⟩
  .exact⟨r,bs,f,rfl,s1.trans s3,aF,hb⟩
 .rintro σ H2 ⟨r,bs,f,rfl,ai,aM,hb⟩;have aO:=hb.len;have ar:=hb.mem;have hn:(CT rs ws m lo md hi).n=ws.length:=A6 _;rw[hn]at aO ar
  have J:=mV hb;have ac:=mW hb;rw[Ex]at J
  have aI:=Pt ws bs 0;generalize aV:CH ws 0 bs=ls at J ac aI;have L:JQ rs ls:=⟨λl hl=>by
   obtain⟨k,hk,e⟩:=Bt hl;obtain⟨a1,a2,a3,_⟩:=ac k l (by rw[A7 hk,e]);exact⟨a1,by lia,λx W=>hok x (a3 x W)⟩⟩
  walk_at "2";refine⟨w',r,ws,bs,rfl,AH.of (ai _ _ hw),aM,by lia,by lia,ar,λD zs H3 an aH ae ad=>?_⟩;rw[aV]at ad
  have ad:Paired (Lns.DE H D H3) zs ls:=Paired.mapP ad λ_ _ ⟨q0,e0,n0,f0,z0⟩=>⟨q0,e0,n0,ai.free f0,z0⟩
  have al:=ai.trans aH;have an:=ai.free an;have af:=Qh ad;have aj:=Lns.DE.n ad;walk_at "2";refine λF0 aN=>?_
  have ap:=AV aN (.lst []);have az:upd H3 F0 (.lst []) F0=some (.lst []):=AA;generalize upd H3 F0 (.lst [])=H4 at ap az⊢;refine⟨_,rfl,?_⟩;refine⟨D,rfl,⟨_,AH.of (ap _ _ ae)⟩,?_⟩;refine MC (a:=D) (xs:=zs) (λi σ H5=>∃(F:Addr) (v8:Option V),σ=[some (.ref pc),some (.ref t),some (.int m),some (.ref g),some (.ref w'),some (.ref r),some (.ref D),some (.ref F),v8,none]/\AF H3 H5/\H5 F=some (.lst ((ls.take i).flatten.map V.str)))
   ⟨F0,none,rfl,ap,az⟩ (λi σ H5 _ ⟨_,_,_,hs,_⟩=>AH.of (hs _ _ ae)) ?_ ?_
  .rintro i y σ H5 hy ⟨F,v8,rfl,Z,ag⟩;obtain⟨l,hl,q1,rfl,_,am⟩:=FU aj hy;have aB:(ls.take (i+1)).flatten=(ls.take i).flatten++l:=by
    rw[Ay,hl,Jv];show _++(l++[])=_;rw[Av]
   have hsz:((ls.take i).flatten.map V.str).length+(l.map V.str).length<=14:=by
    have h1:(ls.take (i+1)).flatten.length<=ws.length:=by
     rw[<-J];conv=>rhs;rw[<-E4 (i+1) ls,Jv,Aa]
     lia
    rw[aB,Aa]at h1
    rw[A6,A6]
    lia
   walk_at "2";refine⟨F,q1,_,_,rfl,rfl,ag,Z _ _ am,DD (by lia),λF2 aQ=>?_⟩;refine⟨F2,_,rfl,Z.trans (AV aQ _),?_⟩;rw[AA,aB,Ah]
  .rintro σ H5 ⟨F,v8,rfl,Z,ag⟩;rw[af,Ak (Af _),J]at ag
   have aL:=al.trans Z;have aP:=Z _ _ ae;have aD:=Mn aj Z;have lay:∀x∈ws,PyData.canLay0 (.str x)=true:=λx W=>(hok x W).lay
   have aU:min (FX ws).depth (FX ws).depth<=64:=by
    have:(FX ws).depth<=1:=by
     show PyData.depthAll (ws.map PyData.str)+1<=1;have:=Qc ws
     lia
    lia
   walk_at "2";refine⟨FX ws,FX ws,.lst (AH.of ag) (Li lay),.lst (AH.of (aL _ _ hw)) (Li lay),aU,?_⟩;rw[eqv_refl (show nb (FX ws)=true from Qb ws)];walk_at "2";try refine AR ?_
   walk_at "2";refine λe0 aW=>?_
   have ah:=AV aW (.lst []);have aw:upd H5 e0 (.lst []) e0=some (.lst []):=AA;generalize upd H5 e0 (.lst [])=H6 at ah aw⊢;have aC:=ah _ _ aP;have ay:=Mn aD ah;refine⟨_,rfl,?_⟩;refine⟨D,zs,ls.map FX,.list [],rfl,AH.of aC,Qe ay (λl hl x W=>((L.one l hl).2.2 x W).lay),.lst (AH.of aw) .nil,by show 1<=60;decide,?_⟩;have aq:((ls.map FX).any λc=>PyData.eqv c (.list []))=false:=by
    rw[Jg,K5];intro l hl;cases l with
    | nil=>exact absurd rfl (L.one _ hl).1
    | cons x r=>exact λz=>nomatch z
   rw[aq];walk_at "2";try refine AR ?_
   walk_at "2";refine⟨D,_,rfl,.inl (AH.of aC),?_⟩;walk_at "2";have aK:=Z.trans ah;refine Kv (lo:=0) (n:=(zs.length:Int).toNat) (λi σ H7=>∃(v9:Option V),σ=[some (.ref pc),some (.ref t),some (.int m),some (.ref g),some (.ref w'),some (.ref r),some (.ref D),some (.ref F),v8,v9]/\AF H3 H7)
    ⟨none,rfl,aK⟩ ?_ ?_
   .rintro i σ H7 aY ⟨v9,rfl,I⟩;have au:i<zs.length:=by lia
    obtain⟨l,hl,q1,e1,_,am⟩:=FU aj (A7 au);have aX:∀_:Unit,DJ zs (0+(i:Int))=some (.ref q1):=λ_=>by rw[El,<-e1];exact EY (A7 au)
    obtain⟨a1,a2,a3⟩:=L.one l (Ag hl);obtain⟨_,_,_,a4⟩:=ac i l hl;have ao:=al.trans I;have aR:=mT R.wd (λx W=>(a3 x W).2.1) a2;have G7:GA K H7 pc q1 g m lo md hi rs l:=⟨⟨xs,AH.of (ao _ _ av),II aA ao⟩,AH.of (I _ _ am),ao _ _ hg,a1,by lia,λx W=>⟨by have:=(a3 x W).2.1;lia,λc hc=>((a3 x W).2.2 c hc).2⟩,g1,by lia,by lia,by lia,by lia,aR.1,by lia⟩
    walk_at "2";refine⟨D,_,_,_,rfl,rfl,AH.of (I _ _ ae),aX (),?_⟩;walk_at "2";refine⟨D,_,rfl,.inl (AH.of (I _ _ ae)),?_⟩;walk_at "2";have ak:decide (V.int (0+(i:Int)+1)=V.int (zs.length:Int))=decide (i+1=ls.length):=by
     refine Ca.mpr ⟨λz=>?_,λz=>?_⟩
     .have:=V.int.inj z
      lia
     .rw[af,<-z,El];rfl
    rw[ak];refine⟨pc,q1,g,m,lo,md,hi,_,rs,l,rfl,G7,by lia,by lia,aS,by lia,λx W=>by have:=(a3 x W).2.1;lia,a4,λH8 aT=>?_⟩;walk_at "2";try refine AR ?_
    exact I.trans aT
   .rintro σ H7 ⟨v9,rfl,I⟩;walk_at "2";exact q D zs ls H7 an (al.trans I) (I _ _ ae) (Si ad I) (by lia) L
theorem Y6(G:k≠32):∀l:List Str,(Mc.cps (AD l)).count k=(Mc.cps (Txt.join "" l)).count k
 | []=>rfl
 | [x]=>by rw[Kn,Nb];show _=(x.cps++(Txt.join "" []).cps).toList.count k;rw[Cq,Cd];rfl
 | x::y::r=>by
   have e:Mc.cps (" ":Str)=[32]:=by decide
   have h:=Y6 G (y::r);rw[KY x (Cb y r),Nb];show(Mc.cps (x++(" ":Str)++AD (y::r))).count k=(Mc.cps (x++Txt.join "" (y::r))).count k;have F:∀u v:Str,Mc.cps (u++v)=Mc.cps u++Mc.cps v:=λu v=>Cq
   rw[F,F,F,Cd,Cd,Cd,h,e,Jm,List.count_nil];rw[Aq (by simpa using λz:32=k=>G z.symm)];rfl
def mZ(K:Frag):Sp:=λvs H Q _=>∃(F no:Addr) (zs:List V) (ls:List (List Str)) (rs:List CC),vs=[.ref F]/\H F=some (.lst zs)/\Paired (Lns.KA no H) zs ls/\JQ rs ls/\∀(b:Bool) H',AF H H'->(b=false->∀l∈ls,∀k,(Mc.cps (Txt.join "" l)).count k<=40)->Q (.bl b) H'
theorem n5(T:Tx K mg a):AJ P w K mg base BL 1 (a.f 62) (a.d 62) ["_law_lines"] (mZ K):=by
 refine T.law_lacks.fn.ok Ti (λvs H Q E h=>?_) (λao A outer s H vs Q E hr h=>?_)
 .obtain⟨lp,no,zs,ls,rs,rfl,_⟩:=h;rfl
 obtain⟨lp,no,zs,ls,rs,rfl,ai,ah,L,q⟩:=h;have ad:=OW ah;refine⟨_,(AL (GL Bb rfl (FJ K rfl (pv 0)) (BF (i:=1) Ti.nd rfl AM) (AL (BQ (i:=2) Ti.nd rfl (Or.inr rfl) (DX K rfl Ba Bm Bn (JI K rfl) CD (AC (pv 1) AG)))
  (AQ (CF (BU (GH K rfl hr.units) (GV rfl (OK (pv 2)) (BH.of (N':=["_law_lines","_law_line","_law_text","_law_sign"]) (ms:=[]) (k:=1) (by rfl)) (λ_ _ _ _ _=>(BF (i:=3) (show List.Nodup (["_law_lines","_law_line","_law_text","_law_sign"]:List Str)from by decide +kernel) rfl AM)) (λ_ _ _ _ _=>(OH (BU KJ (DX K rfl Ba PySem.F.slot_str_count PySem.F.type_str_count iY (pv 2) (AC (pv 3) AG)) AN (BM _)))) (λ_ _ _ _ _=>(pv 3))) (DA AG) (BM _)) (AQ (BK IB)) CP))))
  (AQ (BK IB))),?_⟩
 walk_at "2";try refine⟨⟨_,AH.of ai⟩,?_⟩
 refine MC (a:=lp) (xs:=zs) (λi σ H2=>∃(v1 v2:Option V),σ=[some (.ref lp),v1,v2]/\AF H H2/\∀l∈ls.take i,∀k,(Mc.cps (Txt.join "" l)).count k<=40)
  ⟨none,none,rfl,AF.refl _,λl h=>by rw[List.take_zero]at h;cases h⟩ (λi σ H2 _ ⟨_,_,_,hs,_⟩=>AH.of (hs _ _ ai)) ?_ ?_
 .rintro i y σ H2 hy ⟨v1,v2,rfl,W,Z⟩;obtain⟨l,hl,q1,rfl,_,am⟩:=FU ah hy;obtain⟨_,o2,o3⟩:=L.one l (Ag hl);have aj:(l.map (·.length)).sum+l.length*("":Str).length<=70:=by
   have a:=KP (λx:Str=>x.length) 5 14 l (λx hx=>(o3 x hx).2.1) o2;have a:(l.map (·.length)).sum<=14*5:=a;rw[show("":Str).length=0 by decide]
   lia
  have ae:(Txt.join "" l).cps.size<=70:=by
   have b:=Cn "" l;have b:(Str.join "" l).length<=(l.map (·.length)).sum+l.length*("":Str).length:=b;show(Txt.join "" l).length<=_;unfold Txt.join;rw[Bp]
   lia
  walk_at "2";refine⟨_,q1,l,rfl,rfl,AH.of (W _ _ am),B3 aj (by decide),?_⟩;obtain⟨x,hx⟩:∃x,x=Txt.join ("":Str) l:=⟨_,rfl⟩
  have ac:∀k,(Mc.cps (Txt.join "" l)).count k=x.cps.toList.count k:=λk=>by rw[hx];rfl
  have ae:(Txt.join ("":Str) l).cps.size<=70:=ae;have hlay:∀c∈(Txt.join ("":Str) l).cps.toList,PyData.canLay0 (.str (sg c))=true:=λc Z=>by
   obtain⟨y,hy,z⟩:=Tu Z;exact Cs.UY c ((o3 y hy).2.2 c z).1
  rw[<-hx]at ae hlay⊢
  have ap:x.cps.toList.length=x.cps.size:=Au;walk_at "2";refine λD hD=>?_
  refine OL (x:=x) (λj ys σ H4=>∃(v3:Option V),ys=(((x.cps.toList.take j).filter λc=>decide (40<x.cps.toList.count c)).map sg).map V.str/\σ=[some (.ref lp),some (.ref q1),some (.str x),v3]/\AF H2 H4/\H4 D=some (.lst ys))
   ?_ ?_ ?_
  .exact⟨none,rfl,rfl,AV hD _,AA⟩
  .rintro j c ys σ H4 al Y ⟨u3,rfl,rfl,I,G⟩;have ak:x.cps.toList[j]?=some c:=by simpa using al
   have J:((x.cps.toList.take (j+1)).filter λc=>decide (40<x.cps.toList.count c))=((x.cps.toList.take j).filter λc=>decide (40<x.cps.toList.count c))++(if decide (40<x.cps.toList.count c)=true then [c]else []):=by
    rw[Ay,ak,Ek];congr 1
    show List.filter _ [c]=_;rw[Fh];split<;>rfl
   walk_at "2";try refine⟨_,c,rfl,rfl,?_⟩
   walk_at "2";have ed:decide ((40:Int)<((x.cps.toList.count c:Nat):Int))=decide (40<x.cps.toList.count c):=Ca.mpr (by lia);rw[ed];cases hb:decide (40<x.cps.toList.count c)with
   | false =>
     rw[hb,Aq (by decide),Av]at J
     refine AR ?_;exact MW Y ⟨_,by rw[J],rfl,I,G⟩
   | true =>
     rw[hb,Ar rfl]at J
     refine BB ?_;walk_at "2";refine EN Y G ?_ ⟨_,?_,rfl,DO I hD,AA⟩
     .rw[A6,A6];have:=Ge (λc=>decide (40<x.cps.toList.count c)) (x.cps.toList.take j);rw[Al]at this
      lia
     .rw[J,Ah,Ah];rfl
  .rintro ys σ H4 ⟨u3,rfl,rfl,I,G⟩;rw[Ak (by lia)]at G
   have aa:=W.trans I;walk_at "2";refine λe0 an=>?_
   have s5:=AV an (.lst []);have af:upd H4 e0 (.lst []) e0=some (.lst []):=AA;generalize upd H4 e0 (.lst [])=H5 at s5 af⊢;refine⟨FX (((x.cps.toList.filter λc=>decide (40<x.cps.toList.count c)).map sg)),.list [],.lst (AH.of (s5 _ _ G)) (Li λz hz=>?_),.lst (AH.of af) .nil,by have:(PyData.list []).depth=1:=rfl;lia,?_⟩
   .obtain⟨c,Z,rfl⟩:=Bw.mp hz;exact hlay c (Fn.mp Z).1
   refine⟨_,rfl,?_⟩;cases hf:x.cps.toList.filter λc=>decide (40<x.cps.toList.count c)with
   | nil =>
     refine AR ?_;refine⟨_,_,rfl,aa.trans s5,λl' ag=>?_⟩;rw[Ay,hl]at ag
     rcases Az.mp ag with z|z
     .exact Z l' z
     .rw[Aj.mp z];intro k;rw[ac k];by_cases hk:k∈x.cps.toList
      .have:=G4.mp hf k hk;have:¬40<x.cps.toList.count k:=λz=>this (Ae z)
       lia
      .rw[Dc.mpr hk]
       lia
   | cons c r =>
     refine BB ?_;walk_at "2";exact q true _ (aa.trans s5) (λz=>nomatch z)
 .rintro σ H2 ⟨v1,v2,rfl,W,Z⟩;rw[ad,Ak (Af _)]at Z
  walk_at "2";exact q false H2 W λ_=>Z
def n6(K:Frag):Sp:=λvs H Q _=>∃(p no:Addr) (xs:List V) (ls:List (List Str)),vs=[.ref p]/\AH K H p xs/\Paired (Lns.KA no H) xs ls/\Lns.Kz ls/\∀H',AF H H'->Q (.str (BG ls)) H'
theorem n8(T:Tx K mg a):AJ P w K mg base BL 1 (a.f 7) (a.d 7) ["lines"] (n6 K):=by
 refine T.keys_of.fn.ok jN (λvs H Q E h=>?_) (λad A outer s H vs Q E hr h=>?_)
 .obtain⟨p,no,xs,ls,rfl,_⟩:=h;rfl
 obtain⟨p,no,xs,ls,rfl,hS,hp,hf,q⟩:=h;have aa:=OW hp;have ac:=hf.1;refine⟨_,(AQ (BK (DX K rfl Ba Bm Bn (JI K rfl) CD (AC (GV rfl (FJ K rfl (pv 0)) (BH.of (N':=["lines","line"]) (ms:=[]) (k:=1) (by rfl)) (λ_ _ _ _ _=>(BF (i:=1) (show List.Nodup (["lines","line"]:List Str)from by decide +kernel) rfl AM)) (λ_ _ _ _ _=>GG) (λ_ _ _ _ _=>(AU Kw (DX K rfl Ba Bm Bn (JI K rfl) CD (AC (pv 1) AG)) (HS (v:=.str "/") rfl T.g_SEND_KEY ⟨_,rfl⟩)))) AG)))),?_⟩;walk_at "4";intro D hD;refine HB (a:=p) (xs:=xs) (λi ys σ H2=>∃(I:Option V),ys=((ls.take i).map λl=>AD l++"/").map V.str/\σ=[some (.ref p),I]/\AF H H2/\H2 D=some (.lst ys))
  ?_ ?_ ?_ ?_
 .exact⟨none,rfl,rfl,AV hD _,AA⟩
 .rintro i ys σ H2 hi ⟨I,_,_,G,_⟩;exact G.seq hS
 .rintro i x ys σ H2 hx Y ⟨I,rfl,rfl,G,J⟩;obtain⟨l,hl,p2,rfl,_,W⟩:=FU hp hx;obtain⟨hl1,hl2⟩:=hf.2 l (Ag hl);have Z:=Lns.Vw hl1 hl2;walk_at "4";refine⟨_,p2,l,rfl,rfl,AH.of (G _ _ W),Sf hl1 hl2,?_⟩;walk_at "4";refine⟨DD ?_,?_⟩
  .have e:("/":Str).length=1:=by decide
   have e2:(Txt.join (" ":Str) l).length<=10100:=Z
   lia
  refine EN Y J ?_ ⟨_,?_,rfl,DO G hD,AA⟩
  .rw[A6,A6,Al]
   lia
  .rw[Ay,hl,Ah,Ah];rfl
 .rintro ys σ H2 ⟨I,rfl,rfl,G,J⟩;rw[aa,Ak (Af _)]at J
  refine⟨_,D,_,rfl,rfl,AH.of J,Lns.fS hf,?_⟩;have e:=Lns.fR ls;have q:=q _ G;rw[<-e]at q
  exact q
theorem nc(h:sg c=sg d):c=d:=by
 have h:(#[c]:Array Nat)=#[d]:=Bs Str.cps h;simpa using h
theorem R3:decide (V.str (sg c)=V.str (sg d))=decide (c=d):=by
 rw[FP,Ca];exact⟨λh=>nc h,λh=>by rw[h]⟩
def ng:Sp:=λvs H Q _=>∃c:Nat,vs=[.str (sg c)]/\Q (.bl (GO c)) H
theorem nh(T:Tx K mg a):AJ P w K mg base BL 1 (a.f 8) (a.d 8) ["key"] ng:=by
 refine T.is_sign_key.fn.ok jO (λvs H Q E h=>?_) (λG A outer s H vs Q E W h=>?_)
 .obtain⟨c,rfl,_⟩:=h;rfl
 obtain⟨c,rfl,q⟩:=h;have I:decide (V.str (sg c)=V.str (" ":Str))=decide (c=32):=R3 (d:=32);have J:decide (V.str (sg c)=V.str ("/":Str))=decide (c=47):=R3 (d:=47);unfold GO at q;refine⟨_,(AQ (BK (JD (FM IT (pv 0) (HS (v:=.str " ") rfl T.g_GAP_KEY ⟨_,rfl⟩) (BM _)) (KI (FM IT (pv 0) (HS (v:=.str "/") rfl T.g_SEND_KEY ⟨_,rfl⟩) (BM _)))))),?_⟩;walk_at "2";rw[I];cases F:decide (c=32)with
 | true =>
   rw[F]at q
   exact q
 | false =>
   rw[F]at q
   refine BB ?_;walk_at "2";rw[J];exact q
def nj(K:Frag):Sp:=λvs H Q _=>∃(l:Addr) (x:Str) (i:Nat) (rs:List CC),vs=[.ref l,.str x,.int (i:Int)]/\Cs.IJ K H l rs/\x.length<=90000/\i<x.cps.toList.length/\∀H',AF H H'->Q (.bl (Qi rs x.cps.toList i)) H'
theorem nk(T:Tx K mg a):AJ P w K mg base BL 2 (a.f 9) (a.d 9) ["case","keys","at"] (nj K):=by
 have F:=@nh P w K mg base a T;have G:=@R1 P w K mg base a T;refine T.goes_on.fn.ok jP (λvs H Q E h=>?_) (λaa A outer s H vs Q E Y h=>?_)
 .obtain⟨l,x,i,rs,rfl,_⟩:=h;rfl
 obtain⟨l,x,i,rs,rfl,hC,hx,hi,q⟩:=h;have I:x.length<=sizeLine:=DD (by lia);have Z:DJ x.cps.toList (i:Int)=some x.cps.toList[i]:=EY (A7 hi);unfold Qi at q;rw[A7 hi]at q
 generalize x.cps.toList[i]=c at Z q;have q:∀H',AF H H'->Q (.bl (if GO c=true then(CK rs (sg c)).isSome else decide (0<i)&&(match x.cps.toList[i-1]? with|none=>false|some d=>GO d))) H':=q;refine⟨_,(AL (CF (IC (BN T.is_sign_key F Y rfl (AC (CA Ld (pv 1) (pv 2) (λ_ _=>rfl)) AG))) (AQ (BK (Oi (Oh (BN T.channel_of G Y rfl (AC (pv 0) (AC (CA Ld (pv 1) (pv 2) (λ_ _=>rfl)) AG))))))) CP)
  (AQ (BK (JD (FM KJ (pv 2) AN (BM _)) (KI (BN T.is_sign_key F Y rfl (AC (CA Ld (pv 1) (AU IH (pv 2) AN) (λ_ _=>rfl)) AG))))))),?_⟩
 walk_at "2";refine⟨_,_,_,rfl,rfl,I,Z,?_⟩;walk_at "2";try refine⟨_,rfl,?_⟩
 cases hs:GO c with
 | true =>
   rw[hs]at q
   refine BB ?_;walk_at "2";refine⟨_,_,_,rfl,rfl,I,Z,?_⟩;walk_at "2";refine⟨l,sg c,rs,rfl,hC,λH1 W=>?_⟩;have e:(!decide (MX (CK rs (sg c))=V.non))=(CK rs (sg c)).isSome:=by
    cases CK rs (sg c)<;>rfl
   have q:=q H1 W;rw[Ar rfl,<-e]at q
   exact q
 | false =>
   rw[hs]at q
   refine AR ?_;walk_at "2";have q:=q H (AF.refl _);rw[Aq (by decide)]at q
   cases i with
   | zero =>
     refine AR ?_;exact q
   | succ j =>
     have hj:j<x.cps.toList.length:=by lia
     have J:DJ x.cps.toList (((j+1:Nat):Int)-1)=some x.cps.toList[j]:=by
      rw[show(((j+1:Nat):Int)-1)=((j:Nat):Int) by lia];exact EY (A7 hj)
     rw[show j+1-1=j from rfl,A7 hj]at q
     have e0:decide ((0:Int)<((j+1:Nat):Int))=true:=Ae (by lia);rw[e0];refine BB ?_;walk_at "2";refine⟨_,_,_,rfl,rfl,I,J,?_⟩;walk_at "2";have q:Q (.bl (decide (0<j+1)&&GO x.cps.toList[j])) H:=q;rw[show decide (0<j+1)=true from Ae (by lia),Bool.true_and]at q
     exact q
def nr(K:Frag):Sp:=λvs H Q _=>∃(l:Addr) (x:Str) (rs:List CC),vs=[.ref l,.str x]/\Cs.IJ K H l rs/\x.length<=90000/\HE rs false x.cps.toList=true/\(x.cps.toList=[]\/∃a,x.cps.toList=a++[47])/\∀H',AF H H'->Q .non H'
theorem Y7(T:Tx K mg a):AJ P w K mg base BL 3 (a.f 10) (a.d 10) ["case","keys"] (nr K):=by
 have F:=@nk P w K mg base a T;refine T.look_at_keys.fn.ok Xq (λvs H Q E h=>?_) (λad A outer s H vs Q E hr h=>?_)
 .obtain⟨l,x,rs,rfl,_⟩:=h;rfl
 obtain⟨l,x,rs,rfl,hC,hx,hok,G,q⟩:=h;have ac:x.length<=sizeLine:=DD (by lia);have ae:x.cps.toList.length=x.length:=Au;refine⟨_,(AL (GL Bb rfl (L7 rfl T.b_range (AC (CY LC rfl T.b_len DP (AC (pv 1) AG)) AG)) (BF (i:=2) Xq.nd rfl AM) (AQ (CF (Oj (IC (BN T.goes_on F hr rfl (AC (pv 0) (AC (pv 1) (AC (pv 2) AG)))))) (AQ Lv) CP)))
  (AQ (CF (PW.pt (L6 (BU IT (pv 1) CD (BM _)) (L5 (BU IT (CA Ld (pv 1) (MF ML AN) (λ_ _=>rfl)) (HS (v:=.str "/") rfl T.g_SEND_KEY ⟨_,rfl⟩) (BM _))))) (AQ Lv) CP))),?_⟩
 walk_at "2";refine Kv (n:=x.length) (λi σ H2=>∃Z:Option V,σ=[some (.ref l),some (.str x),Z]/\AF H H2) ⟨none,rfl,AF.refl _⟩ ?_ ?_
 .rintro i σ H2 hi ⟨Z,rfl,J⟩;walk_at "2";refine⟨l,x,i,rs,by rw[El];rfl,hC.same J,hx,by lia,λH3 aa=>?_⟩;rw[Lns.fY hok (by lia)];refine⟨_,rfl,?_⟩;refine AR ?_;exact⟨_,rfl,J.trans aa⟩
 .rintro σ H2 ⟨Z,rfl,J⟩;walk_at "2";rcases G with I|⟨a0,I⟩
  .have ex:x="":=Lns.Qg I;subst ex;have Y:(!decide (V.str ("":Str)=V.str ("":Str)))=false:=by rw[Ae rfl];rfl
   rw[Y];try refine AR ?_
   exact q H2 J
  .have W:x≠"":=λe=>by
    rw[e]at I
    have h:=Bs List.length I;rw[Aa]at h
    have h:0=a0.length+1:=h
    lia
   have Y:(!decide (V.str x=V.str ("":Str)))=true:=by rw[FP,Ai W];rfl
   rw[Y];try refine BB ?_
   have ec:DJ x.cps.toList (-1)=some 47:=by
    rw[I];exact VF a0 47
   walk_at "2";refine⟨_,_,_,rfl,rfl,ac,ec,?_⟩;walk_at "2";have e2:(!decide (V.str ({ cps:=#[47] }:Str)=V.str ("/":Str)))=false:=by rw[show("/":Str)=({ cps:=#[47] }:Str)from rfl,Ae rfl];rfl
   rw[e2];try refine AR ?_
   exact q H2 J
def nt(K:Frag):Sp:=λvs H Q _=>∃(l:Addr) (rs:List CC) (ls:List (List Str)),vs=[.ref l,.str (BG ls)]/\Cs.IJ K H l rs/\(BG ls).length<=90000/\(∀x∈ls,(AD x).length<=90000)/\ls.length<=1000/\(∀x∈ls,x≠[]/\∀y∈x,Lns.KC rs y) /\
 ∀(D:Addr) (zs:List V) H',H D=none->AF H H'->H' D=some (.lst zs)->Paired (Lns.DE H D H') zs ls->zs.Nodup->Q (.ref D) H'
theorem Y8(T:Tx K mg a):AJ P w K mg base BL 4 (a.f 11) (a.d 11) ["case","keys"] (nt K):=by
 have G:=@Y7 P w K mg base a T;refine T.lines_of.fn.ok jQ (λvs H Q E h=>?_) (λaw A outer s H vs Q E hr h=>?_)
 .obtain⟨l,rs,ls,rfl,_⟩:=h;rfl
 obtain⟨l,rs,ls,rfl,hC,hk,ao,hl,Y,q⟩:=h;have I:∀x∈ls,∀y∈x,Lns.OY y:=λx hx y hy=>((Y x hx).2 y hy).plain
 have ae:(BG ls).cps.toList=[]\/∃a,(BG ls).cps.toList=a++[47]:=by
  by_cases e:ls=[]
  .rw[e];exact .inl rfl
  .exact .inr (Lns.Sk ls e)
 refine⟨_,(AL (EJ (BN T.look_at_keys G hr rfl (AC (pv 0) (AC (pv 1) AG))))
  (AQ (BK (GV rfl (FJ K rfl (Kh (Le K rfl) (DX K rfl Ba G8 G9 Sg (pv 1) (AC (HS (v:=.str "/") rfl T.g_SEND_KEY ⟨_,rfl⟩) AG)) La (IU (MF ML AN)))) (BH.of (N':=["case","keys","line"]) (ms:=[]) (k:=1) (by rfl)) (λ_ _ _ _ _=>(BF (i:=2) (show List.Nodup (["case","keys","line"]:List Str)from by decide +kernel) rfl AM)) (λ_ _ _ _ _=>GG) (λ_ _ _ _ _=>(DX K rfl Ba G8 G9 Sg (pv 2) (AC (HS (v:=.str " ") rfl T.g_GAP_KEY ⟨_,rfl⟩) AG))))))),?_⟩
 walk_at "4";refine⟨l,_,rs,rfl,hC,hk,Qj Y,ae,λH1 an=>?_⟩;walk_at "4";intro p2 am;rw[Lns.fW I];have ah:=AV am (.lst ((ls.map AD++[("":Str)]).map V.str));have af:upd H1 p2 (.lst ((ls.map AD++[("":Str)]).map V.str)) p2=some (.lst ((ls.map AD++[("":Str)]).map V.str)):=AA;generalize upd H1 p2 (.lst ((ls.map AD++[("":Str)]).map V.str))=H2 at ah af⊢;walk_at "4";refine⟨p2,_,rfl,AH.of af,λp3 al=>?_⟩;rw[show DN ((ls.map AD++[("":Str)]).map V.str) none (some (-1))=(ls.map AD).map V.str from Vx V.str _ _];have ag:=AV al (.lst ((ls.map AD).map V.str));have ad:upd H2 p3 (.lst ((ls.map AD).map V.str)) p3=some (.lst ((ls.map AD).map V.str)):=AA;generalize upd H2 p3 (.lst ((ls.map AD).map V.str))=H3 at ag ad⊢;have J:=an.trans (ah.trans ag);refine⟨p3,rfl,⟨_,AH.of ad⟩,λD hD=>?_⟩;refine HB (a:=p3) (xs:=(ls.map AD).map V.str) (λj zs σ H6=>∃(v2:Option V),σ=[some (.ref l),some (.str (BG ls)),v2]/\AF H3 H6/\H6 D=some (.lst zs)/\Paired (Lns.DE H D H6) zs (ls.take j)/\zs.Nodup)
  ?_ ?_ ?_ ?_
 .exact⟨none,rfl,AV hD _,AA,.nil,.nil⟩
 .rintro j zs σ H6 hj ⟨_,_,hs,_⟩;exact hs.seq (AH.of ad)
 .rintro j x zs σ H6 hx aq ⟨v2,rfl,hs,hh,hz,aa⟩;rw[Ax,Ax]at hx
  obtain⟨y,hy,rfl⟩:=B6.mp hx;obtain⟨w0,ai,rfl⟩:=B6.mp hy;have ac:=Ag ai;have au:=Qh hz;rw[Al]at au
  have av:=ao w0 ac;walk_at "4";intro pn W;rw[Lns.fV (Y w0 ac).1 (I w0 ac)];have Z:=AV W (.lst (w0.map V.str));have aj:pn≠D:=λe=>by rw[e,hh]at W;cases W
  refine EN aq (Z _ _ hh) (by lia) ⟨_,rfl,DO (hs.trans Z) hD,AA,?_,?_⟩
  .rw[Ay,ai];exact Ce (VG (Si hz Z)) ⟨pn,rfl,aj,J.free (hs.free W),by rw[BV aj];exact AA⟩
  .rw[Dn];refine⟨aa,by simp,λa ha b hb=>?_⟩;rw[Aj.mp hb];exact λe=>Lns.fX hz W (e ▸ ha)
 .rintro zs σ H6 ⟨v2,rfl,ar,ap,ak,aa⟩;rw[A6,A6,Ak (Af _)]at ak
  exact q D zs H6 (J.free hD) (J.trans ar) ap ak aa
open Unl
def nu:Sp:=λvs H Q _=>∃(x y:Str),vs=[.str x,.str y]/\x.length<=90000/\y.length<=90000/\∀H',AF H H'->Q (.int (cp x.cps.toList y.cps.toList:Nat)) H'
theorem nv(T:Tx K mg a):AJ P w K mg base BL 1 (a.f 46) (a.d 46) ["one","other"] nu:=by
 refine T.first_place_unlike.fn.ok Tg (λvs H Q E h=>?_) (λac A outer s H vs Q E hr h=>?_)
 .obtain⟨x,y,rfl,_⟩:=h;rfl
 obtain⟨x,y,rfl,hx,hy,q⟩:=h;have ad:x.cps.toList.length=x.length:=Au;have Y:y.cps.toList.length=y.length:=Au;have aa:=W9 x.cps.toList y.cps.toList;refine⟨_,(AL (BQ (i:=2) Tg.nd rfl AM AN)
  (AL (Md Bb (PW.pt (L6 (BU L8 (pv 2) (CY (Ru rfl) rfl T.b_min S9 (AC (CY LC rfl T.b_len DP (AC (pv 0) AG)) (AC (CY LC rfl T.b_len DP (AC (pv 1) AG)) AG))) (BM _)) (L5 (BU EM (CA Ld (pv 0) (pv 2) (λ_ _=>rfl)) (CA Ld (pv 1) (pv 2) (λ_ _=>rfl)) (BM _))))) (AQ (BQ (i:=2) Tg.nd rfl AM (AU DG (pv 2) AN))))
  (AQ (BK (pv 2))))),?_⟩
 walk_at "4";refine⟨λm σ H2=>∃i:Nat,σ=[some (.str x),some (.str y),some (.int (i:Int))]/\m=cp x.cps.toList y.cps.toList-i/\i<=cp x.cps.toList y.cps.toList/\AF H H2,⟨_,0,rfl,rfl,B9 _,AF.refl _⟩,?_⟩;rintro m σ H2 ⟨i,rfl,rfl,hi,J⟩;walk_at "4";refine⟨DD (by lia),?_⟩;walk_at "4";refine⟨DD (by lia),?_⟩;walk_at "4";refine⟨_,_,rfl,?_⟩;walk_at "4";have hm:(if (y.length:Int)<(x.length:Int)then(y.length:Int)else(x.length:Int))=((min x.length y.length:Nat):Int):=by split<;>lia
 rw[hm];by_cases ae:i<min x.length y.length
 .have ex:DJ x.cps.toList (i:Int)=some (x.cps.toList[i]'(by lia)):=EY (A7 (by lia));have Z:DJ y.cps.toList (i:Int)=some (y.cps.toList[i]'(by lia)):=EY (A7 (by lia));rw[Ae (show(i:Int)<((min x.length y.length:Nat):Int) by lia)];refine BB ?_;refine⟨_,rfl,?_⟩;refine⟨_,rfl,?_⟩;refine⟨_,_,_,rfl,rfl,DD (by lia),ex,?_⟩;refine⟨_,rfl,?_⟩;refine⟨_,rfl,?_⟩;refine⟨_,_,_,rfl,rfl,DD (by lia),Z,?_⟩;walk_at "4";rw[show decide (V.str ({ cps:=#[x.cps.toList[i]'(by lia)] }:Str)=V.str ({ cps:=#[y.cps.toList[i]'(by lia)] }:Str))=decide (x.cps.toList[i]'(by lia)=y.cps.toList[i]'(by lia))from R3];by_cases e:x.cps.toList[i]'(by lia)=y.cps.toList[i]'(by lia)
  .rw[Ae e];refine BB ?_;have F:i<cp x.cps.toList y.cps.toList:=by
    rcases Nat.lt_or_ge i (cp x.cps.toList y.cps.toList)with h|h
    .exact h
    .have I:i=cp x.cps.toList y.cps.toList:=by lia
     exact absurd e (Wb (x:=x.cps.toList) (y:=y.cps.toList) (by rw[<-I];exact A7 (by lia)) (by rw[<-I];exact A7 (by lia)))
   refine⟨λG H'=>G=[some (.str x),some (.str y),some (.int ((i+1:Nat):Int))]/\AF H H',?_,?_⟩
   .rintro G H' ⟨rfl,W⟩;exact⟨_,by lia,i+1,rfl,rfl,F,W⟩
   .walk_at "4";exact J
  .rw[Ai e];refine AR ?_;have F:i=cp x.cps.toList y.cps.toList:=by
    rcases Nat.lt_or_ge i (cp x.cps.toList y.cps.toList)with h|h
    .have:=Wa h;rw[A7 (by lia),A7 (by lia)]at this
     exact absurd (Ap this) e
    .lia
   walk_at "4";rw[F];exact q _ J
 .rw[Ai (show ¬(i:Int)<((min x.length y.length:Nat):Int) by lia)];refine AR ?_;have F:i=cp x.cps.toList y.cps.toList:=by lia
  walk_at "4";rw[F];exact q _ J
open Unl
theorem Y9{ts:List Str}{i:Nat}{v:V}(h:(ts.map V.str)[i]?=some v):∃t,v=.str t/\ts[i]?=some t:=by
 rw[Ax]at h
 obtain⟨t,ht,rfl⟩:=B6.mp h;exact⟨t,rfl,ht⟩
def Ya(K:Frag):Sp:=λvs H Q _=>∃(l d:Addr) (rs:List CC) (ls:List (List Str)) (ss:List Str),vs=[.ref l,.str (BG ls),.ref d]/\Cs.IJ K H l rs/\(BG ls).length<=90000/\(∀x∈ls,(AD x).length<=90000)/\Lns.Kz ls/\(∀x∈ls,x≠[]/\∀y∈x,Lns.KC rs y) /\
 AH K H d (ss.map V.str)/\ss.length<=1000/\(∀x∈ss,x.length<=90000)/\∀v H',AF H H'->N7 H' v (un 0 (ls.map AD) ss)->Q v H'
theorem ny(T:Tx K mg a):AJ P w K mg base BL 5 (a.f 47) (a.d 47) ["case","keys","slugs"] (Ya K):=by
 have J:=@Y8 P w K mg base a T;have G:=@nv P w K mg base a T;refine T.first_unlike.fn.ok O9 (λvs H Q E h=>?_) (λaJ A outer s H vs Q E hr h=>?_)
 .obtain⟨l,d,rs,ls,ss,rfl,_⟩:=h;rfl
 obtain⟨l,d,rs,ls,ss,rfl,hC,hk,an,ad,ar,hS,aF,aC,q⟩:=h;have aH:=ad.1;refine⟨_,(AL (Mi (i:=3) O9.nd rfl AM rfl (FJ K rfl (BN T.lines_of J hr rfl (AC (pv 0) (AC (pv 1) AG)))) (BH.of (N':=["case","keys","slugs","texts","number","pair","text","slug","line"]) (ms:=[]) (k:=1) (by rfl)) (λ_ _ _ _ _=>(BF (i:=8) (show List.Nodup (["case","keys","slugs","texts","number","pair","text","slug","line"]:List Str)from by decide +kernel) rfl AM)) (λ_ _ _ _ _=>GG) (λ_ _ _ _ _=>(DX K rfl Ba Bm Bn (JI K rfl) CD (AC (pv 8) AG))))
  (AL (GL Bb rfl (i6 K rfl rfl T.b_enumerate rfl T.b_zip (AC (pv 3) (AC (pv 2) AG))) (FO K rfl (n:=2) rfl (BY (BF (i:=4) O9.nd rfl AM) (BY (BF (i:=5) O9.nd rfl AM) FL))) (AL (IG (pv 5) (FO K rfl (n:=2) rfl (BY (BF (i:=6) O9.nd rfl AM) (BY (BF (i:=7) O9.nd rfl AM) FL))))
  (AQ (CF (BU IT (pv 6) (pv 7) (BM _)) (AQ (BK (EE (AC (pv 4) (AC (BN T.first_place_unlike G hr rfl (AC (pv 6) (AC (pv 7) AG))) AG))))) CP))))
  (AL (CF (BU IT (CY (EB K rfl) rfl T.b_len DP (AC (pv 3) AG)) (CY (EB K rfl) rfl T.b_len DP (AC (pv 2) AG)) (BM _)) (AQ (BK (EE (AC (CY (Ru rfl) rfl T.b_min S9 (AC (CY (EB K rfl) rfl T.b_len DP (AC (pv 3) AG)) (AC (CY (EB K rfl) rfl T.b_len DP (AC (pv 2) AG)) AG))) (AC AN AG))))) CP)
  (AQ (BK Lu))))),?_⟩
 walk_at "4";refine⟨l,rs,ls,rfl,hC,hk,an,by lia,ar,λD zs H1 hD ax aj aq aI=>?_⟩;have au:=Lns.DE.n aq;have aK:=Qh aq;refine⟨D,rfl,⟨_,AH.of aj⟩,λE2 ap=>?_⟩;refine HB (a:=D) (xs:=zs) (λj ys σ H6=>∃(v:Option V),σ=[some (.ref l),some (.str (BG ls)),some (.ref d),none,none,none,none,none,v]/\AF H1 H6/\H6 E2=some (.lst ys)/\ys=((ls.take j).map AD).map V.str)
  ?_ ?_ ?_ ?_
 .exact⟨none,rfl,AV ap _,AA,rfl⟩
 .rintro j ys σ H6 hj ⟨_,_,hs,_⟩;exact hs.seq (AH.of aj)
 .rintro j x ys σ H6 hx aD ⟨v,rfl,hs,hh,rfl⟩;obtain⟨w0,Y,p,rfl,_,hp⟩:=FU au hx;have aA:=Ag Y;walk_at "4";refine⟨_,p,w0,rfl,rfl,AH.of (hs _ _ hp),?_,?_⟩
  .have:=ad.2 w0 aA;exact Sf this.1 this.2
  .refine EN aD hh ?_ ⟨_,rfl,DO hs ap,AA,?_⟩
   .rw[A6,A6,Al]
    lia
   .rw[Ay,Y,Ah,Ah];rfl
 .rintro ys σ H6 ⟨v,rfl,hs,hh,rfl⟩;rw[Ak (by lia)]at hh
  have aa:=ax.trans hs;generalize ah:ls.map AD=ts at hh q;have aE:ts.length=ls.length:=by rw[<-ah,A6]
  have ag:=aa.seq hS;walk_at "4";refine⟨E2,d,rfl,⟨_,AH.of hh⟩,⟨_,ag⟩,?_⟩;refine i5 (a:=E2) (b:=d) (xs:=ts.map V.str) (ys:=ss.map V.str) (min ts.length ss.length) ⟨by rw[A6];lia,by rw[A6];lia,by rw[A6,A6];lia⟩
   (λi σ H7=>∃(v4 v5 v6 v7:Option V),σ=[some (.ref l),some (.str (BG ls)),some (.ref d),some (.ref E2),v4,v5,v6,v7]/\AF H6 H7/\∀j,j<i->ts[j]?=ss[j]?)
   ⟨none,none,none,none,rfl,AF.refl _,λj h=>absurd h (Cg _)⟩ (λi σ H7 _ ⟨_,_,_,_,_,I,_⟩=>⟨I.seq (AH.of hh),I.seq ag⟩) ?_ ?_
  .rintro i x y p t σ H7 hi hx hy ⟨v4,v5,v6,v7,rfl,I,hb⟩ hp az aw;obtain⟨tx,rfl,Z⟩:=Y9 hx;obtain⟨sx,rfl,W⟩:=Y9 hy;have ak:=AV hp (.tup [.str tx,.str sx]);have ai:upd H7 p (.tup [.str tx,.str sx]) p=some (.tup [.str tx,.str sx]):=AA;have al:upd H7 p (.tup [.str tx,.str sx]) t=none:=by rw[BV aw];exact az
   generalize upd H7 p (.tup [.str tx,.str sx])=H8 at ak ai al⊢;have af:=AV al (.tup [.int i,.ref p]);have ay:upd H8 t (.tup [.int i,.ref p]) t=some (.tup [.int i,.ref p]):=AA;generalize upd H8 t (.tup [.int i,.ref p])=H9 at af ay⊢;have aG:=af _ _ ai;have ac:=I.trans (ak.trans af);walk_at "4";walk_at "1";walk_at "1";walk_at "4";walk_at "1";walk_at "1";walk_at "4";have aB:tx.length<=90000:=by
    rw[<-ah,Ax]at Z
    obtain⟨w0,Y,rfl⟩:=B6.mp Z;exact an w0 (Ag Y)
   rw[FP];by_cases e:tx=sx
   .rw[Ae e];refine AR ?_;refine⟨_,_,_,_,rfl,ac,λj hj=>?_⟩;by_cases z:j=i
    .rw[z,Z,W,e]
    .exact hb j (by lia)
   .rw[Ai e];refine BB ?_;walk_at "4";refine⟨tx,sx,rfl,aB,aC sx (Ag W),λaL ao=>?_⟩;walk_at "4";intro r ae;refine q _ _ ((aa.trans (ac.trans ao)).trans (AV ae _)) ?_;rw[Qn hb Z W e,Eb];exact⟨r,rfl,AA⟩
  .rintro σ H7 ⟨v4,v5,v6,v7,rfl,I,hb⟩;have am:=I _ _ hh;have av:=I.seq ag;walk_at "4";refine⟨E2,_,rfl,.inl (AH.of am),?_⟩;rw[A6];walk_at "4";refine⟨d,_,rfl,.inl av,?_⟩;rw[A6];walk_at "4";by_cases e:ts.length=ss.length
   .rw[show(!decide (V.int (ts.length:Int)=V.int (ss.length:Int)))=false by rw[Ae (by rw[e])];rfl];refine AR ?_;walk_at "4";refine q _ _ (aa.trans I) ?_;rw[i9 (λj hj=>hb j (by lia)) e];rfl
   .rw[show(!decide (V.int (ts.length:Int)=V.int (ss.length:Int)))=true by rw[Ai (λh=>by injection h with h;lia)];rfl];refine BB ?_;walk_at "4";refine⟨E2,_,rfl,.inl (AH.of am),?_⟩;rw[A6];walk_at "4";refine⟨d,_,rfl,.inl av,?_⟩;rw[A6];walk_at "4";refine⟨_,_,rfl,?_⟩;walk_at "4";intro r ae;refine q _ _ ((aa.trans I).trans (AV ae _)) ?_;rw[Qo hb rfl e,Eb];refine⟨r,rfl,?_⟩;rw[AA];have hm:(if (ss.length:Int)<(ts.length:Int)then(ss.length:Int)else(ts.length:Int))=((min ts.length ss.length:Nat):Int):=by split<;>lia
    rw[hm];rfl
open Unl
theorem Yb:∀(a:List Nat) {x z:Nat}{y w:List Nat},x≠z->cp (a++x::y) (a++z::w)=a.length
 | [],_,_,_,_,h=>Aq h
 | b::a,_,_,_,_,h=>(Ar rfl:cp (b::(a++_)) (b::(a++_))=_).trans (Bs (·+ 1) (Yb a h))
theorem Tv:∀(a b:List Nat),cp a (a++b)=a.length
 | [],[]=>rfl
 | [],_::_=>rfl
 | x::a,b=>(Ar rfl:cp (x::a) (x::(a++b))=_).trans (Bs (·+ 1) (Tv a b))
theorem Yc:∀{l:List Str},c∈(AD l).cps.toList->c=32\/∃x∈l,c∈x.cps.toList
 | [],h=>by rw[show(AD []).cps.toList=[] by decide]at h;cases h
 | [x],h=>by rw[Kn]at h;exact .inr ⟨x,Ab,h⟩
 | x::y::r,h=>by
   rw[KY x (Cb y r),EU,EU]at h
   rcases Az.mp h with z|z
   .rcases Az.mp z with z|z
    .exact .inr ⟨x,Ab,z⟩
    .exact .inl (Aj.mp z)
   .rcases Yc z with z|⟨u,F,z⟩
    .exact .inl z
    .exact .inr ⟨u,Ac _ F,z⟩
theorem nz:∀c∈BR,c<63\/63<c/\c<128:=by decide +kernel
theorem JQ.text{rs:List CC}{ls:List (List Str)}(L:JQ rs ls):∀t∈ls.map AD,1<=t.cps.toList.length/\t.cps.toList.length<=84/\∀c∈t.cps.toList,c≠63/\c<128:=λt ht=>by
 obtain⟨l,I,rfl⟩:=Bw.mp ht;obtain⟨h1,h2,G⟩:=L.one l I;refine⟨?_,?_,λc J=>?_⟩
 .cases l with
  | nil=>exact absurd rfl h1
  | cons x r =>
    have F:1<=x.cps.toList.length:=(G x Ab).1;cases r with
    | nil=>rw[Kn];exact F
    | cons y r =>
      rw[KY x (Cb y r),EU,EU,Aa,Aa]
      lia
 .have a:=KP (λx:Str=>x.length) 5 14 l (λx F=>(G x F).2.1) h2;have a:(l.map (·.length)).sum<=14*5:=a;have b:=Cn " " l;have b:(Str.join " " l).length<=(l.map (·.length)).sum+l.length*(" ":Str).length:=b;rw[show(" ":Str).length=1 by decide]at b
  rw[show(AD l).cps.toList.length=(AD l).length from Au];unfold AD Txt.join;rw[Bp]
  lia
 .rcases Yc J with rfl|⟨x,F,z⟩
  .exact⟨by decide,by decide⟩
  .have:=nz c ((G x F).2.2 c z).1
   lia
theorem Yd{ts:List Str}{i:Nat}{y:Str}(h:i<ts.length):(∀j,j<i->ts[j]?=(ts.take i++[y]++ts.drop (i+1))[j]?)/\(ts.take i++[y]++ts.drop (i+1))[i]?=some y:=by
 have G:(ts.take i).length=i:=by rw[Al];lia
 refine⟨λj F=>?_,?_⟩
 .rw[Ao,Bz (by lia),List.getElem?_take,Ar F]
 .rw[Ao,Bv (by lia),G,E9];rfl
theorem nA(ts:List Str)(n:Nat):DN (ts.map V.str) none (some (n:Int))=(ts.take n).map V.str:=by
 unfold DN;rw[HT.RE,HT.MN,A6,Ex,Je,<-Fm,Nat.min_def];split
 .rfl
 .rw[List.take_length,Ak (by lia)]
theorem nB(ts:List Str)(n:Nat):DN (ts.map V.str) (some (n:Int)) none=(ts.drop n).map V.str:=by
 unfold DN;rw[HT.MN,HT.RE,A6,<-Ib,Ak (by rw[A6,Bx];exact Af _)];by_cases h:n<=ts.length
 .rw[Dq h]
 .rw[Gg (by lia),Cm (Af _),Cm (by lia)]
def nC(K:Frag):Sp:=λvs H Q _=>∃(l d:Addr) (c:Int) (rs:List CC) (ls:List (List Str)),vs=[.ref l,.str (BG ls),.ref d,.int c]/\Cs.IJ K H l rs/\JQ rs ls/\ls.length<=56/\(BG ls).length<=90000/\Lns.Kz ls/\H d=some (.lst ((ls.map AD).map V.str))/\∀H',AF H H'->Q (.bl true) H'
theorem nD(T:Tx K mg a):AJ P w K mg base BL 6 (a.f 61) (a.d 61) ["_law_case_here","_law_keys","_law_slugs","_law_cell_here"] (nC K):=by
 have F:=@ny P w K mg base a T;refine T.law_unlike.fn.ok QT (λvs H Q E h=>?_) (λbq A outer s H vs Q E hr h=>?_)
 .obtain⟨l,d,c,rs,ls,rfl,_⟩:=h;rfl
 obtain⟨l,d,c,rs,ls,rfl,hC,L,hl,hk,aH,hd,q⟩:=h;have aI:∀x∈ls,x≠[]/\∀y∈x,Lns.KC rs y:=λx hx=>⟨(L.one x hx).1,λy hy=>((L.one x hx).2.2 y hy).settable⟩
 have tx:=L.text;have a7:∀x∈ls,(AD x).length<=90000:=λx hx=>by
  have:=(tx _ (Dt hx)).2.1;rw[show(AD x).cps.toList.length=(AD x).length from Au]at this
  lia
 have a0:(ls.map AD).length<=56:=by rw[A6];exact hl
 have call:∀{H':Hp}{d':Addr}{ss:List Str}{Q':VK},AF H H'->H' d'=some (.lst (ss.map V.str))->ss.length<=100->(∀x∈ss,x.cps.toList.length<=100)->(∀v aw,AF H' aw->N7 aw v (un 0 (ls.map AD) ss)->Q' v aw)->Ya K [.ref l,.str (BG ls),.ref d'] H' Q' E0:=λ{H' d' ss Q'} s h1 h2 h3 h4 =>
  ⟨l,d',rs,ls,ss,rfl,hC.same s,hk,a7,aH,aI,AH.of h1,by lia,λx hx=>by
    have:=h3 x hx;rw[show x.cps.toList.length=x.length from Au]at this
    lia,h4⟩
 generalize ls.map AD=ts at tx a0 hd call;have lay:∀t∈ts,PyData.canLay0 (.str t)=true:=λt ht=>by
  show(t.cps.all λc=>decide (c<0x110000))=true;rw[<-Gi,C1];exact λc hc=>Ae (by have:=((tx t ht).2.2 c hc).2;lia)
 have al:∀t∈ts,t.cps.toList.length<=100:=λt ht=>by have:=(tx t ht).2.1;lia
 have dt:∀{H':Hp}{t:Addr}{x y:Int},H' t=some (.tup [.int x,.int y])->GD K H' (.ref t) (.tuple [.int x,.int y]):=λh=>.tup (BP.of h) (.cons (.int _) (.cons (.int _) .nil))
 have d2:∀{x y u v:Int},min (PyData.tuple [.int x,.int y]).depth (PyData.tuple [.int u,.int v]).depth<=64:=λ{x y u v}=>by
  have:(PyData.tuple [.int x,.int y]).depth=1:=rfl
  lia
 have ed:∀{x y:Int},PyData.eqv (.tuple [.int x,.int y]) (.tuple [.int x,.int y])=true:=λ{x y}=>eqv_refl rfl
 have l1:("a":Str).cps.toList.length<=100:=by decide
 refine⟨_,(AL (CF (Nw (Oh (BN T.first_unlike F hr rfl (AC (pv 0) (AC (pv 1) (AC (JT (OJ K rfl) rfl T.b_list OB (AC (pv 2) AG)) AG)))))) (AQ (BK IB)) CP)
  (AL (CF (BU (EZ K rfl hr.units) (pv 2) (DA AG) (BM _)) (AQ (BK (FM (EZ K rfl hr.units) (BN T.first_unlike F hr rfl (AC (pv 0) (AC (pv 1) (AC (DA (AC CD AG)) AG)))) (EE (AC AN (AC AN AG))) (BM _)))) CP)
  (AL (BQ (i:=4) QT.nd rfl AM (AU FI (pv 3) (CY (EB K rfl) rfl T.b_len DP (AC (pv 2) AG))))
  (AL (BQ (i:=5) QT.nd rfl AM (AU FI (AU JR (pv 3) AN) (CY LC rfl T.b_len DP (AC (CA (DR K rfl) (pv 2) (pv 4) (λ_ _=>rfl)) AG))))
  (AL (BQ (i:=6) QT.nd rfl AM (AU Kw (AU Kw (Kh US (CA (DR K rfl) (pv 2) (pv 4) (λ_ _=>rfl)) La (IU (pv 5))) CD) (Kh US (CA (DR K rfl) (pv 2) (pv 4) (λ_ _=>rfl)) (IU (AU DG (pv 5) AN)) La)))
  (AL (CF (BU (GH K rfl hr.units) (BN T.first_unlike F hr rfl (AC (pv 0) (AC (pv 1) (AC (AU Ky (AU Ky (Kh (Le K rfl) (pv 2) La (IU (pv 4))) (DA (AC (pv 6) AG))) (Kh (Le K rfl) (pv 2) (IU (AU DG (pv 4) AN)) La)) AG)))) (EE (AC (pv 4) (AC (pv 5) AG))) (BM _)) (AQ (BK IB)) CP)
  (AL (CF (BU (GH K rfl hr.units) (BN T.first_unlike F hr rfl (AC (pv 0) (AC (pv 1) (AC (Kh (Le K rfl) (pv 2) La (IU (MF ML AN))) AG)))) (EE (AC (AU IH (CY (EB K rfl) rfl T.b_len DP (AC (pv 2) AG)) AN) (AC AN AG))) (BM _)) (AQ (BK IB)) CP)
  (AL (CF (BU (GH K rfl hr.units) (BN T.first_unlike F hr rfl (AC (pv 0) (AC (pv 1) (AC (AU Ky (AU Ky (Kh (Le K rfl) (pv 2) La (IU (pv 4))) (DA (AC (AU Kw (CA (DR K rfl) (pv 2) (pv 4) (λ_ _=>rfl)) CD) AG))) (Kh (Le K rfl) (pv 2) (IU (AU DG (pv 4) AN)) La)) AG)))) (EE (AC (pv 4) (AC (CY LC rfl T.b_len DP (AC (CA (DR K rfl) (pv 2) (pv 4) (λ_ _=>rfl)) AG)) AG))) (BM _)) (AQ (BK IB)) CP)
  (AQ (BK (FM (EZ K rfl hr.units) (BN T.first_unlike F hr rfl (AC (pv 0) (AC (pv 1) (AC (AU Ky (pv 2) (DA (AC CD AG))) AG)))) (EE (AC (CY (EB K rfl) rfl T.b_len DP (AC (pv 2) AG)) (AC AN AG))) (BM _)))))))))))),?_⟩
 walk_at "2";refine⟨d,_,rfl,.inl (AH.of hd),λd1 a8=>?_⟩;have s1:=AV a8 (.lst (ts.map V.str));have aR:upd H d1 (.lst (ts.map V.str)) d1=some (.lst (ts.map V.str)):=AA;generalize upd H d1 (.lst (ts.map V.str))=H1 at s1 aR⊢;refine call s1 aR (by lia) al λv H2 a3 hv=>?_
 rw[Sz]at hv
 have hv:v=.non:=hv;subst hv;have aV:=s1.trans a3;have br:=aV _ _ hd;refine⟨_,rfl,?_⟩;refine AR ?_;walk_at "2";refine λe0 bf=>?_
 have aF:=AV bf (.lst []);have aX:upd H2 e0 (.lst []) e0=some (.lst []):=AA;generalize upd H2 e0 (.lst [])=H3 at aF aX⊢;have Z:=aV.trans aF;have ak:=Z _ _ hd;refine⟨FX ts,.list [],.lst (AH.of ak) (Li lay),.lst (AH.of aX) .nil,by have:(PyData.list []).depth=1:=rfl;lia,?_⟩;refine⟨_,rfl,?_⟩;by_cases ae:ts=[]
 .subst ae;refine BB ?_;walk_at "2";refine λp1 au=>?_
  have am:=AV au (.lst [.str "a"]);have aM:upd H3 p1 (.lst [.str "a"]) p1=some (.lst ([("a":Str)].map V.str)):=AA;generalize upd H3 p1 (.lst [.str "a"])=H4 at am aM⊢;refine call (Z.trans am) aM (by decide) (λx hx=>by rw[Aj.mp hx];exact l1) λv H5 an hv=>?_
  obtain⟨t,rfl,ht⟩:N7 H5 v (some (0,0)):=hv;walk_at "2";refine λt2 aE=>?_
  have ao:=AV aE (.tup [.int 0,.int 0]);refine⟨.tuple [.int 0,.int 0],.tuple [.int 0,.int 0],dt (ao _ _ ht),dt AA,d2,?_⟩;exact q _ ((Z.trans (am.trans an)).trans ao)
 .have bn:1<=ts.length:=D5.mpr ae;have aB:PyData.eqv (FX ts) (.list [])=false:=by
   cases ts with
   | nil=>exact absurd rfl ae
   | cons x r=>rfl
  rw[aB];refine AR ?_;walk_at "2";refine⟨d,_,rfl,.inl (AH.of ak),?_⟩;rw[A6];refine⟨_,_,rfl,rfl,(by show(0:Int)<(ts.length:Int);lia),?_⟩;dsimp only;have aD:=Ds c (show(ts.length:Int)≠0 by lia);have a9:=Dd c (show(0:Int)<(ts.length:Int) by lia);generalize c%(ts.length:Int)=z at aD a9⊢;obtain⟨i,rfl⟩:=Bu aD;have ar:i<ts.length:=by lia
  obtain⟨t,ap⟩:∃t,ts[i]?=some t:=⟨_,A7 ar⟩
  have bh:=Ag ap;obtain⟨bo,aE,bc⟩:=tx t bh;have ba:t.cps.toList.length=t.length:=Au;have aj:∀_:Unit,DJ (ts.map V.str) (i:Int)=some (.str t):=λ_=>EY (by rw[Ax,ap];rfl)
  walk_at "2";refine⟨d,_,_,_,rfl,rfl,AH.of ak,aj (),?_⟩;refine⟨t,rfl,DD (by lia),?_⟩;refine⟨_,_,rfl,rfl,(by show(0:Int)<(t.length:Int);lia),?_⟩;dsimp only;have aK:=Ds (c/60) (show(t.length:Int)≠0 by lia);have au:=Dd (c/60) (show(0:Int)<(t.length:Int) by lia);generalize c/60%(t.length:Int)=z at aK au⊢;obtain⟨p,rfl⟩:=Bu aK;have bp:p<t.length:=by lia
  have c1:=nA ts i;have c2:DN (ts.map V.str) (some ((i:Int)+1)) none=(ts.drop (i+1)).map V.str:=nB ts (i+1);have aq:∀{y:Str},y.cps.toList.length<=100->(ts.take i++[y]++ts.drop (i+1)).length<=100/\∀x∈ts.take i++[y]++ts.drop (i+1),x.cps.toList.length<=100:=λ{y} hy=>by
   refine⟨?_,λx hx=>?_⟩
   .rw[Aa,Aa,Al,Bx];show _+1+_<=_
    lia
   .rcases Az.mp hx with h|h
    .rcases Az.mp h with h|h
     .exact al x (Ea h)
     .rw[Aj.mp h];exact hy
    .exact al x (Gr h)
  walk_at "2";refine⟨d,_,_,_,rfl,rfl,AH.of ak,aj (),?_⟩;walk_at "2";have aA:(Txt.slice t none (some (p:Int))).cps.toList=t.cps.toList.take p:=i7 t p rfl;have av:(Txt.slice t (some ((p:Int)+1)) none).cps.toList=t.cps.toList.drop (p+1):=i8 t (p+1) (by lia);have eL:∀x:Str,x.length=x.cps.toList.length:=λx=>Au.symm
  refine⟨DD (by lia),?_⟩;generalize Txt.slice t none (some (p:Int))=u at aA⊢;generalize hv:Txt.slice t (some ((p:Int)+1)) none=v at av;have lu:=eL u;have lv:=eL v;rw[aA,Al]at lu
  rw[av,Bx]at lv
  have bt:("?":Str).length=1:=by decide
  walk_at "2";refine⟨DD (by lia),?_⟩;walk_at "2";refine⟨d,_,_,_,rfl,rfl,AH.of ak,aj (),?_⟩;walk_at "2";refine⟨DD (by lia),?_⟩;rw[hv];walk_at "2";refine⟨DD (by rw[Bl];lia),?_⟩;have ho:(u++("?":Str)++v).cps.toList=t.cps.toList.take p++63::t.cps.toList.drop (p+1):=by
   rw[EU,EU,aA,av,Ao];rfl
  generalize u++("?":Str)++v=I at ho⊢;have lo:I.cps.toList.length<=100:=by
   rw[ho,Aa,B8,Al,Bx]
   lia
  obtain⟨cc,ay⟩:∃cc,t.cps.toList[p]?=some cc:=⟨_,A7 (by lia)⟩
  have aL:=(bc cc (Ag ay)).1;have aJ:cp t.cps.toList I.cps.toList=p:=by
   have e:t.cps.toList=t.cps.toList.take p++cc::t.cps.toList.drop (p+1):=by
    conv=>lhs;rw[<-E4 p t.cps.toList]
    rw[Fj (by lia:p<t.cps.toList.length)];rw[A7 (by lia:p<t.cps.toList.length)]at ay
    rw[Ap ay]
   rw[ho];conv=>lhs;arg 1;rw[e]
   rw[Yb _ aL,Al]
   lia
  have be:t≠I:=λz=>by
   have:=Bs (λx:Str=>cp x.cps.toList I.cps.toList) z;have:p=cp I.cps.toList I.cps.toList:=by rw[<-aJ,<-z]
   have h2:=Tv I.cps.toList [];rw[Av]at h2
   rw[h2,<-z]at this
   lia
  walk_at "2";refine⟨d,_,rfl,AH.of (Z _ _ hd),λW J=>?_⟩;rw[c1];have Y:=AV J (.lst ((ts.take i).map V.str));have g1:upd H3 W (.lst ((ts.take i).map V.str)) W=some (.lst ((ts.take i).map V.str)):=AA;generalize upd H3 W (.lst ((ts.take i).map V.str))=J1 at Y g1⊢;walk_at "2";refine λq2 aa=>?_
  have r2:=AV aa (.lst [.str I]);have g2:upd J1 q2 (.lst [.str I]) q2=some (.lst [.str I]):=AA;generalize upd J1 q2 (.lst [.str I])=J2 at r2 g2⊢;refine⟨W,q2,_,_,rfl,rfl,r2 _ _ g1,g2,DD (by rw[A6,Al];show _+1<=_;lia),λq3 ag=>?_⟩;have r3:=AV ag (.lst ((ts.take i).map V.str++[.str I]));have g3:upd J2 q3 (.lst ((ts.take i).map V.str++[.str I])) q3=some (.lst ((ts.take i).map V.str++[.str I])):=AA;generalize upd J2 q3 (.lst ((ts.take i).map V.str++[.str I]))=J3 at r3 g3⊢;have ac:=Y.trans (r2.trans r3);walk_at "2";refine⟨d,_,rfl,AH.of ((Z.trans ac) _ _ hd),λq4 ai=>?_⟩;rw[c2];have r4:=AV ai (.lst ((ts.drop (i+1)).map V.str));have g4:upd J3 q4 (.lst ((ts.drop (i+1)).map V.str)) q4=some (.lst ((ts.drop (i+1)).map V.str)):=AA;generalize upd J3 q4 (.lst ((ts.drop (i+1)).map V.str))=J4 at r4 g4⊢;refine⟨q3,q4,_,_,rfl,rfl,r4 _ _ g3,g4,DD (by rw[Aa,A6,A6,Al,Bx];show _+1+_<=_;lia),λq5 ah=>?_⟩;have el:(ts.take i).map V.str++[V.str I]++(ts.drop (i+1)).map V.str=(ts.take i++[I]++ts.drop (i+1)).map V.str:=by
   rw[Ah,Ah];rfl
  rw[el];have r5:=AV ah (.lst ((ts.take i++[I]++ts.drop (i+1)).map V.str));have g5:upd J4 q5 (.lst ((ts.take i++[I]++ts.drop (i+1)).map V.str)) q5=some (.lst ((ts.take i++[I]++ts.drop (i+1)).map V.str)):=AA;generalize upd J4 q5 (.lst ((ts.take i++[I]++ts.drop (i+1)).map V.str))=J5 at r5 g5⊢;have af:=ac.trans (r4.trans r5);obtain⟨k1,k2⟩:=aq lo;obtain⟨m1,m2⟩:=Yd (ts:=ts) (i:=i) (y:=I) ar;refine call (Z.trans af) g5 k1 k2 λw5 H4 am aW=>?_
  rw[Qn m1 ap m2 be,Eb,aJ]at aW
  obtain⟨t5,rfl,bg⟩:=aW;have s4:=(Z.trans af).trans am;clear m1 m2 g5 r5 g4 r4 g3 r3 g2 r2 g1 Y J aa ag ai ah ac;walk_at "2";refine λt6 a4=>?_
  have an:=AV a4 (.tup [.int (i:Int),.int (p:Int)]);refine⟨_,_,dt (an _ _ bg),dt AA,d2,?_⟩;have s5:=s4.trans an;generalize upd H4 t6 (.tup [.int (i:Int),.int (p:Int)])=H5 at s5⊢;rw[ed];refine⟨_,rfl,?_⟩;refine AR ?_;obtain⟨G,last,ad⟩:∃G last,ts=G++[last]:=⟨ts.dropLast,ts.getLast ae,(Eo ae).symm⟩
  have bl:ts.length=G.length+1:=by rw[ad,Aa];rfl
  have c3:DN (ts.map V.str) none (some (-1))=G.map V.str:=by rw[ad];exact Vx V.str G last
  walk_at "2";refine⟨d,_,rfl,AH.of (s5 _ _ hd),λW J=>?_⟩;rw[c3];have Y:=AV J (.lst (G.map V.str));have g1:upd H5 W (.lst (G.map V.str)) W=some (.lst (G.map V.str)):=AA;generalize upd H5 W (.lst (G.map V.str))=J1 at Y g1⊢;refine call (s5.trans Y) g1 (by lia) (λx hx=>al x (by rw[ad];exact Cw _ hx)) λw6 H6 ao aP=>?_
  have aO:∀j,j<G.length->ts[j]?=G[j]?:=λj hj=>by rw[ad,Bz hj]
  rw[Qo aO (by lia) (by lia),Eb]at aP
  obtain⟨t7,rfl,ax⟩:=aP;rw[show((G.length:Nat):Int)=(ts.length:Int)-1 by lia]at ax
  have s6:=(s5.trans Y).trans ao;walk_at "2";refine⟨d,_,rfl,.inl (AH.of (s6 _ _ hd)),?_⟩;rw[A6];walk_at "2";refine λt8 aS=>?_
  have aU:=AV aS (.tup [.int ((ts.length:Int)-1),.int 0]);refine⟨_,_,dt (aU _ _ ax),dt AA,d2,?_⟩;have s7:=s6.trans aU;generalize upd H6 t8 (.tup [.int ((ts.length:Int)-1),.int 0])=H7 at s7⊢;rw[show PyData.eqv (.tuple [.int ((ts.length:Int)-1),.int ((0:Nat):Int)]) (.tuple [.int ((ts.length:Int)-1),.int 0])=true from ed];refine⟨_,rfl,?_⟩;refine AR ?_;clear aO g1 Y J ax aS;walk_at "2";refine⟨d,_,rfl,AH.of (s7 _ _ hd),λW J=>?_⟩;rw[c1];have Y:=AV J (.lst ((ts.take i).map V.str));have g1:upd H7 W (.lst ((ts.take i).map V.str)) W=some (.lst ((ts.take i).map V.str)):=AA;generalize upd H7 W (.lst ((ts.take i).map V.str))=J1 at Y g1⊢;have aQ:=(s7.trans Y) _ _ hd;clear J;walk_at "2";refine⟨d,_,_,_,rfl,rfl,AH.of aQ,aj (),?_⟩;walk_at "2";refine⟨DD (by rw[show("a":Str).length=1 by decide];lia),?_⟩;have ha:(t++("a":Str)).cps.toList=t.cps.toList++[97]:=EU _ _;generalize t++("a":Str)=ta at ha⊢;have la:ta.cps.toList.length<=100:=by
   rw[ha,Aa];show _+1<=_
   lia
  have bd:cp t.cps.toList ta.cps.toList=t.cps.toList.length:=by rw[ha];exact Tv _ _
  have a1:t≠ta:=λz=>by
   have:=Bs (λx:Str=>x.cps.toList.length) z;have this:t.cps.toList.length=ta.cps.toList.length:=this;rw[ha,Aa]at this
   have this:t.cps.toList.length=t.cps.toList.length+1:=this
   lia
  walk_at "2";refine λq2 aa=>?_
  have r2:=AV aa (.lst [.str ta]);have g2:upd J1 q2 (.lst [.str ta]) q2=some (.lst [.str ta]):=AA;generalize upd J1 q2 (.lst [.str ta])=J2 at r2 g2⊢;refine⟨W,q2,_,_,rfl,rfl,r2 _ _ g1,g2,DD (by rw[A6,Al];show _+1<=_;lia),λq3 ag=>?_⟩;have r3:=AV ag (.lst ((ts.take i).map V.str++[.str ta]));have g3:upd J2 q3 (.lst ((ts.take i).map V.str++[.str ta])) q3=some (.lst ((ts.take i).map V.str++[.str ta])):=AA;generalize upd J2 q3 (.lst ((ts.take i).map V.str++[.str ta]))=J3 at r3 g3⊢;have ac:=Y.trans (r2.trans r3);walk_at "2";refine⟨d,_,rfl,AH.of ((s7.trans ac) _ _ hd),λq4 ai=>?_⟩;rw[c2];have r4:=AV ai (.lst ((ts.drop (i+1)).map V.str));have g4:upd J3 q4 (.lst ((ts.drop (i+1)).map V.str)) q4=some (.lst ((ts.drop (i+1)).map V.str)):=AA;generalize upd J3 q4 (.lst ((ts.drop (i+1)).map V.str))=J4 at r4 g4⊢;refine⟨q3,q4,_,_,rfl,rfl,r4 _ _ g3,g4,DD (by rw[Aa,A6,A6,Al,Bx];show _+1+_<=_;lia),λq5 ah=>?_⟩;have el:(ts.take i).map V.str++[V.str ta]++(ts.drop (i+1)).map V.str=(ts.take i++[ta]++ts.drop (i+1)).map V.str:=by
   rw[Ah,Ah];rfl
  rw[el];have r5:=AV ah (.lst ((ts.take i++[ta]++ts.drop (i+1)).map V.str));have g5:upd J4 q5 (.lst ((ts.take i++[ta]++ts.drop (i+1)).map V.str)) q5=some (.lst ((ts.take i++[ta]++ts.drop (i+1)).map V.str)):=AA;generalize upd J4 q5 (.lst ((ts.take i++[ta]++ts.drop (i+1)).map V.str))=J5 at r5 g5⊢;have af:=ac.trans (r4.trans r5);obtain⟨k1,k2⟩:=aq la;obtain⟨m1,m2⟩:=Yd (ts:=ts) (i:=i) (y:=ta) ar;refine call (s7.trans af) g5 k1 k2 λw8 H8 bb aC=>?_
  rw[Qn m1 ap m2 a1,Eb,bd,ba]at aC
  obtain⟨t9,rfl,a6⟩:=aC;have s8:=(s7.trans af).trans bb;clear m1 m2 g5 r5 g4 r4 g3 r3 g2 r2 g1 Y aa ag ai ah ac aQ;have a2:=s8 _ _ hd;walk_at "2";refine⟨d,_,_,_,rfl,rfl,AH.of a2,aj (),?_⟩;refine⟨t,rfl,DD (by lia),?_⟩;walk_at "2";refine λa5 aZ=>?_
  have aY:=AV aZ (.tup [.int (i:Int),.int (t.length:Int)]);refine⟨_,_,dt (aY _ _ a6),dt AA,d2,?_⟩;have s9:=s8.trans aY;generalize upd H8 a5 (.tup [.int (i:Int),.int (t.length:Int)])=H9 at s9⊢;rw[ed];refine⟨_,rfl,?_⟩;refine AR ?_;walk_at "2";refine λW J=>?_
  have Y:=AV J (.lst [.str "a"]);have g1:upd H9 W (.lst [.str "a"]) W=some (.lst [.str "a"]):=AA;generalize upd H9 W (.lst [.str "a"])=J1 at Y g1⊢;have az:=s9.trans Y;refine⟨d,W,_,_,rfl,rfl,az _ _ hd,g1,DD (by rw[A6];show _+1<=_;lia),λq2 aa=>?_⟩;have el:ts.map V.str++[V.str "a"]=(ts++[("a":Str)]).map V.str:=by rw[Ah];rfl
  rw[el];have r2:=AV aa (.lst ((ts++[("a":Str)]).map V.str));have g2:upd J1 q2 (.lst ((ts++[("a":Str)]).map V.str)) q2=some (.lst ((ts++[("a":Str)]).map V.str)):=AA;generalize upd J1 q2 (.lst ((ts++[("a":Str)]).map V.str))=J2 at r2 g2⊢;have bu:(ts++[("a":Str)]).length=ts.length+1:=by rw[Aa];rfl
  refine call (az.trans r2) g2 (by lia) (λx hx=>?_) λw9 Ha a' aN=>?_
  .rcases Az.mp hx with h|h
   .exact al x h
   .rw[Aj.mp h];exact l1
  rw[Qo (i:=ts.length) (λj hj=>by rw[Bz hj]) (by lia) (by lia),Eb]at aN
  obtain⟨tb,rfl,bi⟩:=aN;have aT:=(az.trans r2).trans a';walk_at "2";refine⟨d,_,rfl,.inl (AH.of (aT _ _ hd)),?_⟩;rw[A6];walk_at "2";refine λtc bj=>?_
  have aG:=AV bj (.tup [.int (ts.length:Int),.int 0]);refine⟨_,_,dt (aG _ _ bi),dt AA,d2,?_⟩;rw[show PyData.eqv (.tuple [.int (ts.length:Int),.int ((0:Nat):Int)]) (.tuple [.int (ts.length:Int),.int 0])=true from ed];exact q _ (aT.trans aG)
def AW(x:Str):Prop:=x.cps.toList.length<=90000/\∀c∈x.cps.toList,c<128
theorem AW.len(h:AW x):x.length<=90000:=by rw[<-show x.cps.toList.length=x.length from Au];exact h.1
theorem nE:∀c,c<128->(!(Builtin.Str.occurrences ("0123456789":Str) (sg c) 0 ("0123456789":Str).length 1).isEmpty)=Ni c:=by decide +kernel
def nF:Sp:=λvs H Q _=>∃x:Str,vs=[.str x]/\AW x/\∀H',AF H H'->Q (.bl (IP x)) H'
theorem nG(T:Tx K mg a):AJ P w K mg base BL 1 (a.f 28) (a.d 28) ["word"] nF:=by
 refine T.is_number.fn.ok jU (λvs H Q E h=>?_) (λac A outer s H vs Q E hr h=>?_)
 .obtain⟨x,rfl,_⟩:=h;rfl
 obtain⟨x,rfl,hx,q⟩:=h;have hl:x.cps.toList.length=x.length:=Au;have hsz:x.length<=sizeLine:=DD (by have:=hx.len;lia);have no:∀H',AF H H'->IP x=false->Q (.bl false) H':=λH' s e=>by rw[<-e];exact q H' s
 refine⟨_,(AL (NH (CF (PW.pt (L6 (BU KJ (CY LC rfl T.b_len DP (AC (pv 0) AG)) AN (BM _)) (L5 (BU EM (CA Ld (pv 0) AN (λ_ _=>rfl)) CD (BM _))))) (AQ (BK IB)) CP))
  (AQ (BK (JD (Ud Lz Lz AN (CY LC rfl T.b_len DP (AC (pv 0) AG)) AN) (KI (CY (ON K rfl rfl) rfl T.b_all UG (AC (GV rfl (OK (pv 0)) (BH.of (N':=["word","figure"]) (ms:=[]) (k:=1) (by rfl)) (λ_ _ _ _ _=>(BF (i:=1) (show List.Nodup (["word","figure"]:List Str)from by decide +kernel) rfl AM)) (λ_ _ _ _ _=>GG) (λ_ _ _ _ _=>(FM Ua (pv 1) (HS (v:=.str "0123456789") rfl T.g_FIGURES ⟨_,rfl⟩) (by with_unfolding_all rfl)))) AG))))))),?_⟩
 refine⟨λσ H2=>σ=[some (.str x)]/\H2=H/\(decide (1<x.cps.toList.length)&&decide (x.cps.toList[0]?=some 48))=false,?_,?_⟩
 .walk_at "4";try refine⟨hsz,?_⟩
  walk_at "4";by_cases hg:1<x.length
  .rw[Ae (show(1:Int)<(x.length:Int) by lia)];refine BB ?_;have e0:DJ x.cps.toList 0=some (x.cps.toList[0]'(by lia)):=EY (j:=0) (A7 (by lia));have W:x.cps.toList[0]?=some (x.cps.toList[0]'(by lia)):=A7 (by lia);generalize x.cps.toList[0]'(by lia)=c at e0 W;refine⟨_,rfl,?_⟩;refine⟨_,_,_,rfl,rfl,hsz,e0,?_⟩;walk_at "4";rw[show decide (V.str ({ cps:=#[c] }:Str)=V.str ("0":Str))=decide (c=48)from R3 (d:=48)];refine CG (λG=>?_) (λG=>?_)
   .have G:=Bc G;walk_at "4";refine no _ (AF.refl _) ?_;unfold IP;rw[W,G,Ae (show 1<x.cps.toList.length by lia)];rfl
   .refine⟨rfl,rfl,?_⟩;rw[W,Ai (λz=>G (Ae (Ap z))),Fz]
  .rw[Ai (show ¬(1:Int)<(x.length:Int) by lia)];refine AR ?_;refine⟨rfl,rfl,?_⟩;rw[Ai (show ¬1<x.cps.toList.length by lia),Dx]
 rintro σ H2 ⟨rfl,rfl,F⟩;have en:IP x=((decide (1<=x.cps.toList.length)&&decide (x.cps.toList.length<=4))&&x.cps.toList.all Ni):=by
  unfold IP;rw[F];rfl
 walk_at "4";try refine⟨hsz,?_⟩
 walk_at "4";by_cases h1:1<=x.length
 .rw[Ae (show(1:Int)<=(x.length:Int) by lia)];refine BB ?_;walk_at "4";by_cases h2:x.length<=4
  .rw[Ae (show(x.length:Int)<=(4:Int) by lia)];refine BB ?_;rw[Ae (show 1<=x.cps.toList.length by lia),Ae (show x.cps.toList.length<=4 by lia)]at en
   walk_at "4";intro D hD;refine OL (x:=x) (λj zs σ J=>∃(Y:Option V),σ=[some (.str x),Y]/\AF H2 J/\J D=some (.lst zs)/\zs=((x.cps.toList.take j).map Ni).map V.bl)
    ?_ ?_ ?_
   .exact⟨none,rfl,AV hD _,AA,rfl⟩
   .rintro j c zs σ J G aa ⟨Y,rfl,hs,Z,rfl⟩;have I:x.cps.toList[j]?=some c:=by rw[Ep];exact G
    walk_at "4";rw[nE c (hx.2 c (Ag I))];refine EN aa Z (by rw[A6,A6,Al];lia) ⟨_,rfl,DO hs hD,AA,?_⟩;rw[Ay,I,Ah,Ah];rfl
   .rintro zs σ J ⟨Y,rfl,hs,Z,rfl⟩;refine⟨D,_,rfl,AH.of Z,?_⟩;have e2:((x.cps.toList.take x.cps.size).map Ni).all id=IP x:=by
     rw[en,Ak (by rw[Au];exact Af _),Kb];rfl
    rw[e2];exact q _ hs
  .rw[Ai (show ¬(x.length:Int)<=(4:Int) by lia)];try refine AR ?_
   refine no _ (AF.refl _) ?_;rw[en,Ai (show ¬x.cps.toList.length<=4 by lia),Fz,Dx]
 .rw[Ai (show ¬(1:Int)<=(x.length:Int) by lia)];try refine AR ?_
  refine⟨_,rfl,?_⟩;try refine AR ?_
  refine no _ (AF.refl _) ?_;rw[en,Ai (show ¬1<=x.cps.toList.length by lia),Dx,Dx]
def nH:Sp:=λvs H Q _=>∃c:Nat,vs=[.str (sg c)]/\c<128/\Q (.bl (decide (c∈BR))) H
theorem nI(T:Tx K mg a):AJ P w K mg base BL 1 (a.f 3) (a.d 3) ["text"] nH:=by
 refine T.is_sign.fn.ok jK (λvs H Q E h=>?_) (λF A outer s H vs Q E I h=>?_)
 .obtain⟨c,rfl,_⟩:=h;rfl
 obtain⟨c,rfl,G,q⟩:=h;refine⟨_,(AQ (BK (JD (FM EM (CY LC rfl T.b_len DP (AC (pv 0) AG)) AN (BM _)) (KI (FM Ua (pv 0) (HS (v:=.str "abcdefghijklmnopqrstuvwxyz.,-'") rfl T.g_SIGNS ⟨_,rfl⟩) (by with_unfolding_all rfl)))))),?_⟩;walk_at "4";try refine⟨DD (by show 1<=_;decide),?_⟩
 walk_at "4";try refine BB ?_
 walk_at "4";rw[Cs.gX c G];exact q
def nJ:Sp:=λvs H Q _=>∃x:Str,vs=[.str x]/\AW x/\∀H',AF H H'->Q (.bl (HQ x)) H'
theorem nK(T:Tx K mg a):AJ P w K mg base BL 2 (a.f 29) (a.d 29) ["word"] nJ:=by
 have F:=@nI P w K mg base a T;refine T.is_set_word.fn.ok jV (λvs H Q E h=>?_) (λaa A outer s H vs Q E hr h=>?_)
 .obtain⟨x,rfl,_⟩:=h;rfl
 obtain⟨x,rfl,hx,q⟩:=h;have hl:x.cps.toList.length=x.length:=Au;have ac:=hx.1;have no:∀H',AF H H'->HQ x=false->Q (.bl false) H':=λH' s e=>by rw[<-e];exact q H' s
 have ev:∀y:Str,decide (V.str x=V.str y)=decide (x=y):=λy=>FP
 refine⟨_,(AQ (BK (JD (FM IT (pv 0) CD (BM _)) (JD (FM IT (pv 0) CD (BM _)) (KI (CY (ON K rfl rfl) rfl T.b_all UG (AC (GV rfl (OK (pv 0)) (BH.of (N':=["word","sign"]) (ms:=[]) (k:=1) (by rfl)) (λ_ _ _ _ _=>(BF (i:=1) (show List.Nodup (["word","sign"]:List Str)from by decide +kernel) rfl AM)) (λ_ _ _ _ _=>GG) (λ_ _ _ _ _=>(BN T.is_sign F hr rfl (AC (pv 1) AG)))) AG))))))),?_⟩;walk_at "4";rw[ev];by_cases h1:x=""
 .rw[Ae h1];try refine AR ?_
  refine no _ (AF.refl _) ?_;unfold HQ;rw[Ai (λz=>z h1),Dx,Dx]
 rw[Ai h1];try refine BB ?_
 walk_at "4";rw[ev];by_cases h2:x="end"
 .rw[Ae h2];try refine AR ?_
  refine no _ (AF.refl _) ?_;unfold HQ;rw[Ai (p:=x≠("end":Str)) (λz=>z h2),Fz,Dx]
 rw[Ai h2];try refine BB ?_
 walk_at "4";intro D hD;refine OL (x:=x) (λj zs σ I=>∃(J:Option V),σ=[some (.str x),J]/\AF H I/\I D=some (.lst zs)/\zs=((x.cps.toList.take j).map λc=>decide (c∈BR)).map V.bl)
  ?_ ?_ ?_
 .exact⟨none,rfl,AV hD _,AA,rfl⟩
 .rintro j c zs σ I hc Y ⟨J,rfl,Z,W,rfl⟩;have G:x.cps.toList[j]?=some c:=by rw[Ep];exact hc
  walk_at "4";refine⟨hx.2 c (Ag G),?_⟩;refine EN Y W (by rw[A6,A6,Al];lia) ⟨_,rfl,DO Z hD,AA,?_⟩;rw[Ay,G,Ah,Ah];rfl
 .rintro zs σ I ⟨J,rfl,Z,W,rfl⟩;refine⟨D,_,rfl,AH.of W,?_⟩;have e2:((x.cps.toList.take x.cps.size).map λc=>decide (c∈BR)).all id=HQ x:=by
   unfold HQ;rw[Ae h1,Ae (p:=x≠("end":Str)) h2,Ak (by rw[Au];exact Af _),Kb];rfl
  rw[e2];exact q _ Z
structure Ks(H:Hp)(wl:Addr)(ws:List Str):Prop where
 at_:H wl=some (.lst (ws.map V.str))
 few:ws.length<=90000
 ok:∀x∈ws,AW x
theorem Ks.same(h:Ks H wl ws)(s:AF H H'):Ks H' wl ws:=⟨s _ _ h.at_,h.few,h.ok⟩
theorem nL:AW "":=⟨by decide +kernel,λc F=>by rw[show("":Str).cps.toList=[] by decide]at F;cases F⟩
theorem Ks.hd(h:Ks H wl ws)(k:Nat):AW (Cp.hd ws k):=by
 unfold Cp.hd;cases e:ws[k]? with
 | none=>exact nL
 | some x=>exact h.ok x (Ag e)
def nM:Sp:=λvs H Q _=>∃(F:Addr) (ws:List Str) (n:Nat),vs=[.ref F,.int (n:Int)]/\Ks H F ws/\Q (.str (Cp.hd ws n)) H
theorem Tw(T:Tx K mg a):AJ P w K mg base BL 1 (a.f 30) (a.d 30) ["words","at"] nM:=by
 refine T.word_at.fn.ok jW (λvs H Q E h=>?_) (λI A outer s H vs Q E J h=>?_)
 .obtain⟨G,ws,n,rfl,_⟩:=h;rfl
 obtain⟨G,ws,n,rfl,W,q⟩:=h;refine⟨_,(AQ (BK (Nz (BU L8 (pv 1) (CY (EB K rfl) rfl T.b_len DP (AC (pv 0) AG)) (BM _)) (CA (DR K rfl) (pv 0) (pv 1) (λ_ _=>rfl)) CD))),?_⟩;walk_at "4";refine⟨G,_,rfl,.inl (AH.of W.at_),?_⟩;rw[A6];walk_at "4";by_cases h:n<ws.length
 .rw[Ae (show(n:Int)<(ws.length:Int) by lia)];refine BB ?_;have F:DJ (ws.map V.str) (n:Int)=some (.str (Cp.hd ws n)):=EY (by
   unfold Cp.hd;rw[Ax,A7 h];rfl)
  refine⟨_,rfl,?_⟩;refine⟨_,rfl,?_⟩;refine⟨G,_,_,_,rfl,rfl,AH.of W.at_,F,?_⟩;exact q
 .rw[Ai (show ¬(n:Int)<(ws.length:Int) by lia)];refine AR ?_;have e:Cp.hd ws n="":=by
   unfold Cp.hd;rw[Es (by lia)];rfl
  rw[e]at q
  exact q
def nN:Sp:=λvs H Q _=>∃(F:Addr) (ws:List Str) (m:Nat) (lo hi n:Int),vs=[.ref F,.int (m:Int),.int lo,.int hi]/\Ks H F ws/\FZ (Cp.hd ws m) lo hi=some n/\∀H',AF H H'->Q (.int n) H'
theorem Tz(T:Tx K mg a):AJ P w K mg base BL 2 (a.f 31) (a.d 31) ["words","at","low","high"] nN:=by
 have G:=@Tw P w K mg base a T;have F:=@nG P w K mg base a T;refine T.read_number.fn.ok Xu (λvs H Q E h=>?_) (λac A outer s H vs Q E J h=>?_)
 .obtain⟨Y,ws,m,lo,hi,n,rfl,_⟩:=h;rfl
 obtain⟨Y,ws,m,lo,hi,n,rfl,W,hn,q⟩:=h;obtain⟨h1,h2,h3,h4⟩:=SY hn;have Z:=W.hd m;have ht:=Cp.j9 h1;rw[<-h4]at ht
 have aa:=(Cp.SX h1).2;have hl:(Cp.hd ws m).cps.toList.length=(Cp.hd ws m).length:=Au;refine⟨_,(AL (BQ (i:=4) Xu.nd rfl AM (BN T.word_at G J rfl (AC (pv 0) (AC (pv 1) AG))))
  (AL (CF (PW.pt (Ny (Oj (IC (BN T.is_number F J rfl (AC (pv 4) AG)))) (Nx (Oj (Zj Lz Lz (pv 2) (JT WV rfl T.b_int OA (AC (pv 4) AG)) (pv 3)))))) (AQ Lv) CP)
  (AQ (BK (JT WV rfl T.b_int OA (AC (pv 4) AG)))))),?_⟩
 walk_at "4";refine⟨Y,ws,m,rfl,W,?_⟩;walk_at "4";first|intro H1 I|refine⟨Cp.hd ws m,rfl,Z,?_⟩;intro H1 I
 rw[h1];walk_at "4";refine⟨Cp.hd ws m,n,rfl,ht,by lia,?_⟩;walk_at "4";rw[Ae h2];try refine BB ?_
 walk_at "4";rw[Ae h3];walk_at "4";try refine AR ?_
 walk_at "4";refine⟨Cp.hd ws m,n,rfl,ht,by lia,?_⟩;exact q H1 I
def nO:Sp:=λvs H Q _=>∃(F:Addr) (ws:List Str) (m:Nat) (x:Str),vs=[.ref F,.int (m:Int),.str x]/\Ks H F ws/\Cp.hd ws m=x/\Q .non H
theorem Ye(T:Tx K mg a):AJ P w K mg base BL 2 (a.f 32) (a.d 32) ["words","at","word"] nO:=by
 have F:=@Tw P w K mg base a T;refine T.look_for.fn.ok jX (λvs H Q E h=>?_) (λY A outer s H vs Q E J h=>?_)
 .obtain⟨G,ws,m,x,rfl,_⟩:=h;rfl
 obtain⟨G,ws,m,x,rfl,W,I,q⟩:=h;refine⟨_,(AQ (CF (BU IT (BN T.word_at F J rfl (AC (pv 0) (AC (pv 1) AG))) (pv 2) (BM _)) (AQ Lv) CP)),?_⟩;walk_at "4";refine⟨G,ws,m,rfl,W,?_⟩;rw[I];walk_at "4";refine CG (λz=>absurd z ?_) (λ_=>?_)
 .rw[Ae rfl];exact B1
 exact q
def Yf(H:Hp)(e:Int)(b:HP)(H':Hp)(v:V):Prop:=∃t F,v=.ref t/\H' t=some (.tup [F,.int e])/\Jb.EG (λa=>H a≠none) H' F b
def TB(f:List Str->Cp.Rd HP):Sp:=λvs H Q _=>∃(F:Addr) (ws:List Str) (n:Nat) (b:HP) (k:Nat),vs=[.ref F,.int (n:Int)]/\Ks H F ws/\n<ws.length/\f (ws.drop n)=some (b,k)/\∀v H',AF H H'->Yf H ((n+k:Nat):Int) b H' v->Q v H'
theorem nP(T:Tx K mg a):AJ P w K mg base BL 3 (a.f 33) (a.d 33) ["words","at"] (TB Pd):=by
 have F:=@Tz P w K mg base a T;refine T.read_measure.fn.ok jY (λvs H Q E h=>?_) (λaa A outer s H vs Q E hr h=>?_)
 .obtain⟨wl,ws,n,b,k,rfl,_⟩:=h;rfl
 obtain⟨wl,ws,n,b,k,rfl,W,ac,hf,q⟩:=h;unfold Pd at hf;obtain⟨m,hm,e⟩:=B6.mp hf;rw[Lp]at hm
 cases e;refine⟨_,(AQ (BK (EE (AC (EE (AC CD (AC (BN T.read_number F hr rfl (AC (pv 0) (AC (AU DG (pv 1) AN) (AC AN (AC AN AG))))) AG))) (AC (AU DG (pv 1) AN) AG))))),?_⟩;walk_at "4";refine⟨wl,ws,n+1,1,2000,m,rfl,W,hm,λH1 J=>?_⟩;walk_at "4";intro I Y;have Z:=AV Y (.tup [.str "measure",.int m]);have h2:upd H1 I (.tup [.str "measure",.int m]) I=some (.tup [.str "measure",.int m]):=AA;generalize upd H1 I (.tup [.str "measure",.int m])=H2 at Z h2⊢;walk_at "4";intro t2 G;exact q _ _ (J.trans (FN Z G)) ⟨t2,.ref I,rfl,AA,I,rfl,AV G _ _ _ h2⟩
theorem nQ(T:Tx K mg a):AJ P w K mg base BL 3 (a.f 34) (a.d 34) ["words","at"] (TB Nj):=by
 have F:=@Tz P w K mg base a T;refine T.read_gaps.fn.ok QP (λvs H Q E h=>?_) (λad A outer s H vs Q E hr h=>?_)
 .obtain⟨wl,ws,n,b,k,rfl,_⟩:=h;rfl
 obtain⟨wl,ws,n,b,k,rfl,W,ae,G,q⟩:=h;unfold Nj at G;cases e1:FZ (Cp.hd (ws.drop n) 1) 0 99 with
 | none=>rw[e1]at G;cases G
 | some lo =>
 rw[e1]at G
 dsimp only at G;cases e2:FZ (Cp.hd (ws.drop n) 2) lo 99 with
 | none=>rw[e2]at G;cases G
 | some ideal =>
 rw[e2]at G
 dsimp only at G;obtain⟨hi,e3,e⟩:=B6.mp G;rw[Lp]at e1 e2 e3
 cases e;refine⟨_,(AL (BQ (i:=2) QP.nd rfl AM (BN T.read_number F hr rfl (AC (pv 0) (AC (AU DG (pv 1) AN) (AC AN (AC AN AG))))))
  (AL (BQ (i:=3) QP.nd rfl AM (BN T.read_number F hr rfl (AC (pv 0) (AC (AU DG (pv 1) AN) (AC (pv 2) (AC AN AG))))))
  (AL (BQ (i:=4) QP.nd rfl AM (BN T.read_number F hr rfl (AC (pv 0) (AC (AU DG (pv 1) AN) (AC (pv 3) (AC AN AG))))))
  (AQ (BK (EE (AC (EE (AC CD (AC (pv 2) (AC (pv 3) (AC (pv 4) AG))))) (AC (AU DG (pv 1) AN) AG)))))))),?_⟩
 walk_at "4";refine⟨wl,ws,n+1,0,99,lo,rfl,W,e1,λH1 I=>?_⟩;walk_at "4";refine⟨wl,ws,n+2,lo,99,ideal,rfl,W.same I,e2,λH2 Y=>?_⟩;walk_at "4";refine⟨wl,ws,n+3,ideal,99,hi,rfl,W.same (I.trans Y),e3,λH3 aa=>?_⟩;walk_at "4";intro Z ac;have s2:=AV ac (.tup [.str "gaps",.int lo,.int ideal,.int hi]);have h2:upd H3 Z (.tup [.str "gaps",.int lo,.int ideal,.int hi]) Z=some (.tup [.str "gaps",.int lo,.int ideal,.int hi]):=AA;generalize upd H3 Z (.tup [.str "gaps",.int lo,.int ideal,.int hi])=H4 at s2 h2⊢;walk_at "4";intro t2 J;exact q _ _ ((I.trans (Y.trans aa)).trans (FN s2 J)) ⟨t2,.ref Z,rfl,AA,Z,rfl,AV J _ _ _ h2⟩
theorem Yg:HQ ""=false:=by decide +kernel
theorem nR(h1:∀i,i<k->HQ (Cp.hd r i)=true)(h2:HQ (Cp.hd r k)=false):(r.takeWhile HQ)=r.take k/\(r.takeWhile HQ).length=k:=by
 induction r generalizing k with
 | nil =>
   cases k with
   | zero=>exact⟨rfl,rfl⟩
   | succ k =>
     have:=h1 0 (Jf _);rw[show Cp.hd [] 0="" from rfl,Yg]at this
     cases this
 | cons x r ih =>
   cases k with
   | zero =>
     have h2:HQ x=false:=h2;rw[Fl,h2];exact⟨rfl,rfl⟩
   | succ k =>
     have F:HQ x=true:=h1 0 (Jf _);obtain⟨G,I⟩:=ih (k:=k) (λi hi=>h1 (i+1) (by lia)) h2;rw[Fl,F];exact⟨by show x::_=x::_;rw[G],by show _+1=_;rw[I]⟩
theorem nS(T:Tx K mg a):AJ P w K mg base BL 3 (a.f 35) (a.d 35) ["words","at"] (TB O0):=by
 have I:=@Tw P w K mg base a T;have F:=@nK P w K mg base a T;have G:=@Ye P w K mg base a T;refine T.read_set.fn.ok Tf (λvs H Q E h=>?_) (λan A outer s H vs Q E hr h=>?_)
 .obtain⟨wl,ws,n,b,k,rfl,_⟩:=h;rfl
 obtain⟨wl,ws,n,b,k,rfl,W,aj,Y,q⟩:=h;have al:=W.few;refine⟨_,(AL (BQ (i:=2) Tf.nd rfl AM (AU DG (pv 1) AN))
  (AL (Md Bb (IC (BN T.is_set_word F hr rfl (AC (BN T.word_at I hr rfl (AC (pv 0) (AC (pv 2) AG))) AG))) (AQ (BQ (i:=2) Tf.nd rfl AM (AU DG (pv 2) AN))))
  (AL (CF (BU EM (pv 2) (AU DG (pv 1) AN) (BM _)) (AQ Lv) CP)
  (AL (EJ (BN T.look_for G hr rfl (AC (pv 0) (AC (pv 2) (AC CD AG)))))
  (AQ (BK (EE (AC (EE (AC CD (AC (Kh (Le K rfl) (pv 0) (IU (AU DG (pv 1) AN)) (IU (pv 2))) AG))) (AC (AU DG (pv 2) AN) AG))))))))),?_⟩
 walk_at "4";refine⟨λmm σ H3=>∃(e:Nat),mm=ws.length+1-(n+1+e)/\n+1+e<=ws.length/\σ=[some (.ref wl),some (.int (n:Int)),some (.int ((n+1+e:Nat):Int))]/\AF H H3/\∀i,i<e->HQ (Cp.hd ws (n+1+i))=true,
  ⟨_,0,rfl,aj,by rfl,AF.refl _,λi hi=>absurd hi (Cg _)⟩,?_⟩
 rintro mm σ H3 ⟨e,rfl,af,rfl,ad,Z⟩;have W3:=W.same ad;walk_at "4";refine⟨wl,ws,n+1+e,rfl,W3,?_⟩;refine⟨Cp.hd ws (n+1+e),rfl,W3.hd _,λH4 ah=>?_⟩;have J:=ad.trans ah;refine⟨_,rfl,?_⟩;refine CG (λc=>?_) (λc=>?_)
 .have ae:Cp.hd ws (n+1+e)≠"":=λz=>by rw[z,Yg]at c;cases c
  have ak:=O3 ae;refine⟨_,λam H' h=>h,?_⟩;walk_at "4";refine⟨_,by lia,e+1,rfl,by lia,by rw[show n+1+(e+1)=n+1+e+1 from rfl];rfl,J,λi hi=>?_⟩;by_cases z:i=e
  .rw[z];exact c
  .exact Z i (by lia)
 .have c:HQ (Cp.hd ws (n+1+e))=false:=by
   cases z:HQ (Cp.hd ws (n+1+e))with
   | false=>rfl
   | true=>exact absurd z c
  obtain⟨a1,a2⟩:=nR (r:=(ws.drop n).drop 1) (k:=e) (λi hi=>by rw[Lp,Lp,<-Gk];exact Z i hi) (by rw[Lp,Lp,<-Gk];exact c);have a1:EH (ws.drop n)=((ws.drop n).drop 1).take e:=a1;have a2:(EH (ws.drop n)).length=e:=a2;unfold O0 at Y;by_cases z0:EH (ws.drop n)=[]
  .rw[Ar z0]at Y;cases Y
  rw[Aq z0]at Y
  by_cases z1:¬Cp.hd (ws.drop n) ((EH (ws.drop n)).length+1)="end"
  .rw[Aq z1]at Y;cases Y
  have z1:=Hy.mp z1;rw[Ar z1]at Y
  have Y:=Ap Y;have e0:e≠0:=λz=>z0 (Do.mp (by rw[a2,z]))
  rw[a2,Lp,show n+(e+1)=n+1+e by lia]at z1
  have W4:=W.same J;walk_at "4";refine CG (λz=>?_) (λ_=>?_)
  .exfalso;have z:=Bc z;have z:=V.int.inj z
   lia
  walk_at "4";refine⟨wl,ws,n+1+e,"end",rfl,W4,z1,?_⟩;walk_at "4";refine⟨wl,_,rfl,AH.of W4.at_,λp1 aa=>?_⟩;have ac:DN (ws.map V.str) (some ((n:Int)+1)) (some ((n+1+e:Nat):Int))=(EH (ws.drop n)).map V.str:=by
   rw[show(n:Int)+1=((n+1:Nat):Int) by lia,Ve V.str ws (n+1) (n+1+e) af,a1,Ju,List.drop_take];congr 1
   rw[show n+1+e-(n+1)=e by lia]
  rw[ac];have s5:=AV aa (.lst ((EH (ws.drop n)).map V.str));have h5:upd H4 p1 (.lst ((EH (ws.drop n)).map V.str)) p1=some (.lst ((EH (ws.drop n)).map V.str)):=AA;generalize upd H4 p1 (.lst ((EH (ws.drop n)).map V.str))=H5 at s5 h5⊢;walk_at "4";intro t1 ai;have s6:=AV ai (.tup [.str "set",.ref p1]);have h6:upd H5 t1 (.tup [.str "set",.ref p1]) t1=some (.tup [.str "set",.ref p1]):=AA;generalize upd H5 t1 (.tup [.str "set",.ref p1])=H6 at s6 h6⊢;walk_at "4";intro t2 ag;have s7:=AV ag (.tup [.ref t1,.int (((n+1+e:Nat):Int)+1)]);rw[show b=.st (EH (ws.drop n))from(Bs Prod.fst Y).symm]at q
  have ek:k=e+2:=by rw[<-show _=k from Bs Prod.snd Y,<-a2]
  refine q _ _ (J.trans (s5.trans (s6.trans s7))) ⟨t2,.ref t1,rfl,?_,t1,p1,rfl,s7 _ _ h6,λz=>z (J.free aa),s7 _ _ (s6 _ _ h5)⟩;rw[AA,ek];show some (HO.tup [V.ref t1,V.int (((n+1+e:Nat):Int)+1)])=_;rw[show((n+1+e:Nat):Int)+1=((n+(e+2):Nat):Int) by lia]
def Pu(d:Nat):Sp:=λvs H Q _=>∃(G:Addr) (ws:List Str) (n:Nat) (js:List (CS d)) (k:Nat),vs=[.ref G,.int (n:Int),.int ((4-d:Nat):Int)]/\Ks H G ws/\n<=ws.length/\d<=4/\FG d (ws.drop n)=some (js,k)/\(∀j∈js,HH d j) /\
 ∀(t F:Addr) (xs:List V) H',AF H H'->H' t=some (.tup [.ref F,.int ((n+k:Nat):Int)])->H F=none->H' F=some (.lst xs)->Paired (Jb.BO (λa=>a=F\/H a≠none) H' d) xs js->Q (.ref t) H'
def Yh(d:Nat):Sp:=λvs H Q _=>∃(F:Addr) (ws:List Str) (n:Nat) (j:CS d) (k:Nat),vs=[.ref F,.int (n:Int),.int ((4-d:Nat):Int)]/\Ks H F ws/\n<ws.length/\d<=4/\IR d (ws.drop n)=some (j,k)/\HH d j /\
 ∀(t:Addr) (G:V) H',AF H H'->H' t=some (.tup [G,.int ((n+k:Nat):Int)])->Jb.BO (λa=>H a≠none) H' d G j->Q (.ref t) H'
def Yi(d:Nat):Sp:=λvs H Q _=>∃(F:Addr) (ws:List Str) (n:Nat) (m:Nat) (js:List (CS d)) (k:Nat),vs=[.ref F,.int (n:Int),.int ((4-(d+1):Nat):Int)]/\Ks H F ws/\d+1<=4/\Nk (λr=>FG d r) (ws.drop n)=some ((m,js),k)/\HH (d+1) (Sum.inr (m,js)) /\
 ∀(t:Addr) (G:V) H',AF H H'->H' t=some (.tup [G,.int ((n+k:Nat):Int)])->Jb.BO (λa=>H a≠none) H' (d+1) G (Sum.inr (m,js))->Q (.ref t) H'
theorem nT(T:Tx K mg a)(hL:2<=L)(G_read_jobs:AJ P w K mg base BL L (a.f 38) (a.d 38) ["words","at","brackets"] (Pu d)):AJ P w K mg base BL (L+1) (a.f 36) (a.d 36) ["words","at","brackets"] (Yi d):=by
 have G:=@Tz P w K mg base a T;have F:=@Ye P w K mg base a T;refine T.read_times.fn.ok QQ (λvs H Q E h=>?_) (λam A outer s H vs Q E hr h=>?_)
 .obtain⟨wl,ws,n,m,js,k,rfl,_⟩:=h;rfl
 obtain⟨wl,ws,n,m,js,k,rfl,W,ao,I,gd,q⟩:=h;unfold Nk at I;cases e1:FZ (Cp.hd (ws.drop n) 0) 1 9 with
 | none=>rw[e1]at I;cases I
 | some mm =>
 rw[e1]at I
 dsimp only at I;by_cases Y:¬(Cp.hd (ws.drop n) 1="times"/\Cp.hd (ws.drop n) 2="(")
 .rw[Aq Y]at I;cases I
 have Y:=Hy.mp Y;rw[Ar Y]at I
 cases e3:FG d ((ws.drop n).drop 3)with
 | none=>rw[e3]at I;cases I
 | some z =>
 obtain⟨ai,k'⟩:=z;rw[e3]at I
 dsimp only at I;by_cases e4:ai=[]
 .rw[Ar e4]at I;cases I
 rw[Aq e4]at I
 by_cases e5:¬Cp.hd (ws.drop n) (3+k')=")"
 .rw[Aq e5]at I;cases I
 have e5:=Hy.mp e5;rw[Ar e5]at I
 cases I;have al:=SY e1;have ag:((mm.toNat:Nat):Int)=mm:=by lia
 obtain⟨Y,aa⟩:=Y;rw[Lp]at e1 Y aa e5
 rw[Ju]at e3
 rw[Kd]at e1
 have ap:n+2<ws.length:=O3 (λz=>absurd (aa.symm.trans z) (by decide +kernel));obtain⟨g1,g2,g3,g4,g5⟩:=gd;refine⟨_,(AL (BQ (i:=3) QQ.nd rfl AM (BN T.read_number G hr rfl (AC (pv 0) (AC (pv 1) (AC AN (AC AN AG)))) (hjk:=by lia)))
  (AL (EJ (BN T.look_for F hr rfl (AC (pv 0) (AC (AU DG (pv 1) AN) (AC CD AG))) (hjk:=by lia)))
  (AL (EJ (BN T.look_for F hr rfl (AC (pv 0) (AC (AU DG (pv 1) AN) (AC CD AG))) (hjk:=by lia)))
  (AL (CF (BU EM (pv 2) (HS (v:=.int 4) rfl T.g_MOST_BRACKETS ⟨_,rfl⟩) (BM _)) (AQ Lv) CP)
  (AL (IG (BN T.read_jobs G_read_jobs hr rfl (AC (pv 0) (AC (AU DG (pv 1) AN) (AC (AU DG (pv 2) AN) AG))) (hjk:=by lia)) (FO K rfl (n:=2) rfl (BY (BF (i:=4) QQ.nd rfl AM) (BY (BF (i:=5) QQ.nd rfl AM) FL))))
  (AL (CF (BU EM (CY (EB K rfl) rfl T.b_len DP (AC (pv 4) AG)) AN (BM _)) (AQ Lv) CP)
  (AL (EJ (BN T.look_for F hr rfl (AC (pv 0) (AC (pv 5) (AC CD AG))) (hjk:=by lia)))
  (AQ (BK (EE (AC (EE (AC CD (AC (pv 3) (AC (pv 4) AG)))) (AC (AU DG (pv 5) AN) AG)))))))))))),?_⟩
 walk_at "4";refine⟨wl,ws,n,1,9,mm,rfl,W,e1,λH1 J=>?_⟩;have W1:=W.same J;walk_at "4";refine⟨wl,ws,n+1,"times",rfl,W1,Y,?_⟩;walk_at "4";refine⟨wl,ws,n+2,"(",rfl,W1,aa,?_⟩;walk_at "4";refine CG (λz=>?_) (λ_=>?_)
 .exfalso;have z:=V.int.inj (Bc z)
  lia
 walk_at "4";refine⟨wl,ws,n+3,js,k',by rw[show((4-d:Nat):Int)=((4-(d+1):Nat):Int)+1 by lia];rfl,W1,by lia,by lia,e3,g5,λt jl xs H2 ac ht af Z ad=>?_⟩;refine⟨_,_,rfl,BP.of ht,rfl,?_⟩;walk_at "1";walk_at "1";have W2:=W1.same ac;have an:=Bh ad;walk_at "4";refine⟨jl,_,rfl,.inl (AH.of Z),?_⟩;walk_at "4";refine CG (λz=>?_) (λ_=>?_)
 .exfalso;have z:=V.int.inj (Bc z);exact e4 (Do.mp (by lia))
 walk_at "4";refine⟨wl,ws,n+3+k',")",rfl,W2,by rw[Gk];exact e5,?_⟩;walk_at "4";intro t1 aj;have s3:=AV aj (.tup [.str "times",.int mm,.ref jl]);have h3:upd H2 t1 (.tup [.str "times",.int mm,.ref jl]) t1=some (.tup [.str "times",.int mm,.ref jl]):=AA;generalize upd H2 t1 (.tup [.str "times",.int mm,.ref jl])=H3 at s3 h3⊢;walk_at "4";intro t2 ah;have s4:=AV ah (.tup [.ref t1,.int (((n+3+k':Nat):Int)+1)]);refine q t2 (.ref t1) _ (J.trans (ac.trans (s3.trans s4))) ?_ ?_
 .rw[AA];show some (HO.tup [V.ref t1,V.int (((n+3+k':Nat):Int)+1)])=_;rw[show((n+3+k':Nat):Int)+1=((n+(4+k'):Nat):Int) by lia]
 .have ae:=s3.trans s4;have ak:=J.trans ac;refine⟨by lia,by lia,t1,jl,xs,rfl,by rw[ag];exact s4 _ _ h3,λz=>z (J.free af),ae _ _ Z,Paired.mapP ad λ_ _ z=>Jb.BO.same (.of ae) d (Jb.BO.weak (λb hb=>.inr λy=>hb (J.free y)) d z)⟩
theorem Yj{ws:List Str}{n:Nat}(h:n<ws.length):DJ (ws.map V.str) (n:Int)=some (.str (Cp.hd ws n)):=EY (by
 unfold Cp.hd;rw[Ax,A7 h];rfl)
theorem Yk(T:Tx K mg a){L d:Nat}(hL:3<=L){ac:Sp}(hT:∀(d':Nat),d=d'+1->∀vs H Q E,Yi d' vs H Q E->ac vs H Q E)
 (G_read_times:AJ P w K mg base BL L (a.f 36) (a.d 36) ["words","at","brackets"] ac):AJ P w K mg base BL (L+1) (a.f 37) (a.d 37) ["words","at","brackets"] (Yh d):=by
 have F:=@nP P w K mg base a T;have I:=@nQ P w K mg base a T;have J:=@nS P w K mg base a T;refine T.read_job.fn.ok jZ (λvs H Q E h=>?_) (λae A outer s H vs Q E hr h=>?_)
 .obtain⟨Z,ws,n,j,k,rfl,_⟩:=h;rfl
 obtain⟨Z,ws,n,j,k,rfl,W,Y,ad,hf,gd,q⟩:=h;have ev:∀x y:Str,decide (V.str x=V.str y)=decide (x=y):=λx y=>FP
 have aa:=Yj Y;have e0:Cp.hd (ws.drop n) 0=Cp.hd ws n:=by rw[Lp];rfl
 have bas:∀b,JV (ws.drop n)=some (b,k)->(∀{M:Addr->Prop}{H':Hp}{v:V},Jb.EG M H' v b->Jb.BO M H' d v j)->∀v H',AF H H'->Yf H ((n+k:Nat):Int) b H' v->Q v H':=λb _ mk v H' s ⟨t,v1,e,h1,h2⟩=>by
  rw[e];exact q t v1 H' s h1 (mk h2)
 have view:(∃b,JV (ws.drop n)=some (b,k)/\∀{M:Addr->Prop}{H':Hp}{v:V},Jb.EG M H' v b->Jb.BO M H' d v j)\/(LX (ws.drop n)=false/\∃d' m js,∃e:d=d'+1,Nk (λr=>FG d' r) (ws.drop n)=some ((m,js),k)/\HEq j (Sum.inr (m,js):CS (d'+1))):=by
  cases d with
  | zero=>exact .inl ⟨j,hf,λz=>z⟩
  | succ d' =>
    unfold IR at hf;by_cases hb:LX (ws.drop n)=true
    .rw[Ar hb]at hf
     obtain⟨z,hz,e⟩:=B6.mp hf;cases e;exact .inl ⟨z.1,hz,λy=>y⟩
    .rw[Aq hb]at hf
     obtain⟨z,hz,e⟩:=B6.mp hf;cases e;exact .inr ⟨Bool.eq_false_iff.mpr hb,d',z.1.1,z.1.2,rfl,hz,HEq.rfl⟩
 refine⟨_,(AL (CF (BU EM (CA (DR K rfl) (pv 0) (pv 1) (λ_ _=>rfl)) CD (BM _)) (AQ (BK (BN T.read_measure F hr rfl (AC (pv 0) (AC (pv 1) AG)) (hjk:=by lia)))) CP)
  (AL (CF (BU EM (CA (DR K rfl) (pv 0) (pv 1) (λ_ _=>rfl)) CD (BM _)) (AQ (BK (BN T.read_gaps I hr rfl (AC (pv 0) (AC (pv 1) AG)) (hjk:=by lia)))) CP)
  (AL (CF (BU EM (CA (DR K rfl) (pv 0) (pv 1) (λ_ _=>rfl)) CD (BM _)) (AQ (BK (BN T.read_set J hr rfl (AC (pv 0) (AC (pv 1) AG)) (hjk:=by lia)))) CP)
  (AQ (BK (BN T.read_times G_read_times hr rfl (AC (pv 0) (AC (pv 1) (AC (pv 2) AG))) (hjk:=by lia))))))),?_⟩
 walk_at "4";try refine⟨Z,_,_,_,rfl,rfl,AH.of W.at_,aa,?_⟩
 walk_at "4";rw[ev];by_cases h1:Cp.hd ws n="measure"
 .rw[Ae h1];refine BB ?_;rcases view with⟨b,hb,mk⟩|⟨hb,_⟩
  .have G:=hb;unfold JV at G;rw[e0,Ar h1]at G
   walk_at "4";exact⟨Z,ws,n,b,k,rfl,W,Y,G,bas b hb mk⟩
  .unfold LX at hb;rw[e0,Ae h1]at hb
   cases hb
 rw[Ai h1];refine AR ?_;walk_at "4";try refine⟨Z,_,_,_,rfl,rfl,AH.of W.at_,aa,?_⟩
 walk_at "4";rw[ev];by_cases h2:Cp.hd ws n="gaps"
 .rw[Ae h2];refine BB ?_;rcases view with⟨b,hb,mk⟩|⟨hb,_⟩
  .have G:=hb;unfold JV at G;rw[e0,Aq h1,Ar h2]at G
   walk_at "4";exact⟨Z,ws,n,b,k,rfl,W,Y,G,bas b hb mk⟩
  .unfold LX at hb;rw[e0,Ai h1,Ae h2]at hb
   cases hb
 rw[Ai h2];refine AR ?_;walk_at "4";try refine⟨Z,_,_,_,rfl,rfl,AH.of W.at_,aa,?_⟩
 walk_at "4";rw[ev];by_cases h3:Cp.hd ws n="set"
 .rw[Ae h3];refine BB ?_;rcases view with⟨b,hb,mk⟩|⟨hb,_⟩
  .have G:=hb;unfold JV at G;rw[e0,Aq h1,Aq h2,Ar h3]at G
   walk_at "4";exact⟨Z,ws,n,b,k,rfl,W,Y,G,bas b hb mk⟩
  .unfold LX at hb;rw[e0,Ai h1,Ai h2,Ae h3]at hb
   cases hb
 rw[Ai h3];refine AR ?_;rcases view with⟨b,hb,mk⟩|⟨_,d',m,js,e,hz,hj⟩
 .exfalso;unfold JV at hb;rw[e0,Aq h1,Aq h2,Aq h3]at hb
  cases hb
 subst e;cases hj;walk_at "4";exact hT d' rfl _ _ _ _ ⟨Z,ws,n,m,js,k,rfl,W,ad,hz,gd,q⟩
theorem FT:JW (ws.drop n)=false↔n<ws.length/\Cp.hd ws n≠")":=by
 unfold JW;rw[Lp,Kd,Js,J0,J0,Gp];constructor
 .exact λ⟨h1,h2⟩=>⟨by lia,h2⟩
 .exact λ⟨h1,h2⟩=>⟨by lia,h2⟩
theorem Yl(T:Tx K mg a)(G_read_job:AJ P w K mg base BL L (a.f 37) (a.d 37) ["words","at","brackets"] (Yh d)):AJ P w K mg base BL (L+1) (a.f 38) (a.d 38) ["words","at","brackets"] (Pu d):=by
 refine T.read_jobs.fn.ok QR (λvs H Q E h=>?_) (λaw A outer s H vs Q E hr h=>?_)
 .obtain⟨wl,ws,n,js,k,rfl,_⟩:=h;rfl
 obtain⟨wl,ws,n,js,k,rfl,W,hn,aq,hf,gd,q⟩:=h;have ar:=W.few;have ev:∀x y:Str,decide (V.str x=V.str y)=decide (x=y):=λx y=>FP
 refine⟨_,(AL (BQ (i:=3) QR.nd rfl AM (DA AG))
  (AL (Md Bb (PW.pt (L6 (BU L8 (pv 1) (CY (EB K rfl) rfl T.b_len DP (AC (pv 0) AG)) (BM _)) (L5 (BU IT (CA (DR K rfl) (pv 0) (pv 1) (λ_ _=>rfl)) CD (BM _))))) (AL (IG (BN T.read_job G_read_job hr rfl (AC (pv 0) (AC (pv 1) (AC (pv 2) AG))) (hjk:=by lia)) (FO K rfl (n:=2) rfl (BY (BF (i:=4) QR.nd rfl AM) (BY (BF (i:=1) QR.nd rfl AM) FL))))
  (AQ (EJ (DX K rfl B7 Bi Bj JH (pv 3) (AC (pv 4) AG))))))
  (AQ (BK (EE (AC (pv 3) (AC (pv 1) AG))))))),?_⟩
 walk_at "4";intro I Y;have ai:=AV Y (.lst []);have h1:upd H I (.lst []) I=some (.lst []):=AA;generalize upd H I (.lst [])=H1 at ai h1⊢;walk_at "4";refine⟨λmm σ H3=>∃(e:Nat) (xs:List V) (ac Z:List (CS d)) (k2:Nat) (v4:Option V),mm=ws.length-(n+e)/\n+e<=ws.length/\σ=[some (.ref wl),some (.int ((n+e:Nat):Int)),some (.int ((4-d:Nat):Int)),some (.ref I),v4]/\AF H H3/\H3 I=some (.lst xs)/\Paired (Jb.BO (λa=>a=I\/H a≠none) H3 d) xs ac/\ac.length<=e/\js=ac++Z/\k=e+k2/\FG d (ws.drop (n+e))=some (Z,k2),
  ⟨_,0,[],[],js,k,none,rfl,hn,rfl,ai,h1,.nil,Af _,rfl,(Eb _).symm,hf⟩,?_⟩
 rintro mm σ H3 ⟨e,xs,ac,Z,k2,v4,rfl,ax,rfl,ad,J,ag,av,ah,ek,ao⟩;have W3:=W.same ad;have G:=Cp.T1 (d:=d) (r:=ws.drop (n+e));rw[ao]at G
 have done:JW (ws.drop (n+e))=true->∀t,H3 t=none->Q (.ref t) (upd H3 t (.tup [.ref I,.int ((n+e:Nat):Int)])):=λhs t ht=>by
  rw[Ar hs]at G
  have G:=Ap G;have e1:Z=[]:=Bs Prod.fst G;have e2:k2=0:=Bs Prod.snd G;have st:=AV ht (.tup [.ref I,.int ((n+e:Nat):Int)]);refine q t I xs _ (ad.trans st) ?_ Y (st _ _ J) (Paired.mapP ?_ λ_ _ z=>Jb.BO.same (.of st) d z)
  .rw[AA,ek,e2];rfl
  .rw[ah,e1,Av];exact ag
 walk_at "4";refine⟨wl,_,rfl,.inl (AH.of W3.at_),?_⟩;rw[A6];walk_at "4";by_cases ae:n+e<ws.length
 .rw[Ae (show((n+e:Nat):Int)<(ws.length:Int) by lia)];refine BB ?_;have am:=Yj ae;refine⟨_,rfl,?_⟩;refine⟨_,rfl,?_⟩;refine⟨wl,_,_,_,rfl,rfl,AH.of W3.at_,am,?_⟩;clear am;walk_at "4";rw[ev];by_cases hb:Cp.hd ws (n+e)=")"
  .rw[Ae hb];refine AR ?_;have hs:JW (ws.drop (n+e))=true:=by
    cases z:JW (ws.drop (n+e))with
    | true=>rfl
    | false=>exact absurd hb (FT.mp z).2
   walk_at "4";exact λt ht=>done hs t ht
  .rw[Ai hb];refine BB ?_;have hs:¬JW (ws.drop (n+e))=true:=λz=>by
    rw[FT.mpr ⟨ae,hb⟩]at z
    cases z
   rw[Aq hs]at G
   cases hj:IR d (ws.drop (n+e))with
   | none=>rw[hj]at G;cases G
   | some z =>
   obtain⟨j,kj⟩:=z;rw[hj]at G
   dsimp only at G;obtain⟨⟨ak,k3⟩,aj,e3⟩:=B6.mp G.symm;have al:=Cp.SZ d hj;rw[Bx]at al
   have e4:Z=j::ak:=(Bs Prod.fst e3).symm;have e5:k2=kj+k3:=(Bs Prod.snd e3).symm;have gj:HH d j:=gd j (by rw[ah,e4];exact Bk _ Ab);refine⟨_,λau H' h=>h,?_⟩;walk_at "4";refine⟨wl,ws,n+e,j,kj,rfl,W3,ae,aq,hj,gj,λt v1 H4 af ap an=>?_⟩;refine⟨_,_,rfl,BP.of ap,rfl,?_⟩;walk_at "1";walk_at "1";have aa:=af _ _ J;have ay:=Bh ag;walk_at "4";refine⟨.inl ⟨rfl,_,AH.of aa⟩,?_⟩;walk_at "4";refine⟨I,_,_,rfl,rfl,aa,IV (by lia),?_⟩;have su:Jb.DF (λa=>a=I\/H a≠none) H4 (upd H4 I (.lst (xs++[v1]))):=Jb.DF.upd aa (.inl rfl);have st:=(Jb.DF.of (N:=λa=>a=I\/H a≠none) af).trans su;refine⟨ws.length-(n+(e+kj)),by lia,e+kj,xs++[v1],ac++[j],ak,k3,_,rfl,by lia,by rw[<-Gk];rfl,DO (ad.trans af) Y,AA,Ce (Paired.mapP ag λ_ _ z=>Jb.BO.same st d z) (Jb.BO.same su d (Jb.BO.weak (λb hb=>?_) d an)),?_,?_,by lia,?_⟩
   .rcases hb with y|y
    .rw[y,J];exact λz=>(nomatch z)
    .exact λz=>y (ad.free z)
   .rw[Aa];show _+1<=_
    lia
   .rw[ah,e4,Ao];rfl
   .rw[Ju,Gk]at aj
    exact aj
 .rw[Ai (show ¬((n+e:Nat):Int)<(ws.length:Int) by lia)];refine AR ?_;have hs:JW (ws.drop (n+e))=true:=by
   cases z:JW (ws.drop (n+e))with
   | true=>rfl
   | false=>exact absurd (FT.mp z).1 ae
  walk_at "4";exact λt ht=>done hs t ht
theorem TC{P:Program}{w:World}{K:Frag}{mg:Str->Option Value}{base:Heap}:AJ P w K mg base CX k f fd ps (λ_ _ _ _=>False):=⟨λ_ _ _ _ h=>h.elim,λ_ _ _ _ _ _ _ _ _ _ _ _ _ h=>h.elim⟩
theorem nU(T:Tx K mg a):AJ P w K mg base BL 17 (a.f 38) (a.d 38) ["words","at","brackets"] (Pu 4):=by
 have F:∀{L d:Nat},2<=L->AJ P w K mg base BL L (a.f 38) (a.d 38) ["words","at","brackets"] (Pu d)->AJ P w K mg base BL (L+1+1+1) (a.f 38) (a.d 38) ["words","at","brackets"] (Pu (d+1)):=λ{L d} I G =>
  Yl T (Yk T (by lia) (λd' e vs H Q E h=>by cases e;exact h) (nT T I G))
 exact F (by lia) (F (by lia) (F (by lia) (F (by lia) (Yl T (Yk (L:=3) T (by decide) (λd' e=>absurd e (by lia)) TC)))))
def JY(x:Str):List Str:=if x="" then []else Txt.split x " "
def nV:Sp:=λvs H Q _=>∃(x:Str) (js:List (CS 4)),vs=[.str x]/\x.length<=80000/\(∀y∈JY x,AW y)/\Qz (JY x)=some js/\(∀j∈js,HH 4 j) /\
 ∀(F:Addr) (xs:List V) H',AF H H'->H F=none->H' F=some (.lst xs)->Paired (Jb.BO (λa=>a=F) H' 4) xs js->Q (.ref F) H'
theorem nW(T:Tx K mg a):AJ P w K mg base BL 18 (a.f 39) (a.d 39) ["text"] nV:=by
 have G:=@nU P w K mg base a T;refine T.read_copy.fn.ok QS (λvs H Q E h=>?_) (λag A outer s H vs Q E hr h=>?_)
 .obtain⟨x,js,rfl,_⟩:=h;rfl
 obtain⟨x,js,rfl,hx,hw,Z,gd,q⟩:=h;have ev:∀y:Str,decide (V.str x=V.str y)=decide (x=y):=λy=>FP
 have ac:(JY x).length<=90000:=by
  unfold JY;split
  .exact B9 _
  .have:=Vz x " "
   lia
 unfold Qz at Z;cases e1:FG 4 (JY x)with
 | none=>rw[e1]at Z;cases Z
 | some z =>
 obtain⟨ah,k⟩:=z;rw[e1]at Z
 dsimp only at Z;by_cases e2:k<(JY x).length
 .rw[Ar e2]at Z;cases Z
 rw[Aq e2]at Z
 cases Z;refine⟨_,(AL (NH (BQ (i:=1) QS.nd rfl AM (Nz (BU IT (pv 0) CD (BM _)) (DX K rfl Ba G8 G9 Sg (pv 0) (AC CD AG)) (DA AG))))
  (AL (IG (BN T.read_jobs G hr rfl (AC (pv 1) (AC AN (AC AN AG)))) (FO K rfl (n:=2) rfl (BY (BF (i:=2) QS.nd rfl AM) (BY (BF (i:=3) QS.nd rfl AM) FL))))
  (AL (CF (BU L8 (pv 3) (CY (EB K rfl) rfl T.b_len DP (AC (pv 1) AG)) (BM _)) (AQ Lv) CP)
  (AQ (BK (pv 2)))))),?_⟩
 refine⟨λσ H1=>∃J,σ=[some (.str x),some (.ref J),none,none]/\AF H H1/\H1 J=some (.lst ((JY x).map V.str)),?_,?_⟩
 .walk_at "4";rw[ev];by_cases Y:x=""
  .rw[Ae Y];refine AR ?_;walk_at "4";intro J I;refine⟨J,rfl,AV I _,?_⟩;rw[AA];unfold JY;rw[Ar Y];rfl
  .rw[Ai Y];refine BB ?_;walk_at "4";try refine⟨rfl,?_⟩
   walk_at "4";intro J I;refine⟨J,rfl,AV I _,?_⟩;rw[AA];unfold JY;rw[Aq Y]
 rintro σ H1 ⟨J,rfl,aa,I⟩;have W:Ks H1 J (JY x):=⟨I,ac,hw⟩
 walk_at "4";refine⟨J,JY x,0,js,k,rfl,W,B9 _,Af _,e1,gd,λt jl xs H2 ad ht ae af hp=>?_⟩;refine⟨_,_,rfl,BP.of ht,rfl,?_⟩;walk_at "1";walk_at "1";have W2:=W.same ad;walk_at "4";refine⟨J,_,rfl,.inl (AH.of W2.at_),?_⟩;rw[A6];walk_at "4";refine CG (λz=>?_) (λ_=>?_)
 .exfalso;have z:=Bc z
  lia
 walk_at "4";exact q jl xs H2 (aa.trans ad) (aa.free ae) af (Paired.mapP hp λ_ _ z=>Jb.BO.weak (λ_ y=>.inl y) 4 z)
structure JL(N:Addr->Prop)(H:Hp)(jl:Addr)(d:Nat)(xs:List V)(js:List (CS d)):Prop where
 at_:H jl=some (.lst xs)
 pd:Paired (Jb.BO N H d) xs js
 few:js.length<=1000
theorem JL.same{N:Addr->Prop}{H H':Hp}{F:Addr}{d:Nat}{xs:List V}{js:List (CS d)}(h:JL N H F d xs js)(s:AF H H'):JL N H' F d xs js:=⟨s _ _ h.at_,Paired.mapP h.pd λ_ _ z=>Jb.BO.same (.of s) d z,h.few⟩
theorem nX{N:Addr->Prop}{H:Hp}:∀(d:Nat) {v:V}{j:CS d},Jb.BO N H d v j->(∃b,Jb.EG N H v b/\(∀{M:Addr->Prop}{H':Hp}{G:V},Jb.EG M H' G b->Jb.BO M H' d G j)/\EI d j=CJ b/\(HH d j->Nh b)) \/
 ∃(d' n:Nat) (js:List (CS d')),d=d'+1/\n<=1000/\(∃t p xs,v=.ref t/\H t=some (.tup [.str "times",.int (n:Int),.ref p])/\¬N p/\JL N H p d' xs js)/\(∀{M:Addr->Prop}{H':Hp}{t p:Addr}{xs:List V},H' t=some (.tup [.str "times",.int (n:Int),.ref p])->¬M p->H' p=some (.lst xs)->Paired (Jb.BO M H' d') xs js->Jb.BO M H' d (.ref t) j)/\EI d j=[AK (n:Int),("times":Str),("(":Str)]++DC d' js++[(")":Str)]/\(HH d j->1<=n/\n<=9/\js≠[]/\js.length<=100/\∀j∈js,HH d' j)
 | 0,_,b,h=>.inl ⟨b,h,λz=>z,rfl,λz=>z⟩
 | _+1,_,.inl b,h=>.inl ⟨b,h,λz=>z,rfl,λz=>z⟩
 | d+1,_,.inr (n,js),⟨b1,F,t,p,xs,e,z,y,w,q⟩=>.inr ⟨d,n,js,rfl,b1,⟨t,p,xs,e,z,y,w,q,F⟩,λh1 h2 J I=>⟨b1,F,_,_,_,rfl,h1,h2,J,I⟩,rfl,λz=>z⟩
theorem nY{N:Addr->Prop}{H:Hp}{v:V}{b:HP}(h:Jb.EG N H v b)(g:Nh b):(∃ws,b=.st ws)\/∃(t:Addr) (nm:Str) (is:List Int),v=.ref t/\H t=some (.tup (.str nm::is.map V.int))/\nm≠"set"/\nm≠"times"/\is≠[]/\is.length<=3/\(∀i∈is,i.natAbs<100000)/\CJ b=nm::is.map AK:=by
 cases b with
 | ms n =>
   obtain⟨t,rfl,ht⟩:=h;refine .inr ⟨t,"measure",[n],rfl,ht,by decide +kernel,by decide +kernel,λz=>(nomatch z),by show 1<=3;decide,λi hi=>?_,rfl⟩;rw[Aj.mp hi];have G:=g.1;have F:=g.2
   lia
 | gp a b c =>
   obtain⟨t,rfl,ht⟩:=h;obtain⟨G,F,J,I⟩:=g;refine .inr ⟨t,"gaps",[a,b,c],rfl,ht,by decide +kernel,by decide +kernel,λz=>(nomatch z),by show 3<=3;decide,λi hi=>?_,rfl⟩;simp only[Am,Bf,D7]at hi;rcases hi with e|e|e<;>lia
 | st ws=>exact .inl ⟨ws,rfl⟩
theorem Ym:∀{ys:List Str},(∀x∈ys,x.length<=B)->(ys.map (·.length)).sum<=ys.length*B
 | [],_=>by show 0<=_;exact B9 _
 | y::ys,h=>by
   have h1:=h y Ab;have h2:=Ym (ys:=ys) λx F=>h x (Ac _ F)
   rw[Bq,Ec,B8,G0]
   lia
theorem R4{ys:List Str}{B:Nat}(h:∀x∈ys,x.length<=B)(G:ys.length<=1000)(hB:B<=14000):(ys.map (·.length)).sum+ys.length*(" ":Str).length<=16777216:=by
 have h1:=Ym h;have h2:ys.length*B<=1000*14000:=Nat.mul_le_mul G hB;have F:(" ":Str).length=1:=by decide +kernel
 rw[F]
 lia
theorem TF{x:Str}(h:TW x):x.length<=12:=by rw[<-show x.cps.toList.length=x.length from Au];exact h.l2
theorem TH{ws:List Str}(h:∀x∈ws,TW x)(F:ws.length<=1000):(AD ws).length<=13000:=by
 have:=Cp.Pa h;rw[<-show(AD ws).cps.toList.length=(AD ws).length from Au]
 lia
def Yn(d:Nat):Sp:=λF H Q _=>∃(v:V) (N:Addr->Prop) (j:CS d),F=[v]/\Jb.BO N H d v j/\HH d j/\(EI d j).length<=1000/\∀H',AF H H'->Q (.str (AD (EI d j))) H'
def Pw(d:Nat):Sp:=λF H Q _=>∃(G:Addr) (N:Addr->Prop) (xs:List V) (js:List (CS d)),F=[.ref G]/\JL N H G d xs js/\(∀j∈js,HH d j)/\(DC d js).length<=1000/\∀H',AF H H'->Q (.str (Cp.CZ d js)) H'
theorem Yo{d:Nat}{js:List (CS d)}{j:CS d}(h:j∈js):(EI d j).length<=(DC d js).length:=by
 induction js with
 | nil=>cases h
 | cons x js ih =>
   show _<=((x::js).flatMap (EI d)).length;rw[Dp,Aa];rcases Am.mp h with e|h
   .rw[e];lia
   .have:_<=(js.flatMap (EI d)).length:=ih h
    lia
theorem Yp(T:Tx K mg a){L d:Nat}(G_shown_job:AJ P w K mg base BL L (a.f 40) (a.d 40) ["job"] (Yn d)):AJ P w K mg base BL (L+1) (a.f 41) (a.d 41) ["jobs"] (Pw d):=by
 refine T.shown_copy.fn.ok k9 (λvs H Q E h=>?_) (λag A outer s H vs Q E hr h=>?_)
 .obtain⟨jl,N,xs,js,rfl,_⟩:=h;rfl
 obtain⟨jl,N,xs,js,rfl,J,gd,G,q⟩:=h;have ad:=Bh J.pd;have af:=J.few;have aa:∀x∈js.map (λj=>AD (EI d j)),x.length<=13000:=λx hx=>by
  obtain⟨j,hj,rfl⟩:=Bw.mp hx;exact TH (QC d j (gd j hj)) (B3 (Yo hj) G)
 refine⟨_,(AQ (BK (DX K rfl Ba Bm Bn (JI K rfl) CD (AC (GV rfl (FJ K rfl (pv 0)) (BH.of (N':=["jobs","job"]) (ms:=[]) (k:=1) (by rfl)) (λ_ _ _ _ _=>(BF (i:=1) (show List.Nodup (["jobs","job"]:List Str)from by decide +kernel) rfl AM)) (λ_ _ _ _ _=>GG) (λ_ _ _ _ _=>(BN T.shown_job G_shown_job hr rfl (AC (pv 1) AG) (hjk:=by lia)))) AG)))),?_⟩;walk_at "4";try refine⟨rfl,?_⟩
 walk_at "4";refine⟨⟨_,AH.of J.at_⟩,λD hD=>?_⟩;refine HB (a:=jl) (xs:=xs) (λk zs σ Y=>∃(v1:Option V),zs=((js.take k).map λj=>AD (EI d j)).map V.str/\σ=[some (.ref jl),v1]/\AF H Y/\Y D=some (.lst zs))
  ?_ ?_ ?_ ?_
 .exact⟨none,rfl,rfl,AV hD _,AA⟩
 .exact λk zs σ Y _ ⟨_,_,_,I,_⟩=>AH.of (I _ _ J.at_)
 .rintro k x zs σ Y hx ae ⟨v1,rfl,rfl,I,hh⟩;obtain⟨j,hj,ac⟩:=FU (J.same I).pd hx;have Z:=Ag hj;walk_at "4";refine⟨x,N,j,rfl,ac,gd j Z,B3 (Yo Z) G,λH7 W=>?_⟩;refine EN ae (W _ _ hh) (by rw[A6,A6,Al];lia) ⟨_,?_,rfl,DO (I.trans W) hD,AA⟩;rw[Ay,hj,Ah,Ah];rfl
 .rintro zs σ Y ⟨v1,rfl,rfl,I,hh⟩;rw[ad,Ak (Af _)]at hh
  refine⟨" ",D,_,rfl,rfl,AH.of hh,R4 aa (by rw[A6];lia) (by decide),?_⟩;have e:Txt.join " " (js.map λj=>AD (EI d j))=Cp.CZ d js:=by
   have:=QB (xss:=js.map (EI d)) λys hy=>by
    obtain⟨j,_,rfl⟩:=Bw.mp hy;exact T4 d j
   rw[Ff]at this
   have e2:(js.map (EI d)).flatten=DC d js:=(List.flatMap_def ..).symm;rw[e2]at this
   exact this
  rw[e];exact q _ I
theorem Yq(T:Tx K mg a){L d:Nat}{ac:Sp}(hT:∀(d':Nat),d=d'+1->∀vs H Q E,Pw d' vs H Q E->ac vs H Q E)
 (G_shown_copy:AJ P w K mg base BL L (a.f 41) (a.d 41) ["jobs"] ac):AJ P w K mg base BL (L+1) (a.f 40) (a.d 40) ["job"] (Yn d):=by
 refine T.shown_job.fn.ok k4 (λvs H Q E h=>?_) (λau A outer s H vs Q E hr h=>?_)
 .obtain⟨v,N,j,rfl,_⟩:=h;rfl
 obtain⟨v,N,j,rfl,hj,gj,I,q⟩:=h;have ev:∀x y:Str,decide (V.str x=V.str y)=decide (x=y):=λx y=>FP
 have W:=QC d j gj;refine⟨_,(AL (CF (BU EM (CA (IY K rfl) (pv 0) AN (λ_ _=>rfl)) CD (BM _)) (AQ (BK (DX K rfl Ba Bm Bn (JI K rfl) CD (AC (AU Ky (AU Ky (DA (AC CD AG)) (CA (IY K rfl) (pv 0) AN (λ_ _=>rfl))) (DA (AC CD AG))) AG)))) CP)
  (AL (CF (BU EM (CA (IY K rfl) (pv 0) AN (λ_ _=>rfl)) CD (BM _)) (AQ (BK (DX K rfl Ba Bm Bn (JI K rfl) CD (AC (DA (AC (JT Qy rfl T.b_str PQ (AC (CA (IY K rfl) (pv 0) AN (λ_ _=>rfl)) AG)) (AC CD (AC CD (AC (BN T.shown_copy G_shown_copy hr rfl (AC (CA (IY K rfl) (pv 0) AN (λ_ _=>rfl)) AG) (hjk:=by lia)) (AC CD AG)))))) AG)))) CP)
  (AQ (BK (DX K rfl Ba Bm Bn (JI K rfl) CD (AC (GV rfl (UO K rfl (pv 0)) (BH.of (N':=["job","part"]) (ms:=[]) (k:=1) (by rfl)) (λ_ _ _ _ _=>(BF (i:=1) (show List.Nodup (["job","part"]:List Str)from by decide +kernel) rfl AM)) (λ_ _ _ _ _=>GG) (λ_ _ _ _ _=>(JT jo rfl T.b_str PQ (AC (pv 1) AG)))) AG)))))),?_⟩
 walk_at "4";rcases nX d hj with⟨b,hb,_,tb,gb⟩|⟨d',n,G,ed,hn,⟨t,p,ah,rfl,ht,ao,J'⟩,_,tb,gb⟩
 .rw[tb]at I q W
  rcases nY hb (gb gj)with⟨ws,rfl⟩|⟨t,nm,is,rfl,ht,ak,an,ar,ag,af,te⟩
  .obtain⟨t,p,rfl,ht,aq,hp⟩:=hb;have ap:ws.length+2<=1000:=by
    have:(CJ (.st ws)).length=ws.length+2:=by
     show(("set":Str)::ws++[("end":Str)]).length=_;rw[Aa];rfl
    lia
   refine⟨t,_,_,_,rfl,rfl,BP.of ht,rfl,?_⟩;walk_at "4";try refine⟨rfl,?_⟩
   walk_at "4";intro p1 Y;have s1:=AV Y (.lst [V.str "set"]);have h1:upd H p1 (.lst [V.str "set"]) p1=some (.lst [V.str "set"]):=AA;generalize upd H p1 (.lst [V.str "set"])=Ha at s1 h1⊢;walk_at "4";refine⟨t,_,_,_,rfl,rfl,BP.of (s1 _ _ ht),rfl,?_⟩;refine⟨p1,p,_,_,rfl,rfl,h1,s1 _ _ hp,DD (by rw[A6];show 1+_<=_;lia),λp2 aj=>?_⟩;have s2:=AV aj (.lst ([V.str "set"]++ws.map V.str));have h2:upd Ha p2 (.lst ([V.str "set"]++ws.map V.str)) p2=some (.lst ([V.str "set"]++ws.map V.str)):=AA;generalize upd Ha p2 (.lst ([V.str "set"]++ws.map V.str))=Hb at s2 h2⊢;walk_at "4";intro p3 ae;have s3:=AV ae (.lst [V.str "end"]);have h3:upd Hb p3 (.lst [V.str "end"]) p3=some (.lst [V.str "end"]):=AA;generalize upd Hb p3 (.lst [V.str "end"])=Hc at s3 h3⊢;refine⟨p2,p3,_,_,rfl,rfl,s3 _ _ h2,h3,DD (by rw[Aa,A6];show 1+_+1<=_;lia),λp4 ai=>?_⟩;have e4:([V.str "set"]++ws.map V.str)++[V.str "end"]=(CJ (.st ws)).map V.str:=by
    show _=(("set":Str)::ws++[("end":Str)]).map V.str;rw[Ah,Bq];rfl
   rw[e4];have s4:=AV ai (.lst ((CJ (.st ws)).map V.str));have h4:upd Hc p4 (.lst ((CJ (.st ws)).map V.str)) p4=some (.lst ((CJ (.st ws)).map V.str)):=AA;generalize upd Hc p4 (.lst ((CJ (.st ws)).map V.str))=Hd at s4 h4⊢;refine⟨" ",p4,_,rfl,rfl,AH.of h4,R4 (λx J=>TF (W x J)) I (by decide),?_⟩;exact q _ (s1.trans (s2.trans (s3.trans s4)))
  .rw[te]at I q W
   have Z:DJ (V.str nm::is.map V.int) 0=some (.str nm):=EY (j:=0) rfl;refine⟨t,_,_,_,rfl,rfl,BP.of ht,Z,?_⟩;walk_at "4";rw[ev,Ai ak];refine AR ?_;walk_at "4";refine⟨t,_,_,_,rfl,rfl,BP.of ht,Z,?_⟩;walk_at "4";rw[ev,Ai an];refine AR ?_;clear Z;walk_at "4";try refine⟨rfl,?_⟩
   walk_at "4";refine⟨⟨_,BP.of ht⟩,λD hD=>?_⟩;refine UN (a:=t) (xs:=V.str nm::is.map V.int) (λk zs σ H6=>∃(v1:Option V),zs=((nm::is.map AK).take k).map V.str/\σ=[some (.ref t),v1]/\AF H H6/\H6 D=some (.lst zs))
    ?_ ?_ ?_ ?_
   .exact⟨none,rfl,rfl,AV hD _,AA⟩
   .exact λk zs σ H6 _ ⟨_,_,_,hs,_⟩=>BP.of (hs _ _ ht)
   .rintro k x zs σ H6 J aa ⟨v1,rfl,rfl,hs,hh⟩;have av:((nm::is.map AK).take k).length<=4:=by rw[Al,B8,A6];lia
    cases k with
    | zero =>
      cases J;walk_at "4";refine .inr ⟨nm,rfl,?_⟩;exact EN aa hh (by rw[A6];lia) ⟨_,rfl,rfl,DO hs hD,AA⟩
    | succ k =>
      have J:(is.map V.int)[k]?=some x:=J;obtain⟨z,rfl,hz⟩:=LI J;walk_at "4";refine .inl ⟨z,rfl,af z (Ag hz),?_⟩;refine EN aa hh (by rw[A6];lia) ⟨_,?_,rfl,DO hs hD,AA⟩;rw[Ay (i:=k+1),show(nm::is.map AK)[k+1]?=some (AK z) by show(is.map AK)[k]?=_;rw[Ax,hz];rfl,Ah];rfl
   .rintro zs σ H6 ⟨v1,rfl,rfl,hs,hh⟩;rw[Ak (by rw[B8,A6,B8,A6];exact Af _)]at hh
    refine⟨" ",D,_,rfl,rfl,AH.of hh,R4 (λx J=>TF (W x J)) I (by decide),?_⟩;exact q _ hs
 .rw[tb]at I q W
  obtain⟨g1,g2,g3,g4,g5⟩:=gb gj;have ag:(DC d' G).length+4<=1000:=by
   rw[Aa,Aa]at I
   have I:3+(DC d' G).length+1<=1000:=I
   lia
  refine⟨t,_,_,_,rfl,rfl,BP.of ht,rfl,?_⟩;walk_at "4";refine⟨t,_,_,_,rfl,rfl,BP.of ht,rfl,?_⟩;walk_at "4";try refine⟨rfl,?_⟩
  walk_at "4";refine⟨t,_,_,_,rfl,rfl,BP.of ht,rfl,?_⟩;refine⟨(n:Int),rfl,by lia,?_⟩;walk_at "4";refine⟨t,_,_,_,rfl,rfl,BP.of ht,rfl,?_⟩;refine hT d' ed _ _ _ _ ⟨p,_,ah,G,rfl,J',g5,by lia,λH2 am=>?_⟩;walk_at "4";intro p1 Y;have s3:=AV Y (.lst ([AK (n:Int),("times":Str),("(":Str),Cp.CZ d' G,(")":Str)].map V.str));have h3:upd H2 p1 (.lst ([AK (n:Int),("times":Str),("(":Str),Cp.CZ d' G,(")":Str)].map V.str)) p1=some (.lst ([AK (n:Int),("times":Str),("(":Str),Cp.CZ d' G,(")":Str)].map V.str)):=AA;have al:DC d' G≠[]:=λz=>g3 (QD z)
  have ad:(Cp.CZ d' G).length<=13000:=TH (O4 g5) (by lia);have et:Txt.join " " [AK (n:Int),("times":Str),("(":Str),Cp.CZ d' G,(")":Str)]=AD ([AK (n:Int),("times":Str),("(":Str)]++DC d' G++[(")":Str)]):=by
   have:=QB (xss:=[[AK (n:Int)],[("times":Str)],[("(":Str)],DC d' G,[(")":Str)]]) λys hy=>by
    simp only[Am,Bf,D7]at hy;rcases hy with e|e|e|e|e
    .rw[e];exact λz=>nomatch z
    .rw[e];exact λz=>nomatch z
    .rw[e];exact λz=>nomatch z
    .rw[e];exact al
    .rw[e];exact λz=>nomatch z
   have e1:[[AK (n:Int)],[("times":Str)],[("(":Str)],DC d' G,[(")":Str)]].map AD=[AK (n:Int),("times":Str),("(":Str),Cp.CZ d' G,(")":Str)]:=by
    show [AD _,AD _,AD _,AD _,AD _]=_;rw[Kn,Kn,Kn,Kn];rfl
   have e2:[[AK (n:Int)],[("times":Str)],[("(":Str)],DC d' G,[(")":Str)]].flatten=[AK (n:Int),("times":Str),("(":Str)]++DC d' G++[(")":Str)]:=by
    rw[Ao];show [AK (n:Int)]++([("times":Str)]++([("(":Str)]++(DC d' G++([(")":Str)]++[]))))=_;rw[Av];rfl
   rw[e1,e2]at this
   exact this
  refine⟨" ",p1,[AK (n:Int),("times":Str),("(":Str),Cp.CZ d' G,(")":Str)],rfl,rfl,AH.of h3,R4 (B:=13000) (λx J=>?_) (by show 5<=1000;decide) (by decide),?_⟩
  .simp only[Am,Bf,D7]at J;have k1:=TF (Nm (n:=(n:Int)) (by lia) (by lia));rcases J with e|e|e|e|e
   .rw[e];lia
   .rw[e];decide +kernel
   .rw[e];decide +kernel
   .rw[e];exact ad
   .rw[e];decide +kernel
  .rw[et];exact q _ (am.trans s3)
theorem nZ(T:Tx K mg a):AJ P w K mg base BL 10 (a.f 41) (a.d 41) ["jobs"] (Pw 4):=by
 have F:∀{L d:Nat},AJ P w K mg base BL L (a.f 41) (a.d 41) ["jobs"] (Pw d)->AJ P w K mg base BL (L+1+1) (a.f 41) (a.d 41) ["jobs"] (Pw (d+1)):=λ{L d} G=>Yp T (Yq T (λd' e vs H Q E h=>by cases e;exact h) G)
 exact F (F (F (F (Yp T (Yq (L:=0) T (λd' e=>absurd e (by lia)) TC)))))
theorem Yr{d:Nat}{js:List (CS d)}(g:∀j∈js,HH d j):Cp.CZ d js=""↔js=[]:=by
 constructor
 .intro h;cases js with
  | nil=>rfl
  | cons j js=>exact absurd h (Cp.line_ne (λz=>(nomatch (QD z))) (O4 g))
 .rintro rfl;show AD []=_;decide +kernel
theorem o6{js:List (CS 4)}(g:∀j∈js,HH 4 j):JY (Cp.CZ 4 js)=DC 4 js:=by
 unfold JY;by_cases h:js=[]
 .subst h;rw[Ar ((Yr g).mpr rfl)];rfl
 .rw[Aq (λz=>h ((Yr g).mp z))];exact Cp.jt (λz=>h (QD z)) (O4 g)
def o7(K:Frag)(C:Addr):Sp:=λF H Q E=>∃(q t:Addr) (ps:List BE) (p:BE) (vs:List V),F=[.ref q,.ref t]/\H q=some (.lst vs)/\Paired (Jb.Lo K q H) vs ps/\Jb.Lo K q H (.ref t) p/\Jb.EA ps /\
 (Jb.EA (ps++[p])->∀H',Jb.AY q H H'->H' q=some (.lst (vs++[.ref t]))->Q .non H')/\(¬Jb.EA (ps++[p])->∀H',Jb.AY q H H'->E (.ref C) none H')
theorem o9(T:Tx K mg a):AJ P w K mg base (GP P w) 1 (a.f 42) (a.d 42) ["paragraphs","paragraph"] (o7 K a.c_TooMany):=by
 refine T.add_paragraph.fn.okX ka (λvs H Q E h=>?_) (λai A outer s H vs Q E hr h=>?_)
 .obtain⟨q,t,ps,p,us,rfl,_⟩:=h;rfl
 obtain⟨q,t,ps,p,us,rfl,hq,aa,hp,hf,qg,qx⟩:=h;have ac:=Bh aa;have ah:ps.length<=60:=hf.1;have G:=Jb.Mu.add hq aa hp;have J:Jb.AY q H (upd H q (.lst (us++[.ref t]))):=(Jb.AY.refl q H).upd;have I:upd H q (.lst (us++[.ref t])) q=some (.lst (us++[.ref t])):=AA;refine⟨_,(AL (EJ (DX K rfl B7 Bi Bj JH (pv 0) (AC (pv 1) AG)))
  (AL (CF (BU KJ (CY (EB K rfl) rfl T.b_len DP (AC (pv 0) AG)) (HS (v:=.int 60) rfl T.g_MOST_PARAGRAPHS ⟨_,rfl⟩) (BM _)) (AQ (VS T.cl_TooMany rfl rfl rfl (AC (Su CD (P4 (HS (v:=.int 60) rfl T.g_MOST_PARAGRAPHS ⟨_,rfl⟩)) CD) AG))) CP)
  (AQ (CF (BU KJ (CY (LL K rfl rfl) rfl T.b_sum PP (AC (GV rfl (FJ K rfl (pv 0)) (BH.of (N':=["paragraphs","paragraph","measure","gaps","words"]) (ms:=[]) (k:=3) (by rfl)) (λ_ _ _ _ _=>(FO K rfl (n:=3) rfl (BY (BF (i:=2) (show List.Nodup (["paragraphs","paragraph","measure","gaps","words"]:List Str)from by decide +kernel) rfl AM) (BY (BF (i:=3) (show List.Nodup (["paragraphs","paragraph","measure","gaps","words"]:List Str)from by decide +kernel) rfl AM) (BY (BF (i:=4) (show List.Nodup (["paragraphs","paragraph","measure","gaps","words"]:List Str)from by decide +kernel) rfl AM) FL))))) (λ_ _ _ _ _=>GG) (λ_ _ _ _ _=>(CY (EB K rfl) rfl T.b_len DP (AC (pv 4) AG)))) AG)) (HS (v:=.int 400) rfl T.g_MOST_WORDS ⟨_,rfl⟩) (BM _)) (AQ (VS T.cl_TooMany rfl rfl rfl (AC (Su CD (P4 (HS (v:=.int 400) rfl T.g_MOST_WORDS ⟨_,rfl⟩)) CD) AG))) CP)))),?_⟩
 walk_at "4";refine⟨.inl ⟨rfl,_,AH.of hq⟩,?_⟩;walk_at "4";refine⟨q,_,_,rfl,rfl,hq,IV (by lia),?_⟩;have hl2:(us++[V.ref t]).length=(ps++[p]).length:=by rw[Aa,Aa,ac];rfl
 generalize upd H q (.lst (us++[.ref t]))=H1 at G J I⊢;generalize us++[V.ref t]=ws at G I hl2 qg⊢;generalize ps++[p]=qs at G hl2 qg qx⊢;walk_at "4";refine⟨q,_,rfl,.inl (AH.of I),?_⟩;rw[hl2];walk_at "4";refine CG (λh1=>?_) (λh1=>?_)
 .have h1:=Bc h1;walk_at "4";intro x2 Y;refine⟨x2,rfl,Y,?_⟩;walk_at "4";exact λ_=>⟨(by show 1<=10;decide),qx (λz=>by have:=z.1;lia) _ J⟩
 .have h1:¬(60:Int)<((qs.length:Nat):Int):=λz=>h1 (Ae z)
  have ag:qs.length<=60:=by lia
  walk_at "4";refine⟨⟨_,AH.of I⟩,λD hD=>?_⟩;refine HB (a:=q) (xs:=ws) (λj zs σ H6=>∃(v2 v3 v4:Option V),σ=[some (.ref q),some (.ref t),v2,v3,v4]/\AF H1 H6/\H6 D=some (.lst zs)/\zs=((qs.take j).map λp=>((p.2.2.length:Nat):Int)).map V.int)
   ?_ ?_ ?_ ?_
  .exact⟨none,none,none,rfl,AV hD _,AA,rfl⟩
  .rintro j zs σ H6 hj ⟨_,_,_,_,W,_⟩;exact AH.of (W _ _ I)
  .rintro j y zs σ H6 hy af ⟨v2,v3,v4,rfl,W,hh,rfl⟩;obtain⟨r,ae,t',g,w',rfl,ht,hg,hn,hw⟩:=FU G hy;have ad:qs.take (j+1)=qs.take j++[r]:=by rw[Ay,ae];rfl
   refine⟨_,_,rfl,BP.of (W _ _ ht),rfl,?_⟩;walk_at "1";walk_at "1";walk_at "1";walk_at "4";refine⟨w',_,rfl,.inl (AH.of (W _ _ hw)),?_⟩;rw[A6];refine EN af hh ?_ ⟨_,_,_,rfl,DO W hD,AA,?_⟩
   .rw[A6,A6,Al]
    lia
   .rw[ad,Ah,Ah];rfl
  .rintro zs σ H6 ⟨v2,v3,v4,rfl,W,hh,rfl⟩;rw[Ak (by lia)]at hh
   have Z:List.sum (qs.map λp=>((p.2.2.length:Nat):Int))=((KE qs:Nat):Int):=by
    unfold KE;generalize qs=l;induction l with
    | nil=>rfl
    | cons p l ih=>rw[Bq,Bq,Ec,Ec,ih,Gu]
   refine⟨D,_,rfl,AH.of hh,?_⟩;rw[Z];walk_at "4";refine CG (λh2=>?_) (λh2=>?_)
   .have h2:=Bc h2;walk_at "4";intro x2 Y;refine⟨x2,rfl,Y,?_⟩;walk_at "4";exact λ_=>⟨(by show 1<=10;decide),qx (λz=>by have:=z.2;lia) _ (J.trans (.of W))⟩
   .have h2:¬(400:Int)<((KE qs:Nat):Int):=λz=>h2 (Ae z)
    walk_at "4";exact qg ⟨by lia,by lia⟩ _ (J.trans (.of W)) (W _ _ I)
def Ys(K:Frag)(H:Hp)(v:V)(x:BE×Addr):Prop:=∃t g,v=.ref t/\H t=some (.tup [.int x.1.1,.ref g,.ref x.2])/\BP K H g (x.1.2.1.map V.int)/\H x.2=some (.lst (x.1.2.2.map V.str))
def ET(K:Frag)(H0:Hp)(q:Addr)(H:Hp)(vs:List V)(ps:List BE):Prop:=∃xs:List (BE×Addr),ps=xs.map (·.1)/\Paired (Ys K H) vs xs/\(xs.map (·.2)).Nodup/\∀x∈xs,H0 x.2=none/\x.2≠q
theorem ET.len{K:Frag}(h:ET K H0 q H vs ps):vs.length=ps.length:=by
 obtain⟨xs,rfl,h2,_⟩:=h;rw[A6];exact Bh h2
theorem Yt{J I W:Type}{F:J->I->Prop}{G:J->W->Prop}{f:I->W}:∀{xs:List J}{ys:List I},Paired F xs ys->(∀x y,y∈ys->F x y->G x (f y))->Paired G xs (ys.map f)
 | _,_,.nil,_=>.nil
 | _,_,.cons r t,h=>.cons (h _ _ Ab r) (Yt t λx y Y=>h x y (Ac _ Y))
theorem TJ{J I:Type}{F G:J->I->Prop}:∀{xs:List J}{ys:List I},Paired F xs ys->(∀x y,y∈ys->F x y->G x y)->Paired G xs ys
 | _,_,.nil,_=>.nil
 | _,_,.cons r t,h=>.cons (h _ _ Ab r) (TJ t λx y W=>h x y (Ac _ W))
theorem ET.at{K:Frag}{H0 H:Hp}{q:Addr}{vs:List V}{ps:List BE}(h:ET K H0 q H vs ps):Paired (Jb.Lo K q H) vs ps:=by
 obtain⟨xs,rfl,h2,_,G⟩:=h;exact Yt h2 λv x F ⟨t,g,e,z,y,w⟩=>⟨t,g,x.2,e,z,y,(G x F).2,w⟩
theorem ET.same{K:Frag}{H0 H H':Hp}{q:Addr}{vs us:List V}{ps:List BE}(h:ET K H0 q H vs ps)(s:Jb.AY q H H')(G:H q=some (.lst us)):ET K H0 q H' vs ps:=by
 obtain⟨xs,e,h2,J,F⟩:=h;exact⟨xs,e,TJ h2 λv x I ⟨t,g,e,z,y,w⟩=>⟨t,g,e,s.tup G z,s.sqt G y,s _ _ (F x I).2 w⟩,J,F⟩
theorem Ml{I G:Type}{F:I->G->Prop}:∀{xs:List I}{ys:List G},Paired F xs ys->∀y∈ys,∃x,F x y
 | _,_,.nil,y,h=>nomatch h
 | _,_,.cons r t,y,h=>by
   rcases Am.mp h with e|h
   .rw[e];exact⟨_,r⟩
   .exact Ml t y h
theorem ET.add{K:Frag}{H0 H H':Hp}{q w:Addr}{vs us:List V}{ps:List BE}{p:BE}{v:V}(h:ET K H0 q H vs ps)(sm:Jb.AY q H0 H)(I:H q=some (.lst us))(hw:H w=none)(s:Jb.AY q H H')(hp:Ys K H' v (p,w)):ET K H0 q H' (vs++[v]) (ps++[p]):=by
 have G:w≠q:=λz=>by rw[z,I]at hw;cases hw
 have Z:H0 w=none:=by
  cases e:H0 w with
  | none=>rfl
  | some o=>rw[sm w o G e]at hw;cases hw
 obtain⟨xs,rfl,h2,h3,J⟩:=h;refine⟨xs++[(p,w)],by rw[Ah];rfl,Ce (TJ h2 λv x F ⟨t,g,e,z,y,w⟩=>⟨t,g,e,s.tup I z,s.sqt I y,s _ _ (J x F).2 w⟩) hp,?_,λx F=>?_⟩
 .rw[Ah];refine Dn.mpr ⟨h3,By.mpr ⟨Bf,F1⟩,λa ha b hb z=>?_⟩;obtain⟨x,F,rfl⟩:=Bw.mp ha;have hb:b=w:=Aj.mp hb;obtain⟨_,_,_,_,_,_,Y⟩:=Ml h2 x F;rw[z,hb,hw]at Y
  cases Y
 .rcases Az.mp F with y|y
  .exact J x y
  .rw[Aj.mp y];exact⟨Z,G⟩
structure GR(K:Frag)(H0 H:Hp)(jl g q:Addr)(d:Nat)(js:List (CS d))(gs:List Int)(ps:List BE):Prop where
 jb:∃xs,H jl=some (.lst xs)/\Paired (Jb.DQ q H d) xs js
 ne:jl≠q
 gp:BP K H g (gs.map V.int)
 pr:∃vs,H q=some (.lst vs)/\ET K H0 q H vs ps
 ft:Jb.EA ps
 few:js.length<=1000
 sm:Jb.AY q H0 H
def Nu(K:Frag)(C:Addr)(H0 H:Hp)(q:Addr)(ps:List BE)(o:Lm)(Q:VK)(E:XK):Prop :=
 (Jb.EA (ps++o.1)->∀(r g:Addr) H',Jb.AY q H H'->H r=none->H' r=some (.tup [.int o.2.1,.ref g])->BP K H' g (o.2.2.map V.int)->(∃vs,H' q=some (.lst vs)/\ET K H0 q H' vs (ps++o.1))->Q (.ref r) H') /\
 (¬Jb.EA (ps++o.1)->∀H',Jb.AY q H H'->E (.ref C) none H')
def Px(K:Frag)(C:Addr)(H0:Hp)(d:Nat):Sp:=λF H Q E=>∃(I g q:Addr) (m:Int) (js:List (CS d)) (G:List Int) (ps:List BE),F=[.ref I,.int m,.ref g,.ref q]/\GR K H0 H I g q d js G ps/\Nu K C H0 H q ps (BS (EC d) js (m,G)) Q E
def Yu(K:Frag)(C:Addr)(H0:Hp)(d:Nat):Sp:=λF H Q E=>∃(I g q:Addr) (m:Int) (n:Nat) (js:List (CS d)) (G:List Int) (ps:List BE),F=[.int (n:Int),.ref I,.int m,.ref g,.ref q]/\n<=1000/\GR K H0 H I g q d js G ps/\Nu K C H0 H q ps (HY (BS (EC d) js) n (m,G)) Q E
theorem GR.same{K:Frag}(h:GR K H0 H jl g q d js gs ps)(s:Jb.AY q H H')(J:BP K H' g' (gs'.map V.int))(Z:∃vs,H' q=some (.lst vs)/\ET K H0 q H' vs ps')(F:Jb.EA ps'):GR K H0 H' jl g' q d js gs' ps':=by
 obtain⟨⟨xs,G,I⟩,ne,_,⟨vs,Y,_⟩,_,few,sm⟩:=h;exact⟨⟨xs,s _ _ ne G,Paired.mapP I λ_ _ z=>Jb.DQ.same s Y d z⟩,ne,J,Z,F,few,sm.trans s⟩
theorem oa(h:Jb.AY q H H2)(I:H2 q=some o)(F:H2 r=none):H r=none:=by
 cases e:H r with
 | none=>rfl
 | some o' =>
   have G:r≠q:=λz=>by rw[z,I]at F;cases F
   rw[h r o' G e]at F
   cases F
theorem Nu.fin{K:Frag}(h:Nu K C H0 H q ps o Q E)(s:Jb.AY q H H2)(J:GR K H0 H2 jl g2 q d js o.2.2 (ps++o.1))(I:H2 r=none):Q (.ref r) (upd H2 r (.tup [.int o.2.1,.ref g2])):=by
 obtain⟨vs,F,Y⟩:=J.pr;have G:AF H2 (upd H2 r (.tup [.int o.2.1,.ref g2])):=AV I _;exact h.1 J.ft r g2 _ (s.trans (.of G)) (oa s F I) AA (Jb.AY.sqt (.of G) F J.gp) ⟨vs,G _ _ F,Y.same (.of G) F⟩
theorem og(T:Tx K mg a)(G_do_jobs:AJ P w K mg base (GP P w) L (a.f 44) (a.d 44) ["jobs","measure","gaps","paragraphs"] (Px K a.c_TooMany H0 d)):AJ P w K mg base (GP P w) (L+1) (a.f 43) (a.d 43) ["many","jobs","measure","gaps","paragraphs"] (Yu K a.c_TooMany H0 d):=by
 refine T.do_times.fn.okX Pl (λvs H Q E h=>?_) (λap A outer s H vs Q E hr h=>?_)
 .obtain⟨jl,g,q,m,n,js,gs,ps,rfl,_⟩:=h;rfl
 obtain⟨jl,g,q,m,n,js,gs,ps,rfl,hn,J,qg,qx⟩:=h;generalize hf:BS (EC d) js=f at qg qx;refine⟨_,(AL (GL (Sm rfl) rfl (L7 rfl T.b_range (AC (pv 0) AG)) (BF (i:=5) Pl.nd rfl AM) (AL (BQ (i:=6) Pl.nd rfl AM (CY (EB K rfl) rfl T.b_len DP (AC (pv 4) AG)))
  (AL (IG (NV T.do_jobs G_do_jobs hr rfl rfl (AC (pv 1) (AC (pv 2) (AC (pv 3) (AC (pv 4) AG)))) (hjk:=by lia)) (FO K rfl (n:=2) rfl (BY (BF (i:=2) Pl.nd rfl AM) (BY (BF (i:=3) Pl.nd rfl AM) FL))))
  (AQ (CF (BU EM (CY (EB K rfl) rfl T.b_len DP (AC (pv 4) AG)) (pv 6) (BM _)) (AQ YX) CP)))))
  (AQ (BK (EE (AC (pv 2) (AC (pv 3) AG)))))),?_⟩
 walk_at "4";refine Kv (n:=n) (λi σ H2=>∃(F:List BE) (st:Jb.St) (g2:Addr) (v5 v6:Option V),σ=[some (.int (n:Int)),some (.ref jl),some (.int st.1),some (.ref g2),some (.ref q),v5,v6]/\Jb.AY q H H2/\GR K H0 H2 jl g2 q d js st.2 (ps++F)/\HY f n (m,gs)=(F++(HY f (n-i) st).1,(HY f (n-i) st).2))
  ⟨[],(m,gs),g,none,none,rfl,.refl _ _,by rw[Av];exact J,by rw[Je];rfl⟩ ?_ ?_
 .rintro i σ H2 hi ⟨F,st,g2,v5,v6,rfl,Y,J2,ht⟩;obtain⟨ad,am,ai⟩:=J2.pr;have hl2:=ai.len;obtain⟨k,hk⟩:∃k,n-i=k+1:=⟨n-i-1,by lia⟩
  have al:n-(i+1)=k:=by lia
  rw[hk]at ht
  have ak:BS (EC d) js (st.1,st.2)=f st:=by rw[hf]
  walk_at "4";refine⟨q,_,rfl,.inl (AH.of am),?_⟩;walk_at "4";refine⟨jl,g2,q,st.1,js,st.2,ps++F,rfl,J2,?_⟩;rw[ak];have G:HY f (k+1) st=if (f st).1=[]then f st else((f st).1++(HY f k (f st).2).1,(HY f k (f st).2).2):=rfl
  generalize f st=o at G⊢;refine⟨λaf r3 g3 H3 W ao h3 aj ac=>?_,λah H3 W=>?_⟩
  .have J3:=J2.same W aj ac af;obtain⟨ae,an,ag⟩:=ac;have hl3:=ag.len;have Z:=Y.trans W;refine⟨_,_,rfl,BP.of h3,rfl,?_⟩;walk_at "1";walk_at "1";walk_at "4";refine⟨q,_,rfl,.inl (AH.of an),?_⟩;walk_at "4";by_cases I:o.1=[]
   .rw[Ar I]at G
    rw[G,I]at ht
    have e1:V.int ((ae.length:Nat):Int)=V.int ((ad.length:Nat):Int):=by rw[hl3,hl2,I,Av]
    rw[Ae e1];refine BB ?_;rw[Av]at ht
    rw[ht]at qg qx
    rw[I,Av]at J3
    unfold U1;dsimp +zetaDelta only;walk_at "4";intro r aa;exact Nu.fin (o:=(F,o.2)) ⟨qg,qx⟩ Z J3 aa
   .rw[Aq I]at G
    rw[G]at ht
    have e1:¬V.int ((ae.length:Nat):Int)=V.int ((ad.length:Nat):Int):=λz=>by
     have z:=V.int.inj z;rw[hl3,hl2,Aa (as:=ps++F)]at z
     have:0<o.1.length:=D5.mpr I
     lia
    rw[Ai e1];refine AR ?_;refine⟨F++o.1,o.2,g3,_,_,rfl,Z,by rw[<-Ao];exact J3,?_⟩;rw[al,ht,Ao]
  .refine qx (λz=>ah ?_) H3 (Y.trans W);rw[ht]at z
   by_cases I:o.1=[]
   .rw[I,Av];rw[<-Ao]at z
    exact z.left
   .rw[G,Aq I]at z
    rw[show ps++(F++(o.1++(HY f k o.2).1))=(ps++F++o.1)++(HY f k o.2).1 by simp only[Ao]]at z
    exact z.left
 .rintro σ H2 ⟨F,st,g2,v5,v6,rfl,Y,J2,ht⟩;rw[E9]at ht
  have ht:HY f n (m,gs)=(F++[],st):=ht;rw[Av]at ht
  rw[ht]at qg qx
  walk_at "4";intro r aa;exact Nu.fin ⟨qg,qx⟩ Y J2 aa
theorem Yv(T:Tx K mg a)(hL:1<=L)(hT:∀(d':Nat),d=d'+1->∀vs H Q E,Yu K a.c_TooMany H0 d' vs H Q E->spT vs H Q E)(G_do_times:AJ P w K mg base (GP P w) L (a.f 43) (a.d 43) ["many","jobs","measure","gaps","paragraphs"] spT):AJ P w K mg base (GP P w) (L+1) (a.f 44) (a.d 44) ["jobs","measure","gaps","paragraphs"] (Px K a.c_TooMany H0 d):=by
 have F:=@o9 P w K mg base a T;refine T.do_jobs.fn.okX O8 (λvs H Q E h=>?_) (λaI A outer s H vs Q E hr h=>?_)
 .obtain⟨jl,g,q,m,js,gs,ps,rfl,_⟩:=h;rfl
 obtain⟨jl,g,q,m,js,gs,ps,rfl,J,qg,qx⟩:=h;obtain⟨xs,hx,hj⟩:=J.jb;have au:=Bh hj;refine⟨_,(AL (GL (Sm rfl) rfl (FJ K rfl (pv 0)) (BF (i:=4) O8.nd rfl AM) (AQ (CF (BU EM (CA (IY K rfl) (pv 4) AN (λ_ _=>rfl)) CD (BM _)) (AQ (BQ (i:=1) O8.nd rfl AM (CA (IY K rfl) (pv 4) AN (λ_ _=>rfl)))) (AQ (CF (BU EM (CA (IY K rfl) (pv 4) AN (λ_ _=>rfl)) CD (BM _)) (AQ (BQ (i:=2) O8.nd rfl AM (Kh (dR K rfl) (pv 4) (IU AN) La))) (AQ (CF (BU EM (CA (IY K rfl) (pv 4) AN (λ_ _=>rfl)) CD (BM _)) (AQ (EJ (NV T.add_paragraph F hr rfl rfl (AC (pv 3) (AC (EE (AC (pv 1) (AC (pv 2) (AC (JT (OJ K rfl) rfl T.b_list OB (AC (CA (IY K rfl) (pv 4) AN (λ_ _=>rfl)) AG)) AG)))) AG)) (hjk:=by lia)))) (AQ (IG (NV T.do_times G_do_times hr rfl rfl (AC (CA (IY K rfl) (pv 4) AN (λ_ _=>rfl)) (AC (CA (IY K rfl) (pv 4) AN (λ_ _=>rfl)) (AC (pv 1) (AC (pv 2) (AC (pv 3) AG))))) (hjk:=by lia)) (FO K rfl (n:=2) rfl (BY (BF (i:=1) O8.nd rfl AM) (BY (BF (i:=2) O8.nd rfl AM) FL))))))))))))
  (AQ (BK (EE (AC (pv 1) (AC (pv 2) AG)))))),?_⟩
 walk_at "4";refine⟨⟨_,AH.of hx⟩,?_⟩;refine MC (a:=jl) (xs:=xs) (λi σ H2=>∃(Z:Addr) (v4:Option V),σ=[some (.ref jl),some (.int (BS (EC d) (js.take i) (m,gs)).2.1),some (.ref Z),some (.ref q),v4]/\Jb.AY q H H2/\GR K H0 H2 jl Z q d js (BS (EC d) (js.take i) (m,gs)).2.2 (ps++(BS (EC d) (js.take i) (m,gs)).1))
  ⟨g,none,rfl,.refl _ _,by show GR K H0 H jl g q d js gs (ps++[]);rw[Av];exact J⟩ (λi σ H2 _ ⟨_,_,_,hs,_⟩=>AH.of (hs _ _ J.ne hx)) ?_ ?_
 .rintro i y σ H2 hy ⟨Z,v4,rfl,Y,I⟩;obtain⟨j,aA,ax⟩:=FU hj hy;obtain⟨ar,W,af⟩:=I.pr;obtain⟨aH,aE,_⟩:=J.pr;have ao:=Jb.DQ.same Y aE d ax;have aD:js.take (i+1)=js.take i++[j]:=by rw[Ay,aA];rfl
  have ae:=Jb.WQ (EC d) (js.take i) j (m,gs);rw[<-aD]at ae
  rw[ae];have pre:∃r,ps++(BS (EC d) js (m,gs)).1=ps++(BS (EC d) (js.take (i+1)) (m,gs)).1++r:=by
   have e:=SW (EC d) (js.take (i+1)) (js.drop (i+1)) (m,gs);rw[E4]at e
   rw[e];exact⟨_,(Ao ..).symm⟩
  rw[ae]at pre
  generalize BS (EC d) (js.take i) (m,gs)=o at ae I af pre⊢;have aj:¬Jb.EA (ps++o.1++(EC d j o.2).1)->¬Jb.EA (ps++(BS (EC d) js (m,gs)).1):=λh z=>by
   obtain⟨r,e⟩:=pre;rw[e]at z
   have z:=z.left;rw[show ps++(o.1++(EC d j o.2).1,(EC d j o.2).2).1=ps++o.1++(EC d j o.2).1 from(Ao ..).symm]at z
   exact h z
  have an:ps++(o.1++(EC d j o.2).1,(EC d j o.2).2).1=ps++o.1++(EC d j o.2).1:=(Ao ..).symm;walk_at "4";rcases Jb.DQ.view d ao with⟨b,hb,eb⟩|⟨d',n,aF,ed,hn,aC,⟨t,p,az,rfl,ht,aq,hp,av⟩,ej⟩
  .cases b with
   | ms k =>
     obtain⟨t,rfl,ht⟩:=hb;have e0:EC d j o.2=([],(k,o.2.2)):=eb _;rw[e0];refine⟨t,_,_,_,rfl,rfl,BP.of ht,rfl,?_⟩;walk_at "4";refine⟨t,_,_,_,rfl,rfl,BP.of ht,rfl,?_⟩;exact⟨Z,_,rfl,Y,by show GR K H0 H2 jl Z q d js o.2.2 (ps++(o.1++[]));rw[Av];exact I⟩
   | gp x1 x2 x3 =>
     obtain⟨t,rfl,ht⟩:=hb;have e0:EC d j o.2=([],(o.2.1,[x1,x2,x3])):=eb _;rw[e0];refine⟨t,_,_,_,rfl,rfl,BP.of ht,rfl,?_⟩;walk_at "4";refine⟨t,_,_,_,rfl,rfl,BP.of ht,rfl,?_⟩;walk_at "4";refine⟨t,_,rfl,BP.of ht,(λz=>absurd z.1 (by show ¬((1:Nat)=0);decide)),λr ak=>?_⟩;rw[show DN [V.str ("gaps":Str),V.int x1,V.int x2,V.int x3] (some 1) none=[V.int x1,V.int x2,V.int x3]from rfl];have sr:AF H2 (upd H2 r (.tup [.int x1,.int x2,.int x3])):=AV ak _;refine⟨r,_,rfl,Y.trans (.of sr),?_⟩;show GR K H0 _ jl r q d js [x1,x2,x3] (ps++(o.1++[]));rw[Av];exact I.same (.of sr) (gs':=[x1,x2,x3]) (BP.of AA) ⟨ar,sr _ _ W,af.same (.of sr) W⟩ I.ft
   | st ws =>
     obtain⟨t,p,rfl,ht,aq,hp⟩:=hb;have e0:EC d j o.2=([(o.2.1,o.2.2,ws)],o.2):=eb _;rw[e0]at an aj⊢
     refine⟨t,_,_,_,rfl,rfl,BP.of ht,rfl,?_⟩;walk_at "4";refine⟨t,_,_,_,rfl,rfl,BP.of ht,rfl,?_⟩;walk_at "4";refine⟨t,_,_,_,rfl,rfl,BP.of ht,rfl,?_⟩;walk_at "4";refine⟨t,_,_,_,rfl,rfl,BP.of ht,rfl,?_⟩;walk_at "4";refine⟨p,_,rfl,.inl (AH.of hp),λw hw=>?_⟩;have sw:AF H2 (upd H2 w (.lst (ws.map V.str))):=AV hw _;have ai:upd H2 w (.lst (ws.map V.str)) w=some (.lst (ws.map V.str)):=AA;have ap:w≠q:=λz=>by rw[z,W]at hw;cases hw
     generalize upd H2 w (.lst (ws.map V.str))=H3 at sw ai⊢;walk_at "4";intro t2 ay;have ag:AF H3 (upd H3 t2 (.tup [.int o.2.1,.ref Z,.ref w])):=AV ay _;have am:upd H3 t2 (.tup [.int o.2.1,.ref Z,.ref w]) t2=some (.tup [.int o.2.1,.ref Z,.ref w]):=AA;generalize upd H3 t2 (.tup [.int o.2.1,.ref Z,.ref w])=H4 at ag am⊢;have s4:=sw.trans ag;have ad:=s4 _ _ W;have ah:=Y.trans (.of s4);walk_at "4";refine⟨q,t2,ps++o.1,(o.2.1,o.2.2,ws),ar,rfl,ad,Paired.mapP af.at λ_ _ z=>z.same (.of s4) W,⟨t2,Z,w,rfl,am,Jb.AY.sqt (.of s4) W I.gp,ap,ag _ _ ai⟩,I.ft,λaa H5 G h5=>?_,λal H5 G=>qx (aj al) H5 (ah.trans G)⟩;refine⟨Z,_,rfl,ah.trans G,?_⟩;rw[an];exact I.same (Jb.AY.trans (.of s4) G) (Jb.AY.sqt G ad (Jb.AY.sqt (.of s4) W I.gp)) ⟨_,h5,af.add I.sm W hw (Jb.AY.trans (.of s4) G) ⟨t2,Z,rfl,G.tup ad am,Jb.AY.sqt G ad (Jb.AY.sqt (.of s4) W I.gp),G _ _ ap (ag _ _ ai)⟩⟩ aa
  .refine⟨t,_,_,_,rfl,rfl,BP.of ht,rfl,?_⟩;walk_at "4";refine⟨t,_,_,_,rfl,rfl,BP.of ht,rfl,?_⟩;walk_at "4";refine⟨t,_,_,_,rfl,rfl,BP.of ht,rfl,?_⟩;walk_at "4";refine⟨t,_,_,_,rfl,rfl,BP.of ht,rfl,?_⟩;walk_at "4";refine⟨t,_,_,_,rfl,rfl,BP.of ht,rfl,?_⟩;walk_at "4";refine hT d' ed _ _ _ _ ⟨p,Z,q,o.2.1,n,aF,o.2.2,ps++o.1,rfl,hn,⟨⟨az,hp,av⟩,aq,I.gp,I.pr,I.ft,aC,I.sm⟩,?_⟩;rw[show((o.2.1,o.2.2):Jb.St)=o.2 from rfl,<-ej o.2];refine⟨λaa r3 g3 H3 ac aG h3 aB aw=>?_,λal H3 ac=>qx (aj al) H3 (Y.trans ac)⟩;refine⟨_,_,rfl,BP.of h3,rfl,?_⟩;walk_at "1";walk_at "1";refine⟨rfl,g3,_,rfl,Y.trans ac,?_⟩;rw[an];exact I.same ac aB aw aa
 .rintro σ H2 ⟨Z,v4,rfl,Y,I⟩;rw[au,Ak (Af _)]at I
  rw[au,Ak (Af _)];walk_at "4";intro r ak;exact Nu.fin ⟨qg,qx⟩ Y I ak
theorem oh(T:Tx K mg a):AJ P w K mg base (GP P w) 10 (a.f 44) (a.d 44) ["jobs","measure","gaps","paragraphs"] (Px K a.c_TooMany H0 4):=by
 have F:∀{L d:Nat},1<=L->AJ P w K mg base (GP P w) L (a.f 44) (a.d 44) ["jobs","measure","gaps","paragraphs"] (Px K a.c_TooMany H0 d)->AJ P w K mg base (GP P w) (L+1+1) (a.f 44) (a.d 44) ["jobs","measure","gaps","paragraphs"] (Px K a.c_TooMany H0 (d+1)):=λ{L d} I G =>
  Yv T (by lia) (λd' e vs H Q E h=>by cases e;exact h) (og T G)
 exact F (by lia) (F (by lia) (F (by lia) (F (by lia) (Yv (L:=1) T (by decide) (λd' e=>absurd e (by lia)) TC))))
def Kt(js:List (CS 4)):Lm:=BS (EC 4) js (100,[2,4,8])
def oj(K:Frag)(C:Addr):Sp:=λF H Q E=>∃(G:Addr) (N:Addr->Prop) (js:List (CS 4)) (xs:List V),F=[.ref G]/\H G=some (.lst xs)/\Paired (Jb.BO N H 4) xs js/\js.length<=1000 /\
 (Jb.EA (Kt js).1->∀(q:Addr) H',H q=none->AF H H'->(∃vs,H' q=some (.lst vs)/\ET K H q H' vs (Kt js).1)->Q (.ref q) H')/\(¬Jb.EA (Kt js).1->∀H',AF H H'->E (.ref C) none H')
theorem om(T:Tx K mg a):AJ P w K mg base (GP P w) 11 (a.f 45) (a.d 45) ["jobs"] (oj K a.c_TooMany):=by
 have F:=λH0=>oh (P:=P) (w:=w) (base:=base) (H0:=H0) T
 refine T.opened_jobs.fn.okX Xv (λvs H Q E h=>?_) (λae A outer s H vs Q E hr h=>?_)
 .obtain⟨jl,no,js,xs,rfl,_⟩:=h;rfl
 obtain⟨jl,no,js,xs,rfl,W,hj,hl,qg,qx⟩:=h;have G:=F H;refine⟨_,(AL (BQ (i:=1) Xv.nd rfl AM (DA AG))
  (AL (EJ (NV T.do_jobs G hr rfl rfl (AC (pv 0) (AC (HS (v:=.int 100) rfl T.g_FIRST_MEASURE ⟨_,rfl⟩) (AC (HS (v:=.ref a.t_FIRST_GAPS) rfl T.g_FIRST_GAPS rfl) (AC (pv 1) AG))))))
  (AQ (BK (pv 1))))),?_⟩
 walk_at "4";intro q hq;have J:AF H (upd H q (.lst [])):=AV hq _;have Y:upd H q (.lst []) q=some (.lst []):=AA;have ac:jl≠q:=λz=>by rw[z,hq]at W;cases W
 have aa:Paired (Jb.DQ q (upd H q (.lst [])) 4) xs js:=by
  exact Paired.mapP hj λ_ _ z=>Jb.BO.at 4 (Jb.BO.same (Jb.DF.of J) 4 (Jb.BO.fresh (λa ha=>.inr (by rw[ha];exact hq)) 4 z))
 generalize upd H q (.lst [])=H1 at J Y aa⊢;have I:∀{H':Hp},Jb.AY q H1 H'->AF H H':=λ{H'} s b o e=>s b o (λz=>by rw[z,hq]at e;cases e) (J _ _ e)
 walk_at "4";refine⟨jl,a.t_FIRST_GAPS,q,100,js,[2,4,8],[],rfl,⟨⟨xs,J _ _ W,aa⟩,ac,T.k_FIRST_GAPS _,⟨[],Y,[],rfl,.nil,F1,λx W=>(nomatch W)⟩,⟨by decide,by decide⟩,hl,.of J⟩,?_⟩;refine⟨λZ r g H' hs af h1 h2 h3=>?_,λad H' hs=>qx ad H' (I hs)⟩;walk_at "4";exact qg Z q H' hq (I hs) h3
def oo(K:Frag):Sp:=λvs H Q _=>∃(l:Addr) (rs:List CC),vs=[.ref l]/\Cs.IJ K H l rs/\rs.length<=1000/\∀(r:Addr) H',H r=none->AF H H'->H' r=some (.lst ((rs.map λx=>x.t).map V.int))->Q (.ref r) H'
theorem oq(T:Tx K mg a):AJ P w K mg base BL 1 (a.f 6) (a.d 6) ["case"] (oo K):=by
 refine T.codes_of_.fn.ok jM (λvs H Q E h=>?_) (λac A outer s H vs Q E hr h=>?_)
 .obtain⟨l,rs,rfl,_⟩:=h;rfl
 obtain⟨l,rs,rfl,⟨xs,hS,hp⟩,hl,q⟩:=h;refine⟨_,(AQ (BK (GV rfl (FJ K rfl (pv 0)) (BH.of (N':=["case","sign","width","teeth","many"]) (ms:=[]) (k:=4) (by rfl)) (λ_ _ _ _ _=>(FO K rfl (n:=4) rfl (BY (BF (i:=1) (show List.Nodup (["case","sign","width","teeth","many"]:List Str)from by decide +kernel) rfl AM) (BY (BF (i:=2) (show List.Nodup (["case","sign","width","teeth","many"]:List Str)from by decide +kernel) rfl AM) (BY (BF (i:=3) (show List.Nodup (["case","sign","width","teeth","many"]:List Str)from by decide +kernel) rfl AM) (BY (BF (i:=4) (show List.Nodup (["case","sign","width","teeth","many"]:List Str)from by decide +kernel) rfl AM) FL)))))) (λ_ _ _ _ _=>GG) (λ_ _ _ _ _=>(pv 3))))),?_⟩;have aa:=Mj hp;walk_at "2";intro D hD;refine HB (a:=l) (xs:=xs) (λi ys σ H2=>∃(v1 J v3 Z:Option V),ys=((rs.take i).map λx=>x.t).map V.int/\σ=[some (.ref l),v1,J,v3,Z]/\AF H H2/\H2 D=some (.lst ys))
  ?_ ?_ ?_ ?_
 .exact⟨none,none,none,none,rfl,rfl,AV hD _,AA⟩
 .exact λi ys σ H2 _ ⟨_,_,_,_,_,_,F,_⟩=>F.seq hS
 .rintro i y ys σ H2 hy I ⟨v1,J,v3,Z,rfl,rfl,F,G⟩;obtain⟨r,Y,t,rfl,ht⟩:=FU hp hy;have W:=F _ _ ht;refine⟨_,_,rfl,BP.of W,rfl,?_⟩;walk_at "1";walk_at "1";walk_at "1";walk_at "1";walk_at "2";refine EN I G ?_ ⟨_,_,_,_,?_,rfl,DO F hD,AA⟩
  .rw[A6,A6,Al]
   lia
  .rw[Ay,Y,Ah,Ah];rfl
 .rintro ys σ H2 ⟨v1,J,v3,Z,rfl,rfl,F,G⟩;rw[aa,Ak (Af _)]at G
  exact q D H2 hD F G
abbrev MA(a:Ad)(c:Cf)(H:Hp)(p:Addr)(A:Mc.DU)(m:Ms):Prop:=Mc.EW a.c_Machine FK c H p A m
abbrev IA(a:Ad)(H:Hp)(p:Addr)(vs:List (Option V)):Prop:=HM a.c_Machine FK H p vs
def ot(a:Ad):Sp:=λvs H Q _=>∃(p:Addr) (A:Mc.DU) (c:Cf) (m:Ms),vs=[.ref p]/\MA a c H p A m/\Mc.Ok c m/\Q (.str (FD c m)) H
theorem TK(T:Tx K mg a):AJ P w K mg base BL 1 (a.g_Machine 0) (a.h_Machine 0) ["self"] (ot a):=by
 refine T.Machine_next_key.fn.ok kh (λvs H Q E h=>?_) (λJ A outer s H vs Q E Y h=>?_)
 .obtain⟨p,A,c,m,rfl,_⟩:=h;rfl
 obtain⟨p,A,c,m,rfl,M,O,q⟩:=h;have I:=M.ins;have W:c.keys.cps.toList.length=c.keys.length:=Au;have G:=O.cf.short;have hsz:c.keys.length<=sizeLine:=DD (by lia);refine⟨_,(AQ (BK (Nz (BU L8 (BZ (K:=K) rfl T.Machine.cl T.n_Machine_struck Nt (pv 0)) (CY LC rfl T.b_len DP (AC (BZ (K:=K) rfl T.Machine.cl T.n_Machine_played Tj (pv 0)) AG)) (BM _)) (CA Ld (BZ (K:=K) rfl T.Machine.cl T.n_Machine_played Tj (pv 0)) (BZ (K:=K) rfl T.Machine.cl T.n_Machine_struck Nt (pv 0)) (λ_ _=>rfl)) CD))),?_⟩;walk_at "2";unfold FD EV at q;by_cases F:m.at_<c.keys.cps.toList.length
 .rw[Ae (by lia)];refine BB ?_;walk_at "2";refine⟨_,_,_,rfl,rfl,hsz,EY (A7 F),?_⟩;rw[A7 F]at q
  exact q
 .rw[Ai (by lia)];refine AR ?_;rw[Es (by lia)]at q
  exact q
def TN(a:Ad)(f:Cf->Ms->V):Sp:=λvs H Q _=>∃(p:Addr) (A:Mc.DU) (c:Cf) (m:Ms),vs=[.ref p]/\MA a c H p A m/\Mc.Ok c m/\∀H',AF H H'->Q (f c m) H'
theorem Yw(T:Tx K mg a):AJ P w K mg base BL 2 (a.g_Machine 1) (a.h_Machine 1) ["self"] (TN a λc m=>.bl (HN c m)):=by
 have G:=@R1 P w K mg base a T;have F:=@TK P w K mg base a T;refine T.Machine_lacks_matrix.fn.ok XA (λvs H Q E h=>?_) (λad A outer s H vs Q E hr h=>?_)
 .obtain⟨p,A,c,m,rfl,_⟩:=h;rfl
 obtain⟨p,A,c,m,rfl,M,O,q⟩:=h;have I:=M.ins;refine⟨_,(AL (BQ (i:=1) XA.nd rfl AM (BN T.channel_of G hr rfl (AC (BZ (K:=K) rfl T.Machine.cl T.n_Machine_case QV (pv 0)) (AC (JN (K:=K) rfl T.Machine.cl T.Machine_next_key F hr Tp (pv 0)) AG))))
  (AQ (BK (JD (Oi (Oh (pv 1))) (KI (FM (EZ K rfl hr.units) (CA (DR K rfl) (BZ (K:=K) rfl T.Machine.cl T.n_Machine_lying QU (pv 0)) (pv 1) (λ_ _=>rfl)) (DA AG) (BM _))))))),?_⟩
 walk_at "2";refine⟨p,A,c,m,rfl,M,O,?_⟩;walk_at "2";obtain⟨xs,Z,aa⟩:=M.li.rows;refine⟨A.c,_,c.rs,rfl,⟨xs,AH.of Z,aa⟩,λH1 J=>?_⟩;have q:∀H',AF H H'->Q (.bl (HN c m)) H':=q;cases Y:CK c.rs (FD c m)with
 | none =>
   rw[Qt Y]at q
   walk_at "2";exact q H1 J
 | some k =>
   rw[Mc.Wu Y]at q
   have hk:=OO Y;obtain⟨lq,l,h1,h2,h3,h4⟩:=M.lane O hk;rw[Mc.Wv h2]at q
   have M1:=M.same J;have I1:=M1.ins;refine⟨_,rfl,?_⟩;refine⟨true,rfl,?_⟩;refine BB ?_;refine⟨_,rfl,?_⟩;refine⟨_,_,_,rfl,I1,rfl,?_⟩;refine⟨_,rfl,?_⟩;refine⟨A.L,_,(k:Int),_,rfl,rfl,AH.of M1.li.lan,h4,?_⟩;refine And.intro (B9 _) λe he=>?_
   have W:=AV he (.lst []);have ac:Mc.DZ (upd H1 e (.lst [])) lq l:=Mc.DZ.keep (Mc.BW.of_same (S:=λ_=>True) (J.trans W)) trivial h3;refine⟨_,_,ac.den (O.llay h2),LR AA,LU _,?_⟩;have q:=q _ (J.trans W);rw[<-LS Mq l]at q
   exact q
theorem ou(T:Tx K mg a):AJ P w K mg base BL 3 (a.g_Machine 2) (a.h_Machine 2) ["self"] (TN a λc m=>.bl (LP c m)):=by
 have F:=@Yw P w K mg base a T;refine T.Machine_stuck.fn.ok ki (λvs H Q E h=>?_) (λaa A outer s H vs Q E Z h=>?_)
 .obtain⟨p,A,c,m,rfl,_⟩:=h;rfl
 obtain⟨p,A,c,m,rfl,M,O,q⟩:=h;have q:∀H',AF H H'->Q (.bl (HN c m&&m.heat.isEmpty&&m.bar.isEmpty)) H':=q;have I:=M.ins;refine⟨_,(AQ (BK (JD (JN (K:=K) rfl T.Machine.cl T.Machine_lacks_matrix F Z XB (pv 0)) (JD (FM (EZ K rfl Z.units) (BZ (K:=K) rfl T.Machine.cl T.n_Machine_heated Ma (pv 0)) (DA AG) (BM _)) (KI (FM (EZ K rfl Z.units) (BZ (K:=K) rfl T.Machine.cl T.n_Machine_hanging Ob (pv 0)) (DA AG) (BM _))))))),?_⟩;walk_at "2";refine⟨p,A,c,m,rfl,M,O,λH1 J=>?_⟩;have M1:=M.same J;have I1:=M1.ins;refine⟨_,rfl,?_⟩;cases hl:HN c m with
 | false =>
   rw[hl]at q
   refine AR ?_;exact q H1 J
 | true =>
   rw[hl]at q
   refine BB ?_;walk_at "2";refine λe he=>?_
   have W:=AV he (.lst []);have G:=J.trans W;have M2:=M.same G;refine⟨_,_,M2.li.het.den O.hlay,LR AA,LU _,?_⟩;rw[LS KD m.heat];generalize upd H1 e (.lst [])=H2 at W G M2⊢;have I2:=M2.ins;refine⟨_,rfl,?_⟩;cases hh:m.heat.isEmpty with
   | false =>
     rw[hh]at q
     refine AR ?_;exact q H2 G
   | true =>
     rw[hh]at q
     refine BB ?_;walk_at "2";refine λe he=>?_
     have Y:=AV he (.lst []);have M3:=M2.same Y;refine⟨_,_,M3.li.bar.den O.blay,LR AA,LU _,?_⟩;have q:=q _ (G.trans Y);rw[<-LS Mq m.bar]at q
     exact q
theorem Yx(T:Tx K mg a):AJ P w K mg base BL 3 (a.g_Machine 3) (a.h_Machine 3) ["self"] (TN a λc m=>.bl (Na c m)):=by
 have F:=@TK P w K mg base a T;refine T.Machine_resting.fn.ok km (λvs H Q E h=>?_) (λaa A outer s H vs Q E Z h=>?_)
 .obtain⟨p,A,c,m,rfl,_⟩:=h;rfl
 obtain⟨p,A,c,m,rfl,M,O,q⟩:=h;have q:∀H',AF H H'->Q (.bl ((EV c m).isNone&&m.line.isEmpty&&m.heat.isEmpty&&m.bar.isEmpty)) H':=q;have I:=M.ins;refine⟨_,(AQ (BK (JD (FM EM (JN (K:=K) rfl T.Machine.cl T.Machine_next_key F Z Tp (pv 0)) CD (BM _)) (JD (FM (EZ K rfl Z.units) (BZ (K:=K) rfl T.Machine.cl T.n_Machine_line Po (pv 0)) (DA AG) (BM _)) (JD (FM (EZ K rfl Z.units) (BZ (K:=K) rfl T.Machine.cl T.n_Machine_heated Ma (pv 0)) (DA AG) (BM _)) (KI (FM (EZ K rfl Z.units) (BZ (K:=K) rfl T.Machine.cl T.n_Machine_hanging Ob (pv 0)) (DA AG) (BM _)))))))),?_⟩;walk_at "2";refine⟨p,A,c,m,rfl,M,O,?_⟩;walk_at "2";have ek:decide (V.str (FD c m)=V.str ("":Str))=(EV c m).isNone:=by
  rw[FP];unfold FD;cases EV c m with
  | none=>exact Ae rfl
  | some k=>exact Ai λe=>by cases e
 rw[ek];cases hl:(EV c m).isNone with
 | false =>
   rw[hl]at q
   refine AR ?_;exact q H (AF.refl _)
 | true =>
   rw[hl]at q
   refine BB ?_;walk_at "2";refine λe Y=>?_
   have J:=AV Y (.lst []);have M2:=M.same J;refine⟨_,_,M2.li.lin.den O.ilay,LR AA,LU _,?_⟩;rw[LS KD m.line];generalize upd H e (.lst [])=H2 at J M2⊢;have I2:=M2.ins;refine⟨_,rfl,?_⟩;cases hh:m.line.isEmpty with
   | false =>
     rw[hh]at q
     refine AR ?_;exact q H2 J
   | true =>
     rw[hh]at q
     refine BB ?_;walk_at "2";refine λe Y=>?_
     have G:=FN (o:=.lst []) J Y;have M3:=M.same G;refine⟨_,_,M3.li.het.den O.hlay,LR AA,LU _,?_⟩;rw[LS KD m.heat];generalize upd H2 e (.lst [])=H3 at G M3⊢;have I3:=M3.ins;refine⟨_,rfl,?_⟩;cases hg:m.heat.isEmpty with
     | false =>
       rw[hg]at q
       refine AR ?_;exact q H3 G
     | true =>
       rw[hg]at q
       refine BB ?_;walk_at "2";refine λe Y=>?_
       have W:=FN (o:=.lst []) G Y;have M4:=M.same W;refine⟨_,_,M4.li.bar.den O.blay,LR AA,LU _,?_⟩;have q:=q _ W;rw[<-LS Mq m.bar]at q
       exact q
theorem OZ{W J:Type}{F:W->J->Prop}:∀{xs I:List W}{ys G:List J},Paired F xs ys->Paired F I G->Paired F (xs++I) (ys++G)
 | _,_,_,_,.nil,h=>h
 | _,_,_,_,.cons r t,h=>.cons r (OZ t h)
def R5(a:Ad)(f:Cf->Ms->Ms):Sp:=λvs H Q _=>∃(p:Addr) (A:Mc.DU) (c:Cf) (m:Ms),vs=[.ref p]/\MA a c H p A m/\Mc.Ok c m/\∀F H',MA a c H' p F (f c m)->Mc.BC p A H F H'->Q .non H'
theorem oy(T:Tx K mg a):AJ P w K mg base BL 3 (a.g_Machine 4) (a.h_Machine 4) ["self"] (R5 a Mc.fall):=by
 have J:=@lI P w K mg base a T;have G:=@oq P w K mg base a T;refine T.Machine_move_bar.fn.ok XD (λvs H Q E h=>?_) (λaA A outer s H vs Q E hr h=>?_)
 .obtain⟨p,A,c,m,rfl,_⟩:=h;rfl
 obtain⟨p,A,c,m,rfl,M,O,q⟩:=h;have I:=M.ins;refine⟨_,(AQ (CF (BU (GH K rfl hr.units) (BZ (K:=K) rfl T.Machine.cl T.n_Machine_hanging Ob (pv 0)) (DA AG) (BM _)) (AL (BQ (i:=1) XD.nd rfl AM (DX K rfl B7 Jn Jo UD (BZ (K:=K) rfl T.Machine.cl T.n_Machine_hanging Ob (pv 0)) (AC AN AG)))
  (AQ (EJ (DX K rfl B7 Bi Bj JH (CA (DR K rfl) (BZ (K:=K) rfl T.Machine.cl T.n_Machine_lying QU (pv 0)) (BN T.falls_at J hr rfl (AC (BN T.codes_of_ G hr rfl (AC (BZ (K:=K) rfl T.Machine.cl T.n_Machine_case QV (pv 0)) AG)) (AC (CA (IY K rfl) (pv 1) AN (λ_ _=>rfl)) AG))) (λ_ _=>rfl)) (AC (pv 1) AG))))) CP)),?_⟩
 walk_at "2";refine λe he=>?_
 have Z:=AV he (.lst []);have M1:=M.same Z;refine⟨_,_,M1.li.bar.den O.blay,LR AA,LU _,?_⟩;rw[LS Mq m.bar];generalize upd H e (.lst [])=H1 at Z M1⊢;have I1:=M1.ins;refine⟨_,rfl,?_⟩;unfold Mc.fall at q;cases hb:m.bar with
 | nil =>
   rw[hb]at q
   refine AR ?_;exact q A H1 M1 (Mc.BC.of_same Z)
 | cons x r =>
   rw[hb]at q
   obtain⟨o1,o2,o3,o4,k,hk,az⟩:=O.bm x (by rw[hb];exact Ab);have q:∀A' H',MA a c H' p A' (match IE (c.rs.map λr=>r.t) x.2 with
    | some k=>{ m with bar:=r,lanes:=IZ m.lanes k x }
    | none=>m)->Mc.BC p A H A' H'->Q .non H':=q
   rw[hk]at q
   refine BB ?_;walk_at "2";obtain⟨bs,Y,al⟩:=M1.li.bar;rw[hb]at al
   obtain⟨v,vs,rfl,hv,ar⟩:∃v vs,bs=v::vs/\Lan.GX H1 v x/\Paired (Lan.GX H1) vs r:=by
    cases al with
    | cons h1 h2=>exact⟨_,_,rfl,h1,h2⟩
   refine⟨.inl ⟨rfl,_,AH.of Y⟩,?_⟩;walk_at "2";refine⟨A.b,_,0,0,v,rfl,rfl,Y,by decide,by decide,WE _ _,rfl,?_⟩;have M2:MA a c (upd H1 A.b (.lst vs)) p A { m with bar:=r }:=M1.setBar Y ar;have ac:Mc.BC p A H A (upd H1 A.b (.lst vs)):=(Mc.BC.of_same Z).trans (Mc.BC.lst (by unfold Mc.DU.all;simp) Y);have aj:=P9 (Mc.BW.lst (o:=.lst vs) Y) hv;have av:((v::vs).eraseIdx 0)=vs:=rfl;rw[av];generalize upd H1 A.b (.lst vs)=H2 at M2 ac aj⊢;have I2:=M2.ins;obtain⟨t,rfl,ht⟩:=aj;walk_at "2";obtain⟨ws,aq,ap⟩:=M2.li.rows;have ax:=O.cf.few;refine⟨A.c,c.rs,rfl,⟨ws,AH.of aq,ap⟩,by lia,λpr H3 ay ae ao=>?_⟩;have M3:=M2.same ae;have ah:=ae _ _ ht;walk_at "2";refine⟨t,_,_,_,rfl,rfl,BP.of ah,rfl,?_⟩;refine⟨pr,x.2,_,rfl,AH.of ao,?_,o3,o4,λH4 ad=>?_⟩
   .intro y hy;obtain⟨r',am,rfl⟩:=Bw.mp hy;exact(O.cf.th r' am).1
   rw[hk];have M4:=M3.same ad;have aw:=ad _ _ ah;have ak:=ac.trans (Mc.BC.of_same (ae.trans ad));have aB:m.lanes.length=c.rs.length:=O.ln;have W:k<m.lanes.length:=by lia
   obtain⟨lq,af,an⟩:=Cs.Ml M4.li.lns (A7 W);obtain⟨ys,aa,ag⟩:=an;have au:DJ (A.ls.map V.ref) (k:Int)=some (.ref lq):=EY (by rw[Ax,af];rfl);refine⟨A.L,_,(k:Int),_,rfl,rfl,AH.of M4.li.lan,au,?_⟩;refine⟨.inl ⟨rfl,_,AH.of aa⟩,?_⟩;refine⟨_,rfl,?_⟩;have ai:ys.length<=100000:=by
    have h1:=Bh ag;have h2:=Mc.iq (A7 W);have h3:=O.sz;have h4:=SE O;unfold KW at h3
    lia
   refine⟨lq,ys,_,rfl,rfl,aa,IV ai,?_⟩;have ea:IZ m.lanes k x=m.lanes.set k (m.lanes[k]++[x]):=by
    unfold IZ;rw[A7 W]
   have M5:MA a c (upd H4 lq (.lst (ys++[.ref t]))) p A { m with bar:=r,lanes:=m.lanes.set k (m.lanes[k]++[x]) }:=M4.setLane af aa (Ce ag ⟨t,rfl,aw⟩);have q:∀A' H',MA a c H' p A' { m with bar:=r,lanes:=IZ m.lanes k x }->Mc.BC p A H A' H'->Q .non H':=q;rw[ea]at q
   have q:=q A _ M5 (ak.trans (Mc.BC.lst (by unfold Mc.DU.all;simp[Ag af]) aa));exact q
theorem oz(T:Tx K mg a):AJ P w K mg base BL 2 (a.g_Machine 5) (a.h_Machine 5) ["self"] (R5 a λ_ m=>Mc.cool m):=by
 refine T.Machine_move_caster.fn.ok kq (λvs H Q E h=>?_) (λaK A outer s H vs Q E hr h=>?_)
 .obtain⟨p,A,c,m,rfl,_⟩:=h;rfl
 obtain⟨p,A,c,m,rfl,M,O,q⟩:=h;have q:∀A' H',MA a c H' p A' (Mc.cool m)->Mc.BC p A H A' H'->Q .non H':=q;have I:=M.ins;refine⟨_,(AL (CF (BU (EZ K rfl hr.units) (BZ (K:=K) rfl T.Machine.cl T.n_Machine_heated Ma (pv 0)) (DA AG) (BM _)) (AQ Z0) CP)
  (AL (HG (K:=K) rfl T.Machine.cl T.n_Machine_to_go Pp (pv 0) (AU IH (BZ (K:=K) rfl T.Machine.cl T.n_Machine_to_go Pp (pv 0)) AN))
  (AQ (CF (BU Lz (BZ (K:=K) rfl T.Machine.cl T.n_Machine_to_go Pp (pv 0)) AN (BM _)) (AL (EJ (DX K rfl B7 Bi Bj JH (BZ (K:=K) rfl T.Machine.cl T.n_Machine_texts Tn (pv 0)) (AC (DX K rfl Ba Bm Bn (JI K rfl) CD (AC (GV rfl (FJ K rfl (BZ (K:=K) rfl T.Machine.cl T.n_Machine_heated Ma (pv 0))) (BH.of (N':=["self","part"]) (ms:=[]) (k:=1) (by rfl)) (λ_ _ _ _ _=>(BF (i:=1) (show List.Nodup (["self","part"]:List Str)from by decide +kernel) rfl AM)) (λ_ _ _ _ _=>GG) (λ_ _ _ _ _=>(CA (ip K rfl) (pv 1) AN (λ_ _=>rfl)))) AG)) AG)))
  (AL (EJ (DX K rfl B7 PySem.F.slot_list_extend PySem.F.type_list_extend ZZ (BZ (K:=K) rfl T.Machine.cl T.n_Machine_hanging Ob (pv 0)) (AC (GV rfl (FJ K rfl (BZ (K:=K) rfl T.Machine.cl T.n_Machine_heated Ma (pv 0))) (BH.of (N':=["self","part"]) (ms:=[]) (k:=1) (by rfl)) (λ_ _ _ _ _=>(BF (i:=1) (show List.Nodup (["self","part"]:List Str)from by decide +kernel) rfl AM)) (λ_ _ _ _ _=>(OH (BU (GH K rfl hr.units) (pv 1) (HS (v:=.str " ") rfl T.g_WEDGE ⟨_,rfl⟩) (BM _)))) (λ_ _ _ _ _=>(pv 1))) AG)))
  (AQ (HG (K:=K) rfl T.Machine.cl T.n_Machine_heated Ma (pv 0) (DA AG))))) CP)))),?_⟩
 walk_at "2";refine λe he=>?_
 have ad:=AV he (.lst []);have M1:=M.same ad;refine⟨_,_,M1.li.het.den O.hlay,LR AA,LU _,?_⟩;rw[LS KD m.heat];generalize upd H e (.lst [])=H1 at ad M1⊢;have I1:=M1.ins;refine⟨_,rfl,?_⟩;unfold Mc.cool at q;cases hh:m.heat.isEmpty with
 | true =>
   rw[Ar hh]at q
   refine BB ?_;exact q A H1 M1 (Mc.BC.of_same ad)
 | false =>
   rw[Aq (by rw[hh];decide)]at q
   refine AR ?_;walk_at "2";refine λH2 I2 k2=>?_
   have I2:IA a H2 p (Mc.vals c A { m with togo:=m.togo-1 }):=I2;have M2:=M1.setF I2 k2 rfl rfl rfl rfl rfl;have az:=(Mc.BC.of_same (p:=p) (A:=A) ad).trans (Mc.BC.flds I1 I2 k2);have aL:m.heat≠[]:=λz=>by rw[z]at hh;cases hh
   have O2:∀x,some x∈m.heat->Mc.LQ c x:=O.hm;walk_at "2";by_cases ht:m.togo-1<=0
   .rw[Ar ht]at q
    rw[Ae ht];refine BB ?_;walk_at "2";have hsz:=O.sz;have aJ:=SE O;unfold KW at hsz;obtain⟨hv,ao,af⟩:=M2.li.het;have af:Paired (Kk H2) hv m.heat:=af;have aE:=Bh af;refine⟨.inl ⟨rfl,_,AH.of M2.li.txt⟩,?_⟩;walk_at "2";refine⟨⟨_,AH.of ao⟩,λD hD=>?_⟩;refine HB (a:=A.h) (xs:=hv) (λi ys σ H3=>∃(v2:Option V),ys=((m.heat.take i).map ER).map V.str/\σ=[some (.ref p),v2]/\AF H2 H3/\H3 D=some (.lst ys))
     ?_ ?_ ?_ ?_
    .exact⟨none,rfl,rfl,AV hD _,AA⟩
    .rintro i ys σ H3 hi ⟨v2,_,_,hs,_⟩;exact hs.seq (AH.of ao)
    .rintro i y ys σ H3 hy aa ⟨v2,rfl,rfl,hs,ac⟩;obtain⟨pt,Z,am⟩:=Ww af hy;have ai:=SJ (Mc.BW.of_same (S:=λ_=>True) hs) am;have J:(((m.heat.take i).map ER).map V.str).length<=100000:=by
      rw[A6,A6,Al]
      lia
     have ay:(((m.heat.take (i+1)).map ER).map V.str)=(((m.heat.take i).map ER).map V.str)++[V.str (ER pt)]:=by
      rw[Ay,Z,Ah,Ah];rfl
     walk_at "2";cases pt with
     | none =>
       have e:y=.str " ":=ai;subst e;refine .inr ⟨_,_,32,rfl,rfl,DD (by decide),rfl,?_⟩;exact EN aa ac J ⟨_,ay.symm,rfl,DO hs hD,AA⟩
     | some x =>
       obtain⟨t,rfl,aD⟩:=ai;refine .inl ⟨t,_,_,_,rfl,rfl,BP.of aD,rfl,?_⟩;exact EN aa ac J ⟨_,ay.symm,rfl,DO hs hD,AA⟩
    .rintro ys σ H3 ⟨v2,rfl,rfl,au,ac⟩;rw[aE,Ak (Af _)]at ac
     have M3:=M2.same au;refine⟨_,D,_,rfl,rfl,AH.of ac,Mc.iI O2 (by lia),?_⟩;have aG:=O.tx;refine⟨A.t,_,_,rfl,rfl,M3.li.txt,IV (by rw[A6];show m.texts.length<=_;lia),?_⟩;have et:(m.texts.map V.str)++[V.str (Txt.join ("":Str) (m.heat.map ER))]=(m.texts++[Mc.CZ m.heat]).map V.str:=by
      rw[Ah];rfl
     have M4:MA a c (upd H3 A.t (.lst ((m.texts.map V.str)++[V.str (Txt.join ("":Str) (m.heat.map ER))]))) p A { m with togo:=m.togo-1,texts:=m.texts++[Mc.CZ m.heat] }:=by
      rw[et];exact M3.setTxt M3.li.txt
     have aq:Mc.BC p A H A (upd H3 A.t (.lst ((m.texts.map V.str)++[V.str (Txt.join ("":Str) (m.heat.map ER))]))):=(az.trans (Mc.BC.of_same au)).trans (Mc.BC.lst (by unfold Mc.DU.all;simp) M3.li.txt);generalize upd H3 A.t (.lst ((m.texts.map V.str)++[V.str (Txt.join ("":Str) (m.heat.map ER))]))=H4 at M4 aq⊢;have I4:=M4.ins;obtain⟨hw,ap,ae⟩:=M4.li.het;have ae:Paired (Kk H4) hw m.heat:=ae;have aC:=Bh ae;obtain⟨bv,ag,aA⟩:=M4.li.bar;have aw:=Bh aA;have aw:bv.length=m.bar.length:=aw;walk_at "2";refine⟨.inl ⟨rfl,_,AH.of ag⟩,?_⟩;walk_at "2";refine⟨⟨_,AH.of ap⟩,λD2 ar=>?_⟩;refine HB (a:=A.h) (xs:=hw) (λi ys σ H5=>∃(v2:Option V),Paired (Lan.GX H5) ys (AZ (m.heat.take i))/\σ=[some (.ref p),v2]/\AF H4 H5/\H5 D2=some (.lst ys))
      ?_ ?_ ?_ ?_
     .exact⟨none,.nil,rfl,AV ar _,AA⟩
     .rintro i ys σ H5 hi ⟨v2,_,_,hs,_⟩;exact hs.seq (AH.of ap)
     .rintro i y ys σ H5 hy aa ⟨v2,G,rfl,hs,Y⟩;obtain⟨pt,Z,am⟩:=Ww ae hy;have ah:=SJ (Mc.BW.of_same (S:=λ_=>True) hs) am;have ax:=Ag Z;have J:ys.length<=100000:=by
       have h1:=Bh G;have h2:=SH (m.heat.take i);rw[Al]at h2
       lia
      walk_at "2";refine⟨_,_,Mc.Wr ah (λx e=>O.hlay x (e ▸ ax)),.str _ (by decide +kernel),by show min _ 0<=64;lia,?_⟩;refine⟨_,rfl,?_⟩;cases pt with
      | none =>
        have e:(if true=true then !PyData.eqv (KD none) (.str (" ":Str))else PyData.eqv (KD none) (.str (" ":Str)))=false:=by
         show(!PyData.eqv (.str " ") (.str " "))=false;rw[Mc.iJ];rfl
        rw[e];refine AR ?_;refine MW aa ⟨_,?_,rfl,hs,Y⟩;rw[Wx Z,K3,Av];exact G
      | some x =>
        have e:(if true=true then !PyData.eqv (KD (some x)) (.str (" ":Str))else PyData.eqv (KD (some x)) (.str (" ":Str)))=true:=rfl;rw[e];refine BB ?_;walk_at "2";refine EN aa Y J ⟨_,?_,rfl,DO hs ar,AA⟩;rw[Wx Z];exact Ce (Lan.Sy G Y) (P9 (Mc.BW.lst Y) ah)
     .rintro ys σ H5 ⟨v2,G,rfl,W,Y⟩;rw[aC,Ak (Af _)]at G
      have M5:=M4.same W;have aH:=Bh G;have aI:=SH m.heat;refine⟨A.b,D2,bv,ys,rfl,rfl,W _ _ ag,Y,DD (by lia),?_⟩;have aF:=Lan.VW aA W;have M6:MA a c (upd H5 A.b (.lst (bv++ys))) p A { m with togo:=m.togo-1,texts:=m.texts++[Mc.CZ m.heat],bar:=m.bar++AZ m.heat }:=M5.setBar (W _ _ ag) (OZ aF G);have ak:Mc.BC p A H A (upd H5 A.b (.lst (bv++ys))):=(aq.trans (Mc.BC.of_same W)).trans (Mc.BC.lst (by unfold Mc.DU.all;simp) (W _ _ ag));generalize upd H5 A.b (.lst (bv++ys))=H6 at M6 ak⊢;walk_at "2";refine λe7 aj=>?_
      have al:=AV aj (.lst []);have M7:=M6.same al;have I7:=M7.ins;have av:upd H6 e7 (.lst []) e7=some (.lst []):=AA;have an:=M6.new aj;generalize upd H6 e7 (.lst [])=H7 at al M7 I7 av⊢;walk_at "2";refine λH8 I8 k8=>?_
      have I8:IA a H8 p (Mc.vals c { A with h:=e7 } { m with togo:=m.togo-1,texts:=m.texts++[Mc.CZ m.heat],bar:=m.bar++AZ m.heat,heat:=[] }):=I8;have aB:=(ak.trans (Mc.BC.of_same al)).trans (Mc.BC.flds I7 I8 k8);exact q _ H8 (Mc.EW.fields I7 I8 k8 ⟨M7.li.rows,M7.li.lan,M7.li.lns,M7.li.lin,⟨[],av,.nil⟩,M7.li.bar,M7.li.txt⟩ (Mc.SL M7.nd an)) (aB.to (Mc.iK (ak.free aj)))
   .rw[Aq ht]at q
    rw[Ai ht];refine AR ?_;exact q A H2 M2 az
theorem oA(T:Tx K mg a):AJ P w K mg base BL 1 (a.g_Machine 7) (a.h_Machine 7) ["self"] (R5 a Mc.send):=by
 refine T.Machine_send_line.fn.ok kv (λvs H Q E h=>?_) (λai A outer s H vs Q E hr h=>?_)
 .obtain⟨p,A,c,m,rfl,_⟩:=h;rfl
 obtain⟨p,A,c,m,rfl,M,O,q⟩:=h;have I:=M.ins;refine⟨_,(AQ (CF (BU (EZ K rfl hr.units) (BZ (K:=K) rfl T.Machine.cl T.n_Machine_heated Ma (pv 0)) (DA AG) (BM _)) (AL (HG (K:=K) rfl T.Machine.cl T.n_Machine_heated Ma (pv 0) (BZ (K:=K) rfl T.Machine.cl T.n_Machine_line Po (pv 0)))
  (AL (HG (K:=K) rfl T.Machine.cl T.n_Machine_to_go Pp (pv 0) (BZ (K:=K) rfl T.Machine.cl T.n_Machine_casting Xz (pv 0)))
  (AL (HG (K:=K) rfl T.Machine.cl T.n_Machine_line Po (pv 0) (DA AG))
  (AQ (HG (K:=K) rfl T.Machine.cl T.n_Machine_struck Nt (pv 0) (AU DG (BZ (K:=K) rfl T.Machine.cl T.n_Machine_struck Nt (pv 0)) AN)))))) CP)),?_⟩
 walk_at "2";refine λe he=>?_
 have G:=AV he (.lst []);have M1:=M.same G;refine⟨_,_,M1.li.het.den O.hlay,LR AA,LU _,?_⟩;rw[LS KD m.heat];generalize upd H e (.lst [])=H1 at G M1⊢;have I1:=M1.ins;refine⟨_,rfl,?_⟩;unfold Mc.send at q;cases hh:m.heat.isEmpty with
 | false =>
   rw[Aq (by rw[hh];decide)]at q
   refine AR ?_;exact q A H1 M1 (Mc.BC.of_same G)
 | true =>
   rw[Ar hh]at q
   refine BB ?_;walk_at "2";refine λH2 I2 k2=>?_
   walk_at "2";refine λH3 I3 k3=>?_
   walk_at "2";refine λJ Y=>?_
   have F:=AV Y (.lst []);have ad:upd H3 J (.lst []) J=some (.lst []):=AA;have I4:=I3.same F;have ag:∀b o,H3 b=some o->upd H3 J (.lst []) b=some o:=F;generalize upd H3 J (.lst [])=H4 at F ad I4 ag⊢;walk_at "2";refine λH5 I5 k5=>?_
   walk_at "2";refine λH6 W k6=>?_
   have W:IA a H6 p (Mc.vals c { A with h:=A.l,l:=J } { m with heat:=m.line,togo:=c.cast,line:=[],at_:=m.at_+1 }):=by
    have e:((m.at_:Int)+1)=((m.at_+1:Nat):Int):=by lia
    have W:IA a H6 p [some (.ref A.L),some (.ref A.c),some (.str c.keys),some (.int ((m.at_:Int)+1)),some (.int c.cast),some (.ref J),some (.ref A.l),some (.int c.cast),some (.ref A.b),some (.ref A.t),some (.int m.done),some (.int m.waits)]:=W;rw[e]at W
    exact W
   have af:∀b,b≠p->H3 b=H1 b:=λb hb=>(k3 b hb).trans (k2 b hb)
   have ae:∀b,b≠p->H6 b=H4 b:=λb hb=>(k6 b hb).trans (k5 b hb)
   have M3:Mc.FE c H3 A m:=M1.li.keep (by obtain⟨_,_,z,_⟩:=I1;exact Mc.BW.fld z af) (M1.pne);have Z:Mc.FE c H4 A m:=M3.keep (Mc.BW.of_same (S:=λ_=>True) F) λ_ _=>trivial
   have aa:J∉A.all:=λz=>by
    obtain⟨xs,ex⟩:=M3.is J z;rw[Y]at ex
    cases ex
   have ac:=(Mc.BC.of_same (p:=p) (A:=A) G).trans (Mc.BC.flds I1 I3 af);have ah:=(ac.trans (Mc.BC.of_same F)).trans (Mc.BC.flds I4 W ae);exact q _ H6 (Mc.EW.fields I4 W ae ⟨Z.rows,Z.lan,Z.lns,⟨[],ad,.nil⟩,Z.lin,Z.bar,Z.txt⟩ (Mc.SM M.nd aa)) (ah.to (Mc.iL (ac.free Y)))
def oC(a:Ad):Sp:=λvs H Q _=>∃(p:Addr) (A:Mc.DU) (c:Cf) (m:Ms) (v:V) (pt:Mc.CU),vs=[.ref p,v]/\MA a c H p A m/\Kk H v pt/\m.line.length<=99999/\∀F H',MA a c H' p F (Mc.take m pt)->Mc.BC p A H F H'->Q .non H'
theorem oE(T:Tx K mg a):AJ P w K mg base BL 1 (a.g_Machine 8) (a.h_Machine 8) ["self","part"] (oC a):=by
 refine T.Machine_take.fn.ok kz (λvs H Q E h=>?_) (λac A outer s H vs Q E hr h=>?_)
 .obtain⟨p,A,c,m,v,pt,rfl,_⟩:=h;rfl
 obtain⟨p,A,c,m,v,pt,rfl,M,Z,hsz,q⟩:=h;have I:=M.ins;obtain⟨W,hl1,hl2⟩:=M.li.lin;have aa:=Bh hl2;refine⟨_,(AL (EJ (DX K rfl B7 Bi Bj JH (BZ (K:=K) rfl T.Machine.cl T.n_Machine_line Po (pv 0)) (AC (pv 1) AG)))
  (AQ (HG (K:=K) rfl T.Machine.cl T.n_Machine_struck Nt (pv 0) (AU DG (BZ (K:=K) rfl T.Machine.cl T.n_Machine_struck Nt (pv 0)) AN)))),?_⟩
 walk_at "2";refine⟨.inl ⟨rfl,_,AH.of hl1⟩,?_⟩;walk_at "2";refine⟨A.l,W,v,rfl,rfl,hl1,IV (by lia),?_⟩;have M2:MA a c (upd H A.l (.lst (W++[v]))) p A { m with line:=m.line++[pt] }:=M.setLine hl1 (Ce hl2 Z);have J:Mc.BC p A H A (upd H A.l (.lst (W++[v]))):=Mc.BC.lst (by unfold Mc.DU.all;simp) hl1;generalize upd H A.l (.lst (W++[v]))=H2 at M2 J⊢;have I2:=M2.ins;walk_at "2";refine λY G k3=>?_
 have G:IA a Y p (Mc.vals c A (Mc.take m pt)):=by
  have e:((m.at_:Int)+1)=((m.at_+1:Nat):Int):=by lia
  have G:IA a Y p [some (.ref A.L),some (.ref A.c),some (.str c.keys),some (.int ((m.at_:Int)+1)),some (.int c.cast),some (.ref A.l),some (.ref A.h),some (.int m.togo),some (.ref A.b),some (.ref A.t),some (.int m.done),some (.int m.waits)]:=G;rw[e]at G
  exact G
 exact q A Y (M2.setF G k3 rfl rfl rfl rfl rfl) (J.trans (Mc.BC.flds I2 G k3))
theorem oF(T:Tx K mg a):AJ P w K mg base BL 3 (a.g_Machine 6) (a.h_Machine 6) ["self"] (R5 a Mc.strike):=by
 have Y:=@TK P w K mg base a T;have W:=@oA P w K mg base a T;have J:=@oE P w K mg base a T;have G:=@Yw P w K mg base a T;have Z:=@R1 P w K mg base a T;refine T.Machine_move_line.fn.ok XH (λvs H Q E h=>?_) (λau A outer s H vs Q E hr h=>?_)
 .obtain⟨p,A,c,m,rfl,_⟩:=h;rfl
 obtain⟨p,A,c,m,rfl,M,O,q⟩:=h;have I:=M.ins;have hsz:=O.sz;have aw:=SE O;unfold KW at hsz;refine⟨_,(AL (BQ (i:=1) XH.nd rfl AM (JN (K:=K) rfl T.Machine.cl T.Machine_next_key Y hr Tp (pv 0)))
  (AQ (CF (BU EM (pv 1) (HS (v:=.str "/") rfl T.g_SEND_KEY ⟨_,rfl⟩) (BM _)) (AQ (EJ (JN (K:=K) rfl T.Machine.cl T.Machine_send_line W hr kx (pv 0)))) (AQ (CF (BU EM (pv 1) (HS (v:=.str " ") rfl T.g_GAP_KEY ⟨_,rfl⟩) (BM _)) (AQ (EJ (Wg (K:=K) rfl T.Machine.cl T.Machine_take J hr XI (pv 0) (AC (HS (v:=.str " ") rfl T.g_WEDGE ⟨_,rfl⟩) AG)))) (AQ (CF (IC (JN (K:=K) rfl T.Machine.cl T.Machine_lacks_matrix G hr XB (pv 0))) (AQ (HG (K:=K) rfl T.Machine.cl T.n_Machine_waits To (pv 0) (AU DG (BZ (K:=K) rfl T.Machine.cl T.n_Machine_waits To (pv 0)) AN))) (AQ (CF (BU IT (pv 1) CD (BM _)) (AQ (EJ (Wg (K:=K) rfl T.Machine.cl T.Machine_take J hr XI (pv 0) (AC (DX K rfl B7 Jn Jo UD (CA (DR K rfl) (BZ (K:=K) rfl T.Machine.cl T.n_Machine_lying QU (pv 0)) (BN T.channel_of Z hr rfl (AC (BZ (K:=K) rfl T.Machine.cl T.n_Machine_case QV (pv 0)) (AC (pv 1) AG))) (λ_ _=>rfl)) (AC AN AG)) AG)))) CP))))))))),?_⟩
 walk_at "2";refine⟨p,A,c,m,rfl,M,O,?_⟩;unfold Mc.strike at q;walk_at "2";cases hk:EV c m with
 | none =>
   rw[hk]at q
   have es:=Mc.WA hk;have hla:HN c m=false:=Qt (by rw[es];exact O.cf.noWedge.2.2);rw[es,show decide (V.str ("":Str)=V.str ("/":Str))=false from by rw[FP];decide +kernel];refine AR ?_;walk_at "2";refine⟨p,A,c,m,rfl,M,O,λH1 aa=>?_⟩;refine⟨_,rfl,?_⟩;rw[hla];refine AR ?_;walk_at "2";try rw[show(!decide (V.str ("":Str)=V.str ("":Str)))=false from by rw[Ae rfl];rfl]
   try refine AR ?_
   exact q A H1 (M.same aa) (Mc.BC.of_same aa)
 | some k =>
   rw[hk]at q
   have q:∀(A':Mc.DU) (H':Hp),MA a c H' p A' (if k=47 then Mc.send c m else if k=32 then Mc.take m none else if HN c m=true then { m with waits:=m.waits+1 }else match CK c.rs (sg k)with
    | some j=>Mc.pick m j
    | none=>m)->Mc.BC p A H A' H'->Q V.non H':=q
   have es:=Mc.Wz hk;have am:decide (V.str (sg k)=V.str ("/":Str))=decide (k=47):=Wy (d:=47);have al:decide (V.str (sg k)=V.str (" ":Str))=decide (k=32):=Wy (d:=32);rw[es,am];by_cases ae:k=47
   .rw[Ar ae]at q
    rw[Ae ae];refine BB ?_;walk_at "2";exact⟨p,A,c,m,rfl,M,O,q⟩
   .rw[Aq ae]at q
    rw[Ai ae];refine AR ?_;walk_at "2";rw[al];by_cases ad:k=32
    .rw[Ar ad]at q
     rw[Ae ad];refine BB ?_;walk_at "2";exact⟨p,A,c,m,_,none,rfl,M,rfl,by lia,q⟩
    .rw[Aq ad]at q
     rw[Ai ad];refine AR ?_;walk_at "2";refine⟨p,A,c,m,rfl,M,O,λH1 aa=>?_⟩;have M1:=M.same aa;have I1:=M1.ins;refine⟨_,rfl,?_⟩;cases hla:HN c m with
     | true =>
       rw[Ar hla]at q
       refine BB ?_;walk_at "2";refine λH2 I2 k2=>?_
       have I2:IA a H2 p (Mc.vals c A { m with waits:=m.waits+1 }):=I2;exact q A H2 (M1.setF I2 k2 rfl rfl rfl rfl rfl) ((Mc.BC.of_same aa).trans (Mc.BC.flds I1 I2 k2))
     | false =>
       rw[Aq (by rw[hla];decide)]at q
       refine AR ?_;obtain⟨j,hj,x,r,hx⟩:=Mc.Wk O hk ae ad hla;rw[hj]at q
       have q:∀(A':Mc.DU) (H':Hp),MA a c H' p A' (Mc.pick m j)->Mc.BC p A H A' H'->Q V.non H':=q;have ep:Mc.pick m j=Mc.take { m with lanes:=m.lanes.set j r } (some x):=by unfold Mc.pick;rw[hx]
       rw[ep]at q
       walk_at "2";obtain⟨ws,aq,ap⟩:=M1.li.rows;refine⟨A.c,_,c.rs,rfl,⟨ws,AH.of aq,ap⟩,λH2 ag=>?_⟩;rw[hj];have M2:=M1.same ag;have av:=OO hj;obtain⟨lq,af,an⟩:=Cs.Ml M2.li.lns hx;obtain⟨ys,ac,ao⟩:=an;obtain⟨v,vs,rfl,hv,ar⟩:∃v vs,ys=v::vs/\Lan.GX H2 v x/\Paired (Lan.GX H2) vs r:=by
        cases ao with
        | cons h1 h2=>exact⟨_,_,rfl,h1,h2⟩
       have aj:DJ (A.ls.map V.ref) (j:Int)=some (.ref lq):=EY (by rw[Ax,af];rfl);refine⟨A.L,_,(j:Int),_,rfl,rfl,AH.of M2.li.lan,aj,?_⟩;refine⟨.inl ⟨rfl,_,AH.of ac⟩,?_⟩;walk_at "2";refine⟨lq,_,0,0,v,rfl,rfl,ac,by decide,by decide,WE _ _,rfl,?_⟩;have M3:MA a c (upd H2 lq (.lst vs)) p A { m with lanes:=m.lanes.set j r }:=M2.setLane af ac ar;have ah:Mc.BC p A H A (upd H2 lq (.lst vs)):=(Mc.BC.of_same (aa.trans ag)).trans (Mc.BC.lst (by unfold Mc.DU.all;simp[Ag af]) ac);have ai:=P9 (Mc.BW.lst (o:=.lst vs) ac) hv;have ak:((v::vs).eraseIdx 0)=vs:=rfl;rw[ak];generalize upd H2 lq (.lst vs)=H3 at M3 ah ai⊢;exact⟨p,A,c,_,v,some x,rfl,M3,ai,by show m.line.length<=99999;lia,λA' H' M' s'=>q A' H' M' (ah.trans s')⟩
def oG(a:Ad):Sp:=λvs H Q _=>∃(p:Addr) (A:Mc.DU) (c:Cf) (m:Ms),vs=[.ref p]/\MA a c H p A m/\Mc.Ok c m/\(GY c m=true->∀H',AF H H'->Q (.bl false) H')/\(GY c m=false->∀F H',MA a c H' p F (Mc.tick c m)->Mc.BC p A H F H'->Q (.bl true) H')
theorem oH(T:Tx K mg a):AJ P w K mg base BL 4 (a.g_Machine 9) (a.h_Machine 9) ["self"] (oG a):=by
 have W:=@Yx P w K mg base a T;have Y:=@ou P w K mg base a T;have J:=@oy P w K mg base a T;have F:=@oz P w K mg base a T;have G:=@oF P w K mg base a T;refine T.Machine_tick.fn.ok kA (λvs H Q E h=>?_) (λaf A outer s H vs Q E hr h=>?_)
 .obtain⟨p,A,c,m,rfl,_⟩:=h;rfl
 obtain⟨p,A,c,m,rfl,M,O,qf,qt⟩:=h;have I:=M.ins;unfold GY at qf qt;refine⟨_,(AL (CF (PW.pt (Ny (IC (JN (K:=K) rfl T.Machine.cl T.Machine_resting W hr XC (pv 0))) (Nx (IC (JN (K:=K) rfl T.Machine.cl T.Machine_stuck Y hr kl (pv 0)))))) (AQ (BK IB)) CP)
  (AL (EJ (JN (K:=K) rfl T.Machine.cl T.Machine_move_bar J hr ko (pv 0)))
  (AL (EJ (JN (K:=K) rfl T.Machine.cl T.Machine_move_caster F hr kr (pv 0)))
  (AL (EJ (JN (K:=K) rfl T.Machine.cl T.Machine_move_line G hr ku (pv 0)))
  (AL (HG (K:=K) rfl T.Machine.cl T.n_Machine_done Pq (pv 0) (AU DG (BZ (K:=K) rfl T.Machine.cl T.n_Machine_done Pq (pv 0)) AN))
  (AQ (BK IB))))))),?_⟩
 walk_at "2";refine⟨p,A,c,m,rfl,M,O,λH1 aa=>?_⟩;have M1:=M.same aa;have I1:=M1.ins;refine⟨_,rfl,?_⟩;cases ac:Na c m with
 | true =>
   refine BB ?_;exact qf (by rw[ac];rfl) H1 aa
 | false =>
   refine AR ?_;walk_at "2";refine⟨p,A,c,m,rfl,M1,O,λH2 ae=>?_⟩;have Z:=aa.trans ae;have M2:=M.same Z;have I2:=M2.ins;refine⟨_,rfl,?_⟩;cases ad:LP c m with
   | true =>
     refine BB ?_;exact qf (by rw[ac,ad];rfl) H2 Z
   | false =>
     refine AR ?_;walk_at "2";refine⟨p,A,c,m,rfl,M2,O,λA3 H3 M3 s3=>?_⟩;have I3:=M3.ins;walk_at "2";refine⟨p,A3,c,_,rfl,M3,O.fall,λA4 H4 M4 s4=>?_⟩;have I4:=M4.ins;walk_at "2";refine⟨p,A4,c,_,rfl,M4,O.fall.cool,λA5 H5 M5 s5=>?_⟩;have I5:=M5.ins;walk_at "2";refine λH6 I6 k6=>?_
     have I6:IA a H6 p (Mc.vals c A5 (Mc.tick c m)):=I6;exact qt (by rw[ac,ad];rfl) A5 H6 (M5.setF I6 k6 rfl rfl rfl rfl rfl) (((((Mc.BC.of_same Z).trans s3).trans s4).trans s5).trans (Mc.BC.flds I5 I6 k6))
def oI(a:Ad):Sp:=λvs H Q _=>∃(p:Addr) (A:Mc.DU) (c:Cf) (m:Ms),vs=[.ref p]/\MA a c H p A m/\Mc.Ok c m/\∀F H',MA a c H' p F (Mc.fin c m)->Mc.BC p A H F H'->Q (.int ((Mc.fin c m).done-m.done)) H'
theorem oJ(T:Tx K mg a):AJ P w K mg base BL 5 (a.g_Machine 10) (a.h_Machine 10) ["self"] (oI a):=by
 have F:=@oH P w K mg base a T;refine T.Machine_run.fn.ok XJ (λvs H Q E h=>?_) (λac A outer s H vs Q E hr h=>?_)
 .obtain⟨p,A,c,m,rfl,_⟩:=h;rfl
 obtain⟨p,A,c,m,rfl,M,O,q⟩:=h;have I:=M.ins;refine⟨_,(AL (BQ (i:=1) XJ.nd rfl AM (BZ (K:=K) rfl T.Machine.cl T.n_Machine_done Pq (pv 0)))
  (AL (Md Bb (IC (JN (K:=K) rfl T.Machine.cl T.Machine_tick F hr kB (pv 0))) (AQ YW))
  (AQ (BK (AU IH (BZ (K:=K) rfl T.Machine.cl T.n_Machine_done Pq (pv 0)) (pv 1)))))),?_⟩
 walk_at "2";refine⟨λn σ H1=>∃G m1,σ=[some (.ref p),some (.int m.done)]/\MA a c H1 p G m1/\Mc.Ok c m1/\Mc.BC p A H G H1/\Mc.fin c m1=Mc.fin c m/\Mc.CO c m1=n,⟨_,A,m,rfl,M,O,Mc.BC.of_same (AF.refl _),rfl,rfl⟩,?_⟩;rintro n σ H1 ⟨G,m1,rfl,M1,O1,Y,hf,rfl⟩;have I1:=M1.ins;refine⟨_,rfl,?_⟩;refine⟨_,_,rfl,I1,?_⟩;refine⟨p,G,c,m1,rfl,M1,O1,λZ H2 W=>?_,λZ A2 H2 M2 aa=>?_⟩
 .refine⟨_,rfl,?_⟩;refine AR ?_;have M2:=M1.same W;have I2:=M2.ins;walk_at "2";have e:=Mc.iE Z;rw[hf]at e
  rw[e]at q
  exact q G H2 M2 (Y.trans (Mc.BC.of_same W))
 .refine⟨_,rfl,?_⟩;refine BB ?_;refine⟨λJ H'=>J=[some (.ref p),some (.int m.done)]/\H'=H2,?_,⟨rfl,rfl⟩⟩;rintro J H' ⟨rfl,rfl⟩;exact⟨_,Mc.P7 O1 Z,A2,_,rfl,M2,O1.tick,Y.trans aa,(Mc.iF O1 Z).trans hf,rfl⟩
def oK(a:Ad)(F:Cf->Ms->Hp->Hp->Addr->Prop):Sp:=λvs H Q _=>∃(p:Addr) (A:Mc.DU) (c:Cf) (m:Ms),vs=[.ref p]/\MA a c H p A m/\Mc.Ok c m/\∀r H',H r=none->AF H H'->F c m H H' r->Q (.ref r) H'
theorem oM(T:Tx K mg a):AJ P w K mg base BL 1 (a.g_Machine 11) (a.h_Machine 11) ["self"] (oK a λc m H H' r=>H' r=some (.lst (m.texts.map V.str))):=by
 refine T.Machine_slugs.fn.ok kD (λvs H Q E h=>?_) (λG A outer s H vs Q E F h=>?_)
 .obtain⟨p,A,c,m,rfl,_⟩:=h;rfl
 obtain⟨p,A,c,m,rfl,M,O,q⟩:=h;have I:=M.ins;refine⟨_,(AQ (BK (JT (OJ K rfl) rfl T.b_list OB (AC (BZ (K:=K) rfl T.Machine.cl T.n_Machine_texts Tn (pv 0)) AG)))),?_⟩;walk_at "2";refine⟨A.t,_,rfl,.inl (AH.of M.li.txt),λr F=>?_⟩;exact q r _ F (AV F _) AA
def Yy:Sp:=λ_ _ _ _=>False
theorem oN:AJ P w K mg base CX k f fd ps Yy:=⟨λ_ _ _ _ h=>h.elim,λ_ _ _ _ _ _ _ _ _ _ _ _ _ h=>h.elim⟩
def oO:Sp:=λvs H Q _=>∃(c:Addr) (xs:List V) (rs:List CC),vs=[.ref c,.non]/\H c=some (.lst xs)/\Paired (Cs.HL H) xs rs/\rs.length<=100/\(∀r∈rs,0<=r.n/\r.n<=1000) /\
 (∀(D:Addr) (ls:List Addr) H',H D=none->AF H H'->H' D=some (.lst (ls.map V.ref))->Paired (Mc.DZ H') ls (Kl rs)->(D::ls).Nodup->(∀z∈ls,H z=none)->Q (.ref D) H')
theorem oP(T:Tx K mg a):AJ P w K mg base BL 2 (a.f 13) (a.d 13) ["case","broken"] oO:=by
 have I:AJ P w K mg base BL 1 (a.f 12) (a.d 12) ["case","ahead","channel","teeth"] Yy:=oN;refine T.channels_of.fn.ok L0 (λvs H Q E h=>?_) (λaK A outer s H vs Q E hr h=>?_)
 .obtain⟨c,xs,rs,rfl,_⟩:=h;rfl
 obtain⟨c,xs,rs,rfl,hc,aw,aJ,aA,q⟩:=h;have aG:=Mj aw;refine⟨_,(AL (Mi (i:=2) L0.nd rfl AM rfl (FJ K rfl (pv 0)) (BH.of (N':=["case","broken","channels","ahead","at","part","channel","lost","sign","width","own","many","teeth"]) (ms:=[8,9,11]) (k:=1) (by rfl)) (λ_ _ _ _ _=>(FO K rfl (n:=4) rfl (BY (BF (i:=8) (show List.Nodup (["case","broken","channels","ahead","at","part","channel","lost","sign","width","own","many","teeth"]:List Str)from by decide +kernel) rfl AM) (BY (BF (i:=9) (show List.Nodup (["case","broken","channels","ahead","at","part","channel","lost","sign","width","own","many","teeth"]:List Str)from by decide +kernel) rfl AM) (BY (BF (i:=12) (show List.Nodup (["case","broken","channels","ahead","at","part","channel","lost","sign","width","own","many","teeth"]:List Str)from by decide +kernel) rfl AM) (BY (BF (i:=11) (show List.Nodup (["case","broken","channels","ahead","at","part","channel","lost","sign","width","own","many","teeth"]:List Str)from by decide +kernel) rfl AM) FL)))))) (λ_ _ _ _ _=>GG) (λ_ _ _ _ _=>(AU RL (DA (AC (EE (AC (pv 8) (AC (pv 12) AG))) AG)) (pv 11))))
  (AL (BQ (i:=3) L0.nd rfl AM (DA AG))
  (AL (GL Bb rfl (S3 K rfl rfl T.b_enumerate (AC (Nz (Nw (Rb (pv 1))) (DA AG) (pv 1)) AG)) (FO K rfl (n:=2) rfl (BY (BF (i:=4) L0.nd rfl AM) (BY (BF (i:=5) L0.nd rfl AM) FL))) (AL (IG (pv 5) (FO K rfl (n:=2) rfl (BY (BF (i:=6) L0.nd rfl AM) (BY (BF (i:=7) L0.nd rfl AM) FL))))
  (AL (CF (Oj (IC (BN T.can_break I hr rfl (AC (pv 0) (AC (pv 3) (AC (pv 6) (AC (pv 7) AG))))))) (AQ Lv) CP)
  (AL (IG (CA (DR K rfl) (pv 0) (pv 6) (λ_ _=>rfl)) (FO K rfl (n:=4) rfl (BY (BF (i:=8) L0.nd rfl AM) (BY (BF (i:=9) L0.nd rfl AM) (BY (BF (i:=10) L0.nd rfl AM) (BY (BF (i:=11) L0.nd rfl AM) FL))))))
  (AL (IG (EE (AC (pv 8) (AC (AU IH (pv 10) (pv 7)) AG))) (U2 (CA (DR K rfl) (pv 2) (pv 6) (λ_ _=>rfl)) (DX K rfl B7 PySem.F.slot_list_count PySem.F.type_list_count gY (pv 3) (AC (pv 6) AG)) Uv))
  (AQ (EJ (DX K rfl B7 Bi Bj JH (pv 3) (AC (pv 6) AG)))))))))
  (AQ (BK (pv 2)))))),?_⟩
 walk_at "2";refine⟨⟨_,AH.of hc⟩,λD hD=>?_⟩;refine HB (a:=c) (xs:=xs) (λj zs σ H2=>∃(w8 w9 al ai:Option V),σ=[some (.ref c),some .non,none,none,none,none,none,none,w8,w9,none,al,ai]/\AF H H2/\H2 D=some (.lst zs)/\Paired (Lan.N6 H D H2) zs ((Kl rs).take j)/\zs.Nodup)
  ?_ ?_ ?_ ?_
 .exact⟨none,none,none,none,rfl,AV hD _,AA,.nil,F1⟩
 .rintro j zs σ H2 hj ⟨_,_,_,_,_,hs,_⟩;exact hs.seq (AH.of hc)
 .rintro j y zs σ H2 hy aH ⟨w8,w9,al,ai,rfl,Z,aa,W,ag⟩;obtain⟨r,ax,t,rfl,ht⟩:=FU aw hy;have aI:=aA r (Ag ax);have aE:=Bh W;rw[Al]at aE
  refine⟨_,_,rfl,BP.of (Z _ _ ht),rfl,?_⟩;walk_at "1";walk_at "1";walk_at "1";walk_at "1";try refine And.intro rfl ?_
  walk_at "2";intro pt az;have J:=AV az (.tup [.str r.s,.int r.t]);have aq:upd H2 pt (.tup [.str r.s,.int r.t]) pt=some (.tup [.str r.s,.int r.t]):=AA;generalize upd H2 pt (.tup [.str r.s,.int r.t])=H3 at J aq⊢;walk_at "2";intro p1 aB;have G:=AV aB (.lst [.ref pt]);have av:upd H3 p1 (.lst [.ref pt]) p1=some (.lst [.ref pt]):=AA;generalize upd H3 p1 (.lst [.ref pt])=H4 at G av⊢;walk_at "2";refine⟨p1,_,_,rfl,rfl,av,by lia,by lia,DD (by show 1*r.n.toNat<=_;lia),λp2 ac=>?_⟩;have ay:(List.replicate r.n.toNat [V.ref pt]).flatten=List.replicate r.n.toNat (V.ref pt):=by
   generalize r.n.toNat=n;induction n with
   | zero=>rfl
   | succ n ih=>rw[Co,Cr,ih];rfl
  rw[ay];have aj:=AV ac (.lst (List.replicate r.n.toNat (V.ref pt)));have ar:upd H4 p2 (.lst (List.replicate r.n.toNat (V.ref pt))) p2=some (.lst (List.replicate r.n.toNat (V.ref pt))):=AA;generalize upd H4 p2 (.lst (List.replicate r.n.toNat (V.ref pt)))=H5 at aj ar⊢;have Y:=J.trans (G.trans aj);have ak:=Y _ _ aa;have am:p2≠D:=λe=>by rw[e,(J.trans G) _ _ aa]at ac;cases ac
  have ad:H2 p2=none:=J.free (G.free ac);refine EN aH ak (by lia) ⟨_,_,_,_,rfl,DO (Z.trans Y) hD,AA,?_,?_⟩
  .have e0:(Kl rs)[j]?=some (List.replicate r.n.toNat (r.s,r.t)):=by
    unfold Kl;rw[Ax,ax];rfl
   rw[Ay,e0];refine Ce (Lan.h7 (Lan.gZ W Y) ak) ⟨p2,_,rfl,am,Z.free ad,by rw[BV am];exact ar,Lan.Sy (Lan.VX ⟨pt,rfl,(G.trans aj) _ _ aq⟩ _) ak⟩
  .rw[Dn];refine⟨ag,by simp,λx hx y hy=>?_⟩;rw[Aj.mp hy];exact λe=>Lan.h8 W ad (e ▸ hx)
 .rintro zs σ H2 ⟨w8,w9,al,ai,rfl,Z,aa,W,ag⟩;rw[aG,Ak (by unfold Kl;rw[A6];exact Af _)]at W
  obtain⟨ls,rfl,aD,aC,aF⟩:=Mc.iM W ag;walk_at "2";intro ph an;have J:=FN (o:=.lst []) Z an;have ae:=AV an (.lst []);generalize upd H2 ph (.lst [])=H3 at J ae⊢;walk_at "2";intro pe ap;have G:=FN (o:=.lst []) ae ap;have af:=FN (o:=.lst []) J ap;have ah:upd H3 pe (.lst []) pe=some (.lst []):=AA;generalize upd H3 pe (.lst [])=H4 at G af ah⊢;refine⟨pe,rfl,⟨_,AH.of ah⟩,?_⟩;refine RN (a:=pe) (xs:=[]) (λi σ H5=>∃(v4 v5 v6 v7 v8 v9 au ao:Option V),σ=[some (.ref c),some .non,some (.ref D),some (.ref ph),v4,v5,v6,v7,v8,v9,au,ao]/\H5=H4)
   ⟨none,none,none,none,none,none,none,none,rfl,rfl⟩ (by rintro i σ H5 _ ⟨_,_,_,_,_,_,_,_,_,e⟩;exact by rw[e];exact AH.of ah) ?_ ?_
  .rintro i y tp σ H5 hy _ _;cases hy
  .rintro σ H5 ⟨v4,v5,v6,v7,v8,v9,au,ao,rfl,rfl⟩;refine⟨_,rfl,?_⟩;exact q D ls H5 hD af (G _ _ aa) (Mp (Mc.BW.of_same (S:=λ_=>True) G) (λ_ _=>trivial) aD) aC aF
def NU(a:Ad):Sp:=λvs H Q _=>∃(p F dx:Addr) (c:Cf) (xs:List V),vs=[.ref p,.ref F,.str c.keys,.int c.cast,.non]/\H p=some (.ins a.c_Machine dx [])/\H F=some (.lst xs)/\Paired (Cs.HL H) xs c.rs/\NW c/\HE c.rs false c.keys.cps.toList=true/\(∀r∈c.rs,0<=r.n/\r.n<=1000) /\
 ∀A H',MA a c H' p A (Mc.start c.rs)->Mc.CV p H H'->(∀b∈A.all,H b=none)->Q .non H'
theorem oQ(T:Tx K mg a):AJ P w K mg base BL 4 a.f_Machine_init a.d_Machine_init ["self","case","keys","casting","broken"] (NU a):=by
 have J:=@Y7 P w K mg base a T;have Y:=@oP P w K mg base a T;refine T.Machine.fn.ok kg (λvs H Q E h=>?_) (λbv A outer s H vs Q E hr h=>?_)
 .obtain⟨p,pc,dx,c,xs,rfl,_⟩:=h;rfl
 obtain⟨p,pc,dx,c,xs,rfl,hp,hc,aM,OC,hok,bc,q⟩:=h;have bl:=OC.few;have I0:IA a H p (List.replicate FK.length none):=⟨dx,[],hp,FS.nil (by decide)⟩
 refine⟨_,(AL (EJ (BN T.look_at_keys J hr rfl (AC (pv 1) (AC (pv 2) AG))))
  (AL (HG (K:=K) rfl T.Machine.cl T.n_Machine_lying QU (pv 0) (BN T.channels_of Y hr rfl (AC (pv 1) (AC (pv 4) AG))))
  (AL (HG (K:=K) rfl T.Machine.cl T.n_Machine_case QV (pv 0) (JT (OJ K rfl) rfl T.b_list OB (AC (pv 1) AG)))
  (AL (HG (K:=K) rfl T.Machine.cl T.n_Machine_played Tj (pv 0) (pv 2))
  (AL (HG (K:=K) rfl T.Machine.cl T.n_Machine_struck Nt (pv 0) AN)
  (AL (HG (K:=K) rfl T.Machine.cl T.n_Machine_casting Xz (pv 0) (pv 3))
  (AL (HG (K:=K) rfl T.Machine.cl T.n_Machine_line Po (pv 0) (DA AG))
  (AL (HG (K:=K) rfl T.Machine.cl T.n_Machine_heated Ma (pv 0) (DA AG))
  (AL (HG (K:=K) rfl T.Machine.cl T.n_Machine_to_go Pp (pv 0) AN)
  (AL (HG (K:=K) rfl T.Machine.cl T.n_Machine_hanging Ob (pv 0) (DA AG))
  (AL (HG (K:=K) rfl T.Machine.cl T.n_Machine_texts Tn (pv 0) (DA AG))
  (AL (HG (K:=K) rfl T.Machine.cl T.n_Machine_done Pq (pv 0) AN)
  (AQ (HG (K:=K) rfl T.Machine.cl T.n_Machine_waits To (pv 0) AN)))))))))))))),?_⟩
 walk_at "2";refine⟨pc,_,c.rs,rfl,⟨xs,AH.of hc,aM⟩,OC.short,hok,OC.ends,λH1 Z=>?_⟩;walk_at "2";refine⟨pc,xs,c.rs,rfl,Z _ _ hc,II aM Z,by lia,bc,λD ls H2 hD a4 aa aY bg a2=>?_⟩;have I2:=I0.same (Z.trans a4);walk_at "2";refine λH3 I3 k3=>?_
 have o3:=(Mc.CV.of_same (p:=p) (Z.trans a4)).trans (Mc.CV.of_fld k3);have a7:=WB I0 hc;walk_at "2";refine⟨pc,xs,rfl,.inl (AH.of (o3 _ _ a7 hc)),λe4 av=>?_⟩;have aG:=AV av (.lst xs);have ae:upd H3 e4 (.lst xs) e4=some (.lst xs):=AA;have I4:=I3.same aG;generalize upd H3 e4 (.lst xs)=H4 at aG ae I4⊢;walk_at "2";refine λH5 I5 k5=>?_
 have o5:=(Mc.CV.of_same (p:=p) aG).trans (Mc.CV.of_fld k5);walk_at "2";refine λH6 I6 k6=>?_
 walk_at "2";refine λH7 I7 k7=>?_
 walk_at "2";refine λH8 I8 k8=>?_
 have o8:=((Mc.CV.of_fld k6).trans (Mc.CV.of_fld k7)).trans (Mc.CV.of_fld k8);walk_at "2";refine λe9 ai=>?_
 have aH:=AV ai (.lst []);have aw:upd H8 e9 (.lst []) e9=some (.lst []):=AA;have I9:=I8.same aH;generalize upd H8 e9 (.lst [])=H9 at aH aw I9⊢;walk_at "2";refine λa6 aI aq=>?_
 have ag:=(Mc.CV.of_same (p:=p) aH).trans (Mc.CV.of_fld aq);walk_at "2";refine λap W=>?_
 have am:=AV W (.lst []);have ad:upd a6 ap (.lst []) ap=some (.lst []):=AA;have a':=aI.same am;generalize upd a6 ap (.lst [])=bx at am ad a'⊢;walk_at "2";refine λbp bq ax=>?_
 walk_at "2";refine λa3 aK ay=>?_
 have ac:=((Mc.CV.of_same (p:=p) am).trans (Mc.CV.of_fld ax)).trans (Mc.CV.of_fld ay);walk_at "2";refine λak I=>?_
 have au:=AV I (.lst []);have an:upd a3 ak (.lst []) ak=some (.lst []):=AA;have a8:=aK.same au;generalize upd a3 ak (.lst [])=bu at au an a8⊢;walk_at "2";refine λaZ aO aN=>?_
 have ah:=(Mc.CV.of_same (p:=p) au).trans (Mc.CV.of_fld aN);walk_at "2";refine λar G=>?_
 have ao:=AV G (.lst []);have aD:upd aZ ar (.lst []) ar=some (.lst []):=AA;have a9:=aO.same ao;generalize upd aZ ar (.lst [])=bw at ao aD a9⊢;walk_at "2";refine λbo bt aU=>?_
 walk_at "2";refine λbr bn a0=>?_
 walk_at "2";refine λaL aE aT=>?_
 have aX:=(((Mc.CV.of_same (p:=p) ao).trans (Mc.CV.of_fld aU)).trans (Mc.CV.of_fld a0)).trans (Mc.CV.of_fld aT);have aE:IA a aL p (Mc.vals c ⟨D,e4,e9,ap,ak,ar,ls⟩ (Mc.start c.rs)):=aE;have bb:=o3.trans o5;have aQ:=bb.trans o8;have aC:=aQ.trans ag;have aA:=aC.trans ac;have az:=aA.trans ah;have aB:=az.trans aX;have aR:=aX;have aW:=ah.trans aR;have aV:=ac.trans aW;have f8:=ag.trans aV;have f5:=o8.trans f8;have f3:=o5.trans f5;have f2:=(Mc.CV.of_fld k3).trans f3;have f4:=(Mc.CV.of_fld k5).trans f5;have f9:=(Mc.CV.of_fld aq).trans aV;have bi:=((Mc.CV.of_fld ax).trans (Mc.CV.of_fld ay)).trans aW;have be:=(Mc.CV.of_fld aN).trans aR;have bf:=((Mc.CV.of_fld aU).trans (Mc.CV.of_fld a0)).trans (Mc.CV.of_fld aT);have af:=WB I2 aa;have a1:∀z∈ls,z≠p:=λz hz=>NY (I0.same Z) (a2 z hz)
 have n4:=NY I3 av;have n9:=NY I8 ai;have aF:=NY aI W;have aS:=NY aK I;have ba:=NY aO G;have bd:Paired (Mc.DZ aL) ls (Mc.start c.rs).lanes:=Mp (Mc.CV.keep I2 f2) a1 aY;have aj:∀z∈ls,∃ws,H2 z=some (.lst ws):=λz hz=>by
  obtain⟨i,hi,e⟩:=Bt hz;obtain⟨_,_,ws,hw,_⟩:=FU aY (A7 hi);rw[e]at hw
  exact⟨ws,hw⟩
 have F:∀{x e:Addr}{Hk:Hp}{ws:List V},Hk x=some (.lst ws)->Hk e=none->x≠e:=λh1 h2 z=>by rw[z,h2]at h1;cases h1
 obtain⟨bh,bj⟩:=By.mp bg;have g3:=Mc.CV.of_fld k3;have g8:=(g3.trans o5).trans o8;have aP:=g8.trans ag;have aJ:=aP.trans ac;have a5:=aJ.trans ah;have al:∀{e:Addr}{Hk:Hp},Mc.CV p H2 Hk->Hk e=none->e∉ls:=λo h hz=>by
  obtain⟨ws,hw⟩:=aj _ hz;rw[o _ _ (a1 _ hz) hw]at h
  cases h
 refine q ⟨D,e4,e9,ap,ak,ar,ls⟩ aL ⟨aE,?_,⟨⟨xs,f4 _ _ n4 ae,?_⟩,f2 _ _ af aa,bd,⟨[],f9 _ _ n9 aw,.nil⟩,⟨[],bi _ _ aF ad,.nil⟩,⟨[],be _ _ aS an,.nil⟩,bf _ _ ba aD⟩⟩ aB ?_
 .unfold Mc.DU.all;simp only[By,Am,Kg];exact⟨⟨F (g3 _ _ af aa) av,F (g8 _ _ af aa) ai,F (aP _ _ af aa) W,F (aJ _ _ af aa) I,F (a5 _ _ af aa) G,bh⟩,
   ⟨F (((Mc.CV.of_fld k5).trans o8) _ _ n4 ae) ai,F ((((Mc.CV.of_fld k5).trans o8).trans ag) _ _ n4 ae) W,F (((((Mc.CV.of_fld k5).trans o8).trans ag).trans ac) _ _ n4 ae) I,F ((((((Mc.CV.of_fld k5).trans o8).trans ag).trans ac).trans ah) _ _ n4 ae) G,al g3 av⟩,
   ⟨F ((Mc.CV.of_fld aq) _ _ n9 aw) W,F (((Mc.CV.of_fld aq).trans ac) _ _ n9 aw) I,F ((((Mc.CV.of_fld aq).trans ac).trans ah) _ _ n9 aw) G,al g8 ai⟩,
   ⟨F (((Mc.CV.of_fld ax).trans (Mc.CV.of_fld ay)) _ _ aF ad) I,F ((((Mc.CV.of_fld ax).trans (Mc.CV.of_fld ay)).trans ah) _ _ aF ad) G,al aP W⟩,
   ⟨F ((Mc.CV.of_fld aN) _ _ aS an) G,al aJ I⟩,al a5 G,bj⟩
 .exact Mc.NX (Mc.CV.keep I0 aB) aM
 .unfold Mc.DU.all;intro b hb;simp only[Am]at hb;rcases hb with rfl|rfl|rfl|rfl|rfl|rfl|hb
  .exact Z.free hD
  .exact o3.free I3 av
  .exact aQ.free I8 ai
  .exact aC.free aI W
  .exact aA.free aK I
  .exact az.free aO G
  .exact Z.free (a2 b hb)
def Ku(rs:List CC):List CC:=rs.map λr=>⟨r.s,r.w,r.t,40⟩
theorem oR(rs:List CC)(x:Str):CK (Ku rs) x=CK rs x:=by
 unfold CK Ku;rw[List.findIdx?_map];rfl
theorem GQ.forty(R:GQ most rs):GQ 40 (Ku rs):=by
 have mem:∀{r:CC},r∈Ku rs->∃F∈rs,r.s=F.s/\r.w=F.w/\r.t=F.t/\r.n=40:=λ{r} h=>by
  obtain⟨F,h1,rfl⟩:=Bw.mp h;exact⟨F,h1,rfl,rfl,rfl,rfl⟩
 have G:((Ku rs).map λr=>r.t)=rs.map λr=>r.t:=by
  unfold Ku;rw[Ff];rfl
 have I:(Ku rs).length=rs.length:=A6 _;refine⟨by rw[I];exact R.l1,by rw[I];exact R.l2,λr h=>?_,λr h=>?_,λr h=>?_,λr h=>?_,by rw[G];exact R.nd,by rw[G];exact R.ft,λj r h=>?_⟩
 .obtain⟨F,h1,e,_⟩:=mem h;rw[e];exact R.sg F h1
 .obtain⟨F,h1,_,e,_⟩:=mem h;rw[e];exact R.wd F h1
 .obtain⟨F,h1,_,_,e,_⟩:=mem h;rw[e];exact R.th F h1
 .obtain⟨F,h1,_,_,_,e⟩:=mem h;rw[e];exact⟨by decide,by decide⟩
 .unfold Ku at h;rw[Ax]at h
  obtain⟨F,h1,rfl⟩:=B6.mp h;rw[oR];exact R.pl j F h1
def CW(tw:Int):Nat->List BE->List BE
 | _,[]=>[]
 | k,p::ps=>(if (k:Int)=tw then [p,p]else [p])++CW tw (k+1) ps
theorem Yz(tw:Int):∀(ps:List BE) (k:Nat) (p:BE),CW tw k (ps++[p])=CW tw k ps++(if ((k+ps.length:Nat):Int)=tw then [p,p]else [p])
 | [],k,p=>by show _++[]=_;rw[Av];rfl
 | x::ps,k,p=>by
   show _++CW tw (k+1) (ps++[p])=_;rw[Yz tw ps (k+1) p,show k+1+ps.length=k+(x::ps).length by rw[B8];lia,<-Ao];rfl
theorem YA:∀{ps:List BE}{k:Nat}{p:BE},p∈CW tw k ps->p∈ps
 | x::ps,k,p,h=>by
   rcases Az.mp h with h|h
   .split at h
    .simp only[Am,Bf,D7,or_self]at h;rw[h];exact Ab
    .rw[Aj.mp h];exact Ab
   .exact Ac _ (YA h)
theorem TQ:∀{ps:List BE}{k:Nat},(∀p∈ps,p.2.2.length<=14)->(CW tw k ps).length<=2*ps.length/\KE (CW tw k ps)<=28*ps.length/\((tw<k->(CW tw k ps).length<=ps.length)/\(CW tw k ps).length<=ps.length+1)
 | [],_,_=>⟨B9 _,B9 _,λ_=>B9 _,B9 _⟩
 | x::ps,k,h=>by
   obtain⟨h1,h2,F,W⟩:=TQ (tw:=tw) (k:=k+1) λp I=>h p (Ac _ I)
   have Y:=h x Ab;have G:KE [x,x]=x.2.2.length+x.2.2.length:=by show x.2.2.length+(x.2.2.length+0)=_;lia
   have J:KE [x]=x.2.2.length:=by show x.2.2.length+0=_;lia
   show((if (k:Int)=tw then [x,x]else [x])++CW tw (k+1) ps).length<=2*(ps.length+1)/\KE ((if (k:Int)=tw then [x,x]else [x])++CW tw (k+1) ps)<=28*(ps.length+1)/\((tw<k->((if (k:Int)=tw then [x,x]else [x])++CW tw (k+1) ps).length<=ps.length+1)/\((if (k:Int)=tw then [x,x]else [x])++CW tw (k+1) ps).length<=ps.length+1+1)
   rw[Jb.WR,Aa];split
   .rename_i e;have F:=F (by lia);rw[G];refine⟨by show 2+_<=_;lia,by lia,λz=>by lia,by show 2+_<=_;lia⟩
   .rw[J];refine⟨by show 1+_<=_;lia,by lia,λz=>by have:=F (by lia);show 1+_<=_;lia,by show 1+_<=_;lia⟩
theorem oS(h:FH rs p)(tw:Int)(k:Nat)(s:Jb.St):BS (EC 4) (jb tw k p) s=(if (k:Int)=tw then [p,p]else [p],(p.1,p.2.1)):=by
 obtain⟨lo,md,hi,e,_⟩:=h.g;obtain⟨m,F,ws⟩:=p;have e:F=[lo,md,hi]:=e;subst e;unfold jb;split
 .show((HY (BS (EC 3) _) 2 s).1++[],(HY (BS (EC 3) _) 2 s).2)=_;have f:∀s,BS (EC 3) ((Kq (m,[lo,md,hi],ws)).map λb=>(Sum.inl b:CS 3)) s=([(m,[lo,md,hi],ws)],(m,[lo,md,hi])):=λs=>rfl
  have G:HY (BS (EC 3) ((Kq (m,[lo,md,hi],ws)).map λb=>(Sum.inl b:CS 3))) 2 s=([(m,[lo,md,hi],ws),(m,[lo,md,hi],ws)],(m,[lo,md,hi])):=by
   unfold HY;rw[f s,Aq (λz=>nomatch z)];unfold HY;rw[f,Aq (λz=>nomatch z)];rfl
  rw[G];rfl
 .rfl
theorem YB:∀{ps:List BE}{k:Nat}{s:Jb.St},(∀p∈ps,FH rs p)->(BS (EC 4) (GZ tw k ps).flatten s).1=CW tw k ps
 | [],_,_,_=>rfl
 | p::ps,k,s,h=>by
   show(BS (EC 4) (jb tw k p++(GZ tw (k+1) ps).flatten) s).1=_;rw[SW,oS (h p Ab)];show _++(BS (EC 4) (GZ tw (k+1) ps).flatten (p.1,p.2.1)).1=_;rw[YB λq F=>h q (Ac _ F)];rfl
def Od(p:BE):PyData:=.tuple [.int p.1,.tuple (p.2.1.map PyData.int),FX p.2.2]
theorem oU(p:BE):nb (Od p)=true:=by
 show(nb (.int p.1)&&(nb (.tuple (p.2.1.map PyData.int))&&(nb (FX p.2.2)&&true)))=true;have h1:nb (.tuple (p.2.1.map PyData.int))=true:=OE p.2.1;have h2:nb (FX p.2.2)=true:=Qb p.2.2;rw[h1,h2];rfl
theorem oV(p:BE):(Od p).depth<=2:=by
 show max 0 (max (PyData.depthAll (p.2.1.map PyData.int)+1) (max (PyData.depthAll (p.2.2.map PyData.str)+1) 0))+1<=2;have:=RQ p.2.1;have:=Qc p.2.2
 lia
abbrev Py(ps:List BE):PyData:=.list (ps.map Od)
theorem oW(ps:List BE)(e:PyData):min (Py ps).depth e.depth<=64:=by
 have h:PyData.depthAll (ps.map Od)<=2:=Jb.WU oV;have q:(Py ps).depth=PyData.depthAll (ps.map Od)+1:=rfl
 lia
theorem YC{K:Frag}(h:Paired F vs ps)(hF:∀v p,F v p->∃t g w,v=.ref t/\H t=some (.tup [.int p.1,.ref g,.ref w])/\BP K H g (p.2.1.map V.int)/\H w=some (.lst (p.2.2.map V.str)))(hl:∀p∈ps,∀x∈p.2.2,PyData.canLay0 (.str x)=true):EF K H vs (ps.map Od) :=
 Jb.WS h λv p J z=>by
  obtain⟨t,g,w,rfl,h1,h2,I⟩:=hF v p z;exact .tup (BP.of h1) (.cons (.int _) (.cons (.tup h2 (RS _)) (.cons (.lst (AH.of I) (Li λx G=>hl p J x G)) .nil)))
def oX(K:Frag):Sp:=λF H Q _=>∃(G:Addr) (N:Addr->Prop) (js:List (CS 4)) (xs:List V),F=[.ref G]/\H G=some (.lst xs)/\Paired (Jb.BO N H 4) xs js/\js.length<=1000/\Jb.EA (Kt js).1 /\
 ∀(q:Addr) (vs:List V) H',H q=none->AF H H'->H' q=some (.lst vs)->ET K H q H' vs (Kt js).1->Q (.ref q) H'
theorem oY(T:Tx K mg a):AJ P w K mg base BL 11 (a.f 45) (a.d 45) ["jobs"] (oX K):=Tt (om T) λvs H Q E h=>by
 obtain⟨jl,N,js,xs,e,G,Z,hl,J,q⟩:=h;exact⟨jl,N,js,xs,e,G,Z,hl,λ_ F H' h1 h2 ⟨vs,W,I⟩=>q F vs H' h1 h2 W I,λY=>absurd J Y⟩
def sp_law(K:Frag):Sp:=λvs H Q _=>∃(l:Addr) (ns:List Int),vs=[.ref l]/\AH K H l (ns.map V.int)/\ns.length<=63/\∀H',Q (.bl true) H'
theorem ok_law(T:Tx K mg a):AJ P w K mg base BL lawLevel (a.f 63) (a.d 63) ["_law_script"] (sp_law K):=by
 have ao:=@l7 P w K mg base a T;have G:=@Tq P w K mg base a T;have W:=@lx P w K mg base a T;have au:=@lE P w K mg base a T;have am:=@nW P w K mg base a T;have ah:=@nZ P w K mg base a T;have Z:=@oY P w K mg base a T;have ag:=mY (P:=P) (w:=w) (base:=base) T (most:=40);have aA:=@n8 P w K mg base a T;have ap:=@Y8 P w K mg base a T;have an:=@n5 P w K mg base a T;have aj:=@nD P w K mg base a T;have aa:=@oQ P w K mg base a T;have ae:=@oJ P w K mg base a T;have Y:=@oM P w K mg base a T;have I:=@Yx P w K mg base a T;refine T.law.fn.ok JA (λvs H Q E h=>?_) (λde A outer s H vs Q E J h=>?_)
 .obtain⟨l,ns,rfl,_⟩:=h;rfl
 obtain⟨l,ns,rfl,hS,hl,q⟩:=h;refine⟨_,(AL (Mi (i:=1) JA.nd rfl AM rfl (FJ K rfl (BN T.law_case ao J rfl (AC (pv 0) (AC AN AG)))) (BH.of (N':=["_law_script","_law_case_here","_law_paragraphs_here","_law_twice","_law_text","_law_due","_law_k","_law_jobs","_law_lines","_law_paragraph","_law_found","_law_keys","_law_machine","_law_texts","_law_sign","_law_width","_law_teeth","_law_many"]) (ms:=[]) (k:=4) (by rfl)) (λ_ _ _ _ _=>(FO K rfl (n:=4) rfl (BY (BF (i:=14) (show List.Nodup (["_law_script","_law_case_here","_law_paragraphs_here","_law_twice","_law_text","_law_due","_law_k","_law_jobs","_law_lines","_law_paragraph","_law_found","_law_keys","_law_machine","_law_texts","_law_sign","_law_width","_law_teeth","_law_many"]:List Str)from by decide +kernel) rfl AM) (BY (BF (i:=15) (show List.Nodup (["_law_script","_law_case_here","_law_paragraphs_here","_law_twice","_law_text","_law_due","_law_k","_law_jobs","_law_lines","_law_paragraph","_law_found","_law_keys","_law_machine","_law_texts","_law_sign","_law_width","_law_teeth","_law_many"]:List Str)from by decide +kernel) rfl AM) (BY (BF (i:=16) (show List.Nodup (["_law_script","_law_case_here","_law_paragraphs_here","_law_twice","_law_text","_law_due","_law_k","_law_jobs","_law_lines","_law_paragraph","_law_found","_law_keys","_law_machine","_law_texts","_law_sign","_law_width","_law_teeth","_law_many"]:List Str)from by decide +kernel) rfl AM) (BY (BF (i:=17) (show List.Nodup (["_law_script","_law_case_here","_law_paragraphs_here","_law_twice","_law_text","_law_due","_law_k","_law_jobs","_law_lines","_law_paragraph","_law_found","_law_keys","_law_machine","_law_texts","_law_sign","_law_width","_law_teeth","_law_many"]:List Str)from by decide +kernel) rfl AM) FL)))))) (λ_ _ _ _ _=>GG) (λ_ _ _ _ _=>(EE (AC (pv 14) (AC (pv 15) (AC (pv 16) (AC AN AG)))))))
  (AL (BQ (i:=2) JA.nd rfl AM (BN T.law_paragraphs W J rfl (AC (pv 0) (AC (pv 1) AG))))
  (AL (BQ (i:=3) JA.nd rfl AM (AU FI (AU JR (BN T.law_cell G J rfl (AC (pv 0) (AC AN AG))) AN) AN))
  (AL (BQ (i:=4) JA.nd rfl AM (BN T.law_copy au J rfl (AC (pv 2) (AC (pv 3) AG))))
  (AL (BQ (i:=5) JA.nd rfl AM (DA AG))
  (AL (GL Bb rfl (L7 rfl T.b_range (AC (CY (EB K rfl) rfl T.b_len DP (AC (pv 2) AG)) AG)) (BF (i:=6) JA.nd rfl AM) (AQ (BQ (i:=5) JA.nd rfl AM (AU Ky (pv 5) (AU RL (DA (AC (CA (DR K rfl) (pv 2) (pv 6) (λ_ _=>rfl)) AG)) (CA (DR K rfl) (DA (AC AN (AC AN AG))) (JT Rv rfl T.b_int OA (AC (FM EM (pv 6) (pv 3) (BM _)) AG)) (λ_ _=>rfl)))))))
  (AL (BQ (i:=7) JA.nd rfl AM (BN T.read_copy am J rfl (AC (pv 4) AG)))
  (AL (CF (PW.pt (Ny (BU IT (BN T.shown_copy ah J rfl (AC (pv 7) AG)) (pv 4) (BM _)) (Nx (BU (GH K rfl J.units) (BN T.opened_jobs Z J rfl (AC (pv 7) AG)) (pv 5) (BM _))))) (AQ (BK IB)) CP)
  (AL (BQ (i:=8) JA.nd rfl AM (DA AG))
  (AL (GL Bb rfl (FJ K rfl (pv 5)) (BF (i:=9) JA.nd rfl AM) (AL (BQ (i:=10) JA.nd rfl AM (BN T.law_broken ag J rfl (AC (pv 1) (AC (pv 9) AG))))
  (AL (CF (Nw (Rb (pv 10))) (AQ (BK IB)) CP)
  (AQ (BQ (i:=8) JA.nd rfl AM (AU Ky (pv 8) (pv 10)))))))
  (AL (BQ (i:=11) JA.nd rfl AM (BN T.keys_of aA J rfl (AC (pv 8) AG)))
  (AL (CF (BU (GH K rfl J.units) (BN T.lines_of ap J rfl (AC (pv 1) (AC (pv 11) AG))) (pv 8) (BM _)) (AQ (BK IB)) CP)
  (AL (CF (IC (BN T.law_lacks an J rfl (AC (pv 8) AG))) (AQ (BK IB)) CP)
  (AL (BQ (i:=12) JA.nd rfl AM (ik T.Machine aa J rfl (AC (pv 1) (AC (pv 11) (AC (AU DG AN (AU FI (BN T.law_cell G J rfl (AC (pv 0) (AC AN AG))) AN)) AG)))))
  (AL (EJ (JN (K:=K) rfl T.Machine.cl T.Machine_run ae J kC (pv 12)))
  (AL (Mi (i:=13) JA.nd rfl AM rfl (FJ K rfl (pv 8)) (BH.of (N':=["_law_script","_law_case_here","_law_paragraphs_here","_law_twice","_law_text","_law_due","_law_k","_law_jobs","_law_lines","_law_paragraph","_law_found","_law_keys","_law_machine","_law_texts","_law_line"]) (ms:=[]) (k:=1) (by rfl)) (λ_ _ _ _ _=>(BF (i:=14) (show List.Nodup (["_law_script","_law_case_here","_law_paragraphs_here","_law_twice","_law_text","_law_due","_law_k","_law_jobs","_law_lines","_law_paragraph","_law_found","_law_keys","_law_machine","_law_texts","_law_line"]:List Str)from by decide +kernel) rfl AM)) (λ_ _ _ _ _=>GG) (λ_ _ _ _ _=>(DX K rfl Ba Bm Bn (JI K rfl) CD (AC (pv 14) AG))))
  (AL (CF (PW.pt (Ny (BU (GH K rfl J.units) (JN (K:=K) rfl T.Machine.cl T.Machine_slugs Y J kE (pv 12)) (pv 13) (BM _)) (Nx (Nw (iW (JN (K:=K) rfl T.Machine.cl T.Machine_resting I J XC (pv 12))))))) (AQ (BK IB)) CP)
  (AQ (BK (BN T.law_unlike aj J rfl (AC (pv 1) (AC (pv 11) (AC (pv 13) (AC (BN T.law_cell G J rfl (AC (pv 0) (AC AN AG))) AG)))))))))))))))))))))))),?_⟩
 walk_at "2";refine⟨l,ns,3,rfl,hS,by decide,by decide,λbU cu aE H1 ck cI aL aU R0=>?_⟩;have c6:=R0.l2;have b5:=Mj aU;refine⟨bU,rfl,⟨_,AH.of aL⟩,λpc bl=>?_⟩;refine HB (a:=bU) (xs:=cu) (λj ys σ H2=>∃(bE bu bD bC:Option V),σ=[some (.ref l),none,none,none,none,none,none,none,none,none,none,none,none,none,bE,bu,bD,bC]/\AF H1 H2/\H2 pc=some (.lst ys)/\Paired (Cs.HL H2) ys (Ku (aE.take j)))
  ?_ ?_ ?_ ?_
 .exact⟨none,none,none,none,rfl,AV bl _,AA,.nil⟩
 .rintro j ys σ H2 hj ⟨_,_,_,_,_,hs,_⟩;exact hs.seq (AH.of aL)
 .rintro j y ys σ H2 hy aY ⟨bE,bu,bD,bC,rfl,ba,cK,bJ⟩;obtain⟨r,cv,t,rfl,ht⟩:=FU aU hy;have ac:=Mj bJ;have ac:ys.length=(aE.take j).length:=by rw[ac];exact A6 _
  rw[Al]at ac
  refine⟨_,_,rfl,BP.of (ba _ _ ht),rfl,?_⟩;walk_at "1";walk_at "1";walk_at "1";walk_at "1";try refine And.intro rfl ?_
  walk_at "2";refine λt2 co=>?_
  have aG:=AV co (.tup (JJ ⟨r.s,r.w,r.t,40⟩));have bX:upd H2 t2 (.tup (JJ ⟨r.s,r.w,r.t,40⟩)) t2=some (.tup (JJ ⟨r.s,r.w,r.t,40⟩)):=AA;have bH:=aG _ _ cK;refine EN aY bH (by lia) ⟨_,_,_,_,rfl,DO (ba.trans aG) bl,AA,?_⟩;rw[show Ku (aE.take (j+1))=Ku (aE.take j)++[⟨r.s,r.w,r.t,40⟩] by rw[Ay,cv];exact Ah ..];exact Ce (UV (II bJ aG) bH (λz e=>by cases e)) ⟨t2,rfl,by rw[BV (HI bX bH λz=>nomatch z)];exact bX⟩
 .rintro xs σ H2 ⟨bE,bu,bD,bC,rfl,ba,bZ,a2⟩;rw[b5,Ak (Af _)]at a2
  have R:=R0.forty;have bh:∀r∈Ku aE,r.n=40:=λr J=>by
   obtain⟨r',_,rfl⟩:=Bw.mp J;rfl
  generalize Ku aE=rs at a2 R bh;have bP:=cI.trans ba;have hl1:=R.l1;have hl2:=R.l2;have c0:rs≠[]:=λe=>by rw[e]at hl1;exact absurd hl1 (by decide)
  clear aU aL;walk_at "2";refine⟨l,pc,ns,xs,rs,rfl,bP.seq hS,bZ,a2,c0,hl2,R.sg,λD zs ps H3 dk aG bA cL a9 ay=>?_⟩;have bY:=bP.trans aG;walk_at "2";refine⟨l,3,ns,rfl,bY.seq hS,by decide,λc3=>?_⟩;refine⟨_,_,rfl,rfl,⟨by decide,by decide⟩,?_⟩;refine⟨_,_,rfl,rfl,(by show(0:Int)<4;decide),?_⟩;dsimp only;generalize c3/36%4=tw;walk_at "2";refine⟨D,tw,zs,ps,rs,rfl,bA,a9,cL,ay,λH4 a6=>?_⟩;have gd:=lC ay (tw:=tw);have aY:(DC 4 (IF tw ps)).length<=ps.length*26:=XW (tw:=tw) (k:=0) ay;have db:=Bh a9;have az:=a6 _ _ bA;have cB:=bY.trans a6;have cN:∀{H':Hp}{v:V}{p:BE},AF H4 H'->JP D H4 v p->JP D H' v p:=λs h=>h.same (λb o _ e=>s b o e) ⟨_,az⟩
  have bc:Paired (JP D H4) zs ps:=Paired.mapP a9 λ_ _ z=>z.same (λb o _ e=>a6 b o e) ⟨_,bA⟩
  walk_at "2";refine λd0 cx=>?_
  have bq:=AV cx (.lst []);have bR:upd H4 d0 (.lst []) d0=some (.lst []):=AA;generalize upd H4 d0 (.lst [])=H5 at bq bR⊢;walk_at "2";refine⟨D,_,rfl,.inl (AH.of (bq _ _ az)),?_⟩;walk_at "2";refine Kv (lo:=0) (n:=(zs.length:Int).toNat) (λi σ H6=>∃(dl:Addr) (us:List V) (v6:Option V),σ=[some (.ref l),some (.ref pc),some (.ref D),some (.int tw),some (.str (Cp.CZ 4 (IF tw ps))),some (.ref dl),v6,none,none,none,none,none,none,none]/\AF H4 H6/\H6 dl=some (.lst us)/\Paired (JP D H6) us (CW tw 0 (ps.take i)))
   ⟨d0,[],none,rfl,bq,bR,.nil⟩ ?_ ?_
  .rintro i σ H6 hi ⟨dl,us,v6,rfl,ai,bI,aD⟩;have bo:i<zs.length:=by lia
   obtain⟨p,a7,a'⟩:=FU bc (A7 bo);generalize cH:zs[i]=v at a';have cR:∀_:Unit,DJ zs (0+(i:Int))=some v:=λ_=>by rw[El,<-cH];exact EY (A7 bo)
   have cY:CW tw 0 (ps.take (i+1))=CW tw 0 (ps.take i)++(if (i:Int)=tw then [p,p]else [p]):=by
    rw[Ay,a7];show CW tw 0 (ps.take i++[p])=_;rw[Yz,Al,Eb,Dq (by lia)]
   have cW:=Bh aD;have bV:=(TQ (tw:=tw) (k:=0) (ps:=ps.take i) λp hp=>(ay p (Ea hp)).w.2).1;rw[Al]at bV
   walk_at "2";refine⟨D,_,_,_,rfl,rfl,AH.of (ai _ _ az),cR (),?_⟩;walk_at "2";refine λp1 cD=>?_
   have a3:=AV cD (.lst [v]);have b4:upd H6 p1 (.lst [v]) p1=some (.lst [v]):=AA;generalize upd H6 p1 (.lst [v])=H7 at a3 b4⊢;walk_at "2";refine λp2 cX=>?_
   have aB:=AV cX (.lst [.int 1,.int 2]);have bS:upd H7 p2 (.lst [.int 1,.int 2]) p2=some (.lst [.int 1,.int 2]):=AA;generalize upd H7 p2 (.lst [.int 1,.int 2])=H8 at aB bS⊢;walk_at "2";refine .inr ⟨_,rfl,?_⟩;have ec:decide (V.int (0+(i:Int))=V.int tw)=decide ((i:Int)=tw):=by rw[El];exact Ca.mpr ⟨λz=>V.int.inj z,λz=>by rw[z]⟩
   rw[ec];refine⟨p2,_,_,_,rfl,rfl,AH.of bS,Ts _ _ _,?_⟩;obtain⟨n,en,hn,b'⟩:∃n:Int,(if decide ((i:Int)=tw)=true then V.int 2 else V.int 1)=.int n/\(n=1\/n=2)/\((List.replicate n.toNat [v]).flatten=if (i:Int)=tw then [v,v]else [v]):=by
    by_cases e:(i:Int)=tw
    .rw[Ae e,Ar e];exact⟨2,rfl,.inr rfl,rfl⟩
    .rw[Ai e,Aq e];exact⟨1,rfl,.inl rfl,rfl⟩
   rw[en];refine⟨p1,n,[v],rfl,rfl,aB _ _ b4,by lia,by lia,DD (by show 1*n.toNat<=_;lia),λp3 cm=>?_⟩;rw[b'];have a4:=AV cm (.lst (if (i:Int)=tw then [v,v]else [v]));have cg:upd H8 p3 (.lst (if (i:Int)=tw then [v,v]else [v])) p3=some (.lst (if (i:Int)=tw then [v,v]else [v])):=AA;generalize upd H8 p3 (.lst (if (i:Int)=tw then [v,v]else [v]))=H9 at a4 cg⊢;have ad:=a3.trans (aB.trans a4);have dg:(if (i:Int)=tw then [v,v]else [v]).length<=2:=by split;exact Af 2;exact D6 1
   refine⟨dl,p3,_,_,rfl,rfl,ad _ _ bI,cg,DD (by lia),λp4 br=>?_⟩;have af:=AV br (.lst (us++if (i:Int)=tw then [v,v]else [v]));refine⟨p4,_,_,rfl,ai.trans (ad.trans af),AA,?_⟩;rw[cY];have ak:=cN (ai.trans (ad.trans af)) a';have aX:Paired (JP D (upd H9 p4 (.lst (us++if (i:Int)=tw then [v,v]else [v])))) us (CW tw 0 (ps.take i)):=Paired.mapP aD λ_ _ z=>z.same (λb o _ e=>(ad.trans af) b o e) ⟨_,ai _ _ az⟩
   split
   .rw[show us++[v,v]=us++[v]++[v] by rw[Ao];rfl,show ∀xs:List BE,xs++[p,p]=xs++[p]++[p]from λxs=>by rw[Ao];rfl];rename_i e;rw[Ar e]at aX ak
    rw[show us++[v,v]=us++[v]++[v] by rw[Ao];rfl]at aX ak
    exact Ce (Ce aX ak) ak
   .rename_i e;rw[Aq e]at aX ak
    exact Ce aX ak
  .rintro σ H6 ⟨dl,us,v6,rfl,ai,bI,aD⟩;rw[Ak (by lia)]at aD
   have cC:=cB.trans ai;have tl:=TH (O4 gd) (show(DC 4 (IF tw ps)).length<=1000 by lia);have wt:JY (Cp.CZ 4 (IF tw ps))=DC 4 (IF tw ps):=o6 gd;walk_at "2";refine⟨_,IF tw ps,rfl,by show(AD _).length<=_;lia,λy hy=>?_,by rw[wt];exact Cp.jn gd,gd,λjl js H7 a3 c8 b7 a1=>?_⟩
   .rw[wt]at hy
    have:=O4 gd y hy;exact⟨by have:=this.l2;lia,λc hc=>(this.as c hc).1⟩
   have aV:(IF tw ps).length<=1000:=by
    have h1:=Bh a1;have h2:∀xs:List (CS 4),xs.length<=(DC 4 xs).length:=λxs=>by
     induction xs with
     | nil=>exact B9 _
     | cons x xs ih =>
       show _<=(EI 4 x++DC 4 xs).length;have:=D5.mpr (T4 4 x);rw[Aa,B8]
       lia
    have:=h2 (IF tw ps)
    lia
   walk_at "2";refine⟨jl,_,js,IF tw ps,rfl,⟨b7,a1,aV⟩,gd,by lia,λH8 aB=>?_⟩;walk_at "2";try rw[show(!decide (V.str (Cp.CZ 4 (IF tw ps))=V.str (Cp.CZ 4 (IF tw ps))))=false from by rw[Ae rfl];rfl]
   try refine AR ?_
   walk_at "2";have aN:(Kt (IF tw ps)).1=CW tw 0 ps:=YB ay;obtain⟨dc,dj,_,df⟩:=TQ (tw:=tw) (k:=0) (ps:=ps) λp hp=>(ay p hp).w.2
   have bf:∀p∈CW tw 0 ps,FH rs p:=λp hp=>ay p (YA hp)
   refine⟨jl,_,IF tw ps,js,rfl,aB _ _ b7,Paired.mapP a1 λ_ _ z=>Jb.BO.same (.of aB) 4 z,aV,by rw[aN];exact⟨by lia,by lia⟩,λq9 dh H9 di a4 cZ bB=>?_⟩;rw[aN]at bB
   have ad:=a3.trans (aB.trans a4);have bT:=ad _ _ bI;have aJ:Paired (JP D H9) us (CW tw 0 ps):=Paired.mapP aD λ_ _ z=>z.same (λb o _ e=>ad b o e) ⟨_,ai _ _ az⟩
   have cU:=cC.trans ad;have lay:∀p∈CW tw 0 ps,∀x∈p.2.2,PyData.canLay0 (.str x)=true:=λp hp x hx=>(((bf p hp).ok x hx).1).lay
   walk_at "2";refine⟨Py (CW tw 0 ps),Py (CW tw 0 ps),.lst (AH.of cZ) (YC bB.at (λv p ⟨t,g,w,e,h1,h2,_,h3⟩=>⟨t,g,w,e,h1,h2,h3⟩) lay),.lst (AH.of bT) (YC aJ (λv p ⟨t,g,w,e,h1,h2,_,h3⟩=>⟨t,g,w,e,h1,BP.of h2,h3⟩) lay),oW _ _,?_⟩;rw[eqv_refl (show nb (Py (CW tw 0 ps))=true from Jb.WT oU)];refine⟨_,rfl,?_⟩;refine AR ?_;walk_at "2";refine λl0 cO=>?_
   have af:=AV cO (.lst []);have ci:upd H9 l0 (.lst []) l0=some (.lst []):=AA;generalize upd H9 l0 (.lst [])=Ha at af ci⊢;have cc:=(aG.trans (a6.trans (ai.trans (ad.trans af))))
   have bv:=cc _ _ bZ;have aS:=II a2 cc;have cb:=cU.trans af;have bz:=af _ _ bT;have bL:Ha D=some (.lst zs):=(ai.trans (ad.trans af)) _ _ az;have aZ:Paired (JP D Ha) us (CW tw 0 ps):=Paired.mapP aJ λ_ _ z=>z.same (λb o _ e=>af b o e) ⟨_,(ai.trans ad) _ _ az⟩
   generalize c':CW tw 0 ps=du at *;have c9:du.length<=4:=by lia
   clear bB aJ aD a1 aV wt tl gd aY lay aN bc a9;walk_at "2";try refine⟨⟨_,AH.of bz⟩,?_⟩
   have cW:=Bh aZ;refine MC (a:=dl) (xs:=us) (λi σ Hb=>∃(lp:Addr) (ys:List V) (ls:List (List Str)) (v9 a8:Option V),σ=[some (.ref l),some (.ref pc),some (.ref D),some (.int tw),some (.str (Cp.CZ 4 (IF tw ps))),some (.ref dl),v6,some (.ref jl),some (.ref lp),v9,a8,none,none,none]/\AF Ha Hb/\Hb lp=some (.lst ys)/\Paired (Lns.KA pc Hb) ys ls/\ls.length<=i*14/\JQ rs ls)
    ⟨l0,[],[],none,none,rfl,AF.refl _,ci,.nil,B9 _,⟨λl h=>nomatch h⟩⟩ (λi σ Hb _ ⟨_,_,_,_,_,_,hs,_⟩=>AH.of (hs _ _ bz)) ?_ ?_
   .rintro i y σ Hb hy ⟨lp,ys,ls,v9,a8,rfl,ar,aH,ac,a5,L⟩;obtain⟨p,a7,a'⟩:=FU aZ hy;have cq:=Ag a7;have bo:=(B2.mp a7).1;have aF:=ar _ _ bv;walk_at "2";refine⟨pc,D,y,p,xs,rs,rfl,aF,II aS ar,R,a'.same (λb o _ e=>ar b o e) ⟨_,bL⟩,bf p cq,λF fs fl Hc cM ax cV bb c7 LF=>?_⟩;have ca:Paired (Lns.KA pc Hc) fs fl:=Paired.mapP bb λ_ _ ⟨q0,e0,_,f0,z0⟩=>⟨q0,e0,(λz=>by rw[z,aF]at f0;cases f0),z0⟩
    have bN:=Mn ac ax;have e1:=OW bN;have e2:=OW ca;have da:i*14<=3*14:=F6 _ (by lia);walk_at "2";try refine AR ?_
    walk_at "2";refine⟨lp,F,_,_,rfl,rfl,ax _ _ aH,cV,DD (by lia),λp4 br=>?_⟩;have aK:=AV br (.lst (ys++fs));refine⟨p4,ys++fs,ls++fl,_,_,rfl,ar.trans (ax.trans aK),AA,Lns.OZ (Mn bN aK) (Mn ca aK),?_,⟨λx hx=>?_⟩⟩
    .rw[Aa,G0]
     lia
    .rcases Az.mp hx with h|h
     .exact L.one x h
     .exact LF.one x h
   .rintro σ Hb ⟨lp,ys,ls,v9,a8,rfl,ar,aH,ac,a5,L⟩;have a5:ls.length<=56:=by
     have:us.length*14<=4*14:=F6 _ (by lia)
     lia
    have aF:=ar _ _ bv;have aO:=II aS ar;have cz:=cb.trans ar;have cJ:=OW ac;have be:Lns.Kz ls:=⟨by lia,λx hx=>⟨by have:=(L.one x hx).2.1;lia,λz hz=>by have:=((L.one x hx).2.2 z hz).2.1;lia⟩⟩
    have aM:∀x∈ls,x≠[]/\∀z∈x,Lns.KC rs z:=λx hx=>⟨(L.one x hx).1,λz hz=>((L.one x hx).2.2 z hz).settable⟩
    have hok:HE rs false (BG ls).cps.toList=true:=Qj aM;have al:(BG ls).length<=90000:=by
     have a:=Mc.WD (n:=14) (rs:=rs) λx hx=>(L.one x hx).2
     have c:ls.length*(14*6+1)<=56*(14*6+1):=F6 _ a5
     lia
    have aC:∀x∈ls,47∉Mc.cps (AD x):=λx hx=>Mc.iZ (L.one x hx).2.2
    have cw:∀x∈ls,(AD x).length<=90000:=λx hx=>by
     have:=(L.text _ (Dt hx)).2.1;rw[show(AD x).cps.toList.length=(AD x).length from Au]at this
     lia
    clear aZ bz bL aS bv;walk_at "2";refine⟨lp,pc,ys,ls,rfl,AH.of aH,ac,be,λHc ax=>?_⟩;have ce:=ax _ _ aF;have bj:=II aO ax;walk_at "2";refine⟨pc,rs,ls,rfl,⟨xs,AH.of ce,bj⟩,al,cw,by lia,aM,λF fs Hd cM aK bO bb _=>?_⟩;have bw:=ax.trans aK;have aQ:=bw _ _ aH;have bp:=Mn ac bw;have bg:∀x∈ls,∀z∈x,PyData.canLay0 (.str z)=true:=λx hx z hz=>((L.one x hx).2.2 z hz).lay
    walk_at "2";refine⟨OX ls,OX ls,.lst (AH.of bO) (Qe (Lns.DE.n bb) bg),.lst (AH.of aQ) (Qe bp bg),Lns.fQ _ _,?_⟩;rw[eqv_refl (show nb (OX ls)=true from Lns.Vt ls)];refine⟨_,rfl,?_⟩;refine AR ?_;walk_at "2";refine⟨lp,pc,ys,ls,rs,rfl,aQ,bp,L,λb He cT hb=>?_⟩;have aR:=bw.trans cT;have b2:=cz.trans aR;have av:=aR _ _ aF;have aT:=II aO aR;have bQ:=aR _ _ aH;have cf:=Mn ac aR;clear bp aQ bb bO bj ce aO aF ac aH;refine⟨_,rfl,?_⟩;cases b with
    | true =>
      refine BB ?_;walk_at "2";exact q _
    | false =>
    refine AR ?_;have b1:=hb rfl;walk_at "2";refine⟨l,3,ns,rfl,b2.seq hS,by decide,λc4=>?_⟩;walk_at "2";have cA:1<=1+c4%12:=by lia
    refine λp0 cP aI aq c2=>?_
    have RR:Mc.Rows rs:=⟨R.l2,R.sg,R.th,R.mn⟩
    have cj:∀r∈rs,0<=r.n/\r.n<=1000:=λr J=>⟨(R.mn r J).1,by have:=(R.mn r J).2;lia⟩
    have OC:NW ⟨rs,BG ls,1+c4%12⟩:=RR.okC al aM cA;refine⟨p0,pc,cP,⟨rs,BG ls,1+c4%12⟩,xs,rfl,AA,?_,?_,OC,hok,cj,λA0 Hf M0 bd fr0=>⟨rfl,?_⟩⟩
    .rw[BV (GU av aI),BV (GU av aq)];exact av
    .exact II aT λb u hb=>by rw[BV (GU hb aI),BV (GU hb aq)];exact hb
    have b0:=Mc.iQ aI aq bd;have bi:∀b∈A0.all,He b=none:=λb hb=>Mc.iR aI aq (fr0 b hb)
    have OS:Mc.Ok ⟨rs,BG ls,1+c4%12⟩ (Mc.start rs):=RR.ok rfl OC;have RT:Mc.Rt ⟨rs,BG ls,1+c4%12⟩:=⟨R.fl,R.pl,R.sg,hok⟩
    have GS:Mc.Gd ⟨rs,BG ls,1+c4%12⟩ (Mc.start rs):=Mc.Gd.start (c:=⟨rs,BG ls,1+c4%12⟩) λr J=>(RR.mn r J).1
    obtain⟨b9,OF⟩:=Mc.iG OS;have GF:=GS.fin RT OS;obtain⟨aw,_⟩:=Mc.j4 RT OF GF b9 rfl aC (λr J k hk x hx=>by
     obtain⟨e,he,e2⟩:=R.sg r J;have cQ:k=e:=Nf (hk.symm.trans e2);have cS:k≠32:=by
      rw[cQ];exact(Mc.Mr e he).2.2.2
     rw[Y6 cS,bh r J];exact b1 x hx k)
    obtain⟨aP,_⟩:=Mc.iU OF GF aw rfl aC;have aP:(Mc.fin ⟨rs,BG ls,1+c4%12⟩ (Mc.start rs)).texts=ls.map AD:=aP;have I0:=M0.ins;walk_at "2";refine⟨p0,A0,_,_,rfl,M0,OS,λA1 Hg M1 cd=>?_⟩;have M1:MA a ⟨rs,BG ls,1+c4%12⟩ Hg p0 A1 (Mc.fin ⟨rs,BG ls,1+c4%12⟩ (Mc.start rs)):=M1;have seg:AF He Hg:=λb o h=>cd.fr b o (b0 b o h) (.inl ⟨(λz=>by rw[z,aI]at h;cases h),(λz=>by rw[bi b z]at h;cases h)⟩)
    have cG:=b2.trans seg;have cr:=seg _ _ av;have bK:=II aT seg;have b6:=seg _ _ bQ;have cn:=Mn cf seg;generalize Mc.fin ⟨rs,BG ls,1+c4%12⟩ (Mc.start rs)=mf at M1 OF aw aP;clear GF GS RT OS b9 I0 M0 bd fr0 bi b0 av aT bQ cf cd seg aI aq;walk_at "2";try refine⟨⟨_,AH.of b6⟩,λD2 bW=>?_⟩
    refine HB (a:=lp) (xs:=ys) (λj us σ Hh=>∃(bF:Option V),us=((ls.take j).map AD).map V.str/\σ=[some (.ref l),some (.ref pc),some (.ref D),some (.int tw),some (.str (Cp.CZ 4 (IF tw ps))),some (.ref dl),v6,some (.ref jl),some (.ref lp),v9,a8,some (.str (BG ls)),some (.ref p0),none,bF]/\AF Hg Hh/\Hh D2=some (.lst us))
     ?_ ?_ ?_ ?_
    .exact⟨none,rfl,rfl,AV bW _,AA⟩
    .rintro j us σ Hh hj ⟨_,_,_,hs,_⟩;exact hs.seq (AH.of b6)
    .rintro j z us σ Hh hz aY ⟨bF,rfl,rfl,aW,a0⟩;obtain⟨x,hx,q1,rfl,_,cE⟩:=FU cn hz;obtain⟨_,o2,o3⟩:=L.one x (Ag hx);walk_at "2";refine⟨_,q1,x,rfl,rfl,AH.of (aW _ _ cE),Sf (by lia) (λz hz=>by have:=(o3 z hz).2.1;lia),?_⟩;refine EN aY a0 ?_ ⟨_,?_,rfl,DO aW bW,AA⟩
     .rw[A6,A6,Al]
      lia
     .rw[Ay,hx,Ah,Ah];rfl
    .rintro us σ Hh ⟨bF,rfl,rfl,aW,a0⟩;rw[cJ,Ak (Af _)]at a0
     have M2:=M1.same aW;have I2:=M2.ins;walk_at "2";refine⟨p0,A1,_,mf,rfl,M2,OF,λb3 Hi c1 bx bn=>?_⟩;have bn:Hi b3=some (.lst (mf.texts.map V.str)):=bn;have M3:=M2.same bx;have I3:=M3.ins;have bG:=bx _ _ a0;rw[<-aP]at bG
     have d1:GD K Hi (.ref b3) (.list (mf.texts.map PyData.str)):=.lst (AH.of bn) (Li OF.tl);have cF:∀e:PyData,min (PyData.list (mf.texts.map PyData.str)).depth e.depth<=64:=λe=>by
      have h1:(PyData.list (mf.texts.map PyData.str)).depth=PyData.depthAll (mf.texts.map PyData.str)+1:=rfl;have h2:=Mc.WC PyData.str 0 (λ_=>Af _) mf.texts
      lia
     walk_at "2";refine⟨_,_,d1,.lst (AH.of bG) (Li OF.tl),cF _,?_⟩;rw[Ar rfl,Mc.iN d1];refine⟨_,rfl,?_⟩;refine AR ?_;walk_at "2";refine⟨p0,A1,_,mf,rfl,M3,OF,λHj b8=>?_⟩;refine⟨_,rfl,?_⟩;refine⟨_,rfl,?_⟩;rw[aw];refine AR ?_;have bt:=aW.trans (bx.trans b8);have cy:=cG.trans bt;have bM:=b8 _ _ bG;rw[aP]at bM
     clear M3 M2 I3 I2 M1 d1;walk_at "2";refine⟨l,2,ns,rfl,cy.seq hS,by decide,λc5=>?_⟩;walk_at "2";exact⟨pc,D2,c5,rs,ls,rfl,⟨xs,AH.of (bt _ _ cr),II bK bt⟩,L,a5,al,be,bM,λH' _=>q H'⟩
section
open PySem.W PyProof.Rows
open Hd (qr qi qs qt qb qe qF qG qT qN qf qg qC HD qP qU qI qW qD qv qX qM z3)
noncomputable section
abbrev m0:Value:=qs "__main__" 164
abbrev m1:Value:=qs "linecaster.errors" 194
abbrev m2:Value:=qs "linecaster.bars" 371
abbrev m3:Value:=qs "linecaster.cases" 391
abbrev m4:Value:=qs "linecaster.keys" 424
abbrev m5:Value:=qs "linecaster.matrices" 467
abbrev m6:Value:=qs "linecaster.machine" 489
abbrev m7:Value:=qs "linecaster.lines" 672
abbrev m8:Value:=qs "linecaster.breaking" 735
abbrev m9:Value:=qs "linecaster.copies" 797
abbrev R6:Value:=qs "linecaster.jobs" 925
abbrev YD:Value:=qs "linecaster.looks" 975
abbrev JB:Value:=qs "law_linecaster_k70_whole_copy_to_slugs" 992
abbrev u(l r:List Obj):List Obj:=l++r
abbrev fA(n:Nat)(x:String)(i t l a:Nat)(ls:List Nat)(F:Value)(ns:List String)(r:List Obj):List Obj:=Hd.hA n x x (top i) t l a ls F ns r
abbrev fB(n:Nat)(x:String)(i t l a:Nat)(ls:List Nat)(F:Value)(r:List Obj):List Obj:=Hd.hB n x x (top i) t l a ls F r
abbrev gA(n:Nat)(x y:String)(i j t l a:Nat)(ls:List Nat)(F:Value)(ns:List String)(r:List Obj):List Obj:=Hd.hA n x y (DT (top i) j) t l a ls F ns r
abbrev gB(n:Nat)(x y:String)(i j t l a:Nat)(ls:List Nat)(F:Value)(r:List Obj):List Obj:=Hd.hB n x y (DT (top i) j) t l a ls F r
def hO(P:Params):List Obj :=
 u [boot_o_0 P,boot_o_1 P,boot_o_2 P,qD 92 [qe P "__name__" 165 (qs "law_linecaster_k70_whole_copy_to_slugs" 992),qe P "__doc__" 166 .none,qe P "__package__" 167 .none,qe P "__loader__" 168 (qb "__main__.__loader__#opaque"),qe P "__spec__" 169 .none,qv P "__annotations__" 170 6,qv P "__builtins__" 171 4,qe P "__file__" 173 (qs "/claim/cut.py" 172),qe P "__cached__" 174 .none,qv P "_wall" 193 21,qv P "CasterError" 213 31,qv P "NoCase" 238 51,qv P "TooMany" 254 63,qv P "Loose" 279 82,qv P "Tight" 304 101,qv P "NoBreak" 329 120,qv P "NoCopy" 345 132,qv P "NoKeys" 370 151,qv P "has_all" 380 160,qv P "falls_at" 390 167,qe P "SIGNS" 394 (qs "abcdefghijklmnopqrstuvwxyz.,-'" 393),qv P "is_sign" 401 174,qv P "channel_of" 411 181,qv P "width_of" 417 186,qv P "codes_of" 423 191,qe P "GAP_KEY" 427 (qs " " 426),qe P "SEND_KEY" 429 (qs "/" 428),qv P "keys_of" 435 196,qv P "is_sign_key" 442 203,qv P "goes_on" 451 210,qv P "look_at_keys" 460 217,qv P "lines_of" 466 222,qv P "can_break" 482 229,qv P "channels_of" 488 234,qe P "WEDGE" 492 (qs " " 491),qv P "Machine" 671 381,qv P "body_of" 679 390,qv P "misfit" 691 397,qv P "greatest_divisor" 699 404,qv P "lowest_terms" 708 411,qv P "full_gap" 721 418,qv P "last_gap" 734 425,qv P "cost_of" 750 432,qv P "costs_of" 756 437,qv P "can_follow" 766 444,qv P "choices" 772 449,qv P "table_of" 778 454,qv P "most_in_full_lines" 784 459,qv P "breaks_of" 790 464,qv P "broken_lines" 796 469,qe P "FIGURES" 800 (qs "0123456789" 799),qe P "MOST_BRACKETS" 802 (.int (4) 801),qv P "is_number" 808 474,qv P "is_set_word" 814 479,qv P "word_at" 822 486,qv P "read_number" 833 493,qv P "look_for" 842 500,qv P "read_measure" 850 507,qv P "read_gaps" 861 514,qv P "read_set" 870 521,qv P "read_times" 882 528,qv P "read_job" 891 535,qv P "read_jobs" 902 542,qv P "read_copy" 912 549,qv P "shown_job" 918 554,qv P "shown_copy" 924 559,qe P "FIRST_MEASURE" 928 (.int (100) 927),qv P "FIRST_GAPS" 932 560,qe P "MOST_PARAGRAPHS" 934 (.int (60) 933),qe P "MOST_WORDS" 936 (.int (400) 935),qv P "add_paragraph" 942 565,qv P "do_times" 955 572,qv P "do_jobs" 966 579,qv P "opened_jobs" 974 586,qv P "first_place_unlike" 985 593,qv P "first_unlike" 991 598,qv P "_law_cell" 1001 605,qv P "_law_stream" 1012 612,qv P "_law_over" 1020 619,qv P "_law_first" 1026 624,qv P "_law_codes" 1039 631,qv P "_law_case" 1055 638,qv P "_law_word" 1061 643,qv P "_law_paragraphs" 1067 648,qv P "_law_copy" 1073 653,qv P "_law_wide" 1079 658,qv P "_law_divisor" 1087 665,qv P "_law_set" 1106 672,qv P "_law_broken" 1122 679,qv P "_law_unlike" 1135 686,qv P "_law_lacks" 1141 691,qv P "law" 1147 696],boot_o_4 P,boot_o_5 P,boot_o_6 P,boot_o_7 P,boot_o_8 P,boot_o_9 P,boot_o_10 P,qT [],qN (z3 [1,0,20,5,0,27,7,0,40,12,0,59,14,0,71,19,0,90,24,0,109,29,0,128,31,0,140,37,0,159,39,0,166,46,0,173,48,0,180,53,0,185,55,0,190,60,0,195,62,0,202,64,0,209,68,0,216,74,0,221,78,0,228,83,0,233,96,0,240,201,0,389,203,0,396,208,0,403,212,0,410,215,0,417,224,0,424,230,0,431,236,0,436,247,0,443,249,0,448,252,0,453,257,0,458,263,0,463,274,0,468,279,0,473,283,0,478,285,0,485,287,0,492,292,0,499,295,0,506,297,0,513,302,0,520,310,0,527,321,0,534,329,0,541,335,0,548,341,0,553,347,0,558,354,0,564,360,0,571,367,0,578,378,0,585,383,0,592,388,0,597,398,0,604,402,0,611,409,0,618,416,0,623,421,0,630,433,0,637,444,0,642,447,0,647,460,0,652,470,0,657,475,0,664,479,0,671,494,0,678,510,0,685,525,0,690,531,0,695]),qM "<module>" 182 1 11 185,qW 13 3 (qs "__main__" 164)] <|
 fA 15 "_wall" 0 187 1 1 [] m0 ["k"] <|
 u [qT [(qt "ValueError")],qP,qD 4 [qe P "__module__" 203 (qs "linecaster.errors" 194),qe P "__qualname__" 205 (qs "CasterError" 204),qe P "__firstlineno__" 207 (.int (5) 206),qv P "__static_attributes__" 208 29],qT [],qN [],qM "CasterError" 198 5 25 201,qW 27 24 (qs "linecaster.errors" 194),qT [],qD 3 [qe P "__module__" 203 (qs "linecaster.errors" 194),qe P "__firstlineno__" 207 (.int (5) 206),qv P "__static_attributes__" 208 29,qv P "__weakref__" 210 32,qe P "__doc__" 211 .none],⟨(qt "type"),.none,(.cls ⟨(.ofString "CasterError"),[(qt "ValueError")],[(qr 31),(qt "ValueError"),(qt "Exception"),(qt "BaseException"),(qt "object")],30,(.ofString "CasterError"),true,[],[(qr 51),(qr 63),(qr 82),(qr 101),(qr 120),(qr 132),(qr 151)],false,.none,false⟩),#[(.some (qr 22)),.none,(.some (qs "CasterError" 196)),(.some (qs "CasterError" 204)),(.some (qb "ValueError.__new__")),(.some (.bool true))]⟩,⟨(qt "getset_descriptor"),.none,(.fields #[(qs "__weakref__" 209),(qr 31),(qb "ExceptionGroup.__weakref__"),.none]),#[]⟩,qU 31,qI 31,qT [(qr 31)],qP,qD 5 [qe P "__module__" 221 (qs "linecaster.errors" 194),qe P "__qualname__" 223 (qs "NoCase" 222),qe P "__firstlineno__" 225 (.int (7) 224),qv P "__init__" 233 48,qv P "__static_attributes__" 235 49],qT [],qN (z3 [9,4,47]),qM "NoCase" 216 7 38 219,qW 40 37 (qs "linecaster.errors" 194)] <|
 gA 42 "__init__" "NoCase.__init__" 3 0 226 9 2 [] m1 ["self","at"] <|
 u [qT [(qs "at" 234)],qD 2 [qe P "__module__" 221 m1,qe P "__firstlineno__" 225 (.int (7) 224),qv P "__init__" 233 48,qv P "__static_attributes__" 235 49,qe P "__doc__" 236 .none],qX "NoCase" 31 51 50 35 214 222,qU 51,qI 51,qT [(qr 31)],qP,qD 4 [qe P "__module__" 246 m1,qe P "__qualname__" 248 (qs "TooMany" 247),qe P "__firstlineno__" 250 (.int (12) 249),qv P "__static_attributes__" 251 61],qT [],qN [],qM "TooMany" 241 12 57 244,qW 59 56 m1,qT [],qD 2 [qe P "__module__" 246 m1,qe P "__firstlineno__" 250 (.int (12) 249),qv P "__static_attributes__" 251 61,qe P "__doc__" 252 .none],qX "TooMany" 31 63 62 54 239 247,qU 63,qI 63,qT [(qr 31)],qP,qD 5 [qe P "__module__" 262 m1,qe P "__qualname__" 264 (qs "Loose" 263),qe P "__firstlineno__" 266 (.int (14) 265),qv P "__init__" 274 79,qv P "__static_attributes__" 276 80],qT [],qN (z3 [16,4,78]),qM "Loose" 257 14 69 260,qW 71 68 m1] <|
 gA 73 "__init__" "Loose.__init__" 5 0 267 16 2 [] m1 ["self","by"] <|
 u [qT [(qs "by" 275)],qD 2 [qe P "__module__" 262 m1,qe P "__firstlineno__" 266 (.int (14) 265),qv P "__init__" 274 79,qv P "__static_attributes__" 276 80,qe P "__doc__" 277 .none],qX "Loose" 31 82 81 66 255 263,qU 82,qI 82,qT [(qr 31)],qP,qD 5 [qe P "__module__" 287 m1,qe P "__qualname__" 289 (qs "Tight" 288),qe P "__firstlineno__" 291 (.int (19) 290),qv P "__init__" 299 98,qv P "__static_attributes__" 301 99],qT [],qN (z3 [21,4,97]),qM "Tight" 282 19 88 285,qW 90 87 m1] <|
 gA 92 "__init__" "Tight.__init__" 6 0 292 21 2 [] m1 ["self","by"] <|
 u [qT [(qs "by" 300)],qD 2 [qe P "__module__" 287 m1,qe P "__firstlineno__" 291 (.int (19) 290),qv P "__init__" 299 98,qv P "__static_attributes__" 301 99,qe P "__doc__" 302 .none],qX "Tight" 31 101 100 85 280 288,qU 101,qI 101,qT [(qr 31)],qP,qD 5 [qe P "__module__" 312 m1,qe P "__qualname__" 314 (qs "NoBreak" 313),qe P "__firstlineno__" 316 (.int (24) 315),qv P "__init__" 324 117,qv P "__static_attributes__" 326 118],qT [],qN (z3 [26,4,116]),qM "NoBreak" 307 24 107 310,qW 109 106 m1] <|
 gA 111 "__init__" "NoBreak.__init__" 7 0 317 26 2 [] m1 ["self","words"] <|
 u [qT [(qs "words" 325)],qD 2 [qe P "__module__" 312 m1,qe P "__firstlineno__" 316 (.int (24) 315),qv P "__init__" 324 117,qv P "__static_attributes__" 326 118,qe P "__doc__" 327 .none],qX "NoBreak" 31 120 119 104 305 313,qU 120,qI 120,qT [(qr 31)],qP,qD 4 [qe P "__module__" 337 m1,qe P "__qualname__" 339 (qs "NoCopy" 338),qe P "__firstlineno__" 341 (.int (29) 340),qv P "__static_attributes__" 342 130],qT [],qN [],qM "NoCopy" 332 29 126 335,qW 128 125 m1,qT [],qD 2 [qe P "__module__" 337 m1,qe P "__firstlineno__" 341 (.int (29) 340),qv P "__static_attributes__" 342 130,qe P "__doc__" 343 .none],qX "NoCopy" 31 132 131 123 330 338,qU 132,qI 132,qT [(qr 31)],qP,qD 5 [qe P "__module__" 353 m1,qe P "__qualname__" 355 (qs "NoKeys" 354),qe P "__firstlineno__" 357 (.int (31) 356),qv P "__init__" 365 148,qv P "__static_attributes__" 367 149],qT [],qN (z3 [33,4,147]),qM "NoKeys" 348 31 138 351,qW 140 137 m1] <|
 gA 142 "__init__" "NoKeys.__init__" 9 0 358 33 2 [] m1 ["self","at"] <|
 u [qT [(qs "at" 366)],qD 2 [qe P "__module__" 353 m1,qe P "__firstlineno__" 357 (.int (31) 356),qv P "__init__" 365 148,qv P "__static_attributes__" 367 149,qe P "__doc__" 368 .none],qX "NoKeys" 31 151 150 135 346 354,qU 151,qI 151] <|
 fA 154 "has_all" 11 373 37 2 [] m2 ["teeth","others"] <|
 fA 161 "falls_at" 12 381 39 2 [] m2 ["codes","teeth","channel","code"] <|
 fA 168 "is_sign" 15 395 46 1 [] m3 ["text"] <|
 fA 175 "channel_of" 16 402 48 2 [] m3 ["case","sign","number","channel"] <|
 fB 182 "width_of" 17 412 53 2 [] m3 <|
 fB 187 "codes_of" 18 418 55 1 [] m3 <|
 fB 192 "keys_of" 22 430 60 1 [] m4 <|
 fA 197 "is_sign_key" 23 436 62 1 [] m4 ["key"] <|
 fA 204 "goes_on" 24 443 64 3 [] m4 ["case","keys","at"] <|
 fA 211 "look_at_keys" 25 452 68 2 [] m4 ["case","keys","at"] <|
 fB 218 "lines_of" 26 461 74 2 [] m4 <|
 fA 223 "can_break" 28 469 78 4 [] m5 ["case","ahead","channel","teeth","sign","width","own","many"] <|
 fB 230 "channels_of" 29 483 83 2 [] m5 <|
 u [qT [],qP,qD 24 [qe P "__module__" 500 (qs "linecaster.machine" 489),qe P "__qualname__" 502 (qs "Machine" 501),qe P "__firstlineno__" 504 (.int (96) 503),qv P "__init__" 515 249,qv P "next_key" 522 256,qv P "lacks_matrix" 530 263,qv P "stuck" 537 270,qv P "resting" 544 277,qv P "move_bar" 552 284,qv P "move_caster" 558 289,qv P "move_line" 566 296,qv P "send_line" 573 303,qv P "take" 581 310,qv P "tick" 588 317,qv P "run" 596 324,qv P "ticks" 603 331,qv P "slugs" 610 338,qv P "waited" 617 345,qv P "channels" 623 350,qv P "numbers_lying" 630 357,qv P "gathered" 637 364,qv P "in_caster" 644 371,qv P "bar" 651 378,qv P "__static_attributes__" 664 379],qT [],qN (z3 [98,4,248,113,4,255,116,4,262,120,4,269,123,4,276,126,4,283,131,4,288,140,4,295,151,4,302,158,4,309,162,4,316,171,4,323,177,4,330,180,4,337,183,4,344,186,4,349,189,4,356,192,4,363,195,4,370,198,4,377]),qM "Machine" 495 96 238 498,qW 240 237 (qs "linecaster.machine" 489),qT [.none],qT [],qN [],qT [(qs "self" 508),(qs "case" 509),(qs "keys" 510),(qs "casting" 511),(qs "broken" 512)],qT [],qg "__init__" "Machine.__init__" (DT (top 32) 0),qC "__init__" "Machine.__init__" 505 98 5 0 0 3 243 true 244 .none (qr 245) (qr 246) (qr 247) 513 514,⟨(qt "function"),.none,(qF "__init__" "Machine.__init__" (DT (top 32) 0) (qr 242) .none .none (qs "linecaster.machine" 489) .none (qr 248) .none),#[]⟩] <|
 gA 250 "next_key" "Machine.next_key" 32 1 516 113 1 [] m6 ["self"] <|
 gA 257 "lacks_matrix" "Machine.lacks_matrix" 32 2 523 116 1 [] m6 ["self","channel"] <|
 gA 264 "stuck" "Machine.stuck" 32 3 531 120 1 [] m6 ["self"] <|
 gA 271 "resting" "Machine.resting" 32 4 538 123 1 [] m6 ["self"] <|
 gA 278 "move_bar" "Machine.move_bar" 32 5 545 126 1 [] m6 ["self","matrix"] <|
 gB 285 "move_caster" "Machine.move_caster" 32 6 553 131 1 [] m6 <|
 gA 290 "move_line" "Machine.move_line" 32 7 559 140 1 [] m6 ["self","key"] <|
 gA 297 "send_line" "Machine.send_line" 32 8 567 151 1 [] m6 ["self"] <|
 gA 304 "take" "Machine.take" 32 9 574 158 2 [] m6 ["self","part"] <|
 gA 311 "tick" "Machine.tick" 32 10 582 162 1 [] m6 ["self"] <|
 gA 318 "run" "Machine.run" 32 11 589 171 1 [] m6 ["self","ahead"] <|
 gA 325 "ticks" "Machine.ticks" 32 12 597 177 1 [] m6 ["self"] <|
 gA 332 "slugs" "Machine.slugs" 32 13 604 180 1 [] m6 ["self"] <|
 gA 339 "waited" "Machine.waited" 32 14 611 183 1 [] m6 ["self"] <|
 gB 346 "channels" "Machine.channels" 32 15 618 186 1 [] m6 <|
 gA 351 "numbers_lying" "Machine.numbers_lying" 32 16 624 189 1 [] m6 ["self"] <|
 gA 358 "gathered" "Machine.gathered" 32 17 631 192 1 [] m6 ["self"] <|
 gA 365 "in_caster" "Machine.in_caster" 32 18 638 195 1 [] m6 ["self"] <|
 gA 372 "bar" "Machine.bar" 32 19 645 198 1 [] m6 ["self"] <|
 u [qT [(qs "case" 652),(qs "casting" 653),(qs "done" 654),(qs "hanging" 655),(qs "heated" 656),(qs "line" 657),(qs "lying" 658),(qs "played" 659),(qs "struck" 660),(qs "texts" 661),(qs "to_go" 662),(qs "waits" 663)],qD 4 [qe P "__module__" 500 m6,qe P "__firstlineno__" 504 (.int (96) 503),qv P "__init__" 515 249,qv P "next_key" 522 256,qv P "lacks_matrix" 530 263,qv P "stuck" 537 270,qv P "resting" 544 277,qv P "move_bar" 552 284,qv P "move_caster" 558 289,qv P "move_line" 566 296,qv P "send_line" 573 303,qv P "take" 581 310,qv P "tick" 588 317,qv P "run" 596 324,qv P "ticks" 603 331,qv P "slugs" 610 338,qv P "waited" 617 345,qv P "channels" 623 350,qv P "numbers_lying" 630 357,qv P "gathered" 637 364,qv P "in_caster" 644 371,qv P "bar" 651 378,qv P "__static_attributes__" 664 379,qv P "__dict__" 666 382,qv P "__weakref__" 668 383,qe P "__doc__" 669 .none],⟨(qt "type"),.none,(.cls ⟨(.ofString "Machine"),[(qt "object")],[(qr 381),(qt "object")],380,(.ofString "Machine"),true,[],[],false,.none,false⟩),#[.none,.none,(.some (qs "Machine" 493)),(.some (qs "Machine" 501)),(.some (qb "object.__new__")),(.some (.bool true))]⟩,⟨(qt "getset_descriptor"),.none,(.fields #[(qs "__dict__" 665),(qr 381),(qb "function.__dict__"),(qb "function.__dict__#set")]),#[]⟩,⟨(qt "getset_descriptor"),.none,(.fields #[(qs "__weakref__" 667),(qr 381),(qb "ExceptionGroup.__weakref__"),.none]),#[]⟩,qU 381,qI 381] <|
 fB 386 "body_of" 34 674 201 2 [] m7 <|
 fA 391 "misfit" 35 680 203 3 [] m7 ["spare","many","gaps","low","ideal","high"] <|
 fA 398 "greatest_divisor" 36 692 208 2 [] m7 ["one","other"] <|
 fA 405 "lowest_terms" 37 700 212 2 [] m7 ["top","bottom","divisor"] <|
 fA 412 "full_gap" 38 709 215 4 [] m7 ["case","line","measure","gaps","many","spare","off"] <|
 fA 419 "last_gap" 39 722 224 4 [] m7 ["case","line","measure","gaps","low","ideal","high"] <|
 fA 426 "cost_of" 41 737 230 4 [] m8 ["spare","many","gaps","last","low","ideal","high","off"] <|
 fB 433 "costs_of" 42 751 236 4 [] m8 <|
 fA 438 "can_follow" 43 757 247 4 [] m8 ["costs","table","start","end"] <|
 fB 445 "choices" 44 767 249 3 [] m8 <|
 fB 450 "table_of" 45 773 252 2 [] m8 <|
 fB 455 "most_in_full_lines" 46 779 257 2 [] m8 <|
 fB 460 "breaks_of" 47 785 263 4 [] m8 <|
 fB 465 "broken_lines" 48 791 274 2 [] m8 <|
 fB 470 "is_number" 52 803 279 1 [] m9 <|
 fB 475 "is_set_word" 53 809 283 1 [] m9 <|
 fA 480 "word_at" 54 815 285 2 [] m9 ["words","at"] <|
 fA 487 "read_number" 55 823 287 4 [] m9 ["words","at","low","high","word"] <|
 fA 494 "look_for" 56 834 292 3 [] m9 ["words","at","word"] <|
 fA 501 "read_measure" 57 843 295 2 [] m9 ["words","at"] <|
 fA 508 "read_gaps" 58 851 297 2 [] m9 ["words","at","low","ideal","high"] <|
 fA 515 "read_set" 59 862 302 2 [] m9 ["words","at","end"] <|
 fA 522 "read_times" 60 871 310 3 [] m9 ["words","at","brackets","many","jobs","end"] <|
 fA 529 "read_job" 61 883 321 3 [] m9 ["words","at","brackets"] <|
 fA 536 "read_jobs" 62 892 329 3 [] m9 ["words","at","brackets","jobs","job"] <|
 fA 543 "read_copy" 63 903 335 1 [] m9 ["text","words","jobs","end"] <|
 fB 550 "shown_job" 64 913 341 1 [] m9 <|
 fB 555 "shown_copy" 65 919 347 1 [] m9 <|
 u [qT [(.int (2) 929),(.int (4) 930),(.int (8) 931)]] <|
 fB 561 "add_paragraph" 71 937 354 2 [] R6 <|
 fA 566 "do_times" 72 943 360 5 [] R6 ["many","jobs","measure","gaps","paragraphs","again","ahead"] <|
 fA 573 "do_jobs" 73 956 367 4 [] R6 ["jobs","measure","gaps","paragraphs","job"] <|
 fA 580 "opened_jobs" 74 967 378 1 [] R6 ["jobs","paragraphs"] <|
 fA 587 "first_place_unlike" 76 977 383 2 [] YD ["one","other","place"] <|
 fB 594 "first_unlike" 77 986 388 3 [] YD <|
 fA 599 "_law_cell" 79 994 398 2 [] JB ["_law_script","_law_k"] <|
 fA 606 "_law_stream" 80 1002 402 2 [] JB ["_law_cell_here","_law_many","_law_number","_law_found","_law_k"] <|
 fA 613 "_law_over" 81 1013 409 2 [] JB ["_law_code","_law_other"] <|
 fB 620 "_law_first" 82 1021 416 1 [] JB <|
 fA 625 "_law_codes" 83 1027 421 2 [] JB ["_law_cell_here","_law_many","_law_left","_law_number","_law_code","_law_codes_here","_law_k"] <|
 fA 632 "_law_case" 84 1040 433 2 [] JB ["_law_script","_law_most","_law_signs","_law_first_here","_law_many","_law_codes_here","_law_some","_law_case_here","_law_k","_law_sign"] <|
 fB 639 "_law_word" 85 1056 444 3 [] JB <|
 fB 644 "_law_paragraphs" 86 1062 447 2 [] JB <|
 fB 649 "_law_copy" 87 1068 460 2 [] JB <|
 fB 654 "_law_wide" 88 1074 470 2 [] JB <|
 fA 659 "_law_divisor" 89 1080 475 2 [] JB ["_law_one","_law_other"] <|
 fA 666 "_law_set" 90 1088 479 5 [] JB ["_law_case_here","_law_line","_law_measure","_law_gaps","_law_last","_law_low","_law_ideal","_law_high","_law_body","_law_many","_law_found","_law_top","_law_bottom"] <|
 fA 673 "_law_broken" 91 1107 494 2 [] JB ["_law_case_here","_law_paragraph","_law_measure","_law_gaps","_law_words","_law_breaks","_law_lines","_law_flat","_law_line","_law_k"] <|
 fA 680 "_law_unlike" 92 1123 510 4 [] JB ["_law_case_here","_law_keys","_law_slugs","_law_cell_here","_law_at","_law_place","_law_odd"] <|
 fB 687 "_law_lacks" 93 1136 525 1 [] JB <|
 fB 692 "law" 94 1142 531 1 [] JB <|
 []
def hA(P:Params):List Obj:=[boot_o_0 P,boot_o_1 P,boot_o_2 P,boot_o_3 P,boot_o_4 P,boot_o_5 P,boot_o_6 P,boot_o_7 P,boot_o_8 P,boot_o_9 P,boot_o_10 P,(hO P).getD 11 (qT []),qN [],(hO P).getD 13 (qT []),(hO P).getD 14 (qT [])]
abbrev has:List Addr:=[2,3,15,17,18,20,21,22,29,30,31,32,35,42,44,45,47,48,49,50,51,54,61,62,63,66,73,75,76,78,79,80,81,82,85,92,94,95,97,98,99,100,101,104,111,113,114,116,117,118,119,120,123,130,131,132,135,142,144,145,147,148,149,150,151,154,156,157,159,160,161,163,164,166,167,168,170,171,173,174,175,177,178,180,181,182,185,186,187,190,191,192,195,196,197,199,200,202,203,204,206,207,209,210,211,213,214,216,217,218,221,222,223,225,226,228,229,230,233,234,242,243,245,246,248,249,250,252,253,255,256,257,259,260,262,263,264,266,267,269,270,271,273,274,276,277,278,280,281,283,284,285,288,289,290,292,293,295,296,297,299,300,302,303,304,306,307,309,310,311,313,314,316,317,318,320,321,323,324,325,327,328,330,331,332,334,335,337,338,339,341,342,344,345,346,349,350,351,353,354,356,357,358,360,361,363,364,365,367,368,370,371,372,374,375,377,378,379,380,381,382,383,386,389,390,391,393,394,396,397,398,400,401,403,404,405,407,408,410,411,412,414,415,417,418,419,421,422,424,425,426,428,429,431,432,433,436,437,438,440,441,443,444,445,448,449,450,453,454,455,458,459,460,463,464,465,468,469,470,473,474,475,478,479,480,482,483,485,486,487,489,490,492,493,494,496,497,499,500,501,503,504,506,507,508,510,511,513,514,515,517,518,520,521,522,524,525,527,528,529,531,532,534,535,536,538,539,541,542,543,545,546,548,549,550,553,554,555,558,559,560,561,564,565,566,568,569,571,572,573,575,576,578,579,580,582,583,585,586,587,589,590,592,593,594,597,598,599,601,602,604,605,606,608,609,611,612,613,615,616,618,619,620,623,624,625,627,628,630,631,632,634,635,637,638,639,642,643,644,647,648,649,652,653,654,657,658,659,661,662,664,665,666,668,669,671,672,673,675,676,678,679,680,682,683,685,686,687,690,691,692,695,696]
def hK(P:Params):Frag:=has.map λi=>(i,(hO P).getD i (qT []))
abbrev L3:Life:=⟨[],[],[],0,[],[],false,#[],[],0,false,false,false,0,[2000,10,10],false,0,true,[],[],0,false⟩
abbrev hD:HD:=⟨9692,12,0,4783,1,⟨0,0,0,0⟩,187,⟨0,0,0,0⟩,187,⟨0,0,0,0⟩,1148,697,15,⟨0,0,0,0⟩,⟨0,0,0,0⟩,⟨0,0,0,0⟩,⟨531,0,558,88⟩,(qr 13),14,(.some (qr 6))⟩
abbrev hview:Program:={ PySem.Challenge.pw_linecaster_k70_whole_copy_to_slugs with main:={ PySem.Challenge.pw_linecaster_k70_whole_copy_to_slugs.main with body:=[top 0,top 2,top 3,top 4,top 5,top 6,top 7,top 8,top 9,top 11,top 12,top 14,top 15,top 16,top 17,top 18,top 20,top 21,top 22,top 23,top 24,top 25,top 26,top 28,top 29,top 31,top 32,top 34,top 35,top 36,top 37,top 38,top 39,top 41,top 42,top 43,top 44,top 45,top 46,top 47,top 48,top 50,top 51,top 52,top 53,top 54,top 55,top 56,top 57,top 58,top 59,top 60,top 61,top 62,top 63,top 64,top 65,top 67,top 68,top 69,top 70,top 71,top 72,top 73,top 74,top 76,top 77,top 79,top 80,top 81,top 82,top 83,top 84,top 85,top 86,top 87,top 88,top 89,top 90,top 91,top 92,top 93,top 94] } }
end
theorem hpre:Hd.T5 PySem.Challenge.pw_linecaster_k70_whole_copy_to_slugs hD L3 hA:=λw os=>by kernel_rfl
theorem TU:Hd.T6 PySem.Challenge.pw_linecaster_k70_whole_copy_to_slugs hD L3 hA:=λw os=>by kernel_rfl
theorem hgo:Hd.Go PySem.Challenge.pw_linecaster_k70_whole_copy_to_slugs hD L3 hA hO:=λw os=>by kernel_rfl
theorem TV:Hd.Fin PySem.Challenge.pw_linecaster_k70_whole_copy_to_slugs hD L3 hO:=λw os=>by kernel_rfl
theorem hl1:Hd.X5 PySem.Challenge.pw_linecaster_k70_whole_copy_to_slugs hD L3 hO:=λw os=>by kernel_rfl
theorem hl3:Hd.X6 hD L3 hO hK has:=λw os=>by kernel_rfl
theorem hKe:∀P,has=(hK P).map (·.1):=λP=>by kernel_rfl
theorem hla:Hd.Xm PySem.Challenge.pw_linecaster_k70_whole_copy_to_slugs hview hD L3 hO (Hd.O6 PySem.Challenge.rw_linecaster_k70_whole_copy_to_slugs hview):=λw os=>by kernel_rfl
theorem hlb:Hd.Xn PySem.Challenge.pw_linecaster_k70_whole_copy_to_slugs hview hD L3 hO (Hd.O6 PySem.Challenge.rw_linecaster_k70_whole_copy_to_slugs hview):=λw os=>by kernel_rfl
theorem hlc:Hd.Xo PySem.Challenge.pw_linecaster_k70_whole_copy_to_slugs hview hD L3 hO (Hd.O6 PySem.Challenge.rw_linecaster_k70_whole_copy_to_slugs hview):=λw os=>by kernel_rfl
theorem hl2:Hd.T7 PySem.Challenge.pw_linecaster_k70_whole_copy_to_slugs hview hD L3 hO (Hd.O6 PySem.Challenge.rw_linecaster_k70_whole_copy_to_slugs hview):=Hd.jI hla hlb hlc
theorem hsaid:Hd.X7 PySem.Challenge.rw_linecaster_k70_whole_copy_to_slugs=true:=by kernel_rfl
theorem hleft:LeftO PySem.Challenge.pw_linecaster_k70_whole_copy_to_slugs hview [] (Hd.O6 PySem.Challenge.rw_linecaster_k70_whole_copy_to_slugs hview) (Hook.obs (kHook hK has hKe)) (Hook.val (kHook hK has hKe)) hD.N:=Hd.jx (D:=hD) (L:=L3) (A:=hA) (O:=hO) (by kernel_rfl) (λs=>by kernel_rfl) (by kernel_rfl) (by kernel_rfl) (by kernel_rfl) hpre TU hgo TV hl1 hl2 hl3
theorem hB:QF tb:=by
 repeat (refine And.intro (by first|exact ba1 λ_ _ _ _ _ _ _=>rfl|exact ba2 λ_ _ _ _ _ _ _ _=>rfl|exact ba3 λ_ _ _ _ _ _ _ _ _=>rfl|exact ba4 λ_ _ _ _ _ _ _ _ _ _=>rfl|exact ba5 λ_ _ _ _ _ _ _ _ _ _ _=>rfl) ?_)
 exact trivial
theorem oZ:QJ QW:=by
 repeat (refine And.intro (by first|exact ba1 λ_ _ _ _ _ _ _=>rfl|exact ba2 λ_ _ _ _ _ _ _ _=>rfl|exact ba3 λ_ _ _ _ _ _ _ _ _=>rfl|exact ba4 λ_ _ _ _ _ _ _ _ _ _=>rfl|exact ba5 λ_ _ _ _ _ _ _ _ _ _ _=>rfl) ?_)
 exact trivial
theorem p6{s:Shared}{fd:FuncData}{ps:List Str}{ds:List Value}(h:∀a b c d:Value,BindsTo s fd ⟨[a,b,c,d],[]⟩ (ps.zip ([a,b,c,d]++ds))):∀us:List Value,us.length=4->BindsTo s fd ⟨us,[]⟩ (ps.zip (us++ds)):=Wh (P:=λus=>BindsTo s fd ⟨us,[]⟩ (ps.zip (us++ds))) h
theorem p8{s:Shared}{fd:FuncData}{ps:List Str}{ds:List Value}(h:∀a b c d e:Value,BindsTo s fd ⟨[a,b,c,d,e],[]⟩ (ps.zip ([a,b,c,d,e]++ds))):∀us:List Value,us.length=5->BindsTo s fd ⟨us,[]⟩ (ps.zip (us++ds)):=Wi (P:=λus=>BindsTo s fd ⟨us,[]⟩ (ps.zip (us++ds))) h
theorem txt{P:Params}{mg:Str->Option Value}(X:(hK P).In h)(G:h.Ns mainGlobals mg):Tx (hK P) mg ⟨QH (hK P) tb,QI (hK P) tb,QK (hK P) 381 QW,QL (hK P) 381 QW,381,249,31,63,82,79,101,98,120,117,560,GK (hK P) 249 "__init__" "Machine.__init__" (DT (top 32) 0) (.ref 242),GK (hK P) 79 "__init__" "Loose.__init__" (DT (top 5) 0) .none,GK (hK P) 98 "__init__" "Tight.__init__" (DT (top 6) 0) .none,GK (hK P) 117 "__init__" "NoBreak.__init__" (DT (top 7) 0) .none,393,426,428,491,799,801,927,933,935⟩:=by
 have F:(hK P).lookup 242=some (qT [.none]):=by kernel_rfl
 exact {
  f:=jB X G (by kernel_rfl) (by unfold X9;kernel_rfl) hB
  b:=jE X G (by kernel_rfl)
  me_Machine:=jC (by kernel_rfl) (by unfold Xd;kernel_rfl) oZ
  na_Machine:=jD (by kernel_rfl)
  Machine:=jH X G (by kernel_rfl) (by kernel_rfl) (λ_ _ _ _ _ _ s us J I=>p8 (λ_ _ _ _ _=>BindsTo.of_defaults rfl (J _ _ F) rfl rfl rfl) us (Wj I)) (λ_ _ _ _ _ _ s us J I=>p6 (λ_ _ _ _=>BindsTo.of_defaults rfl (J _ _ F) rfl rfl rfl) us (Wj I))
  cl_CasterError:=jG X G (by kernel_rfl)
  cl_TooMany:=jF X G (by kernel_rfl)
  cl_Loose:=Ta X G (by kernel_rfl) (by kernel_rfl) (ba2 λ_ _ _ _ _ _ _ _=>rfl)
  cl_Tight:=Ta X G (by kernel_rfl) (by kernel_rfl) (ba2 λ_ _ _ _ _ _ _ _=>rfl)
  cl_NoBreak:=Ta X G (by kernel_rfl) (by kernel_rfl) (ba2 λ_ _ _ _ _ _ _ _=>rfl)
  bi:=⟨by kernel_rfl,by kernel_rfl,by kernel_rfl⟩
  m_NoBreak_NoBreak:=by kernel_rfl
  g_FIRST_GAPS:=Dh X G (by kernel_rfl)
  k_FIRST_GAPS:=λH=>.inr ⟨_,_,_,(by kernel_rfl:(hK P).lookup 560=some (qT [.int 2 929,.int 4 930,.int 8 931])),rfl,rfl,(by decide:3<=sizeLine),.cons ⟨_,rfl⟩ (.cons ⟨_,rfl⟩ (.cons ⟨_,rfl⟩ (.nil)))⟩
  g_SIGNS:=Dh X G (by kernel_rfl)
  g_GAP_KEY:=Dh X G (by kernel_rfl)
  g_SEND_KEY:=Dh X G (by kernel_rfl)
  g_WEDGE:=Dh X G (by kernel_rfl)
  g_FIGURES:=Dh X G (by kernel_rfl)
  g_MOST_BRACKETS:=Dh X G (by kernel_rfl)
  g_FIRST_MEASURE:=Dh X G (by kernel_rfl)
  g_MOST_PARAGRAPHS:=Dh X G (by kernel_rfl)
  g_MOST_WORDS:=Dh X G (by kernel_rfl)
 }
end
end
end Lw
open PySem PySem.W PyProof.Rows
set_option maxRecDepth 100000 in
set_option maxHeartbeats 0 in
theorem PySem.Challenge.cw_linecaster_k70_whole_copy_to_slugs_holds : PySem.Challenge.rw_linecaster_k70_whole_copy_to_slugs.Holds := by
 w_on
 refine Hd.holds (st:=Lw.top 94) (x:="law") (l:=PySem.Challenge.rw_linecaster_k70_whole_copy_to_slugs) (q:=Lw.hview) (K:=Lw.hK) (as:=Lw.has) (e:=Lw.hKe) (N:=Lw.hD.N) Lw.hsaid Lw.hleft (by kernel_rfl) (by kernel_rfl) (by kernel_rfl) (by kernel_rfl) (by decide +kernel) ⟨rfl,rfl,rfl,rfl,rfl,by decide +kernel⟩ ?hw ?hc
 (case hw=>w_witness2)
 refine L2.KL (l:=PySem.Challenge.rw_linecaster_k70_whole_copy_to_slugs) (n:=63) (k:=Lw.lawLevel) (x:="_law_script") (CX:=L2.BL) (sp:=Lw.sp_law) rfl (by decide) rfl ⟨rfl,by decide,by decide⟩ (λw h Y=>PySem.W.kIn_of Y) ?F ?S ?C
 case F =>
  intro w mg fa h KX G hmg;have T:=Lw.txt KX G;obtain⟨a,T⟩:∃a,Lw.Tx (Lw.hK w.params) mg a:=⟨_,T⟩
  have e0:=hmg.symm.trans T.law.mg;cases e0;exact⟨_,λs u=>.of_eq (T.law.ba [u] rfl),λbase kb nb=>Lw.ok_law T⟩
 case S=>exact λK H a ns hl hO hS=>⟨a,ns,rfl,hS,hl,λ_=>rfl⟩
 case C=>exact λ_ _ _ _ z=>z

