import PyProof.Rows.All
import Wide.All
import OpenK.AllK
import Wide.FinOn
import Lean
import PyProof.EqAt
import PyProof.EqKinds
import PyProof.TupleCall
import KE.KSortTup
import KE.KUnpack
import PyProof.ExcBaseAll.ValueError
import KE.KTryMore
import PyProof.Rows.Catch
import PyProof.NsDelKeeps
import KE.KIsAll
import PyProof.ExcArgsOwn
import PyProof.InstStore
import PyProof.DictRoadsH
import PyProof.EnumFor
import PyProof.EnumStmt
import PyProof.EnumMake
import PyProof.MaxThree
import KE.KDictList
import PyProof.NeKinds
import KE.KEqDict
import KE.KxText
import PyProof.WalkInts
import PyProof.SeqI3
import KE.KIntText
import KE.KRevIter
import PyProof.DictIter
import PyProof.DictWalks
import PyProof.DictItems
import PyProof.DictItemsLoops
import PyProof.TupleOfSeq
import PyProof.Calls
import PySem.Challenge.RW_dueyard_k22_shares
abbrev VP:=PySem.Value->PySem.Shared->Prop
abbrev AL:=List (PySem.Addr×PySem.Obj)
abbrev AO:=List (Option PySem.Addr)
abbrev FG:=PySem.W.Frag
set_option linter.all false
def Aa:=@PySem.wpAny_bind
def Ab:=@if_pos
def Ac:=@if_neg
def Ad:=@PySem.wpAny_pure
def Ae:=@List.length_map
def Af:=@List.mem_cons
def Ag:=@Nat.le_refl
def Ah:=@List.map_cons
def Ai:=@PySem.Heap.lt_size
def Aj:=@List.mem_cons_self
def Ak:=@List.mem_map
def Al:=@List.mem_of_getElem?
def Am:=@Option.map_some
def An:=@PySem.W.mg_of
def Ao:=@List.getElem?_eq_some_iff
def Ap:=@List.mem_cons_of_mem
def Aq:=@List.size_toArray
def Ar:=@List.length_append
def As:=@PySem.Heap.get?_push_of_some
def Au:=@List.mem_singleton
def Av:=@List.map_append
def Aw:=@Nat.ne_of_lt
def Ax:=@List.length_cons
def Ay:=@List.length_take
def Az:=@List.getElem?_map
def Bb:=@beq_iff_eq
def Bc:=@List.mem_append
def Be:=@Bool.and_eq_true
def Bf:=@PySem.Heap.get?_push_size
def Bg:=@List.map_map
def Bh:=@List.getElem?_append_left
def Bi:=@List.mem_range
def Bj:=@Nat.lt_of_lt_of_le
def Bk:=@Bool.false_ne_true
def Bl:=@List.map_nil
def Bm:=@Ne.symm
def Bn:=@or_false
def Bo:=@List.getElem?_append_right
def Bp:=@List.nodup_cons
def Bq:=@List.length_range
def Br:=@Int.toNat_natCast
def Bt:=@List.not_mem_nil
def Bu:=@decide_eq_false
def Bv:=@PySem.wpAny_mono
def Bw:=@List.length_set
def Bx:=@Array.getElem?_toList
def By:=@Nat.le_trans
def Bz:=@List.append_nil
def B0:=@List.mem_filter
def B1:=@List.mem_append_right
def B2:=@Array.getElem?_eq_getElem
def B3:=@PySem.W.mg_none_of
def B4:=@PySem.wpAny_holding
def B5:=@Nat.zero_le
def B6:=@if_true
def B7:=@List.getElem?_of_mem
def B8:=@PySem.boot_len
def B9:=@Nat.lt_irrefl
def Ca:=@if_false
def Cb:=@List.lookup_cons
def Cc:=@List.length_singleton
def Cd:=@decide_eq_true
def Ce:=@Option.some.injEq
def Cf:=@List.getD_eq_getElem?_getD
def Cg:=@PySem.wpAny_truthy_bool
def Ci:=@PySem.Heap.size_push
def Cj:=@List.take_length
def Ck:=@PySem.wpAny_call_entry
def Cm:=@List.drop_length
def Cn:=@Array.length_toList
def Co:=@List.getElem?_take_of_lt
def Cp:=@PySem.Heap.get?_update_self
def Cq:=@List.append_assoc
def Cr:=@PySem.wpAny_loadPart_at
def Cs:=@List.mem_append_left
def Ct:=@Nat.ne_of_gt
def Cu:=@PySem.wpAny_newObj_type
def Cv:=@decide_eq_true_eq
def Cw:=@List.nodup_append
def Cy:=@List.getElem?_set
def Cz:=@List.length_filter_le
def C4:=@Nat.lt_succ_self
def C5:=@Nat.le_succ
def C6:=@PySem.mem_of_lookup
def C7:=@PySem.Heap.get?_update_other
def C8:=@List.getElem_mem
def C9:=@Nat.lt_or_ge
def Da:=@PySem.wpAny_setState_of
def Dd:=@PySem.codeAny_mono
def De:=@PySem.wpAny_Call_Name_kw
def Df:=@Bool.false_eq_true
def Dg:=@List.any_eq_true
def Dh:=@Array.getElem?_eq_some_iff
def Di:=@PySem.Heap.SameBut.update
def Dj:=@Option.map_eq_some_iff
def Dk:=@Prod.mk.injEq
def Dl:=@PySem.F.called_set
def Dm:=@PySem.F.slot_list_append
def Dn:=@PySem.F.type_list_append
def Do:=@PyProof.Rows.boot_isinstance
def Dp:=@Nat.le_of_lt
def Dq:=@PySem.wpAny_passesOwn
def Dr:=@Bool.false_and
def Ds:=@PySem.sizeLine_eq
def Dt:=@PySem.wpAny_call
def Du:=@List.length_replicate
def Dv:=@List.replicate_succ
def Dw:=@List.flatten_cons
def Dx:=@PySem.call_meets
def Dy:=@List.length_nil
def Dz:=@List.getElem?_cons_succ
def D0:=@PySem.wpAny_rule
def D1:=@List.nodup_nil
def D2:=@Int.le_refl
def D4:=@PyProof.Rows.boot_list
def D5:=@beq_eq_false_iff_ne
def D6:=@PySem.W.hideAll_none
def D7:=@PySem.W.looks_findIn
def D8:=@PySem.W.kia_one
def D9:=@Bool.or_false
def Ea:=@List.nil_append
def Eb:=@PySem.wpAny_setField
def Ec:=@Bool.false_or
def Ed:=@List.getElem?_eq_none
def Ee:=@List.getElem?_cons_zero
def Ef:=@List.map_congr_left
def Eg:=@PySem.wpAny_callSpecial?_slot
def Eh:=@List.find?_cons
def Ei:=@Bool.true_or
def Ej:=@Int.zero_add
def Ek:=@List.mem_of_mem_take
def El:=@List.eq_nil_of_length_eq_zero
def Em:=@PySem.wpAny_fieldsOf
def En:=@List.pairwise_cons
def Eo:=@PySem.codeAny_builtin
def Ep:=@List.ext_getElem
def Er:=@PySem.wpAny_setField_rec
def Es:=@PyProof.Rows.boot_sum
def Et:=@Bool.not_true
def Eu:=@Bool.not_false
def Ew:=@Bool.true_and
def Ex:=@List.drop_zero
def Ey:=@List.set_append_right
def Ez:=@Int.mul_zero
def E4:=@Int.max_eq_right
def E5:=@List.filter_sublist
def E6:=@List.getElem?_set_ne
def E7:=@PySem.wpAny_standAt
def E8:=@PySem.wpAny_pyIter_list
def E9:=@PyProof.Rows.callWith_type1
def Fb:=@List.mem_filterMap
def Fc:=@PySem.W.callWith_K
def Fd:=@Bool.and_false
def Fe:=@List.take_add_one
def Ff:=@Nat.lt_succ_of_lt
def Fg:=@PySem.Obj.data_mapFields
def Fh:=@List.drop_eq_getElem_cons
def Fi:=@List.all_cons
def Fj:=@PySem.F.slot_dict_keyiterator_next
def Fo:=@PySem.Around.under_plainId
def Fp:=@PySem.plainId_quiet
def Fq:=@PyProof.Rows.boot_max
def Fs:=@Int.max_eq_left
def Ft:=@List.take_append_drop
def Fu:=@PySem.W.of_hideAll
def Fv:=@List.filterMap_cons
def Fw:=@List.getElem?_set_self
def Fx:=@PySem.wpAny_execs_nil
def Fy:=@List.length_drop
def Fz:=@List.foldl_cons
def Ga:=@beq_self_eq_true
def Gb:=@Bool.eq_iff_iff
def Gc:=@List.all_eq_true
def Gd:=@Bool.not_eq_true'
def Ge:=@PySem.F.excBase_ValueError
def Gf:=@PySem.codeAny_call_builtin
def Gg:=@PySem.wpAny_dictEntries
def Gh:=@PySem.wpAny_ite_split
def Gi:=@of_decide_eq_true
def Gj:=@Option.bind_some
def Gk:=@PySem.PassesOwn.leaving
def Gm:=@PySem.wpAny_pyIter_slot
def Gn:=@PySem.wpAny_typeNameOfWhole_keyiter
def Gp:=@PySem.wpAny_typeNameOf_keyiter
def Gq:=@Array.getElem?_eq_none
def Gr:=@List.take_of_length_le
def Gs:=@PySem.wpAny_askSetting
def Gu:=@PyProof.Rows.boot_min
def Gv:=@List.cons_append
def Gw:=@List.set_cons_succ
def Gx:=@Int.emod_nonneg
def Gy:=@Int.emod_lt_of_pos
def Gz:=@List.range_succ
def G0:=@Int.mul_nonneg
def G1:=@List.isEmpty_nil
def G2:=@List.set_append_left
def G4:=@List.find?_cons_of_pos
def G5:=@List.find?_cons_of_neg
def G6:=@PySem.Heap.get?_none_of_le
def G7:=@PySem.W.methodCall_KW
def G8:=@List.getElem?_replicate
def G9:=@PySem.Calls.callWith_builtin
def Ha:=@PySem.Calls.evalArgs_plain
def Hb:=@Array.getElem?_eq_none_iff
def Hc:=@PySem.Obj.isFreed_of_fields
def He:=@PySem.W.funFrames_hide
def Hf:=@List.mem_iff_getElem?
def Hg:=@Classical.byContradiction
def Hh:=@PySem.F.plainAttrs_list
def Hi:=@PySem.wpAny_isOneOf_keyiter
def Hj:=@List.pairwise_iff_getElem
def Hk:=@List.pairwise_lt_range
def Hl:=@PyProof.Rows.F.plain_set_update_loop
def Hn:=@PySem.builtinLookup_eq_fast
def Ho:=@PySem.F.slot_list_extend
def Hq:=@PySem.F.type_list_extend
def Hr:=@List.concat_eq_append
def Hs:=@List.filter_cons_of_neg
def Ht:=@PyProof.Rows.F.entry_set_update_loop
universe u
noncomputable section
def zX{α:Type u}{l:List α}{i:Nat}(h:i<l.length):l[i]?=some l[i]:=List.getElem?_eq_getElem h
def zd{a b:Prop}(h:a)(k:b):a/\b:=⟨h,k⟩
set_option Elab.async false
set_option compiler.extract_closed false
set_option bootstrap.genMatcherCode false
set_option genSizeOfSpec false
set_option genSizeOf false
local macro_rules | `(tactic|lia)=>`(tactic|first|assumption|lia (splits:=9)|omega)
set_option linter.all false
set_option maxRecDepth 100000
namespace L2
open PySem PySem.Spec PyProof.Rows
abbrev qg:=Sum Int Str
noncomputable def BM:qg->Value->Bool
 |.inl k,v=>Value.isInt k v
 |.inr x,v=>Value.isStrOf x v
noncomputable def keyH(w:World):qg->Int
 |.inl k=>hashInt k
 |.inr x=>hashStr w x
def AA:∀{k:qg}{v:Value},BM k v=true->(∃i t,k=Sum.inl i/\v=Value.int i t)\/(∃x t,k=Sum.inr x/\v=Value.str x t)
 |.inl i,v,h=>by
  obtain⟨t,e⟩:=Value.isInt_shape (k:=i) (v:=v) h;exact .inl ⟨i,t,rfl,e⟩
 |.inr x,v,h=>by
  obtain⟨t,e⟩:=Value.isStrOf_shape (x:=x) (v:=v) h;exact .inr ⟨x,t,rfl,e⟩
def ML(i:Int)(t:Tok):BM (.inl i) (.int i t)=true:=by simp[BM,Value.isInt]
def MM(x:Str)(t:Tok):BM (.inr x) (.str x t)=true:=by simp[BM,Value.isStrOf]
def R3(a b:Int):decide ((Sum.inl a:qg)=Sum.inl b)=(a==b):=by
 by_cases e:a=b
 .subst e;simp
 .have h: ¬(Sum.inl a:qg)=Sum.inl b:=λ q=>e (Sum.inl.inj q)
  rw[Bu h];exact (D5.mpr e).symm
def R4(a b:Str):decide ((Sum.inr a:qg)=Sum.inr b)=decide (a=b):=by
 by_cases e:a=b
 .subst e;simp
 .have h: ¬(Sum.inr a:qg)=Sum.inr b:=λ q=>e (Sum.inr.inj q)
  rw[Bu h,Bu e]
def R5(a:Int)(b:Str):decide ((Sum.inl a:qg)=Sum.inr b)=false:=Bu (λ q=>nomatch q)
def R6(a:Str)(b:Int):decide ((Sum.inr a:qg)=Sum.inl b)=false:=Bu (λ q=>nomatch q)
def qP(prog:Program)(w:World):PySem.KeyKind prog w qg where
 is:=BM
 hash:=keyH w
 inj:=λ v a b f d=>by
  rcases AA f with ⟨i,t,rfl,rfl⟩|⟨x,t,rfl,rfl⟩
  .rcases AA d with ⟨j,u,rfl,e⟩|⟨y,u,rfl,e⟩
   .injection e with e1 _;rw[e1]
   .exact nomatch e
  .rcases AA d with ⟨j,u,rfl,e⟩|⟨y,u,rfl,e⟩
   .exact nomatch e
   .injection e with e1 _;rw[e1]
 byValue:=λ k v h=>by
  rcases AA h with ⟨i,t,rfl,rfl⟩|⟨x,t,rfl,rfl⟩<;>rfl
 pyHash:=λ c h=>by
  rcases AA c with ⟨i,t,rfl,rfl⟩|⟨x,t,rfl,rfl⟩
  .exact wpAny_pyHash_int h
  .exact wpAny_pyHash_str h
 eqBool:=λ g c h=>by
  rcases AA g with ⟨i,t,rfl,rfl⟩|⟨x,t,rfl,rfl⟩
  .rcases AA c with ⟨j,u,rfl,rfl⟩|⟨y,u,rfl,rfl⟩
   .rw[R3]at h;exact wpAny_eqBool_int h
   .rw[R5]at h;exact SeqAt.EqAt.int_str i t y u _ _ _ _ h
  .rcases AA c with ⟨j,u,rfl,rfl⟩|⟨y,u,rfl,rfl⟩
   .rw[R6]at h;exact SeqAt.EqAt.str_int x t j u _ _ _ _ h
   .rw[R4]at h;exact wpAny_eqBool_str h
 «strs» :=λ k x t v h=>by
  rcases AA h with ⟨i,u,rfl,e⟩|⟨y,u,rfl,e⟩
  .exact nomatch e
  .injection e with e1 _
   subst e1;cases v<;>rfl
def R7(prog:Program)(w:World)(i:Int)(t:Tok):(qP prog w).is (.inl i) (.int i t)=true:=ML i t
def R8(prog:Program)(w:World)(x:Str)(t:Tok):(qP prog w).is (.inr x) (.str x t)=true:=MM x t
inductive V where
 |non|bl (b:Bool)|int (i:Int)|str (x:Str)|ref (a:Addr)|ty (n:String)
 deriving DecidableEq
def RelV:V->Value->Prop
 |.non,u=>u=Value.none
 |.bl b,u=>u=Value.bool b
 |.int i,u=> ∃t,u=Value.int i t
 |.str x,u=> ∃t,u=Value.str x t
 |.ref a,u=>u=Value.ref a
 |.ty n,u=>u=Value.type n
abbrev Vals:List V->List Value->Prop:=Paired RelV
theorem Vals.length{xs:List V}{us:List Value}(r:Vals xs us):xs.length=us.length:=Paired.length r
theorem Vals.get:∀{xs:List V}{us:List Value}{i:Nat}{x:V},Vals xs us->xs[i]? =some x->∃u,us[i]? =some u/\RelV x u
 |_,_,_,_,.nil,e=>by simp at e
 |_,_,0,_,.cons r _,e=>by simp at e;subst e;exact⟨_,rfl,r⟩
 |_,_,i+1,x,.cons _ t,e=>by
  obtain⟨u,h1,h2⟩:=Vals.get (i:=i) (x:=x) t (by simpa using e)
  exact⟨u,by simpa using h1,h2⟩
theorem Vals.set{x:V}{u:Value}(r:RelV x u):∀{xs:List V}{us:List Value}(i:Nat),Vals xs us->Vals (xs.set i x) (us.set i u)
 |_,_,_,.nil=>.nil
 |_,_,0,.cons _ t=>.cons r t
 |_,_,i+1,.cons q t=>.cons q (Vals.set r i t)
theorem Vals.append:∀{xs ys:List V}{us ws:List Value},Vals xs us->Vals ys ws->Vals (xs++ys) (us++ws)
 |_,_,_,_,.nil,s=>s
 |_,_,_,_,.cons r t,s=>.cons r (Vals.append t s)
theorem Vals.take:∀{xs:List V}{us:List Value}(n:Nat),Vals xs us->Vals (xs.take n) (us.take n)
 |_,_,0,_|_,_,_+1,.nil=>.nil
 |_,_,n+1,.cons r t=>.cons r (Vals.take n t)
theorem Vals.drop:∀{xs:List V}{us:List Value}(n:Nat),Vals xs us->Vals (xs.drop n) (us.drop n)
 |_,_,0,r=>r
 |_,_,_+1,.nil=>.nil
 |_,_,n+1,.cons _ t=>Vals.drop n t
def RelO:Option V->Option Value->Prop
 |some v,some u=>RelV v u
 |none,none=>True
 |_,_=>False
def kV:qg->V
 |.inl i=>.int i
 |.inr x=>.str x
inductive MK where
 |one (k:qg)
 deriving DecidableEq
def MK.hash(P:Program)(w:World):MK->Int
 |.one k=>(qP P w).hash k
def yH(P:Program)(w:World)(x:MK×Value×Value):DictEntry:=⟨x.1.hash P w,x.2.1,x.2.2⟩
inductive HO where
 |lst (xs:List V)
 |tup (xs:List V)
 |dT (kvs:List (MK×V))
 |ins (C dx:Addr) (fs:List (Str×V))
 |own (x:Addr)
 |xd (fs:List (Str×V))
 |frz (o:Obj) (u:HO)
 |ext (φ:Heap->Prop)
abbrev Hp:=Addr->Option HO
def KyV(H:Hp):MK->Value->Prop
 |.one k,u=>RelV (kV k) u
def KyV.mono{H H':Hp}(a:∀b xs,H b=some (.tup xs)->H' b=some (.tup xs)):∀{k:MK}{u:Value},KyV H k u->KyV H' k u
 |.one _,_,h=>h
noncomputable def zk(H:Hp)(a:Addr)(o:HO):Hp:=λ b=>if b=a then some o else H b
def yt{H:Hp}{a:Addr}{o:HO}:zk H a o a=some o:=by unfold zk;rw[Ab rfl]
def zK{H:Hp}{a b:Addr}{o:HO}(h:b≠a):zk H a o b=H b:=by unfold zk;rw[Ac h]
def MN:zk (zk H a o) a u=zk H a u:=by
 funext b;unfold zk;split<;>rfl
def R9{H:Hp}{a b:Addr}{o u:HO}(h:H a=some o)(h':H b=some u)(d:o≠u):a≠b:=by
 intro e;subst e;rw[h]at h';exact d (Option.some.inj h')
def qA{H:Hp}{a b:Addr}{o:HO}(h:H a=some o)(h':H b=none):a≠b:=by
 intro e;subst e;rw[h]at h';cases h'
section
variable(P:Program)(w:World)
def ObjOk(H:Hp)(h:Heap)(a:Addr):HO->Prop
 |.lst xs=>xs.length<=sizeLine/\∃(its:List Value)(n:Nat),Vals xs its/\h.get? a=some {cls:= .type "list",data:= .seq its.toArray n}
 |.tup xs=>xs.length<=sizeLine/\∃its:List Value,Vals xs its/\IsTup h a its.toArray
 |.dT kvs=>kvs.length<=sizeLine/\(a==sysModules)=false/\∃xs:List (MK×Value×Value),Paired (λ(p:MK×V)(q:MK×Value×Value)=>p.1=q.1/\KyV H p.1 q.2.1/\RelV p.2 q.2.2) kvs xs/\
  ∃o es ep,h.get? a=some o/\o.ExactDict/\o.data=.dict es ep/\es.toList=xs.map (yH P w)/\(xs.map (·.1)).Nodup/\ep=xs.length
 |.ins C dx fs=>H dx=some (.own a)/\fs.length<=1000/\dx≠a/\h.get? a=some (PySem.W.instObj C dx)/\
  ∃mA,h.Ns1 dx mA/\(∀f,RelO (fs.lookup f) (mA f))/\PySem.Within mA (fs.map (·.1))
 |.own _=> ∃o,h.get? a=some o
 |.xd fs=> ∃mA,h.Ns1 a mA/\∀f,RelO (fs.lookup f) (mA f)
 |.frz o u=>h.get? a=some o/\ObjOk H h a u
 |.ext φ=>φ h/\(∃o,h.get? a=some o)/\∀h1 h2:Heap,φ h1->(∀o,h1.get? a=some o->h2.get? a=some o)->φ h2
def HOk(H:Hp)(h:Heap):Prop:=∀a o,H a=some o->ObjOk P w H h a o
end
section
variable{P:Program}{w:World}{H H':Hp}{h h':Heap}{a:Addr}{o:HO}
theorem ObjOk.lt(x:ObjOk P w H h a o):a<h.objs.size:=by
 cases o with
 |lst xs=>obtain⟨_,_,_,_,e⟩:=x;exact Ai e
 |tup xs=>obtain⟨_,_,_,p⟩:=x;exact p.lt
 |dT kvs=>obtain⟨_,_,_,_,o,_,_,e,_⟩:=x;exact Ai e
 |ins C dx fs=>obtain⟨_,_,_,e,_⟩:=x;exact Ai e
 |own y=>obtain⟨_,e⟩:=x;exact Ai e
 |xd fs=>obtain⟨_,⟨_,_,_,e,_⟩,_⟩:=x;exact Ai e
 |frz ob u=>obtain⟨e,_⟩:=x;exact Ai e
 |ext φ=>obtain⟨_,⟨_,e⟩,_⟩:=x;exact Ai e
theorem Paired.mapP{α β:Type}{F G:α->β->Prop}:∀{l₁:List α}{c:List β},Paired F l₁ c->(∀a b,F a b->G a b)->Paired G l₁ c
 |_,_,.nil,_=>.nil
 |_,_,.cons r t,f=>.cons (f _ _ r) (Paired.mapP t f)
def ObjOk.stay(x:ObjOk P w H h a o)(k:∀b u,(b=a\/H b=some (.own a))->h.get? b=some u->h'.get? b=some u)
  (g:∀b,H b=some (.own a)->H' b=some (.own a)) (i:∀b xs,H b=some (.tup xs)->H' b=some (.tup xs)):ObjOk P w H' h' a o:=by
 induction o with
 |lst xs=>obtain⟨z,its,n,r,e⟩:=x;exact⟨z,its,n,r,k _ _ (.inl rfl) e⟩
 |tup xs=>obtain⟨z,its,r,f,e,c⟩:=x;exact⟨z,its,r,f,k _ _ (.inl rfl) e,c⟩
 |dT kvs=>
  obtain⟨z,y,xs,r,f,es,ep,e,c⟩:=x;exact⟨z,y,xs,Paired.mapP r λ p q z=>⟨z.1,z.2.1.mono i,z.2.2⟩,f,es,ep,k _ _ (.inl rfl) e,c⟩
 |ins C dx fs=>
  obtain⟨d,z,ne,e,mA,⟨od,es,ep,e2,c⟩,r⟩:=x;exact⟨g _ d,z,ne,k _ _ (.inl rfl) e,mA,⟨od,es,ep,k _ _ (.inr d) e2,c⟩,r⟩
 |own y=>obtain⟨f,e⟩:=x;exact⟨f,k _ _ (.inl rfl) e⟩
 |xd fs=>obtain⟨mA,⟨od,es,ep,e,c⟩,r⟩:=x;exact⟨mA,⟨od,es,ep,k _ _ (.inl rfl) e,c⟩,r⟩
 |frz f u ih=>obtain⟨e,q⟩:=x;exact⟨k _ _ (.inl rfl) e,ih q⟩
 |ext φ=>obtain⟨p,⟨o,e⟩,st⟩:=x;exact⟨st _ _ p λ o q=>k _ _ (.inl rfl) q,⟨o,k _ _ (.inl rfl) e⟩,st⟩
theorem HOk.lt(x:HOk P w H h)(e:H a=some o):a<h.objs.size:=(x a o e).lt
def HOk.fresh(x:HOk P w H h)(e:h.objs.size<=a):H a=none:=by
 cases q:H a with
 |none=>rfl
 |some u=>exact absurd (Bj (x.lt q) e) (B9 _)
def HOk.kept(x:HOk P w H h)(k:∀b u,h.get? b=some u->h'.get? b=some u):HOk P w H h':=λ a o e=>
 (x a o e).stay (λ b u _ q=>k b u q) (λ _ q=>q) λ _ _ q=>q
def HOk.laid(x:HOk P w H h)(k:∀b u,h.get? b=some u->h'.get? b=some u)(hp:h.objs.size<=a)(new:ObjOk P w (zk H a o) h' a o):HOk P w (zk H a o) h':=λ b u e=>by
 have d:=x.fresh hp
 by_cases hb:b=a
 .subst hb;rw[yt]at e;cases e;exact new
 .rw[zK hb]at e
  exact (x b u e).stay (λ c v _ q=>k c v q) (λ c q=>by rw[zK (qA q d)];exact q) λ c xs q=>by rw[zK (qA q d)];exact q
end
def Rd(H:Hp)(a:Addr)(u:HO):Prop:=H a=some u\/∃o,H a=some (.frz o u)
def Rd.ok{P:Program}{w:World}{H:Hp}{h:Heap}{a:Addr}{u:HO}(r:Rd H a u)(x:HOk P w H h):ObjOk P w H h a u:=by
 rcases r with r|⟨o,r⟩
 .exact x a u r
 .obtain⟨_,q⟩:=x a _ r
  exact q
def Mut:Option HO->Prop
 |some (.lst _)|some (.dT _)|some (.ins _ _ _)|some (.ext _)=>True
 |_=>False
section
variable{P:Program}{w:World}{H:Hp}{h h':Heap}{x e:Addr}{o':HO}
def HOk.write(ok:HOk P w H h)(f:Mut (H x))(j:e=x\/H e=some (.own x))(k:∀b u,b≠e->h.get? b=some u->h'.get? b=some u)(i:∃u,h'.get? e=some u)
  (new:ObjOk P w (zk H x o') h' x o'):HOk P w (zk H x o') h':=λ b u q=>by
 have a:∀c y,H c=some (.own y)->c≠x:=λ c y r z=>by subst z;rw[r]at f;exact f
 have d:∀c xs,H c=some (.tup xs)->c≠x:=λ c xs r z=>by subst z;rw[r]at f;exact f
 by_cases hb:b=x
 .subst hb;rw[yt]at q;cases q;exact new
 .rw[zK hb]at q
  by_cases hbe:b=e
  .have l:H b=some (.own x):=by
    rcases j with z|z
    .exact absurd (hbe.trans z) hb
    .rw[hbe];exact z
   rw[q]at l;cases l;obtain⟨v,m⟩:=i;exact⟨v,by rw[hbe];exact m⟩
  .refine (ok b u q).stay (λ c v g r=>k c v ?_ r) (λ c r=>by rw[zK (a c b r)];exact r) λ c xs r=>by rw[zK (d c xs r)];exact r
   rcases g with rfl|g
   .exact hbe
   .rintro rfl
    rcases j with z|z
    .exact a c b g z
    .rw[g]at z;cases z;exact hb rfl
end
structure Un(fs ex:List Addr)(H H':Hp)(h h':Heap):Prop where
 keep:∀b o,h.get? b=some o->H b=none->b∉fs->b∉ex->h'.get? b=some o
 slot:∀b o,h.get? b=some o->H b=none->b∈fs->b∉ex->∃sl,h'.get? b=some {o with slots:=sl}
 free:∀b o,h.get? b=some o->H b=none->b∉ex->H' b=none
 there:∀b o,h.get? b=some o->b∉ex->∃o',h'.get? b=some o'
 tups:∀b xs,H b=some (.tup xs)->H' b=some (.tup xs)
 frzs:∀b o u,H b=some (.frz o u)->H' b=some (.frz o u)
section
variable{fs fs' ex ex':List Addr}{H H1 H2:Hp}{h h1 h2 h':Heap}{a x e:Addr}{o:HO}
def Un.any(u:Un fs ex H H1 h h1){b:Addr}{a:Obj}(q:h.get? b=some a)(n:H b=none)(c:b∉ex):∃sl,h1.get? b=some {a with slots:=sl}:=by
 by_cases hb:b∈fs
 .exact u.slot b a q n hb c
 .exact⟨a.slots,u.keep b a q n hb c⟩
def Un.kept(k:∀b u,h.get? b=some u->h'.get? b=some u):Un fs ex H H h h':=
 ⟨λ b a q _ _ _=>k b a q,λ b a q _ _ _=>⟨a.slots,k b a q⟩,λ _ _ _ n _=>n,λ b a q _=>⟨a,k b a q⟩,λ _ _ q=>q,λ _ _ _ q=>q⟩
def Un.refl:Un fs ex H H h h:=Un.kept λ _ _ q=>q
def Un.laid(k:∀b u,h.get? b=some u->h'.get? b=some u)(hp:h.objs.size<=a)(c:H a=none):Un fs ex H (zk H a o) h h' where
 keep:=λ b u q _ _ _=>k b u q
 slot:=λ b u q _ _ _=>⟨u.slots,k b u q⟩
 free:=λ b u q n _=>by rw[zK (Aw (Bj (Ai q) hp))];exact n
 there:=λ b u q _=>⟨u,k b u q⟩
 tups:=λ b xs q=>by rw[zK (qA q c)];exact q
 frzs:=λ b u xs q=>by rw[zK (qA q c)];exact q
def Un.write(a:Mut (H x))(i:e=x\/H e=some (.own x))(k:∀b u,b≠e->h.get? b=some u->h'.get? b=some u)(c:∃u,h'.get? e=some u):Un fs ex H (zk H x o) h h':=by
 have d:∀b,H b=none->b≠x:=λ b n z=>by subst z;rw[n]at a;exact a
 have f:∀b,H b=none->b≠e:=λ b n z=>by
  subst z
  rcases i with r|r
  .exact d b n r
  .rw[n]at r;cases r
 have g:∀b u,H b=some u->¬Mut (some u)->b≠x:=λ b u q nm z=>by subst z;rw[q]at a;exact nm a
 refine⟨λ b u q n _ _=>k b u (f b n) q,λ b u q n _ _=>⟨u.slots,k b u (f b n) q⟩,λ b u q n _=>by rw[zK (d b n)];exact n,λ b u q _=>?_,
  λ b xs q=>by rw[zK (g b _ q λ z=>z)];exact q,λ b u xs q=>by rw[zK (g b _ q λ z=>z)];exact q⟩
 by_cases hbe:b=e
 .subst hbe;exact c
 .exact⟨u,k b u hbe q⟩
end
noncomputable def trk(h:Heap)(H:Hp):List Addr:=(List.range h.objs.size).filter λ a=>(H a).isSome
def hidT(h:Heap)(H:Hp):Heap:=PySem.W.hideAll h (trk h H)
def RA(h:Heap)(H:Hp):(hidT h H).objs.size=h.objs.size:=PySem.W.hideAll_size _ _
def RB(e:h.get? b=some o)(n:H b=none):(hidT h H).get? b=some o:=
 PySem.W.hideAll_get _ e λ a=>by
  have q:(H b).isSome=true:=(B0.mp a).2;rw[n]at q;simp at q
def RC(e:(hidT h H).get? b=some o):h.get? b=some o/\H b=none:=by
 have a:h.get? b=some o:=Fu (trk h H) e
 refine⟨a,?_⟩
 cases q:H b with
 |none=>rfl
 |some x=>
  have c:b∈trk h H:=B0.mpr ⟨Bi.mpr (Ai a),by simp[q]⟩
  have z:(hidT h H).get? b=none:=D6 (trk h H) c;rw[z]at e;cases e
structure Mod(K:FG)(mg:Str->Option Value)(base:Heap):Prop where
 kin:K.In base
 glob:base.Ns mainGlobals mg
 blt:∃mb,base.Ns builtinsNs mb/\∀x:Str,x≠"__name__" ->mb x=bootBuiltins x
 nolimit:base.NoLimit
structure Cx where
 prog:Program
 w:World
 K:FG
 mg:Str->Option Value
 base:Heap
 A:Around
 N:List Str
 s₀:Shared
 H₀:Hp
 env:Env
 outer:List Env
 stack:List Env
 ex:List Addr
 fn:Str->Bool
 calm:Bool
 pn:AL
 xe:VP
abbrev SE(X:Cx)(e:Expr)(es:List Expr):Prop:=starEach (e::es) X.env=(false,eval e X.env)::starEach es X.env
abbrev BA(X:Cx)(pos:Pos)(es:List Expr):Prop:=(backTo pos (starEach es X.env)).any (·.1)=false
def yx(l:List Env):List Addr:=l.filterMap (·.frame)
abbrev Cx.fs(X:Cx):List Addr:=yx X.outer
def Vis(sc:Scope)(x:Str):Prop:=sc.names.lookup x=some .local\/sc.names.lookup x=some .cell\/sc.names.lookup x=some .free
def jT(sc:Scope)(x:Str):Prop:=sc.names.lookup x=some .local\/sc.names.lookup x=some .cell
def Look(env:Env)(h:Heap)(m:Str->Option Value)(x:Str)(u:Value):Prop:=
 (env.kindOf x=some .local/\m x=some u)\/((env.kindOf x=some .cell\/env.kindOf x=some .free)/\∃c,env.cells.lookup x=some c/\h.IsCell c (some u))
structure Cx.Ok(X:Cx):Prop where
 mod:Mod X.K X.mg X.base
 kind:X.env.scope.kind=.function
 glob:X.env.globals=mainGlobals
 blt:X.env.builtins=builtinsNs
 above:X.s₀.heap.objs.size<=X.env.locals
 inj:∀x y c,X.env.cells.lookup x=some c->X.env.cells.lookup y=some c->x=y
 has:∀x,(X.env.kindOf x=some .cell\/X.env.kindOf x=some .free)->∃c,X.env.cells.lookup x=some c
 cab:∀x c,X.fn x=true->X.env.cells.lookup x=some c->X.s₀.heap.objs.size<=c
 hd:X.calm=true->X.A.handled=none
 frames:X.A.frames=some X.stack
 stk:X.stack=X.outer\/(X.stack=X.env::X.outer/\X.env.frame=some X.env.locals)
 exf:∀b∈X.ex,b≠X.env.locals/\∀x c,X.env.cells.lookup x=some c->c≠b
 bs:∀b o,X.base.get? b=some o->X.s₀.heap.get? b=some o/\X.H₀ b=none
 bsz:X.base.objs.size<=X.s₀.heap.objs.size
 noex:∀b o,X.base.get? b=some o->b∉X.ex
 exfs:∀b∈X.ex,b∉X.fs
 funs:X.s₀.heap.FunFrames X.base X.outer
 frf:∀b∈X.fs,X.H₀ b=none
structure Inv(X:Cx)(pins:AL)(σ:List (Option V))(H:Hp)(s:Shared):Prop where
 ok:X.Ok
 os:s.os=X.s₀.os
 bare:AllBare s.gens
 base:Un X.fs X.ex X.H₀ H X.s₀.heap s.heap
 loc:∃m,s.heap.Ns X.env.locals m/\∀(i:Nat)(x:Str)(v:V),X.N[i]? =some x->σ[i]? =some (some v)->Vis X.env.scope x->∃u,RelV v u/\Look X.env s.heap m x u
 cell:∀x c,X.env.cells.lookup x=some c->∃v,s.heap.IsCell c v
 free:H X.env.locals=none
 freeC:∀x c,X.env.cells.lookup x=some c->H c=none
 pin:∀p∈X.pn++pins,s.heap.get? p.1=some p.2/\H p.1=none/\p.1≠X.env.locals/\p.1∉X.fs/\∀v,p.2.data≠ .cell v
 hok:HOk X.prog X.w H s.heap
 len:σ.length=X.N.length
section
variable{X:Cx}{pins:AL}{σ:List (Option V)}{H H':Hp}{s:Shared}{h':Heap}
def Cx.Ok.nofr(ok:X.Ok)(e:X.base.get? b=some o):b∉X.fs:=λ a=>by
 have:=(ok.funs.mem a).1;rw[e]at this;cases this
theorem Inv.bs(I:Inv X pins σ H s):∀b o,X.base.get? b=some o->s.heap.get? b=some o/\H b=none:=λ b o e=>
 ⟨I.base.keep b o (I.ok.bs b o e).1 (I.ok.bs b o e).2 (I.ok.nofr e) (I.ok.noex b o e),I.base.free b o (I.ok.bs b o e).1 (I.ok.bs b o e).2 (I.ok.noex b o e)⟩
def Inv.bk(I:Inv X pins σ H s):∀b o,X.base.get? b=some o->s.heap.get? b=some o:=λ b o e=>(I.bs b o e).1
theorem Inv.mod(I:Inv X pins σ H s):Mod X.K X.mg X.base:=I.ok.mod
def Inv.kIn(I:Inv X pins σ H s):X.K.In s.heap:=I.ok.mod.kin.keeps I.bk
theorem Inv.lt(I:Inv X pins σ H s):X.env.locals<s.heap.objs.size:=let ⟨_,hn,_⟩:=I.loc;hn.lt
def Inv.sz(I:Inv X pins σ H s):X.s₀.heap.objs.size<=s.heap.objs.size:=By I.ok.above (Dp I.lt)
def Inv.nofs(I:Inv X pins σ H s)(h:s.heap.objs.size<=a):a∉X.fs:=λ b=>by
 obtain⟨_,o,c,_⟩:=I.ok.funs.mem b;exact absurd (Bj (Ai c) (By I.sz h)) (B9 _)
def Inv.cne(I:Inv X pins σ H s):∀x c,X.env.cells.lookup x=some c->c≠X.env.locals:=λ x c e z=>by
 obtain⟨v,o,d,hd⟩:=I.cell x c e;obtain⟨m,⟨o',es,ep,a,b,_⟩,_⟩:=I.loc;rw[z,a]at d;cases d;rw[b]at hd;cases hd
theorem Inv.funs(I:Inv X pins σ H s):s.heap.FunFrames X.base X.outer:=by
 have all:∀(l:List Env),(∀b∈yx l,b∈X.fs)->X.s₀.heap.FunFrames X.base l->s.heap.FunFrames X.base l:=by
  intro l
  induction l with
  |nil=>intro _ _;trivial
  |cons env r ih=>
   intro hs f;obtain⟨g,⟨L,o,a,h,i,hd⟩,j⟩:=f;have c:L∈X.fs:=hs L (by unfold yx;rw[Fv,a];exact Aj)
   obtain⟨sl,e⟩:=I.base.slot L o i (I.ok.frf L c) c λ z=>I.ok.exfs L z c
   exact⟨g,⟨L,_,a,h,e,hd⟩,ih (λ b d=>hs b (by unfold yx;rw[Fv,a];exact Ap _ d)) j⟩
 exact all X.outer (λ _ d=>d) I.ok.funs
theorem Inv.stack(I:Inv X pins σ H s):s.heap.FunFrames X.base X.stack:=by
 rcases I.ok.stk with e|⟨e,hf⟩
 .rw[e];exact I.funs
 .rw[e]
  obtain⟨m,a,_⟩:=I.loc
  refine .cons (by rw[I.ok.kind];decide) hf a ?_ I.funs
  exact G6 (By I.ok.bsz I.ok.above)
def Inv.stkSub(I:Inv X pins σ H s):∀b∈yx X.stack,b∈X.env.locals::X.fs:=λ b a=>by
 rcases I.ok.stk with e|⟨e,hf⟩
 .rw[e]at a;exact Ap _ a
 .rw[e]at a
  unfold yx at a;rw[Fv,hf]at a;exact a
def Inv.stkFree(I:Inv X pins σ H s):∀b∈yx X.stack,H b=none:=λ b a=>by
 rcases Af.mp (I.stkSub b a) with e|a
 .rw[e];exact I.free
 .obtain⟨_,o,c,_⟩:=I.ok.funs.mem a
  exact I.base.free b o c (I.ok.frf b a) λ z=>I.ok.exfs b z a
def Inv.step{g':Array GenState}{t':Nat}{d':Drawn}{ch:List Addr}(I:Inv X pins σ H s)
  (f:∀b∈ch,(b∈X.ex\/X.s₀.heap.objs.size<=b)/\b≠X.env.locals/\(∀x c,X.env.cells.lookup x=some c->c≠b)/\∀p∈X.pn++pins,p.1≠b)
  (keep:∀b o,b≠X.env.locals->b∉X.fs->b∉ch->s.heap.get? b=some o->H b=none->h'.get? b=some o)
  (slot:∀b o,b≠X.env.locals->b∈X.fs->b∉ch->s.heap.get? b=some o->H b=none->∃sl,h'.get? b=some {o with slots:=sl}) (free:∀b o,b∉ch->s.heap.get? b=some o->H b=none->H' b=none)
  (there:∀b o,b∉ch->s.heap.get? b=some o->∃o',h'.get? b=some o')
  (tups:∀b xs,H b=some (.tup xs)->H' b=some (.tup xs)) (frzs:∀b o u,H b=some (.frz o u)->H' b=some (.frz o u))
  (ns:∀m,s.heap.Ns X.env.locals m->h'.Ns X.env.locals m) (hok:HOk X.prog X.w H' h') (C:AllBare g'):
  Inv X pins σ H' {s with heap:=h',gens:=g',drawn:=d',toks:=t'}:=by
 have neL:∀b o,X.s₀.heap.get? b=some o->b≠X.env.locals:=λ b o e=>Aw (Bj (Ai e) I.ok.above)
 have j:∀b o,X.s₀.heap.get? b=some o->b∉X.ex->b∉ch:=λ b o e a t=>by
  rcases (f b t).1 with z|z
  .exact a z
  .exact absurd (Bj (Ai e) z) (B9 _)
 have g:∀x c,X.env.cells.lookup x=some c->∀v,s.heap.IsCell c v->h'.IsCell c v:=λ x c e v ⟨o,y,hd⟩=>by
  have h:c∉ch:=λ z=>(f c z).2.2.1 x c e rfl
  by_cases hc:c∈X.fs
  .obtain⟨sl,q⟩:=slot c o (I.cne x c e) hc h y (I.freeC x c e)
   exact⟨_,q,hd⟩
  .exact⟨o,keep c o (I.cne x c e) hc h y (I.freeC x c e),hd⟩
 refine⟨I.ok,I.os,C,⟨λ b o e n t a=>?_,λ b o e n t a=>?_,λ b o e n a=>?_,λ b o e a=>?_,λ b xs e=>tups b xs (I.base.tups b xs e),λ b o xs e=>frzs b o xs (I.base.frzs b o xs e)⟩,?_,λ x c e=>?_,?_,λ x c e=>?_,λ p hp=>?_,hok,I.len⟩
 .exact keep b o (neL b o e) t (j b o e a) (I.base.keep b o e n t a) (I.base.free b o e n a)
 .obtain⟨sl,e1⟩:=I.base.slot b o e n t a
  obtain⟨A,e2⟩:=slot b _ (neL b o e) t (j b o e a) e1 (I.base.free b o e n a);exact⟨A,e2⟩
 .obtain⟨o',e1⟩:=I.base.there b o e a
  exact free b o' (j b o e a) e1 (I.base.free b o e n a)
 .obtain⟨o',e1⟩:=I.base.there b o e a
  exact there b o' (j b o e a) e1
 .obtain⟨m,D,E⟩:=I.loc
  refine⟨m,ns m D,λ i x v e1 e2 F=>?_⟩
  obtain⟨u,r,l⟩:=E i x v e1 e2 F
  refine⟨u,r,?_⟩
  rcases l with l|⟨k,c,e,z⟩
  .exact .inl l
  .exact .inr ⟨k,c,e,g x c e _ z⟩
 .obtain⟨v,z⟩:=I.cell x c e
  exact⟨v,g x c e v z⟩
 .obtain⟨m,⟨o,_,_,y,_⟩,_⟩:=I.loc
  exact free _ o (λ z=>(f _ z).2.1 rfl) y I.free
 .obtain⟨v,o,y,hd⟩:=I.cell x c e
  exact free c o (λ z=>(f c z).2.2.1 x c e rfl) y (I.freeC x c e)
 .obtain⟨e,n,ne,B,d⟩:=I.pin p hp
  have h:p.1∉ch:=λ z=>(f p.1 z).2.2.2 p hp rfl
  exact⟨keep p.1 p.2 ne B h e n,free p.1 p.2 h e n,ne,B,d⟩
def Inv.un{t':Nat}(I:Inv X pins σ H s)(u:Un X.fs [] H H' s.heap h')(hok:HOk X.prog X.w H' h'):Inv X pins σ H' {s with heap:=h',toks:=t'}:=by
 obtain⟨m,⟨o,es,ep,g,r⟩,_⟩:=id I.loc;obtain⟨sl,h⟩:=u.any g I.free (by simp)
 exact I.step (g':=s.gens) (d':=s.drawn) (ch:=[]) (λ _ z=>nomatch z) (λ b o _ c _ e n=>u.keep b o e n c (by simp)) (λ b o _ c _ e n=>u.slot b o e n c (by simp)) (λ b o _ e n=>u.free b o e n (by simp)) (λ b o _ e=>u.there b o e (by simp)) u.tups u.frzs (λ k i=>by
  obtain⟨o',d,f,a,j⟩:=i;rw[g]at a;cases a;exact⟨_,d,f,h,j⟩) hok I.bare
def Inv.call{g':Array GenState}{t':Nat}{d':Drawn}{ch:List Addr}(I:Inv X pins σ H s)(u:Un (yx X.stack) ch H H' s.heap h')(hok:HOk X.prog X.w H' h')(k:AllBare g')
  (d:∀b∈ch,(b∈X.ex\/X.s₀.heap.objs.size<=b)/\b≠X.env.locals/\(∀x c,X.env.cells.lookup x=some c->c≠b)/\∀p∈X.pn++pins,p.1≠b):
  Inv X pins σ H' {s with heap:=h',gens:=g',drawn:=d',toks:=t'}:=by
 obtain⟨m,⟨o,es,ep,j,r⟩,_⟩:=id I.loc;obtain⟨sl,g⟩:=u.any j I.free λ z=>(d _ z).2.1 rfl
 exact I.step (ch:=ch) d (λ b o g l a e n=>u.keep b o e n (λ z=>(Af.mp (I.stkSub b z)).elim g l) a) (λ b o _ _ a e n=>u.any e n a) (λ b o a e n=>u.free b o e n a) (λ b o a e=>u.there b o e a) u.tups u.frzs (λ v q=>by
  obtain⟨o',h,i,f,t⟩:=q;rw[j]at f;cases f;exact⟨_,h,i,g,t⟩) hok k
def Inv.turned{t':Nat}{it:Addr}(I:Inv X pins σ H s)(k:∀b o,b≠it->s.heap.get? b=some o->h'.get? b=some o)(g:H it=none)(f:it≠X.env.locals)
  (h1:it∈X.ex\/X.s₀.heap.objs.size<=it) (h2:∀x c,X.env.cells.lookup x=some c->c≠it) (h:∀p∈X.pn++pins,p.1≠it):Inv X pins σ H {s with heap:=h',toks:=t'}:=by
 have d:∀b u,H b=some u->b≠it:=λ b u e z=>by rw[z,g]at e;cases e
 refine I.step (g':=s.gens) (d':=s.drawn) (ch:=[it]) (λ b i=>?_) (λ b o _ _ a e _=>k b o (λ z=>a (by simp[z])) e) (λ b o _ _ a e _=>⟨o.slots,k b o (λ z=>a (by simp[z])) e⟩) (λ _ _ _ _ n=>n)
  (λ b o a e=>⟨o,k b o (λ z=>a (by simp[z])) e⟩) (λ _ _ e=>e) (λ _ _ _ e=>e) (λ m j=>?_) (λ b u e=>?_) I.bare
 .have e:b=it:=by simpa using i
  subst e;exact⟨h1,f,h2,h⟩
 .obtain⟨o,es,ep,l,r⟩:=j
  exact⟨o,es,ep,k _ o (Bm f) l,r⟩
 .refine (I.hok b u e).stay (λ c v a q=>k c v ?_ q) (λ _ q=>q) λ _ _ q=>q
  rcases a with z|z
  .rw[z];exact d b u e
  .exact d c _ z
def Inv.tok(I:Inv X pins σ H s)(t:Nat):Inv X pins σ H {s with toks:=t}:=I.un (h':=s.heap) (t':=t) Un.refl I.hok
theorem Inv.kept(I:Inv X pins σ H s)(k:∀b u,s.heap.get? b=some u->h'.get? b=some u):Inv X pins σ H {s with heap:=h',toks:=t'}:=I.un (Un.kept k) (I.hok.kept k)
theorem Inv.laid(I:Inv X pins σ H s)(k:∀b u,s.heap.get? b=some u->h'.get? b=some u)(hp:s.heap.objs.size<=a)(new:ObjOk X.prog X.w (zk H a o) h' a o):
 Inv X pins σ (zk H a o) {s with heap:=h',toks:=t'}:=I.un (Un.laid k hp (I.hok.fresh hp)) (I.hok.laid k hp new)
theorem Inv.write(I:Inv X pins σ H s)(c:Mut (H x))(d:e=x\/H e=some (.own x))(k:∀b u,b≠e->s.heap.get? b=some u->h'.get? b=some u)(a:∃u,h'.get? e=some u)
 (new:ObjOk X.prog X.w (zk H x o) h' x o):Inv X pins σ (zk H x o) {s with heap:=h',toks:=t'}:=I.un (Un.write c d k a) (I.hok.write c d k a new)
def Inv.pins_of(I:Inv X pins σ H s)(h:∀p∈pins',s.heap.get? p.1=some p.2/\H p.1=none/\p.1≠X.env.locals/\p.1∉X.fs/\∀v,p.2.data≠ .cell v):Inv X pins' σ H s:=
 ⟨I.ok,I.os,I.bare,I.base,I.loc,I.cell,I.free,I.freeC,λ p hp=>(Bc.mp hp).elim (λ z=>I.pin p (Cs _ z)) (h p),I.hok,I.len⟩
def JB{N:List Str}(c:N.Nodup){i j:Nat}{x:Str}(a:N[i]? =some x)(b:N[j]? =some x):i=j:=by
 obtain⟨h1,e1⟩:=Ao.mp a;obtain⟨h2,e2⟩:=Ao.mp b;exact (List.getElem_inj c).mp (e1.trans e2.symm)
def RD{M:Model}{A:Around}{E:VP}{i:Nat}{x:Str}{v:V}{u:Value}{Q:Unit->Shared->Prop}(I:Inv X pins σ H s)(Y:X.N.Nodup)(hi:X.N[i]? =some x)(l:jT X.env.scope x)(r:RelV v u)
  (h:∀s',Inv X pins (σ.set i (some v)) H s'->(∃a,Heap.SameBut a s.heap s'.heap/\(a=X.env.locals\/X.env.cells.lookup x=some a))->Q () s') (hf:X.fn x=true\/X.env.scope.names.lookup x=some .local:=by first|exact .inl rfl|exact .inr rfl|assumption):wpAny M A (storeName X.env x u) Q E s:=by
 obtain⟨m,L,Z⟩:=id I.loc;have F:(X.env.scope.kind== .class || (X.env.scope.kind== .module && X.env.locals !=X.env.globals))=false:=by rw[I.ok.kind];rfl
 have B:i<σ.length:=by rw[I.len];exact (Ao.mp hi).1
 have cne:=I.cne;have f:∀{a:Addr}{h':Heap},(∃o,s.heap.get? a=some o/\H a=none)->Heap.SameBut a s.heap h'->HOk X.prog X.w H h':=λ {a h'} ha hs b ob e=>by
  obtain⟨_,_,t⟩:=ha
  refine (I.hok b ob e).stay (λ c w' g q=>(hs.2 c ?_).trans q) (λ _ q=>q) λ _ _ q=>q
  rintro rfl
  rcases g with rfl|g
  .rw[t]at e;cases e
  .rw[t]at g;cases g
 rcases l with hk|hk
 .refine wpAny_storeName_local hk L (λ h' O hs=>?_) F
  obtain⟨oL,_,_,P,_⟩:=id L
  refine h _ ⟨I.ok,I.os,I.bare,⟨λ b o e n C l=>?_,λ b o e n C l=>?_,I.base.free,λ b o e l=>?_,I.base.tups,I.base.frzs⟩,⟨_,O,λ j y R e1 e2 S=>?_⟩,λ y c e=>?_,I.free,I.freeC,λ p hp=>?_,f ⟨oL,P,I.free⟩ hs,by simpa using I.len⟩ ⟨_,hs,.inl rfl⟩
  .exact (hs.2 b (Aw (Bj (Ai e) I.ok.above))).trans (I.base.keep b o e n C l)
  .obtain⟨sl,e1⟩:=I.base.slot b o e n C l
   exact⟨sl,(hs.2 b (Aw (Bj (Ai e) I.ok.above))).trans e1⟩
  .obtain⟨o',e1⟩:=I.base.there b o e l
   exact⟨o',(hs.2 b (Aw (Bj (Ai e) I.ok.above))).trans e1⟩
  .by_cases hj:j=i
   .subst hj
    rw[hi]at e1;cases e1;rw[Fw B]at e2;cases e2;exact⟨u,r,.inl ⟨hk,by simp⟩⟩
   .rw[E6 (Bm hj)]at e2
    obtain⟨T,U,q⟩:=Z j y R e1 e2 S
    refine⟨T,U,?_⟩
    rcases q with ⟨k,e⟩|⟨k,c,e,z⟩
    .refine .inl ⟨k,?_⟩
     have:y≠x:=λ e=>hj (JB Y e1 (e ▸ hi))
     simp[this,e]
    .exact .inr ⟨k,c,e,z.sameBut hs (cne y c e)⟩
  .obtain⟨w',z⟩:=I.cell y c e
   exact⟨w',z.sameBut hs (cne y c e)⟩
  .obtain⟨e,n,ne,W,d⟩:=I.pin p hp
   exact⟨(hs.2 p.1 ne).trans e,n,ne,W,d⟩
 .have D:X.fn x=true:=by
   rcases hf with z|z
   .exact z
   .rw[z]at hk;cases hk
  obtain⟨c,g⟩:=I.ok.has x (.inl hk);obtain⟨w',z⟩:=I.cell x c g
  refine wpAny_storeName_cell I.ok.kind hk g z (λ h' G hs=>?_)
  obtain⟨oc,J,K⟩:=id z
  refine h {s with heap:=h'} ⟨I.ok,I.os,I.bare,⟨λ b o e n C l=>?_,λ b o e n C l=>?_,I.base.free,λ b o e l=>?_,I.base.tups,I.base.frzs⟩,⟨m,L.sameBut hs (Bm (cne x c g)),λ j y R e1 e2 S=>?_⟩,λ y c' e=>?_,I.free,I.freeC,λ p hp=>?_,f ⟨oc,J,I.freeC x c g⟩ hs,by simpa using I.len⟩ ⟨c,hs,.inr g⟩
  .exact (hs.2 b (Aw (Bj (Ai e) (I.ok.cab x c D g)))).trans (I.base.keep b o e n C l)
  .obtain⟨sl,e1⟩:=I.base.slot b o e n C l
   exact⟨sl,(hs.2 b (Aw (Bj (Ai e) (I.ok.cab x c D g)))).trans e1⟩
  .obtain⟨o',e1⟩:=I.base.there b o e l
   exact⟨o',(hs.2 b (Aw (Bj (Ai e) (I.ok.cab x c D g)))).trans e1⟩
  .by_cases hj:j=i
   .subst hj
    rw[hi]at e1;cases e1;rw[Fw B]at e2;cases e2;exact⟨u,r,.inr ⟨.inl hk,c,g,G⟩⟩
   .rw[E6 (Bm hj)]at e2
    obtain⟨T,U,q⟩:=Z j y R e1 e2 S
    refine⟨T,U,?_⟩
    rcases q with q|⟨k,c',e,z'⟩
    .exact .inl q
    .refine .inr ⟨k,c',e,z'.sameBut hs ?_⟩
     rintro rfl;exact hj (JB Y e1 (I.ok.inj _ _ _ e g ▸ hi))
  .by_cases hcc:c'=c
   .subst hcc;exact⟨_,G⟩
   .obtain⟨w2,z2⟩:=I.cell y c' e
    exact⟨w2,z2.sameBut hs hcc⟩
  .obtain⟨e,n,ne,W,d⟩:=I.pin p hp
   refine⟨(hs.2 p.1 ?_).trans e,n,ne,W,d⟩
   intro q;rw[q,J]at e;have q':oc=p.2:=Option.some.inj e;exact d w' (by rw[<-q'];exact K)
def EX(I:Inv X pins σ H s)(a:X.N.Nodup)(hi:X.N[i]? =some x)(b:jT X.env.scope x)(r:RelV v u)
  (h:∀s',Inv X pins (σ.set i (some v)) H s'->Q () s') (c:X.fn x=true\/X.env.scope.names.lookup x=some .local:=by first|exact .inl rfl|exact .inr rfl|assumption):wpAny M A (storeName X.env x u) Q E s:=
 RD I a hi b r (λ s' d _=>h s' d) c
def Inv.call'(I:Inv X pins σ H s)(d:s'.os=s.os)(u:Un (yx X.stack) ch H H' s.heap s'.heap)(hok:HOk X.prog X.w H' s'.heap)(f:AllBare s'.gens)
  (a:∀b∈ch,(b∈X.ex\/X.s₀.heap.objs.size<=b)/\b≠X.env.locals/\(∀x c,X.env.cells.lookup x=some c->c≠b)/\∀p∈X.pn++pins,p.1≠b):Inv X pins σ H' s':=by
 obtain⟨h',g',d',t',o'⟩:=s';have e:o'=s.os:=d;subst e;exact I.call (g':=g') (t':=t') (d':=d') u hok f a
end
abbrev XK:=Value->Option Addr->Hp->Prop
abbrev St:=List (Option V)
abbrev VK:=V->Hp->Prop
abbrev TE:=St->Hp->VK->Prop
abbrev TT:=St->Hp->(Bool->Hp->Prop)->Prop
abbrev TA:=St->Hp->(List V->Hp->Prop)->Prop
structure Ends where
 nx:St->Hp->Prop
 rt:VK
 bk:St->Hp->Prop:=λ _ _=>False
 ct:St->Hp->Prop:=λ _ _=>False
abbrev TS:=Ends->St->Hp->Prop
def EP(X:Cx)(pins:AL)(σ:St)(Q:VK)(u:Value)(s':Shared):Prop:=∃v H',Inv X pins σ H' s'/\RelV v u/\Q v H'
def TP(X:Cx)(pins:AL)(σ:St)(Q:Bool->Hp->Prop)(b:Bool)(s':Shared):Prop:=∃H',Inv X pins σ H' s'/\Q b H'
def AP(X:Cx)(pins:AL)(σ:St)(Q:List V->Hp->Prop)(us:List Value)(s':Shared):Prop:=∃vs H',Inv X pins σ H' s'/\Vals vs us/\Q vs H'
def SP(X:Cx)(pins:AL)(D:Ends)(f:Flow)(s':Shared):Prop:=
 match f with
 |.next=> ∃σ' H',Inv X pins σ' H' s'/\D.nx σ' H'
 |.brk=> ∃σ' H',Inv X pins σ' H' s'/\D.bk σ' H'
 |.cont=> ∃σ' H',Inv X pins σ' H' s'/\D.ct σ' H'
 |.ret u=> ∃v σ' H',Inv X pins σ' H' s'/\RelV v u/\D.rt v H'
def PE(X:Cx)(e:Expr)(t:TE):Prop:=
 ∀(pins:AL)(s:Shared)(σ:St)(H:Hp)(Q:VK),Inv X pins σ H s->t σ H Q->wpAny (model X.prog X.w) X.A (eval e X.env) (EP X pins σ Q) X.xe s
def PT(X:Cx)(e:Expr)(t:TT):Prop:=
 ∀(pins:AL)(s:Shared)(σ:St)(H:Hp)(Q:Bool->Hp->Prop),Inv X pins σ H s->t σ H Q->wpAny (model X.prog X.w) X.A (isTrue e X.env (eval e X.env)) (TP X pins σ Q) X.xe s
def PW(X:Cx)(e:Expr)(t:TT):Prop:=
 ∀(a:Sem Value)(pins:AL)(s:Shared)(σ:St)(H:Hp)(Q:Bool->Hp->Prop),Inv X pins σ H s->t σ H Q->wpAny (model X.prog X.w) X.A (isTrue e X.env a) (TP X pins σ Q) X.xe s
def PW.pt(h:PW X e t):PT X e t:=h _
def PA(X:Cx)(es:List Expr)(t:TA):Prop:=
 ∀(pos:Pos)(pins:AL)(s:Shared)(σ:St)(H:Hp)(Q:List V->Hp->Prop),Inv X pins σ H s->t σ H Q->wpAny (model X.prog X.w) X.A (spliced (backTo pos (starEach es X.env))) (AP X pins σ Q) X.xe s
def PS(X:Cx)(st:Stmt)(t:TS):Prop:=
 ∀(pins:AL)(s:Shared)(σ:St)(H:Hp)(D:Ends),Inv X pins σ H s->t D σ H->wpAny (model X.prog X.w) X.A (exec st X.env) (SP X pins D) X.xe s
def yM(X:Cx)(st:List Stmt)(t:TS):Prop:=
 ∀(pins:AL)(s:Shared)(σ:St)(H:Hp)(D:Ends),Inv X pins σ H s->t D σ H->wpAny (model X.prog X.w) X.A (execs st X.env) (SP X pins D) X.xe s
def thn{α:Type}{t:Sem α}{Q b:α->Shared->Prop}{M:Model}{A:Around}{E:VP}{s:Shared}(h:wpAny M A t Q E s)(c:∀a s,Q a s->b a s):wpAny M A t b E s:=Bv h c λ _ _ x=>x
def zt{α β g:Type}{t:Sem α}{d:α->Shared->Prop}{M:Model}{A:Around}{E:VP}{s:Shared}{e f P3:α->Shared->β->g->Prop}(h:wpAny M A t (λ v s'=> ∃x H',e v s' x H'/\f v s' x H'/\P3 v s' x H') E s)(k:∀v s' x H',e v s' x H'->f v s' x H'->P3 v s' x H'->d v s'):wpAny M A t d E s:=thn h λ v s' ⟨x,H',a,b,c⟩=>k v s' x H' a b c
section
variable{X:Cx}
def tVar(i:Nat):TE:=λ σ H Q=> ∃v,σ[i]? =some (some v)/\Q v H
def tC(v:V):TE:=λ _ H Q=>Q v H
def EY(d:X.N[i]? =some x)(f:Vis X.env.scope x)(hd:(x==("__debug__" :Str))=false:=by decide)(b:(x==("__classdict__" :Str))=false:=by decide):PE X (.Name x pos) (tVar i):=by
 intro pins s σ H Q I h;obtain⟨v,e,h⟩:=h;obtain⟨m,g,j⟩:=I.loc;obtain⟨u,r,l⟩:=j i x v d e f;have a:EP X pins σ Q u s:=⟨v,H,I,r,h⟩
 rcases l with ⟨hk,hm⟩|⟨hk,c,hc,hcell⟩
 .exact wpAny_Name (wpAny_loadName_local I.ok.kind hk g hm a) hd
 .rcases hk with hk|hk
  .exact wpAny_Name (wpAny_loadName_cell I.ok.kind hk hc hcell a) hd
  .exact wpAny_Name (wpAny_loadName_free I.ok.kind hk hc hcell a b) hd
def RE {i j pos}:PE X (.Constant (.int i) j pos) (tC (.int i)):=λ _ _ _ H _ I h=>wpAny_Constant_int ⟨.int i,H,I.tok _,⟨_,rfl⟩,h⟩
def RF {b j pos}:PE X (.Constant (.bool b) j pos) (tC (.bl b)):=λ _ _ _ H _ I h=>Constant_bool ⟨.bl b,H,I,rfl,h⟩
def RG {j pos}:PE X (.Constant .none j pos) (tC .non):=λ _ _ _ H _ I h=>Constant_none ⟨.non,H,I,rfl,h⟩
def MO {x j pos}:PE X (.Constant (.str x) j pos) (tC (.str x)):=λ _ _ _ H _ I h=>Calls.Constant_str ⟨.str x,H,I.tok _,⟨_,rfl⟩,h⟩
def Gl(X:Cx)(x:Str):Prop:=X.env.kindOf x=some .globalImplicit
def AX(I:Inv X pins σ H s)(a:Gl X x)(b:X.mg x=some u)(h:Q u s)
  (hd:(x==("__debug__" :Str))=false:=by decide):wpAny (model X.prog X.w) X.A (eval (.Name x pos) X.env) Q E s:=
 Calls.Name_function_global I.ok.kind a (Calls.loadGlobal_global (by rw[I.ok.glob];exact I.mod.glob.keeps I.bk) b h) hd
def BN(I:Inv X pins σ H s)(a:Gl X x)(b:X.mg x=none)(c:bootBuiltins x=some u)(h:Q u s)
  (d:x≠"__name__" :=by decide) (hd:(x==("__debug__" :Str))=false:=by decide):wpAny (model X.prog X.w) X.A (eval (.Name x pos) X.env) Q E s:=by
 obtain⟨mb,h1,h2⟩:=I.mod.blt;exact Calls.Name_function_global I.ok.kind a (Calls.loadGlobal_builtin (by rw[I.ok.glob];exact I.mod.glob.keeps I.bk) b (by rw[I.ok.blt];exact h1.keeps I.bk) ((h2 x d).trans c) h) hd
def Qa(a:Gl X x)(b:X.mg x=some u)(r:RelV v u)(hd:(x==("__debug__" :Str))=false:=by decide):PE X (.Name x pos) (tC v):=
 λ _ _ _ H _ I h=>AX I a b ⟨v,H,I,r,h⟩ hd
def BO(a:Gl X x)(b:X.mg x=none)(c:bootBuiltins x=some u)(r:RelV v u)(d:x≠"__name__" :=by decide)(hd:(x==("__debug__" :Str))=false:=by decide):PE X (.Name x pos) (tC v):=
 λ _ _ _ H _ I h=>BN I a b c ⟨v,H,I,r,h⟩ d hd
variable{a b:Expr}{ta tb:TE}{pos:Pos}
def tB(t:TE):TT:=λ σ H Q=>t σ H λ x H1=> ∃c,x=.bl c/\Q c H1
def RH{e:Expr}{t:TE}(h:PE X e t)(b:∀a,isTrue e X.env a=(do let v <-a;standAt e.pos;holding [v] (truthy v)):=by intro _;rfl):PT X e (tB t):=by
 intro pins s σ H Q I c
 refine isTrue_plain (zt (h pins s σ H _ I c) λ v s1 x H1 f g q1=>?_) (b _)
 obtain⟨d,rfl,q⟩:=q1;cases g;exact Cg ⟨H1,f,q⟩
variable{tA tB':TT}{rest:List Expr}
def tAnd(t u:TT):TT:=λ σ H Q=>t σ H λ c H1=>if c=true then u σ H1 Q else Q false H1
def tOr(t u:TT):TT:=λ σ H Q=>t σ H λ c H1=>if c=true then Q true H1 else u σ H1 Q
def tNot(t:TT):TT:=λ σ H Q=>t σ H λ c H1=>Q (!c) H1
def RI(b:PT X a tA):PW X (.BoolOp .And [a] pos) tA:=by
 intro d pins s σ H Q I h
 refine isTrue_and (thn (b pins s σ H Q I h) λ c s1 e=>?_)
 cases c with
 |true=>exact isTrue_and_nil e
 |false=>exact e
def RJ(b:PT X a tA):PW X (.BoolOp .Or [a] pos) tA:=by
 intro d pins s σ H Q I h
 refine isTrue_or (thn (b pins s σ H Q I h) λ c s1 e=>?_)
 cases c with
 |false=>exact isTrue_or_nil e
 |true=>exact e
def RK(e:PT X a tA)(f:PW X (.BoolOp .And (b::rest) pos) tB'):PW X (.BoolOp .And (a::b::rest) pos) (tAnd tA tB'):=by
 intro g pins s σ H Q I h
 refine isTrue_and (thn (e pins s σ H _ I h) λ c s1 ⟨H1,d,q1⟩=>?_)
 cases c with
 |true=>exact f g pins s1 σ H1 Q d q1
 |false=>exact⟨H1,d,q1⟩
def RM(e:PT X a tA)(f:PW X (.BoolOp .Or (b::rest) pos) tB'):PW X (.BoolOp .Or (a::b::rest) pos) (tOr tA tB'):=by
 intro g pins s σ H Q I h
 refine isTrue_or (thn (e pins s σ H _ I h) λ c s1 ⟨H1,d,q1⟩=>?_)
 cases c with
 |true=>exact⟨H1,d,q1⟩
 |false=>exact f g pins s1 σ H1 Q d q1
def RN(b:PT X a tA):PT X (.UnaryOp .Not a pos) (tNot tA):=by
 intro pins s σ H Q I h;exact isTrue_not (b pins s σ H (λ c H1=>Q (!c) H1) I h)
def RO(ta tb:TE):TE:=λ σ H Q=>ta σ H λ x H1=> ∃c,x=.bl c/\if c=true then tb σ H1 Q else Q (.bl false) H1
def RP(ta:TE):TE:=λ σ H Q=>ta σ H λ x H1=> ∃c,x=.bl c/\Q (.bl (!c)) H1
def RQ {op} (h:PE X a t):PE X (.BoolOp op [a] pos) t:=λ pins s σ H Q I b=>BoolOp_one (h pins s σ H Q I b)
def RS(e:PE X a ta)(f:PE X (.BoolOp .And (b::rest) pos) tb):PE X (.BoolOp .And (a::b::rest) pos) (RO ta tb):=by
 intro pins s σ H Q I h
 refine BoolOp_and (zt (e pins s σ H _ I h) λ v s1 x H1 d g q1=>?_)
 obtain⟨c,rfl,q1⟩:=q1;cases g
 refine Cg ?_
 cases c with
 |true=>exact f pins s1 σ H1 Q d q1
 |false=>exact⟨.bl false,H1,d,rfl,q1⟩
def RT(b:PE X a ta):PE X (.UnaryOp .Not a pos) (RP ta):=by
 intro pins s σ H Q I h
 refine UnaryOp_ (zt (b pins s σ H _ I h) λ v s1 x H1 d e q1=>?_)
 obtain⟨c,rfl,q1⟩:=q1;cases e;exact not_of (Cg ⟨.bl (!c),H1,d,rfl,q1⟩)
end
def SqL(K:FG)(H:Hp)(a:Addr)(xs:List V):Prop:=
 Rd H a (.lst xs)\/
  ∃(o:Obj)(its:Array Value)(n:Nat),K.lookup a=some o/\o.cls=.type "list" /\o.dict=none/\o.data=.seq its n/\its.size<=sizeLine/\Vals xs its.toList
def SqT(K:FG)(H:Hp)(a:Addr)(xs:List V):Prop:=
 Rd H a (.tup xs)\/
  ∃(o:Obj)(its:Array Value)(n:Nat),K.lookup a=some o/\o.cls=.type "tuple" /\o.data=.seq its n/\its.size<=sizeLine/\Vals xs its.toList
noncomputable def absV:Value->Option V
 |.none=>some .non
 |.bool b=>some (.bl b)
 |.int i _=>some (.int i)
 |.str x _=>some (.str x)
 |.ref a=>some (.ref a)
 |.type n=>some (.ty n)
 |_=>none
def RelV.abs(r:RelV x u):absV u=some x:=by
 cases x with
 |non|bl _=>cases r;rfl
 |int _|str _=>obtain⟨t,rfl⟩:=r;rfl
 |ref _|ty _=>cases r;rfl
theorem RelV.inj{x y:V}{u:Value}(r:RelV x u)(q:RelV y u):x=y:=Option.some.inj (r.abs.symm.trans q.abs)
theorem Vals.inj:∀{xs ys:List V}{us:List Value},Vals xs us->Vals ys us->xs=ys
 |_,_,_,.nil,.nil=>rfl
 |_,_,_,.cons r t,.cons r' t'=>by rw[r.inj r',Vals.inj t t']
section
variable{X:Cx}{pins:AL}{σ:St}{H:Hp}{s:Shared}{a:Addr}{xs ys:List V}
def SqL.of{K:FG}(h:H a=some (.lst xs)):SqL K H a xs:= .inl (.inl h)
def SqT.of{K:FG}(h:H a=some (.tup xs)):SqT K H a xs:= .inl (.inl h)
def Inv.list(I:Inv X pins σ H s)(h:SqL X.K H a xs):∃its:List Value,Vals xs its/\PlainL s.heap a its.toArray/\xs.length<=sizeLine:=by
 rcases h with h|⟨o,its,n,hk,hc,hd,hs,hz,r⟩
 .obtain⟨z,its,n,r,e⟩:=h.ok I.hok
  exact⟨its,r,⟨_,n,e,rfl,rfl,rfl⟩,z⟩
 .refine⟨its.toList,r,⟨o,n,I.kIn a o hk,hc,hd,by simpa using hs⟩,?_⟩
  have e:=r.length;simp only[Cn]at e;lia
def Inv.tuple(I:Inv X pins σ H s)(h:SqT X.K H a xs):∃its:List Value,Vals xs its/\IsTup s.heap a its.toArray/\xs.length<=sizeLine:=by
 rcases h with h|⟨o,its,n,hk,hc,hs,hz,r⟩
 .obtain⟨z,its,r,p⟩:=h.ok I.hok
  exact⟨its,r,p,z⟩
 .refine⟨its.toList,r,⟨o,I.kIn a o hk,hc,n,by simpa using hs⟩,?_⟩
  have e:=r.length;simp only[Cn]at e;lia
def Inv.list_inj(I:Inv X pins σ H s)(h:SqL X.K H a xs)(h':SqL X.K H a ys):xs=ys:=by
 obtain⟨its,r,⟨o,n,e,_,_,d⟩,_⟩:=I.list h;obtain⟨its',c,⟨o',f,b,_,_,d'⟩,_⟩:=I.list h';rw[e]at b;cases b;rw[d]at d';injection d' with d1 _
 have:its=its':=by simpa using congrArg Array.toList d1
 subst this;exact r.inj c
end
noncomputable abbrev Cx.wish(X:Cx)(E:VP):Cx:={X with xe:=E}
theorem Cx.Ok.wish{X:Cx}(ok:X.Ok)(E:VP):(X.wish E).Ok:=
 ⟨ok.mod,ok.kind,ok.glob,ok.blt,ok.above,ok.inj,ok.has,ok.cab,ok.hd,ok.frames,ok.stk,ok.exf,ok.bs,ok.bsz,ok.noex,ok.exfs,ok.funs,ok.frf⟩
def Cx.Ok.unwish{X:Cx}{E:VP}(ok:(X.wish E).Ok):X.Ok:=
 ⟨ok.mod,ok.kind,ok.glob,ok.blt,ok.above,ok.inj,ok.has,ok.cab,ok.hd,ok.frames,ok.stk,ok.exf,ok.bs,ok.bsz,ok.noex,ok.exfs,ok.funs,ok.frf⟩
section
variable{X:Cx}{pins:AL}{σ:St}{H:Hp}{s:Shared}{E:VP}
theorem Inv.wish(I:Inv X pins σ H s)(E:VP):Inv (X.wish E) pins σ H s:=⟨I.ok.wish E,I.os,I.bare,I.base,I.loc,I.cell,I.free,I.freeC,I.pin,I.hok,I.len⟩
theorem Inv.unwish(I:Inv (X.wish E) pins σ H s):Inv X pins σ H s:=⟨I.ok.unwish,I.os,I.bare,I.base,I.loc,I.cell,I.free,I.freeC,I.pin,I.hok,I.len⟩
end
section
variable{X:Cx}{st:Stmt}{rest:List Stmt}{t u:TS}{e:Expr}{te:TE}{pos:Pos}
def RU:TS:=λ D σ H=>D.nx σ H
def tSeq(t u:TS):TS:=λ D σ H=>t {D with nx:=u D} σ H
def RV:yM X [] RU:=λ _ _ σ H _ I h=>Fx ⟨σ,H,I,h⟩
def MP(h1:PS X st t)(h2:yM X rest u):yM X (st::rest) (tSeq t u):=by
 intro pins s σ H D I h
 refine wpAny_execs_cons (thn (h1 pins s σ H {D with nx:=u D} I h) λ f s1 q=>?_)
 cases f with
 |next=>
  obtain⟨σ',H',a,q⟩:=q;exact h2 pins s1 σ' H' D a q
 |ret v|brk|cont=>exact q
def JC(h1:PS X st t):yM X [st] t:=by
 intro pins s σ H D I h
 refine wpAny_execs_cons (thn (h1 pins s σ H D I h) λ f s1 q=>?_)
 cases f with
 |next=>exact Fx q
 |ret v|brk|cont=>exact q
def Inv.quiet{pins:AL}{σ:St}{H:Hp}{s:Shared}(I:Inv X pins σ H s):interactive X.env=false:=by simp[interactive,I.ok.kind]
def MQ(te:TE):TS:=λ D σ H=>te σ H λ _ H1=>D.nx σ H1
def EZ(a:PE X e te)(hs:swapsWith e none pos.line X.env=pure false:=by rfl):PS X (.Expr e pos) (MQ te):=by
 intro pins s σ H D I h;exact wpAny_Expr_any (zt (a pins s σ H _ I h) λ v s1 x H1 b c q1=>⟨σ,H1,b,q1⟩) I.quiet hs
def tRet(te:TE):TS:=λ D σ H=>te σ H D.rt
def MR(a:PE X e te):PS X (.Return (some e) pos) (tRet te):=by
 intro pins s σ H D I h;exact wpAny_Return_some (zt (a pins s σ H _ I h) λ v s1 x H1 b c q1=>⟨x,σ,H1,b,c,q1⟩)
def tIfS(c:TT)(t u:TS):TS:=λ D σ H=>c σ H λ b H1=>if b=true then t D σ H1 else u D σ H1
def RW{c:Expr}{a b:List Stmt}{tc:TT}(f:PT X c tc)(g:yM X a t)(i:yM X b u):PS X (.If c a b pos) (tIfS tc t u):=by
 intro pins s σ H D I h
 refine wpAny_If (thn (f pins s σ H _ I h) λ d s1 ⟨H1,e,q1⟩=>?_)
 cases d with
 |true=>exact g pins s1 σ H1 D e q1
 |false=>exact i pins s1 σ H1 D e q1
def RX:TS:=λ _ _ _=>False
def RY:PS X st RX:=λ _ _ _ _ _ _ h=>h.elim
end
abbrev TG:=V->St->Hp->(St->Hp->Prop)->Prop
abbrev TGs:=List V->St->Hp->(St->Hp->Prop)->Prop
def PG(X:Cx)(a:Expr)(t:TG):Prop:=
 ∀(pins:AL)(s:Shared)(σ:St)(H:Hp)(v:V)(u:Value)(Q:St->Hp->Prop),Inv X pins σ H s->RelV v u->t v σ H Q->
  wpAny (model X.prog X.w) X.A (assign a X.env u) (λ _ s'=> ∃σ' H',Inv X pins σ' H' s'/\Q σ' H') X.xe s
def jV(X:Cx)(a:List Expr)(t:TGs):Prop:=
 ∀(pins:AL)(s:Shared)(σ:St)(H:Hp)(vs:List V)(us:List Value)(Q:St->Hp->Prop),Inv X pins σ H s->Vals vs us->t vs σ H Q->
  wpAny (model X.prog X.w) X.A (assignInOrder ((assignEach a X.env).map (·.2)) us) (λ _ s'=> ∃σ' H',Inv X pins σ' H' s'/\Q σ' H') X.xe s
abbrev TSet:=V->V->V->Hp->(Hp->Prop)->Prop
def PSet(X:Cx)(t:TSet):Prop:=
 ∀(pins:AL)(s:Shared)(σ:St)(H:Hp)(o i v:V)(a iv u:Value)(Q:Hp->Prop),Inv X pins σ H s->RelV o a->RelV i iv->RelV v u->t o i v H Q->
  wpAny (model X.prog X.w) X.A (setItem a iv u) (λ _ s'=> ∃H',Inv X pins σ H' s'/\Q H') X.xe s
abbrev TIp:=V->V->Hp->VK->Prop
def PIp(X:Cx)(a:Operator)(t:TIp):Prop:=
 ∀(pins:AL)(s:Shared)(σ:St)(H:Hp)(x y:V)(v u:Value)(Q:VK),Inv X pins σ H s->RelV x v->RelV y u->t x y H Q->
  wpAny (model X.prog X.w) X.A (inplaceOp a v u) (EP X pins σ Q) X.xe s
section
variable{X:Cx}{pos:Pos}
def FA(i:Nat):TG:=λ v σ H Q=>Q (σ.set i (some v)) H
def Ib(a:X.N.Nodup)(hi:X.N[i]? =some x)(b:jT X.env.scope x)(c:X.fn x=true\/X.env.scope.names.lookup x=some .local:=by first|exact .inl rfl|exact .inr rfl|assumption):PG X (.Name x pos) (FA i):=by
 intro pins s σ H v u Q I r h;exact wpAny_assign_Name (EX I a hi b r (λ s' d=>⟨_,H,d,h⟩) c)
def gNil:TGs:=λ vs σ H Q=>vs=[]/\Q σ H
def MS(t:TG)(u:TGs):TGs:=λ vs σ H Q=> ∃v r,vs=v::r/\t v σ H λ σ' H'=>u r σ' H' Q
def RZ:jV X [] gNil:=by
 intro pins s σ H vs us Q I r h;obtain⟨e,h⟩:=h;subst e;cases r;exact assignInOrder_nil ⟨σ,H,I,h⟩
def yb{e:Expr}{es:List Expr}{t:TG}{u:TGs}(h1:PG X e t)(h2:jV X es u)
  (hs:(assignEach (e::es) X.env).map (·.2)=assign e X.env::(assignEach es X.env).map (·.2):=by rfl):jV X (e::es) (MS t u):=by
 intro pins s σ H vs us Q I r h;obtain⟨v,c,e1,h⟩:=h;subst e1;cases r with
 |cons r rr=>
  rw[hs]
  refine assignInOrder_cons (thn (h1 pins s σ H _ _ _ I r h) λ _ s1 ⟨a,H1,b,q1⟩=>?_)
  exact h2 pins s1 a H1 _ _ Q b rr q1
def gTup(K:FG)(n:Nat)(t:TGs):TG:=λ v σ H Q=> ∃a xs,v=.ref a/\SqT K H a xs/\xs.length=n/\t xs σ H Q
def jZ(g:X.calm=true)(h:jV X es t)
  (i:(assignEach es X.env).length=n:=by rfl) (c:(assignEach es X.env).findIdx? (·.1)=none:=by rfl):PG X (.Tuple es k pos) (gTup X.K n t):=by
 intro pins s σ H v u Q I r d;obtain⟨a,xs,e1,j,l,d⟩:=d;subst e1;cases r;obtain⟨its,f,m,hz⟩:=I.tuple j
 refine assign_Tuple_tuple (I.ok.hd g) m (by simp[i,<-l,f.length]) c λ h' p=>?_
 have q:Inv X pins σ H {s with heap:=h'}:=I.kept (t':=s.toks) λ b o e=>p b o (Aw (Ai e)) e
 exact h pins _ σ H xs _ Q q (by simpa using f) d
def gSub(to a:TE)(t:TSet):TG:=λ v σ H Q=>to σ H λ o H1=>a σ H1 λ i H2=>t o i v H2 λ H3=>Q σ H3
def Sa{o i:Expr}{to b:TE}{t:TSet}(c:PE X o to)(hi:PE X i b)(hs:PSet X t)
  (d:∀v,assign (.Subscript o i pos) X.env v=(do
   let a <-holding [v] (eval o X.env)
   let iv <-holding [v,a] (eval i X.env)
   standAt pos
   holding [v,a,iv] (setItem a iv v)
   release [v,a,iv] []):=by intro _;rfl):PG X (.Subscript o i pos) (gSub to b t):=by
 intro pins s σ H v u Q I r h;rw[d]
 refine Aa (B4 (zt (c pins s σ H _ I h) λ a s1 x H1 e f q1=>?_))
 refine Aa (B4 (zt (hi pins s1 σ H1 _ e q1) λ iv s2 y H2 g j q2=>?_))
 refine Aa (E7 (Aa (B4 (thn (hs pins s2 σ H2 x y v a iv u _ g f j r q2) λ _ k ⟨H3,I3,q3⟩=>?_))))
 exact wpAny_release ⟨σ,H3,I3,q3⟩
def tAsg(te:TE)(g:TG):TS:=λ D σ H=>te σ H λ x H1=>g x σ H1 D.nx
def JD{tg e:Expr}{te:TE}{g:TG}(a:PE X e te)(b:PG X tg g)(hs:swapsWithSole [tg] e pos.line X.env=pure false:=by rfl)(c:swappedStores [tg] e X.env=pure none:=by rfl)
  (h1:(assignEach [tg] X.env).map (·.2)=[assign tg X.env]:=by rfl):PS X (.Assign [tg] e pos) (tAsg te g):=by
 intro pins s σ H D I h
 refine wpAny_Assign_stores (zt (a pins s σ H _ I h) λ v s1 x H1 d f q1=>?_) hs c
 rw[h1];exact thn (b pins s1 σ H1 x v _ d f q1) λ _ s2 q=>q
def MT{i:Nat}{x:Str}{e:Expr}{te:TE}{pos':Pos}(a:X.N.Nodup)(hi:X.N[i]? =some x)(b:jT X.env.scope x)(c:PE X e te)(hs:swapsWith e (some (.Name x pos')) pos.line X.env=pure false:=by rfl)(d:X.fn x=true\/X.env.scope.names.lookup x=some .local:=by first|exact .inl rfl|exact .inr rfl|assumption):
  PS X (.Assign [.Name x pos'] e pos) (tAsg te (FA i)):=by
 intro pins s σ H D I h
 refine wpAny_Assign_Name (zt (c pins s σ H _ I h) λ v s1 y H1 f g q1=>?_) hs
 exact EX f a hi b g (λ s2 j=>⟨_,H1,j,q1⟩) d
def tAug(i:Nat)(te:TE)(a:TIp):TS:=λ D σ H=> ∃x,σ[i]? =some (some x)/\te σ H λ y H1=>a x y H1 λ z H2=>D.nx (σ.set i (some z)) H2
def MU(g:X.N.Nodup)(hi:X.N[i]? =some x)(d:jT X.env.scope x)(j:PE X e te)(n:PIp X op ti)(o:X.fn x=true\/X.env.scope.names.lookup x=some .local:=by first|exact .inl rfl|exact .inr rfl|assumption):
  PS X (.AugAssign (.Name x pos') op e pos) (tAug i te ti):=by
 intro pins s σ H D I h;obtain⟨v,e1,h⟩:=h;obtain⟨m,p,q⟩:=I.loc;have f:Vis X.env.scope x:=by rcases d with k|k;exact .inl k;exact .inr (.inl k)
 obtain⟨u,r,l⟩:=q i x v hi e1 f
 refine wpAny_AugAssign_Name ?_
 have go:wpAny (model X.prog X.w) X.A (eval e X.env) (λ w a=>wpAny (model X.prog X.w) X.A (inplaceOp op u w) (λ r b=>wpAny (model X.prog X.w) X.A (storeName X.env x r) (λ _=>SP X pins D .next) X.xe b) X.xe a) X.xe s:=by
  refine zt (j pins s σ H _ I h) λ w s1 y H1 t B q1=>?_
  refine zt (n pins s1 σ H1 v y u w _ t r B q1) λ z s2 F H2 C E q2=>?_
  exact EX C g hi d E (λ G I3=>⟨_,H2,I3,q2⟩) o
 rcases l with ⟨hk,hm⟩|⟨hk,c,hc,hcell⟩
 .exact wpAny_loadName_local I.ok.kind hk p hm go
 .rcases hk with hk|hk
  .exact wpAny_loadName_cell I.ok.kind hk hc hcell go
  .rcases d with k|k
   .have:X.env.scope.names.lookup x=some .free:=hk
    rw[k]at this;cases this
   .have:X.env.scope.names.lookup x=some .free:=hk
    rw[k]at this;cases this
def MV(to d te:TE)(a:V->V->Hp->VK->Prop)(c:TIp)(b:TSet):TS:=λ D σ H=>to σ H λ o H1=>d σ H1 λ i H2=>a o i H2 λ x H3=>te σ H3 λ y e=>c x y e λ z H5=>b o i z H5 λ f=>D.nx σ f
def PGet(X:Cx)(t:V->V->Hp->VK->Prop):Prop:=
 ∀(pins:AL)(s:Shared)(σ:St)(H:Hp)(o i:V)(a iv:Value)(Q:VK),Inv X pins σ H s->RelV o a->RelV i iv->t o i H Q->
  wpAny (model X.prog X.w) X.A (getItem a iv) (EP X pins σ Q) X.xe s
def Sb(d:PE X o to)(hi:PE X i ti)(f:PGet X tget)(g:PE X e te)(hp:PIp X op tip)(hs:PSet X tset)
  (j:∀a iv new,augStore i a iv new=(do holding [new,a,iv] (setItem a iv new);release [new,a,iv] [];pure .next):=by intros;rfl):PS X (.AugAssign (.Subscript o i tpos) op e pos) (MV to ti te tget tip tset):=by
 intro pins s σ H D I h
 refine wpAny_AugAssign_SubscriptAny (zt (d pins s σ H _ I h) λ a s1 x1 H1 k b q1=>?_) j
 refine zt (hi pins s1 σ H1 _ k q1) λ iv s2 x2 H2 l c q2=>?_
 refine zt (f pins s2 σ H2 x1 x2 a iv _ l b c q2) λ old m x3 H3 I3 n q3=>?_
 refine zt (g pins m σ H3 _ I3 q3) λ v p x4 q r t q4=>?_
 refine zt (hp pins p σ q x3 x4 old v _ r n t q4) λ new u x5 H5 w x q5=>?_
 exact thn (hs pins u σ H5 x1 x2 x5 a iv new _ w b c x q5) λ _ s6 ⟨y,z,q6⟩=>⟨σ,y,z,q6⟩
def ipI(f:Int->Int->Int):TIp:=λ x y H Q=> ∃i j,x=.int i/\y=.int j/\Q (.int (f i j)) H
def JE:PIp X .Add (ipI λ i j=>i+j):=by
 intro pins s σ H x y v u Q I a b h;obtain⟨i,j,e1,e2,q⟩:=h;subst e1;subst e2;obtain⟨t,rfl⟩:=a;obtain⟨t',rfl⟩:=b;exact iadd_int ⟨.int _,H,I.tok _,⟨_,rfl⟩,q⟩
def JF:PIp X .Sub (ipI λ i j=>i-j):=by
 intro pins s σ H x y v u Q I a b h;obtain⟨i,j,e1,e2,q⟩:=h;subst e1;subst e2;obtain⟨t,rfl⟩:=a;obtain⟨t',rfl⟩:=b;exact isub_int ⟨.int _,H,I.tok _,⟨_,rfl⟩,q⟩
end
section
variable{X:Cx}{pos:Pos}
def MW(c:TT)(tb:TS):TS:=λ D σ H=> ∃W:Nat->St->Hp->Prop,(∃m,W m σ H)/\∀m σ H,W m σ H->
 c σ H λ b H1=>if b=true then ∃N:St->Hp->Prop,(∀σ' H',N σ' H'->∃a,a < m/\W a σ' H')/\tb {D with nx:=N,ct:=N,bk:=D.nx} σ H1 else D.nx σ H1
def Sd(hp:PassesOwn (model X.prog X.w) X.A X.env X.xe)(o:PT X c tc)(p:yM X body tb):PS X (.While c body [] pos) (MW tc tb):=by
 intro pins s σ H D I h;obtain⟨W,⟨q,w0⟩,e⟩:=h
 refine wpAny_While (codeAny_whileLoop (λ n s'=> ∃σ' H',Inv X pins σ' H' s'/\W n σ' H') ?_ q ⟨σ,H,I,w0⟩)
 rintro n s1 ⟨d,H1,r,t⟩
 refine Dq hp (thn (o pins s1 d H1 _ r (e n d H1 t)) λ b s2 ⟨H2,l,q2⟩=>?_)
 cases b with
 |true=>
  obtain⟨N,m,q2⟩:=q2;rw[Ab rfl]
  refine Dq hp (thn (p pins s2 d H2 _ l q2) λ f u q3=>?_)
  cases f with
  |next=>
   obtain⟨a,H3,I3,g⟩:=q3;obtain⟨i,j,k⟩:=m a H3 g;exact⟨i,j,a,H3,I3,k⟩
  |cont=>
   obtain⟨a,H3,I3,g⟩:=q3;obtain⟨i,j,k⟩:=m a H3 g;exact⟨i,j,a,H3,I3,k⟩
  |brk|ret v=>exact q3
 |false=>
  rw[Ac Bk];exact Fx ⟨d,H2,l,q2⟩
end
structure It where
 go:Nat->Hp->Prop
 yld:Nat->Hp->V->Hp->Prop
 stop:Nat->Hp->Prop
def yZ(X:Cx)(pins:AL)(H:Hp)(b:Addr):Prop:=
 H b=none/\b≠X.env.locals/\b∉X.fs/\(b∈X.ex\/X.s₀.heap.objs.size<=b)/\(∀x c,X.env.cells.lookup x=some c->c≠b)/\∀p∈X.pn++pins,p.1≠b
def Inv.fpOk(I:Inv X pins σ H s)(a:s.heap.objs.size<=b)(d:H' b=none):yZ X pins H' b:=by
 refine⟨d,Ct (Bj I.lt a),I.nofs a,.inr (By I.sz a),λ x c e z=>?_,λ p hp z=>?_⟩
 .obtain⟨v,q⟩:=I.cell x c e
  exact absurd (Bj q.lt (by rw[z];exact a)) (B9 _)
 .exact absurd (Bj (Ai (I.pin p hp).1) (by rw[z];exact a)) (B9 _)
structure Turn(P:Program)(w:World)(K:FG)(tg:Expr)(J:It)(fp:List Addr)(it:Addr)(tn:Nat->Heap->Prop):Prop where
 mem:it∈fp
 obj:∀i h,tn i h->∀b∈fp,∃o,h.get? b=some o/\∀v,o.data≠ .cell v
 keep:∀i h h',tn i h->(∀b∈fp,∀o,h.get? b=some o->h'.get? b=some o)->tn i h'
 item:∀(X:Cx),X.prog=P->X.w=w->X.K=K->X.calm=true->∀(i:Nat)(pins:AL)(s:Shared)(σ:St)(H:Hp)(E:VP),Inv X pins σ H s->(∀b∈fp,yZ X pins H b)->tn i s.heap->J.go i H->
  wpAny (model P w) X.A (pyNext (.ref it)) (λ r s1=> ∃u,r=some u/\
   wpAny (model P w) X.A (letOwnedTupleGo tg (.ref it) u) (λ _ s2=> ∃x H',Inv X pins σ H' s2/\RelV x u/\J.yld i H x H'/\tn (i+1) s2.heap/\∀b∈fp,H' b=none) E s1) E s
 done:∀(X:Cx),X.prog=P->X.w=w->X.K=K->X.calm=true->∀(i:Nat)(pins:AL)(s:Shared)(σ:St)(H:Hp)(E:VP),Inv X pins σ H s->(∀b∈fp,yZ X pins H b)->tn i s.heap->J.stop i H->
  wpAny (model P w) X.A (pyNext (.ref it)) (λ r s1=>r=none/\Inv X pins σ H s1) E s
 self:∀(A:Around)(i:Nat)(s:Shared)(Q:VP)(E:VP),tn i s.heap->Q (.ref it) s->wpAny (model P w) A (pyIter (.ref it)) Q E s
abbrev TI:=St->Hp->(It->Hp->Prop)->Prop
def PIE(X:Cx)(pins:AL)(σ:St)(tg:Expr)(R:It->Hp->Prop)(a:Value)(s2:Shared):Prop:=
 ∃(it:Addr)(fp:List Addr)(tn:Nat->Heap->Prop)(J:It)(H':Hp),a=.ref it/\Inv X pins σ H' s2/\Turn X.prog X.w X.K tg J fp it tn/\tn 0 s2.heap/\(∀b∈fp,yZ X pins H' b)/\R J H'
def PI(X:Cx)(tg a:Expr)(b:TI):Prop:=
 ∀(pins:AL)(s:Shared)(σ:St)(H:Hp)(R:It->Hp->Prop),Inv X pins σ H s->b σ H R->
  wpAny (model X.prog X.w) X.A (eval a X.env) (λ v s1=>wpAny (model X.prog X.w) X.A (pyIter v) (PIE X pins σ tg R) X.xe s1) X.xe s
def FC(b:s.heap.get? it=some o)(c:o.cls=.type n)(hd:o.data=.fields vs)
    (d:["enumerate","zip","dict_itemiterator","dict_reverseitemiterator","odict_iterator","itertools.zip_longest","itertools.pairwise"].contains n=false) (a:Q () s):wpAny M A (letOwnedTupleGo tg (.ref it) u) Q E s:=by
  unfold letOwnedTupleGo;cases tg<;>first
    |exact Ad a
    | (cases u<;>first
        |exact Ad a
        | (refine Aa (wpAny_load b ?_)
           rw[c,hd];show wpAny M A (if (["enumerate","zip","dict_itemiterator","dict_reverseitemiterator","odict_iterator","itertools.zip_longest","itertools.pairwise"].contains n && vs[0]? ==some (rawInt _))=true then _ else _) Q E s
           rw[Ac (by intro h;rw[d,Dr]at h;cases h)]
           exact Ad a))
def Itl(K:FG)(a:Addr):It:=
 ⟨λ i H=> ∃xs x,SqL K H a xs/\xs[i]? =some x,λ i H x H'=>H'=H/\∀xs,SqL K H a xs->xs[i]? =some x,λ i H=> ∃xs,SqL K H a xs/\xs.length<=i⟩
def Itr(lo:Int)(n:Nat):It:=⟨λ i _=>i<n,λ i H x H'=>H'=H/\x=.int (lo+i),λ i _=>n<=i⟩
def Sf{P:Program}{w:World}{K:FG}{tg:Expr}(a it:Addr):Turn P w K tg (Itl K a) [it] it (λ i h=>h.IsListIter it a i) where
 mem:=by simp
 obj:=λ i h st b f=>by
  have e:b=it:=by simpa using f
  subst e;obtain⟨o,e,c,d⟩:=st;exact⟨o,e,λ v z=>by rw[d]at z;cases z⟩
 keep:=λ i h h' st k=>st.at λ o e=>k it (by simp) o e
 item:=by
  intro X m n q G i pins s σ H E I j st r;subst m n q;obtain⟨xs,x,l,t⟩:=r;obtain⟨its,y,p,hz⟩:=I.list l;obtain⟨u,J,L⟩:=y.get t;obtain⟨A,B,M,C,D,F⟩:=j it (by simp)
  refine wpAny_pyNext_list_item st p.isList (x:=u) (by simpa using J) λ h' g sb=>?_
  have N:Inv X pins σ H {s with heap:=h'}:=I.turned (t':=s.toks) (λ b o f e=>(sb.2 b f).trans e) A B C D F
  obtain⟨o,e,c,d⟩:=id g;exact⟨u,rfl,FC (s:={s with heap:=h'}) e c d (by decide) ⟨x,H,N,L,⟨rfl,λ ys O=>by rw[I.list_inj O l];exact t⟩,g,λ b f=>(j b f).1⟩⟩
 done:=by
  intro X m n q G i pins s σ H E I j st r;subst m n q;obtain⟨xs,l,t⟩:=r;obtain⟨its,y,p,hz⟩:=I.list l;obtain⟨A,B,M,C,D,F⟩:=j it (by simp)
  have R:=y.length;exact wpAny_pyNext_list_end (I.ok.hd G) st p.isList (by simp;lia) λ h' Q=>⟨rfl,I.turned (t':=s.toks) (λ b o f e=>Q b o f e) A B C D F⟩
 self:=λ _ _ _ _ _ st h=>wpAny_pyIter_listiter st h
def Sg{P:Program}{w:World}{K:FG}{tg:Expr}(it:Addr)(lo:Int)(n:Nat):Turn P w K tg (Itr lo n) [it] it (λ i h=>IsRangeIter h it (lo+(i:Nat)*1) ((n:Int)-(i:Nat)) 1) where
 mem:=by simp
 obj:=λ i h st b a=>by
  have e:b=it:=by simpa using a
  subst e;exact⟨_,st,λ v z=>by
   have y:Data.fields _=Data.cell v:=z;cases y⟩
 keep:=λ i h h' st k=>k it (by simp) _ st
 item:=by
  intro X f g j l i pins s σ H E I d st m;subst f g j;obtain⟨p,q,A,r,u,x⟩:=d it (by simp)
  have W:=Walks.range (prog:=X.prog) (w:=X.w) (I.ok.hd l) it lo 1 n
  refine W.item i s _ _ m st λ v h' tk B c C=>?_
  obtain⟨t,rfl⟩:=B;have D:Inv X pins σ H {s with heap:=h',toks:=tk}:=I.turned (λ b o a e=>C b o (by simpa using a) e) p q r u x
  refine⟨_,rfl,FC (s:={s with heap:=h',toks:=tk}) (n:="range_iterator") c rfl rfl (by decide) ⟨.int (lo+i),H,D,⟨t,?_⟩,⟨rfl,rfl⟩,c,λ b a=>(d b a).1⟩⟩
  rw[Int.mul_one]
 done:=by
  intro X f g j l i pins s σ H E I d st m;subst f g j;obtain⟨p,q,A,r,u,x⟩:=d it (by simp)
  exact wpAny_pyNext_range_end (I.ok.hd l) st (by have:n<=i:=m;lia) λ h' F=>⟨rfl,I.turned (t':=s.toks) (λ b o a e=>F b o a e) p q r u x⟩
 self:=λ _ _ _ _ _ st h=>wpAny_pyIter_rangeiter st h
section
variable{X:Cx}{tg:Expr}
def Sh(K:FG)(tl:TE):TI:=λ σ H R=>tl σ H λ x H1=> ∃a,x=.ref a/\(∃xs,SqL K H1 a xs)/\R (Itl K a) H1
def Si{l:Expr}{tl:TE}(d:PE X l tl):PI X tg l (Sh X.K tl):=by
 intro pins s σ H R I h
 refine zt (d pins s σ H _ I h) λ v s1 x H1 c f q1=>?_
 obtain⟨a,e,⟨xs,g⟩,q⟩:=q1;subst e;cases f;obtain⟨its,j,p,hz⟩:=c.list g
 refine E8 p.isList ?_
 refine⟨s1.heap.objs.size,[s1.heap.objs.size],_,_,H1,rfl,c.kept (t':=s1.toks) λ b o e=>As _ e,Sf a _,⟨_,Bf _ rfl,rfl,rfl⟩,λ b i=>?_,q⟩
 have e:b=s1.heap.objs.size:=by simpa using i
 subst e;exact c.fpOk (Ag _) (c.hok.fresh (Ag _))
def Sj{pins:AL}{σ:St}{H:Hp}{s:Shared}{R:It->Hp->Prop}{E:VP}{lo hi:Int}{t u v:Tok}{tk:Nat}(I:Inv X pins σ H s)(h1: -(2 ^ 62)<=lo)(h2:lo<2 ^ 62)(c: -(2 ^ 62)<=hi)(d:hi<2 ^ 62)
  (q:R (Itr lo (hi-lo).toNat) H):wpAny (model X.prog X.w) X.A (pyIter (.ref s.heap.objs.size)) (PIE X pins σ tg R) E {s with heap:=s.heap.push {cls:= .type "range",data:= .fields #[.int lo t,.int hi u,.int 1 v]},toks:=tk}:=by
 refine wpAny_pyIter_range (IsRange.new ..) (small_one h1 h2 c d) ?_
 have a:Inv X pins σ H {s with heap:=s.heap.push {cls:= .type "range",data:= .fields #[.int lo t,.int hi u,.int 1 v]},toks:=tk}:=I.kept λ b o e=>As _ e
 refine⟨(s.heap.push {cls:= .type "range",data:= .fields #[.int lo t,.int hi u,.int 1 v]}).objs.size,[(s.heap.push {cls:= .type "range",data:= .fields #[.int lo t,.int hi u,.int 1 v]}).objs.size],_,_,H,rfl,
  a.kept (t':=tk) λ b o e=>As _ e,Sg _ lo (hi-lo).toNat,?_,λ b f=>?_,q⟩
 .have e1:lo+((0:Nat):Int)*1=lo:=by simp
  have e2:(((hi-lo).toNat:Nat):Int)-((0:Nat):Int)=Builtin.Range.rangeSize lo hi 1:=by rw[rangeSize_one];split<;>lia
  show IsRangeIter _ _ (lo+((0:Nat):Int)*1) ((((hi-lo).toNat:Nat):Int)-((0:Nat):Int)) 1;rw[e1,e2];exact Bf _ rfl
 .have e:b=(s.heap.push {cls:= .type "range",data:= .fields #[.int lo t,.int hi u,.int 1 v]}).objs.size:=by simpa using f
  subst e;exact a.fpOk (Ag _) (a.hok.fresh (Ag _))
def Sk(ta:TA):TI:=λ σ H R=>ta σ H λ vs H1=> ∃j:Int,vs=[.int j]/\ -(2 ^ 62)<=j/\j<2 ^ 62/\R (Itr 0 j.toNat) H1
def Sl{a:Expr}{ta:TA}{p pos:Pos}(b:Gl X "range")(c:X.mg "range" =none)(d:PA X [a] ta)(hs:starEach [a] X.env=[(false,eval a X.env)]:=by rfl):PI X tg (.Call (.Name "range" p) [a] [] pos) (Sk ta):=by
 intro pins s σ H R I h
 refine Call_ (BN I b c boot_range (E9 (zt (d pos pins s σ H _ I h) λ us s1 vs H1 f g q1=>?_) hs rfl))
 obtain⟨j,e,q1,q2,q⟩:=q1;subst e;cases g with
 |cons r rr=>
  cases rr;obtain⟨t,rfl⟩:=r;exact call_range_1 (Sj f (by lia) (by lia) q1 q2 (by simpa using q))
def tFor(c:TI)(g:TG)(tb:TS):TS:=λ D σ H=>c σ H λ J H1=> ∃W:Nat->Nat->St->Hp->Prop,(∃m,W 0 m σ H1)/\∀i m σ H,W i m σ H->
 (J.stop i H/\D.nx σ H)\/(J.go i H/\∃N:St->Hp->Prop,(∀σ' H',N σ' H'->∃b,b < m/\W (i+1) b σ' H')/\∀x H',J.yld i H x H'->g x σ H' λ a H2=>tb {D with nx:=N,ct:=N,bk:=D.nx} a H2)
noncomputable def FD(fp:List Addr)(h:Heap):AL:=fp.filterMap λ b=>(h.get? b).map λ o=>(b,o)
def Ic(a:b∈fp)(e:h.get? b=some o):(b,o)∈FD fp h:=Fb.mpr ⟨b,a,by rw[e];rfl⟩
def Sm(hp:p∈FD fp h):p.1∈fp/\h.get? p.1=some p.2:=by
 obtain⟨b,a,e⟩:=Fb.mp hp;cases q:h.get? b with
 |none=>rw[q]at e;cases e
 |some o=>
  rw[q]at e;have c:(b,o)=p:=Option.some.inj e;subst c;exact⟨a,q⟩
def Inv.pinned(I:Inv X pins σ H s)(f:∀b∈fp,yZ X pins H b)(g:∀b∈fp,∃o,s.heap.get? b=some o/\∀v,o.data≠ .cell v):Inv X (pins++FD fp s.heap) σ H s:=
 I.pins_of λ p hp=>(Bc.mp hp).elim (λ z=>I.pin p (B1 _ z)) λ z=>by
  obtain⟨a,e⟩:=Sm z;obtain⟨h,i,j,_⟩:=f p.1 a;obtain⟨o,c,d⟩:=g p.1 a;rw[e]at c;cases c;exact⟨e,h,i,j,d⟩
def Inv.unpinned(I:Inv X (pins++pl) σ H s):Inv X pins σ H s:=I.pins_of λ p hp=>I.pin p (B1 _ (Cs _ hp))
def Sn(hp:PassesOwn (model X.prog X.w) X.A X.env X.xe)(M:X.calm=true)(hi:PI X tg iter wi)(R:PG X tg g)(c:yM X body tb)
  (hs:∀x,foldedSetIterable iter X.env x=pure x:=by intro _;rfl):PS X (.For tg iter body [] pos) (tFor wi g tb):=by
 intro pins s σ H D I h
 refine wpAny_For (thn (hi pins s σ H _ I h) λ v s1 h1=>thn h1 λ S s2 h2=>?_) hs
 obtain⟨it,fp,tn,J,H2,e,U,T,C,O,W,⟨V,w0⟩,y⟩:=h2;subst e;have j:∀{H':Hp},(∀b∈fp,H' b=none)->∀b∈fp,yZ X pins H' b:=λ Y b c=>⟨Y b c,(O b c).2⟩
 refine codeAny_forLoop_any (λ n s'=> ∃i σ' H',Inv X pins σ' H' s'/\tn i s'.heap/\(∀b∈fp,H' b=none)/\W i n σ' H') ?_ V ⟨0,σ,H2,U,C,λ b c=>(O b c).1,w0⟩
 rintro n P ⟨i,k,H3,I3,z,B,Z⟩
 rcases y i n k H3 Z with ⟨stop,qn⟩|⟨go,N,hN,step⟩
 .refine Dq hp (thn (T.done X rfl rfl rfl M i pins P k H3 X.xe I3 (j B) z stop) λ r s4 ⟨E,I4⟩=>?_)
  subst E;exact Fx ⟨k,H3,I4,qn⟩
 .refine Dq hp (thn (T.item X rfl rfl rfl M i pins P k H3 X.xe I3 (j B) z go) λ r s4 ⟨u,E,h4⟩=>?_)
  subst E
  refine Dq hp (thn h4 λ _ Q ⟨x,H5,I5,r5,y5,q,F⟩=>?_)
  have G:=I5.pinned (j F) (T.obj _ _ q)
  refine Dq hp (thn (R _ Q k H5 x u _ G r5 (step x H5 y5)) λ _ s6 ⟨K,H6,I6,q6⟩=>?_)
  refine Dq hp (thn (c _ s6 K H6 _ I6 q6) λ f s7 q7=>?_)
  have t:∀{a:St}{l:Hp},Inv X (pins++FD fp Q.heap) a l s7->N a l->∃m,m<n/\∃i σ' H',Inv X pins σ' H' s7/\tn i s7.heap/\(∀b∈fp,H' b=none)/\W i m σ' H':=λ {a l} p L=>by
   obtain⟨m',hm,w7⟩:=hN a l L
   refine⟨m',hm,i+1,a,l,p.unpinned,T.keep _ _ _ q λ b c o e=>(p.pin (b,o) (B1 _ (B1 _ (Ic c e)))).1,λ b c=>?_,w7⟩
   obtain⟨o,e,d⟩:=T.obj _ _ q b c;exact (p.pin (b,o) (B1 _ (B1 _ (Ic c e)))).2.1
  cases f with
  |next|cont=>obtain⟨a,l,p,L⟩:=q7;exact t p L
  |brk=>obtain⟨a,l,p,q7⟩:=q7;exact⟨a,l,p.unpinned,q7⟩
  |ret v=>obtain⟨x7,a,l,p,r7,q7⟩:=q7;exact⟨x7,a,l,p.unpinned,r7,q7⟩
end
abbrev R2:=V->V->Hp->VK->Prop
def OpR(X:Cx)(f:Value->Value->Sem Value)(r:R2):Prop:=
 ∀(pins:AL)(s:Shared)(σ:St)(H:Hp)(x y:V)(v u:Value)(Q:VK),Inv X pins σ H s->RelV x v->RelV y u->r x y H Q->
  wpAny (model X.prog X.w) X.A (f v u) (EP X pins σ Q) X.xe s
def UnR(X:Cx)(f:Value->Sem Value)(r:V->Hp->VK->Prop):Prop:=
 ∀(pins:AL)(s:Shared)(σ:St)(H:Hp)(x:V)(v:Value)(Q:VK),Inv X pins σ H s->RelV x v->r x H Q->
  wpAny (model X.prog X.w) X.A (f v) (EP X pins σ Q) X.xe s
def qH(X:Cx)(f:Value)(r:List V->Hp->VK->Prop):Prop:=
 ∀(pins:AL)(s:Shared)(σ:St)(H:Hp)(xs:List V)(us:List Value)(Q:VK),Inv X pins σ H s->Vals xs us->r xs H Q->
  wpAny (model X.prog X.w) X.A (call f us) (EP X pins σ Q) X.xe s
def TruR(X:Cx)(r:V->Hp->(Bool->Hp->Prop)->Prop):Prop:=
 ∀(pins:AL)(s:Shared)(σ:St)(H:Hp)(x:V)(v:Value)(Q:Bool->Hp->Prop),Inv X pins σ H s->RelV x v->r x H Q->
  wpAny (model X.prog X.w) X.A (truthy v) (TP X pins σ Q) X.xe s
def tOp(r:R2)(ta tb:TE):TE:=λ σ H Q=>ta σ H λ x H1=>tb σ H1 λ y H2=>r x y H2 Q
def tUn(r:V->Hp->VK->Prop)(ta:TE):TE:=λ σ H Q=>ta σ H λ x H1=>r x H1 Q
def rI(C:Int->Int->Prop)(g:Int->Int->V):R2:=λ x y H Q=> ∃i j,x=.int i/\y=.int j/\C i j/\Q (g i j) H
def jd(g:Int->Int->V):R2:=λ x y H Q=> ∃i j,x=.int i/\y=.int j/\Q (g i j) H
def rU(g:Int->V):V->Hp->VK->Prop:=λ x H Q=> ∃i,x=.int i/\Q (g i) H
section
variable{X:Cx}{a b c:Expr}{ta tb tc:TE}{pos:Pos}
def binT(e:PE X a ta)(g:PE X b tb){pins:AL}{s:Shared}{σ:St}{H:Hp}{R:V->V->Hp->Prop}(I:Inv X pins σ H s)
  (h:ta σ H λ x H1=>tb σ H1 λ y H2=>R x y H2) {Q:VP} {f:Value->Value->Sem Value}
  (i:∀v u s2 x y H2,Inv X pins σ H2 s2->RelV x v->RelV y u->R x y H2->wpAny (model X.prog X.w) X.A (f v u) Q X.xe s2):
  wpAny (model X.prog X.w) X.A (eval a X.env) (λ v c=>wpAny (model X.prog X.w) X.A (eval b X.env) (λ u d=>wpAny (model X.prog X.w) X.A (f v u) Q X.xe d) X.xe c) X.xe s:=by
 refine zt (e pins s σ H _ I h) λ v s1 x H1 j k q1=>?_
 refine zt (g pins s1 σ H1 _ j q1) λ u s2 y H2 l m q2=>?_
 exact i v u s2 x y H2 l k m q2
def So{c:Operator}{r:R2}(d:OpR X (binaryOp c) r)(e:PE X a ta)(f:PE X b tb):PE X (.BinOp a c b pos) (tOp r ta tb):=by
 intro pins s σ H Q I h;exact wpAny_BinOp (binT e f I h λ v u s2 x y H2 g i j q=>d pins s2 σ H2 x y v u Q g i j q)
def Sq(b:UnR X (unaryOp op) r)(c:PE X a ta):PE X (.UnaryOp op a pos) (tUn r ta):=by
 intro pins s σ H Q I h;exact UnaryOp_ (zt (c pins s σ H _ I h) λ v s1 x H1 d e q1=>b pins s1 σ H1 x v Q d e q1)
def opI{f:Value->Value->Sem Value}{C:Int->Int->Prop}{g:Int->Int->Int}
  (a:∀(i j:Int)(t u:Tok)(s:Shared)(Q:VP)(E:VP),C i j->Q (.int (g i j) s.toks) {s with toks:=s.toks+1}->wpAny (model X.prog X.w) X.A (f (.int i t) (.int j u)) Q E s):
  OpR X f (rI C λ i j=>.int (g i j)):=by
 intro pins s σ H x y v u Q I b c h;obtain⟨i,j,rfl,rfl,d,q⟩:=h;obtain⟨t,rfl⟩:=b;obtain⟨t',rfl⟩:=c;exact a i j t t' s _ _ d ⟨.int (g i j),H,I.tok _,⟨_,rfl⟩,q⟩
def opI0{f:Value->Value->Sem Value}{g:Int->Int->Int}
  (a:∀(i j:Int)(t u:Tok)(s:Shared)(Q:VP)(E:VP),Q (.int (g i j) s.toks) {s with toks:=s.toks+1}->wpAny (model X.prog X.w) X.A (f (.int i t) (.int j u)) Q E s):
  OpR X f (jd λ i j=>.int (g i j)):=by
 intro pins s σ H x y v u Q I b c h;obtain⟨i,j,rfl,rfl,q⟩:=h;obtain⟨t,rfl⟩:=b;obtain⟨t',rfl⟩:=c;exact a i j t t' s _ _ ⟨.int (g i j),H,I.tok _,⟨_,rfl⟩,q⟩
def opB0{f:Value->Value->Sem Value}{g:Int->Int->Bool}
  (a:∀(i j:Int)(t u:Tok)(s:Shared)(Q:VP)(E:VP),Q (.bool (g i j)) s->wpAny (model X.prog X.w) X.A (f (.int i t) (.int j u)) Q E s):
  OpR X f (jd λ i j=>.bl (g i j)):=by
 intro pins s σ H x y v u Q I b c h;obtain⟨i,j,rfl,rfl,q⟩:=h;obtain⟨t,rfl⟩:=b;obtain⟨t',rfl⟩:=c;exact a i j t t' s _ _ ⟨.bl (g i j),H,I,rfl,q⟩
def CDiv(i j:Int):Prop:=0<j/\j<1073741824
def CPow(i j:Int):Prop:=0<=j/\j<=1000000/\i.natAbs<2 ^ 64
def CMul(i j:Int):Prop:=(-(2 ^ 64)<i/\i<2 ^ 64)\/(-(2 ^ 64)<j/\j<2 ^ 64)
def CMul.ok{i j:Int}(h:CMul i j):IntMulOk i j:=by
 rcases h with ⟨h1,h2⟩|⟨h1,h2⟩
 .exact .of_left (intBits_le_64 h1 h2)
 .exact .of_right (intBits_le_64 h1 h2)
def Sr(k:Nat):(0:Int)<=2 ^ k:=by
 rw[two_pow_cast];exact Int.natCast_nonneg _
def op_add:OpR X (binaryOp .Add) (jd λ i j=>.int (i+j)):=opI0 λ _ _ _ _ _ _ _ q=>add_int q
def jR:OpR X (binaryOp .Sub) (jd λ i j=>.int (i-j)):=opI0 λ _ _ _ _ _ _ _ q=>sub_int q
def op_mul:OpR X (binaryOp .Mult) (rI CMul λ i j=>.int (i*j)):=opI λ _ _ _ _ _ _ _ a q=>mul_int q a.ok
def ji:OpR X (binaryOp .FloorDiv) (rI CDiv λ i j=>.int (i / j)):=opI λ i j _ _ _ _ _ a q=>by
 have h1:(0:Int)<j:=a.1;have h2:j<1073741824:=a.2;exact floordiv_int (by lia) (by rw[Int.fdiv_eq_ediv_of_nonneg i (by lia)];exact q) (.inl (PyProof.noPylong_small (by lia)))
def yU:OpR X (binaryOp .Mod) (rI (λ _ j=>0<j) λ i j=>.int (i%j)):=opI λ i j _ _ _ _ _ a q=>by
 have h1:(0:Int)<j:=a;exact mod_int' (by lia) (by rw[Int.fmod_eq_emod_of_nonneg i (by lia)];exact q)
def Ss:OpR X (binaryOp .Pow) (rI CPow λ i j=>.int (i ^ j.toNat)):=opI λ _ _ _ _ _ _ _ a q=>pow_int_small a.1 a.2.1 a.2.2 q
def Su:OpR X (binaryOp .RShift) (rI (λ _ j=>0<=j) λ i j=>.int (i / 2 ^ j.toNat)):=opI λ i j _ _ _ _ _ a q=>
 rshift_int a (by rw[Int.fdiv_eq_ediv_of_nonneg i (Sr _)];exact q)
def Sv:OpR X (binaryOp .BitAnd) (jd λ i j=>.int (Builtin.bitAnd i j)):=opI0 λ _ _ _ _ _ _ _ q=>and_int q
def unI{f:Value->Sem Value}{g:Int->Int}
  (a:∀(i:Int)(t:Tok)(s:Shared)(Q:VP)(E:VP),Q (.int (g i) s.toks) {s with toks:=s.toks+1}->wpAny (model X.prog X.w) X.A (f (.int i t)) Q E s):
  UnR X f (rU λ i=>.int (g i)):=by
 intro pins s σ H x v Q I b h;obtain⟨i,rfl,q⟩:=h;obtain⟨t,rfl⟩:=b;exact a i t s _ _ ⟨.int (g i),H,I.tok _,⟨_,rfl⟩,q⟩
def Sw:UnR X (unaryOp .USub) (rU λ i=>.int (-i)):=unI λ _ _ _ _ _ q=>neg_int q
end
section
variable{X:Cx}{a b c:Expr}{ta tb tc:TE}{pos:Pos}
def MX(I:Inv X pins σ H s)(q:Q (.bl k) H)(e:k=k'):EP X pins σ Q (.bool k') s:=by
 subst e;exact⟨.bl k,H,I,rfl,q⟩
def AY:OpR X (compareOp .Lt) (jd λ i j=>.bl (decide (i<j))):=opB0 λ _ _ _ _ _ _ _ q=>lt_int q
def Qn:OpR X (compareOp .LtE) (jd λ i j=>.bl (decide (i<=j))):=opB0 λ _ _ _ _ _ _ _ q=>le_int q
def BP:OpR X (compareOp .Gt) (jd λ i j=>.bl (decide (j<i))):=opB0 λ _ _ _ _ _ _ _ q=>gt_int q
def MY:OpR X (compareOp .In) (λ x y H Q=> ∃i j,x=.str i/\y=.str j/\Q (.bl (!(Builtin.Str.occurrences j i 0 j.length 1).isEmpty)) H):=by
 intro pins s σ H x y v u Q I a b h;obtain⟨i,j,rfl,rfl,q⟩:=h;obtain⟨t,rfl⟩:=a;obtain⟨t',rfl⟩:=b;exact in_str (MX I q rfl)
def JG:OpR X (compareOp .IsNot) (λ x y H Q=>y=.non/\Q (.bl (!decide (x=.non))) H):=by
 intro pins s σ H x y v u Q I a b h;obtain⟨rfl,q⟩:=h;cases b
 refine isnot_none_gen (MX I q ?_)
 cases x<;>first
  | (cases a;rfl)
  | (obtain⟨t,rfl⟩:=a;rfl)
def OpR.or{f:Value->Value->Sem Value}{r a:R2}(h:OpR X f r)(h':OpR X f a):OpR X f (λ x y H Q=>r x y H Q\/a x y H Q):=by
 intro pins s σ H x y v u Q I b c q
 rcases q with q|q
 .exact h pins s σ H x y v u Q I b c q
 .exact h' pins s σ H x y v u Q I b c q
def zZ(b:Expr)(h:op≠ .In:=by decide)(h2:op≠ .NotIn:=by decide):behindInMarks op b=false:=by
 have e1:(op==CmpOp.In)=false:=by cases op<;>first|rfl|exact absurd rfl h
 have e2:(op==CmpOp.NotIn)=false:=by cases op<;>first|rfl|exact absurd rfl h2
 cases b<;>simp[behindInMarks,e1,e2]
def Sx{c:CmpOp}{r:R2}(d:OpR X (compareOp c) r)(e:PE X a ta)(f:PE X b tb)(g:behindInMarks c b=false):PE X (.Compare a [c] [b] pos) (tOp r ta tb):=by
 intro pins s σ H Q I h;exact wpAny_Compare1 (binT e f I h λ v u s2 x y H2 i j k q=>d pins s2 σ H2 x y v u Q i j k q) g
def MZ(t:TE):TT:=λ σ H Q=>t σ H λ x H'=> ∃k,x=.bl k/\Q k H'
def Sy(d:OpR X (compareOp op) r)(f:PE X a ta)(g:PE X b tb)(i:behindInMarks op b=false):PT X (.Compare a [op] [b] pos) (MZ (tOp r ta tb)):=by
 intro pins s σ H Q I h
 refine wpAny_isTrue_Compare1 (zt (f pins s σ H _ I h) λ v s1 x H1 j l q1=>zt (g pins s1 σ H1 _ j q1) λ u s2 y H2 m n q2=>
  thn (d pins s2 σ H2 x y v u _ m l n q2) λ c p ⟨z,H3,I3,o,k,e,q3⟩=>?_) i
 subst e;cases o;exact Cg ⟨H3,I3,q3⟩
def JH(r a:R2)(ta tb tc:TE):TE:=λ σ H Q=>ta σ H λ x H1=>tb σ H1 λ y H2=>r x y H2 λ z H3=> ∃k,z=.bl k/\
 (if k=true then tc σ H3 λ w' b=>a y w' b Q else Q (.bl false) H3)
def Sz(i:OpR X (compareOp op) r)(f:OpR X (compareOp op') r')(j:PE X a ta)(l:PE X b tb)(m:PE X c tc)
  (n:lastMarks [op,op'] [b,c]=false:=by with_unfolding_all rfl):PE X (.Compare a [op,op'] [b,c] pos) (JH r r' ta tb tc):=by
 intro pins s σ H Q I h
 refine Compare_chain (zt (j pins s σ H _ I h) λ v s1 x H1 o p q1=>chain_link (zt (l pins s1 σ H1 _ o q1) λ u s2 y H2 q g q2=>
  thn (i pins s2 σ H2 x y v u _ q p g q2) λ d t ⟨z,H3,I3,w,k,e,q3⟩=>?_)) n
 subst e;cases w
 refine Cg ?_
 cases k with
 |false=>exact ite_ff ⟨.bl false,H3,I3,rfl,q3⟩
 |true=>exact ite_tt (chain_last (zt (m pins t σ H3 _ I3 q3) λ w' A B C D E q4=>f pins A σ C y B u w' Q D g E q4))
def S0(i:OpR X (compareOp op) r)(f:OpR X (compareOp op') r')(j:PE X a ta)(l:PE X b tb)(m:PE X c tc)
  (n:lastMarks [op,op'] [b,c]=false:=by with_unfolding_all rfl):PT X (.Compare a [op,op'] [b,c] pos) (MZ (JH r r' ta tb tc)):=by
 intro pins s σ H Q I h
 refine isTrue_chain (zt (j pins s σ H _ I h) λ v s1 x H1 o p q1=>test_link (zt (l pins s1 σ H1 _ o q1) λ u s2 y H2 q g q2=>
  thn (i pins s2 σ H2 x y v u _ q p g q2) λ d t ⟨z,H3,I3,w,k,e,q3⟩=>?_)) n
 subst e;cases w
 refine Cg ?_
 cases k with
 |false=>
  obtain⟨M,A,B⟩:=q3;cases A;exact ite_ff ⟨H3,I3,B⟩
 |true=>
  refine ite_tt (test_last (zt (m pins t σ H3 _ I3 q3) λ w' C D E F G q4=>zt (f pins C σ E y D u w' _ F g G q4) λ d' N O H5 J K L=>?_))
  obtain⟨k2,e2,q5⟩:=L;subst e2;cases K;exact Cg ⟨H5,J,q5⟩
def TruV(K:FG)(x:V)(H:Hp)(k:Bool):Prop:=
 match x with
 |.non=>k=false
 |.bl b=>k=b
 |.int i=>k=(i !=0)
 |.str y=>y.length<=sizeLine/\k=((y.length:Int) !=0)
 |.ref p=>(∃xs,SqL K H p xs/\k= !xs.isEmpty)\/∃xs,SqT K H p xs/\k= !xs.isEmpty
 |_=>False
def Na{xs:List V}{its:List Value}(r:Vals xs its):(!its.toArray.isEmpty)= !xs.isEmpty:=by
 cases r<;>simp
def CO:(sizeLine:Nat)<2 ^ 63:=by rw[Ds];decide
def S4:TruR X (λ x H Q=> ∃k,TruV X.K x H k/\Q k H):=by
 intro pins s σ H x v Q I c h;obtain⟨k,e,q⟩:=h;have f:=CO;have hs:sizeLine=16777216:=Ds;cases x with
 |non=>
  cases c;have a:k=false:=e;subst a;exact truthy_none ⟨H,I,q⟩
 |bl b=>
  cases c;have a:k=b:=e;subst a;exact Cg ⟨H,I,q⟩
 |int i=>
  obtain⟨t,rfl⟩:=c;have a:k=(i !=0):=e;subst a;exact PySem.P.truthy_int ⟨H,I,q⟩
 |str y=>
  obtain⟨t,rfl⟩:=c;obtain⟨g,a⟩:y.length<=sizeLine/\k=((y.length:Int) !=0):=e;subst a;exact PySem.P.truthy_str (by lia) ⟨H,I.tok _,q⟩
 |ref p=>
  cases c;have a:(∃xs,SqL X.K H p xs/\k= !xs.isEmpty)\/∃xs,SqT X.K H p xs/\k= !xs.isEmpty:=e
  rcases a with ⟨xs,hx,a⟩|⟨xs,hx,a⟩
  .subst a
   obtain⟨its,r,pl,hz⟩:=I.list hx;have d:=r.length;exact wpAny_truthy_list pl.isList (by simp only[Aq];lia) ⟨H,I.tok _,by rw[Na r];exact q⟩
  .subst a
   obtain⟨its,r,pl,hz⟩:=I.tuple hx;have d:=r.length;exact truthy_tuple pl (by simp only[Aq];lia) ⟨H,I.tok _,by rw[Na r];exact q⟩
 |_=>exact (show False from e).elim
def S5(c:PE X a ta)(d:∀b,isTrue a X.env b=(do let v <-b;standAt a.pos;holding [v] (truthy v))):
  PT X a (λ σ H Q=>ta σ H λ x H'=> ∃k,TruV X.K x H' k/\Q k H'):=by
 intro pins s σ H Q I h;exact isTrue_plain (zt (c pins s σ H _ I h) λ v s1 x H1 e f q1=>S4 pins s1 σ H1 x v Q e f q1) (d _)
def op_add_str:OpR X (binaryOp .Add) (λ x y H Q=> ∃i j,x=.str i/\y=.str j/\i.length+j.length<=sizeLine/\Q (.str (i++j)) H):=by
 intro pins s σ H x y v u Q I a b h;obtain⟨i,j,rfl,rfl,hz,q⟩:=h;obtain⟨t,rfl⟩:=a;obtain⟨t',rfl⟩:=b;exact add_str (λ t' tk=>⟨.str (i++j),H,I.tok _,⟨_,rfl⟩,q⟩) hz
def BQ(r:Vals [x] us):∃u,us=[u]/\RelV x u:=by
 cases r with
 |cons r1 r2=>cases r2;exact⟨_,rfl,r1⟩
def FE(r:Vals [x,y] us):∃u w',us=[u,w']/\RelV x u/\RelV y w':=by
 cases r with
 |cons r1 r2=>
  cases r2 with
  |cons r3 r4=>cases r4;exact⟨_,_,rfl,r1,r3⟩
def FF(a:X.calm=true):qH X (.builtin "max") (λ xs H Q=> ∃i j,xs=[.int i,.int j]/\Q (.int (if j > i then j else i)) H):=by
 intro pins s σ H xs us Q I r h;obtain⟨i,j,rfl,q⟩:=h;obtain⟨u,w',rfl,⟨t,rfl⟩,⟨t',rfl⟩⟩:=FE r
 refine max_two_ints (I.ok.hd a) λ h' tk k=>⟨_,H,I.kept k,?_,q⟩
 by_cases hj:j > i
 .rw[Ab hj,Ab hj];exact⟨_,rfl⟩
 .rw[Ac hj,Ac hj];exact⟨_,rfl⟩
def Ie(a:X.calm=true):qH X (.builtin "min") (λ xs H Q=> ∃i j,xs=[.int i,.int j]/\Q (.int (if j<i then j else i)) H):=by
 intro pins s σ H xs us Q I r h;obtain⟨i,j,rfl,q⟩:=h;obtain⟨u,w',rfl,⟨t,rfl⟩,⟨t',rfl⟩⟩:=FE r
 refine min_two_ints (I.ok.hd a) λ h' tk k=>⟨_,H,I.kept k,?_,q⟩
 by_cases hj:j<i
 .rw[Ab hj,Ab hj];exact⟨_,rfl⟩
 .rw[Ac hj,Ac hj];exact⟨_,rfl⟩
def LenV(K:FG)(x:V)(H:Hp)(n:Nat):Prop:=
 match x with
 |.str y=>y.length<=sizeLine/\n=y.length
 |.ref p=>(∃xs,SqL K H p xs/\n=xs.length)\/∃xs,SqT K H p xs/\n=xs.length
 |_=>False
def S6:qH X (.builtin "len") (λ xs H Q=> ∃x n,xs=[x]/\LenV X.K x H n/\Q (.int n) H):=by
 intro pins s σ H xs us Q I r h;obtain⟨x,n,rfl,e,q⟩:=h;obtain⟨u,rfl,d⟩:=BQ r;have f:=CO;have hs:sizeLine=16777216:=Ds;cases x with
 |str y=>
  obtain⟨t,rfl⟩:=d;obtain⟨g,b⟩:y.length<=sizeLine/\n=y.length:=e;subst b;exact len_str (by lia) ⟨.int _,H,I.tok _,⟨_,rfl⟩,q⟩
 |ref p=>
  cases d;have b:(∃xs,SqL X.K H p xs/\n=xs.length)\/∃xs,SqT X.K H p xs/\n=xs.length:=e
  rcases b with ⟨xs,hx,b⟩|⟨xs,hx,b⟩
  .subst b
   obtain⟨its,c,pl,hz⟩:=I.list hx;have a:=c.length;exact Calls.call_len_list pl.isList (by simp only[Aq];lia) ⟨.int xs.length,H,I.tok _,⟨_,by simp only[Aq];rw[a]⟩,q⟩
  .subst b
   obtain⟨its,c,pl,hz⟩:=I.tuple hx;have a:=c.length;exact len_tuple pl (by simp only[Aq];lia) ⟨.int xs.length,H,I.tok _,⟨_,by simp only[Aq];rw[a]⟩,q⟩
 |_=>exact (show False from e).elim
end
structure ObjM(h:Heap)(x dx C:Addr)(mA:Str->Option Value):Prop where
 obj:h.get? x=some (PySem.W.instObj C dx)
 ns:h.Ns1 dx mA
 ne:dx≠x
def S7{h:Heap}{dx:Addr}{mA:Str->Option Value}(n:h.Ns1 dx mA):∃od,h.get? dx=some od/\∀name,PySem.W.lookIn name od=some (mA name):=by
 obtain⟨o,es,ep,c,hd,d,_,f⟩:=n
 refine⟨o,c,λ name=>?_⟩
 have e:=f name;unfold nsFind findBy at e;rw[<-Array.find?_toList]at e
 unfold PySem.W.lookIn;rw[hd];dsimp only
 split
 .rename_i y q
  rw[q]at e;exact congrArg some e
 .rename_i q
  rw[q]at e;have a:es.toList.any (·.refKey)=false:=by
   rw[List.any_eq_false];intro y g;obtain⟨z,t,b⟩:=d y (Array.mem_toList_iff.mp g);simp[DictEntry.refKey,b]
  have i: ¬es.toList.any (·.refKey)=true:=by rw[a];exact Bk
  rw[Ac i];exact congrArg some e
def ObjM.look(I:ObjM h x dx C mA):∃od,PySem.W.InstAt h x (PySem.W.instObj C dx) C (some od)/\∀name,PySem.W.lookIn name od=some (mA name):=
 let ⟨od,ho,hl⟩:=S7 I.ns
 ⟨od,⟨I.obj,rfl,rfl,ho⟩,hl⟩
section
variable{prog:Program}{w:World}{A:Around}{E:VP}{s:Shared}{K:FG}{x dx C f:Addr}{mA:Str->Option Value}{name:Str}{v:Value}
def S8(X:K.In s.heap)(I:ObjM s.heap x dx C mA)(b:PySem.W.plainGet K C name=true)(c:PySem.W.hasDictIn K C=true)
  (d:PySem.W.findIn K (.ref C) name=some none) (e:mA name=some v) (a:PySem.W.handedIn v=true) (h:Q v {s with toks:=s.toks+1}):
  wpAny (model prog w) A (getAttr (.ref x) name expr) Q E s:=by
 obtain⟨od,J,f⟩:=I.look;exact PySem.W.get_value X J (PySem.W.plainGet_of b).1 (PySem.W.findObj_own c d rfl (by rw[f,e])) a h
def S9(X:K.In s.heap)(I:ObjM s.heap x dx C mA)(a:PySem.W.plainGet K C name=true)
  (b:PySem.W.findIn K (.ref C) name=some (some (.ref f))) (c:PySem.W.isFn K (.ref f)=true) (d:mA name=none) (h:Q (.ref f,[.ref x]) s):
  wpAny (model prog w) A (getMethod (.ref x) name pl) Q E s:=by
 obtain⟨od,J,e⟩:=I.look;exact PySem.W.method_fn X J (PySem.W.plainGet_of a).1 (PySem.W.plainGet_of a).2 b (Bb.mp c) (by show (PySem.W.lookIn name od).map (·.isSome)=some false;rw[e,d];rfl) h
def SA(X:K.In s.heap)(I:ObjM s.heap x dx C mA)
  (hs:PySem.W.findIn K (.ref C) "__setattr__" =some (some (.builtin "object.__setattr__"))) (hp:PySem.W.plainOver K C=true) (j:PySem.W.takerIn K C name=some none) (k:PySem.W.hasDictIn K C=true)
  (l:PySem.Within mA ns) (m:ns.length<=sizeLine)
  (h:∀h',ObjM h' x dx C (λ y=>if y=name then some v else mA y)->Heap.SameBut dx s.heap h'->Q () {s with heap:=h',toks:=s.toks+2}):
  wpAny (model prog w) A (setAttr (.ref x) name v) Q E s:=by
 obtain⟨od,J,t⟩:=I.look
 refine PySem.W.set_plain X J hs (PySem.W.osa_open (s:={s with toks:=s.toks+1}) (r:=none) X J hp j λ b=>?_)
 obtain⟨cd,n,e⟩:=PySem.W.any_some k;have o:s.heap.get? x=some ⟨.ref C,some dx,.plain,#[]⟩:=I.obj
 refine Aa (Ad (Aa (Aa (wpAny_loadPart o (Aa (PySem.W.Looks.here (s:={s with toks:=s.toks+1}) (PySem.W.looks_clsIn X n) ?_))))))
 rw[e]
 refine Ad (a:=some dx) (Aa (Ad (Aa ?_)))
 refine wpAny_nsSet1 (s:={s with toks:=s.toks+1}) I.ns λ h' c d=>?_
 obtain⟨u,p,q,f,g,i⟩:=c.count (PySem.Within.cons name v l)
 refine Aa (wpAny_lookBehind f (by rw[g];exact pastItsLine_dict (By i (by rw[Ax];lia))) ?_)
 exact Ad (h _ ⟨(d.2 _ (Bm I.ne)).trans I.obj,c,I.ne⟩ d)
def Nb(X:K.In s.heap)(a:PySem.W.makesIn K C=true)
  (hi:PySem.W.findIn K (.ref C) "__init__" =some (some (.ref f))) (b:PySem.W.typeIn K (.ref f)=some (.type "function"))
  (h:codeAny (model prog w) (A.under (.builtin "type.__call__" ⟨.ref C::vs,kw⟩)) (.call (.ref f) ⟨.ref (s.heap.objs.size+1)::vs,kw⟩) (PySem.W.InitBack (s.heap.objs.size+1) R)
   {s with heap:=(s.heap.push PySem.W.emptyDict).push (PySem.W.instObj C s.heap.objs.size)}):
  codeAny (model prog w) A (.call (.ref C) ⟨vs,kw⟩) R s:=by
 obtain⟨c,g,d,t,os⟩:=s;exact PySem.W.make_core (PySem.W.makes_of X a) (D7 X hi) (λ self=>PySem.W.bind_fn X self b) (.inl rfl) h
end
noncomputable def putF(f:Str)(v:V):List (Str×V)->List (Str×V)
 | []=>[(f,v)]
 | (g,x)::r=>if g=f then (g,v)::r else (g,x)::putF f v r
theorem Nc(f g:Str)(v:V):∀fs:List (Str×V),(putF f v fs).lookup g=if g=f then some v else fs.lookup g
 | []=>by
  show List.lookup g [(f,v)]=_
  by_cases h:g=f
  .have a:(g==f)=true:=Bb.mpr h
   simp only[List.lookup,a,Ab h]
  .have a:(g==f)=false:=D5.mpr h
   simp only[List.lookup,a,Ac h]
 | (k,x)::r=>by
  have b:=Nc f g v r;rw[show putF f v ((k,x)::r)=(if k=f then (k,v)::r else (k,x)::putF f v r) from rfl]
  by_cases hk:k=f
  .rw[Ab hk]
   by_cases h:g=k
   .have a:(g==k)=true:=Bb.mpr h
    simp only[List.lookup,a,Ab (h.trans hk)]
   .have a:(g==k)=false:=D5.mpr h
    simp only[List.lookup,a,Ac (λ e:g=f=>h (e.trans hk.symm))]
  .rw[Ac hk]
   by_cases h:g=k
   .have a:(g==k)=true:=Bb.mpr h
    simp only[List.lookup,a,Ac (λ e:g=f=>hk (h.symm.trans e))]
   .have a:(g==k)=false:=D5.mpr h
    simp only[List.lookup,a];exact b
theorem JI(f:Str)(v:V):∀fs:List (Str×V),f∈(putF f v fs).map (·.1)/\∀g,g∈fs.map (·.1)->g∈(putF f v fs).map (·.1)
 | []=>⟨by simp[putF],λ g h=>by simp at h⟩
 | (k,x)::r=>by
  obtain⟨a,b⟩:=JI f v r;rw[show putF f v ((k,x)::r)=(if k=f then (k,v)::r else (k,x)::putF f v r) from rfl]
  by_cases hk:k=f
  .rw[Ab hk]
   subst hk;exact⟨by simp,λ g h=>by simpa using h⟩
  .rw[Ac hk]
   refine⟨?_,λ g h=>?_⟩
   .rw[Ah]
    exact Ap _ a
   .rw[Ah]at h ⊢
    rcases Af.mp h with e|e
    .exact Af.mpr (.inl e)
    .exact Ap _ (b g e)
theorem Nd(f:Str)(v:V):∀fs:List (Str×V),(putF f v fs).length<=fs.length+1
 | []=>by simp[putF]
 | (k,x)::r=>by
  have a:=Nd f v r;rw[show putF f v ((k,x)::r)=(if k=f then (k,v)::r else (k,x)::putF f v r) from rfl]
  by_cases hk:k=f
  .rw[Ab hk,Ax,Ax];lia
  .rw[Ac hk,Ax,Ax];lia
def RelO.some_of(r:RelO (some v) o):∃u,o=some u/\RelV v u:=by
 cases o with
 |none=>exact (show False from r).elim
 |some u=>exact⟨u,rfl,r⟩
def RelO.none_of(r:RelO none o):o=none:=by
 cases o with
 |none=>rfl
 |some u=>exact (show False from r).elim
def SB(r:RelV v u):PySem.W.handedIn u=true:=by
 cases v with
 |non=>cases (show u=Value.none from r);rfl
 |bl b=>cases (show u=Value.bool b from r);rfl
 |int i=>obtain⟨t,e⟩:=(show ∃t,u=Value.int i t from r);cases e;rfl
 |str x=>obtain⟨t,e⟩:=(show ∃t,u=Value.str x t from r);cases e;rfl
 |ref a=>cases (show u=Value.ref a from r);rfl
 |ty n=>cases (show u=Value.type n from r);rfl
section
variable{P:Program}{w:World}{H H':Hp}{h h':Heap}{a C dx:Addr}{fs fs':List (Str×V)}
def JJ(hok:HOk P w H h)(e:H a=some (.ins C dx fs)):∃mA,ObjM h a dx C mA/\(∀f,RelO (fs.lookup f) (mA f))/\PySem.Within mA (fs.map (·.1))/\fs.length<=1000/\H dx=some (.own a):=by
 obtain⟨d,z,ne,b,mA,n,r,q⟩:=(show ObjOk P w H h a (.ins C dx fs) from hok a _ e)
 exact⟨mA,⟨b,n,ne⟩,r,q,z,d⟩
end
structure Cls(K:FG)(C:Addr):Prop where
 pg:PySem.W.plainGet K C Str.empty=true
 hd:PySem.W.hasDictIn K C=true
 po:PySem.W.plainOver K C=true
 sa:PySem.W.findIn K (.ref C) "__setattr__" =some (some (.builtin "object.__setattr__"))
def Cls.get{K:FG}{C:Addr}(c:Cls K C)(f:Str):PySem.W.plainGet K C f=true:=c.pg
def NoAttr(K:FG)(C:Addr)(f:Str):Prop:=PySem.W.findIn K (.ref C) f=some none
def NoAttr.taker{K:FG}{C:Addr}{f:Str}(n:NoAttr K C f):PySem.W.takerIn K C f=some none:=by
 unfold PySem.W.takerIn;rw[show PySem.W.findIn K (.ref C) f=some none from n]
 rfl
structure Meth(K:FG)(C:Addr)(m:Str)(f:Addr):Prop where
 at_:PySem.W.findIn K (.ref C) m=some (some (.ref f))
 fn:PySem.W.isFn K (.ref f)=true
 kp:PySem.W.keepIn K (.ref f)=true
section
variable{X:Cx}{pins:AL}{σ:St}{H:Hp}{s:Shared}{a C dx:Addr}{fs:List (Str×V)}{f:Str}{v:V}{A:Around}{E:VP}
def SC(I:Inv X pins σ H s)(e:H a=some (.ins C dx fs))(c:Cls X.K C)(n:NoAttr X.K C f)(l:fs.lookup f=some v)
  (h:∀u s',Inv X pins σ H s'->RelV v u->Q u s'):wpAny (model X.prog X.w) A (getAttr (.ref a) f b) Q E s:=by
 obtain⟨mA,O,r,_,_,_⟩:=JJ I.hok e;obtain⟨u,g,d⟩:=RelO.some_of (v:=v) (o:=mA f) (by rw[<-l];exact r f)
 exact S8 I.kIn O (c.get f) c.hd n g (SB d) (h u _ (I.tok _) d)
def Nf(I:Inv X pins σ H s)(e:H a=some (.ins C dx fs))(c:Cls X.K C)(k:Meth X.K C m g)(l:fs.lookup m=none)
  (h:Q (.ref g,[.ref a]) s):wpAny (model X.prog X.w) A (getMethod (.ref a) m pl) Q E s:=by
 obtain⟨mA,O,r,_,_,_⟩:=JJ I.hok e;have b:mA m=none:=RelO.none_of (by rw[<-l];exact r m)
 exact S9 I.kIn O (c.get m) k.at_ k.fn b h
def SH(I:Inv X pins σ H s)(e:H a=some (.ins C dx fs))(c:Cls X.K C)(n:NoAttr X.K C f)(m:fs.length<1000)(j:RelV y u)
  (h:∀s',Inv X pins σ (zk H a (.ins C dx (putF f y fs))) s'->Q () s'):wpAny (model X.prog X.w) A (setAttr (.ref a) f u) Q E s:=by
 obtain⟨mA,O,r,d,_,i⟩:=JJ I.hok e;have hz:(fs.map (·.1)).length<=sizeLine:=by rw[Ae,Ds];lia
 refine SA I.kIn O c.sa c.po n.taker c.hd d hz λ h' O' sb=>h _ ?_
 have hd:∃o,h'.get? dx=some o:=let ⟨o,_,_,e',_⟩:=O'.ns;⟨o,e'⟩
 refine I.write (x:=a) (e:=dx) (by rw[e];exact True.intro) (.inr i) (λ b q k z=>(sb.2 b k).trans z) hd ?_
 refine⟨by rw[zK O.ne];exact i,?_,O.ne,O'.obj,_,O'.ns,λ g=>?_,λ g l=>?_⟩
 .have:=Nd f y fs;lia
 .show RelO ((putF f y fs).lookup g) (if g=f then some u else mA g)
  rw[Nc]
  by_cases q:g=f
  .rw[Ab q,Ab q];exact j
  .rw[Ac q,Ac q];exact r g
 .by_cases q:g=f
  .rw[q];exact (JI f y fs).1
  .refine (JI f y fs).2 g (d g λ z=>l ?_)
   show (if g=f then some u else mA g)=none
   rw[Ac q];exact z
def Inv.made(I:Inv X pins σ H s):Inv X pins σ (zk (zk H s.heap.objs.size (.own (s.heap.objs.size+1))) (s.heap.objs.size+1) (.ins C s.heap.objs.size []))
  {s with heap:=(s.heap.push PySem.W.emptyDict).push (PySem.W.instObj C s.heap.objs.size)}:=by
 have e1:(s.heap.push PySem.W.emptyDict).get? s.heap.objs.size=some PySem.W.emptyDict:=Bf s.heap rfl;have e2:((s.heap.push PySem.W.emptyDict).push (PySem.W.instObj C s.heap.objs.size)).get? (s.heap.objs.size+1)=some (PySem.W.instObj C s.heap.objs.size):=by
  have:=Bf (s.heap.push PySem.W.emptyDict) (o:=PySem.W.instObj C s.heap.objs.size) rfl
  rwa [Ci]at this
 have c:(s.heap.push PySem.W.emptyDict).Ns s.heap.objs.size (λ _=>none):=⟨PySem.W.emptyDict,#[],_,e1,rfl,(λ e d=>absurd d (by simp)),λ _=>rfl⟩
 have f:=I.laid (a:=s.heap.objs.size) (o:= .own (s.heap.objs.size+1)) (h':=s.heap.push PySem.W.emptyDict) (t':=s.toks) (λ b u q=>As _ q) (Ag _) ⟨_,e1⟩
 refine f.laid (a:=s.heap.objs.size+1) (o:= .ins C s.heap.objs.size []) (t':=s.toks) (λ b u q=>As _ q) (Nat.le_of_eq (Ci _ _)) ?_
 have ne:s.heap.objs.size≠s.heap.objs.size+1:=Aw (C4 _)
 refine⟨by rw[zK ne,yt],B5 _,ne,e2,λ _=>none,(Heap.Ns1.of_empty c).at λ o q=>As _ q,λ _=>True.intro,λ y g=>absurd rfl g⟩
def Ng(b:attributeBase e f env (eval e env)=eval e env)
  (h:wpAny (model prog w) A (eval e env) (λ o a=>wpAny (model prog w) A (getAttr o f true) Q E a) E s):wpAny (model prog w) A (eval (.Attribute e f pos) env) Q E s:=
 Attribute_any_ h (by rw[arm_eval_Attribute,b])
end
def tFld(K:FG)(ta:TE)(f:Str):TE:=λ σ H Q=>ta σ H λ x H1=> ∃a C dx fs v,x=.ref a/\H1 a=some (.ins C dx fs)/\Cls K C/\NoAttr K C f/\fs.lookup f=some v/\Q v H1
def sFld(K:FG)(ta tv:TE)(f:Str):TS:=λ D σ H=>tv σ H λ y H1=>ta σ H1 λ x H2=> ∃a C dx fs,x=.ref a/\H2 a=some (.ins C dx fs)/\Cls K C/\NoAttr K C f/\fs.length<1000/\
 D.nx σ (zk H2 a (.ins C dx (putF f y fs)))
section
variable{X:Cx}{o e value:Expr}{f:Str}{pos pos' tpos:Pos}{ta tv:TE}
def SJ(b:PE X e ta)(d:attributeBase e f X.env (eval e X.env)=eval e X.env):PE X (.Attribute e f pos) (tFld X.K ta f):=by
 intro pins s σ H Q I h
 refine Ng d (zt (b pins s σ H _ I h) λ u s1 x H1 g i j=>?_)
 obtain⟨a,C,dx,fs,v,ex,k,c,n,l,q⟩:=j;subst ex;obtain rfl:u=Value.ref a:=i;exact SC g k c n l λ p s2 m o=>⟨v,H1,m,o,q⟩
def SK(b:PE X o ta)(d:PE X value tv)(hs:swapsWith value (some (.Attribute o f pos')) pos.line X.env=pure false):PS X (.Assign [.Attribute o f pos'] value pos) (sFld X.K ta tv f):=by
 intro pins s σ H D I h
 refine plainObj_wpAny_Assign_Attribute (zt (d pins s σ H _ I h) λ u s1 y H1 e g q=>thn (b pins s1 σ H1 _ e q) λ i s2 ⟨x,H2,j,k,a,C,dx,fs,ex,m,c,n,l,q2⟩=>?_) hs
 subst ex;obtain rfl:i=Value.ref a:=k;exact SH j m c n l g λ p I3=>⟨σ,_,I3,q2⟩
end
section
variable{X:Cx}{pins:AL}{σ:St}{H:Hp}{s:Shared}{A:Around}{E:VP}{Q:VP}{c:Value}{b:Bool}
inductive TyOf(K:FG)(H:Hp):V->Value->Prop where
 |non:TyOf K H .non (.type "NoneType")
 |bl (x:Bool):TyOf K H (.bl x) (.type "bool")
 |int (i:Int):TyOf K H (.int i) (.type "int")
 |str (x:Str):TyOf K H (.str x) (.type "str")
 |lst {a:Addr} {xs:List V} (e:H a=some (.lst xs)):TyOf K H (.ref a) (.type "list")
 |tup {a:Addr} {xs:List V} (e:H a=some (.tup xs)):TyOf K H (.ref a) (.type "tuple")
def SL(I:Inv X pins σ H s)(d:RelV x u)(ty:TyOf X.K H x t)(e:PySem.W.kitOne X.K t c=some b)(h:∀tk,Q (.bool b) {s with toks:=tk}):
  wpAny (model X.prog X.w) A (call (.builtin "isinstance") [u,c]) Q E s:=by
 cases ty with
 |non=>cases (show u=Value.none from d);exact D8 PySem.W.kitx_none I.kIn True.intro e (λ z=>nomatch z) h
 |bl y=>cases (show u=Value.bool y from d);exact D8 PySem.W.kitx_bool I.kIn True.intro e (λ z=>nomatch z) h
 |int i=>obtain⟨t,q⟩:=(show ∃t,u=Value.int i t from d);cases q;exact D8 PySem.W.kitx_int I.kIn True.intro e (λ z=>nomatch z) h
 |str y=>obtain⟨t,q⟩:=(show ∃t,u=Value.str y t from d);cases q;exact D8 PySem.W.kitx_str I.kIn True.intro e (λ z=>nomatch z) h
 | @lst a xs ea=>
  cases (show u=Value.ref a from d)
  obtain⟨_,_,n,_,h1⟩:=(show ObjOk X.prog X.w H s.heap a (.lst xs) from I.hok a _ ea)
  exact D8 PySem.W.kitx_list I.kIn ⟨_,h1,rfl⟩ e (λ z=>nomatch z) h
 | @tup a xs ea=>
  cases (show u=Value.ref a from d)
  obtain⟨_,_,_,p⟩:=(show ObjOk X.prog X.w H s.heap a (.tup xs) from I.hok a _ ea)
  obtain⟨o,h1,h2,_⟩:=p;exact D8 PySem.W.kitx_tuple I.kIn ⟨o,h1,h2⟩ e (λ z=>nomatch z) h
end
structure Room(k:Nat)(A:Around):Prop where
 hd:A.handled=none
 dp:A.depth+3*k+5<recursionLimit
 un:A.units+16*k+200<cLine
def Room.mono(r:Room k A)(h:j<=k):Room j A:=⟨r.hd,by have:=r.dp;lia,by have:=r.un;lia⟩
theorem Room.deeper(r:Room (k+1) A)(env:Env):Room k (A.deeper env):=
 ⟨r.hd,by have:=r.dp;show A.depth+1+3*k+5<_;lia,by have:=r.un;show A.units+3+16*k+200<_;lia⟩
def SM{A:Around}{C:Addr}{us:List Value}{kw:List (Str×Value)}:(A.under (.builtin "type.__call__" ⟨.ref C::us,kw⟩)).depth=A.depth+1:=by
 first|rfl|simp[Around.under,Code.weight,Code.isCreation,Code.isGuard,Code.isCaller,Code.frames,Code.isFrame,guardIds]
def SN{A:Around}{C:Addr}{us:List Value}{kw:List (Str×Value)}:(A.under (.builtin "type.__call__" ⟨.ref C::us,kw⟩)).units=A.units+1:=by
 first|rfl|simp[Around.under,Code.cUnits,Code.frames,Code.isFrame]
def Room.make(r:Room (k+1) A)(C:Addr)(us:List Value)(kw:List (Str×Value)):Room k (A.under (.builtin "type.__call__" ⟨.ref C::us,kw⟩)):=
 ⟨r.hd,by have:=r.dp;rw[SM];lia,by have:=r.un;rw[SN];lia⟩
theorem Room.depth(r:Room k A):A.depth<recursionLimit:=by have:=r.dp;lia
theorem Room.units(r:Room k A):A.units+64<cLine:=by have:=r.un;lia
def tNil:TA:=λ _ H Q=>Q [] H
def JK(ta:TE)(tr:TA):TA:=λ σ H Q=>ta σ H λ x H1=>tr σ H1 λ xs H2=>Q (x::xs) H2
section
variable{X:Cx}{e:Expr}{es:List Expr}{te:TE}{t:TA}{pos:Pos}
def Nh:PA X [] tNil:=λ _ _ _ _ H Q I h=>Calls.spliced_nil ⟨[],H,I,.nil,h⟩
def JL(a:PE X e te)(b:PA X es t)(hs:SE X e es:=by rfl):PA X (e::es) (JK te t):=by
 intro pos pins s σ H Q I h;rw[hs];show wpAny _ _ (spliced ((false,eval e X.env)::backTo pos (starEach es X.env))) _ _ s
 refine Calls.spliced_cons (zt (a pins s σ H _ I h) λ u s1 x H1 c d q1=>?_)
 exact zt (b pos pins s1 σ H1 _ c q1) λ us s2 xs H2 f g q2=>⟨x::xs,H2,f,.cons d g,q2⟩
def tTup(t:TA):TE:=λ σ H Q=>t σ H λ xs H1=>xs.length<=sizeLine/\∀p,H1 p=none->Q (.ref p) (zk H1 p (.tup xs))
def tLst(t:TA):TE:=λ σ H Q=>t σ H λ xs H1=>xs.length<=sizeLine/\∀p,H1 p=none->Q (.ref p) (zk H1 p (.lst xs))
def SO {x1} (h:PA X es t):PE X (.Tuple es x1 pos) (tTup t):=by
 intro pins s σ H Q I c
 refine wpAny_Tuple_spliced (thn (h pos pins s σ H _ I c) λ us s1 ⟨xs,H1,a,r,z,q⟩=>⟨by rw[<-r.length];exact z,?_⟩)
 have d:H1 s1.heap.objs.size=none:=a.hok.fresh (Ag _)
 refine⟨.ref s1.heap.objs.size,zk H1 s1.heap.objs.size (.tup xs),a.laid (t':=s1.toks) (λ b u e=>As _ e) (Ag _) ?_,rfl,q _ d⟩
 exact⟨z,us,r,⟨_,Bf _ rfl,rfl,_,rfl⟩⟩
def SQ(h:PA X es t):PE X (.List es pos) (tLst t):=by
 intro pins s σ H Q I c
 refine wpAny_List_spliced (thn (h pos pins s σ H _ I c) λ us s1 ⟨xs,H1,a,r,z,q⟩=>⟨by rw[<-r.length];exact z,?_⟩)
 have d:H1 s1.heap.objs.size=none:=a.hok.fresh (Ag _)
 refine⟨.ref s1.heap.objs.size,zk H1 s1.heap.objs.size (.lst xs),a.laid (t':=s1.toks) (λ b u e=>As _ e) (Ag _) ?_,rfl,q _ d⟩
 exact⟨z,us,0,r,Bf _ rfl⟩
end
abbrev Sp:=List V->Hp->VK->XK->Prop
abbrev jS:=List Env->Hp->Shared->XK->VP
structure Env0(P:Program)(w:World)(K:FG)(mg:Str->Option Value)(base:Heap)(A:Around)(outer:List Env)(s:Shared)(H:Hp):Prop where
 frames:A.frames=some outer
 mod:Mod K mg base
 bs:∀b o,base.get? b=some o->s.heap.get? b=some o/\H b=none
 bsz:base.objs.size<=s.heap.objs.size
 funs:s.heap.FunFrames base outer
 frf:∀b∈yx outer,H b=none
 hok:HOk P w H s.heap
 bare:AllBare s.gens
def CE(outer:List Env)(P:Program)(w:World)(H:Hp)(s:Shared)(Q:VK)(u:Value)(s':Shared):Prop:=
 ∃v H',s'.os=s.os/\AllBare s'.gens/\Un (yx outer) [] H H' s.heap s'.heap/\HOk P w H' s'.heap/\RelV v u/\Q v H'
def CR(CX:jS)(outer:List Env)(P:Program)(w:World)(H:Hp)(s:Shared)(Q:VK)(E:XK)(r:Result)(s':Shared):Prop:=
 match r with
 |.ok (.ret u)=>CE outer P w H s Q u s'
 |.ok _=>False
 |.error e=>CX outer H s E e s'
structure FnOk(P:Program)(w:World)(K:FG)(mg:Str->Option Value)(base:Heap)(CX:jS)(k:Nat)(f:Addr)(fd:FuncData)(ps:List Str)(sp:Sp):Prop where
 len:∀vs H Q E,sp vs H Q E->vs.length=ps.length
 run:∀(A:Around)(outer:List Env)(s:Shared)(H:Hp)(args:Args)(us:List Value)(vs:List V)(Q:VK)(E:XK),Room k A->Env0 P w K mg base A outer s H->BindsTo s fd args (ps.zip us)->Vals vs us->sp vs H Q E->
  codeAny (model P w) A (.call (.ref f) args) (CR CX outer P w H s Q E) s
def FnOk.imp{P:Program}{w:World}{K:FG}{mg:Str->Option Value}{base:Heap}{CX:jS}{k:Nat}{f:Addr}{fd:FuncData}{ps:List Str}{sp sp':Sp}(F:FnOk P w K mg base CX k f fd ps sp)
  (h:∀vs H Q E,sp' vs H Q E->sp vs H Q E):FnOk P w K mg base CX k f fd ps sp':=
 ⟨λ vs H Q E q=>F.len vs H Q E (h _ _ _ _ q),λ A outer s H args us vs Q E a b c d hs=>F.run A outer s H args us vs Q E a b c d (h _ _ _ _ hs)⟩
def Env0.make{P:Program}{w:World}{K:FG}{mg:Str->Option Value}{base:Heap}{A:Around}{outer:List Env}{s:Shared}{H:Hp}(e:Env0 P w K mg base A outer s H)(C:Addr)(us:List Value)(kw:List (Str×Value)):
 Env0 P w K mg base (A.under (.builtin "type.__call__" ⟨.ref C::us,kw⟩)) outer s H:=⟨by first|exact e.frames|(simpa[Around.under,Code.envs,Code.isFrame,pushEnvs] using e.frames),e.mod,e.bs,e.bsz,e.funs,e.frf,e.hok,e.bare⟩
section
variable{X:Cx}{pins:AL}{σ:St}{H:Hp}{s s':Shared}
def Inv.env0(I:Inv X pins σ H s):Env0 X.prog X.w X.K X.mg X.base X.A X.stack s H:=
 ⟨I.ok.frames,I.ok.mod,I.bs,By I.ok.bsz I.sz,I.stack,I.stkFree,I.hok,I.bare⟩
def Inv.after(I:Inv X pins σ H s)(h:CE X.stack X.prog X.w H s Q u s'):EP X pins σ Q u s':=by
 obtain⟨v,H',os,bare,un,hok,r,q⟩:=h;obtain⟨c,g,d,t,a⟩:=s';obtain rfl:a=s.os:=os;exact⟨v,H',I.call (h':=c) (g':=g) (d':=d) (t':=t) (ch:=[]) un hok bare (λ b z=>absurd z (by simp)),r,q⟩
end
def Ni(sp:Sp)(dvs:List V)(E:XK)(t:TA):TE:=λ σ H Q=>t σ H λ vs H1=>sp (vs++dvs) H1 Q E
def JM(C:Addr)(m:Str)(sp:Sp)(dvs:List V)(E:XK)(ta:TE)(t:TA):TE:=λ σ H Q=>ta σ H λ x H1=> ∃a dx fs,x=.ref a/\H1 a=some (.ins C dx fs)/\fs.lookup m=none/\
 t σ H1 λ vs H2=>sp (x::(vs++dvs)) H2 Q E
def FH(C:Addr)(sp:Sp)(dvs:List V)(E:XK)(t:TA):TE:=λ σ H Q=>t σ H λ vs H1=> ∀x dx,H1 x=none->H1 dx=none->dx≠x->
 sp (.ref x::(vs++dvs)) (zk (zk H1 dx (.own x)) x (.ins C dx [])) (λ v H2=>v=.non/\Q (.ref x) H2) E
def Binds(K:FG)(fd:FuncData)(ps:List Str)(ds:List Value):Prop:=
 ∀(s:Shared)(us:List Value),K.In s.heap->(us++ds).length=ps.length->BindsTo s fd ⟨us,[]⟩ (ps.zip (us++ds))
def Binds.all{K:FG}{fd:FuncData}{ps:List Str}(h:∀us:List Value,us.length=ps.length->bindArgs fd ⟨us,[]⟩=pure (ps.zip us)):Binds K fd ps []:=λ s us _ a=>by
 rw[Bz]at a ⊢;exact .of_eq (h us a)
def jF(CX:jS)(X:Cx)(E:XK):Prop:=∀(pins:AL)(σ:St)(H:Hp)(s:Shared)(e:Value)(s':Shared),Inv X pins σ H s->CX X.stack H s E e s'->X.xe e s'
section
variable{X:Cx}{CX:jS}{k:Nat}{f C:Addr}{fd:FuncData}{ps:List Str}{sp:Sp}{dvs:List V}{ds:List Value}{E:XK}{x m:Str}{p pos apos:Pos}{e o:Expr}{es:List Expr}{ta:TE}{t:TA}
def JN(F:FnOk X.prog X.w X.K X.mg X.base CX k f fd ps sp)(c:Room k X.A)(d:Binds X.K fd ps ds)(hd:Vals dvs ds)(g:jF CX X E)
  (I:Inv X pins σ H s) (r:Vals vs us) (h:sp (vs++dvs) H Q E):wpAny (model X.prog X.w) X.A (call (.ref f) us) (EP X pins σ Q) X.xe s:=by
 have b:Vals (vs++dvs) (us++ds):=r.append hd;have i:(us++ds).length=ps.length:=by rw[<-b.length];exact F.len _ _ _ _ h
 refine Dt (Dd (F.run X.A X.stack s H ⟨us,[]⟩ (us++ds) (vs++dvs) Q E c I.env0 (d s us I.kIn i) b h) λ r s' a=>?_)
 cases r with
 |error e=>exact g pins σ H s e s' I a
 |ok fl=>
  cases fl with
  |ret u=>exact I.after a
  |next|brk|cont=>exact False.elim a
def SR(F:FnOk X.prog X.w X.K X.mg X.base CX k f fd ps sp)(d:Room k X.A)(g:Gl X x)(i:X.mg x=some (.ref f))(j:PySem.W.keepIn X.K (.ref f)=true)(l:Binds X.K fd ps ds)(hd:Vals dvs ds)(m:jF CX X E)
  (n:PA X (e::es) t) (a:(x==("__debug__" :Str))=false:=by decide) (o:SE X e es:=by rfl) (b:BA X pos es:=by rfl):
  PE X (.Call (.Name x p) (e::es) [] pos) (Ni sp dvs E t):=by
 intro pins s σ H Q I h
 refine De (AX I g i ?_ a)
 refine Fc (h₀:=X.base) I.ok.mod.kin j (zt (n pos pins s σ H _ I h) λ us s1 vs H1 c r q=>⟨c.kIn,?_⟩) o b
 exact JN F d l hd m c r q
def SS(n:PE X o ta)(c:Cls X.K C)(g:Meth X.K C m f)(F:FnOk X.prog X.w X.K X.mg X.base CX k f fd ps sp)(p:Room k X.A)(v:Binds X.K fd ps ds)(hd:Vals dvs ds)(y:jF CX X E)(z:PA X (e::es) t)
  (b:SE X e es:=by rfl) (d:BA X pos es:=by rfl)
  (B:eval (.Call (.Attribute o m apos) (e::es) [] pos) X.env=(do
   let ov <-eval o X.env
   standAt apos.atName
   let (f,first) <-holding [ov] (getMethod ov m pl)
   callWith pos f first (backTo pos (starEach (e::es) X.env)) (backToKw pos (keywordEach [] X.env))):=by rfl):
  PE X (.Call (.Attribute o m apos) (e::es) [] pos) (JM C m sp dvs E ta t):=by
 intro pins s σ H Q I h
 refine G7 (pl:=pl) (thn (n pins s σ H _ I h) λ u s1 ⟨x,H1,i,D,a,dx,fs,ex,G,l,q⟩=>?_) B
 subst ex;obtain rfl:u=Value.ref a:=D
 refine Nf i G c g l ?_
 refine Fc (first:=[.ref a]) (h₀:=X.base) I.ok.mod.kin g.kp (zt (z pos pins s1 σ H1 _ i q) λ us s2 vs H2 j r q2=>⟨j.kIn,?_⟩) b d
 exact JN (us:= .ref a::us) (vs:= .ref a::vs) F p v hd y j (.cons rfl r) q2
def SU(e:PE X o ta)(c:Cls X.K C)(d:Meth X.K C m f)(F:FnOk X.prog X.w X.K X.mg X.base CX k f fd ps sp)(g:Room k X.A)(i:Binds X.K fd ps ds)(hd:Vals dvs ds)(j:jF CX X E)
  (n:eval (.Call (.Attribute o m apos) [] [] pos) X.env=(do
   let ov <-eval o X.env
   standAt apos.atName
   let (f,first) <-holding [ov] (getMethod ov m pl)
   callWith pos f first (backTo pos (starEach [] X.env)) (backToKw pos (keywordEach [] X.env))):=by rfl):
  PE X (.Call (.Attribute o m apos) [] [] pos) (JM C m sp dvs E ta tNil):=by
 intro pins s σ H Q I h
 refine G7 (pl:=pl) (thn (e pins s σ H _ I h) λ u s1 ⟨x,H1,b,p,a,dx,fs,ex,r,l,q⟩=>?_) n
 subst ex;obtain rfl:u=Value.ref a:=p
 refine Nf b r c d l ?_
 exact PySem.W.callWith_K0 (first:=[.ref a]) b.kIn d.kp (JN (us:=[.ref a]) (vs:=[.ref a]) F g i hd j b (.cons rfl .nil) q)
structure Mk(K:FG)(C f:Addr):Prop where
 makes:PySem.W.makesIn K C=true
 init:PySem.W.findIn K (.ref C) "__init__" =some (some (.ref f))
 fn:PySem.W.isFn K (.ref f)=true
 kp:PySem.W.keepIn K (.ref C)=true
def SV(M:Mk X.K C f)(F:FnOk X.prog X.w X.K X.mg X.base CX k f fd ps sp)(g:Room (k+1) X.A)(i:Binds X.K fd ps ds)(hd:Vals dvs ds)
  (j:jF CX X E) (I:Inv X pins σ H s) (r:Vals vs us)
  (h:∀x dx,H x=none->H dx=none->dx≠x->sp (.ref x::(vs++dvs)) (zk (zk H dx (.own x)) x (.ins C dx [])) (λ v H2=>v=.non/\Q (.ref x) H2) E):
  wpAny (model X.prog X.w) X.A (call (.ref C) us) (EP X pins σ Q) X.xe s:=by
 have c:=h (s.heap.objs.size+1) s.heap.objs.size (I.hok.fresh (C5 _)) (I.hok.fresh (Ag _)) (Aw (C4 _));have b:=Inv.made (C:=C) I;have d:Vals (V.ref (s.heap.objs.size+1)::(vs++dvs)) (Value.ref (s.heap.objs.size+1)::(us++ds)):= .cons rfl (r.append hd);have l:(Value.ref (s.heap.objs.size+1)::us++ds).length=ps.length:=by
  have e:=d.length;rw[F.len _ _ _ _ c]at e;exact e.symm
 refine Dt (Nb (f:=f) I.kIn M.makes M.init (Bb.mp M.fn) (Dd (F.run _ X.stack _ _ ⟨Value.ref (s.heap.objs.size+1)::us,[]⟩ (Value.ref (s.heap.objs.size+1)::(us++ds)) _ _ E (g.make C us [])
  (b.env0.make C us []) (i _ (Value.ref (s.heap.objs.size+1)::us) b.kIn l) d c) λ r s' a=>?_))
 cases r with
 |error e=>exact j pins σ _ _ e s' b a
 |ok fl=>
  cases fl with
  |ret u=>
   obtain⟨v,H',I3,m,ev,q3⟩:=b.after a;subst ev;exact⟨m,⟨V.ref (s.heap.objs.size+1),H',I3,rfl,q3⟩⟩
  |next|brk|cont=>exact False.elim a
def SW(M:Mk X.K C f)(F:FnOk X.prog X.w X.K X.mg X.base CX k f fd ps sp)(d:Room (k+1) X.A)(g:Gl X x)(i:X.mg x=some (.ref C))(j:Binds X.K fd ps ds)(hd:Vals dvs ds)(l:jF CX X E)
  (m:PA X (e::es) t) (a:(x==("__debug__" :Str))=false:=by decide) (n:SE X e es:=by rfl) (b:BA X pos es:=by rfl):
  PE X (.Call (.Name x p) (e::es) [] pos) (FH C sp dvs E t):=by
 intro pins s σ H Q I h
 refine De (AX I g i ?_ a)
 refine Fc (h₀:=X.base) I.ok.mod.kin M.kp (zt (m pos pins s σ H _ I h) λ us s1 vs H1 c r q=>⟨c.kIn,?_⟩) n b
 exact SV M F d j hd l c r q
end
structure FnScope(N P:List Str)(sc:Scope):Prop where
 kind:sc.kind=.function
 co:sc.isCoroutine=false
 gen:sc.isGenerator=false
 nd:N.Nodup
 pre:N.take P.length=P
 par:∀x∈P,sc.names.lookup x=some .local\/sc.names.lookup x=some .cell
 nofree:∀y∈sc.names,y.2≠ .free
theorem Nj{kindOf:Str->Option NameKind}{x:Str}:∀{binds:List (Str×Value)}{m:Str->Option Value},(∀v,(x,v)∉binds)->bindL kindOf binds m x=m x
 | [],_,_=>rfl
 | (n,v)::r,m,h=>by
  unfold bindL;rw[Nj λ w a=>h w (Ap _ a)]
  split
  .have:x≠n:=by rintro rfl;exact h v Aj
   simp[this]
  .rfl
theorem Nk{kindOf:Str->Option NameKind}{x:Str}:∀{binds:List (Str×Value)}{m:Str->Option Value},(∀v,(x,v)∉binds)->bindC kindOf binds m x=m x
 | [],_,_=>rfl
 | (n,v)::r,m,h=>by
  unfold bindC;rw[Nk λ w a=>h w (Ap _ a)]
  split
  .rfl
  .have:x≠n:=by rintro rfl;exact h v Aj
   simp[this]
theorem Nl{kindOf:Str->Option NameKind}{x:Str}{v:Value}:∀{P:List Str}{vs:List Value}{i:Nat}{m:Str->Option Value},P.Nodup->P[i]? =some x->vs[i]? =some v->kindOf x=some .local->
  bindL kindOf (P.zip vs) m x=some v
 |[],_,_,_,_,h,_,_|_::_,[],_,_,_,_,h,_=>by simp at h
 |p::P,w::vs,0,m,nd,h1,h2,hk=>by
  simp at h1 h2;subst h1;subst h2;show bindL kindOf ((p,w)::P.zip vs) m p=_;unfold bindL;rw[Nj λ v a=>(Bp.mp nd).1 (List.of_mem_zip a).1,Ab hk]
  simp
 |p::P,w::vs,i+1,m,nd,h1,h2,hk=>by
  show bindL kindOf ((p,w)::P.zip vs) m x=_;unfold bindL;exact Nl (i:=i) (Bp.mp nd).2 (by simpa using h1) (by simpa using h2) hk
theorem Nm{kindOf:Str->Option NameKind}{x:Str}{v:Value}:∀{P:List Str}{vs:List Value}{i:Nat}{m:Str->Option Value},P.Nodup->P[i]? =some x->vs[i]? =some v->kindOf x≠some .local->
  bindC kindOf (P.zip vs) m x=some v
 |[],_,_,_,_,h,_,_|_::_,[],_,_,_,_,h,_=>by simp at h
 |p::P,w::vs,0,m,nd,h1,h2,hk=>by
  simp at h1 h2;subst h1;subst h2;show bindC kindOf ((p,w)::P.zip vs) m p=_;unfold bindC;rw[Nk λ v a=>(Bp.mp nd).1 (List.of_mem_zip a).1,Ac hk]
  simp
 |p::P,w::vs,i+1,m,nd,h1,h2,hk=>by
  show bindC kindOf ((p,w)::P.zip vs) m x=_;unfold bindC;exact Nm (i:=i) (Bp.mp nd).2 (by simpa using h1) (by simpa using h2) hk
noncomputable def start(N:List Str)(vs:List V):St:=vs.map some++List.replicate (N.length-vs.length) none
noncomputable def yW(CX:jS)(P:Program)(w:World)(K:FG)(mg:Str->Option Value)(base:Heap)(N:List Str)(qual:Str)(scope:Scope)(f:Addr)(cd:Value)(A:Around)(outer:List Env)(s:Shared)(H:Hp)(E:XK):Cx where
 prog:=P
 w:=w
 K:=K
 mg:=mg
 base:=base
 A:=A.deeper (envOfC qual scope s.heap.objs.size f cd)
 N:=N
 s₀:=s
 H₀:=H
 env:=envOfC qual scope s.heap.objs.size f cd
 outer:=outer
 stack:=envOfC qual scope s.heap.objs.size f cd::outer
 ex:=[]
 calm:=true
 fn:=λ _=>true
 pn:=[]
 xe:=λ e s'=>wpAny (model P w) (A.deeper (envOfC qual scope s.heap.objs.size f cd)) (leaving (envOfC qual scope s.heap.objs.size f cd) e) (λ _ a=>CX outer H s E e a) (λ b a=>CX outer H s E b a) s'
def Nn{sc:Scope}{n:Nat}{x:Str}(h:sc.names.lookup x=some .cell):∃c,(cellsFrom n sc.names []).lookup x=some c:=by
 have q:=PySem.W.cellsFrom_some sc.names n [] (.inl h);exact Option.isSome_iff_exists.mp q
def SX{CX:jS}{P:Program}{w:World}{K:FG}{mg:Str->Option Value}{base:Heap}{N ps:List Str}{qual:Str}{scope:Scope}{f:Addr}{cd:Value}{A:Around}{outer:List Env}{s s1:Shared}{H:Hp}{E:XK}{us:List Value}{vs:List V}
  (S:FnScope N ps scope) (hd:A.handled=none) (d:Env0 P w K mg base A outer s H) (D:vs.length=ps.length) (r:Vals vs us)
  (x:InCallC s s.heap.objs.size (bindL (envOfC qual scope s.heap.objs.size f cd).kindOf (ps.zip us) λ _=>none) (cellsFrom (s.heap.objs.size+1) scope.names []) (bindC (envOfC qual scope s.heap.objs.size f cd).kindOf (ps.zip us) λ _=>none) s1):
  Inv (yW CX P w K mg base N qual scope f cd A outer s H E) [] (start N vs) H s1:=by
 have t:ps.length<=N.length:=by have:=congrArg List.length S.pre;rw[Ay]at this;lia
 obtain⟨h1,tk,rfl,m⟩:=x.done;have g:∀b:Addr,b∉(yW CX P w K mg base N qual scope f cd A outer s H E).ex:=λ b z=>absurd (show b∈([]:List Addr) from z) (by simp)
 refine⟨⟨d.mod,S.kind,rfl,rfl,Ag _,λ y z c h1 h2=>?_,λ y j=>?_,λ y c _ h=>?_,λ _=>hd,Around.frames_deeper d.frames,.inr ⟨rfl,rfl⟩,λ b z=>absurd z (g b),d.bs,d.bsz,λ b _ _=>g b,λ b z=>absurd z (g b),d.funs,d.frf⟩,
  rfl,d.bare,Un.kept m,⟨_,x.toInCall.ns,λ i y v h1 h2 F=>?_⟩,λ y c h=>⟨_,x.cell y c h⟩,d.hok.fresh (Ag _),λ y c h=>?_,λ p hp=>absurd (show p∈([]:AL) from hp) (by simp),d.hok.kept m,?_⟩
 .exact name_of_addr x.apart (C6 h1) (C6 h2)
 .have j:scope.names.lookup y=some .cell\/scope.names.lookup y=some .free:=j
  rcases j with j|j
  .exact Nn j
  .exact absurd rfl (S.nofree _ (C6 j))
 .exact Dp (x.above y c (C6 h))
 .have hi:i<vs.length:=by
   unfold start at h2
   by_cases hi:i<vs.length
   .exact hi
   .rw[Bo (by simpa using hi)]at h2
    rw[G8]at h2
    split at h2<;>cases h2
  have B:vs[i]? =some v:=by
   unfold start at h2;rw[Bh (by simpa using hi),Az]at h2
   cases e:vs[i]? with
   |none=>rw[e]at h2;cases h2
   |some a=>rw[e]at h2;cases h2;rfl
  obtain⟨u,o,C⟩:=r.get B;have hp:ps[i]? =some y:=by
   rw[<-S.pre,Co (by lia)];exact h1
  have l:ps.Nodup:=by rw[<-S.pre];exact S.nd.sublist (List.take_sublist _ _)
  refine⟨u,C,?_⟩
  rcases S.par y (Al hp) with k|k
  .exact .inl ⟨k,Nl l hp o k⟩
  .obtain⟨c,e⟩:=Nn (n:=s.heap.objs.size+1) k
   refine .inr ⟨.inl k,c,e,?_⟩
   have q:=x.cell y c e;rw[Nm l hp o (by show scope.names.lookup y≠_;rw[k];decide)]at q
   exact q
 .exact d.hok.fresh (Dp (x.above y c (C6 h)))
 .unfold start
  show _=N.length;rw[Ar,Ae,Du];lia
def SY{CX:jS}{P:Program}{w:World}{K:FG}{mg:Str->Option Value}{base:Heap}{k:Nat}{f:Addr}{name qual:Str}{params:Arguments}{body:List Stmt}{scope:Scope}{p kV doc pm cdv ct oc:Value}{an od:Option Addr}
  {osl:Array (Option Value)} {N ps:List Str} {sp:Sp} (B:K.lookup f=some ⟨oc,od,.func (PySem.W.fnOf name qual params body scope p kV doc pm an cdv ct),osl⟩) (i:PySem.W.codeIn K cdv qual=true) (S:FnScope N ps scope)
  (len:∀vs H Q E,sp vs H Q E->vs.length=ps.length)
  (a:∀(A:Around)(outer:List Env)(s:Shared)(H:Hp)(vs:List V)(Q:VK)(E:XK),Room k (A.deeper (envOfC qual scope s.heap.objs.size f cdv))->sp vs H Q E->
   ∃t,yM (yW CX P w K mg base N qual scope f cdv A outer s H E) body t/\t {nx:=λ _ H'=>Q .non H',rt:=Q} (start N vs) H):
  FnOk P w K mg base CX (k+1) f (PySem.W.fnOf name qual params body scope p kV doc pm an cdv ct) ps sp:=by
 refine⟨len,λ A outer s H args us vs Q E j d C r g=>?_⟩
 have D:=len _ _ _ _ g;have z:K.In s.heap:=d.mod.kin.keeps λ b o e=>(d.bs b o e).1
 have l:s.heap.NoLimit:=d.mod.nolimit.keeps λ b o e=>(d.bs b o e).1
 have c:∀y∈ps.zip us,scope.names.lookup y.1=some .local\/(scope.names.lookup y.1=some .cell/\((cellsFrom (s.heap.objs.size+1) scope.names []).lookup y.1).isSome=true):=λ ⟨n,v⟩ F=>by
  rcases S.par n (List.of_mem_zip F).1 with q|q
  .exact .inl q
  .exact .inr ⟨q,PySem.W.cellsFrom_some _ _ _ (.inl q)⟩
 refine codeAny_call_function j.depth (z _ _ B) rfl S.co S.gen rfl (PySem.W.codeRec_of z i) (C _ _ _ _ ?_)
 refine wpAny_newFunctionEnv_cells S.kind c λ env G s1 x=>?_
 subst G
 refine⟨l.keeps x.toInCall.keep,codeAny_func ?_⟩
 obtain⟨t,L,M⟩:=a A outer s H vs Q E (j.deeper _) g;have I:Inv (yW CX P w K mg base N qual scope f cdv A outer s H E) [] (start N vs) H s1:=SX S j.hd d D r x
 refine Bv (L [] s1 (start N vs) H _ I M) (λ fl s' hs=>?_) λ e s' hs=>hs
 have h:∀{σ':St}{H':Hp}{v:V}{u:Value},Inv (yW CX P w K mg base N qual scope f cdv A outer s H E) [] σ' H' s'->RelV v u->Q v H'->CE outer P w H s Q u s':=
  λ {σ' H' v u} J m q=>⟨v,H',J.os,J.bare,J.base,J.hok,m,q⟩
 cases fl with
 |ret u=>
  obtain⟨v,σ',H',J,m,q⟩:=hs;exact h J m q
 |next=>
  obtain⟨σ',H',J,q⟩:=hs;exact h (v:=V.non) (u:=Value.none) J rfl q
 |brk=>
  obtain⟨_,_,_,q⟩:=hs;exact False.elim q
 |cont=>
  obtain⟨_,_,_,q⟩:=hs;exact False.elim q
section
variable{X:Cx}{x:Str}{p pos:Pos}{e:Expr}{es:List Expr}{t:TA}{id T:String}{r:List V->Hp->VK->Prop}
def tCB(r:List V->Hp->VK->Prop)(t:TA):TE:=λ σ H Q=>t σ H λ vs H1=>r vs H1 Q
def SZ(c:qH X (.builtin id) r)(d:Gl X x)(f:X.mg x=none)(g:bootBuiltins x=some (.builtin id))(i:PA X (e::es) t)(j:x≠"__name__" :=by decide)(a:(x==("__debug__" :Str))=false:=by decide)
  (k:SE X e es:=by rfl) (b:BA X pos es:=by rfl):PE X (.Call (.Name x p) (e::es) [] pos) (tCB r t):=by
 intro pins s σ H Q I h
 refine De (BN I d f g ?_ j a)
 exact PyProof.Rows.callWith_builtin1 (zt (i pos pins s σ H _ I h) λ us s1 vs H1 l m q1=>c pins s1 σ H1 vs us Q l m q1) k b
def Ta(c:qH X (.type T) r)(d:Gl X x)(f:X.mg x=none)(g:bootBuiltins x=some (.type T))(i:PA X (e::es) t)(j:x≠"__name__" :=by decide)(a:(x==("__debug__" :Str))=false:=by decide)
  (k:SE X e es:=by rfl) (b:BA X pos es:=by rfl):PE X (.Call (.Name x p) (e::es) [] pos) (tCB r t):=by
 intro pins s σ H Q I h
 refine De (BN I d f g ?_ j a)
 exact E9 (zt (i pos pins s σ H _ I h) λ us s1 vs H1 l m q1=>c pins s1 σ H1 vs us Q l m q1) k b
end
end L2
namespace HT
open PySem PyProof.Rows
section
variable{prog:Program}{w:World}{A:Around}{E:VP}{s:Shared}
noncomputable def sIx(n d:Nat):Option Int->Nat
 |none=>d
 |some v=>if v<0 then (v+(n:Int)).toNat else min v.toNat n
end
end HT
namespace L2
open PySem PySem.Spec PyProof.Rows
abbrev TO:=St->Hp->(Option Int->Hp->Prop)->Prop
def PO(X:Cx)(e:Option Expr)(t:TO):Prop:=
 ∀(pins:AL)(s:Shared)(σ:St)(H:Hp)(Q:Option Int->Hp->Prop),Inv X pins σ H s->t σ H Q->
  wpAny (model X.prog X.w) X.A (evalPart e X.env) (λ u s'=> ∃o H',Inv X pins σ H' s'/\IsPart u o/\Q o H') X.xe s
def Tb:TO:=λ _ H Q=>Q none H
def Tc(t:TE):TO:=λ σ H Q=>t σ H λ x H1=> ∃i,x=.int i/\Q (some i) H1
section
variable{X:Cx}{e:Expr}{te:TE}{lo hi:Option Expr}{tl th:TO}{pos p2:Pos}
def Td:PO X none Tb:=by
 intro pins s σ H Q I h;rw[evalPart_none];exact Ad ⟨none,H,I,.none,h⟩
def Te(h:PE X e te):PO X (some e) (Tc te):=by
 intro pins s σ H Q I a;rw[evalPart_some]
 refine zt (h pins s σ H _ I a) λ u s1 x H1 b c q1=>?_
 obtain⟨i,rfl,q⟩:=q1;obtain⟨t,rfl⟩:=c;exact⟨some i,H1,b,.int i t,q⟩
def SlR(X:Cx)(r:V->Option Int->Option Int->Hp->VK->Prop):Prop:=
 ∀(pins:AL)(s:Shared)(σ:St)(H:Hp)(x:V)(v a b:Value)(lo hi:Option Int)(sl:Addr)(Q:VK),Inv X pins σ H s->RelV x v->s.heap.IsSliceOf sl a b .none->IsPart a lo->IsPart b hi->r x lo hi H Q->
  ∃T id,typeLookup (.type T) "__getitem__" =pure (some (.builtin id))/\s.TypeIs v T/\wpAny (model X.prog X.w) X.A (getItem v (.ref sl)) (EP X pins σ Q) X.xe s
def SlR.or{r a:V->Option Int->Option Int->Hp->VK->Prop}(h:SlR X r)(h':SlR X a):SlR X (λ x lo hi H Q=>r x lo hi H Q\/a x lo hi H Q):=by
 intro pins s σ H x v b c lo hi sl Q I d hs pl e q
 rcases q with q|q
 .exact h pins s σ H x v b c lo hi sl Q I d hs pl e q
 .exact h' pins s σ H x v b c lo hi sl Q I d hs pl e q
def tSl(r:V->Option Int->Option Int->Hp->VK->Prop)(te:TE)(tl th:TO):TE:=λ σ H Q=>te σ H λ x H1=>tl σ H1 λ l H2=>th σ H2 λ u H3=>r x l u H3 Q
theorem Tf(f:SlR X r)(g:PE X e te)(i:PO X lo tl)(j:PO X hi th):PE X (.Subscript e (.Slice lo hi none p2) pos) (tSl r te tl th):=by
 intro pins s σ H Q I h
 refine Subscript_ (zt (g pins s σ H _ I h) λ v s1 x H1 k m q1=>?_)
 refine wpAny_Slice (zt (i pins s1 σ H1 _ k q1) λ c s2 l H2 n pl q2=>zt (j pins s2 σ H2 _ n q2) λ d a u H3 I3 o q3=>?_)
 rw[evalPart_none]
 refine Ad ?_
 have p:Inv X pins σ H3 {a with heap:=a.heap.push {cls:= .type "slice",data:= .fields #[c,d,.none]}}:=I3.kept (t':=a.toks) λ b B q=>As _ q
 obtain⟨T,id,t,y,z⟩:=f pins {a with heap:=a.heap.push {cls:= .type "slice",data:= .fields #[c,d,.none]}} σ H3 x v c d l u a.heap.objs.size Q p m (Heap.IsSliceOf.new ..) pl o q3
 show wpAny (model X.prog X.w) X.A (subscriptTail e (.Slice lo hi none p2) v (.ref a.heap.objs.size)) (EP X pins σ Q) X.xe {a with heap:=a.heap.push {cls:= .type "slice",data:= .fields #[c,d,.none]}}
 exact tail_any (ops:=[.ref a.heap.objs.size,v]) y t z (by with_unfolding_all rfl)
def cutV(xs:List V)(lo hi:Option Int):List V:=(xs.drop (HT.sIx xs.length 0 lo)).take (HT.sIx xs.length xs.length hi-HT.sIx xs.length 0 lo)
def Tg(xs:List V)(lo hi:Option Int):(cutV xs lo hi).length<=xs.length:=by
 unfold cutV;rw[Ay,Fy];lia
end
noncomputable def qU(n:Nat)(i:Int):Option Nat:=if 0<=i then (if i<n then some i.toNat else none) else if -(n:Int)<=i then some (i+n).toNat else none
def atI{α:Type}(xs:List α)(i:Int):Option α:=(qU xs.length i).bind λ j=>xs[j]?
def Np(h:qU n i=some j):seqIndex? i n=some j/\j<n/\ -(n:Int)<=i/\i<n:=by
 unfold qU at h
 by_cases h0:0<=i
 .rw[Ab h0]at h
  by_cases h1:i<n
  .rw[Ab h1]at h
   have e:i.toNat=j:=Option.some.inj h;exact⟨by rw[seqIndex_of h0 h1,e],by lia,by lia,h1⟩
  .rw[Ac h1]at h;cases h
 .rw[Ac h0]at h
  by_cases h1: -(n:Int)<=i
  .rw[Ab h1]at h
   have e:(i+n).toNat=j:=Option.some.inj h;exact⟨by rw[seqIndex_neg (by lia) h1,e],by lia,h1,by lia⟩
  .rw[Ac h1]at h;cases h
def Ig{α:Type}{xs:List α}{i:Int}{v:α}(h:atI xs i=some v):∃j,seqIndex? i xs.length=some j/\xs[j]? =some v/\j<xs.length/\ -(xs.length:Int)<=i/\i<xs.length:=by
 unfold atI at h;cases e:qU xs.length i with
 |none=>rw[e]at h;cases h
 |some j=>
  rw[e]at h;obtain⟨h1,h2,a,b⟩:=Np e;exact⟨j,h1,h,h2,a,b⟩
def jK{α:Type}{xs:List α}{j:Nat}{v:α}(h:xs[j]? =some v):atI xs (j:Int)=some v:=by
 have a:j<xs.length:=(Ao.mp h).1;have e:qU xs.length (j:Int)=some j:=by
  unfold qU;rw[Ab (by lia),Ab (by lia)];simp
 unfold atI;rw[e];exact h
def Th{α:Type}(xs:List α)(v:α):atI (xs++[v]) (-1)=some v:=by
 have a:(xs++[v]).length=xs.length+1:=by simp
 have e:qU (xs++[v]).length (-1)=some xs.length:=by
  unfold qU;rw[a,Ac (by decide),Ab (by lia)]
  congr 1
  lia
 unfold atI;rw[e];show (xs++[v])[xs.length]? =some v;simp
def Ih(b:Expr):Prop:=∀o i,subscripted b false o i=operate [o,i] (getItem o i)
def IxR(X:Cx)(r:R2):Prop:=
 ∀(value slice:Expr)(pins:AL)(s:Shared)(σ:St)(H:Hp)(x y:V)(v u:Value)(Q:VK),Inv X pins σ H s->RelV x v->RelV y u->r x y H Q->
  subscripted slice false v u=operate [v,u] (getItem v u)->wpAny (model X.prog X.w) X.A (subscriptTail value slice v u) (EP X pins σ Q) X.xe s
def MtR(X:Cx)(id:String)(r:V->List V->Hp->VK->Prop):Prop:=
 ∀(pins:AL)(s:Shared)(σ:St)(H:Hp)(x:V)(xs:List V)(v:Value)(us:List Value)(Q:VK),Inv X pins σ H s->RelV x v->Vals xs us->r x xs H Q->
  wpAny (model X.prog X.w) X.A (call (.builtin id) (v::us)) (EP X pins σ Q) X.xe s
section
variable{X:Cx}{a b:Expr}{ta tb:TE}{pos:Pos}
def IxR.or{r a:R2}(h:IxR X r)(h':IxR X a):IxR X (λ x y H Q=>r x y H Q\/a x y H Q):=by
 intro value slice pins s σ H x y v u Q I b c q hs
 rcases q with q|q
 .exact h value slice pins s σ H x y v u Q I b c q hs
 .exact h' value slice pins s σ H x y v u Q I b c q hs
def Ti(c:IxR X r)(d:PE X a ta)(e:PE X b tb)(hs:Ih b):PE X (.Subscript a b pos) (tOp r ta tb):=by
 intro pins s σ H Q I h;exact Subscript_ (binT d e I h λ v u s2 x y H2 f g i q=>c a b pins s2 σ H2 x y v u Q f g i q (hs _ _))
def rIxL(K:FG):R2:=λ x y H Q=> ∃p xs i v,x=.ref p/\y=.int i/\SqL K H p xs/\atI xs i=some v/\Q v H
def rIxT(K:FG):R2:=λ x y H Q=> ∃p xs i v,x=.ref p/\y=.int i/\SqT K H p xs/\atI xs i=some v/\Q v H
def rIxS:R2:=λ x y H Q=> ∃z i c,x=.str z/\y=.int i/\z.length<=sizeLine/\atI z.cps.toList i=some c/\Q (.str ⟨#[c]⟩) H
def ix_list:IxR X (rIxL X.K):=by
 intro value slice pins s σ H x y v u Q I e f h hs;obtain⟨p,xs,i,z,rfl,rfl,g,k,q⟩:=h;cases e;obtain⟨t,rfl⟩:=f;obtain⟨its,r,pl,hz⟩:=I.list g;obtain⟨j,h1,h2,o,l,m⟩:=Ig k;obtain⟨w,d,b⟩:=r.get h2;have n:=r.length;have A:=CO;have a:EP X pins σ Q w s:=⟨z,H,I,b,q⟩
 by_cases h0:0<=i
 .have c:i.toNat=j:=by
   rw[seqIndex_of h0 m]at h1;exact Option.some.inj h1
  exact item_listR pl.isList h0 (by lia) (by rw[c];simpa using d) a hs
 .have c:(i+(its.toArray.size:Int)).toNat=j:=by
   rw[seqIndex_neg (by lia) l]at h1
   rw[Aq,<-n];exact Option.some.inj h1
  exact subscriptTail_builtinR (x:=w) pl.isList.typeIs slot_list_getitem.lookup
   (wpAny_getItem_list_neg (Q:=λ r s'=>r=w/\EP X pins σ Q r s') pl.isList (by lia) (by rw[Aq]<;>lia) (by lia) (by rw[c];simpa using d) ⟨rfl,a⟩) hs
def ix_tup:IxR X (rIxT X.K):=by
 intro value slice pins s σ H x y v u Q I c d h hs;obtain⟨p,xs,i,z,rfl,rfl,e,f,q⟩:=h;cases c;obtain⟨t,rfl⟩:=d;obtain⟨its,r,pl,hz⟩:=I.tuple e;obtain⟨j,h1,h2,l,m,n⟩:=Ig f;obtain⟨w,g,a⟩:=r.get h2;have k:=r.length;have o:=CO;have b:EP X pins σ Q w s:=⟨z,H,I,a,q⟩;exact subscriptTail_builtinR (x:=w) pl.typeIs slot_tuple_getitem.lookup
  (getItem_tuple (j:=j) (Q:=λ r s'=>r=w/\EP X pins σ Q r s') pl (by lia) (by lia) (by rw[Aq,<-k];exact h1) (by simpa using g) ⟨rfl,b⟩) hs
def Tj:IxR X rIxS:=by
 intro value slice pins s σ H x y v u Q I a b h hs;obtain⟨z,i,c,rfl,rfl,hz,d,q⟩:=h;obtain⟨t,rfl⟩:=a;obtain⟨t',rfl⟩:=b;obtain⟨j,h1,h2,k,e,f⟩:=Ig d;have g:z.cps.toList.length=z.length:=by simp[Str.length]
 rw[g]at h1 e f;have l:=CO;exact tail_any (typeIs_str s z t) slot_str_getitem.lookup (getItem_str (c:=c) (by
  have e1:decide (i < -(2 ^ 63:Int))=false:=Bu (by lia)
  have e2:decide (i≥2 ^ 63)=false:=Bu (by lia)
  rw[e1,e2,D9]) (by rw[h1];simpa using h2) ⟨.str ⟨#[c]⟩,H,I.tok _,⟨_,rfl⟩,q⟩) hs
def Tn(its:List Value)(n j:Nat)(u:Value):Obj.mapSeq (·.setIfInBounds j u) {cls:= .type "list",data:= .seq its.toArray n}={cls:= .type "list",data:= .seq (its.set j u).toArray n}:=by
 simp[Obj.mapSeq]
theorem Inv.lst(I:Inv X pins σ H s)(h:H p=some (.lst xs)):
  ∃(its:List Value)(n:Nat),Vals xs its/\s.heap.get? p=some {cls:= .type "list",data:= .seq its.toArray n}/\xs.length<=sizeLine:=by
 obtain⟨z,its,n,r,e⟩:=I.hok p _ h;exact⟨its,n,r,e,z⟩
def Inv.lstUpd{pins:AL}{σ:St}{H:Hp}{s:Shared}{p:Addr}{xs ys:List V}{its its':List Value}{n a:Nat}{f:Obj->Obj}(I:Inv X pins σ H s)(h:H p=some (.lst xs))
  (d:s.heap.get? p=some {cls:= .type "list",data:= .seq its.toArray n}) (c:f {cls:= .type "list",data:= .seq its.toArray n}={cls:= .type "list",data:= .seq its'.toArray a}) (r:Vals ys its') (hz:ys.length<=sizeLine) (t:Nat):
  Inv X pins σ (zk H p (.lst ys)) {s with heap:=s.heap.update p f,toks:=t}:=by
 have e:(s.heap.update p f).get? p=some {cls:= .type "list",data:= .seq its'.toArray a}:=by
  rw[Cp f d (by rw[c]<;>rfl),c]
 refine I.write (x:=p) (e:=p) (by rw[h];trivial) (.inl rfl) (λ b u g q=>(C7 _ _ (Bm g)).trans q) ⟨_,e⟩ ?_
 exact⟨hz,its',a,r,e⟩
def Ii:V->V->V->Hp->(Hp->Prop)->Prop:=λ o i v H Q=> ∃p xs k j,o=.ref p/\i=.int k/\H p=some (.lst xs)/\qU xs.length k=some j/\Q (zk H p (.lst (xs.set j v)))
def Nq:PSet X Ii:=by
 intro pins s σ H o i v x iv u Q I g l m h;obtain⟨p,xs,k,j,rfl,rfl,hp,w,q⟩:=h;cases g;obtain⟨t,rfl⟩:=l;obtain⟨its,n,r,a,hz⟩:=I.lst hp;obtain⟨h1,h2,d,e⟩:=Np w;have b:=r.length;have y:=CO;have f:Inv X pins σ (zk H p (.lst (xs.set j v))) {s with heap:=s.heap.update p (Obj.mapSeq (·.setIfInBounds j u))}:=
  I.lstUpd hp a (Tn its n j u) (r.set m j) (by rw[Bw];exact hz) s.toks
 by_cases h0:0<=k
 .have c:k.toNat=j:=by
   rw[seqIndex_of h0 e]at h1;exact Option.some.inj h1
  exact PySem.W.ki_setAt a h0 (by lia) (by rw[Aq,<-b];exact e) (by rw[c];exact⟨_,f,q⟩)
 .have c:(k+(its.toArray.size:Int)).toNat=j:=by
   rw[seqIndex_neg (by lia) d]at h1
   rw[Aq,<-b];exact Option.some.inj h1
  exact PySem.W.ki_setBack a (by lia) (by rw[Aq,<-b];exact d) (by lia) (by rw[c];exact⟨_,f,q⟩)
def To(lo hi:Option Int)(n:Nat):(sliceBounds lo hi none n).1=((HT.sIx n 0 lo:Nat):Int)/\(sliceBounds lo hi none n).2.1=((HT.sIx n n hi:Nat):Int)/\(sliceBounds lo hi none n).2.2=1:=by
 refine⟨?_,?_,rfl⟩
 .cases lo with
  |none=>simp[sliceBounds,HT.sIx]
  |some i=>
   simp only[sliceBounds,HT.sIx,Option.getD_none,show (1:Int) > 0 by decide,B6]
   by_cases h:i<0
   .simp only[h,B6]<;>lia
   .simp only[h,Ca]<;>lia
 .cases hi with
  |none=>simp[sliceBounds,HT.sIx]
  |some i=>
   simp only[sliceBounds,HT.sIx,Option.getD_none,show (1:Int) > 0 by decide,B6]
   by_cases h:i<0
   .simp only[h,B6]<;>lia
   .simp only[h,Ca]<;>lia
def Tp(its:List Value)(lo hi:Option Int):slicePick its.toArray lo hi none=((its.drop (HT.sIx its.length 0 lo)).take (HT.sIx its.length its.length hi-HT.sIx its.length 0 lo)).toArray:=by
 obtain⟨h1,h2,a⟩:=To lo hi its.toArray.size;unfold slicePick;rw[h1,h2,a];simp only[sliceRange_one,pick_run,Aq]<;>rfl
def rSlL(K:FG):V->Option Int->Option Int->Hp->VK->Prop:=λ x lo hi H Q=> ∃a xs,x=.ref a/\SqL K H a xs/\∀p,H p=none->Q (.ref p) (zk H p (.lst (cutV xs lo hi)))
def sl_list:SlR X (rSlL X.K):=by
 intro pins s σ H x v i j lo hi sl Q I e hs pl f h;obtain⟨a,xs,rfl,g,q⟩:=h;cases e;obtain⟨its,r,d,hz⟩:=I.list g;have c:=r.length
 refine⟨"list",_,slot_list_getitem.lookup,d.isList.typeIs,?_⟩
 refine wpAny_getItem_list_slice d.isList hs pl f .none (by simp) ?_ (by rw[Aq]<;>lia)
 rw[Tp,<-c]
 refine⟨.ref s.heap.objs.size,_,I.laid (t':=s.toks) (o:= .lst (cutV xs lo hi)) (λ b k q=>As _ q) (Ag _) ?_,rfl,q _ (I.hok.fresh (Ag _))⟩
 exact⟨By (Tg xs lo hi) hz,_,0,(r.drop (HT.sIx xs.length 0 lo)).take (HT.sIx xs.length xs.length hi-HT.sIx xs.length 0 lo),Bf _ rfl⟩
noncomputable def CP:V->Bool
 |.non|.bl _|.int _|.str _=>true
 |_=>false
noncomputable def eqV:V->V->Bool
 |.non,.non=>true
 |.bl a,.bl b=>a==b
 |.bl a,.int b=>(if a then 1 else 0)==b
 |.int a,.bl b=>a==(if b then 1 else 0)
 |.int a,.int b|.str a,.str b=>a==b
 |_,_=>false
def Nr(d:RelV y u)(c:RelV x v)(f:CP y=true)(e:CP x=true):SeqAt.EqAt A s u v (eqV y x):=by
 cases y with
 |non=>
  cases d;cases x with
  |non=>cases c;exact SeqAt.EqAt.same _
  |bl b=>cases c;exact SeqAt.EqAt.none_bool b
  |int b=>obtain⟨t,rfl⟩:=c;exact SeqAt.EqAt.none_int b t
  |str b=>obtain⟨t,rfl⟩:=c;exact SeqAt.EqAt.none_str b t
  |_=>exact absurd (show false=true from e) Bk
 |bl a=>
  cases d;cases x with
  |non=>cases c;exact SeqAt.EqAt.bool_none a
  |bl b=>cases c;exact SeqAt.EqAt.bool_bool a b
  |int b=>obtain⟨t,rfl⟩:=c;exact SeqAt.EqAt.bool_int a b t
  |str b=>obtain⟨t,rfl⟩:=c;exact SeqAt.EqAt.bool_str a b t
  |_=>exact absurd (show false=true from e) Bk
 |int a=>
  obtain⟨t',rfl⟩:=d;cases x with
  |non=>cases c;exact SeqAt.EqAt.int_none a t'
  |bl b=>cases c;exact SeqAt.EqAt.int_bool a t' b
  |int b=>obtain⟨t,rfl⟩:=c;exact SeqAt.EqAt.int_int a t' b t
  |str b=>obtain⟨t,rfl⟩:=c;exact SeqAt.EqAt.int_str a t' b t
  |_=>exact absurd (show false=true from e) Bk
 |str a=>
  obtain⟨t',rfl⟩:=d;cases x with
  |non=>cases c;exact SeqAt.EqAt.str_none a t'
  |bl b=>cases c;exact SeqAt.EqAt.str_bool a t' b
  |int b=>obtain⟨t,rfl⟩:=c;exact SeqAt.EqAt.str_int a t' b t
  |str b=>obtain⟨t,rfl⟩:=c;exact SeqAt.EqAt.str_str a t' b t
  |_=>exact absurd (show false=true from e) Bk
 |_=>exact absurd (show false=true from f) Bk
def Tq:qH X (.type "list") (λ xs H Q=> ∃p ys,xs=[.ref p]/\(SqL X.K H p ys\/SqT X.K H p ys)/\∀l,H l=none->Q (.ref l) (zk H l (.lst ys))):=by
 intro pins s σ H xs us Q I r h;obtain⟨p,ys,rfl,c,q⟩:=h;obtain⟨u,rfl,j⟩:=BQ r;cases j;have d:∀(its:List Value),Vals ys its->ys.length<=sizeLine->∀(h':Heap)(c':Nat),(∀b o',s.heap.get? b=some o'->h'.get? b=some o')->
   h'.get? s.heap.objs.size=some {cls:= .type "list",dict:=none,data:= .seq its.toArray c',slots:= #[]}->EP X pins σ Q (.ref s.heap.objs.size) {s with heap:=h'}:=λ its a hz h' c' kp e=>
  ⟨.ref s.heap.objs.size,_,I.laid (t':=s.toks) kp (Ag _) (show ObjOk X.prog X.w _ h' _ (.lst ys) from ⟨hz,its,c',a,e⟩),rfl,q _ (I.hok.fresh (Ag _))⟩
 rcases c with c|c
 .obtain⟨its,a,pl,hz⟩:=I.list c
  have f:=a.length;obtain⟨o,g,i,n,hd⟩:=pl.isList;exact call_list_seq p (.inl rfl) g i hd (λ h' c' kp e=>d its a hz h' c' kp e) (by simp only[Aq]<;>lia)
 .obtain⟨its,a,pl,hz⟩:=I.tuple c
  have f:=a.length;obtain⟨o,g,i,n,hd⟩:=pl;exact call_list_seq p (.inr rfl) g i hd (λ h' c' kp e=>d its a hz h' c' kp e) (by simp only[Aq]<;>lia)
def tyV(K:FG)(T:String)(x:V)(H:Hp):Prop:=match x with
 |.str _=>T="str"
 |.int _=>T="int"
 |.ref p=>(T="list" /\∃xs,SqL K H p xs)\/(T="tuple" /\∃o,K.lookup p=some o/\o.cls=.type "tuple" /\o.dict=none)\/
  (T="dict" /\∃kvs,H p=some (.dT kvs))
 |_=>False
def Nt(I:Inv X pins σ H s)(r:RelV x v)(ty:tyV X.K T x H):
  s.TypeIs v T/\∀a,v=.ref a->∃b,s.heap.get? a=some b/\b.dict=none:=by
 cases x with
 |str z=>
  obtain⟨t,rfl⟩:=r;cases (show T="str" from ty)
  exact⟨typeIs_str s z t,λ _ e=>nomatch e⟩
 |int i=>
  obtain⟨t,rfl⟩:=r;cases (show T="int" from ty)
  exact⟨typeIs_int s i t,λ _ e=>nomatch e⟩
 |ref p=>
  cases r
  rcases ty with ⟨rfl,xs,hq⟩|⟨rfl,o,hk,hc,hd⟩|⟨rfl,kvs,hk⟩
  .obtain⟨its,_,pl,_⟩:=I.list hq
   refine⟨pl.isList.typeIs,λ a e=>?_⟩
   cases e;obtain⟨o,n,e,c,hd,_⟩:=pl;exact⟨o,e,hd⟩
  .refine⟨⟨o,I.kIn p o hk,hc⟩,λ a e=>?_⟩
   cases e;exact⟨o,I.kIn _ o hk,hd⟩
  .obtain⟨_,_,_,_,o,_,_,e,ex,_⟩:=I.hok p _ hk
   refine⟨⟨o,e,ex.1⟩,λ a e2=>?_⟩
   cases e2;exact⟨o,e,ex.2.1⟩
 |_=>exact False.elim ty
def tBM0(K:FG)(T:String)(r:V->List V->Hp->VK->Prop)(to:TE):TE:=λ σ H Q=>to σ H λ x H1=>tyV K T x H1/\r x [] H1 Q
def tBM(K:FG)(T:String)(r:V->List V->Hp->VK->Prop)(to:TE)(t:TA):TE:=λ σ H Q=>to σ H λ x H1=>tyV K T x H1/\t σ H1 λ xs H2=>r x xs H2 Q
variable{o e:Expr}{es:List Expr}{to:TE}{t:TA}{name:Str}{apos cpos:Pos}{T id:String}{r:V->List V->Hp->VK->Prop}
def Ts(f:PlainAttrs T)(slot:Slot T name id)(c:typeOf (.builtin id)=pure (.type "method_descriptor"))(g:MtR X id r)(i:PE X o to)
  (a:attributeBase o name X.env (eval o X.env)=eval o X.env:=by rfl) (b:(apos.endLine==cpos.line)=true:=by rfl):PE X (.Call (.Attribute o name apos) [] [] cpos) (tBM0 X.K T r to):=by
 intro pins s σ H Q I h
 refine wpAny_Call_method0_late a b (zt (i pins s σ H _ I h) λ v s1 x H1 d e j=>?_)
 obtain⟨ty,q1⟩:=j;obtain⟨h1,h2⟩:=Nt d e ty;exact⟨T,id,f,slot,c,h1,h2,G9 rfl (PySem.evalArgs_none (g pins s1 σ H1 x [] v [] Q d e .nil q1))⟩
def JO(k:PlainAttrs T)(slot:Slot T name id)(f:typeOf (.builtin id)=pure (.type "method_descriptor"))(l:MtR X id r)(m:PE X o to)(n:PA X (e::es) t)
  (b:attributeBase o name X.env (eval o X.env)=eval o X.env:=by rfl)
  (d:((backTo cpos (starEach (e::es) X.env)).all (λ x=> !x.1) && (backToKw cpos (keywordEach [] X.env)).all (λ x=>x.1.isSome)
   && decide ((e::es).length+([]:List Keyword).length+(if ([]:List Keyword).isEmpty then 0 else 1)<30))=true:=by rfl)
  (c:(apos.endLine==cpos.line)=true:=by rfl) (hs:SE X e es:=by rfl) (a:(backTo cpos (starEach es X.env)).any (·.1)=false:=by rfl):
  PE X (.Call (.Attribute o name apos) (e::es) [] cpos) (tBM X.K T r to t):=by
 intro pins s σ H Q I h
 refine wpAny_Call_method_late b d c rfl (zt (m pins s σ H _ I h) λ v s1 x H1 g i p=>?_)
 obtain⟨ty,q1⟩:=p;obtain⟨h1,h2⟩:=Nt g i ty
 refine⟨T,id,k,slot,f,h1,h2,?_⟩
 have j:=n cpos pins s1 σ H1 _ g q1;rw[hs]at j ⊢
 refine G9 (by show (false || (backTo cpos (starEach es X.env)).any (·.1))=false;rw[a]<;>rfl) (Ha ?_)
 exact thn j λ us s2 ⟨vs,H2,q,u,q2⟩=>l pins s2 σ H2 x vs v us Q q i u q2
end
def MtM(X:Cx)(id:String)(r:V->List V->Hp->VK->Prop):Prop:=
 ∀(pins:AL)(s:Shared)(σ:St)(H:Hp)(x:V)(xs:List V)(v:Value)(us:List Value)(Q:VK),Inv X pins σ H s->RelV x v->Vals xs us->r x xs H Q->
  wpAny (model X.prog X.w) X.A (call (.builtin id) (v::us)) (EP X pins σ Q) X.xe s
def Vals.one:∀{x:V}{us:List Value},Vals [x] us->∃u,us=[u]/\RelV x u
 |_,_,.cons r .nil=>⟨_,rfl,r⟩
def Vals.zero:∀{us:List Value},Vals [] us->us=[]
 |_,.nil=>rfl
theorem Vals.dropLast{xs:List V}{us:List Value}(h:Vals xs us):Vals xs.dropLast us.dropLast:=by
 induction h with
 |nil=>exact .nil
 |cons r t ih=>
  cases t with
  |nil=>exact .nil
  |cons q t'=>exact .cons r ih
theorem Vals.eraseIdx:∀{xs:List V}{us:List Value}(i:Nat),Vals xs us->Vals (xs.eraseIdx i) (us.eraseIdx i)
 |_,_,_,.nil=>.nil
 |_,_,0,.cons _ t=>t
 |_,_,i+1,.cons r t=>.cons r (Vals.eraseIdx i t)
theorem Vals.rep(h:Vals xs us):∀k:Nat,Vals (List.replicate k xs).flatten (List.replicate k us).flatten
 |0=>.nil
 |k+1=>by
  rw[Dv,Dv,Dw,Dw];exact Vals.append h (Vals.rep h k)
def Tt{α:Type}(l:List α):l.eraseIdx (l.length-1)=l.dropLast:=by
 induction l with
 |nil=>rfl
 |cons a r ih=>
  cases r with
  |nil=>rfl
  |cons b r=>
   have e:(a::b::r).length-1=((b::r).length-1)+1:=by
    have h1:(a::b::r).length=r.length+2:=rfl;have h2:(b::r).length=r.length+1:=rfl;lia
   rw[e,List.eraseIdx_cons_succ,ih]
   all_goals rfl
theorem Nu{α:Type}:∀(l:List α)(i:Nat),(l.eraseIdx i).length<=l.length
 | [],_=>Ag _
 |_::_,0=>C5 _
 |_::r,i+1=>Nat.succ_le_succ (Nu r i)
theorem Nv(its:List Value):∀(k:Nat)(a:List Value),
  List.foldl (λ x1 x2=>x1++x2) a.toArray (List.replicate k its.toArray)=(a++(List.replicate k its).flatten).toArray
 |0,a=>by simp
 |k+1,a=>by
  have e:a.toArray++its.toArray=(a++its).toArray:=by simp
  have e2:(a++its)++(List.replicate k its).flatten=a++(List.replicate (k+1) its).flatten:=by
   rw[Dv,Dw,Cq]
  rw[<-e2,<-Nv its k (a++its),<-e,Dv,Fz]
section
variable{X:Cx}{pins:AL}{σ:St}{H:Hp}{s:Shared}{l b:Addr}{xs ys zs:List V}
def Inv.lset{its its':List Value}{n:Nat}{f:Array Value->Array Value}{t':Nat}(I:Inv X pins σ H s)(a:H l=some (.lst xs))
  (e:s.heap.get? l=some {cls:= .type "list",data:= .seq its.toArray n}) (b:f its.toArray=its'.toArray) (c:Vals ys its') (hz:ys.length<=sizeLine):
  Inv X pins σ (zk H l (.lst ys)) {s with heap:=s.heap.update l (Obj.mapSeq f),toks:=t'}:=by
 have q:=PySem.IsL.update e f;rw[b]at q
 refine I.write (x:=l) (e:=l) (by rw[a];exact trivial) (.inl rfl) (λ h u d g=>(C7 s.heap (Obj.mapSeq f) (Bm d)).trans g) ⟨_,q⟩ ?_
 exact⟨hz,its',_,c,q⟩
def Inv.lnew(I:Inv X pins σ H s)(a:Vals ys its)(hz:ys.length<=sizeLine):
  Inv X pins σ (zk H s.heap.objs.size (.lst ys)) {s with heap:=s.heap.push {cls:= .type "list",data:= .seq its.toArray},toks:=t'}:=
 I.laid (λ _ _ q=>As _ q) (Ag _) ⟨hz,its,0,a,Bf _ rfl⟩
theorem Inv.fresh(I:Inv X pins σ H s):H s.heap.objs.size=none:=I.hok.fresh (Ag _)
def Inv.lstM(I:Inv X pins σ H s)(a:H l=some (.lst xs)):xs.length<=sizeLine/\∃(its:List Value)(n:Nat),Vals xs its/\xs.length=its.length/\s.heap.get? l=some {cls:= .type "list",data:= .seq its.toArray n}:=by
 obtain⟨z,its,n,r,e⟩:=I.hok l _ a;exact⟨z,its,n,r,r.length,e⟩
def Nx{n:Nat}(h:n<=sizeLine):Builtin.List.listTooLong n=false:=by
 unfold Builtin.List.listTooLong;exact Bu (by lia)
end
section
variable{X:Cx}
def Ny:V->List V->Hp->VK->Prop:=λ x vs H Q=> ∃l xs y,x=.ref l/\vs=[y]/\H l=some (.lst xs)/\xs.length<sizeLine/\Q .non (zk H l (.lst (xs++[y])))
def AZ:MtM X "list.append" Ny:=by
 intro pins s σ H x vs v us Q I b c h;obtain⟨l,xs,y,rfl,rfl,a,hz,q⟩:=h;cases b;obtain⟨u,rfl,d⟩:=c.one;obtain⟨z,its,n,r,f,e⟩:=I.lstM a
 refine Dx F.slot_list_append ⟨_,e,rfl⟩ F.entry_list_append (F.args_list_append_2 _ _) (PySem.list_append l its.toArray n u (by rw[Aq];lia)) ⟨e,?_⟩
 refine⟨.non,_,I.lset (its':=its++[u]) a e (by simp) (r.append (.cons d .nil)) ?_,rfl,q⟩
 rw[Ar,Cc];lia
def Nz:V->List V->Hp->VK->Prop:=λ x vs H Q=> ∃l b xs zs,x=.ref l/\vs=[.ref b]/\H l=some (.lst xs)/\H b=some (.lst zs)/\xs.length+zs.length<=sizeLine/\Q .non (zk H l (.lst (xs++zs)))
def JP:MtM X "list.extend" Nz:=by
 intro pins s σ H x vs v us Q I g i h;obtain⟨l,b,xs,zs,rfl,rfl,f,j,hz,q⟩:=h;cases g;obtain⟨u,rfl,k⟩:=i.one;cases k;obtain⟨z,its,n,r,t,e⟩:=I.lstM f;obtain⟨w,a,m,o,p,e2⟩:=I.lstM j;have d:its.toArray.size+a.toArray.size<=sizeLine:=by rw[Aq,Aq];lia
 have c: ¬(!its.toArray.isEmpty && Builtin.List.listTooLong (its.toArray.size+a.toArray.size))=true:=by
  rw[Nx d,Fd];exact Bk
 refine Dx F.slot_list_extend ⟨_,e,rfl⟩ F.entry_list_extend (F.args_list_extend_2 _ _)
  (AutoSeq1.list_extend_list_list_0 l its.toArray n b a.toArray m c (by rw[Aq];lia) (by lia)) ⟨e,e2,?_⟩
 refine⟨.non,_,I.lset (its':=its++a) f e (by simp) (r.append o) ?_,rfl,q⟩
 rw[Ar];lia
def rPop:V->List V->Hp->VK->Prop:=λ x vs H Q=> ∃l xs y,x=.ref l/\vs=[]/\H l=some (.lst xs)/\xs[xs.length-1]? =some y/\Q y (zk H l (.lst xs.dropLast))
def Tu:MtM X "list.pop" rPop:=by
 intro pins s σ H x vs v us Q I d f h;obtain⟨l,xs,y,rfl,rfl,c,g,q⟩:=h;cases d;have a:=f.zero;subst a;obtain⟨z,its,n,r,i,e⟩:=I.lstM c;obtain⟨u,j,k⟩:=r.get g;have b:its.toArray[its.toArray.size-1]? =some u:=by
  show its.toArray[its.length-1]? =some u;rw[<-Bx,<-i];exact j
 refine Dx F.slot_list_pop ⟨_,e,rfl⟩ F.entry_list_pop (F.args_list_pop_1 _) (MeetsSeq.list_pop_last l its.toArray n u b (by rw[Aq];lia)) ⟨e,?_⟩
 refine⟨y,_,I.lset (its':=its.dropLast) c e ?_ r.dropLast ?_,k,q⟩
 .show its.toArray.eraseIdxIfInBounds (its.toArray.size-1)=its.dropLast.toArray
  rw[Aq,List.eraseIdxIfInBounds_toArray,Tt]
 .rw[List.length_dropLast]
  lia
def N0:V->List V->Hp->VK->Prop:=λ x vs H Q=> ∃l xs i k y,x=.ref l/\vs=[.int i]/\H l=some (.lst xs)/\ -(2 ^ 63)<=i/\i<2 ^ 63/\seqIndex? i xs.length=some k/\xs[k]? =some y/\Q y (zk H l (.lst (xs.eraseIdx k)))
def Tv:MtM X "list.pop" N0:=by
 intro pins s σ H x vs v us Q I c d h;obtain⟨l,xs,i,k,y,rfl,rfl,b,h1,h2,f,g,q⟩:=h;cases c;obtain⟨u,rfl,j⟩:=d.one;obtain⟨t,rfl⟩:=j;obtain⟨z,its,n,r,m,e⟩:=I.lstM b;obtain⟨w,o,a⟩:=r.get g
 refine Dx F.slot_list_pop ⟨_,e,rfl⟩ F.entry_list_pop (F.args_list_pop_2 _ _)
  (MeetsSeq.list_pop_at l its.toArray n i t k w (fitsIndex_both h1 h2) (by rw[Aq,<-m];exact f) (by rw[<-Bx];exact o) (by rw[Aq];lia)) ⟨e,?_⟩
 refine⟨y,_,I.lset (its':=its.eraseIdx k) b e ?_ (r.eraseIdx k) ?_,a,q⟩
 .show its.toArray.eraseIdxIfInBounds k=(its.eraseIdx k).toArray
  rw[List.eraseIdxIfInBounds_toArray]
 .have:=Nu xs k
  lia
def N1:V->List V->Hp->VK->Prop:=λ x vs H Q=> ∃l xs,x=.ref l/\vs=[]/\H l=some (.lst xs)/\Q .non (zk H l (.lst []))
def Tw:MtM X "list.clear" N1:=by
 intro pins s σ H x vs v us Q I c d h;obtain⟨l,xs,rfl,rfl,b,q⟩:=h;cases c;have a:=d.zero;subst a;obtain⟨z,its,n,r,f,e⟩:=I.lstM b
 refine Dx F.slot_list_clear ⟨_,e,rfl⟩ F.entry_list_clear (F.args_list_clear_1 _) (AutoSeq1.list_clear_list_0 l its.toArray n (by rw[Aq];lia)) ⟨e,?_⟩
 exact⟨.non,_,I.lset (its':=[]) (ys:=[]) b e rfl .nil (B5 _),rfl,q⟩
def rCat:R2:=λ x y H Q=> ∃l b xs zs,x=.ref l/\y=.ref b/\H l=some (.lst xs)/\H b=some (.lst zs)/\xs.length+zs.length<=sizeLine/\∀p,H p=none->Q (.ref p) (zk H p (.lst (xs++zs)))
def Tx:OpR X (binaryOp .Add) rCat:=by
 intro pins s σ H x y v u Q I c d h;obtain⟨l,b,xs,zs,rfl,rfl,f,g,hz,q⟩:=h;cases c;cases d;obtain⟨z,its,n,r,m,e⟩:=I.lstM f;obtain⟨o,a,p,i,j,e2⟩:=I.lstM g
 refine PySem.P.add_list e e2 ?_ (by rw[Aq,Aq];lia)
 have k:its.toArray++a.toArray=(its++a).toArray:=by simp
 rw[k];exact⟨.ref _,_,I.lnew (t':=s.toks) (r.append i) (by rw[Ar];lia),rfl,q _ I.fresh⟩
def rRep:R2:=λ x y H Q=> ∃l k xs,x=.ref l/\y=.int k/\H l=some (.lst xs)/\ -(2 ^ 63)<=k/\k<2 ^ 63/\xs.length*k.toNat<=sizeLine/\
 ∀p,H p=none->Q (.ref p) (zk H p (.lst (List.replicate k.toNat xs).flatten))
def Tz{α:Type}(xs:List α)(k:Nat):(List.replicate k xs).flatten.length=k*xs.length:=by
 induction k with
 |zero=>simp
 |succ k ih=>rw[Dv,Dw,Ar,ih,Nat.succ_mul,Nat.add_comm]
def T1:OpR X (binaryOp .Mult) rRep:=by
 intro pins s σ H x y v u Q I i j h;obtain⟨l,k,xs,rfl,rfl,o,h1,h2,hz,q⟩:=h;cases i;obtain⟨t,rfl⟩:=j;obtain⟨z,its,n,r,p,e⟩:=I.lstM o;have c:its.toArray.size*k.toNat<=sizeLine:=by rw[Aq,<-p];exact hz
 have d: ¬its.toArray.size*k.toNat > (2 ^ 63-1) / 8:=by
  have:(sizeLine:Nat)<=(2 ^ 63-1) / 8:=by decide
  lia
 have f: ¬(!Builtin.List.listFitsIndex k)=true:=by
  rw[fitsIndex_both h1 h2];exact Bk
 have b: ¬Builtin.List.listTooLong (its.toArray.size*k.toNat)=true:=by
  rw[Nx c];exact Bk
 have g:List.foldl (λ x1 x2=>x1++x2) #[] (List.replicate (if its.toArray.isEmpty=true then 0 else k.toNat) its.toArray)=(List.replicate k.toNat its).flatten.toArray:=by
  have w:∀m:Nat,List.foldl (λ x1 x2=>x1++x2) #[] (List.replicate m its.toArray)=(List.replicate m its).flatten.toArray:=λ m=>by
   have:=Nv its m [];rw[Ea]at this;exact this
  rw[w];cases its with
  |nil=>simp
  |cons a r'=>rw[Ac (by simp)]
 refine wpAny_binaryOp_repeat_ref (T:="list") (U:="int") (by decide) ⟨_,e,rfl⟩ (λ s'=>typeIs_int s' k t) noFill_list_mul F.fills_int_mul F.slot_int_rmul repeat_list F.slot_int_index.lookup
  (Dx F.slot_int_rmul (typeIs_int s k t) F.entry_int_rmul (F.args_int_rmul_2 _ _) (int___rmul___int_list k t l its.toArray n)
   ⟨e,rfl,⟨_,e,rfl⟩,Dx F.slot_list_mul ⟨_,e,rfl⟩ F.entry_list_mul (F.args_list_mul_2 _ _) (AutoListH.list___mul___list_int_3 l its.toArray n k t f d b) ⟨e,?_⟩⟩)
 rw[g];exact⟨.ref _,_,I.lnew (t':=s.toks) (r.rep k.toNat) (by rw[Tz,Nat.mul_comm];exact hz),rfl,q _ I.fresh⟩
end
section
variable{prog:Program}{w:World}{A:Around}{E:VP}{s:Shared}
set_option maxRecDepth 100000 in
end
end L2
namespace Att
open PySem PySem.W PySem.Calls PyProof.Rows
def T2:∀(ns:List Int)(vs:List Value),WellAll P h vs (ns.map WData.int)->IntsAre vs ns:=by
 intro ns
 induction ns with
 |nil=>
  intro vs w;rw[Bl]at w;cases w;exact .nil
 |cons n ns ih=>
  intro vs w;rw[Ah]at w;cases w with
  |cons a b=>
   cases a;exact .cons _ _ (ih _ b)
def T4{l:OpenLaw}{n:Nat}(m:l.most=some n){P:Params}{h:Heap}{args:List WData}{b:List Value}
  (c:l.row.toRowW.claim.pre args=true) (i:WellAll P h b args):
  ∃a vs ns,b=[Value.ref a]/\args=[WData.list (ns.map WData.int)]/\h.get? a=some {cls:= .type "list",data:= .seq vs.toArray}/\IntsAre vs ns/\ns.length<=n:=by
 have j:WShape.hasAll [] args [.list .int]=true:=(pre_splitW c).1;have k:l.pre.holds [] {args:=args}=true:=(pre_splitW c).2;obtain⟨d,r,rfl,h1,h2⟩:=hasAllW_cons j;obtain rfl:=hasAllW_nil h2;obtain⟨xs,rfl,o⟩:=hasW_list h1;obtain⟨ns,rfl⟩:=items_int o;have e:ns.length<=n:=by
  unfold OpenLaw.pre at k;have f:(WTm.not (.lt (.lit (.int (n:Int))) (.len (.arg 0)))).holds [] {args:=[.list (ns.map .int)]}=true:=by
   have f:=(holds_andW k).1;rw[m]at f;exact f
  have g:=condW_of f (w_not (w_lt w_lit (w_len_list (w_arg rfl))));rw[Ae]at g
  refine Nat.le_of_not_lt λ q=>?_
  have p:(n:Int)<((ns.length:Nat):Int):=by lia
  first
   | (rw[Cd p]at g;exact absurd g (by decide))
   | (simp at g;lia)
 cases i with
 |cons w1 w2=>
  cases w2;cases w1 with
  |list ho hall=>exact⟨_,_,ns,rfl,rfl,ho,T2 ns _ hall,e⟩
def T5(l:OpenLaw)(args:List WData):l.row.toRowW.claim.post args (.bool true) args=true:=
 postW_of (r:=l.row.toRowW) (X:=(true==true))
  (show WShape.has [] (.bool true) .bool=true by first|rfl|decide|simp[WShape.has,WShape.arms,WShape.armsAll])
  (show (WTm.eq .res (.lit (.bool true))).value [] {args:=args,res:=some (.bool true),after:=args}=some (.bool (true==true)) from w_eq_bool (w_res rfl) w_lit) rfl
def attach_call{l:OpenLaw}{n:Nat}{q:Program}{loose:List Str}{XP:(Str->Option Value)->Heap->Prop}{YP:World->Heap->Prop}{d:DefRec}
  (v:l.most=some n) (j:d.params.defaults=[])
  (call:∀(w:World)(s₀ b:Shared)(mg mb:Str->Option Value)(e:Addr)(o:Obj)(pm cd doc:Value)(a:Addr)(vs:List Value)(ns:List Int),
   Ground q loose [] XP w s₀ mg mb b.heap->YP w b.heap->
   b.heap.get? e=some o->o.data=.func (docDef d.name d.params d.body d.scope pm cd doc)->b.heap.CodeRec cd d.name->mg d.name=some (.ref e)->
   b.heap.get? a=some {cls:= .type "list",data:= .seq vs.toArray}->IntsAre vs ns->ns.length<=n->b.gens= #[]->
   codeAny (model l.prog w) callerA (.call (.ref e) ⟨[.ref a],[]⟩) (λ r s'=>r=.ok (.ret (.bool true))/\OldK b.heap s'.heap/\s'.os=b.os/\AllBare s'.gens) b):
  WalkO q loose XP YP l.row.toRowW d [] (λ f vs=>PySem.call f vs):=by
 intro w s₀ b mg mb G Y e o pm cd doc x kV y hd k s m z args t H g u A p B;obtain rfl:x=.none:=Dflts.none s j;obtain rfl:kV=.none:=Dflts.noKw s;obtain⟨a,vs,ns,rfl,rfl,h,c,i⟩:=T4 v g p
 refine enter_call (Dd (call w s₀ b mg mb e o pm cd doc a vs ns G Y y (fd_plain hd) k m h c i z) λ r s' C=>?_)
 obtain⟨rfl,h2,D,E⟩:=C;exact⟨.inl ⟨.bool true,.bool true,[],rfl,λ _=>rfl,.bool true,T5 l _,λ _=>⟨List.Pairwise.nil,λ _ F=>(nomatch F)⟩⟩,h2,D,E⟩
end Att
namespace L2
open PySem PySem.Spec PyProof.Rows
theorem N2:∀{vs:List Value}{ns:List Int},IntsAre vs ns->Vals (ns.map V.int) vs
 |_,_,.nil=>.nil
 |_,_,.cons n t h=>.cons ⟨t,rfl⟩ (N2 h)
def Only(H:Hp):Prop:=∀b,H b=none\/∃o xs,H b=some (.frz o (.lst xs))
def T6{P:Program}{w:World}{K:FG}{mg mb:Str->Option Value}{CX:jS}{k:Nat}{E a:Addr}{fd:FuncData}{x:Str}{sp:Sp}{c:Shared}{vs:List Value}{ns:List Int}
  (N:K.In c.heap) (p:c.heap.Ns mainGlobals mg) (g:c.heap.Ns builtinsNs mb) (G:∀x:Str,x≠"__name__" ->mb x=bootBuiltins x) (t:c.heap.NoLimit) (T:c.gens= #[])
  (D:c.heap.get? a=some {cls:= .type "list",data:= .seq vs.toArray}) (hi:IntsAre vs ns) (O:ns.length<=sizeLine) (U:Room k callerA)
  (F:∀base:Heap,K.In base->base.Ns mainGlobals mg->FnOk P w K mg base CX k E fd [x] sp) (l:∀(s:Shared)(u:Value),BindsTo s fd ⟨[u],[]⟩ [(x,u)])
  (I:∀H:Hp,Only H->SqL K H a (ns.map V.int)->sp [.ref a] H (λ v _=>v=.bl true) λ _ _ _=>False)
  (J:∀H e s',CX [] H c (λ _ _ _=>False) e s'->False):
  codeAny (model P w) callerA (.call (.ref E) ⟨[.ref a],[]⟩) (λ r s'=>r=.ok (.ret (.bool true))/\OldK c.heap s'.heap/\s'.os=c.os/\AllBare s'.gens) c:=by
 have Q:=N2 hi;have y:=hi.length;have j:∀H:Hp,Only H->SqL K H a (ns.map V.int)->HOk P w H c.heap->(∀b,H b≠none->b=a)->(H a≠none->K.lookup a=none)->
   codeAny (model P w) callerA (.call (.ref E) ⟨[.ref a],[]⟩) (λ r s'=>r=.ok (.ret (.bool true))/\OldK c.heap s'.heap/\s'.os=c.os/\AllBare s'.gens) c:=by
  intro H R W hok S X;have f:∀{b:Addr}{o:Obj},c.heap.get? b=some o->H b=none->(hidT c.heap H).get? b=some o:=λ e n=>RB e n
  have L:∀{b:Addr}{o:Obj}{es:Array DictEntry}{ep:Nat},c.heap.get? b=some o->o.data=.dict es ep->H b=none:=λ {b o es ep} e d=>by
   cases q:H b with
   |none=>rfl
   |some u=>
    have M:b=a:=S b (by rw[q];simp)
    subst M;rw[D]at e;cases e;have d':Data.seq vs.toArray _=Data.dict es ep:=d;cases d'
  have i:∀{b:Addr}{m:Str->Option Value},c.heap.Ns b m->(hidT c.heap H).Ns b m:=λ {b m} ⟨o,es,ep,e,d,r⟩=>⟨o,es,ep,f e (L e d),d,r⟩
  have A:K.In (hidT c.heap H):=λ b o e=>f (N b o e) (by
   cases q:H b with
   |none=>rfl
   |some u=>
    have M:b=a:=S b (by rw[q];simp)
    subst M;rw[X (by rw[q];simp)]at e;cases e)
  have Y:Mod K mg (hidT c.heap H):=⟨A,i p,⟨mb,i g,G⟩,let ⟨mc,h1,h2⟩:=t;⟨mc,i h1,h2⟩⟩;have Z:Env0 P w K mg (hidT c.heap H) callerA [] c H:=⟨rfl,Y,λ b o e=>RC e,Nat.le_of_eq (RA _ _),trivial,λ b g=>absurd (show b∈([]:List Addr) from g) (by simp),hok,.of_eq T⟩
  refine Dd ((F _ A (i p)).run callerA [] c H ⟨[.ref a],[]⟩ [.ref a] [.ref a] _ _ U Z (l c (.ref a)) (.cons rfl .nil) (I H R W)) λ r s' h=>?_
  cases r with
  |error e=>exact (J H e s' h).elim
  |ok fl=>
   cases fl with
   |next|brk|cont=>exact False.elim h
   |ret u=>
    obtain⟨v,H',os,bare,un,B,r',q⟩:=h;have q':v=.bl true:=q;subst q';obtain rfl:u=Value.bool true:=r'
    refine⟨rfl,OldK.of_keep λ b o e=>?_,os,bare⟩
    cases q:H b with
    |none=>exact un.keep b o e q (by intro z;exact absurd (show b∈([]:List Addr) from z) (by simp)) (by simp)
    |some u=>
     rcases R b with z|⟨ob,xs,z⟩
     .rw[q]at z;cases z
     .have z2:=un.frzs b ob _ z
      obtain⟨e1,_⟩:=hok b _ z;obtain⟨e2,_⟩:=B b _ z2;rw[e]at e1;cases e1;exact e2
 cases hk:K.lookup a with
 |some o=>
  have e:=N a o hk;rw[D]at e;cases e
  refine j (λ _=>none) (λ _=>.inl rfl) (.inr ⟨_,vs.toArray,_,hk,rfl,rfl,rfl,by rw[Aq,y];exact O,by simpa using Q⟩) (λ b u z=>by have C:(none:Option HO)=some u:=z;cases C) (λ b z=>absurd rfl z) λ z=>absurd rfl z
 |none=>
  refine j (λ b=>if b=a then some (.frz {cls:= .type "list",data:= .seq vs.toArray} (.lst (ns.map V.int))) else none) (λ b=>?_) (.inl (.inr ⟨{cls:= .type "list",data:= .seq vs.toArray},Ab rfl⟩)) (λ b u z=>?_) (λ b z=>?_) λ _=>hk
  .by_cases g:b=a
   .exact .inr ⟨_,_,Ab g⟩
   .exact .inl (Ac g)
  .by_cases g:b=a
   .have C:=(Ab g).symm.trans z
    cases C;subst g;exact⟨D,by rw[Ae];exact O,vs,_,Q,D⟩
   .have C:=(Ac g).symm.trans z
    cases C
  .by_cases g:b=a
   .exact g
   .exact absurd (Ac g) z
noncomputable def ql(s:Stmt)(j:Nat):Stmt:=match s with
 |.ClassDef _ _ _ body _ _ _ _ _ _ _=>body.getD j (.Pass ⟨0,0,0,0⟩)
 |_=> .Pass ⟨0,0,0,0⟩
noncomputable def FI(s:Stmt):Arguments:=match s with
 |.FunctionDef _ a _ _ _ _ _ _ _ _=>a
 |_=>{posonlyargs:=[],args:=[],vararg:=none,kwonlyargs:=[],kw_defaults:=[],kwarg:=none,defaults:=[]}
noncomputable def BR(s:Stmt):List Stmt:=match s with
 |.FunctionDef _ _ b _ _ _ _ _ _ _=>b
 |_=>[]
noncomputable def zC(s:Stmt):Scope:=match s with
 |.FunctionDef _ _ _ _ _ _ sc _ _ _=>sc
 |_=>{kind:= .function,names:=[],isGenerator:=false,isCoroutine:=false}
abbrev E0:XK:=λ _ _ _=>False
structure Fun(K:FG)(x qual:Str)(st:Stmt)(f:Addr)(fd:FuncData):Prop where
 ex:∃(oc:Value)(od:Option Addr)(kV doc pm:Value)(an:Option Addr)(cdv ct:Value)(osl:Array (Option Value)),
  fd=PySem.W.fnOf x qual (FI st) (BR st) (zC st) .none kV doc pm an cdv ct/\K.lookup f=some ⟨oc,od,.func fd,osl⟩/\PySem.W.codeIn K cdv qual=true
 kp:PySem.W.keepIn K (.ref f)=true
section
variable{P:Program}{w:World}{K:FG}{mg:Str->Option Value}{base:Heap}
def Fun.binds{x qual:Str}{st:Stmt}{f:Addr}{fd:FuncData}{ps:List Str}(F:Fun K x qual st f fd)
  (h:∀(kV doc pm:Value)(an:Option Addr)(cdv ct:Value)(us:List Value),us.length=ps.length->bindArgs (PySem.W.fnOf x qual (FI st) (BR st) (zC st) .none kV doc pm an cdv ct) ⟨us,[]⟩=pure (ps.zip us)):Binds K fd ps []:=by
 obtain⟨oc,od,kV,doc,pm,an,cdv,ct,osl,rfl,b,a⟩:=F.ex;exact .all (h kV doc pm an cdv ct)
end
def N3(h:n<=1000):n<sizeLine:=Nat.lt_of_le_of_lt h (by decide)
section
variable{X:Cx}
def pv(i:Nat)(b:X.N[i]? =some x:=by rfl)(c:Vis X.env.scope x:=by first|exact Or.inl rfl|exact Or.inr (Or.inl rfl)|exact Or.inr (Or.inr rfl))(hd:(x==("__debug__" :Str))=false:=by decide)
 (a:(x==("__classdict__" :Str))=false:=by decide):PE X (.Name x pos) (tVar i):=EY b c hd a
end
end L2
set_option maxHeartbeats 0
namespace L2
open PySem PySem.Spec PyProof.Rows
noncomputable def qD(X:Cx)(N:List Str)(scope:Scope)(cl:List (Str×Addr))(C:Addr)(s:Shared)(H:Hp)(ex:List Addr):Cx where
 prog:=X.prog
 w:=X.w
 K:=X.K
 mg:=X.mg
 base:=X.base
 A:=X.A
 N:=N
 s₀:=s
 H₀:=H
 env:=compEnvC scope cl C X.env
 outer:=X.stack
 stack:=X.stack
 ex:=ex
 fn:=λ _=>false
 calm:=X.calm
 pn:=[]
 xe:=λ _ _=>False
theorem JQ:∀(names:List (Str×NameKind))(b:List (Str×Addr)),(∀y∈names,y.2=.free->∃c,env.cells.lookup y.1=some c)->
  ∃cl,(forIn names b (λ x cs=>match x with|(name,kind)=>if (kind==NameKind.free)=true then (do let a <-cellOf env name;pure (ForInStep.yield ((name,a)::cs))) else pure (ForInStep.yield cs)):Sem (List (Str×Addr)))=pure cl/\
   (∀p∈cl,p∈b\/env.cells.lookup p.1=some p.2)/\(∀y∈names,y.2=.free->∃c,(y.1,c)∈cl)/\∀p∈b,p∈cl
 | [],b,_=>⟨b,by rw[List.forIn_nil],λ p hp=>.inl hp,λ _ h=>(nomatch h),λ _ h=>h⟩
 | (n,k)::r,b,h=>by
  rw[List.forIn_cons]
  by_cases hk:k=.free
  .subst hk
   obtain⟨c,i⟩:=h (n,.free) Aj rfl;obtain⟨cl,e,h1,h2,f⟩:=JQ r ((n,c)::b) λ y d=>h y (Ap _ d)
   have j:cellOf env n=pure c:=by unfold cellOf;rw[i]
   refine⟨cl,?_,λ p hp=>?_,λ y d g=>?_,λ p hp=>f p (Ap _ hp)⟩
   .simp only[Ga,B6,j,pure_bind]
    exact e
   .rcases h1 p hp with q|q
    .rcases Af.mp q with rfl|q
     .exact .inr i
     .exact .inl q
    .exact .inr q
   .rcases Af.mp d with rfl|d
    .exact⟨c,f _ Aj⟩
    .exact h2 y d g
  .obtain⟨cl,e,h1,h2,f⟩:=JQ r b λ y d=>h y (Ap _ d)
   have l:(k==NameKind.free)=false:=by simpa using hk
   refine⟨cl,?_,h1,λ y d g=>?_,f⟩
   .simp only[l,Df,Ca,pure_bind]
    exact e
   .rcases Af.mp d with rfl|d
    .exact absurd g hk
    .exact h2 y d g
theorem N4{α:Type}:∀{l:List (Str×α)}{x:Str}{c:α},(x,c)∈l->∃d,l.lookup x=some d
 | (y,e)::r,x,c,h=>by
  rw[Cb];cases hb:x==y with
  |true=>exact⟨e,rfl⟩
  |false=>
   rcases Af.mp h with q|q
   .cases q;simp at hb
   .exact N4 q
def N5(h:∀y∈scope.names,y.2=.free->∃c,env.cells.lookup y.1=some c):
  ∃cl,closureFor scope env=pure cl/\(∀x c,cl.lookup x=some c->env.cells.lookup x=some c)/\∀y∈scope.names,y.2=.free->∃c,cl.lookup y.1=some c:=by
 obtain⟨cl,e,h1,h2,_⟩:=JQ (env:=env) scope.names [] h
 refine⟨cl,?_,λ x c q=>?_,λ y a b=>?_⟩
 .simp only[closureFor]
  rw[e];rfl
 .rcases h1 _ (C6 q) with z|z
  .cases z
  .exact z
 .obtain⟨c,d⟩:=h2 y a b
  exact N4 d
section
variable{prog:Program}{w:World}{A:Around}{R:Result->Shared->Prop}{s:Shared}
def T7(I:Nat->Shared->Prop)
  (o:∀n s,I n s->wpAny (model prog w) A (pyNext it) (λ r a=>match r with
   |none=>R (.ok .next) a
   |some v=>wpAny (model prog w) A (letOwnedTupleGo target it v) (λ _ b=>wpAny (model prog w) A (assign target env v) (λ _ e=>
    wpAny (model prog w) A (forIn ifs true λ c r=>if r=true then do let ok <-isTrue c env (eval c env);pure (ForInStep.yield ok) else pure (ForInStep.yield r)) (λ ok d=>
     if ok=true then wpAny (model prog w) A (eval elt env) (λ x g=>
      wpAny (model prog w) A (call (.builtin "list.append") [acc,x]) (λ _ i=> ∃m,m<n/\I m i) (λ _ _=>False) g) (λ _ _=>False) d
     else ∃m,m<n/\I m d) (λ _ _=>False) e) (λ _ _=>False) b) (λ _ _=>False) a) (λ _ _=>False) s)
  (n:Nat) (h:I n s):codeAny (model prog w) A (.compLoop (.ListComp elt [⟨target,iter,ifs,0⟩] scope pos) 0 it acc env) R s:=by
 refine codeAny_loop rfl I (λ n s u=>?_) n h
 show wpAny _ A ((compTurn (.ListComp elt [⟨target,iter,ifs,0⟩] scope pos) 0 it acc env).onRaise (λ x=>do noteFrame x env;theTreesLotGoes x)) _ _ s
 refine wpAny_noted ?_
 rw[compTurn_list]
 refine Aa (E7 (Aa (Bv (o n s u) (λ r a j=>?_) λ _ _ f=>f.elim)))
 cases r with
 |none=>exact Ad j
 |some v=>
  refine Aa (Bv j (λ _ b l=>?_) λ _ _ f=>f.elim)
  refine Aa (Bv l (λ _ e p=>Aa (Bv p (λ ok d k=>?_) λ _ _ f=>f.elim)) λ _ _ f=>f.elim)
  cases ok with
  |false=>exact Ad ⟨rfl,k⟩
  |true=>
   exact Aa (Aa (Bv k (λ x g q=>Aa (Bv q (λ _ i t=>Ad (Ad ⟨rfl,t⟩)) λ _ _ f=>f.elim)) λ _ _ f=>f.elim))
end
noncomputable def cst(k:Nat)(fr:List Nat)(σ:St):St:=List.replicate k none++fr.map λ j=>(σ[j]?).join
structure CompScope(X:Cx)(loc free:List Str)(fr:List Nat)(scope:Scope):Prop where
 kind:scope.kind=.function
 cell:∀y∈scope.names,y.2≠ .cell
 names:∀y∈scope.names,y.2=.local->scope.names.lookup y.1=some .local
 frees:∀y∈scope.names,y.2=.free->X.env.kindOf y.1=some .cell\/X.env.kindOf y.1=some .free
 at_:∀(i j:Nat)(x:Str),fr[i]? =some j->free[i]? =some x->X.N[j]? =some x/\scope.names.lookup x=some .free
 len:fr.length=free.length
theorem N6{env:Env}:∀{names:List (Str×NameKind)}{x:Str},(∀y∈names,y.2≠ .cell)->
    ((names.map λ (n,k)=>if (k==NameKind.free && env.scope.kind== .function && env.kindOf n==some .cell) then (n,NameKind.cell) else (n,k)).lookup x=some .cell\/
     (names.map λ (n,k)=>if (k==NameKind.free && env.scope.kind== .function && env.kindOf n==some .cell) then (n,NameKind.cell) else (n,k)).lookup x=some .free)->names.lookup x=some .free
  | [],_,_,h=>by simp at h
  | (n,k)::r,x,hc,h=>by
    have a:= @N6 env r x λ y b=>hc y (Ap _ b)
    rw[Ah]at h;rw[Cb];cases hx:x==n with
    |true=>
      have c:k≠ .cell:=hc (n,k) Aj;dsimp only at h ⊢
      by_cases hb:(k==NameKind.free && env.scope.kind== .function && env.kindOf n==some .cell)=true
      · have:k=.free:=by
          rw[Be,Be]at hb;simpa using hb.1.1
        rw[this]
      · rw[Ac hb,Cb,hx]at h
        rcases h with h|h
        · have:k=.cell:=Option.some.inj h
          exact absurd this c
        · exact h
    |false=>
      dsimp only at h ⊢
      refine a ?_
      by_cases hb:(k==NameKind.free && env.scope.kind== .function && env.kindOf n==some .cell)=true
      · rw[Ab hb,Cb,hx]at h;exact h
      · rw[Ac hb,Cb,hx]at h;exact h
theorem N7{env:Env}:∀{names:List (Str×NameKind)}{x:Str},names.lookup x=some .free->
    ((names.map λ (n,k)=>if (k==NameKind.free && env.scope.kind== .function && env.kindOf n==some .cell) then (n,NameKind.cell) else (n,k)).lookup x=some .cell\/
     (names.map λ (n,k)=>if (k==NameKind.free && env.scope.kind== .function && env.kindOf n==some .cell) then (n,NameKind.cell) else (n,k)).lookup x=some .free)
  | [],_,h=>by simp at h
  | (n,k)::r,x,h=>by
    have a:= @N7 env r x;rw[Ah];rw[Cb]at h;cases hx:x==n with
    |true=>
      rw[hx]at h;have b:k=.free:=Option.some.inj h;subst b;dsimp only
      by_cases hb:(NameKind.free==NameKind.free && env.scope.kind== .function && env.kindOf n==some .cell)=true
      · rw[Ab hb,Cb,hx];exact .inl rfl
      · rw[Ac hb,Cb,hx];exact .inr rfl
    |false=>
      rw[hx]at h;have:=a h;dsimp only
      by_cases hb:(k==NameKind.free && env.scope.kind== .function && env.kindOf n==some .cell)=true
      · rw[Ab hb,Cb,hx];exact this
      · rw[Ac hb,Cb,hx];exact this
section
variable{X:Cx}{pins:AL}{σ:St}{H:Hp}{s:Shared}
def T8(S:CompScope X loc free fr scope)(I:Inv X pins σ H s)
  (a:∀x c,cl.lookup x=some c->X.env.cells.lookup x=some c) (k:∀y∈scope.names,y.2=.free->∃c,cl.lookup y.1=some c)
  (A:h1.Ns s.heap.objs.size (λ _=>none)) (w:∀b o,s.heap.get? b=some o->h1.get? b=some o)
  (d:∀b∈fp,yZ X pins H b) (B:∀b∈fp,∃o,s.heap.get? b=some o):
  Inv (qD X (loc++free) scope cl s.heap.objs.size s H fp) [] (cst loc.length fr σ) H {s with heap:=h1,toks:=t1}:=by
 have C:∀b∈fp,b<s.heap.objs.size:=λ b g=>let ⟨o,e⟩:=B b g;Ai e
 refine⟨⟨I.ok.mod,S.kind,I.ok.glob,I.ok.blt,Ag _,λ x y c e1 e2=>I.ok.inj x y c (a _ _ e1) (a _ _ e2),λ x K=>?_,λ x c f=>(nomatch f),I.ok.hd,I.ok.frames,.inl rfl,λ b g=>?_,I.bs,By I.ok.bsz I.sz,λ b o e g=>?_,λ b g z=>?_,I.stack,I.stkFree⟩,
  rfl,I.bare,Un.kept w,⟨_,A,λ i x v e1 e2 O=>?_⟩,λ x c e=>?_,I.hok.fresh (Ag _),λ x c e=>I.freeC x c (a x c e),λ p hp=>absurd (show p∈([]:AL) from hp) (by simp),I.hok.kept w,?_⟩
 .have q:scope.names.lookup x=some .free:=N6 S.cell K
  exact k (x,.free) (C6 q) rfl
 .exact⟨Aw (C b g),λ x c e=>(d b g).2.2.2.2.1 x c (a x c e)⟩
 .rcases (d b g).2.2.2.1 with z|z
  .exact I.ok.noex b o e z
  .exact absurd (Bj (Ai e) (By I.ok.bsz z)) (B9 _)
 .rcases Af.mp (I.stkSub b z) with e|e
  .exact (d b g).2.1 e
  .exact (d b g).2.2.1 e
 .have n:(loc++free)[i]? =some x:=e1
  unfold cst at e2
  by_cases hi:i<loc.length
  .rw[Bh (by simpa using hi),G8]at e2
   rw[Ab hi]at e2;cases e2
  .have t:loc.length<=i:=Nat.le_of_not_lt hi
   rw[Bo (by simpa using t),Du,Az]at e2
   rw[Bo t]at n;cases hj:fr[i-loc.length]? with
   |none=>rw[hj]at e2;cases e2
   |some j=>
    rw[hj]at e2;have h:(σ[j]?).join=some v:=Option.some.inj e2;obtain⟨L,D⟩:=S.at_ _ j x hj n;have M:σ[j]? =some (some v):=by
     cases q:σ[j]? with
     |none=>rw[q]at h;cases h
     |some z=>rw[q]at h;exact congrArg some h
    have G:=S.frees (x,.free) (C6 D) rfl;obtain⟨m,P,N⟩:=I.loc;obtain⟨u,r,l⟩:=N j x v L M (G.elim (λ z=>.inr (.inl z)) λ z=>.inr (.inr z))
    refine⟨u,r,.inr ⟨N7 D,?_⟩⟩
    obtain⟨c,J⟩:=k (x,.free) (C6 D) rfl;have E:=a x c J
    rcases l with ⟨hk',_⟩|⟨_,c',hc',hcell⟩
    .rcases G with z|z<;>(rw[hk']at z;cases z)
    .rw[E]at hc'
     cases hc';obtain⟨o,F,hd⟩:=hcell;exact⟨c,J,o,w _ _ F,hd⟩
 .obtain⟨v,o,F,hd⟩:=I.cell x c (a x c e)
  exact⟨v,o,w _ _ F,hd⟩
 .show (cst loc.length fr σ).length=(loc++free).length
  unfold cst;rw[Ar,Du,Ae,Ar,S.len]
abbrev T9(J:It)(g:TG)(tc:TT)(te:TE)(e:St)(H:Hp)(Q:VK)(D:Addr):Prop:=
 ∃W:Nat->Nat->List V->St->Hp->Prop,(∃m,W 0 m [] e (zk H D (.lst [])))/\∀i m a σ' H',W i m a σ' H'->H' D=some (.lst a)/\
  ((J.stop i H'/\Q (.ref D) H')\/(J.go i H'/\∃N:List V->St->Hp->Prop,(∀d c H5,N d c H5->∃f,f < m/\W (i+1) f d c H5)/\∀x H2,J.yld i H' x H2->g x σ' H2 λ c H3=>tc c H3 λ b h=>
   if b=true then te c h λ v H5=>H5 D=some (.lst a)/\a.length<sizeLine/\N (a++[v]) c (zk H5 D (.lst (a++[v])))
   else N a c h))
def Ij(a:TI)(k:Nat)(fr:List Nat)(g:TG)(tc:TT)(te:TE):TE:=λ σ H Q=>a σ H λ J H1=> ∀D,H1 D=none->T9 J g tc te (cst k fr σ) H1 Q D
def TB:TT:=λ _ H Q=>Q true H
def PTs(X:Cx)(a:List Expr)(t:TT):Prop:=
 ∀(pins:AL)(s:Shared)(σ:St)(H:Hp)(Q:Bool->Hp->Prop),Inv X pins σ H s->t σ H Q->
  wpAny (model X.prog X.w) X.A (forIn a true λ c r=>if r=true then do let ok <-isTrue c X.env (eval c X.env);pure (ForInStep.yield ok) else pure (ForInStep.yield r)) (TP X pins σ Q) X.xe s
def TC:PTs X [] TB:=λ pins s σ H Q I h=>wpAny_tests_nil ⟨H,I,h⟩
def TF(h:PT X c t):PTs X [c] t:=λ pins s σ H Q I q=>wpAny_tests_one (h pins s σ H Q I q)
structure CompEnd(X:Cx)(pins:AL)(σ:St)(Q:VK)(D C:Addr)(s6:Shared):Prop where
 inv:∃H5,Inv X pins σ H5 s6/\H5 C=none/\Q (.ref D) H5
 ns:∃m,s6.heap.Ns C m
 neL:C≠X.env.locals
 nfs:C∉X.fs
 new:X.s₀.heap.objs.size<=C
 cel:∀x c,X.env.cells.lookup x=some c->c≠C
 pin:∀p∈X.pn++pins,p.1≠C
def N8{elt tg t:Expr}{ifs:List Expr}{loc free:List Str}{fr:List Nat}{scope:Scope}{pos:Pos}{wi:TI}{g:TG}{tc:TT}{te:TE}(hc:X.calm=true)(S:CompScope X loc free fr scope)(hi:PI X tg t wi)
  (hg:∀cl C s H ex,PG (qD X (loc++free) scope cl C s H ex) tg g) (ht:∀cl C s H ex,PTs (qD X (loc++free) scope cl C s H ex) ifs tc) (he:∀cl C s H ex,PE (qD X (loc++free) scope cl C s H ex) elt te)
  (I:Inv X pins σ H s) {Q:VK} (h:Ij wi loc.length fr g tc te σ H Q) {cl:List (Str×Addr)} (hc1:∀x c,cl.lookup x=some c->X.env.cells.lookup x=some c) (hc2:∀y∈scope.names,y.2=.free->∃c,cl.lookup y.1=some c)
  {RR:Value->Addr->Result->Shared->Prop} (hRR:∀D C s6,CompEnd X pins σ Q D C s6->RR (.ref D) C (.ok .next) s6):
  wpAny (model X.prog X.w) X.A (eval t X.env) (λ x s1=>wpAny (model X.prog X.w) X.A (pyIter x) (λ it s2=>wpAny (model X.prog X.w) X.A (newList []) (λ j a=>
   wpAny (model X.prog X.w) X.A (newFunctionEnv scope X.env.globals cl [] X.env.qual none .none (some X.env)) (λ U s4=>
    codeAny (model X.prog X.w) X.A (.compStart (.ListComp elt [⟨tg,t,ifs,0⟩] scope pos) 0 it j {U with scope:=relabel scope X.env}) (RR j U.locals) s4) X.xe a) X.xe s2) X.xe s1) X.xe s:=by
 refine thn (hi pins s σ H _ I h) λ v s1 h1=>thn h1 λ itv s2 h2=>?_
 obtain⟨it,fp,tn,J,H2,e,I2,T,st2,f2,q2⟩:=h2;subst e;have hD:H2 s2.heap.objs.size=none:=I2.hok.fresh (Ag _);obtain⟨W,⟨m0,w0⟩,turn⟩:=q2 s2.heap.objs.size hD
 refine Cu ?_
 generalize hs3:({s2 with heap:=s2.heap.push {cls:= .type "list",dict:=none,data:= .seq ([]:List Value).toArray}}:Shared)=a
 have I3:Inv X pins σ (zk H2 s2.heap.objs.size (.lst [])) a:=by
  rw[<-hs3];exact I2.lnew (its:=[]) (t':=s2.toks) .nil (B5 _)
 have k23:∀b o,s2.heap.get? b=some o->a.heap.get? b=some o:=λ b o q=>by rw[<-hs3];exact As _ q
 have G:∀b∈fp,yZ X pins (zk H2 s2.heap.objs.size (.lst [])) b:=λ b f=>by
  obtain⟨o,e,_⟩:=T.obj _ _ st2 b f;exact⟨by rw[zK (Aw (Ai e))];exact (f2 b f).1,(f2 b f).2⟩
 have o3:∀b∈fp,∃o,a.heap.get? b=some o:=λ b f=>let ⟨o,e,_⟩:=T.obj _ _ st2 b f;⟨o,k23 b o e⟩
 have st3:tn 0 a.heap:=T.keep _ _ _ st2 λ b _ o e=>k23 b o e
 refine wpAny_newFunctionEnv S.cell (by intro y hy;simp at hy) (λ h4 hns hsb=>?_) S.kind
 try dsimp only at hns hsb ⊢
 have k34:∀b o,a.heap.get? b=some o->h4.get? b=some o:=λ b o q=>hsb.extBut b o (Aw (Ai q)) (As _ q)
 have I4:=T8 (t1:=a.toks+([]:List (Str×Value)).length) S I3 hc1 hc2 hns k34 G o3;have hgC:=hg cl a.heap.objs.size a (zk H2 s2.heap.objs.size (.lst [])) fp;have htC:=ht cl a.heap.objs.size a (zk H2 s2.heap.objs.size (.lst [])) fp;have heC:=he cl a.heap.objs.size a (zk H2 s2.heap.objs.size (.lst [])) fp;have st4:tn 0 h4:=T.keep _ _ _ st3 λ b _ o e=>k34 b o e
 generalize hY:qD X (loc++free) scope cl a.heap.objs.size a (zk H2 s2.heap.objs.size (.lst [])) fp=Y at I4 hgC htC heC;have fY:∀{H':Hp},(∀b∈fp,H' b=none)->∀b∈fp,yZ Y [] H' b:=λ hn b f=>by
  subst hY
  refine⟨hn b f,?_,λ z=>?_,.inl f,λ x c e=>(G b f).2.2.2.2.1 x c (hc1 x c e),λ p hp=>absurd (show p∈([]:AL) from hp) (by simp)⟩
  .obtain⟨o,e⟩:=o3 b f
   exact Aw (Ai e)
  .rcases Af.mp (I3.stkSub b z) with e|e
   .exact (G b f).2.1 e
   .exact (G b f).2.2.1 e
 have k:Y.prog=X.prog:=by rw[<-hY];rfl
 have l:Y.w=X.w:=by rw[<-hY];rfl
 have hYK:Y.K=X.K:=by rw[<-hY];rfl
 have B:Y.A=X.A:=by rw[<-hY];rfl
 have E:Y.env=compEnvC scope cl a.heap.objs.size X.env:=by rw[<-hY];rfl
 have L:Y.xe=λ _ _=>False:=by rw[<-hY];rfl
 have hYc:Y.calm=true:=by rw[<-hY];exact hc
 have Z:codeAny (model X.prog X.w) X.A (.compLoop (.ListComp elt [⟨tg,t,ifs,0⟩] scope pos) 0 (.ref it) (.ref s2.heap.objs.size) (compEnvC scope cl a.heap.objs.size X.env))
   (RR (.ref s2.heap.objs.size) a.heap.objs.size) {a with heap:=h4,toks:=a.toks+([]:List (Str×Value)).length}:=by
  refine T7 (λ n s'=> ∃i j σ' H',Inv Y [] σ' H' s'/\tn i s'.heap/\(∀b∈fp,H' b=none)/\W i n j σ' H') ?_ m0 ⟨0,[],_,_,I4,st4,λ b f=>(G b f).1,w0⟩
  rintro n s5 ⟨i,j,M,H5,I5,st5,fr5,w5⟩;obtain⟨hacc,turn5⟩:=turn i n j M H5 w5
  rcases turn5 with ⟨stop,qn⟩|⟨go,N,hN,step⟩
  .have d:=T.done Y k l hYK hYc i [] s5 M H5 (λ _ _=>False) I5 (fY fr5) st5 stop
   rw[B]at d
   refine thn d λ r s6 ⟨hr,I6⟩=>?_
   subst hr;obtain⟨m,hn,_⟩:=id I6.loc;rw[E]at hn;have fC:H5 a.heap.objs.size=none:=by
    have:=I6.free;rw[E]at this;exact this
   have hok6:HOk X.prog X.w H5 s6.heap:=by
    have:=I6.hok;rw[k,l]at this;exact this
   have un6:Un (yx X.stack) fp (zk H2 s2.heap.objs.size (.lst [])) H5 a.heap s6.heap:=by
    have:=I6.base;subst hY;exact this
   have os6:s6.os=a.os:=by
    have:=I6.os;subst hY;exact this
   have IX:Inv X pins σ H5 s6:=I3.call' (ch:=fp) os6 un6 hok6 I6.bare λ b f=>⟨(G b f).2.2.2.1,(G b f).2.1,(G b f).2.2.2.2.1,(G b f).2.2.2.2.2⟩
   refine hRR _ _ s6 ⟨⟨H5,IX,fC,qn⟩,⟨m,hn⟩,Ct I3.lt,I3.nofs (Ag _),I3.sz,λ x c e z=>?_,λ p hp z=>?_⟩
   .obtain⟨v,q⟩:=I3.cell x c e
    exact absurd q.lt (by rw[z];exact B9 _)
   .exact absurd (Ai (I3.pin p hp).1) (by rw[z];exact B9 _)
  .have d:=T.item Y k l hYK hYc i [] s5 M H5 (λ _ _=>False) I5 (fY fr5) st5 go
   rw[B]at d
   refine thn d λ r s6 ⟨u,hr,h6⟩=>?_
   subst hr
   refine thn h6 λ _ s7 ⟨x,H7,I7,r7,y7,st7,fr7⟩=>?_
   have I7':=I7.pinned (fY fr7) (T.obj _ _ st7);have g7:=hgC _ s7 M H7 x u _ I7' r7 (step x H7 y7);rw[k,l,B,E,L]at g7
   refine thn g7 λ _ s8 ⟨O,H8,I8,q8⟩=>?_
   have t8:=htC _ s8 O H8 _ I8 q8;rw[k,l,B,E,L]at t8;have back:∀{P:St}{H9:Hp}{s9:Shared}{F:List V},Inv Y ([]++FD fp s7.heap) P H9 s9->N F P H9->∃m,m<n/\∃i j σ' H',Inv Y [] σ' H' s9/\tn i s9.heap/\(∀b∈fp,H' b=none)/\W i m j σ' H':=λ {P H9 s9 F} I9 w9=>by
    obtain⟨m',hm,w9⟩:=hN _ _ _ w9
    refine⟨m',hm,i+1,F,P,H9,I9.unpinned,T.keep _ _ _ st7 λ b f o e=>(I9.pin (b,o) (B1 _ (B1 _ (Ic f e)))).1,λ b f=>?_,w9⟩
    obtain⟨o,e,d⟩:=T.obj _ _ st7 b f;exact (I9.pin (b,o) (B1 _ (B1 _ (Ic f e)))).2.1
   refine thn t8 λ ok s9 ⟨H9,I9,q9⟩=>?_
   cases ok with
   |false=>
    rw[Ac (by simp)]at q9 ⊢
    exact back I9 q9
   |true=>
    rw[Ab rfl]at q9 ⊢;have e9:=heC _ s9 O H9 _ I9 q9;rw[k,l,B,E,L]at e9
    refine thn e9 λ y qr ⟨z,H10,I10,r10,R,hlen,w10⟩=>?_
    have a10:=AZ (X:=Y) _ qr O H10 (.ref s2.heap.objs.size) [z] (.ref s2.heap.objs.size) [y] (λ _ H'=>N (j++[z]) O H') I10 rfl (.cons r10 .nil) ⟨_,_,z,rfl,rfl,R,hlen,w10⟩
    rw[k,l,B,L]at a10;exact thn a10 λ _ s11 ⟨_,H11,I11,_,w11⟩=>back I11 w11
 exact codeAny_compStart_list Z (T.self X.A 0 _ _ _ st4 Z)
def TH(k:X.calm=true)(S:CompScope X loc free fr scope)(hi:PI X tg iter wi)
  (l:∀cl C s H ex,PG (qD X (loc++free) scope cl C s H ex) tg g) (n:∀cl C s H ex,PTs (qD X (loc++free) scope cl C s H ex) ifs tc) (p:∀cl C s H ex,PE (qD X (loc++free) scope cl C s H ex) elt te)
  (hs:∀x,foldedSetIterable iter X.env x=pure x:=by intro _;rfl):PE X (.ListComp elt [⟨tg,iter,ifs,0⟩] scope pos) (Ij wi loc.length fr g tc te):=by
 intro pins s σ H Q I h;rw[eval_ListComp];obtain⟨cl,c,d,f⟩:=N5 (scope:=scope) (env:=X.env) λ y r t=>I.ok.has y.1 (S.frees y r t)
 refine wpAny_comprehension_free (use:=none) rfl hs c S.kind S.names ?_
 refine N8 (RR:=λ i C=>compPost (model X.prog X.w) X.A X.xe none (EP X pins σ Q) i C) k S hi l n p I h d f λ D C s6 a=>?_
 obtain⟨H5,u,v,q⟩:=a.inv;obtain⟨m,z⟩:=a.ns;exact⟨m,z,λ E j=>⟨.ref D,H5,u.turned (t':=s6.toks) (λ b o B e=>j.extBut b o B e) v a.neL (.inr a.new) a.cel a.pin,rfl,q⟩⟩
def N9(F:X.N.Nodup)(c:X.N[i]? =some y)(t:X.env.scope.names.lookup y=some .local)
  (G:X.calm=true) (S:CompScope X loc free fr scope) (hi:PI X tg iter wi)
  (J:∀cl C s H ex,PG (qD X (loc++free) scope cl C s H ex) tg g) (K:∀cl C s H ex,PTs (qD X (loc++free) scope cl C s H ex) ifs tc) (M:∀cl C s H ex,PE (qD X (loc++free) scope cl C s H ex) elt te)
  (hs:∀x,foldedSetIterable iter X.env x=pure x:=by intro _;rfl)
  (d:swapsWith (.ListComp elt [⟨tg,iter,ifs,0⟩] scope pos) (some (.Name y py)) spos.line X.env=pure true:=by rfl):
  PS X (.Assign [.Name y py] (.ListComp elt [⟨tg,iter,ifs,0⟩] scope pos) spos) (tAsg (Ij wi loc.length fr g tc te) (FA i)):=by
 intro pins s σ H D I h;obtain⟨cl,f,j,k⟩:=N5 (scope:=scope) (env:=X.env) λ y O P=>I.ok.has y.1 (S.frees y O P)
 rw[exec_Assign_Name_used _ _ _ _ d]
 refine Aa (E7 (Aa ?_))
 show wpAny _ X.A (do let _ <-comprehension (.ListComp elt [⟨tg,iter,ifs,0⟩] scope pos) scope X.env _ (newList []) false (eval iter X.env) (some (assign (.Name y py) X.env))) _ _ s
 refine Aa (Bv (wpAny_comprehension_free (use:=some (assign (.Name y py) X.env)) (Q:=λ _ s'=>SP X pins D .next s') rfl hs f S.kind S.names ?_) (λ _ s' R=>Ad (Ad R)) λ _ _ e=>e)
 refine N8 (RR:=λ l C=>compPost (model X.prog X.w) X.A X.xe (some (assign (.Name y py) X.env)) (λ _ s'=>SP X pins D .next s') l C) G S hi J K M I h j k λ L C s6 a=>?_
 obtain⟨H5,u,B,q⟩:=a.inv;obtain⟨m,n,es,ep,T,hd,U⟩:=a.ns;show wpAny _ X.A (assign (.Name y py) X.env (.ref L)) _ _ s6;have V:Inv X (pins++[(C,n)]) σ H5 s6:=u.pins_of λ p hp=>(Bc.mp hp).elim (λ z=>u.pin p (B1 _ z)) λ z=>by
  rw[Au.mp z];exact⟨T,B,a.neL,a.nfs,λ v e=>by rw[hd]at e;cases e⟩
 refine wpAny_assign_Name (EX V F c (.inl t) (v:= .ref L) rfl (λ s' E=>?_) (.inr t))
 have W:=E.pin (C,n) (B1 _ (B1 _ Aj))
 refine⟨m,⟨n,es,ep,W.1,hd,U⟩,λ Z r=>?_⟩
 exact⟨_,H5,E.unpinned.turned (t':=s'.toks) (λ b o Y e=>r.extBut b o Y e) B a.neL (.inr a.new) a.cel a.pin,q⟩
end
section
variable{X:Cx}{pins:AL}{σ:St}{H:Hp}{s:Shared}{h':Heap}
def Inv.turnLay{ch:List Addr}{a:Addr}{o:HO}{t':Nat}(I:Inv X pins σ H s)(k:∀b u,b∉ch->s.heap.get? b=some u->h'.get? b=some u)(d:∀b∈ch,yZ X pins H b)
  (hp:s.heap.objs.size<=a) (new:ObjOk X.prog X.w (zk H a o) h' a o):Inv X pins σ (zk H a o) {s with heap:=h',toks:=t'}:=by
 have h:H a=none:=I.hok.fresh hp;have ne:∀b u,s.heap.get? b=some u->b≠a:=λ b u e=>Aw (Bj (Ai e) hp)
 have nc:∀b u,H b=some u->b∉ch:=λ b u e f=>by have:=(d b f).1;rw[e]at this;cases this
 refine I.step (g':=s.gens) (d':=s.drawn) (ch:=ch) (λ b f=>⟨(d b f).2.2.2.1,(d b f).2.1,(d b f).2.2.2.2.1,(d b f).2.2.2.2.2⟩) (λ b u _ _ g e _=>k b u g e) (λ b u _ _ g e _=>⟨u.slots,k b u g e⟩)
  (λ b u _ e n=>by rw[zK (ne b u e)];exact n) (λ b u g e=>⟨u,k b u g e⟩) (λ b xs e=>by rw[zK (qA e h)];exact e) (λ b u v e=>by rw[zK (qA e h)];exact e)
  (λ m j=>?_) (λ b u e=>?_) I.bare
 .obtain⟨i,es,ep,l,r⟩:=j
  refine⟨i,es,ep,k _ i (λ f=>(d _ f).2.1 rfl) l,r⟩
 .by_cases f:b=a
  .subst f;rw[yt]at e;cases e;exact new
  .rw[zK f]at e
   refine (I.hok b u e).stay (λ c v g q=>k c v ?_ q) (λ c q=>by rw[zK (qA q h)];exact q) λ c xs q=>by rw[zK (qA q h)];exact q
   rcases g with z|z
   .rw[z];exact nc b u e
   .exact nc c _ z
def Inv.turnedL{ch:List Addr}{t':Nat}(I:Inv X pins σ H s)(k:∀b u,b∉ch->s.heap.get? b=some u->h'.get? b=some u)(a:∀b∈ch,yZ X pins H b):Inv X pins σ H {s with heap:=h',toks:=t'}:=by
 have nc:∀b u,H b=some u->b∉ch:=λ b u e d=>by have:=(a b d).1;rw[e]at this;cases this
 refine I.step (g':=s.gens) (d':=s.drawn) (ch:=ch) (λ b d=>⟨(a b d).2.2.2.1,(a b d).2.1,(a b d).2.2.2.2.1,(a b d).2.2.2.2.2⟩) (λ b u _ _ f e _=>k b u f e) (λ b u _ _ f e _=>⟨u.slots,k b u f e⟩)
  (λ b u _ e n=>n) (λ b u f e=>⟨u,k b u f e⟩) (λ b xs e=>e) (λ b u v e=>e) (λ m h=>?_) (λ b u e=>?_) I.bare
 .obtain⟨g,es,ep,i,r⟩:=h
  refine⟨g,es,ep,k _ g (λ d=>(a _ d).2.1 rfl) i,r⟩
 .refine (I.hok b u e).stay (λ c v f q=>k c v ?_ q) (λ c q=>q) λ c xs q=>q
  rcases f with z|z
  .rw[z];exact nc b u e
  .exact nc c _ z
end
section
variable{X:Cx}
def TJ:qH X (.builtin "isinstance") (λ xs H Q=> ∃x T t b,xs=[x,.ty T]/\TyOf X.K H x t/\PySem.W.kitOne X.K t (.type T)=some b/\Q (.bl b) H):=by
 intro pins s σ H xs us Q I r h;obtain⟨x,T,t,b,rfl,ty,e,q⟩:=h;obtain⟨u,v,rfl,a,c⟩:=FE r;cases c;exact SL I a ty e λ tk=>⟨.bl b,H,I.tok tk,rfl,q⟩
def JR{A:Around}(h:A.handled=none):A.in1.handled=none:=h
def TK(l:X.calm=true):qH X (.builtin "all") (λ xs H Q=> ∃(p:Addr)(bs:List Bool),xs=[.ref p]/\SqL X.K H p (bs.map V.bl)/\Q (.bl (bs.all id)) H):=by
 intro pins s σ H xs us Q I r h;obtain⟨p,bs,rfl,m,q⟩:=h;obtain⟨u,rfl,t⟩:=BQ r;cases t;obtain⟨its,g,pl,hz⟩:=I.list m
 refine call_all_walk (E8 pl.isList ?_)
 have hp:p<s.heap.objs.size:=by obtain⟨o,n,e,_⟩:=pl;exact Ai e
 have a:its.length=bs.length:=by rw[<-g.length,Ae]
 refine⟨s.heap.objs.size,_,_,_,_,_,λ i=>bs.getD i true,rfl,Walks.list (JR (I.ok.hd l)) _ p (Aw hp) its.toArray,⟨⟨_,Bf _ rfl,rfl,rfl⟩,pl.isList.push _⟩,?_,λ h' tk k=>?_⟩
 .intro i v s' A B w f
  have c:its[i]? =some v:=by simpa using w
  have hi:i<bs.length:=by rw[<-a];exact (Ao.mp c).1
  obtain⟨u,j,y⟩:=g.get (i:=i) (x:= .bl bs[i]) (by simp[hi])
  rw[c]at j;cases j;cases y
  refine Cg ?_
  have e:bs.getD i true=bs[i]:=by simp[hi]
  dsimp only at f;rw[e]at f;exact f
 .refine⟨.bl _,H,I.kept (t':=tk) (λ b o e=>k b o (by simpa using Aw (Ai e)) (As _ e)),?_,q⟩
  show Value.bool _=Value.bool _
  congr 1
  rw[Aq,a];have:∀(bs:List Bool)(n:Nat),n=bs.length->(List.range n).all (λ i=>bs.getD i true)=bs.all id:=by
   intro bs n C;rw[Gb,Gc,Gc]
   constructor
   .intro h x z
    obtain⟨i,hi,rfl⟩:=List.mem_iff_getElem.mp z;have:=h i (Bi.mpr (by lia))
    simpa[hi] using this
   .intro h i hi
    have d:i<bs.length:=by have:=Bi.mp hi;lia
    have:=h bs[i] (C8 d);simpa[d] using this
  exact this bs _ rfl
def TL(l:X.calm=true):qH X (.builtin "any") (λ xs H Q=> ∃(p:Addr)(bs:List Bool),xs=[.ref p]/\SqL X.K H p (bs.map V.bl)/\Q (.bl (bs.any id)) H):=by
 intro pins s σ H xs us Q I r h;obtain⟨p,bs,rfl,m,q⟩:=h;obtain⟨u,rfl,t⟩:=BQ r;cases t;obtain⟨its,g,pl,hz⟩:=I.list m
 refine call_any_walk (E8 pl.isList ?_)
 have hp:p<s.heap.objs.size:=by obtain⟨o,n,e,_⟩:=pl;exact Ai e
 have a:its.length=bs.length:=by rw[<-g.length,Ae]
 refine⟨s.heap.objs.size,_,_,_,_,_,λ i=>bs.getD i false,rfl,Walks.list (JR (I.ok.hd l)) _ p (Aw hp) its.toArray,⟨⟨_,Bf _ rfl,rfl,rfl⟩,pl.isList.push _⟩,?_,λ h' tk k=>?_⟩
 .intro i v s' A B w f
  have c:its[i]? =some v:=by simpa using w
  have hi:i<bs.length:=by rw[<-a];exact (Ao.mp c).1
  obtain⟨u,j,y⟩:=g.get (i:=i) (x:= .bl bs[i]) (by simp[hi])
  rw[c]at j;cases j;cases y
  refine Cg ?_
  have e:bs.getD i false=bs[i]:=by simp[hi]
  dsimp only at f;rw[e]at f;exact f
 .refine⟨.bl _,H,I.kept (t':=tk) (λ b o e=>k b o (by simpa using Aw (Ai e)) (As _ e)),?_,q⟩
  show Value.bool _=Value.bool _
  congr 1
  rw[Aq,a];have:∀(bs:List Bool)(n:Nat),n=bs.length->(List.range n).any (λ i=>bs.getD i false)=bs.any id:=by
   intro bs n C;rw[Gb,Dg,Dg]
   constructor
   .rintro⟨i,hi,h⟩
    have d:i<bs.length:=by have:=Bi.mp hi;lia
    exact⟨bs[i],C8 d,by simpa[d] using h⟩
   .rintro⟨x,z,h⟩
    obtain⟨i,hi,rfl⟩:=List.mem_iff_getElem.mp z;exact⟨i,Bi.mpr (by lia),by simpa[hi] using h⟩
  exact this bs _ rfl
theorem JS(ns:List Int):∀k,k<=ns.length->preSum (λ i=>ns.getD i 0) k=(ns.take k).sum
 |0,_=>by simp[preSum]
 |k+1,h=>by
  have a:k<ns.length:=h;have e:ns.take (k+1)=ns.take k++[ns[k]]:=by rw[Fe];simp[a]
  rw[preSum,JS ns k (by lia),e,List.sum_append]
  simp[a]
def JT(ns:List Int):Prop:=∀j,j<ns.length->InLong (ns.getD j 0)/\InLong ((ns.take (j+1)).sum)
def TM(m:X.calm=true):qH X (.builtin "sum") (λ xs H Q=> ∃(p:Addr)(ns:List Int),xs=[.ref p]/\SqL X.K H p (ns.map V.int)/\JT ns/\Q (.int ns.sum) H):=by
 intro pins s σ H xs us Q I r h;obtain⟨p,ns,rfl,w,ok,q⟩:=h;obtain⟨u,rfl,y⟩:=BQ r;cases y;obtain⟨its,g,pl,hz⟩:=I.list w
 refine call_sum_walk (E8 pl.isList ?_)
 have hp:p<s.heap.objs.size:=by obtain⟨o,n,e,_⟩:=pl;exact Ai e
 have a:its.length=ns.length:=by rw[<-g.length,Ae]
 refine⟨s.heap.objs.size,_,_,_,_,_,λ i=>ns.getD i 0,rfl,Walks.list (JR (I.ok.hd m)) _ p (Aw hp) its.toArray,⟨⟨_,Bf _ rfl,rfl,rfl⟩,pl.isList.push _⟩,?_,?_,?_,λ h' tk t' k=>?_⟩
 .intro b f
  have hs:(s.heap.push {cls:= .type "list_iterator",data:= .fields #[.ref p,.int 0 0]}).objs.size=s.heap.objs.size+1:=Ci ..;show b<(s.heap.push {cls:= .type "list_iterator",data:= .fields #[.ref p,.int 0 0]}).objs.size;rw[hs]
  rcases Af.mp f with rfl|f
  .exact C4 _
  .have:b=p:=by simpa using f
   subst this;exact Ff hp
 .intro i v z
  have c:its[i]? =some v:=by simpa using z
  have hi:i<ns.length:=by rw[<-a];exact (Ao.mp c).1
  obtain⟨u,l,A⟩:=g.get (i:=i) (x:= .int ns[i]) (by simp[hi])
  rw[c]at l;cases l;obtain⟨t,e⟩:=A;exact⟨t,by rw[e];simp[hi]⟩
 .intro j B
  have d:j<ns.length:=by rw[<-a];simpa using B
  rw[JS ns (j+1) d];exact ok j d
 .refine⟨.int _,H,I.kept (t':=tk) (λ b o e=>k b o (by simpa using Aw (Ai e)) (As _ e)),⟨t',?_⟩,q⟩
  show Value.int _ _=Value.int _ _
  congr 1
  rw[Aq,a,JS ns _ (Ag _),Cj]
end
end L2
namespace L2
open PySem PySem.W PySem.Spec PyProof.Rows
def Itz(K:FG)(a b:Addr):It:=
 ⟨λ i H=> ∃(xs ys:List V)(x y:V),SqL K H a xs/\SqL K H b ys/\xs[i]? =some x/\ys[i]? =some y,
  λ i H v H'=> ∃(T:Addr)(x y:V),v=.ref T/\H T=none/\H'=zk H T (.tup [x,y])/\(∀xs,SqL K H a xs->xs[i]? =some x)/\∀ys,SqL K H b ys->ys[i]? =some y,
  λ i H=> ∃xs ys,SqL K H a xs/\SqL K H b ys/\(xs.length<=i\/ys.length<=i)⟩
def TN(z TI TO c d a b:Addr)(i:Nat)(h:Heap):Prop:=
 IsZip h z TI TO .none/\IsPair h TI (.ref c) (.ref d)/\(∃u v,IsPair h TO u v)/\h.IsListIter c a i/\h.IsListIter d b i
def TQ{P:Program}{w:World}{K:FG}{m:List Expr} {x1} {tp:Pos} {z TI TO j l a b:Addr} (D:ZipApart z TI TO j l a b):
  Turn P w K (.Tuple m x1 tp) (Itz K a b) [z,TI,TO,j,l] z (TN z TI TO j l a b) where
 mem:=by simp
 obj:=λ i h st c n=>by
  obtain⟨hz,f,⟨u,v,g⟩,⟨o1,e1,_,Z⟩,⟨o2,e2,_,d2⟩⟩:=st;simp only[Af,Bt,Bn]at n
  rcases n with rfl|rfl|rfl|rfl|rfl
  .exact⟨_,hz,λ v e=>by cases e⟩
  .exact⟨_,f,λ v e=>by cases e⟩
  .exact⟨_,g,λ v e=>by cases e⟩
  .exact⟨_,e1,λ v e=>by rw[Z]at e;cases e⟩
  .exact⟨_,e2,λ v e=>by rw[d2]at e;cases e⟩
 keep:=λ i h h' st k=>by
  obtain⟨hz,f,⟨u,v,g⟩,h1,h2⟩:=st;exact⟨k z (by simp) _ hz,k TI (by simp) _ f,⟨u,v,k TO (by simp) _ g⟩,h1.at λ o e=>k j (by simp) o e,h2.at λ o e=>k l (by simp) o e⟩
 item:=λ X hp F G n i pins s σ H E I fp st go=>by
  subst hp F G;obtain⟨hz,f,⟨u,v,g⟩,h1,h2⟩:=st;obtain⟨xs,ys,x,y,t,B,ex,V⟩:=go;obtain⟨vs,J,pv,_⟩:=I.list t;obtain⟨us,L,M,_⟩:=I.list B;obtain⟨W,N,O⟩:=J.get ex;obtain⟨Y,R,S⟩:=L.get V
  refine wpAny_pyNext_zip_item D hz f g h1 h2 pv.isList M.isList (x:=W) (y:=Y) (by simpa using N) (by simpa using R) λ h' a1 a2 a3 a4 a5 a6 C=>?_
  refine⟨_,rfl,wpAny_letOwnedTupleGo_zip a1 λ p b1 b2=>?_⟩
  have nz:s.heap.objs.size≠z:=Ct (Ai hz);have k2:∀c o,c∉[z,TO,j,l]->s.heap.get? c=some o->p.get? c=some o:=λ c o d e=>by
   simp only[Af,Bt,Bn,not_or]at d;exact b2.extBut _ _ d.1 (C c o d.1 d.2.1 d.2.2.1 d.2.2.2 e)
  have I':Inv X pins σ (zk H s.heap.objs.size (.tup [x,y])) {s with heap:=p,toks:=s.toks}:=
   I.turnLay (ch:=[z,TO,j,l]) k2 (λ c d=>fp c (by simp only[Af,Bt,Bn]at d ⊢;rcases d with h|h|h|h<;>simp[h])) (Ag _)
    ⟨by show 2<=sizeLine;decide,[W,Y],.cons O (.cons S .nil),⟨_,b2.extBut _ _ nz a5,rfl,_,rfl⟩⟩
  have nf:H s.heap.objs.size=none:=I.hok.fresh (Ag _)
  refine⟨.ref s.heap.objs.size,_,I',rfl,⟨_,x,y,rfl,nf,rfl,λ xs' q=>?_,λ ys' q=>?_⟩,⟨b1,b2.extBut _ _ D.TIz (C _ _ D.TIz D.TITO D.TIi1 D.TIi2 f),⟨_,_,b2.extBut _ _ D.TOz a2⟩,a3.extBut b2.extBut D.i1z,a4.extBut b2.extBut D.i2z⟩,λ c d=>?_⟩
  .rw[I.list_inj q t];exact ex
  .rw[I.list_inj q B];exact V
  .have T:=fp c d
   have:c≠s.heap.objs.size:=by
    have U:c<s.heap.objs.size:=by
     simp only[Af,Bt,Bn]at d
     rcases d with rfl|rfl|rfl|rfl|rfl
     .exact Ai hz
     .exact Ai f
     .exact Ai g
     .obtain⟨_,e,_⟩:=h1;exact Ai e
     .obtain⟨_,e,_⟩:=h2;exact Ai e
    exact Aw U
   rw[zK this];exact T.1
 done:=λ X hp F G n i pins s σ H E I fp st stop=>by
  subst hp F G;obtain⟨hz,f,⟨u,v,g⟩,h1,h2⟩:=st;obtain⟨xs,ys,t,B,r⟩:=stop;obtain⟨vs,J,pv,_⟩:=I.list t;obtain⟨us,L,M,_⟩:=I.list B;have l1:=J.length;have l2:=L.length
  refine wpAny_pyNext_zip_end (I.ok.hd n) D hz f g h1 h2 pv.isList M.isList ?_ λ h' C=>⟨rfl,?_⟩
  .rcases r with h|h
   .exact .inl (by rw[Hb,Aq];lia)
   .exact .inr (by rw[Hb,Aq];lia)
  .refine I.turnedL (ch:=[z,TO,j,l]) (t':=s.toks) (λ c o d e=>?_) (λ c d=>fp c (by simp only[Af,Bt,Bn]at d ⊢;rcases d with h|h|h|h<;>simp[h]))
   simp only[Af,Bt,Bn,not_or]at d;exact C c o d.1 d.2.1 d.2.2.1 d.2.2.2 e
 self:=λ A i s Q E st h=>wpAny_pyIter_zip st.1 h
def iZip(K:FG)(ta:TA):TI:=λ σ H R=>ta σ H λ vs H1=> ∃(a b:Addr)(xs ys:List V),vs=[.ref a,.ref b]/\SqL K H1 a xs/\SqL K H1 b ys/\R (Itz K a b) H1
def TR{X:Cx}{d:List Expr} {x1} {tp:Pos} {e1 e2:Expr} {ta:TA} {p pos:Pos} (x:Gl X "zip") (y:X.mg "zip" =none) (z:PA X [e1,e2] ta) (hs:starEach [e1,e2] X.env=[(false,eval e1 X.env),(false,eval e2 X.env)]:=by rfl) (f:starEach [e2] X.env=[(false,eval e2 X.env)]:=by rfl):
  PI X (.Tuple d x1 tp) (.Call (.Name "zip" p) [e1,e2] [] pos) (iZip X.K ta):=by
 intro pins s σ H R I h
 refine Call_ (BN I x y (by rfl) (E9 (zt (z pos pins s σ H _ I h) λ us s1 vs H1 g A q1=>?_) (by rw[hs,f]) (by rw[f];rfl)))
 obtain⟨a,b,xs,ys,rfl,B,C,q⟩:=q1;obtain⟨u,v,rfl,D,E⟩:=FE A;cases D;cases E;obtain⟨vs,F,r,_⟩:=g.list B;obtain⟨us,G,t,_⟩:=g.list C;have J:a<s1.heap.objs.size:=by obtain⟨o,n,e,_⟩:=r;exact Ai e
 have L:b<s1.heap.objs.size:=by obtain⟨o,n,e,_⟩:=t;exact Ai e
 refine call_zip_2 r.isList t.isList λ h' hz j k l m M N=>?_
 refine wpAny_pyIter_zip hz ?_
 have O:Inv X pins σ H1 {s1 with heap:=h'}:=g.kept (t':=s1.toks) N
 refine⟨_,[s1.heap.objs.size+4,s1.heap.objs.size+2,s1.heap.objs.size+3,s1.heap.objs.size,s1.heap.objs.size+1],_,_,H1,rfl,O,TQ (zipApart_new J L),⟨hz,j,⟨_,_,k⟩,l,m⟩,λ c w=>?_,q⟩
 have i:s1.heap.objs.size<=c:=by
  simp only[Af,Bt,Bn]at w
  rcases w with rfl|rfl|rfl|rfl|rfl
  all_goals first|exact Ag _|exact Nat.le_add_right _ _
 exact g.fpOk i (g.hok.fresh i)
noncomputable def NA(sc:Scope)(N loc free:List Str)(fr:List Nat)(scope:Scope):Bool:=
 decide (scope.kind=.function) && scope.names.all (λ y=>decide (y.2≠ .cell)) && scope.names.all (λ y=>decide (y.2≠ .local) || decide (scope.names.lookup y.1=some .local)) &&
 scope.names.all (λ y=>decide (y.2≠ .free) || (decide (sc.names.lookup y.1=some .cell) || decide (sc.names.lookup y.1=some .free))) && decide (fr.length=free.length) &&
 (List.range fr.length).all λ i=>match fr[i]?,free[i]? with
  |some j,some x=>decide (N[j]? =some x) && decide (scope.names.lookup x=some .free)
  |_,_=>true
def qY(e1:X.env.scope=sc)(e2:X.N=N)(h:NA sc N loc free fr scope=true):CompScope X loc free fr scope:=by
 unfold NA at h;simp only[Be,Gc,Bool.or_eq_true,Cv]at h;obtain⟨⟨⟨⟨⟨h1,h2⟩,d⟩,e⟩,f⟩,g⟩:=h
 refine⟨h1,λ y c=>h2 y c,λ y c k=>(d y c).elim (λ z=>absurd k z) id,λ y c l=>?_,λ i j x a b=>?_,f⟩
 .show X.env.scope.names.lookup y.1=some .cell\/X.env.scope.names.lookup y.1=some .free
  rw[e1];exact (e y c).elim (λ z=>absurd l z) id
 .have hi:i<fr.length:=(Ao.mp a).1
  have:=g i (Bi.mpr hi);rw[a,b]at this;simp only[Be,Cv]at this;rw[e2];exact this
def pgc(i:Nat)(N:List Str)(nd:N.Nodup)(a:X.N=N)(hi:N[i]? =some x)(b:jT X.env.scope x)(c:X.env.scope.names.lookup x=some .local):PG X (.Name x pos) (FA i):=
 Ib (a ▸ nd) (by rw[a];exact hi) b (.inr c)
structure Dfn(K:FG)(mg:Str->Option Value)(x:Str)(st:Stmt)(ps:List Str)(f:Addr)(fd:FuncData):Prop where
 F:Fun K x x st f fd
 b:Binds K fd ps []
 g:mg x=some (.ref f)
structure DfnM(K:FG)(x qual:Str)(st:Stmt)(ps:List Str)(f:Addr)(fd:FuncData):Prop where
 F:Fun K x qual st f fd
 b:Binds K fd ps []
section
variable{X:Cx}{K:FG}
def pgT(n:Nat)(b:X.K=K)(c:X.calm=true)(h:jV X es t)(d:(assignEach es X.env).length=n:=by rfl)(a:(assignEach es X.env).findIdx? (·.1)=none:=by rfl):PG X (.Tuple es k pos) (gTup K n t):=by
 subst b;exact jZ c h d a
end
end L2
namespace L2
open PySem PySem.Spec PyProof.Rows
def TrD(h base:Heap)(e:Addr)(cls a0:Value)(dd:Option Addr)(fl:Value):Prop:=
 ∃oe vs T a b,h.get? e=some oe/\(oe.cls=cls/\oe.dict=dd/\vs[0]? =some a0)/\oe.data=.fields vs/\vs[1]? =some (.ref T)/\base.get? T=none/\T≠e/\h.get? T=some a/\a.data=.fields b/\b[3]? =some fl
def jP(base:Heap)(l:List Env)(e:Addr)(cls a0:Value)(dd:Option Addr)(fl:Value)(h:Heap):Prop:=base.StaysIn h/\base.get? e=none/\h.FunFrames base l/\TrD h base e cls a0 dd fl
def TU(o:Obj)(f:Array Value->Array Value):(Obj.mapFields f o).dict=o.dict:=by
 obtain⟨c,d,dt,sl⟩:=o;cases dt<;>rfl
section
variable{M:Model}{A:Around}{E:VP}{s:Shared}{base:Heap}{env:Env}{outer l:List Env}{L e:Addr}{oe:Obj}{vs:Array Value}{head a0 cls fl:Value}{dd:Option Addr}{hadNext:Bool}{Q:Unit->Shared->Prop}
theorem NB(m:A.frames=some (env::outer))(k:s.heap.FunFrames base (env::outer))(C:env.frame=some L)
  (n:s.heap.get? e=some oe) (p:base.StaysIn s.heap) (f:base.get? e=none) (hd:oe.data=.fields vs) (i:1<vs.size) (h0:vs[0]? =some a0)
  (h:∀h',jP base (env::outer) e oe.cls a0 oe.dict (rawInt L) h'->s.heap.UpToSlots h'->Q () {s with heap:=h'}):
  wpAny M A (do let a <-PySem.frameOf env;let pl <-entryPlaceOf L hadNext;let b <-EntryCells.newEntry head a .none (rawInt L) .none pl;setField (.ref e) 1 b) Q E s:=by
 have ne:e∉(env::outer).filterMap (·.frame):=λ r=>by
  obtain⟨_,o,u,c⟩:=k.mem r;rw[n]at u;cases u;exact c vs hd
 refine Aa (wpAny_frameOf_fun m k C λ g l=>Aa (wpAny_entryPlaceOf λ pl j=>?_))
 unfold EntryCells.newEntry newFields
 refine Aa (Cu ?_ (j.sizeOk5 _ _ _ _ _))
 generalize hO:({cls:= .type "traceback",dict:=none,data:= .fields ([head,.ref L,.none,rawInt L,.none]++(if pl.isEmpty then List.replicate 6 Value.none else pl)).toArray}:Obj)=O
 have v:g.get? e=some oe:=(l.2.1 e ne).trans n;have w:base.StaysIn g:=λ b o q=>(l.2.1 b λ r=>by rw[(k.mem r).1]at q;cases q).trans (p b o q)
 have x:=As (h:=g) O v
 refine Eb x hd i (h _ ?_ ?_)
 all_goals have te:g.objs.size≠e:=Ct (Ai v)
 all_goals have y:=Fg hd (·.setIfInBounds 1 (Value.ref g.objs.size))
 all_goals have D:=Cp (Obj.mapFields (·.setIfInBounds 1 (Value.ref g.objs.size))) x (Hc y)
 all_goals have F:=(C7 (g.push O) (Obj.mapFields (·.setIfInBounds 1 (Value.ref g.objs.size))) (Bm te)).trans (Bf g (by rw[<-hO];rfl))
 all_goals have keep:∀b o,b≠e->g.get? b=some o->((g.push O).update e (Obj.mapFields (·.setIfInBounds 1 (Value.ref g.objs.size)))).get? b=some o:=λ b o t d=>(C7 _ _ (Bm t)).trans (As _ d)
 all_goals have B:∀b o,s.heap.get? b=some o->(∀vs,o.data≠ .fields vs)->b≠e:=λ b o d c q=>by rw[q,n]at d;cases d;exact c vs hd
 .refine⟨λ b o q=>keep b o (λ z=>by rw[z,f]at q;cases q) (w b o q),f,k.of_keeps λ b o d c=>?_,?_⟩
  .obtain⟨sl,hs⟩:=l.2.2 b o d
   exact⟨_,keep b _ (B b o d c) hs,rfl⟩
  .exact⟨_,_,g.objs.size,O,([head,.ref L,.none,rawInt L,.none]++(if pl.isEmpty then List.replicate 6 Value.none else pl)).toArray,D,⟨Obj.cls_mapFields _ _,TU _ _,by rw[Array.getElem?_setIfInBounds_ne (by decide)];exact h0⟩,y,by simp[i],w.fresh,te,F,by rw[<-hO],by first|(simp;done)|(rcases j with rfl|⟨_,_,_,_,_,_,_,rfl⟩<;>simp)⟩
 .intro b o d c
  obtain⟨sl,hs⟩:=l.2.2 b o d;exact⟨sl,keep b _ (B b o d c) hs⟩
theorem FJ(n:Option Addr)(R:jP base l e cls a0 dd fl s.heap)(h:∀h',jP base l e cls a0 dd (n.elim .none λ f=>rawInt f) h'->s.heap.UpToSlots h'->Q () {s with heap:=h'}):wpAny M A (setFlight (.ref e) n) Q E s:=by
 obtain⟨k,w,x,oe,vs,T,B,r,t,i,hd,h1,j,m,p,d,y⟩:=R;have u:3<r.size:=(Dh.mp y).1;have g:∀b,b≠T->(s.heap.update T (Obj.mapFields (·.setIfInBounds 3 (n.elim Value.none λ f=>rawInt f)))).get? b=s.heap.get? b:=λ b c=>C7 _ _ (Bm c)
 have v:∀b o,s.heap.get? b=some o->(∀vs,o.data≠ .fields vs)->b≠T:=λ b o c a q=>by rw[q,p]at c;cases c;exact a r d
 unfold setFlight
 refine Aa (wpAny_field t hd h1 ?_)
 rw[Ab (show (Value.ref T !=Value.none)=true from by simp)]
 refine Eb p d u (h _ ⟨λ b o q=>(g b λ z=>by rw[z,j]at q;cases q).trans (k b o q),w,x.of_keeps λ b o c a=>⟨o,(g b (v b o c a)).trans c,rfl⟩,?_⟩ λ b o c a=>⟨o.slots,(g b (v b o c a)).trans c⟩)
 exact⟨oe,vs,T,_,_,(g e (Bm m)).trans t,i,hd,h1,j,m,Cp _ p (Hc (Fg d _)),Fg d _,by simp[u]⟩
theorem NC(g:A.frames=some (env::outer))(m:env.frame=some L)(R:jP base (env::outer) e cls a0 dd .none s.heap)
  (h:∀h',jP base (env::outer) e cls a0 dd (rawInt L) h'->s.heap.UpToSlots h'->Q () {s with heap:=h'}):wpAny M A (noteFrame (.ref e) env) Q E s:=by
 obtain⟨k,t,v,oe,vs,T,y,w,n,⟨rfl,rfl,h0⟩,hd,h1,i,j,l,f,p⟩:=R;unfold noteFrame;simp only[m]
 refine Aa (wpAny_field n hd h1 ?_)
 rw[Ab (show (Value.ref T !=Value.none)=true from by simp)]
 refine Aa (wpAny_field l f p ?_)
 rw[Ac (show ¬((Value.none==rawInt L)=true) from by simp[rawInt])]
 refine Aa (Eb l f (Dh.mp p).1 ?_)
 have d:∀b,b≠T->(s.heap.update T (Obj.mapFields (·.setIfInBounds 3 Value.none))).get? b=s.heap.get? b:=λ b c=>C7 _ _ (Bm c)
 have r:∀b o,s.heap.get? b=some o->(∀vs,o.data≠ .fields vs)->b≠T:=λ b o c a q=>by rw[q,l]at c;cases c;exact a w f
 exact NB g (v.of_keeps λ b o c a=>⟨o,(d b (r b o c a)).trans c,rfl⟩) m ((d e (Bm j)).trans n) (λ b o q=>(d b λ z=>by rw[z,i]at q;cases q).trans (k b o q)) t hd (Dh.mp h1).1 h0
  λ h' x u=>h h' x λ b o c a=>u b o ((d b (r b o c a)).trans c) a
theorem TV(a:A.frames=some (env::outer))(i:s.heap.FunFrames base (env::outer))(f:env.frame=some L)(g:s.heap.get? e=some oe)(b:base.StaysIn s.heap)(c:base.get? e=none)(hd:oe.data=.fields vs)(h1:vs[1]? =some .none)(h0:vs[0]? =some a0)
  (h:∀h',jP base (env::outer) e oe.cls a0 oe.dict .none h'->s.heap.UpToSlots h'->Q () {s with heap:=h'}):wpAny M A (leaving env (.ref e)) Q E s:=by
 unfold leaving noteFrame;simp only[f]
 refine Aa (Aa (wpAny_field g hd h1 ?_))
 rw[Ac (by decide)]
 exact NB a i f g b c hd (Dh.mp h1).1 h0 λ h' x u=>FJ none x λ d y v=>h d y (u.trans v)
theorem TX(a:A.frames=some (env::outer))(c:env.frame=some L)(R:jP base (env::outer) e cls a0 dd .none s.heap)(h:∀h',jP base (env::outer) e cls a0 dd .none h'->s.heap.UpToSlots h'->Q () {s with heap:=h'}):wpAny M A (leaving env (.ref e)) Q E s:=by
 unfold leaving;exact Aa (NC a c R λ h' x u=>FJ none x λ b y v=>h b y (u.trans v))
end
def Trc(h:Heap)(a T:Addr)(cls a0:Value)(dd:Option Addr):Prop:=
 ∃oe vs b c,h.get? a=some oe/\(oe.cls=cls/\oe.dict=dd/\vs[0]? =some a0)/\oe.data=.fields vs/\vs[1]? =some (.ref T)/\T≠a/\h.get? T=some b/\b.data=.fields c/\c[3]? =some .none
structure Left(l:List Env)(hid:List Addr)(a T':Addr)(cls a0:Value)(dd:Option Addr)(h h':Heap):Prop where
 keep:∀b o,h.get? b=some o->b∉hid->h'.get? b=some o
 slot:∀b o,h.get? b=some o->b∈yx l->∃sl,h'.get? b=some {o with slots:=sl}
 trc:Trc h' a T' cls a0 dd
 new:∀b o,h.get? b=some o->b∉hid->b≠T'
 nfr:T'∉yx l
section
variable{M:Model}{A:Around}{E:VP}{s:Shared}{base:Heap}{env:Env}{outer:List Env}{L a T:Addr}{cls a0:Value}{dd:Option Addr}{Q:Unit->Shared->Prop}
def JU:∀env∈l,∀b,env.frame=some b->b∈yx l:=λ env a b c=>Fb.mpr ⟨env,a,c⟩
theorem ND(k:h.FunFrames base l)(x:jP (PySem.W.hideAll h hid) l a cls a0 dd .none h')(x4:h.UpToSlots h'):∃T',Left l hid a T' cls a0 dd h h':=by
 obtain⟨x1,_,x2,oe,vs,T',m,g,t1,p,q,r,s,t,i,j,u⟩:=x;have kp:∀b o,h.get? b=some o->b∉hid->(PySem.W.hideAll h hid).get? b=some o:=λ b o e n=>PySem.W.hideAll_get hid e n
 refine⟨T',λ b o e n=>x1 b o (kp b o e n),λ b o e d=>?_,⟨oe,vs,m,g,t1,p,q,r,t,i,j,u⟩,λ b o e n z=>?_,λ d=>?_⟩
 .refine x4 b o e λ vs v=>?_
  obtain⟨_,o',c,f⟩:=k.mem d;rw[e]at c;cases c;exact f vs v
 .have:=kp b o e n
  rw[z,s]at this;cases this
 .obtain⟨_,o',c,f⟩:=x2.mem d
  rw[i]at c;cases c;exact f g j
theorem TY(c:A.frames=some (env::outer))(f:s.heap.FunFrames base (env::outer))(g:env.frame=some L)(tr:Trc s.heap a T cls a0 dd)
  (h:∀h' T',Left (env::outer) (a::T::yx (env::outer)) a T' cls a0 dd s.heap h'->Q () {s with heap:=h'}):wpAny M A (leaving env (.ref a)) Q E s:=by
 obtain⟨oe,vs,i,j,t1,k,l,m,n,p,r,t⟩:=tr;have hid:∀b∈yx (env::outer),b∈a::T::yx (env::outer):=λ b d=>.tail _ (.tail _ d)
 refine TX (base:=PySem.W.hideAll s.heap (a::T::yx (env::outer))) (cls:=cls) (a0:=a0) (dd:=dd) c g ⟨λ b o q=>Fu _ q,D6 _ (.head _),He f λ e v b d=>hid b (JU e v b d),
  oe,vs,T,i,j,t1,k,l,m,D6 _ (.tail _ (.head _)),n,p,r,t⟩ λ h' x u=>?_
 obtain⟨T',y⟩:=ND f x u;exact h h' T' y
theorem NF(c:A.frames=some (env::outer))(g:s.heap.FunFrames base (env::outer))(h:env.frame=some L)(d:s.heap.get? a=some oe)(hd:oe.data=.fields vs)(h1:vs[1]? =some .none)(h0:vs[0]? =some a0)
  (i:∀h' T',Left (env::outer) (a::yx (env::outer)) a T' oe.cls a0 oe.dict s.heap h'->Q () {s with heap:=h'}):wpAny M A (leaving env (.ref a)) Q E s:=by
 have hid:∀b∈yx (env::outer),b∈a::yx (env::outer):=λ b f=>.tail _ f
 refine TV (base:=PySem.W.hideAll s.heap (a::yx (env::outer))) c (He g λ e d b f=>hid b (JU e d b f)) h d (λ b o q=>Fu _ q) (D6 _ (.head _)) hd h1 h0 λ h' x u=>?_
 obtain⟨T',y⟩:=ND g x u;exact i h' T' y
end
def HOk.there(x:HOk P w H h)(q:H a=some o):∃b,h.get? a=some b:=by
 have this:=x a o q;cases e:h.get? a with
 |some b=>exact⟨b,rfl⟩
 |none=>
  exfalso
  cases o with
  |lst xs=>obtain⟨_,_,_,_,z⟩:=this;rw[e]at z;cases z
  |tup xs=>obtain⟨_,_,_,o1,z,_⟩:=this;rw[e]at z;cases z
  |dT kvs=>obtain⟨_,_,_,_,o,_,_,z,_⟩:=this;rw[e]at z;cases z
  |ins C dx fs=>obtain⟨_,_,_,z,_⟩:=this;rw[e]at z;cases z
  |own y=>obtain⟨_,z⟩:=this;rw[e]at z;cases z
  |xd fs=>obtain⟨_,⟨_,_,_,z,_⟩,_⟩:=this;rw[e]at z;cases z
  |frz b u=>obtain⟨z,_⟩:=this;rw[e]at z;cases z
  |ext φ=>obtain⟨_,⟨_,z⟩,_⟩:=this;rw[e]at z;cases z
def HOk.untracked(x:HOk P w H h)(e:h.get? a=none):H a=none:=by
 cases q:H a with
 |none=>rfl
 |some o=>
  obtain⟨b,z⟩:=x.there q;rw[e]at z;cases z
def XT(P:Program)(w:World):jS:=λ outer H s E e s'=> ∃(a T:Addr)(cls a0:Value)(dd:Option Addr)(H':Hp),e=.ref a/\s'.os=s.os/\AllBare s'.gens/\Un (yx outer) [] H H' s.heap s'.heap/\HOk P w H' s'.heap/\
 s.heap.get? a=none/\s.heap.get? T=none/\H' a=none/\H' T=none/\Trc s'.heap a T cls a0 dd/\E cls dd H'
section
variable{P:Program}{w:World}{K:FG}{mg:Str->Option Value}{base:Heap}{N:List Str}{qual:Str}{scope:Scope}{f:Addr}{cd:Value}{A:Around}{outer:List Env}{s0:Shared}{H0:Hp}{E:XK}
def Inv.left(i:X.stack=X.env::X.outer)(j:X.ex=[])(I:Inv X pins σ H s)(y:Left X.stack hid a T' cls a0 dd s.heap h')
  (k:∀b∈hid,(b∈yx X.stack\/X.s₀.heap.get? b=none)/\H b=none):
  Un X.fs [] X.H₀ H X.s₀.heap h'/\HOk X.prog X.w H h'/\X.s₀.heap.get? T'=none/\H T'=none:=by
 have l:∀b o,X.s₀.heap.get? b=some o->b∉X.fs->b∉yx X.stack:=λ b o e n f=>by
  rcases Af.mp (I.stkSub b f) with z|z
  .have h1:=Ai e
   have h2:=I.ok.above;rw[z]at h1;exact absurd (Bj h1 h2) (B9 _)
  .exact n z
 have m:∀b o,X.s₀.heap.get? b=some o->b∉X.fs->b∉hid:=λ b o e n f=>by
  rcases (k b f).1 with z|z
  .exact l b o e n z
  .rw[e]at z;cases z
 have g:∀b∈X.fs,b∈yx X.stack:=λ b f=>by
  rw[i];obtain⟨v,A,e⟩:=Fb.mp f;exact Fb.mpr ⟨v,.tail _ A,e⟩
 have U:=I.base;rw[j]at U;have no:∀b:Addr,b∉([]:List Addr):=λ b z=>nomatch z
 have h:∀b o,s.heap.get? b=some o->(b∉hid\/b∈yx X.stack)->∃o',h'.get? b=some o':=λ b o e d=>by
  rcases d with d|d
  .exact⟨o,y.keep b o e d⟩
  .obtain⟨sl,q⟩:=y.slot b o e d
   exact⟨_,q⟩
 refine⟨⟨λ b o e n f _=>y.keep b o (U.keep b o e n f (no b)) (m b o e f),λ b o e n f _=>?_,U.free,λ b o e _=>?_,U.tups,U.frzs⟩,λ b o e=>?_,?_,?_⟩
 .obtain⟨sl,q⟩:=U.slot b o e n f (no b)
  obtain⟨p,r⟩:=y.slot b _ q (g b f);exact⟨p,r⟩
 .obtain⟨o',q⟩:=U.there b o e (no b)
  refine h b o' q ?_
  by_cases z:b∈X.fs
  .exact .inr (g b z)
  .exact .inl (m b o e z)
 .refine (I.hok b o e).stay (λ c u B C=>y.keep c u C λ t=>?_) (λ _ z=>z) λ _ _ z=>z
  have:=(k c t).2
  rcases B with z|z
  .rw[z,e]at this;cases this
  .rw[z]at this;cases this
 .cases q:X.s₀.heap.get? T' with
  |none=>rfl
  |some o=>
   exfalso
   obtain⟨o',r⟩:=U.there T' o q (no T')
   by_cases z:T'∈X.fs
   .exact y.nfr (g _ z)
   .exact y.new T' o' r (m T' o q z) rfl
 .cases q:H T' with
  |none=>rfl
  |some o=>
   exfalso
   obtain⟨D,x⟩:=I.hok.there q
   refine y.new T' D x (λ t=>?_) rfl
   have:=(k T' t).2;rw[q]at this;cases this
theorem qL:jF (XT P w) (yW (XT P w) P w K mg base N qual scope f cd A outer s0 H0 E) E:=by
 intro pins σ H s e s' I j;obtain⟨a,T,cls,a0,dd,H',rfl,os,bare,un,hok,g,k,h,l,tr,q⟩:=j;have c:Inv (yW (XT P w) P w K mg base N qual scope f cd A outer s0 H0 E) pins σ H' s':=I.call' os un hok bare λ b z=>nomatch z
 have old:∀b,s.heap.get? b=none->s0.heap.get? b=none:=λ b e=>by
  cases z:s0.heap.get? b with
  |none=>rfl
  |some o=>
   obtain⟨o',i⟩:=I.base.there b o z λ y=>nomatch y
   rw[e]at i;cases i
 refine TY (base:=base) (L:=s0.heap.objs.size) c.ok.frames c.stack rfl tr λ h' T' y=>?_
 obtain⟨u,m,n,p⟩:=c.left rfl rfl y λ b d=>by
  rcases Af.mp d with z|d
  .rw[z];exact⟨.inr (old a g),h⟩
  .rcases Af.mp d with z|d
   .rw[z];exact⟨.inr (old T k),l⟩
   .exact⟨.inl d,c.stkFree b d⟩
 exact⟨a,T',cls,a0,dd,H',rfl,c.os,c.bare,u,m,old a g,n,h,p,y.trc,q⟩
def JV(X:Cx)(E:XK):Prop:=∀(pins:AL)(σ:St)(H:Hp)(s:Shared)(a C:Addr)(vs:List Value)(h':Heap),Inv X pins σ H s->Heap.MadeExcOf s.heap h' a (.ref C) vs->E (.ref C) none H->X.xe (.ref a) {s with heap:=h'}
theorem TZ:JV (yW (XT P w) P w K mg base N qual scope f cd A outer s0 H0 E) E:=by
 intro pins σ H s a C vs h' I mk q;have c:Inv (yW (XT P w) P w K mg base N qual scope f cd A outer s0 H0 E) pins σ H {s with heap:=h'}:=I.kept (t':=s.toks) mk.keeps
 have e:H a=none:=I.hok.untracked mk.new;have old:s0.heap.get? a=none:=by
  cases z:s0.heap.get? a with
  |none=>rfl
  |some o=>
   obtain⟨o',g⟩:=I.base.there a o z λ y=>nomatch y
   rw[mk.new]at g;cases g
 obtain⟨t,h,_,_⟩:=mk.there
 refine NF (base:=base) (L:=s0.heap.objs.size) (a0:= .ref t) c.ok.frames c.stack rfl h rfl rfl rfl λ i T' y=>?_
 obtain⟨u,j,k,l⟩:=c.left rfl rfl y λ b d=>by
  rcases Af.mp d with z|d
  .rw[z];exact⟨.inr old,e⟩
  .exact⟨.inl d,c.stkFree b d⟩
 exact⟨a,T',.ref C,_,none,H,rfl,c.os,c.bare,u,j,old,k,e,l,y.trc,q⟩
end
noncomputable abbrev bmV:List Value:=[.type "ValueError",.type "Exception",.type "BaseException",.type "object"]
def CQ(K:FG)(C:Addr):Bool:=match K.lookup C with
 |some o=>(match o.data,o.slots.toList with
  |.cls cd,[_,_,_,_,n,_]=>o.cls== .type "type" && n==some (.builtin "ValueError.__new__") && cd.mro== .ref C::cd.mro.tail && !cd.hasDel && PySem.W.tailIn K bmV cd.mro.tail
  |_,_=>false)
 |none=>false
def NG{K:FG}{C:Addr}{h:Heap}(X:K.In h)(q:CQ K C=true):∃nm q N bs bm hdct sn sub ab col dd k0 k1 k2 k3 k5,h.get? C=some (excClassObj nm q C N bs bm hdct sn sub ab col dd k0 k1 k2 k3 k5 "ValueError.__new__")/\OwnTail h bmV bm/\(PySem.W.clsIn K C).map (·.ns)=some N:=by
 unfold CQ at q;cases ho:K.lookup C with
 |none=>rw[ho]at q;cases q
 |some o=>
  rw[ho]at q;obtain⟨cl,dd,dt,sl⟩:=o;dsimp only at q
  split at q
  .rename_i cd d f g y3 n y5 hs
   simp only[Be,Bb,Gd]at q;obtain⟨⟨⟨⟨e1,e2⟩,b⟩,a⟩,c⟩:=q;obtain⟨nm,bs,mro,ns,i,hd,sn,sub,ab,col,j⟩:=cd;dsimp only at b a c;generalize mro.tail=bm at b c;have e:sl= #[d,f,g,y3,n,y5]:=Array.ext' hs;subst b e e1 e2;cases a;exact⟨nm,i,ns,bs,bm,hd,sn,sub,ab,col,dd,d,f,g,y3,y5,X _ _ ho,PySem.W.tail_of_in X c,by unfold PySem.W.clsIn;rw[ho];rfl⟩
  .cases q
structure XCl(K:FG)(mg:Str->Option Value)(x:Str)(C:Addr):Prop where
 ex:CQ K C=true/\((PySem.W.clsIn K C).map (·.ns)).any (λ N=>PySem.W.nsOkIn K N && PySem.W.nsIn K N "__init__" ==some none)=true
 gl:mg x=some (.ref C)
def XCl.own{K:FG}{mg:Str->Option Value}{x:Str}{C:Addr}{h:Heap}(c:XCl K mg x C)(X:K.In h):OwnCls x C bmV "ValueError.__new__" mg h:=by
 obtain⟨nm,a,N,bs,bm,hd,sn,sub,ab,col,dd,b,d,e,y3,y5,f,g,i⟩:=NG X c.ex.1;have q:=c.ex.2;rw[i]at q;simp only[Option.any_some,Be,Bb]at q;exact⟨c.gl,bm,N,nm,a,bs,hd,sn,sub,ab,col,dd,b,d,e,y3,y5,h.nsMap N,f,.of_isNs (PySem.W.isNs_of_in X q.1),PySem.W.nsMap_none_of_in X q.1 q.2,g⟩
section
variable{X:Cx}{x:Str}{C:Addr}{np cpos pos:Pos}{e:Expr}{es:List Expr}{ta:TA}{E:XK}
def Ua(C:Addr)(E:XK)(ta:TA):TS:=λ _ σ H=>ta σ H λ vs H1=>vs.length<=1000/\E (.ref C) none H1
def Ub(c:XCl X.K X.mg x C)(f:X.calm=true)(g:Gl X x)(i:JV X E)(j:PA X (e::es) ta)(hs:SE X e es:=by rfl)(hp:(backTo cpos (starEach es X.env)).any (·.1)=false:=by rfl)
  (hd:(x==("__debug__" :Str))=false:=by decide):PS X (.Raise (some (.Call (.Name x np) (e::es) [] cpos)) none pos) (Ua C E ta):=by
 intro pins s σ H D I h;obtain⟨tl,N,nm,q,bs,hdct,sn,sub,ab,col,dd,k0,k1,k2,k3,k5,mN,k,l,d,T⟩:=(c.own I.ok.mod.kin).obj
 refine wpAny_Raise_call_subT Ge (bm:=tl) (mN:=mN) (C:=C) (N:=N) (k5:=k5) (k3:=k3) (k2:=k2) (k1:=k1) (k0:=k0) (dd:=dd) (col:=col) (ab:=ab) (sub:=sub) (sn:=sn) (hdct:=hdct) (bs:=bs) (q:=q) (nm:=nm) (T.hasType (by decide)) (I.ok.hd f) (by rw[hs];show (false || _)=false;rw[Ec];exact hp) d (AX I g c.gl ⟨rfl,?_⟩ hd)
 rw[hs]
 refine Ha (thn (by have:=j cpos pins s σ H _ I h;rw[hs]at this;exact this) λ us s1 z=>?_)
 obtain⟨vs,H1,b,m,n,q1⟩:=z;exact⟨rfl,by show us.length<=sizeLine;rw[<-m.length];exact Dp (N3 n),b.bk _ _ k,l.keeps b.bk,T.keeps b.bk,λ h' a mk=>i pins σ H1 s1 a C us h' b mk q1⟩
end
def Fun.okX{P:Program}{w:World}{K:FG}{mg:Str->Option Value}{base:Heap}{x qual:Str}{st:Stmt}{f:Addr}{fd:FuncData}{N ps:List Str}{k:Nat}{sp:Sp}(F:Fun K x qual st f fd)(S:FnScope N ps (zC st))(len:∀vs H Q E,sp vs H Q E->vs.length=ps.length)
  (a:∀(cdv:Value)(A:Around)(outer:List Env)(s:Shared)(H:Hp)(vs:List V)(Q:VK)(E:XK),Room k (A.deeper (envOfC qual (zC st) s.heap.objs.size f cdv))->sp vs H Q E->
   ∃t,yM (yW (XT P w) P w K mg base N qual (zC st) f cdv A outer s H E) (BR st) t/\t {nx:=λ _ H'=>Q .non H',rt:=Q} (start N vs) H):FnOk P w K mg base (XT P w) (k+1) f fd ps sp:=by
 obtain⟨oc,od,kV,doc,pm,an,cdv,ct,osl,rfl,d,b⟩:=F.ex;exact SY d b S len λ A outer s H vs Q E e c=>a cdv A outer s H vs Q E e c
def Uc{fs hid:List Addr}{H H':Hp}{h h1 h2:Heap}(u:Un fs [] H H' h h1)(keep:∀b o,h1.get? b=some o->b∉hid->h2.get? b=some o)
  (slot:∀b o,h1.get? b=some o->b∈fs->∃sl,h2.get? b=some {o with slots:=sl}) (g:∀b∈hid,b∈fs\/h.get? b=none):Un fs [] H H' h h2:=by
 have no:∀b:Addr,b∉([]:List Addr):=λ b z=>nomatch z
 have f:∀b o,h.get? b=some o->b∉fs->b∉hid:=λ b o e n a=>by
  rcases g b a with z|z
  .exact n z
  .rw[e]at z;cases z
 refine⟨λ b o e n a _=>keep b o (u.keep b o e n a (no b)) (f b o e a),λ b o e n a _=>?_,u.free,λ b o e _=>?_,u.tups,u.frzs⟩
 .obtain⟨sl,q⟩:=u.slot b o e n a (no b)
  obtain⟨c,d⟩:=slot b _ q a;exact⟨c,d⟩
 .obtain⟨o',q⟩:=u.there b o e (no b)
  by_cases z:b∈fs
  .obtain⟨sl,d⟩:=slot b o' q z
   exact⟨_,d⟩
  .exact⟨o',keep b o' q (f b o e z)⟩
def Ud{P:Program}{w:World}{H:Hp}{h1 h2:Heap}{hid:List Addr}(k:HOk P w H h1)(keep:∀b o,h1.get? b=some o->b∉hid->h2.get? b=some o)(a:∀b∈hid,H b=none):HOk P w H h2:=λ b o e=>by
 refine (k b o e).stay (λ c u d f=>keep c u f λ g=>?_) (λ _ z=>z) λ _ _ z=>z
 have:=a c g
 rcases d with z|z
 .rw[z,e]at this;cases this
 .rw[z]at this;cases this
section
variable{X:Cx}{pins:AL}{σ:St}{H:Hp}{s:Shared}
noncomputable abbrev Cx.pinned(X:Cx)(pn:AL):Cx:={X with pn:=pn}
noncomputable abbrev Cx.suite(X:Cx)(e:Value):Cx:={X with A:=X.A.mark (some e),calm:=false}
def Inv.inPn(I:Inv X pins σ H s):Inv (X.pinned (X.pn++pins)) [] σ H s:=
 ⟨⟨I.ok.mod,I.ok.kind,I.ok.glob,I.ok.blt,I.ok.above,I.ok.inj,I.ok.has,I.ok.cab,I.ok.hd,I.ok.frames,I.ok.stk,I.ok.exf,I.ok.bs,I.ok.bsz,I.ok.noex,I.ok.exfs,I.ok.funs,I.ok.frf⟩,I.os,I.bare,I.base,I.loc,I.cell,I.free,I.freeC,λ p hp=>I.pin p (by rw[Bz]at hp;exact hp),I.hok,I.len⟩
def Inv.unpin(I:Inv (X.pinned (X.pn++pins)) ps σ H s):Inv X pins σ H s:=
 ⟨⟨I.ok.mod,I.ok.kind,I.ok.glob,I.ok.blt,I.ok.above,I.ok.inj,I.ok.has,I.ok.cab,I.ok.hd,I.ok.frames,I.ok.stk,I.ok.exf,I.ok.bs,I.ok.bsz,I.ok.noex,I.ok.exfs,I.ok.funs,I.ok.frf⟩,I.os,I.bare,I.base,I.loc,I.cell,I.free,I.freeC,λ p hp=>I.pin p (Cs _ hp),I.hok,I.len⟩
theorem Inv.suite(I:Inv X pins σ H s)(e:Value):Inv (X.suite e) pins σ H s:=
 ⟨⟨I.ok.mod,I.ok.kind,I.ok.glob,I.ok.blt,I.ok.above,I.ok.inj,I.ok.has,I.ok.cab,(λ z=>Bool.noConfusion z),I.ok.frames,I.ok.stk,I.ok.exf,I.ok.bs,I.ok.bsz,I.ok.noex,I.ok.exfs,I.ok.funs,I.ok.frf⟩,I.os,I.bare,I.base,I.loc,I.cell,I.free,I.freeC,I.pin,I.hok,I.len⟩
def Inv.unsuite(a:X.calm=true->X.A.handled=none)(I:Inv (X.suite e) pins σ H s):Inv X pins σ H s:=
 ⟨⟨I.ok.mod,I.ok.kind,I.ok.glob,I.ok.blt,I.ok.above,I.ok.inj,I.ok.has,I.ok.cab,a,I.ok.frames,I.ok.stk,I.ok.exf,I.ok.bs,I.ok.bsz,I.ok.noex,I.ok.exfs,I.ok.funs,I.ok.frf⟩,I.os,I.bare,I.base,I.loc,I.cell,I.free,I.freeC,I.pin,I.hok,I.len⟩
def SP.conv(k:∀σ' H',Inv Y ps σ' H' s'->Inv X pins σ' H' s')(h:SP Y ps D f s'):SP X pins D f s':=by
 cases f with
 |next|brk|cont=>obtain⟨σ',H',I,q⟩:=h;exact⟨σ',H',k _ _ I,q⟩
 |ret u=>obtain⟨v,σ',H',I,r,q⟩:=h;exact⟨v,σ',H',k _ _ I,r,q⟩
end
def Ue(a:Addr)(cls:Value)(dd:Option Addr):Heap->Prop:=λ h=> ∃o vs,h.get? a=some o/\o.cls=cls/\o.data=.fields vs/\o.dict=dd
abbrev excO(a:Addr)(cls:Value)(dd:Option Addr):HO:= .ext (Ue a cls dd)
section
variable{X:Cx}{pins:AL}{σ:St}{H:Hp}{s:Shared}
def Inv.track(I:Inv X pins σ H s)(d:H a=none)(h0:X.s₀.heap.get? a=none)(f:a≠X.env.locals)(g:∀x c,X.env.cells.lookup x=some c->c≠a)(hp:∀p∈X.pn++pins,p.1≠a)(new:ObjOk X.prog X.w (zk H a o) s.heap a o):
  Inv X pins σ (zk H a o) s:=by
 refine⟨I.ok,I.os,I.bare,⟨I.base.keep,I.base.slot,λ b u e n h=>?_,I.base.there,λ b xs e=>?_,λ b u v e=>?_⟩,I.loc,I.cell,?_,λ y c e=>?_,λ p q=>?_,λ b u e=>?_,I.len⟩
 .rw[zK (λ z=>by rw[z,h0]at e;cases e)];exact I.base.free b u e n h
 .rw[zK (qA (I.base.tups b xs e) d)];exact I.base.tups b xs e
 .rw[zK (qA (I.base.frzs b u v e) d)];exact I.base.frzs b u v e
 .rw[zK f.symm];exact I.free
 .rw[zK (g y c e)];exact I.freeC y c e
 .obtain⟨e,n,r⟩:=I.pin p q
  exact⟨e,by rw[zK (hp p q)];exact n,r⟩
 .by_cases hb:b=a
  .subst hb;rw[yt]at e;cases e;exact new
  .rw[zK hb]at e
   exact (I.hok b u e).stay (λ c v _ q=>q) (λ c q=>by rw[zK (qA q d)];exact q) λ c xs q=>by rw[zK (qA q d)];exact q
def Ik(I:Inv X pins σ H s)(k:X.N.Nodup)(hi:X.N[i]? =some n)(a:X.env.kindOf n=some .local)
  (h:∀s',Inv X pins (σ.set i none) H s'->Q () s'):wpAny M A (do bindName X.env n .none;unbindBehindTheSuite X.env n pos) Q E s:=by
 obtain⟨m,l,t⟩:=id I.loc;have d:(X.env.scope.kind== .class || (X.env.scope.kind== .module && X.env.locals !=X.env.globals))=false:=by rw[I.ok.kind];rfl
 refine wpAny_nameGoes_keeps a l d λ h' v f hs=>h _ ?_
 have lt:∀b o,X.s₀.heap.get? b=some o->b≠X.env.locals:=λ b o e=>Aw (Bj (Ai e) I.ok.above)
 refine⟨I.ok,I.os,I.bare,⟨λ b o e n g a=>(hs.2 b (lt b o e)).trans (I.base.keep b o e n g a),λ b o e n g a=>?_,I.base.free,λ b o e a=>?_,I.base.tups,I.base.frzs⟩,⟨_,f,λ j y w e1 e2 x=>?_⟩,λ y c e=>?_,I.free,I.freeC,λ p hp=>?_,λ b u e=>?_,by rw[Bw];exact I.len⟩
 .obtain⟨sl,e1⟩:=I.base.slot b o e n g a
  exact⟨sl,(hs.2 b (lt b o e)).trans e1⟩
 .obtain⟨o',e1⟩:=I.base.there b o e a
  exact⟨o',(hs.2 b (lt b o e)).trans e1⟩
 .by_cases hj:j=i
  .subst hj
   by_cases hlt:j<σ.length
   .rw[Fw hlt]at e2;cases e2
   .rw[Ed (by rw[Bw];lia)]at e2;cases e2
  .rw[E6 (Bm hj)]at e2
   obtain⟨u,r,q⟩:=t j y w e1 e2 x
   refine⟨u,r,?_⟩
   have B:y≠n:=λ z=>hj (JB k e1 (z ▸ hi))
   rcases q with ⟨k1,k2⟩|⟨k1,c,k2,k3⟩
   .exact .inl ⟨k1,by simp[B,k2]⟩
   .exact .inr ⟨k1,c,k2,k3.sameBut hs (I.cne y c k2)⟩
 .obtain⟨w',z⟩:=I.cell y c e
  exact⟨w',z.sameBut hs (I.cne y c e)⟩
 .obtain⟨e,n,ne,r⟩:=I.pin p hp
  exact⟨(hs.2 p.1 ne).trans e,n,ne,r⟩
 .refine (I.hok b u e).stay (λ c w' C q=>(hs.2 c ?_).trans q) (λ _ q=>q) λ _ _ q=>q
  intro z
  rcases C with y|y
  .rw[<-y,z,I.free]at e;cases e
  .rw[z,I.free]at y;cases y
end
def JW(CX:jS)(X:Cx)(σ₀:St)(E:XK):Prop:=∀(pins:AL)(H:Hp)(s:Shared)(e:Value)(s':Shared),Inv X pins σ₀ H s->CX X.stack H s E e s'->X.xe e s'
def FK(X:Cx)(pn:AL)(σ₀:St)(E:XK):VP:=λ e s1=> ∃pins H s,Inv (X.pinned pn) pins σ₀ H s/\XT X.prog X.w X.stack H s E e s1
def Ug{X:Cx}{pn:AL}{σ₀:St}{E:XK}:JW (XT X.prog X.w) ((X.pinned pn).wish (FK X pn σ₀ E)) σ₀ E:=λ pins H s e s' I h=>⟨pins,H,s,I.unwish,h⟩
structure Caught(X:Cx)(pins:AL)(σ:St)(H:Hp)(a:Addr)(cls:Value)(dd:Option Addr)(s:Shared):Prop where
 inv:Inv X pins σ H s
 fly:∃B a0,jP B (X.env::X.outer) a cls a0 dd .none s.heap/\∀h',jP B (X.env::X.outer) a cls a0 dd .none h'->s.heap.UpToSlots h'->Inv X pins σ H {s with heap:=h'}
 free:H a=none
 old:X.s₀.heap.get? a=none
 loc:a≠X.env.locals
 cel:∀x c,X.env.cells.lookup x=some c->c≠a
 pin:∀p∈X.pn++pins,p.1≠a
def jN(X:Cx)(hs:List ExceptHandler)(th:Value->Option Addr->TS):Prop:=∀(pins:AL)(σ:St)(H:Hp)(s:Shared)(D:Ends)(a:Addr)(cls:Value)(dd:Option Addr),Caught X pins σ H a cls dd s->th cls dd D σ H->wpAny (model X.prog X.w) X.A (handleBy (.ref a) X.env hs) (SP X pins D) X.xe s
section
variable{X:Cx}{x:Str}{B:Addr}{np hp pos:Pos}{b:List Stmt}{b₀:Stmt}{suite:List Stmt}{hs:List ExceptHandler}{th:TS}{tr:Value->Option Addr->TS}
abbrev xNil:VP:=λ _ _=>False
def NH(K:FG)(B:Addr)(th:Value->Option Addr->TS)(tr:Value->Option Addr->TS):Value->Option Addr->TS:=λ cls dd D σ H=>(PySem.W.exmOne K cls (.ref B)=some true/\th cls dd D σ H)\/(PySem.W.exmOne K cls (.ref B)=some false/\tr cls dd D σ H)
def Caught.looks(c:Caught X pins σ H a cls dd s)(e:PySem.W.exmOne X.K cls (.ref B)=some bb):PySem.W.Looks (model X.prog X.w) s.heap (excMatches (.ref a) (.ref B)) bb:=by
 obtain⟨f,a0,fly,_⟩:=c.fly;obtain⟨_,_,_,g,_,_,_,_,d,⟨b,_⟩,_⟩:=fly
 refine PySem.W.exm_one c.inv.kIn ?_ e
 have:=(PySem.W.Looks.ld (M:=model X.prog X.w) (part:=none) d);rw[<-b];exact this.andThen .now
theorem Uh(j:Gl X x)(k:X.mg x=some (.ref B))(g:∀e,yM ((X.suite e).wish xNil) (b₀::suite) th)(l:jN X hs tr)(hd:(x==("__debug__" :Str))=false:=by decide):
  jN X (.ExceptHandler (some (.Name x np)) none (b₀::suite) hp::hs) (NH X.K B (λ _ _=>th) tr):=by
 intro pins σ H s D a cls dd c h
 refine wpAny_handleBy_cons (codeAny_handlers_test (AX (X:=X.suite (.ref a)) (c.inv.suite (.ref a)) j k ?_ hd)) (by intro z;cases z)
 rcases h with ⟨hx,h⟩|⟨hx,h⟩
 .refine (c.looks hx).here (codeAny_handlers_suite ?_)
  obtain⟨o,a0,fly,b⟩:=c.fly
  refine FJ none fly λ m d i=>?_
  have n:=b m d i
  refine Bv (g (.ref a) pins _ σ H D ((n.suite (.ref a)).wish xNil) h) (λ f s7 q7=>?_) λ _ _ z=>z.elim
  exact SP.conv (λ σ' H' K=>Inv.unsuite c.inv.ok.hd K.unwish) q7
 .exact (c.looks hx).here (l pins σ H s D a cls dd c h)
def tAs(i:Nat)(th:TS):Value->Option Addr->TS:=λ cls dd D σ H=> ∀a,H a=none->th {nx:=λ σ' H'=>D.nx (σ'.set i none) H',rt:=D.rt,bk:=λ σ' H'=>D.bk (σ'.set i none) H',ct:=λ σ' H'=>D.ct (σ'.set i none) H'} (σ.set i (some (.ref a))) (zk H a (excO a cls dd))
theorem Ui(l:X.N.Nodup)(hi:X.N[i]? =some n)(m:jT X.env.scope n)(g:X.env.kindOf n=some .local)(E:Gl X x)(F:X.mg x=some (.ref B))(p:∀e,yM ((X.suite e).wish xNil) (b₀::suite) th)(G:jN X hs tr)(hd:(x==("__debug__" :Str))=false:=by decide)
  (I:X.fn n=true\/X.env.scope.names.lookup n=some .local:=by first|exact .inl rfl|exact .inr rfl|assumption):
  jN X (.ExceptHandler (some (.Name x np)) (some n) (b₀::suite) hp::hs) (NH X.K B (tAs i th) tr):=by
 intro pins σ H s D a cls dd c h
 refine wpAny_handleBy_cons (codeAny_handlers_test (AX (X:=X.suite (.ref a)) (c.inv.suite (.ref a)) E F ?_ hd)) (by intro z;cases z)
 rcases h with ⟨hx,h⟩|⟨hx,h⟩
 .refine (c.looks hx).here (codeAny_handlers_suite_as ?_)
  obtain⟨Q,a0,fly,j⟩:=c.fly
  refine FJ none fly λ y b t=>?_
  have L:=j y b t;obtain⟨_,_,_,oe,vs,T,R,S,t1,A,M,_⟩:=id b;have O:Inv X pins σ (zk H a (excO a cls dd)) {s with heap:=y}:=L.track c.free c.old c.loc c.cel c.pin ⟨⟨oe,vs,t1,A.1,M,A.2.1⟩,⟨oe,t1⟩,λ h1 h2 ⟨o,vs,e,c,d⟩ k=>⟨o,vs,k o e,c,d⟩⟩
  refine EX (X:=X.suite (.ref a)) (O.suite (.ref a)) l hi m (v:= .ref a) rfl (λ U P=>?_) I
  refine Bv (p (.ref a) pins _ _ _ _ (P.wish xNil) (h a c.free)) (λ f s9 q9=>?_) λ _ _ z=>z.elim
  have C:SP X pins _ f s9:=SP.conv (λ σ' H' K=>Inv.unsuite c.inv.ok.hd K.unwish) q9
  cases f with
  |next|brk|cont=>obtain⟨σ',H',J,q⟩:=C;exact Ik J l hi g λ s' w=>⟨_,_,w,q⟩
  |ret u=>obtain⟨v,σ',H',J,r,q⟩:=C;exact Ik J l hi g λ s' w=>⟨_,_,_,w,r,q⟩
 .exact (c.looks hx).here (G pins σ H s D a cls dd c h)
def Uj:jN X [] (λ _ _ _ _ _=>False):=λ _ _ _ _ _ _ _ _ _ h=>h.elim
theorem Uk{h₀:ExceptHandler}{tb:XK->TS}(i:X.stack=X.env::X.outer)(L:X.env.frame=some X.env.locals)(M:X.ex=[])
  (d:∀pn σ₀ E,yM ((X.pinned pn).wish (FK X pn σ₀ E)) b (λ D σ H=>σ=σ₀/\tb E D σ H)) (Y:jN X (h₀::hs) tr):
  PS X (.Try b (h₀::hs) [] [] pos) (λ D σ H=>tb (λ cls dd H'=>tr cls dd D σ H') D σ H):=by
 intro pins s σ H D I h;have J:Inv ((X.pinned (X.pn++pins)).wish (FK X (X.pn++pins) σ λ cls dd H'=>tr cls dd D σ H')) [] σ H s:=I.inPn.wish _
 refine wpAny_Try_except (Bv (d (X.pn++pins) σ _ [] s σ H D J ⟨rfl,h⟩) (λ f s1 q=>?_) λ e s1 q=>?_)
 .have x:SP X pins D f s1:=SP.conv (λ σ' H' K=>Inv.unpin K.unwish) q
  cases f with
  |next=>exact Ad x
  |brk|cont|ret u=>exact x
 .obtain⟨g,H2,s2,v,a,T,cls,a0,dd,H',rfl,os,bare,un,hok,N,Z,S,hT,O,q⟩:=q
  have I3:Inv (X.pinned (X.pn++pins)) g σ H' s1:=v.call' os un hok bare λ b z=>nomatch z
  have B:s1.heap.FunFrames X.base X.stack:=I3.stack;obtain⟨oe,vs,oT,ts,t1,t2,t3,t4,t6,t7,t8,t9⟩:=O;have fly:jP (PySem.W.hideAll s1.heap (a::T::yx X.stack)) X.stack a cls a0 dd .none s1.heap:=
   ⟨λ b o z=>Fu _ z,D6 _ (.head _),He B λ e he b d=>.tail _ (.tail _ (JU e he b d)),oe,vs,T,oT,ts,t1,t2,t3,t4,D6 _ (.tail _ (.head _)),t6,t7,t8,t9⟩
  have C:X.A.frames=some (X.env::X.outer):=by rw[<-i];exact I.ok.frames
  have j:∀h',jP (PySem.W.hideAll s1.heap (a::T::yx X.stack)) X.stack a cls a0 dd .none h'->s1.heap.UpToSlots h'->Inv X pins σ H' {s1 with heap:=h'}:=λ h' f u=>by
   have keep:∀b o,s1.heap.get? b=some o->b∉a::T::yx X.stack->h'.get? b=some o:=λ b o e n=>f.1 b o (PySem.W.hideAll_get _ e n)
   have slot:∀b o,s1.heap.get? b=some o->b∈yx X.stack->∃sl,h'.get? b=some {o with slots:=sl}:=λ b o e d=>by
    refine u b o e λ ws hv=>?_
    obtain⟨_,o',F,hn⟩:=B.mem d;rw[e]at F;cases F;exact hn ws hv
   have P:Un (yx X.stack) [] H2 H' s2.heap h':=Uc un keep slot λ b d=>by
    rcases Af.mp d with z|d
    .rw[z];exact .inr N
    .rcases Af.mp d with z|d
     .rw[z];exact .inr Z
     .exact .inl d
   have G:HOk X.prog X.w H' h':=Ud hok keep λ b d=>by
    rcases Af.mp d with z|d
    .rw[z];exact S
    .rcases Af.mp d with z|d
     .rw[z];exact hT
     .exact I3.stkFree b d
   have I4:Inv (X.pinned (X.pn++pins)) g σ H' {s1 with heap:=h'}:=v.call' os P G bare λ b z=>nomatch z
   exact I4.unpin
  rw[i]at fly
  refine NC C L fly λ h4 r Q=>?_
  refine FJ none r λ V k R=>?_
  have l:=Q.trans R;have I5:Inv X pins σ H' {s1 with heap:=V}:=j V (by rw[i];exact k) l
  have t:∀b o,s2.heap.get? b=some o->b≠a:=λ b o e z=>by rw[z,N]at e;cases e
  refine Y pins σ H' _ D a cls dd ⟨I5,⟨_,_,k,λ h' f u=>j h' (by rw[i];exact f) (l.trans u)⟩,S,?_,?_,?_,?_⟩ q
  .cases z:X.s₀.heap.get? a with
   |none=>rfl
   |some o=>
    have U:=v.base;obtain⟨o',x⟩:=U.there a o z λ y=>by rw[show (X.pinned (X.pn++pins)).ex=X.ex from rfl,M]at y;cases y
    rw[N]at x;cases x
  .intro z
   obtain⟨m,⟨o,es,ep,e,_⟩,_⟩:=v.loc;exact t _ o e z.symm
  .intro y c e z
   obtain⟨w',hw⟩:=v.cell y c e;obtain⟨o,e1,_⟩:=hw;exact t _ o e1 z
  .intro p hp z
   have e:=(v.pin p (Cs _ hp)).1;exact t _ _ e z
end
structure ExK(K:FG)(C:Addr):Prop where
 it:(PySem.W.clsIn K C).isSome=true
 ga:PySem.W.findIn K (.ref C) "__getattribute__" =some (some (.builtin "BaseException.__getattribute__"))
 gn:PySem.W.findIn K (.ref C) "__getattr__" =some none
 gc:PySem.W.findIn K (.ref C) "__class__" =some (some (.builtin "object.__class__"))
 sb:PySem.W.subIn K (.ref C) (.type "BaseException")=some true
 so:PySem.W.subIn K (.ref C) (.type "object")=some true
 sw:PySem.W.subIn K (.ref C) (.type "ValueError")=some true
noncomputable def FL:List Value->Bool
 |.ref _::r=>FL r
 |l=>l==bmV
structure ExN(K:FG)(C:Addr):Prop extends ExK K C where
 gm:PySem.W.findIn K (.ref C) "name" =some none
 hd:(PySem.W.clsIn K C).any (λ cd=>cd.hasDict && FL cd.mro)=true
 sa:PySem.W.findIn K (.ref C) "__setattr__" =some (some (.builtin "object.__setattr__"))
section
variable{K:FG}{prog:Program}{w:World}{A:Around}{E:VP}{h:Heap}{g:Array GenState}{d:Drawn}{t:Nat}{os:OsState}{a C D:Addr}{vs:Array Value}{sl:Array (Option Value)}{m:Str->Option Value}{v:Value}
def Ul(z:ExN K C)(X:K.In h)(b:h.get? a=some ⟨.ref C,some D,.fields vs,sl⟩)(c:h.Ns D m)(e:m "name" =some v)(k:Q (.done (.ret v)) ⟨h,g,d,t,os⟩):
  wpAny (model prog w) A (Builtin.«object.__getattribute__» ⟨[.ref a,.str "name" tk],[]⟩) Q E ⟨h,g,d,t,os⟩:=by
 obtain⟨cd,f,hd⟩:=PySem.W.any_some z.hd;rw[Be]at hd;have i:=hd.1;have j:=PySem.W.looks_clsIn (M:=model prog w) X f
 repeat (any_goals (first|assumption|with_reducible refine Cr b ?_|with_reducible refine (D7 X z.gm).at ?_|with_reducible refine j.at ?_|(with_reducible refine wpAny_nsGet (s:=⟨h,g,d,t,os⟩) c ?_;rw[e])|wp_step))
def Um(z:ExN K C)(X:K.In h)(b:h.get? a=some ⟨.ref C,some D,.fields vs,sl⟩)(c:h.Ns D m)(e:m "name" =some v)(f:R (.ok (.ret v)) ⟨h,g,d,t,os⟩):
  codeAny (model prog w) A (.call (.builtin "BaseException.__getattribute__") ⟨[.ref a,.str "name" tk],[]⟩) R ⟨h,g,d,t,os⟩:=by
 have hp:plainId "BaseException.__getattribute__" =true:=by decide+kernel
 have j:builtinKind "BaseException.__getattribute__" =some .slot:=by decide+kernel
 have hs:splitId "BaseException.__getattribute__" =some ("BaseException","__getattribute__"):=by decide+kernel
 refine Gf hp F.entry_bexc_ga ?_
 have k:=F.args_bexc_ga (.ref a) (.str "name" tk);have l:PySem.W.Looks (model prog w) h (typeOf (.ref a)) (.ref C):=(PySem.W.Looks.ld (M:=model prog w) (part:=none) b).andThen .now;have o:PySem.W.Looks (model prog w) h (isInstance (.ref a) (.type "BaseException")) true:=l.andThen (PySem.W.looks_subIn X z.sb);exact PySem.W.check_slot (i:="BaseException.__getattribute__") (owner:="BaseException") (n:="__getattribute__") (self:= .ref a) (rest:=[.str "name" tk]) (kw:=[]) j hs o k (Ul z X b c e f)
def Uo(z:ExN K C)(X:K.In h)(c:h.get? a=some ⟨.ref C,some D,.fields vs,sl⟩)(e:h.Ns D m)(f:m "name" =some v)(k:handedOut v=pure v)(l:Q v ⟨h,g,d,t+1,os⟩):
  wpAny (model prog w) A (getAttr (.ref a) "name" expr) Q E ⟨h,g,d,t,os⟩:=by
 have n:bindSpecial (.builtin "BaseException.__getattribute__") (.ref a)=pure (.builtin "BaseException.__getattribute__",[.ref a]):=by kernel_rfl
 have i:(expr && onTheHeap (Value.builtin "BaseException.__getattribute__"))=false:=by cases expr<;>rfl
 have b:(Value.builtin "BaseException.__getattribute__" ==Value.builtin "object.__getattribute__")=false:=by decide+kernel
 have j:(onTheHeap (Value.ref C) && Value.builtin "BaseException.__getattribute__" ==Value.builtin "object.__getattribute__")=false:=by rw[b];rfl
 unfold getAttr
 repeat (any_goals (first|assumption|with_reducible refine Cr c ?_|with_reducible refine (D7 X z.ga).at ?_|with_reducible refine (D7 X z.gn).at ?_|wp_step))
 refine Um z X c e f ?_
 repeat (any_goals (first|assumption|wp_step))
end
def Uq(self:Value):refuseLoop self "__setattr__" bmV=pure ():=by kernel_rfl
theorem NI(self:Value):∀{l:List Value},FL l=true->refuseLoop self "__setattr__" l=pure ()
 | [],e=>by simp[FL]at e
 |x::r,e=>by
  cases x with
  |ref c=>rw[refuseLoop_ref];exact NI self (l:=r) e
  |_=>rw[show (_::r:List Value)=bmV from Bb.mp e];exact Uq self
section
variable{K:FG}{prog:Program}{w:World}{A:Around}{E:VP}{h:Heap}{g:Array GenState}{d:Drawn}{t:Nat}{os:OsState}{a C D:Addr}{vs:Array Value}{sl:Array (Option Value)}{m:Str->Option Value}{v:Value}
def Ur(z:ExN K C)(X:K.In h)(j:h.get? a=some ⟨.ref C,none,.fields vs,sl⟩)
  (D:∀h' k,h'.get? a=some ⟨.ref C,some h.objs.size,.fields vs,sl⟩->h'.Ns1 h.objs.size (λ y=>if y="name" then some v else none)->(∀b o,b≠a->h.get? b=some o->h'.get? b=some o)->Q (.done (.ret .none)) ⟨h',g,d,k,os⟩):
  wpAny (model prog w) A (Builtin.«object.__setattr__» ⟨[.ref a,.str "name" tk,v],[]⟩) Q E ⟨h,g,d,t,os⟩:=by
 obtain⟨cd,F,hd⟩:=PySem.W.any_some z.hd;rw[Be]at hd;have G:=hd.1;have c:=NI (.ref a) hd.2;have B:=PySem.W.looks_clsIn (M:=model prog w) X F;have H:PySem.W.Looks (model prog w) h (mroOf (.ref C)) cd.mro:=B.andThen .now;have l:(h.push {cls:= .type "dict",data:= .dict #[]}).get? a=some ⟨.ref C,none,.fields vs,sl⟩:=As _ j;have f:a≠h.objs.size:=Aw (Ai j);have m:((h.push {cls:= .type "dict",data:= .dict #[]}).update a λ o=>{cls:=o.cls,dict:=some h.objs.size,data:=o.data,slots:=o.slots}).get? h.objs.size=some {cls:= .type "dict",data:= .dict #[]}:=(Heap.get?_update_ne _ _ _ _ f.symm).trans (Heap.get?_push_at rfl rfl)
 have n:((h.push {cls:= .type "dict",data:= .dict #[]}).update a λ o=>{cls:=o.cls,dict:=some h.objs.size,data:=o.data,slots:=o.slots}).Ns h.objs.size (λ _=>none):=⟨_,#[],_,m,rfl,λ e I=>absurd I (by simp),λ _=>rfl⟩
 have p:((h.push {cls:= .type "dict",data:= .dict #[]}).update a λ o=>{cls:=o.cls,dict:=some h.objs.size,data:=o.data,slots:=o.slots}).get? a=some ⟨.ref C,some h.objs.size,.fields vs,sl⟩:=Cp _ l rfl
 unfold Builtin.«object.__setattr__»
 repeat (first|rw[refuse_eq] | (rw[c])|with_reducible refine Cr j ?_|with_reducible refine H.at ?_|with_reducible refine (D7 X z.gm).at ?_|with_reducible refine B.at ?_|with_reducible refine wpAny_nsSet1 (s:=⟨_,g,d,t,os⟩) (Heap.Ns1.of_empty n) λ h' i hs=>?_|wp_step)
 obtain⟨J,L,N,q,r,u⟩:=i.count (Within.cons "name" v Within.nil);have x:J.data.pastItsLine=none:=by rw[r];exact pastItsLine_dict (By u (by rw[Ax,Dy,Ds];lia))
 refine Cr q ?_
 rw[x]
 refine Ad (Ad ?_)
 exact D h' _ ((hs.2 a f).trans p) i λ b o O e=>(hs.2 b (Aw (Ai e))).trans ((Heap.get?_update_ne _ _ _ _ O).trans (As _ e))
def Us(z:ExN K C)(X:K.In h)(e:h.get? a=some ⟨.ref C,none,.fields vs,sl⟩)
  (j:∀h' f,h'.get? a=some ⟨.ref C,some h.objs.size,.fields vs,sl⟩->h'.Ns1 h.objs.size (λ y=>if y="name" then some v else none)->(∀b o,b≠a->h.get? b=some o->h'.get? b=some o)->Q () ⟨h',g,d,f,os⟩):
  wpAny (model prog w) A (setAttr (.ref a) "name" v) Q E ⟨h,g,d,t,os⟩:=by
 have I:PySem.W.InstAt h a ⟨.ref C,none,.fields vs,sl⟩ C none:=⟨e,rfl,rfl,trivial⟩;have c:=PySem.F.store_object;have l:PySem.W.Looks (model prog w) h (typeOf (.ref a)) (.ref C):=(PySem.W.Looks.ld (M:=model prog w) (part:=none) e).andThen .now;have k:PySem.W.Looks (model prog w) h (isInstance (.ref a) (.type "object")) true:=l.andThen (PySem.W.looks_subIn X z.so)
 refine PySem.W.set_plain (s:=⟨h,g,d,t,os⟩) X I z.sa (Gf c.slot.plain c.entry (PySem.W.check_slot (i:="object.__setattr__") (owner:="object") (n:="__setattr__") (self:= .ref a) (rest:=[.str "name" t,v]) (kw:=[]) c.kind c.split k (c.args (.ref a) (.str "name" t) v) ?_))
 exact Ur z X e j
end
section
variable{K:FG}{prog:Program}{w:World}{A:Around}{E:VP}{h:Heap}{g:Array GenState}{d:Drawn}{t:Nat}{os:OsState}{a C D:Addr}{vs:Array Value}{sl:Array (Option Value)}{m:Str->Option Value}{v x:Value}{dd:Option Addr}
def cls_at(X:K.In h)(e:(PySem.W.clsIn K C).isSome=true):∃c d cd sl,h.get? C=some ⟨c,d,.cls cd,sl⟩:=by
 unfold PySem.W.clsIn at e
 split at e
 .rename_i c' d' a b f
  exact⟨c',d',a,b,X _ _ f⟩
 .cases e
def Ut(c:(PySem.W.clsIn K C).isSome=true)(sv:PySem.W.subIn K (.ref C) (.type "ValueError")=some true)(X:K.In h)(e:h.get? a=some ⟨.ref C,dd,.fields vs,sl⟩)(f:Q () ⟨h,g,d,t,os⟩):wpAny M A (checkBuiltinCall "ValueError.__init__" ⟨[.ref a,x],[]⟩) Q E ⟨h,g,d,t,os⟩:=by
 have FB:=Ge;have b:=FB.noStar;have ls:=PySem.W.looks_subIn (M:=M) X sv;obtain⟨l,m,i,j,k⟩:=cls_at X c;simp only[checkBuiltinCall,FB.initKind,FB.initSplit,FB.initRow]
 repeat (first|with_reducible refine Cr e ?_|with_reducible refine Cr k ?_|with_reducible refine ls.at ?_|wp_step)
 exact f
def Uu(k:(PySem.W.clsIn K C).isSome=true)(sv:PySem.W.subIn K (.ref C) (.type "ValueError")=some true)(X:K.In h)(i:h.get? a=some ⟨.ref C,dd,.fields vs,sl⟩)(j:vs[0]? =some (.ref t0))
  (l:∀h',h'.get? a=some ⟨.ref C,dd,.fields (vs.setIfInBounds 0 (.ref h.objs.size)),sl⟩->(∀b o,b≠a->h.get? b=some o->h'.get? b=some o)->R (.ok (.ret .none)) ⟨h',g,d,t,os⟩):
  codeAny (model prog w) A (.call (.builtin "ValueError.__init__") ⟨[.ref a,x],[]⟩) R ⟨h,g,d,t,os⟩:=by
 have FB:=Ge
 refine Gf FB.init.plain FB.initEntry (Ut k sv X i ?_)
 wp_walk
 rw[j];have c:=As (h:=h) {cls:= .type "tuple",data:= .seq #[x]} i;have f:0<vs.size:=(Dh.mp j).1
 refine Ad (Aa (Eb c rfl f ?_))
 refine wpAny_letGo (Ad (l _ ?_ λ b o m e=>?_))
 .exact Cp _ c rfl
 .exact (C7 _ _ (Bm m)).trans (As _ e)
end
section
variable{P:Program}{w:World}{h h':Heap}
def qT(P:Program)(w:World)(h:Heap):MK->Value->Prop
 |.one k,u=>(qP P w).is k u=true
def Uv:∀{x y:MK}{u:Value},qT P w h x u->qT P w h y u->x=y
 |.one a,.one b,_,p,q=>by rw[(qP P w).inj _ _ _ p q]
def JX {es ep} (a:h.get? d=some o) (hd:o.data=.dict es ep) (hs:Heap.SameBut d h h'):∀{k:MK}{u:Value},qT P w h k u->qT P w h' k u
 |.one _,_,q=>q
end
section
variable{P:Program}{w:World}{A:Around}{E:VP}{s:Shared}
def NJ(a:A.units<cLine):∀{k:MK},qT P w s.heap k u->(∀t,Q (k.hash P w) {s with toks:=t})->wpAny (model P w) A (pyHash u) Q E s
 |.one k,q,f=>(qP P w).pyHash q (f _)
end
abbrev Tr:=List (MK×Value×Value)
noncomputable def yn(xs:Tr)(k:MK):Option Value:=(xs.find? λ x=>decide (x.1=k)).map (·.2.2)
def BS(xs:Tr)(k:MK)(u v:Value):Tr:=if (yn xs k).isSome then xs.map λ x=>if x.1=k then (x.1,x.2.1,v) else x else xs++[(k,u,v)]
def DictM(P:Program)(w:World)(h:Heap)(d:Addr)(xs:Tr):Prop:=
 ∃o es ep,h.get? d=some o/\o.ExactDict/\o.data=.dict es ep/\es.toList=xs.map (yH P w)/\((xs.map (·.1)).Nodup/\ep=xs.length)/\∀x∈xs,qT P w h x.1 x.2.1
def Uw{xs:Tr}(c:(xs.map (·.1)).Nodup){i j:Nat}{k:MK}{p q:Value×Value}(hi:xs[i]? =some (k,p))(d:xs[j]? =some (k,q)):i=j:=by
 have a:(xs.map (·.1))[i]? =some k:=by rw[Az,hi];rfl
 have b:(xs.map (·.1))[j]? =some k:=by rw[Az,d];rfl
 exact (List.getElem?_inj (Ao.mp a).1 c).mp (a.trans b.symm)
def NK{xs:Tr}(c:(xs.map (·.1)).Nodup){i:Nat}{k:MK}{p:Value×Value}(hi:xs[i]? =some (k,p)):yn xs k=some p.2:=by
 unfold yn;cases e:xs.find? (λ x=>decide (x.1=k)) with
 |none=>have:=List.find?_eq_none.mp e _ (Al hi);simp at this
 |some y=>
  have a:=List.find?_some e
  have a:y.1=k:=by simpa using a
  obtain⟨j,b⟩:=Hf.mp (List.mem_of_find?_eq_some e)
  obtain⟨d,f⟩:=y;have a:d=k:=a;subst a;have:=Uw c hi b;subst this;rw[hi]at b;cases b;rfl
def NL(hi:∀(i:Nat) (p:Value×Value),xs[i]? ≠some (k,p)):yn xs k=none:=by
 unfold yn;cases e:xs.find? (λ x=>decide (x.1=k)) with
 |none=>rfl
 |some y=>
  have a:=List.find?_some e
  have a:y.1=k:=by simpa using a
  obtain⟨j,b⟩:=Hf.mp (List.mem_of_find?_eq_some e)
  obtain⟨c,d⟩:=y;have a:c=k:=a;subst a;exact absurd b (hi j d)
section
variable{P:Program}{w:World}{A:Around}{E:VP}{s:Shared}{d:Addr}{o:Obj}{es:Array DictEntry}{ep:Nat}{xs:Tr}{k:MK}{u:Value}
def JY(a:es.toList=xs.map (yH P w))(j:Nat):es[j]? =(xs[j]?).map (yH P w):=by rw[<-Bx,a,Az]
def JZ(a:es.toList=xs.map (yH P w)):es.size=xs.length:=by rw[<-Cn,a,Ae]
def NM(J:A.units<cLine)(F:qT P w s.heap k u)(G:s.heap.get? d=some o)(hd:o.data=.dict es ep)(l:es.toList=xs.map (yH P w))(K:(xs.map (·.1)).Nodup)(y:∀x∈xs,qT P w s.heap x.1 x.2.1)
  (h0:(∀(j:Nat)(p:Value×Value),xs[j]? ≠some (k,p))->Q none s) (h1:∀(j:Nat)(p:Value×Value),xs[j]? =some (k,p)->Q (some j) s):
  wpAny (model P w) A (dictFind d u (k.hash P w)) Q E s:=by
 have at_:∀i,i<es.size->∃a m z,xs[i]? =some (a,m,z)/\es[i]? =some ⟨a.hash P w,m,z⟩/\qT P w s.heap a m:=λ i hi=>by
  have b:i<xs.length:=by rw[<-JZ l];exact hi
  refine⟨xs[i].1,xs[i].2.1,xs[i].2.2,by rw[zX b],?_,y _ (C8 b)⟩
  rw[JY l,zX b];rfl
 have f:(∀x∈xs,∃a,x.1=.one a)/\∃a,k=.one a:=⟨λ ⟨⟨k⟩,_⟩ _=>⟨k,rfl⟩,by cases k;exact⟨_,rfl⟩⟩
 ·
  obtain⟨fl,a,rfl⟩:=f;have n:KeysOf (qP P w) es:=λ e r=>by
   obtain⟨i,hi,e1⟩:=Array.mem_iff_getElem.mp r;obtain⟨k2,B,H,e2,g,t⟩:=at_ i hi;obtain⟨k3,v⟩:=fl _ (Al e2);have v:k2=.one k3:=v;subst v;rw[B2 hi,e1]at g;cases g;exact⟨k3,t,rfl⟩
  refine wpAny_dictFind_of (knd:=qP P w) (k:=a) F G hd n ?_
  cases e:es.findIdx? (λ e=>(qP P w).is a e.key) with
  |none=>
   refine h0 λ j p c=>?_
   have h:j<es.size:=by rw[JZ l];exact (Ao.mp c).1
   have:=Array.findIdx?_eq_none_iff.mp e (es[j]) (Array.getElem_mem h)
   have C:=JY l j;rw[c,B2 h]at C;rw[Option.some.inj C]at this;have q:=y _ (Al c);have q:(qP P w).is a p.1=true:=q;have this:(qP P w).is a p.1=false:=by simpa[yH] using this
   rw[q]at this;cases this
  |some j=>
   obtain⟨c,D,_⟩:=Array.findIdx?_eq_some_iff_getElem.mp e
   obtain⟨k2,B,H,e2,g,t⟩:=at_ j c;rw[B2 c]at g;rw[Option.some.inj g]at D;have I:qT P w s.heap (.one a) B:=D;have:=Uv t I;subst this;exact h1 j _ e2
def NN{Q:Option Value->Shared->Prop}(a:A.units<cLine)(b:qT P w s.heap k u)(i:DictM P w s.heap d xs)(f:∀t,Q (yn xs k) {s with toks:=t}):wpAny (model P w) A (dictGet d u) Q E s:=by
 obtain⟨o,es,ep,c,_,hd,e,⟨g,_⟩,l⟩:=i;unfold dictGet
 refine B4 (Aa (NJ a b λ t=>Aa (NM (s:={s with toks:=t}) a b c hd e g l (λ hz=>?_) λ j p h=>?_)))
 .have f:=f t
  rw[NL hz]at f;exact Ad f
 .have f:=f t
  rw[NK g h]at f
  refine Aa (Gg (s:={s with toks:=t}) c hd ?_)
  rw[JY e j,h];exact Ad f
theorem NO:∀{xs:Tr}{j:Nat}{p:Value×Value},(xs.map (·.1)).Nodup->xs[j]? =some (k,p)->(xs.map (yH P w)).modify j (λ e=>{e with val:=v})=(xs.map λ x=>if x.1=k then (x.1,x.2.1,v) else x).map (yH P w)
 | [],_,_,_,hj=>by simp at hj
 |x::r,0,p,a,hj=>by
  simp only[Ee,Ce]at hj;subst hj;have a:(k∉r.map (·.1))/\(r.map (·.1)).Nodup:=by simpa using a
  have e:(r.map λ x=>if x.1=k then (x.1,x.2.1,v) else x)=r:=by
   conv=>rhs;rw[<-List.map_id r]
   refine Ef λ y b=>?_
   rw[Ac (λ z=>a.1 (Ak.mpr ⟨y,b,z⟩))]
   rfl
  simp[e,yH]
 |x::r,j+1,p,a,hj=>by
  simp only[Dz]at hj;have a:(x.1∉r.map (·.1))/\(r.map (·.1)).Nodup:=by rw[Ah,Bp]at a;exact a
  have ne: ¬x.1=k:=λ z=>a.1 (Ak.mpr ⟨(k,p),Al hj,z.symm⟩)
  simp only[Ah,List.modify_succ_cons,Ac ne,NO a.2 hj]
def Ux{v:Value}{Q:Unit->Shared->Prop}(D:A.units<cLine)(B:qT P w s.heap k u)(H:DictM P w s.heap d xs)(hz:xs.length<=sizeLine)
  (f:∀h' t,DictM P w h' d (BS xs k u v)->Heap.SameBut d s.heap h'->Q () {s with heap:=h',toks:=t}):wpAny (model P w) A (dictSet d u v) Q E s:=by
 obtain⟨o,es,ep,b,F,hd,r,⟨c,g⟩,h⟩:=H;unfold dictSet
 refine B4 (Aa (NJ D B λ t=>?_))
 unfold dictSetHashed
 refine B4 (Aa (NM (s:={s with toks:=t}) D B b hd r c h (λ m=>?_) λ j p G=>?_))
 .have C:BS xs k u v=xs++[(k,u,v)]:=by unfold BS;rw[NL m];rfl
  have f:=λ h'=>f h' t
  rw[C]at f
  refine Aa (D0 (wpAny_updateDictKeys (hz:=by have:=JZ r;lia) (s:={s with toks:=t}) b hd (f _ ⟨_,_,ep+1,Cp _ b (Obj.isFreed_of_dict (Obj.data_mapDictKeys hd _)),F.mapDictKeys _,Obj.data_mapDictKeys hd _,?_,?_,?_⟩ (Di ..))))
  .simp[r,yH]
  .refine⟨?_,by rw[Ar,g];rfl⟩
   rw[Av,Cw]
   refine⟨c,by simp,λ x h y n=>?_⟩
   have n:y=k:=by simpa using n
   subst n;intro z;subst z;obtain⟨q,I,e⟩:=Ak.mp h;obtain⟨i,hi⟩:=Hf.mp I;obtain⟨q1,q2⟩:=q;have e:q1=x:=e;subst e;exact m i q2 hi
  .intro x a
   rcases Bc.mp a with a | a
   .exact JX b hd (Di ..) (h x a)
   .rw[Au.mp a]
    exact JX b hd (Di ..) B
 .have C:BS xs k u v=xs.map λ x=>if x.1=k then (x.1,x.2.1,v) else x:=by unfold BS;rw[NK c G];rfl
  have f:=λ h'=>f h' t
  rw[C]at f
  refine Aa (D0 (Aa (wpAny_updateDict (s:={s with toks:=t}) b hd (wpAny_point (f _ ⟨_,_,ep,Cp _ b (Obj.isFreed_of_dict (Obj.data_mapDict hd _)),F.mapDict _,Obj.data_mapDict hd _,?_,?_,?_⟩ (Di ..))))))
  .have q:=NO (P:=P) (w:=w) (v:=v) c G
   rw[<-r]at q;obtain⟨l⟩:=es;simpa using q
  .have e1:(xs.map λ x=>if x.1=k then (x.1,x.2.1,v) else x).map (·.1)=xs.map (·.1):=by
    rw[Bg]
    refine Ef λ y _=>?_
    simp only[Function.comp]
    split<;>rfl
   rw[e1];exact⟨c,by rw[Ae];exact g⟩
  .intro x a
   obtain⟨y,n,rfl⟩:=Ak.mp a
   split<;>exact JX b hd (Di ..) (h y n)
def DictM.typeIs(a:DictM P w s.heap d xs):s.TypeIs (.ref d) "dict" :=let ⟨o,_,_,ho,hc,_⟩:=a;⟨o,ho,hc.1⟩
def Uy(c:A.units+1<cLine)(e:qT P w s.heap k u)(lo:(d==sysModules)=false)(b:DictM P w s.heap d xs)(f:∀t,Q (yn xs k).isSome {s with toks:=t}):
  wpAny (model P w) A (contains (.ref d) u) Q E s:=by
 have a:=b.typeIs;unfold contains
 refine B4 (Aa (wpAny_specialOf a slot_dict_contains.lookup ?_))
 refine Gh (λ z=>absurd z (by rw[beq_builtin_none];exact Bk)) λ _=>?_
 refine Aa (wpAny_callSpecialUnlessNone?_slot (name:=Str.ofString "__contains__") a slot_dict_contains (Ck slot_dict_contains a entry_dict_contains ?_ (args_dict_contains _ _)))
 show wpAny _ _ (dictGet d u >>=_) _ _ s
 refine Aa (NN (A:=A.in1) c e b λ t=>?_)
 have f:=f t;cases hf:yn xs k with
 |some v=>
  rw[hf]at f;show wpAny _ _ (ret (.bool true)) _ _ _;exact Ad ⟨_,rfl,Cg f⟩
 |none=>
  rw[hf]at f;show wpAny _ _ (Builtin.Dict.pendingKey? d u >>=_) _ _ _;exact Aa (wpAny_pendingKey_other lo (Ad ⟨_,rfl,Cg f⟩))
def Uz(a:A.units+1<cLine)(b:qT P w s.heap k u)(lo:(d==sysModules)=false)(c:DictM P w s.heap d xs)(f:∀t,Q (.bool (!(yn xs k).isSome)) {s with toks:=t}):
  wpAny (model P w) A (compareOp .NotIn u (.ref d)) Q E s:=by
 show wpAny _ _ (do return .bool (!(<-contains (.ref d) u))) Q E s
 exact Aa (Uy a b lo c λ t=>Ad (f t))
def U0(c:A.units+1<cLine)(e:qT P w s.heap k u)(b:DictM P w s.heap d xs)(g:yn xs k=some v)(f:∀t,Q v {s with toks:=t}):wpAny (model P w) A (getItem (.ref d) u) Q E s:=by
 have a:=b.typeIs;unfold getItem
 refine B4 (Aa (wpAny_sequenceKey a (by decide) ?_))
 refine Aa (Eg (name:=Str.ofString "__getitem__") a slot_dict_getitem (Ck slot_dict_getitem a entry_dict_getitem ?_ (args_dict_getitem _ _)))
 show wpAny _ _ (dictGet d u >>=_) _ _ s
 refine Aa (NN (A:=A.in1) c e b λ t=>?_)
 rw[g];exact Ad ⟨v,rfl,Ad (f t)⟩
def U1(g:A.units+1<cLine)(h:qT P w s.heap k u)(e:DictM P w s.heap d xs)(hz:xs.length<=sizeLine)
  (f:∀h' t,DictM P w h' d (BS xs k u v)->Heap.SameBut d s.heap h'->Q () {s with heap:=h',toks:=t}):wpAny (model P w) A (setItem (.ref d) u v) Q E s:=by
 have c:=e.typeIs;unfold setItem
 refine B4 (Aa (wpAny_sequenceKey c (by decide) ?_))
 refine Aa (Eg (name:=Str.ofString "__setitem__") c slot_dict_setitem (Ck slot_dict_setitem c entry_dict_setitem ?_ (args_dict_setitem _ _ _)))
 show wpAny _ _ (Builtin.Dict.notOrdered "__setitem__" ⟨[.ref d,u,v],[]⟩ >>=_) _ _ s
 refine Aa (wpAny_notOrdered_dict c ?_)
 show wpAny _ _ (dictSet d u v >>=_) _ _ s;exact Aa (Ux (A:=A.in1) g h e hz λ h' t a b=>Ad ⟨.none,rfl,Ad (f h' t a b)⟩)
end
section
variable{κ:Type}[DecidableEq κ]
noncomputable def yC(kvs:List (κ×V))(k:κ):Option V:=(kvs.find? λ a=>decide (a.1=k)).map (·.2)
noncomputable def putK(kvs:List (κ×V))(k:κ)(v:V):List (κ×V):=
 if (kvs.any λ a=>decide (a.1=k))=true then kvs.map (λ a=>if a.1=k then (a.1,v) else a) else kvs++[(k,v)]
def NP{p:κ×V}{r:List (κ×V)}{k:κ}(e:p.1=k):yC (p::r) k=some p.2:=by simp[yC,Eh,e]
def NQ{p:κ×V}{r:List (κ×V)}{k:κ}(e: ¬p.1=k):yC (p::r) k=yC r k:=by simp[yC,Eh,e]
theorem NR(k:κ):∀kvs:List (κ×V),(kvs.any λ a=>decide (a.1=k))=(yC kvs k).isSome
 | []=>rfl
 |p::r=>by
  rw[List.any_cons]
  by_cases e:p.1=k
  .simp only[NP e,Cd e,Ei,Option.isSome_some]
  .rw[NQ e,Bu e,Ec];exact NR k r
def U2(kvs:List (κ×V))(k:κ)(v:V):(putK kvs k v).length<=kvs.length+1:=by
 unfold putK
 split
 .rw[Ae];lia
 .rw[Ar,Ax,Dy];lia
def RelO.isSome_eq(r:RelO o u):o.isSome=u.isSome:=by
 cases o with
 |none=>cases u with
  |none=>rfl
  |some _=>exact (show False from r).elim
 |some _=>cases u with
  |none=>exact (show False from r).elim
  |some _=>rfl
end
def U3(r:RelV (kV k) u):(qP P w).is k u=true:=by
 cases k with
 |inl i=>obtain⟨t,e⟩:=(show ∃t,u=Value.int i t from r);subst e;exact R7 P w i t
 |inr x=>obtain⟨t,e⟩:=(show ∃t,u=Value.str x t from r);subst e;exact R8 P w x t
abbrev KT(H:Hp):List (MK×V)->Tr->Prop:=Paired λ p q=>p.1=q.1/\KyV H p.1 q.2.1/\RelV p.2 q.2.2
def KT.val{H:Hp}{l:List (MK×V)}{m:Tr}(r:KT H l m)(k:MK):RelO (yC l k) (yn m k):=by
 induction r with
 |nil=>exact True.intro
 | @cons p q ps qs z _ ih=>
  obtain⟨a,_,b⟩:=z
  by_cases e:p.1=k
  .rw[NP e,show yn (q::qs) k=some q.2.2 by simp[yn,Eh,<-a,e]];exact b
  .rw[NQ e,show yn (q::qs) k=yn qs k by simp[yn,Eh,<-a,e]];exact ih
def KT.put(r:KT H l m)(f:KyV H k u)(b:RelV y v):KT H (putK l k y) (BS m k u v):=by
 have e:(l.any λ h=>decide (h.1=k))=(yn m k).isSome:=by rw[NR,(r.val k).isSome_eq]
 unfold putK BS;rw[e]
 by_cases c:(yn m k).isSome=true
 .rw[Ab c,Ab c]
  clear e c
  induction r with
  |nil=>exact .nil
  | @cons p q ps qs z _ ih=>
   refine .cons ?_ ih
   obtain⟨a,d,i⟩:=z;dsimp only
   by_cases g:p.1=k
   .rw[Ab g,Ab (a.symm.trans g)];exact⟨a,d,b⟩
   .rw[Ac g,Ac λ x=>g (a.trans x)];exact⟨a,d,i⟩
 .rw[Ac c,Ac c];exact Paired.snoc r ⟨rfl,f,b⟩
def KT.keeps(r:KT H l m)(a:∀b ys,H b=some (.tup ys)->H' b=some (.tup ys)):KT H' l m:=Paired.mapP r λ _ _ z=>⟨z.1,z.2.1.mono a,z.2.2⟩
section
variable{P:Program}{w:World}{H:Hp}{h:Heap}{a:Addr}
def U4(ok:HOk P w H h)(e:Rd H a u):ObjOk P w H h a u:=e.ok ok
def Il(ok:HOk P w H h):∀{k:MK}{u:Value},KyV H k u->qT P w h k u
 |.one _,_,r=>U3 r
def Im(ok:HOk P w H h)(e:Rd H a (.dT kvs)):kvs.length<=sizeLine/\(a==sysModules)=false/\∃xs,KT H kvs xs/\DictM P w h a xs:=by
 obtain⟨z,y,xs,r,o,es,ep,c,d,f,g,i,j⟩:=(show ObjOk P w H h a (.dT kvs) from U4 ok e)
 refine⟨z,y,xs,r,o,es,ep,c,d,f,g,⟨i,j⟩,?_⟩
 have all:∀{l:List (MK×V)}{m:Tr},KT H l m->∀x∈m,qT P w h x.1 x.2.1:=λ {l m} q=>by
  induction q with
  |nil=>intro x b;exact nomatch b
  |cons hq _ ih=>
   intro x b
   rcases Af.mp b with e|b
   .rw[e,<-hq.1];exact Il ok hq.2.1
   .exact ih x b
 exact all r
def FN(ok:HOk P w H h)(e:H a=some (.dT kvs)):kvs.length<=sizeLine/\(a==sysModules)=false/\∃xs,KT H kvs xs/\DictM P w h a xs:=Im ok (.inl e)
end
def KyT(H:Hp):MK->V->Prop
 |.one k,y=>y=kV k
def KyT.val:∀{k:MK}{y:V}{u:Value},KyT H k y->RelV y u->KyV H k u
 |.one k,y,u,e,r=>by have e:y=kV k:=e;subst e;exact r
def DGet(H:Hp)(a:Addr)(y:V)(r:Option V):Prop:=∃kvs k,Rd H a (.dT kvs)/\KyT H k y/\r=yC kvs k
def DPut(H:Hp)(a:Addr)(y v:V)(H':Hp):Prop:=∃kvs k,H a=some (.dT kvs)/\KyT H k y/\kvs.length<sizeLine/\H'=zk H a (.dT (putK kvs k v))
def DGet.t{H:Hp}{a:Addr}{y:V}{l:List (MK×V)}{k:MK}(e:H a=some (.dT l))(b:KyT H k y):DGet H a y (yC l k):=⟨l,k,.inl e,b,rfl⟩
def DPut.t{H:Hp}{a:Addr}{y v:V}{l:List (MK×V)}{k:MK}(e:H a=some (.dT l))(b:KyT H k y)(c:l.length<sizeLine):DPut H a y v (zk H a (.dT (putK l k v))):=⟨l,k,e,b,c,rfl⟩
section
variable{X:Cx}{pins:AL}{σ:St}{H:Hp}{s:Shared}{a:Addr}{y v:V}{u r:Value}{o:Option V}{A:Around}{E:VP}
def Inv.big(I:Inv X pins σ H s):sysModules<s.heap.objs.size:=by
 have h:mainGlobals<s.heap.objs.size:=(I.mod.glob.keeps I.bk).lt;exact Nat.lt_trans (by decide) h
def U5(c:A.units+1<cLine)(I:Inv X pins σ H s)(g:DGet H a y (some v))(d:RelV y u)(h:∀w' s',Inv X pins σ H s'->RelV v w'->Q w' s'):
  wpAny (model X.prog X.w) A (getItem (.ref a) u) Q E s:=by
 obtain⟨kvs,k,e,f,l⟩:=g;obtain⟨z,hd,xs,b,dd⟩:=Im I.hok e;obtain⟨x,i,j⟩:=RelO.some_of (v:=v) (o:=yn xs k) (by rw[l];exact b.val k)
 exact U0 c (Il I.hok (f.val d)) dd i λ t=>h x _ (I.tok _) j
def U6(c:A.units+1<cLine)(I:Inv X pins σ H s)(g:DGet H a y o)(d:RelV y u)(h:∀s',Inv X pins σ H s'->Q (.bool (!o.isSome)) s'):
  wpAny (model X.prog X.w) A (compareOp .NotIn u (.ref a)) Q E s:=by
 obtain⟨kvs,k,e,f,l⟩:=g;obtain⟨z,hd,xs,b,dd⟩:=Im I.hok e
 refine Uz c (Il I.hok (f.val d)) hd dd λ t=>?_
 rw[<-(b.val k).isSome_eq,<-l];exact h _ (I.tok _)
def U7(I:Inv X pins σ H s)(c:Mut (H a))(hs:Heap.SameBut a s.heap h')(d:∃q,h'.get? a=some q)(new:ObjOk X.prog X.w (zk H a ob) h' a ob):
  Inv X pins σ (zk H a ob) {s with heap:=h',toks:=t'}:=
 I.write (x:=a) (e:=a) c (.inl rfl) (λ b q f z=>(hs.2 b f).trans z) d new
def U8(m:A.units+1<cLine)(I:Inv X pins σ H s)(g:DPut H a y v H')(f:RelV y u)(n:RelV v r)(h:∀s',Inv X pins σ H' s'->Q () s'):
  wpAny (model X.prog X.w) A (setItem (.ref a) u r) Q E s:=by
 obtain⟨kvs,k,e,i,l,o⟩:=g;subst o;obtain⟨z,hd,xs,b,dd⟩:=FN I.hok e;have p:(putK kvs k v).length<=sizeLine:=by have:=U2 kvs k v;lia
 refine U1 m (Il I.hok (i.val f)) dd (by rw[<-Paired.length b];exact z) λ h' t d hs=>h _ ?_
 obtain⟨q,es,ep,q1,q2,q3,q4,q5,_⟩:=d
 refine U7 I (by rw[e];exact True.intro) hs ⟨q,q1⟩ ⟨p,hd,_,(b.put (i.val f) n).keeps λ c ys j=>?_,q,es,ep,q1,q2,q3,q4,q5⟩
 rw[zK (R9 j e (λ z=>nomatch z))];exact j
end
def NoSl(i:Expr):Prop:=∀a iv,subscripted i false a iv=operate [a,iv] (getItem a iv)
def U9{prog:Program}{w:World}{A:Around}{E:VP}{s:Shared}{env:Env}{value slice:Expr}{pos:Pos}{T id:String}{Q:VP}
  (k:typeLookup (.type T) "__getitem__" =pure (some (.builtin id))) (hs:NoSl slice)
  (h:wpAny (model prog w) A (eval value env) (λ o c=>wpAny (model prog w) A (eval slice env) (λ i a=>a.TypeIs o T/\wpAny (model prog w) A (getItem o i) Q E a) E c) E s):
  wpAny (model prog w) A (eval (.Subscript value slice pos) env) Q E s:=by
 refine Subscript_ (Bv h (λ o c f=>Bv f (λ i a b=>?_) λ _ _ x=>x) λ _ _ x=>x)
 obtain⟨j,b⟩:=b;unfold subscriptTail
 refine Aa ?_
 rw[getitemInPython_of_ne j.not_modules]
 refine Aa (wpAny_specialOf j k ?_)
 have e:wpAny (model prog w) A (subscripted slice false o i) (λ r d=>wpAny (model prog w) A (letTemporaryGo value o r >>=λ _=>pure r) Q E d) E a:=by
  rw[hs o i];exact wpAny_operating (Bv b (λ r d g=>Aa (wpAny_letTemporaryGo (Ad g))) λ _ _ x=>x)
 first
  |exact Ad (Aa e)
  |exact Aa (Ad (Aa e))
  |exact Aa e
def UA(I:Inv X pins σ H s)(g:DGet H a y o):s.TypeIs (.ref a) "dict" :=by
 obtain⟨kvs,k,e,_,_⟩:=g;obtain⟨_,_,xs,_,dd⟩:=Im I.hok e;exact dd.typeIs
def UB(td ty:TE):TE:=λ σ H Q=>td σ H λ x H1=>ty σ H1 λ y H2=> ∃a v,x=.ref a/\DGet H2 a y (some v)/\Q v H2
def NS(td ty tv:TE):TS:=λ D σ H=>tv σ H λ v H1=>td σ H1 λ x H2=>ty σ H2 λ y H3=> ∃a b,x=.ref a/\DPut H3 a y v b/\D.nx σ b
section
variable{X:Cx}{o i e value:Expr}{pos pos' tpos:Pos}{td ty tv:TE}
def UC(d:X.A.units+1<cLine)(e:PE X o td)(hi:PE X i ty)(hs:NoSl i):PE X (.Subscript o i pos) (UB td ty):=by
 intro pins s σ H Q I h
 refine U9 PySem.F.slot_dict_getitem.lookup hs (zt (e pins s σ H _ I h) λ u s1 x H1 f j q1=>zt (hi pins s1 σ H1 _ f q1) λ iv s2 y H2 c k l=>?_)
 obtain⟨a,v,ex,g,q2⟩:=l;subst ex;obtain rfl:u=Value.ref a:=j;exact⟨UA c g,U5 d c g k λ w' m I3 b=>⟨v,H2,I3,b,q2⟩⟩
def UD(b:X.A.units+1<cLine)(c:PE X o td)(hi:PE X i ty)(d:PE X value tv)(hs:swapsWith value (some (.Subscript o i pos')) pos.line X.env=pure false):
  PS X (.Assign [.Subscript o i pos'] value pos) (NS td ty tv):=by
 intro pins s σ H D I h
 refine wpAny_Assign_Subscript (zt (d pins s σ H _ I h) λ r s1 v H1 e f q1=>zt (c pins s1 σ H1 _ e q1) λ u s2 x H2 j k q2=>thn (hi pins s2 σ H2 _ j q2) λ iv p ⟨y,H3,I3,l,a,m,ex,g,q3⟩=>?_) hs
 subst ex;obtain rfl:u=Value.ref a:=k;exact U8 b I3 g l f λ q n=>⟨σ,m,n,q3⟩
end
def UE(h:Heap)(a:sysModules<h.objs.size):ObjOk P w H (h.push {cls:= .type "dict",data:= .dict #[]}) h.objs.size (.dT []):=
 ⟨B5 _,D5.mpr (Bm (Aw a)),[],.nil,_,#[],0,Bf _ rfl,⟨rfl,rfl,rfl⟩,rfl,rfl,D1,rfl⟩
def UF:TE:=λ _ H Q=> ∀p,H p=none->Q (.ref p) (zk H p (.dT []))
section
variable{X:Cx}{pos:Pos}
def UG:PE X (.Dict [] [] pos) UF:=λ pins s σ H Q I h=>
 wpAny_Dict_empty ⟨.ref s.heap.objs.size,_,I.laid (a:=s.heap.objs.size) (o:= .dT []) (t':=s.toks) (λ _ _ q=>As _ q) (Ag _) (UE s.heap I.big),rfl,h _ (I.hok.fresh (Ag _))⟩
end
def Its(z:Str):It:=⟨λ i _=>i<z.length,λ i H x H'=>H'=H/\∃c,z.cps[i]? =some c/\x=.str ⟨#[c]⟩,λ i _=>z.length<=i⟩
def UH{P:Program}{w:World}{K:FG}{tg:Expr}(it:Addr)(z:Str)(t:Tok):Turn P w K tg (Its z) [it] it (λ i h=>h.IsStrIter it "str_ascii_iterator" z t i) where
 mem:=by simp
 obj:=λ i h st b a=>by
  have e:b=it:=by simpa using a
  subst e;obtain⟨o,e,c,d⟩:=st;exact⟨o,e,λ v y=>by rw[d]at y;cases y⟩
 keep:=λ i h h' st k=>by
  obtain⟨o,e,r⟩:=st;exact⟨o,k it (by simp) o e,r⟩
 item:=by
  intro X j l m B i pins s σ H E I g st n;subst j l m;have hi:i<z.cps.size:=n;obtain⟨p,q,C,u,x,A⟩:=g it (by simp)
  refine wpAny_pyNext_ascii_item st (c:=z.cps[i]) (by simp[hi]) λ h' f sb=>?_
  have D:Inv X pins σ H {s with heap:=h',toks:=s.toks+1}:=I.turned (λ b o a e=>(sb.2 b a).trans e) p q u x A
  obtain⟨o,e,c,d⟩:=id f;exact⟨_,rfl,FC (s:={s with heap:=h',toks:=s.toks+1}) e c d (by decide) ⟨.str ⟨#[z.cps[i]]⟩,H,D,⟨_,rfl⟩,⟨rfl,_,by simp[hi],rfl⟩,f,λ b a=>(g b a).1⟩⟩
 done:=by
  intro X j l m B i pins s σ H E I g st n;subst j l m;have hi:z.cps.size<=i:=n;obtain⟨p,q,C,u,x,A⟩:=g it (by simp)
  exact wpAny_pyNext_ascii_end (I.ok.hd B) st (by simp[hi]) λ h' F=>⟨rfl,I.turned (t':=s.toks) (λ b o a e=>F b o a e) p q u x A⟩
 self:=λ _ _ _ _ _ st h=>wpAny_pyIter_striter_ascii st h
def UI{P:Program}{w:World}{K:FG}{tg:Expr}(it:Addr)(z:Str)(t:Tok):Turn P w K tg (Its z) [it] it (λ i h=>h.IsStrIter it "str_iterator" z t i) where
 mem:=by simp
 obj:=λ i h st b a=>by
  have e:b=it:=by simpa using a
  subst e;obtain⟨o,e,c,d⟩:=st;exact⟨o,e,λ v y=>by rw[d]at y;cases y⟩
 keep:=λ i h h' st k=>by
  obtain⟨o,e,r⟩:=st;exact⟨o,k it (by simp) o e,r⟩
 item:=by
  intro X j l m B i pins s σ H E I g st n;subst j l m;have hi:i<z.cps.size:=n;obtain⟨p,q,C,u,x,A⟩:=g it (by simp)
  refine wpAny_pyNext_wide_item st (c:=z.cps[i]) (by simp[hi]) λ h' f sb=>?_
  have D:Inv X pins σ H {s with heap:=h',toks:=s.toks+1}:=I.turned (λ b o a e=>(sb.2 b a).trans e) p q u x A
  obtain⟨o,e,c,d⟩:=id f;exact⟨_,rfl,FC (s:={s with heap:=h',toks:=s.toks+1}) e c d (by decide) ⟨.str ⟨#[z.cps[i]]⟩,H,D,⟨_,rfl⟩,⟨rfl,_,by simp[hi],rfl⟩,f,λ b a=>(g b a).1⟩⟩
 done:=by
  intro X j l m B i pins s σ H E I g st n;subst j l m;have hi:z.cps.size<=i:=n;obtain⟨p,q,C,u,x,A⟩:=g it (by simp)
  exact wpAny_pyNext_wide_end (I.ok.hd B) st (by simp[hi]) λ h' F=>⟨rfl,I.turned (t':=s.toks) (λ b o a e=>F b o a e) p q u x A⟩
 self:=λ _ _ _ _ _ st h=>wpAny_pyIter_striter_wide st h
section
variable{X:Cx}{tg:Expr}
def iStr(tl:TE):TI:=λ σ H R=>tl σ H λ x H1=> ∃z,x=.str z/\R (Its z) H1
def UJ{l:Expr}{tl:TE}(c:PE X l tl):PI X tg l (iStr tl):=by
 intro pins s σ H R I h
 refine thn (c pins s σ H _ I h) λ v s1 ⟨x,H1,a,d,q1⟩=>?_
 obtain⟨z,e,q⟩:=q1;subst e;obtain⟨t,rfl⟩:=d;have fp:∀b∈[s1.heap.objs.size],yZ X pins H1 b:=λ b f=>by
  have e:b=s1.heap.objs.size:=by simpa using f
  subst e;exact a.fpOk (Ag _) (a.hok.fresh (Ag _))
 cases ha:z.cps.all (· < 128)
 .exact wpAny_pyIter_wide ha ⟨s1.heap.objs.size,[s1.heap.objs.size],_,_,H1,rfl,a.kept (t':=s1.toks) λ b o e=>As _ e,UI _ z t,⟨_,Bf _ rfl,rfl,rfl⟩,fp,q⟩
 .exact wpAny_pyIter_ascii ha ⟨s1.heap.objs.size,[s1.heap.objs.size],_,_,H1,rfl,a.kept (t':=s1.toks) λ b o e=>As _ e,UH _ z t,⟨_,Bf _ rfl,rfl,rfl⟩,fp,q⟩
def rSlS:V->Option Int->Option Int->Hp->VK->Prop:=λ x lo hi H Q=> ∃z,x=.str z/\z.length<=sizeLine/\Q (.str (Txt.slice z lo hi)) H
def NT(h:IsPart v o):∃p:Option (Int×Tok),v=partValue p/\p.map (·.1)=o:=by
 cases h with
 |none=>exact⟨none,rfl,rfl⟩
 |int i t=>exact⟨some (i,t),rfl,rfl⟩
def UK:SlR X rSlS:=by
 intro pins s σ H x v d e lo hi sl Q I b hs pl c h;obtain⟨z,rfl,hz,q⟩:=h;obtain⟨t,rfl⟩:=b;obtain⟨p,rfl,rfl⟩:=NT pl;obtain⟨a,rfl,rfl⟩:=NT c
 refine⟨"str",_,slot_str_getitem.lookup,typeIs_str _ _ _,?_⟩
 refine wpAny_getItem_str_slice (l:=p) (u:=a) (st:=none) hs rfl ?_
 exact post_val_or_str ⟨By (Txt.slice_le z _ _) hz,λ t' k=>⟨.str (Txt.slice z (p.map (·.1)) (a.map (·.1))),H,I.tok k,⟨t',rfl⟩,q⟩⟩
end
def UL(z:Str)(c:Nat):(!(Builtin.Str.occurrences z ⟨#[c]⟩ 0 z.length 1).isEmpty)=decide (c∈z.cps.toList):=StrLaws.found_one z c
end L2
namespace L2
open PySem PySem.Spec PySem.W PyProof.Rows
def Ite(K:FG)(a:Addr):It:=
 ⟨λ i H=> ∃(xs:List V)(x:V),SqL K H a xs/\xs[i]? =some x,
  λ i H v H'=> ∃(T:Addr)(x:V),v=.ref T/\H T=none/\H'=zk H T (.tup [.int i,x])/\∀xs,SqL K H a xs->xs[i]? =some x,
  λ i H=> ∃xs,SqL K H a xs/\xs.length<=i⟩
def EnSt(z b a:Addr)(i:Nat)(h:Heap):Prop:=(∃old,IsEnum h z b (i:Int) old)/\h.IsListIter b a i
def UM{P:Program}{w:World}{K:FG}{f:List Expr} {x1} {tp:Pos} {z d a:Addr} (g:z≠d):Turn P w K (.Tuple f x1 tp) (Ite K a) [z,d] z (EnSt z d a) where
 mem:=by simp
 obj:=λ i h st c j=>by
  obtain⟨⟨old,hz⟩,⟨o1,e1,_,G⟩⟩:=st;simp only[Af,Bt,Bn]at j
  rcases j with rfl|rfl
  .exact⟨_,hz,λ v e=>by cases e⟩
  .exact⟨_,e1,λ v e=>by rw[G]at e;cases e⟩
 keep:=λ i h h' st k=>by
  obtain⟨⟨old,hz⟩,h1⟩:=st;exact⟨⟨old,k z (by simp) _ hz⟩,h1.at λ o e=>k d (by simp) o e⟩
 item:=λ X hp n p j i pins s σ H E I fp st go=>by
  subst hp n p;obtain⟨⟨old,hz⟩,h1⟩:=st;obtain⟨xs,x,m,ex⟩:=go;obtain⟨vs,r,pv,_⟩:=I.list m;obtain⟨D,t,u⟩:=r.get ex
  refine wpAny_pyNext_enum_item hz h1 pv.isList (x:=D) (by simpa using t) g λ h' J L M T y=>?_
  refine⟨_,rfl,wpAny_letOwnedTupleGo_enum J λ l b1 b2=>?_⟩
  have N:s.heap.objs.size≠z:=Ct (Ai hz);have k2:∀c o,c∉[z,d]->s.heap.get? c=some o->l.get? c=some o:=λ c o b e=>by
   simp only[Af,Bt,Bn,not_or]at b;exact b2.extBut _ _ b.1 (y c o b.1 b.2 e)
  have O:Inv X pins σ (zk H s.heap.objs.size (.tup [.int i,x])) {s with heap:=l,toks:=s.toks+1}:=
   I.turnLay (ch:=[z,d]) k2 (λ c b=>fp c b) (Ag _)
    ⟨by show 2<=sizeLine;decide,[.int i s.toks,D],.cons ⟨_,rfl⟩ (.cons u .nil),⟨_,b2.extBut _ _ N M,rfl,_,rfl⟩⟩
  have R:H s.heap.objs.size=none:=I.hok.fresh (Ag _)
  refine⟨.ref s.heap.objs.size,_,O,rfl,⟨_,x,rfl,R,rfl,λ S q=>?_⟩,⟨⟨_,b1⟩,L.extBut b2.extBut g.symm⟩,λ c b=>?_⟩
  .rw[I.list_inj q m];exact ex
  .have B:=fp c b
   have:c≠s.heap.objs.size:=by
    have C:c<s.heap.objs.size:=by
     simp only[Af,Bt,Bn]at b
     rcases b with rfl|rfl
     .exact Ai hz
     .obtain⟨_,e,_⟩:=h1;exact Ai e
    exact Aw C
   rw[zK this];exact B.1
 done:=λ X hp n p j i pins s σ H E I fp st stop=>by
  subst hp n p;obtain⟨⟨old,hz⟩,h1⟩:=st;obtain⟨xs,m,F⟩:=stop;obtain⟨vs,r,pv,_⟩:=I.list m;have U:=r.length
  refine wpAny_pyNext_enum_end (I.ok.hd j) hz h1 pv.isList (by rw[Hb,Aq];lia) λ h' y=>⟨rfl,?_⟩
  refine I.turnedL (ch:=[z,d]) (t':=s.toks) (λ c o b e=>?_) (λ c b=>fp c b)
  simp only[Af,Bt,Bn,not_or]at b;exact y c o b.2 e
 self:=λ A i s Q E st h=>by
  obtain⟨⟨old,hz⟩,_⟩:=st;exact wpAny_pyIter_enum hz h
def UN(K:FG)(ta:TA):TI:=λ σ H R=>ta σ H λ vs H1=> ∃(a:Addr)(xs:List V),vs=[.ref a]/\SqL K H1 a xs/\R (Ite K a) H1
def UO{X:Cx}{b:List Expr} {x1} {tp:Pos} {e1:Expr} {ta:TA} {p pos:Pos} (i:Gl X "enumerate") (j:X.mg "enumerate" =none) (k:PA X [e1] ta) (hs:starEach [e1] X.env=[(false,eval e1 X.env)]:=by rfl):
  PI X (.Tuple b x1 tp) (.Call (.Name "enumerate" p) [e1] [] pos) (UN X.K ta):=by
 intro pins s σ H R I h
 refine Call_ (BN I i j (by rfl) (E9 (zt (k pos pins s σ H _ I h) λ us s1 vs H1 e l q1=>?_) hs rfl))
 obtain⟨a,xs,rfl,m,q⟩:=q1;obtain⟨u,rfl,n⟩:=BQ l;cases n;obtain⟨vs,o,r,_⟩:=e.list m
 refine call_enumerate_list r.isList λ h' hz f t v=>?_
 refine wpAny_pyIter_enum hz ?_
 have w:Inv X pins σ H1 {s1 with heap:=h'}:=e.kept (t':=s1.toks) v
 refine⟨_,[s1.heap.objs.size+1,s1.heap.objs.size],_,_,H1,rfl,w,UM (a:=a) (Ct (C4 _)),⟨⟨_,hz⟩,f⟩,λ c g=>?_,q⟩
 have d:s1.heap.objs.size<=c:=by
  simp only[Af,Bt,Bn]at g
  rcases g with rfl|rfl
  all_goals first|exact Ag _|exact Nat.le_add_right _ _
 exact e.fpOk d (e.hok.fresh d)
def NU{a b:List Int}(p:a.Perm b)(c:a.Pairwise (λ x y=>x<=y))(d:b.Pairwise (λ x y=>x<=y)):a=b:=
 p.eq_of_pairwise (λ x y _ _ h1 h2=>by lia) c d
end L2
namespace L3
open PySem L2
inductive V3 where
 |non|bl (b:Bool)|int (i:Int)|str (x:Str)|ty (n:String)
 |tup (xs:List V3)|lst (xs:List V3)|scr (ns:List Int)
 |dT (kvs:List (MK×V3))
 |obj (c:Str) (fs:List (Str×V3))|cls (c:Str)|fn (n:Str) (env:List V3)
 |loc (n:Nat)
inductive C3 where
 |lst (xs:List V3)|dT (kvs:List (MK×V3))|ins (c:Str) (fs:List (Str×V3))|dead
inductive Vl where
 |v (x:V3)|m (c:C3)
structure X3 where
 c:Str
 nm:Option V3
abbrev S3:=List (Option Vl)
abbrev H3:=List C3
inductive Res(α:Type) where
 |ok (r:α) (h:H3)|ex (x:X3) (h:H3)|no
abbrev E3:=S3->H3->Res Vl
noncomputable def C3.fz:C3->Option V3
 |.lst xs=>some (.lst xs)
 |.dT kvs=>some (.dT kvs)
 |.ins c fs=>some (.obj c fs)
 |.dead=>none
def Vl.fz:Vl->Option V3
 |.v x=>some x
 |.m c=>c.fz
noncomputable def Res.bind{α β:Type}(r:Res α)(k:α->H3->Res β):Res β:=match r with
 |.ok r h=>k r h
 |.ex x h=>.ex x h
 |.no=>.no
structure Kx where
 K:FG
 cl:Str->Option Addr
def KnL(K:FG)(a:Addr)(ns:List Int):Prop:=
 ∃(o:Obj)(its:Array Value)(n:Nat),K.lookup a=some o/\o.cls=.type "list" /\o.dict=none/\o.data=.seq its n/\its.size<=sizeLine/\Vals (ns.map V.int) its.toList
def XD(β:AO)(O:Addr->Prop)(H:Hp)(dd:Option Addr)(fs:List V3):Prop:=match dd with
 |none=>fs=[]
 |some d=> ∃z:Str,fs=[.str z]/\H d=some (.xd [(("name" :Str),V.str z)])/\some d∉β/\¬O d
def XD.imp(x:XD β O H dd fs)(k:∀d o,H d=some o->some d∉β->¬O d->H' d=some o/\some d∉β'/\¬O' d):XD β' O' H' dd fs:=by
 cases dd with
 |none=>exact x
 |some d=>
  obtain⟨z,e,h,n,q⟩:=x;obtain⟨h1,a,q1⟩:=k d _ h n q;exact⟨z,e,h1,a,q1⟩
mutual
inductive Rep(κ:Kx)(β:AO)(O:Addr->Prop)(H:Hp):V3->V->Prop
 |non:Rep κ β O H .non .non
 |bl (b:Bool):Rep κ β O H (.bl b) (.bl b)
 |int (i:Int):Rep κ β O H (.int i) (.int i)
 |str (x:Str):Rep κ β O H (.str x) (.str x)
 |ty (n:String):Rep κ β O H (.ty n) (.ty n)
 |tup {xs:List V3} {ys:List V} {a:Addr}:H a=some (.tup ys)->some a∉β->¬O a->Reps κ β O H xs ys->Rep κ β O H (.tup xs) (.ref a)
 |lst {xs:List V3} {ys:List V} {a:Addr}:H a=some (.lst ys)->some a∉β->¬O a->Reps κ β O H xs ys->Rep κ β O H (.lst xs) (.ref a)
 |scr {ns:List Int} {a:Addr} {o:Obj}:H a=some (.frz o (.lst (ns.map V.int)))->some a∉β->¬O a->Rep κ β O H (.scr ns) (.ref a)
 |scrK {ns:List Int} {a:Addr}:KnL κ.K a ns->Rep κ β O H (.scr ns) (.ref a)
 |dT {kvs:List (MK×V3)} {ws:List (MK×V)} {a:Addr}:H a=some (.dT ws)->some a∉β->¬O a->RepP κ β O H kvs ws->Rep κ β O H (.dT kvs) (.ref a)
 |obj {c:Str} {C:Addr} {fs:List (Str×V3)} {gs:List (Str×V)} {a dx:Addr}:κ.cl c=some C->H a=some (.ins C dx gs)->some a∉β->¬O a->RepP κ β O H fs gs->Rep κ β O H (.obj c fs) (.ref a)
 |cls {c:Str} {C:Addr}:κ.cl c=some C->Rep κ β O H (.cls c) (.ref C)
 |exc {c:Str} {C a:Addr} {dd:Option Addr} {fs:List V3}:κ.cl c=some C->H a=some (excO a (.ref C) dd)->some a∉β->¬O a->XD β O H dd fs->Rep κ β O H (.fn c fs) (.ref a)
 |loc {n:Nat} {v:V}:n<β.length->(∀a,β[n]? =some (some a)->v=.ref a)->Rep κ β O H (.loc n) v
inductive Reps(κ:Kx)(β:AO)(O:Addr->Prop)(H:Hp):List V3->List V->Prop
 |nil:Reps κ β O H [] []
 |cons {x:V3} {y:V} {xs:List V3} {ys:List V}:Rep κ β O H x y->Reps κ β O H xs ys->Reps κ β O H (x::xs) (y::ys)
inductive RepP(κ:Kx)(β:AO)(O:Addr->Prop)(H:Hp):{α:Type}->List (α×V3)->List (α×V)->Prop
 |nil {α:Type}:RepP κ β O H (α:=α) [] []
 |cons {α:Type} {k:α} {x:V3} {y:V} {xs:List (α×V3)} {ys:List (α×V)}:Rep κ β O H x y->RepP κ β O H xs ys->RepP κ β O H ((k,x)::xs) ((k,y)::ys)
end
structure Ext(M:Addr->Prop)(β:AO)(H:Hp)(β':AO)(H':Hp):Prop where
 keep:∀a o,H a=some o->some a∉β->¬M a->H' a=some o/\some a∉β'
 len:β.length<=β'.length
 bet:∀i a,i<β.length->β'[i]? =some (some a)->β[i]? =some (some a)
 there:∀a o,H a=some o->∃o',H' a=some o'
 nwb:∀(i:Nat) a,β.length<=i->β'[i]? =some (some a)->H a=none
def nwb0{β:AO}{H:Hp}:∀(i:Nat) a,β.length<=i->β[i]? =some (some a)->H a=none:=λ i a h e=>by
 have:=(Ao.mp e).1;lia
abbrev No:Addr->Prop:=λ _=>False
def Ext.refl{M:Addr->Prop}{β:AO}{H:Hp}:Ext M β H β H:=⟨λ _ _ h n _=>⟨h,n⟩,Ag _,λ _ _ _ h=>h,λ _ o h=>⟨o,h⟩,nwb0⟩
def NV{β b c:AO}{H H1:Hp}(t:∀a o,H a=some o->∃o',H1 a=some o')(bet:∀i a,i<b.length->c[i]? =some (some a)->b[i]? =some (some a))(d:∀(i:Nat) a,β.length<=i->b[i]? =some (some a)->H a=none)
  (e:∀(i:Nat) a,b.length<=i->c[i]? =some (some a)->H1 a=none):∀(i:Nat) a,β.length<=i->c[i]? =some (some a)->H a=none:=λ i a hi h=>by
 by_cases h1:i<b.length
 .exact d i a hi (bet i a h1 h)
 .cases w:H a with
  |none=>rfl
  |some o=>
   obtain⟨o',z⟩:=t a o w;rw[e i a (by lia) h]at z;cases z
def Ext.trans0{β c d:AO}{H H1 H2:Hp}(a:Ext No β H c H1)(b:Ext No c H1 d H2):Ext No β H d H2:=
 ⟨λ x o h n m=>let ⟨h1,n1⟩:=a.keep x o h n m;b.keep x o h1 n1 m,By a.len b.len,λ i x hi h=>a.bet i x hi (b.bet i x (Bj hi a.len) h),λ x o h=>let ⟨o1,h1⟩:=a.there x o h;b.there x o1 h1,NV a.there (λ i x hi h=>b.bet i x hi h) a.nwb b.nwb⟩
mutual
noncomputable def low(n:Nat):V3->Bool
 |.loc m=>decide (m<n)
 |.tup xs|.lst xs=>yX n xs
 |.dT kvs=>lowT n kvs
 |.obj _ fs=>lowF n fs
 |.fn _ env=>yX n env
 |_=>true
noncomputable def yX(n:Nat):List V3->Bool
 | []=>true
 |x::r=>low n x && yX n r
noncomputable def lowT(n:Nat):List (MK×V3)->Bool
 | []=>true
 | (_,x)::r=>low n x && lowT n r
noncomputable def lowF(n:Nat):List (Str×V3)->Bool
 | []=>true
 | (_,x)::r=>low n x && lowF n r
end
def qe{α:Type}(n:Nat)(kvs:List (α×V3)):Prop:=∀a∈kvs,low n a.2=true
theorem lowT_iff:∀{kvs:List (MK×V3)},lowT n kvs=true↔qe n kvs
 | []=>by simp[lowT,qe]
 | (k,x)::r=>by simp[lowT,qe,Be,lowT_iff (kvs:=r)]
theorem lowF_iff:∀{kvs:List (Str×V3)},lowF n kvs=true↔qe n kvs
 | []=>by simp[lowF,qe]
 | (k,x)::r=>by simp[lowF,qe,Be,lowF_iff (kvs:=r)]
def lowC(n:Nat):C3->Prop
 |.lst xs=>yX n xs=true
 |.dT kvs=>qe n kvs
 |.ins _ fs=>qe n fs
 |.dead=>True
section
variable{κ:Kx}{β β':AO}{O O':Addr->Prop}{H H':Hp}{M:Addr->Prop}
def Mp(n:Nat)(β:AO)(O:Addr->Prop)(H:Hp)(β':AO)(O':Addr->Prop)(H':Hp):Prop:=
 (∀a o,H a=some o->some a∉β->¬O a->H' a=some o/\some a∉β'/\¬O' a)/\∀m,m<n->m<β.length->m<β'.length/\∀a,β'[m]? =some (some a)->β[m]? =some (some a)
def XD.low(x:XD β O H dd fs):yX n fs=true:=by
 cases dd with
 |none=>cases x;rfl
 |some d=>obtain⟨z,rfl,_⟩:=x;rfl
theorem Rep.low(r:Rep κ β O H x v):low β.length x=true:=
 Rep.rec (motive_1:=λ x _ _=>L3.low β.length x=true) (motive_2:=λ x _ _=>yX β.length x=true) (motive_3:=λ x _ _=>qe β.length x)
  rfl (λ _=>rfl) (λ _=>rfl) (λ _=>rfl) (λ _=>rfl) (λ _ _ _ _ i=>i) (λ _ _ _ _ i=>i) (λ _ _ _=>rfl) (λ _=>rfl) (λ _ _ _ _ i=>lowT_iff.mpr i) (λ _ _ _ _ _ i=>lowF_iff.mpr i) (λ _=>rfl)
  (λ _ _ _ _ x=>x.low) (λ h _=>Cd h) rfl (λ _ _ i j=>(Be _ _).mpr ⟨i,j⟩) (λ _ h=>nomatch h) (λ _ _ i j _ h=>(Af.mp h).elim (λ z=>z ▸ i) (j _)) r
theorem Reps.low(r:Reps κ β O H x v):yX β.length x=true:=by
 induction x generalizing v with
 |nil=>rfl
 |cons _ _ ih=>cases r with|cons a r=>exact (Be _ _).mpr ⟨a.low,ih r⟩
theorem RepP.low{α:Type}{x:List (α×V3)}{v:List (α×V)}(r:RepP κ β O H x v):qe β.length x:=by
 induction x generalizing v with
 |nil=>exact λ _ h=>nomatch h
 |cons _ _ ih=>cases r with|cons a r=>exact λ _ h=>(Af.mp h).elim (λ z=>z ▸ a.low) (ih r _)
def Rep.map(p:Mp n β O H β' O' H')(r:Rep κ β O H x v):L3.low n x=true->Rep κ β' O' H' x v:=
 Rep.rec (motive_1:=λ x v _=>L3.low n x=true->Rep κ β' O' H' x v) (motive_2:=λ x v _=>yX n x=true->Reps κ β' O' H' x v) (motive_3:=λ x v _=>qe n x->RepP κ β' O' H' x v)
  (λ _=>.non) (λ b _=>.bl b) (λ i _=>.int i) (λ x _=>.str x) (λ t _=>.ty t)
  (λ h q o _ i l=>have z:=p.1 _ _ h q o;.tup z.1 z.2.1 z.2.2 (i l)) (λ h q o _ i l=>have z:=p.1 _ _ h q o;.lst z.1 z.2.1 z.2.2 (i l))
  (λ h q o _=>have z:=p.1 _ _ h q o;.scr z.1 z.2.1 z.2.2) (λ h _=>.scrK h)
  (λ h q o _ i l=>have z:=p.1 _ _ h q o;.dT z.1 z.2.1 z.2.2 (i (lowT_iff.mp l))) (λ k h q o _ i l=>have z:=p.1 _ _ h q o;.obj k z.1 z.2.1 z.2.2 (i (lowF_iff.mp l))) (λ k _=>.cls k)
  (λ k h q o x _=>have z:=p.1 _ _ h q o;.exc k z.1 z.2.1 z.2.2 (x.imp p.1)) (λ h q l=>have z:=p.2 _ (Gi l) h;.loc z.1 λ a w=>q a (z.2 a w))
  (λ _=>.nil) (λ _ _ i j l=>have l:=(Be _ _).mp l;.cons (i l.1) (j l.2)) (λ _=>.nil) (λ _ _ i j l=>.cons (i (l _ Aj)) (j λ _ h=>l _ (Ap _ h))) r
theorem Reps.map(p:Mp n β O H β' O' H')(r:Reps κ β O H x v)(l:yX n x=true):Reps κ β' O' H' x v:=by
 induction x generalizing v with
 |nil=>cases r;exact .nil
 |cons _ _ ih=>cases r with|cons a r=>have l:=(Be _ _).mp l;exact .cons (a.map p l.1) (ih r l.2)
theorem RepP.map{n:Nat}(p:Mp n β O H β' O' H'){α:Type}{x:List (α×V3)}{v:List (α×V)}(r:RepP κ β O H x v)(l:qe n x):RepP κ β' O' H' x v:=by
 induction x generalizing v with
 |nil=>cases r;exact .nil
 |cons _ _ ih=>cases r with|cons a r=>exact .cons (a.map p (l _ Aj)) (ih r λ _ h=>l _ (Ap _ h))
def Ext.mp(e:Ext M β H β' H')(b:∀a,M a->O a)(c:∀a o,H a=some o->¬O a->¬O' a):Mp β.length β O H β' O' H':=
 ⟨λ a o h n q=>have z:=e.keep a o h n λ m=>q (b a m);⟨z.1,z.2,c a o h q⟩,λ _ _ l=>⟨Bj l e.len,λ _ q=>e.bet _ _ l q⟩⟩
def Rep.ext(e:Ext M β H β' H')(b:∀a,M a->O a)(c:∀a o,H a=some o->¬O a->¬O' a)(r:Rep κ β O H x y):Rep κ β' O' H' x y:=r.map (e.mp b c) r.low
def Reps.ext(e:Ext M β H β' H')(b:∀a,M a->O a)(c:∀a o,H a=some o->¬O a->¬O' a)(r:Reps κ β O H x y):Reps κ β' O' H' x y:=r.map (e.mp b c) r.low
def RepP.ext(e:Ext M β H β' H')(b:∀a,M a->O a)(c:∀a o,H a=some o->¬O a->¬O' a){α:Type}{x:List (α×V3)}{y:List (α×V)}(r:RepP κ β O H x y):RepP κ β' O' H' x y:=r.map (e.mp b c) r.low
end
section
variable{κ:Kx}{β β':AO}{O O':Addr->Prop}{H H':Hp}{M:Addr->Prop}
def Rep.sub(h:∀a,O' a->O a)(r:Rep κ β O H x y):Rep κ β O' H x y:=r.ext (M:=No) Ext.refl (λ _ z=>z.elim) λ a _ _ n m=>n (h a m)
def Reps.sub(h:∀a,O' a->O a)(r:Reps κ β O H x y):Reps κ β O' H x y:=r.ext (M:=No) Ext.refl (λ _ z=>z.elim) λ a _ _ n m=>n (h a m)
def RepP.sub(h:∀a,O' a->O a){α:Type}{x:List (α×V3)}{y:List (α×V)}(r:RepP κ β O H x y):RepP κ β O' H x y:=r.ext (M:=No) Ext.refl (λ _ z=>z.elim) λ a _ _ n m=>n (h a m)
def Rep.ext0(e:Ext No β H β' H')(r:Rep κ β O H x y):Rep κ β' O H' x y:=r.ext e (λ _ z=>z.elim) λ _ _ _ n=>n
def Reps.ext0(e:Ext No β H β' H')(r:Reps κ β O H x y):Reps κ β' O H' x y:=r.ext e (λ _ z=>z.elim) λ _ _ _ n=>n
def RepP.ext0(e:Ext No β H β' H'){α:Type}{x:List (α×V3)}{y:List (α×V)}(r:RepP κ β O H x y):RepP κ β' O H' x y:=r.ext e (λ _ z=>z.elim) λ _ _ _ n=>n
theorem Reps.length:∀{x:List V3}{y:List V},Reps κ β O H x y->x.length=y.length
 |_,_,.nil=>rfl
 |_,_,.cons _ r=>congrArg (· +1) r.length
theorem RepP.length{α:Type}:∀{x:List (α×V3)}{y:List (α×V)},RepP κ β O H x y->x.length=y.length
 |_,_,.nil=>rfl
 |_,_,.cons _ r=>congrArg (· +1) r.length
theorem Reps.get:∀{xs:List V3}{ys:List V}{i:Nat}{x:V3},Reps κ β O H xs ys->xs[i]? =some x->∃y,ys[i]? =some y/\Rep κ β O H x y
 |_,_,_,_,.nil,e=>by simp at e
 |_,_,0,_,.cons r _,e=>by simp at e;subst e;exact⟨_,rfl,r⟩
 |_,_,i+1,x,.cons _ t,e=>by
  obtain⟨u,h1,h2⟩:=Reps.get (i:=i) (x:=x) t (by simpa using e)
  exact⟨u,by simpa using h1,h2⟩
theorem Reps.get':∀{xs:List V3}{ys:List V}{i:Nat}{y:V},Reps κ β O H xs ys->ys[i]? =some y->∃x,xs[i]? =some x/\Rep κ β O H x y
 |_,_,_,_,.nil,e=>by simp at e
 |_,_,0,_,.cons r _,e=>by simp at e;subst e;exact⟨_,rfl,r⟩
 |_,_,i+1,x,.cons _ t,e=>by
  obtain⟨u,h1,h2⟩:=Reps.get' (i:=i) (y:=x) t (by simpa using e)
  exact⟨u,by simpa using h1,h2⟩
theorem Reps.append:∀{xs:List V3}{ys:List V}{a:List V3}{b:List V},Reps κ β O H xs ys->Reps κ β O H a b->Reps κ β O H (xs++a) (ys++b)
 |_,_,_,_,.nil,s=>s
 |_,_,_,_,.cons r t,s=>.cons r (Reps.append t s)
theorem Reps.set(r:Rep κ β O H x u):∀{xs:List V3}{us:List V}(i:Nat),Reps κ β O H xs us->Reps κ β O H (xs.set i x) (us.set i u)
 |_,_,_,.nil=>.nil
 |_,_,0,.cons _ t=>.cons r t
 |_,_,i+1,.cons q t=>.cons q (Reps.set r i t)
theorem Reps.take:∀{xs:List V3}{us:List V}(n:Nat),Reps κ β O H xs us->Reps κ β O H (xs.take n) (us.take n)
 |_,_,0,_|_,_,_+1,.nil=>.nil
 |_,_,n+1,.cons r t=>.cons r (Reps.take n t)
theorem Reps.drop:∀{xs:List V3}{us:List V}(n:Nat),Reps κ β O H xs us->Reps κ β O H (xs.drop n) (us.drop n)
 |_,_,0,r=>r
 |_,_,_+1,.nil=>.nil
 |_,_,n+1,.cons _ t=>Reps.drop n t
theorem Reps.eraseIdx:∀{xs:List V3}{us:List V}(i:Nat),Reps κ β O H xs us->Reps κ β O H (xs.eraseIdx i) (us.eraseIdx i)
 |_,_,_,.nil=>.nil
 |_,_,0,.cons _ t=>t
 |_,_,i+1,.cons q t=>.cons q (Reps.eraseIdx i t)
theorem Reps.dropLast(h:Reps κ β O H xs us):Reps κ β O H xs.dropLast us.dropLast:=by
 rw[List.dropLast_eq_take,List.dropLast_eq_take,h.length];exact h.take _
theorem Reps.rep(h:Reps κ β O H xs us):∀k:Nat,Reps κ β O H (List.replicate k xs).flatten (List.replicate k us).flatten
 |0=>.nil
 |k+1=>by
  rw[Dv,Dv,Dw,Dw];exact h.append (Reps.rep h k)
theorem RepP.lookup{α:Type}[BEq α]{f:α}{x:V3}:∀{xs:List (α×V3)}{ys:List (α×V)},RepP κ β O H xs ys->xs.lookup f=some x->∃y,ys.lookup f=some y/\Rep κ β O H x y
 |_,_,.nil,e=>by cases e
 |_,_,.cons (k:=k) r t,e=>by
  rw[Cb]at e ⊢;cases q:f==k with
  |true=>rw[q]at e;cases e;exact⟨_,rfl,r⟩
  |false=>rw[q]at e;exact RepP.lookup t e
theorem RepP.lookup_none{α:Type}[BEq α]{f:α}:∀{xs:List (α×V3)}{ys:List (α×V)},RepP κ β O H xs ys->xs.lookup f=none->ys.lookup f=none
 |_,_,.nil,_=>rfl
 |_,_,.cons (k:=k) r t,e=>by
  rw[Cb]at e ⊢;cases q:f==k with
  |true=>rw[q]at e;cases e
  |false=>rw[q]at e;exact RepP.lookup_none t e
end
def CellR(κ:Kx)(β:AO)(O:Addr->Prop)(H:Hp):C3->Addr->Prop
 |.lst xs,a=> ∃ys,H a=some (.lst ys)/\Reps κ β O H xs ys
 |.dT kvs,a=> ∃ws,H a=some (.dT ws)/\RepP κ β O H kvs ws
 |.ins c fs,a=> ∃C dx gs,κ.cl c=some C/\H a=some (.ins C dx gs)/\RepP κ β O H fs gs
 |.dead,_=>False
structure RelH(κ:Kx)(O:Addr->Prop)(β:AO)(h:H3)(H:Hp):Prop where
 len:β.length=h.length
 inj:∀(i j:Nat) a,β[i]? =some (some a)->β[j]? =some (some a)->i=j
 off:∀a,O a->some a∉β
 trk:∀a,O a->∃o,H a=some o/\∀ys,o≠HO.tup ys
 btr:∀(i:Nat) a,β[i]? =some (some a)->∃o,H a=some o/\∀ys,o≠HO.tup ys
 cell:∀(i:Nat) c,h[i]? =some c->c=.dead\/∃a,β[i]? =some (some a)/\CellR κ β O H c a
structure Fr where
 Oi:Addr->Prop
 T:List Addr
 β:AO
 l:AO
 s:S3
 h:H3
def Fr.O(F:Fr):Addr->Prop:=λ a=>a∈F.T\/some a∈F.l\/F.Oi a
def SlotR(κ:Kx)(F:Fr)(H:Hp)(i:Nat):Vl->V->Prop
 |.v x,v=>Rep κ F.β F.O H x v
 |.m c,v=> ∃a,F.l[i]? =some (some a)/\v=.ref a/\CellR κ F.β F.O H c a
structure Rel(κ:Kx)(F:Fr)(σ:St)(H:Hp):Prop where
 heap:RelH κ F.O F.β F.h H
 slen:F.s.length=σ.length
 llen:F.l.length=F.s.length
 linj:∀(i j:Nat) a,F.l[i]? =some (some a)->F.l[j]? =some (some a)->i=j
 lt:∀a,some a∈F.l->a∉F.T
 lo:∀a,some a∈F.l->¬F.Oi a
 to:∀a∈F.T,¬F.Oi a
 tn:F.T.Nodup
 slot:∀(i:Nat) x,F.s[i]? =some (some x)->∃v,σ[i]? =some (some v)/\SlotR κ F H i x v
section
variable{κ:Kx}{β β':AO}{O O':Addr->Prop}{H H':Hp}{M:Addr->Prop}{c:C3}{a:Addr}{h:H3}
theorem CellR.low(r:CellR κ β O H c a):lowC β.length c:=by
 cases c with
 |lst xs|dT xs=>obtain⟨_,_,r⟩:=r;exact r.low
 |ins c fs=>obtain⟨_,_,_,_,_,r⟩:=r;exact r.low
 |dead=>exact r.elim
theorem CellR.map(p:Mp n β O H β' O' H')(b:∀o,H a=some o->H' a=some o)(r:CellR κ β O H c a)(l:lowC n c):CellR κ β' O' H' c a:=by
 cases c with
 |lst xs|dT xs=>obtain⟨_,q,r⟩:=r;exact⟨_,b _ q,r.map p l⟩
 |ins c fs=>obtain⟨_,_,_,k,q,r⟩:=r;exact⟨_,_,_,k,b _ q,r.map p l⟩
 |dead=>exact r
def CellR.ext(e:Ext M β H β' H')(b:∀a,M a->O a)(d:∀a o,H a=some o->¬O a->¬O' a)(f:∀o,H a=some o->H' a=some o)(r:CellR κ β O H c a):CellR κ β' O' H' c a:=r.map (e.mp b d) f r.low
def CellR.sub(hs:∀a,O' a->O a)(r:CellR κ β O H c a):CellR κ β O' H c a:=r.ext (M:=No) Ext.refl (λ _ z=>z.elim) (λ a _ _ n m=>n (hs a m)) λ _ q=>q
theorem CellR.fz(b:c.fz=some x)(d:some a∉β)(e: ¬O a)(r:CellR κ β O H c a):Rep κ β O H x (.ref a):=by
 cases c with
 |lst xs=>cases b;obtain⟨_,q,r⟩:=r;exact .lst q d e r
 |dT xs=>cases b;obtain⟨_,q,r⟩:=r;exact .dT q d e r
 |ins c fs=>cases b;obtain⟨_,_,_,k,q,r⟩:=r;exact .obj k q d e r
 |dead=>exact r.elim
theorem RelH.sub(hs:∀a,O' a->O a)(r:RelH κ O β h H):RelH κ O' β h H:=
 ⟨r.len,r.inj,λ a b=>r.off a (hs a b),λ a b=>r.trk a (hs a b),r.btr,λ i c d=>(r.cell i c d).imp id λ ⟨a,b,q⟩=>⟨a,b,q.sub hs⟩⟩
end
noncomputable abbrev Fr.with(F:Fr)(p:Addr):Fr:={F with T:=p::F.T}
abbrev Fr.to(F:Fr)(β:AO)(h:H3):Fr:={F with β:=β,h:=h}
abbrev Nw(H:Hp):Addr->Prop:=λ p=>H p=none
def Post(κ:Kx)(N:Addr->Prop)(F:Fr)(σ:St)(H:Hp):Vl->V->Prop
 |.v x,v=>Rel κ F σ H/\Rep κ F.β F.O H x v
 |.m c,v=> ∃p,v=.ref p/\Rel κ (F.with p) σ H/\CellR κ F.β (F.with p).O H c p/\N p
def XOk(κ:Kx)(E:XK)(x:X3)(β:AO)(O:Addr->Prop)(H:Hp):Prop:=∀C dd,κ.cl x.c=some C->XD β O H dd x.nm.toList->E (.ref C) dd H
def XOk.sub(o:XOk κ E x β O H)(hs:∀a,O a->O' a):XOk κ E x β O' H:=λ C dd b q=>o C dd b (q.imp λ d u h n m=>⟨h,n,λ z=>m (hs d z)⟩)
abbrev Kd(α a:Type):=Hp->Fr->St->Hp->α->a->Prop
def BB{α c:Type}(K:Kd α c):Prop:=∀(M:Addr->Prop) β H b H1 F σ H' a w,Ext M β H b H1->K H1 F σ H' a w->K H F σ H' a w
def Out{α b:Type}(κ:Kx)(E:XK)(K:Kd α b)(F:Fr)(σ:St)(H:Hp)(Q:b->Hp->Prop):Res α->Prop
 |.ok a h'=> ∀β' w H',Ext No F.β H β' H'->K H (F.to β' h') σ H' a w->Q w H'
 |.ex x h'=> ∀β' H',Ext No F.β H β' H'->RelH κ F.Oi β' h' H'->XOk κ E x β' F.Oi H'
 |.no=>False
def tOf{α a:Type}(κ:Kx)(E:XK)(K:Kd α a)(d:S3->H3->Res α)(σ:St)(H:Hp)(Q:a->Hp->Prop):Prop:=∃F,Rel κ F σ H/\Out κ E K F σ H Q (d F.s F.h)
def kE(κ:Kx):Kd Vl V:=λ H F σ H' r v=>Post κ (Nw H) F σ H' r v
abbrev zi(κ:Kx)(E:XK)(d:E3):TE:=tOf κ E (kE κ) d
section
variable{κ:Kx}{E:XK}{F:Fr}{σ:St}{H H':Hp}{Q:VK}{p:Addr}
def Fr.O_with(h:F.O a):(F.with p).O a:=h.imp (λ z=>Ap _ z) id
theorem SlotR.sub(b:F'.β=F.β)(d:F'.l=F.l)(hs:∀a,F'.O a->F.O a)(h:SlotR κ F H i x v):SlotR κ F' H i x v:=by
 cases x with
 |v x=>show Rep κ F'.β F'.O H x v;rw[b];exact Rep.sub hs h
 |m c=>obtain⟨a,h1,h2,e⟩:=h;refine⟨a,by rw[d];exact h1,h2,?_⟩;rw[b];exact e.sub hs
def Rel.drop(h:Rel κ (F.with p) σ H):Rel κ F σ H where
 heap:=h.heap.sub λ a c=>Fr.O_with c
 slen:=h.slen
 llen:=h.llen
 linj:=h.linj
 lt:=λ a c z=>h.lt a c (Ap _ z)
 lo:=h.lo
 to:=λ a c=>h.to a (Ap _ c)
 tn:=(Bp.mp h.tn).2
 slot:=λ i x e=>let ⟨v,a,b⟩:=h.slot i x e;⟨v,a,SlotR.sub (F:=F.with p) (F':=F) rfl rfl (λ a c=>Fr.O_with c) b⟩
def Rel.apart(h:Rel κ (F.with p) σ H): ¬F.O p:=λ z=>by
 rcases z with z|z|z
 .exact (Bp.mp h.tn).1 z
 .exact h.lt p z Aj
 .exact h.to p Aj z
def Rel.offp(h:Rel κ (F.with p) σ H):some p∉F.β:=h.heap.off p (.inl Aj)
theorem Post.fz(h:Post κ N F σ H x v)(e:x.fz=some y):Rel κ F σ H/\Rep κ F.β F.O H y v:=by
 cases x with
 |v x=>cases e;exact h
 |m c=>
  obtain⟨p,rfl,r,q,_⟩:=h;exact⟨r.drop,(q.sub (O':=F.O) λ a b=>Fr.O_with b).fz e r.offp r.apart⟩
def Post.imp(h:Post κ N F σ H x v)(k:∀p,N p->N' p):Post κ N' F σ H x v:=by
 cases x with
 |v x=>exact h
 |m c=>obtain⟨p,h1,h2,a,b⟩:=h;exact⟨p,h1,h2,a,k p b⟩
def Ext.nw(e:Ext M β H0 β' H1):∀p,Nw H1 p->Nw H0 p:=λ p h=>by
 cases w:H0 p with
 |none=>exact w
 |some o=>obtain⟨o',z⟩:=e.there p o w;rw[h]at z;cases z
def Rel.slotExt(r:Rel κ F σ H)(e:Ext No F.β H β' H')(q:SlotR κ F H i x v):SlotR κ (F.to β' h') H' i x v:=by
 cases x with
 |v x=>exact Rep.ext0 e q
 |m c=>
  obtain⟨a,h1,h2,b⟩:=q;have d:F.O a:= .inr (.inl (Al h1));exact⟨a,h1,h2,b.ext e (λ _ z=>z.elim) (λ _ _ _ n=>n) λ o f=>(e.keep a o f (r.heap.off a d) λ z=>z).1⟩
def Rel.next(r:Rel κ F σ H)(e:Ext No F.β H β' H')(c:RelH κ F.O β' h' H'):Rel κ (F.to β' h') σ H' where
 heap:=c
 slen:=r.slen
 llen:=r.llen
 linj:=r.linj
 lt:=r.lt
 lo:=r.lo
 to:=r.to
 tn:=r.tn
 slot:=λ i x d=>let ⟨v,a,b⟩:=r.slot i x d;⟨v,a,r.slotExt e b⟩
def Out.move{α b:Type}{K:Kd α b}{Q:b->Hp->Prop}{r:Res α}{β':AO}{h':H3}(c:BB K)(e:Ext No F.β H β' H')(o:Out κ E K F σ H Q r):Out κ E K (F.to β' h') σ H' Q r:=by
 cases r with
 |ok x h2=>exact λ a v H2 e2 p=>o a v H2 (e.trans0 e2) (c _ _ _ _ _ _ _ _ _ _ e p)
 |ex x h2=>exact λ a H2 e2 p=>o a H2 (e.trans0 e2) p
 |no=>exact o
def z6:BB (kE κ):=λ M β H b H1 F σ H' a w e h=>Post.imp h e.nw
def tOf.mono{α b:Type}{K:Kd α b}{Q c:b->Hp->Prop}{d:S3->H3->Res α}(h:tOf κ E K d σ H Q)(k:∀v H,Q v H->c v H):tOf κ E K d σ H c:=by
 obtain⟨F,a,o⟩:=h
 refine⟨F,a,?_⟩
 cases q:d F.s F.h with
 |ok r h1=>rw[q]at o;exact λ β v H' e p=>k _ _ (o β v H' e p)
 |ex x h1|no=>rw[q]at o;exact o
def DV{α i c d:Type}{K:Kd α i}{f:Kd c d}{Q:d->Hp->Prop}{a:S3->H3->Res α}{k:α->H3->Res c}(j:BB f)(g:Rel κ F σ H)(h:Out κ E f F σ H Q ((a F.s F.h).bind k)):
  tOf κ E K a σ H (λ w H1=> ∃b h1 x,Ext No F.β H b H1/\K H (F.to b h1) σ H1 x w/\Out κ E f (F.to b h1) σ H1 Q (k x h1)):=by
 refine⟨F,g,?_⟩
 cases q:a F.s F.h with
 |no|ex x h1=>rw[q]at h;exact h
 |ok r h1=>rw[q]at h;exact λ b v H1 e p=>⟨b,h1,r,e,p,Out.move j e h⟩
def qy{β:AO}{o:HO}(hp:H p=none):Ext No β H β (zk H p o):=
 ⟨λ a u b c _=>⟨by rw[zK (qA b hp)];exact b,c⟩,Ag _,λ _ _ _ h=>h,λ a u b=>⟨u,by rw[zK (qA b hp)];exact b⟩,nwb0⟩
def RelH.trk'(r:RelH κ O β h H)(a:Addr)(b:O a):∃o,H a=some o:=let ⟨u,q,_⟩:=r.trk a b;⟨u,q⟩
def RelH.btr'(r:RelH κ O β h H)(i:Nat)(a:Addr)(e:β[i]? =some (some a)):∃o,H a=some o:=let ⟨u,q,_⟩:=r.btr i a e;⟨u,q⟩
def CellR.nt(h:CellR κ β O (zk H l u) c l):∀ys,u≠HO.tup ys:=by
 intro ys z;subst z;cases c with
 |lst xs|dT xs=>obtain⟨_,e,_⟩:=h;rw[yt]at e;cases e
 |ins c fs=>obtain⟨_,_,_,_,e,_⟩:=h;rw[yt]at e;cases e
 |dead=>exact h
def RelH.off_new(r:RelH κ O β h H)(hp:H p=none):some p∉β/\¬O p:=by
 refine⟨λ z=>?_,λ z=>?_⟩
 .obtain⟨i,hi⟩:=B7 z
  obtain⟨o,a,_⟩:=r.btr i p hi;rw[hp]at a;cases a
 .obtain⟨o,a,_⟩:=r.trk p z
  rw[hp]at a;cases a
def RelH.laid(r:RelH κ O β h H)(hp:H p=none):RelH κ O β h (zk H p o):=by
 have k:∀a u,H a=some u->zk H p o a=some u:=λ a u b=>by rw[zK (qA b hp)];exact b
 exact⟨r.len,r.inj,r.off,λ a b=>let ⟨u,q,n⟩:=r.trk a b;⟨u,k a u q,n⟩,λ i a e=>let ⟨u,q,n⟩:=r.btr i a e;⟨u,k a u q,n⟩,
  λ i c d=>(r.cell i c d).imp id λ ⟨a,b,q⟩=>⟨a,b,q.ext (qy hp) (λ _ z=>z.elim) (λ _ _ _ n=>n) λ u f=>k a u f⟩⟩
theorem Rel.laid(r:Rel κ F σ H)(hp:H p=none):Rel κ F σ (zk H p o):=r.next (qy hp) (r.heap.laid hp)
def O_ne(h:(F.with p).O a)(b:a≠p):F.O a:=by
 rcases h with h|h
 .rcases Af.mp h with h|h
  .exact absurd h b
  .exact .inl h
 .exact .inr h
def Rel.new(r:Rel κ F σ H)(hp:H p=none)(l:∀ys,o≠HO.tup ys:=by intro _ z;cases z):Rel κ (F.with p) σ (zk H p o)/\∀{x:V3}{y:V},Rep κ F.β F.O H x y->Rep κ F.β (F.with p).O (zk H p o) x y:=by
 obtain⟨s,g⟩:=r.heap.off_new hp;have e:Ext No F.β H F.β (zk H p o):=qy hp;have d:∀a,No a->F.O a:=λ _ z=>z.elim
 have f:∀a u,H a=some u->¬F.O a->¬(F.with p).O a:=λ a u b n z=>n (O_ne z (qA b hp))
 have k:∀a u,H a=some u->zk H p o a=some u:=λ a u b=>by rw[zK (qA b hp)];exact b
 refine⟨⟨⟨r.heap.len,r.heap.inj,λ a b=>?_,λ a b=>?_,λ i a q=>let ⟨u,z,n⟩:=r.heap.btr i a q;⟨u,k a u z,n⟩,λ i c t=>(r.heap.cell i c t).imp id λ ⟨a,b,q⟩=>⟨a,b,q.ext e d f λ u j=>k a u j⟩⟩,
  r.slen,r.llen,r.linj,?_,r.lo,?_,Bp.mpr ⟨λ z=>g (.inl z),r.tn⟩,λ i x q=>?_⟩,λ h=>h.ext e d f⟩
 .by_cases z:a=p
  .subst z;exact s
  .exact r.heap.off a (O_ne b z)
 .by_cases z:a=p
  .subst z;exact⟨o,yt,l⟩
  .obtain⟨u,q,n⟩:=r.heap.trk a (O_ne b z);exact⟨u,k a u q,n⟩
 .intro a b z
  rcases Af.mp z with z|z
  .subst z;exact g (.inr (.inl b))
  .exact r.lt a b z
 .intro a b z
  rcases Af.mp b with h|h
  .subst h;exact g (.inr (.inr z))
  .exact r.to a h z
 .obtain⟨v,h1,h2⟩:=r.slot i x q
  refine⟨v,h1,?_⟩
  cases x with
  |v x=>exact Rep.ext e d f h2
  |m c=>
   obtain⟨a,w,A,B⟩:=h2;exact⟨a,w,A,B.ext e d f λ u j=>k a u j⟩
def Out.val(o:Out κ E (kE κ) F σ H Q (.ok (.v x) F.h))(a:Rel κ F σ H)(r:Rep κ F.β F.O H x v):Q v H:=o F.β v H Ext.refl ⟨a,r⟩
inductive Rf where
 |x (v:V3)|s (i:Nat)
abbrev P3:=S3->H3->Res Rf
noncomputable def pV(i:Nat):P3:=λ s h=>match s[i]? with
 |some (some (.v x))=>.ok (.x x) h
 |some (some (.m _))=>.ok (.s i) h
 |_=>.no
def pE(e:E3):P3:=λ s h=>(e s h).bind λ r h1=>match r.fz with
 |some x=>.ok (.x x) h1
 |none=>.no
def RfR(κ:Kx)(F:Fr)(H:Hp):Rf->V->Prop
 |.x y,v=>Rep κ F.β F.O H y v
 |.s i,v=> ∃a c,F.l[i]? =some (some a)/\v=.ref a/\F.s[i]? =some (some (.m c))/\CellR κ F.β F.O H c a
def kP(κ:Kx):Kd Rf V:=λ _ F σ H' f v=>Rel κ F σ H'/\RfR κ F H' f v
abbrev zh(κ:Kx)(E:XK)(d:P3):TE:=tOf κ E (kP κ) d
def km_P:BB (kP κ):=λ _ _ _ _ _ _ _ _ _ _ _ h=>h
theorem RfR.ext(b:Rel κ F σ H)(e:Ext No F.β H β' H')(r:RfR κ F H f v):RfR κ (F.to β' h') H' f v:=by
 cases f with
 |x y=>exact Rep.ext0 e r
 |s i=>
  obtain⟨a,c,h1,h2,d,g⟩:=r;have h:F.O a:= .inr (.inl (Al h1));exact⟨a,c,h1,h2,d,g.ext e (λ _ z=>z.elim) (λ _ _ _ n=>n) λ o j=>(e.keep a o j (b.heap.off a h) λ z=>z).1⟩
noncomputable def rdl(s:S3)(h:H3):Rf->Option (List V3)
 |.x (.lst xs)=>some xs
 |.x (.scr ns)=>some (ns.map .int)
 |.x (.loc n)=>match h[n]? with
  |some (.lst xs)=>some xs
  |_=>none
 |.s i=>match s[i]? with
  |some (some (.m (.lst xs)))=>some xs
  |_=>none
 |_=>none
def Qg(b:Rel κ F σ H)(r:RfR κ F H f v)(e:rdl F.s F.h f=some xs):∃a ys,v=.ref a/\SqL κ.K H a ys/\Reps κ F.β F.O H xs ys:=by
 cases f with
 |s i=>
  obtain⟨a,c,h1,h2,d,j⟩:=r;simp only[rdl,d]at e;cases c<;>simp at e
  subst e;obtain⟨ys,k,m⟩:=j;exact⟨a,ys,h2,.of k,m⟩
 |x y=>
  cases y<;>simp[rdl]at e
  case lst zs=>
   subst e;cases r with
   |lst h1 h2 d j=>exact⟨_,_,rfl,.of h1,j⟩
  case scr ns=>
   subst e;have g:∀l:List Int,Reps κ F.β F.O H (l.map V3.int) (l.map V.int):=λ l=>by
    induction l with
    |nil=>exact .nil
    |cons x r ih=>exact .cons (.int x) ih
   cases r with
   |scr h1 h2 d=>exact⟨_,_,rfl,.inl (.inr ⟨_,h1⟩),g ns⟩
   |scrK h=>exact⟨_,_,rfl,.inr h,g ns⟩
  case loc n=>
   cases r with
   |loc h1 h2=>
    cases q:F.h[n]? with
    |none=>rw[q]at e;cases e
    |some c=>
     rw[q]at e;cases c<;>simp at e
     subst e
     rcases b.heap.cell n _ q with z|⟨a,ha,ys,k,m⟩
     .cases z
     .exact⟨a,ys,h2 a ha,.of k,m⟩
end
def yu{α j c d:Type}{K:Kd α j}{g:Kd c d}{κ:Kx}{E:XK}{F:Fr}{σ:L2.St}{H:Hp}{Q:d->Hp->Prop}{l:j->Hp->Prop}{a:S3->H3->Res α}{k:α->H3->Res c}(m:BB g)(i:Rel κ F σ H)(h:Out κ E g F σ H Q ((a F.s F.h).bind k))(f:∀w H1 b h1 x,Ext No F.β H b H1->K H (F.to b h1) σ H1 x w->Out κ E g (F.to b h1) σ H1 Q (k x h1)->l w H1):tOf κ E K a σ H l:=(DV m i h).mono λ w H1 ⟨b,h1,x,e,p,o⟩=>f w H1 b h1 x e p o
abbrev A3:=S3->H3->Res (List Rf)
def aNil:A3:=λ _ h=>.ok [] h
def aCons(p:P3)(a:A3):A3:=λ s h=>(p s h).bind λ f h1=>(a s h1).bind λ fs h2=>.ok (f::fs) h2
def kA(κ:Kx):Kd (List Rf) (List V):=λ _ F σ H' fs vs=>Rel κ F σ H'/\Paired (RfR κ F H') fs vs
abbrev zI(κ:Kx)(E:XK)(d:A3):TA:=tOf κ E (kA κ) d
noncomputable def vals3:List Rf->Option (List V3)
 | []=>some []
 |.x v::r=>(vals3 r).map (v:: ·)
 |.s _::_=>none
abbrev T3:=S3->H3->Res Bool
def kT(κ:Kx):Kd Bool Bool:=λ _ F σ H' b a=>a=b/\Rel κ F σ H'
abbrev zQ(κ:Kx)(E:XK)(d:T3):TT:=tOf κ E (kT κ) d
section
variable{X:Cx}{κ:Kx}{E:XK}{F:Fr}{σ:St}{H H':Hp}{Q:VK}{p:Addr}{e a b:Expr}{pos:Pos}{i:Nat}
def km_A:BB (kA κ):=λ _ _ _ _ _ _ _ _ _ _ _ h=>h
def km_T:BB (kT κ):=λ _ _ _ _ _ _ _ _ _ _ _ h=>h
def yQ(h:PE X e t)(w:∀σ H Q,t' σ H Q->t σ H Q):PE X e t':=λ pins s σ H Q I q=>h pins s σ H Q I (w σ H Q q)
def PTw(h:PT X e t)(w:∀σ H Q,t' σ H Q->t σ H Q):PT X e t':=λ pins s σ H Q I q=>h pins s σ H Q I (w σ H Q q)
def PWw(h:PW X e t)(w:∀σ H Q,t' σ H Q->t σ H Q):PW X e t':=λ a pins s σ H Q I q=>h a pins s σ H Q I (w σ H Q q)
def PAw(h:PA X es t)(w:∀σ H Q,t' σ H Q->t σ H Q):PA X es t':=λ pos pins s σ H Q I q=>h pos pins s σ H Q I (w σ H Q q)
noncomputable def eV(i:Nat):E3:=λ s h=>match s[i]? with
 |some (some (.v x))=>.ok (.v x) h
 |_=>.no
def eC(x:V3):E3:=λ _ h=>.ok (.v x) h
abbrev kJ(n:Int):P3:=pE (eC (.int n))
def r_v(b:PE X e (tVar i)):PE X e (zi κ E (eV i)):=yQ b λ σ H Q ⟨F,a,o⟩=>by
 unfold eV at o;cases q:F.s[i]? with
 |none=>rw[q]at o;exact o.elim
 |some z=>
  rw[q]at o
  match z,q,o with
  |none,q,o|some (.m c),q,o=>exact o.elim
  |some (.v x),q,o=>
   obtain⟨v,h1,h2⟩:=a.slot i _ q;exact⟨v,h1,o.val a h2⟩
def rp_v(d:PE X e (tVar i)):PE X e (zh κ E (pV i)):=yQ d λ σ H Q ⟨F,b,o⟩=>by
 unfold pV at o;cases q:F.s[i]? with
 |none=>rw[q]at o;exact o.elim
 |some z=>
  rw[q]at o
  match z,q,o with
  |none,q,o=>exact o.elim
  |some (.m c),q,o=>
   obtain⟨v,h1,a,h2,f,g⟩:=b.slot i _ q;exact⟨v,h1,o F.β v H Ext.refl ⟨b,a,c,h2,f,q,g⟩⟩
  |some (.v x),q,o=>
   obtain⟨v,h1,h2⟩:=b.slot i _ q;exact⟨v,h1,o F.β v H Ext.refl ⟨b,h2⟩⟩
def zb(h:PE X e (zi κ E d)):PE X e (zh κ E (pE d)):=yQ h λ σ H Q ⟨F,a,o⟩=>
 yu (K:=kE κ) km_P a o λ v H1 b h1 x e1 p1 o1=>by
  cases z:x.fz with
  |none=>simp only[z]at o1;exact o1.elim
  |some y=>
   simp only[z]at o1;obtain⟨c,f⟩:=Post.fz p1 z;exact o1 b v H1 Ext.refl ⟨c,f⟩
def qj(b:PE X e (tC v))(r:∀β O H,Rep κ β O H x v):PE X e (zi κ E (eC x)):=yQ b λ σ H Q ⟨F,a,o⟩=>o.val a (r _ _ _)
def AB {i j pos}:PE X (.Constant (.int i) j pos) (zi κ E (eC (.int i))):=qj RE λ _ _ _=>.int i
def yh {b j pos}:PE X (.Constant (.bool b) j pos) (zi κ E (eC (.bl b))):=qj RF λ _ _ _=>.bl b
def CS {j pos}:PE X (.Constant .none j pos) (zi κ E (eC .non)):=qj RG λ _ _ _=>.non
def CT {x j pos}:PE X (.Constant (.str x) j pos) (zi κ E (eC (.str x))):=qj MO λ _ _ _=>.str x
def zg:PA X [] (zI κ E aNil):=PAw Nh λ σ H Q ⟨F,a,o⟩=>o F.β [] H Ext.refl ⟨a,.nil⟩
def zc(h:PE X e (zh κ E d))(i:PA X es (zI κ E t))(hs:SE X e es:=by rfl):PA X (e::es) (zI κ E (aCons d t)):=
 PAw (JL h i hs) λ σ H Q ⟨F,g,o⟩=>
  yu (K:=kP κ) km_A g o λ v H1 b h1 x e1 a o1=>
   yu (F:=F.to b h1) (K:=kA κ) km_A a.1 o1 λ vs H2 c h2 fs e2 f o2=>o2 c (v::vs) H2 Ext.refl ⟨f.1,.cons (RfR.ext (F:=F.to b h1) (β':=c) (h':=h2) a.1 e2 a.2) f.2⟩
theorem BU:∀{fs:List Rf}{vs:List V}{xs:List V3},Paired (RfR κ F H) fs vs->vals3 fs=some xs->Reps κ F.β F.O H xs vs
 |_,_,_,.nil,e=>by cases e;exact .nil
 |f::fs,v::vs,xs,.cons q t,e=>by
  cases f with
  |s i=>cases e
  |x y=>
   unfold vals3 at e;cases z:vals3 fs with
   |none=>rw[z]at e;cases e
   |some l=>rw[z]at e;cases e;exact .cons q (BU t z)
abbrev F2:=S3->H3->Rf->Rf->Option Vl
noncomputable def opt(h:H3):Option Vl->Res Vl
 |some z=>.ok z h
 |none=>.no
def eOp(f:F2)(a b:P3):E3:=λ s h=>(a s h).bind λ x h1=>(b s h1).bind λ y h2=>opt h2 (f s h2 x y)
def OpSim(κ:Kx)(r:R2)(f:F2):Prop:=∀(F:Fr)(σ:St)(H:Hp)(x y:Rf)(z:Vl)(v w:V)(Q:VK),Rel κ F σ H->RfR κ F H x v->RfR κ F H y w->f F.s F.h x y=some z->
 (∀u H',Ext No F.β H F.β H'->Post κ (Nw H) F σ H' z u->Q u H')->r v w H Q
theorem Out.opt(h0:F.h=h)(q:Out κ E (kE κ) F σ H Q (opt h o)):∃z,o=some z/\∀u H',Ext No F.β H F.β H'->Post κ (Nw H) F σ H' z u->Q u H':=by
 cases o with
 |none=>exact q.elim
 |some z=>subst h0;exact⟨z,rfl,λ u H' e p=>q F.β u H' e p⟩
def FO{r:R2}{f:F2}{a b:P3}(hs:OpSim κ r f)(h:zi κ E (eOp f a b) σ H Q):tOp r (zh κ E a) (zh κ E b) σ H Q:=by
 obtain⟨F,i,o⟩:=h
 refine yu (K:=kP κ) z6 i o λ v H1 e h1 j e1 c o1=>?_
 refine yu (F:=F.to e h1) (K:=kP κ) z6 c.1 o1 λ w H2 d h2 l e2 g o2=>?_
 obtain⟨z,q,k⟩:=Out.opt (F:=F.to d h2) rfl o2;exact hs (F.to d h2) σ H2 j l z v w Q g.1 (RfR.ext (F:=F.to e h1) (β':=d) (h':=h2) c.1 e2 c.2) g.2 q k
def zq(hs:OpSim κ r f)(c:OpR X (binaryOp op) r)(d:PE X a (zh κ E da))(e:PE X b (zh κ E db)):PE X (.BinOp a op b pos) (zi κ E (eOp f da db)):=yQ (So c d e) λ _ _ _ h=>FO hs h
def CU(hs:OpSim κ r f)(c:OpR X (compareOp op) r)(d:behindInMarks op b=false)(e:PE X a (zh κ E da))(g:PE X b (zh κ E db)):PE X (.Compare a [op] [b] pos) (zi κ E (eOp f da db)):=yQ (Sx c e g d) λ _ _ _ h=>FO hs h
def r_ix(hs:OpSim κ r f)(c:IxR X r)(d:Ih b)(e:PE X a (zh κ E da))(g:PE X b (zh κ E db)):PE X (.Subscript a b pos) (zi κ E (eOp f da db)):=yQ (Ti c e g d) λ _ _ _ h=>FO hs h
abbrev FB:=S3->H3->List Rf->Option Vl
def eB(f:FB)(a:A3):E3:=λ s h=>(a s h).bind λ fs h1=>opt h1 (f s h1 fs)
def j6(κ:Kx)(r:List V->Hp->VK->Prop)(f:FB):Prop:=∀(F:Fr)(σ:St)(H:Hp)(fs:List Rf)(z:Vl)(vs:List V)(Q:VK),Rel κ F σ H->Paired (RfR κ F H) fs vs->f F.s F.h fs=some z->
 (∀u H',Ext No F.β H F.β H'->Post κ (Nw H) F σ H' z u->Q u H')->r vs H Q
def te_b{r:List V->Hp->VK->Prop}{f:FB}{a:A3}(hs:j6 κ r f)(h:zi κ E (eB f a) σ H Q):tCB r (zI κ E a) σ H Q:=by
 obtain⟨F,d,o⟩:=h
 refine yu (K:=kA κ) z6 d o λ vs H1 b h1 fs e1 c o1=>?_
 obtain⟨z,q,k⟩:=Out.opt (F:=F.to b h1) rfl o1;exact hs (F.to b h1) σ H1 fs z vs Q c.1 c.2 q k
def NW{a:Addr}{u:HO}(hp:H p=none)(b:H a=some u)(n: ¬F.O a): ¬(F.with p).O a:=λ z=>n (O_ne z (qA b hp))
theorem Post.lst(b:Rel κ F σ H)(hp:H p=none)(r:Reps κ F.β F.O H xs ys):Post κ (Nw H) F σ (zk H p (.lst ys)) (.m (.lst xs)) (.ref p):=by
 obtain⟨c,e⟩:=b.new (o:= .lst ys) hp;exact⟨p,rfl,c,⟨ys,yt,r.ext (qy hp) (λ _ z=>z.elim) λ a u d n=>NW hp d n⟩,hp⟩
theorem Post.dT(b:Rel κ F σ H)(hp:H p=none)(r:RepP κ F.β F.O H xs ys):Post κ (Nw H) F σ (zk H p (.dT ys)) (.m (.dT xs)) (.ref p):=by
 obtain⟨c,e⟩:=b.new (o:= .dT ys) hp;exact⟨p,rfl,c,⟨ys,yt,r.ext (qy hp) (λ _ z=>z.elim) λ a u d n=>NW hp d n⟩,hp⟩
theorem Post.tup(a:Rel κ F σ H)(hp:H p=none)(r:Reps κ F.β F.O H xs ys):Post κ N F σ (zk H p (.tup ys)) (.v (.tup xs)) (.ref p):=by
 obtain⟨b,c⟩:=a.heap.off_new hp;exact⟨a.laid hp,.tup yt b c (r.ext0 (qy hp))⟩
def eTup(a:A3):E3:=λ s h=>(a s h).bind λ fs h1=>match vals3 fs with
 |some xs=>if xs.length<=sizeLine then .ok (.v (.tup xs)) h1 else .no
 |none=>.no
def eLst(a:A3):E3:=λ s h=>(a s h).bind λ fs h1=>match vals3 fs with
 |some xs=>if xs.length<=sizeLine then .ok (.m (.lst xs)) h1 else .no
 |none=>.no
def Qk {x1} (h:PA X es (zI κ E t)):PE X (.Tuple es x1 pos) (zi κ E (eTup t)):=yQ (SO h) λ σ H Q ⟨F,b,o⟩=>
 yu (K:=kA κ) z6 b o λ vs H1 c h1 fs e1 a o1=>by
  cases q:vals3 fs with
  |none=>simp only[q]at o1;exact o1.elim
  |some xs=>
   simp only[q]at o1;have d:=BU a.2 q
   by_cases hz:xs.length<=sizeLine
   .rw[Ab hz]at o1
    exact⟨by rw[<-d.length];exact hz,λ p hp=>o1 c (.ref p) _ (qy hp) (Post.tup a.1 hp d)⟩
   .rw[Ac hz]at o1;exact o1.elim
def qG(h:PA X es (zI κ E t)):PE X (.List es pos) (zi κ E (eLst t)):=yQ (SQ h) λ σ H Q ⟨F,b,o⟩=>
 yu (K:=kA κ) z6 b o λ vs H1 c h1 fs e1 a o1=>by
  cases q:vals3 fs with
  |none=>simp only[q]at o1;exact o1.elim
  |some xs=>
   simp only[q]at o1;have d:=BU a.2 q
   by_cases hz:xs.length<=sizeLine
   .rw[Ab hz]at o1
    exact⟨by rw[<-d.length];exact hz,λ p hp=>o1 c (.ref p) _ (qy hp) (Post.lst a.1 hp d)⟩
   .rw[Ac hz]at o1;exact o1.elim
def tE(e:E3):T3:=λ s h=>(e s h).bind λ r h1=>match r with
 |.v (.bl b)=>.ok b h1
 |_=>.no
def isBl(x:Vl):(∃b,x=.v (.bl b))\/∀{α:Type}(a:Bool->α)(c:α),(match x with | .v (.bl b)=>a b|_=>c)=c:=by
 cases x with
 |m _=>exact .inr λ _ _=>rfl
 |v y=>
  cases y with
  |bl b=>exact .inl ⟨b,rfl⟩
  |_=>exact .inr λ _ _=>rfl
def FP{d:E3}{Q:Bool->Hp->Prop}(h:zQ κ E (tE d) σ H Q):zi κ E d σ H (λ x H'=> ∃k,x=.bl k/\Q k H'):=by
 obtain⟨F,a,o⟩:=h
 refine yu (K:=kE κ) km_T a o λ v H1 c h1 x e1 p1 o1=>?_
 rcases isBl x with ⟨b,rfl⟩|h
 .obtain⟨e,f⟩:=p1
  cases f;exact⟨b,rfl,o1 c b H1 Ext.refl ⟨rfl,e⟩⟩
 .rw[h]at o1;exact o1.elim
def z7(hs:OpSim κ r f)(c:OpR X (compareOp op) r)(d:behindInMarks op b=false)(e:PE X a (zh κ E da))(g:PE X b (zh κ E db)):PT X (.Compare a [op] [b] pos) (zQ κ E (tE (eOp f da db))):=PTw (Sy c e g d) λ _ _ _ h=>FO hs (FP h)
def qM(h:PE X e (zi κ E d))(b:∀a,isTrue e X.env a=(do let v <-a;standAt e.pos;holding [v] (truthy v)):=by intro _;rfl):PT X e (zQ κ E (tE d)):=PTw (RH h b) λ _ _ _ q=>FP q
def tAnd3(a b:T3):T3:=λ s h=>(a s h).bind λ c h1=>if c=true then b s h1 else .ok false h1
def tOr3(a b:T3):T3:=λ s h=>(a s h).bind λ c h1=>if c=true then .ok true h1 else b s h1
def tNot3(a:T3):T3:=λ s h=>(a s h).bind λ c h1=>.ok (!c) h1
def Io(b:PT X a (zQ κ E t)):PW X (.BoolOp .And [a] pos) (zQ κ E t):=RI b
def jG(b:PT X a (zQ κ E t)):PW X (.BoolOp .Or [a] pos) (zQ κ E t):=RJ b
def Ip{t u:T3}{rest:List Expr}(h:PT X a (zQ κ E t))(i:PW X (.BoolOp .And (b::rest) pos) (zQ κ E u)):PW X (.BoolOp .And (a::b::rest) pos) (zQ κ E (tAnd3 t u)):=PWw (RK h i) λ σ H Q ⟨F,e,o⟩=>
 yu (K:=kT κ) km_T e o λ c H1 d h1 x e1 f o1=>by
  obtain⟨j,g⟩:=f;subst j;cases c with
  |true=>rw[Ab rfl]at o1 ⊢;exact⟨F.to d h1,g,o1⟩
  |false=>rw[Ac Bk]at o1 ⊢;exact o1 d false H1 Ext.refl ⟨rfl,g⟩
def qR{t u:T3}{rest:List Expr}(h:PT X a (zQ κ E t))(i:PW X (.BoolOp .Or (b::rest) pos) (zQ κ E u)):PW X (.BoolOp .Or (a::b::rest) pos) (zQ κ E (tOr3 t u)):=PWw (RM h i) λ σ H Q ⟨F,e,o⟩=>
 yu (K:=kT κ) km_T e o λ c H1 d h1 x e1 f o1=>by
  obtain⟨j,g⟩:=f;subst j;cases c with
  |true=>rw[Ab rfl]at o1 ⊢;exact o1 d true H1 Ext.refl ⟨rfl,g⟩
  |false=>rw[Ac Bk]at o1 ⊢;exact⟨F.to d h1,g,o1⟩
def qO(f:PT X a (zQ κ E t)):PT X (.UnaryOp .Not a pos) (zQ κ E (tNot3 t)):=PTw (RN f) λ σ H Q ⟨F,b,o⟩=>
 yu (K:=kT κ) km_T b o λ c H1 d h1 x e1 e o1=>by
  obtain⟨g,h⟩:=e;subst g;exact o1 d _ H1 Ext.refl ⟨rfl,h⟩
def eAnd(a b:E3):E3:=λ s h=>(tE a s h).bind λ c h1=>if c=true then b s h1 else .ok (.v (.bl false)) h1
def eOr(a b:E3):E3:=λ s h=>(tE a s h).bind λ c h1=>if c=true then .ok (.v (.bl true)) h1 else b s h1
def eNot(a:E3):E3:=λ s h=>(tE a s h).bind λ c h1=>.ok (.v (.bl !c)) h1
def CV{d u:E3}{rest:List Expr}(h:PE X a (zi κ E d))(i:PE X (.BoolOp .And (b::rest) pos) (zi κ E u)):PE X (.BoolOp .And (a::b::rest) pos) (zi κ E (eAnd d u)):=yQ (RS h i) λ σ H Q ⟨F,f,o⟩=>by
 refine tOf.mono (FP (DV (a:=tE d) (K:=kT κ) z6 f o)) λ x H1 ⟨k,ex,e,h1,c,e1,⟨j,g⟩,o1⟩=>⟨k,ex,?_⟩
 subst j;cases k with
 |true=>rw[Ab rfl]at o1 ⊢;exact⟨F.to e h1,g,o1⟩
 |false=>rw[Ac Bk]at o1 ⊢;exact o1 e _ H1 Ext.refl ⟨g,.bl false⟩
def NX{d:E3}(f:PE X a (zi κ E d)):PE X (.UnaryOp .Not a pos) (zi κ E (eNot d)):=yQ (RT f) λ σ H Q ⟨F,b,o⟩=>by
 refine tOf.mono (FP (DV (a:=tE d) (K:=kT κ) z6 b o)) λ x H1 ⟨k,ex,e,h1,c,e1,⟨g,h⟩,o1⟩=>⟨k,ex,?_⟩
 subst g;exact o1 e _ H1 Ext.refl ⟨h,.bl _⟩
def CW {op} (h:PE X a (zi κ E d)):PE X (.BoolOp op [a] pos) (zi κ E d):=RQ h
def eIf(t:T3)(a b:E3):E3:=λ s h=>(t s h).bind λ c h1=>if c=true then a s h1 else b s h1
end
inductive O3 where
 |nx (s:S3) (h:H3)|rt (r:Vl) (h:H3)|bk (s:S3) (h:H3)|ct (s:S3) (h:H3)|ex (x:X3) (h:H3)|no
abbrev D3:=S3->H3->O3
structure SExt(F:Fr)(H:Hp)(F':Fr)(H':Hp):Prop where
 ext:Ext (λ a=>some a∈F.l) F.β H F'.β H'
 lam:∀a,some a∈F'.l->some a∈F.l\/H a=none
 oi:F'.Oi=F.Oi
 tt:F'.T=[]
abbrev NwS(F:Fr)(H:Hp):Addr->Prop:=λ p=>some p∈F.l\/H p=none
def SOut(κ:Kx)(E:XK)(F:Fr)(H:Hp)(D:Ends):O3->Prop
 |.nx s' h'=> ∀F' σ' H',SExt F H F' H'->F'.s=s'->F'.h=h'->Rel κ F' σ' H'->D.nx σ' H'
 |.bk s' h'=> ∀F' σ' H',SExt F H F' H'->F'.s=s'->F'.h=h'->Rel κ F' σ' H'->D.bk σ' H'
 |.ct s' h'=> ∀F' σ' H',SExt F H F' H'->F'.s=s'->F'.h=h'->Rel κ F' σ' H'->D.ct σ' H'
 |.rt r h'=> ∀F' σ' v H',SExt F H F' H'->F'.h=h'->Post κ (NwS F H) F' σ' H' r v->D.rt v H'
 |.ex x h'=> ∀F' H',SExt F H F' H'->RelH κ F'.Oi F'.β h' H'->XOk κ E x F'.β F'.Oi H'
 |.no=>False
def zu(κ:Kx)(E:XK)(d:D3):TS:=λ D σ H=> ∃F,Rel κ F σ H/\F.T=[]/\SOut κ E F H D (d F.s F.h)
section
variable{X:Cx}{κ:Kx}{E:XK}{F F1 F2:Fr}{σ σ':St}{H H1 H2 H':Hp}{Q:VK}{r:R}{p:Addr}{e a b:Expr}{pos:Pos}{i:Nat}{D:Ends}
theorem SExt.refl(a:F.T=[]):SExt F H F H:=⟨Ext.refl,λ _ h=>.inl h,rfl,a⟩
theorem SExt.trans(a:SExt F H F1 H1)(b:SExt F1 H1 F2 H2):SExt F H F2 H2 where
 ext:=⟨λ x o h n m=>(by
   obtain⟨h1,c⟩:=a.ext.keep x o h n m
   refine b.ext.keep x o h1 c λ z=>?_
   rcases a.lam x z with q|q
   .exact m q
   .rw[h]at q;cases q),By a.ext.len b.ext.len,λ i x hi h=>a.ext.bet i x hi (b.ext.bet i x (Bj hi a.ext.len) h),λ x o h=>let ⟨o1,h1⟩:=a.ext.there x o h;b.ext.there x o1 h1,NV a.ext.there (λ i x hi h=>b.ext.bet i x hi h) a.ext.nwb b.ext.nwb⟩
 lam:=λ x h=>by
  rcases b.lam x h with q|q
  .exact a.lam x q
  .cases w:H x with
   |none=>exact .inr rfl
   |some o=>
    obtain⟨o',z⟩:=a.ext.there x o w;rw[q]at z;cases z
 oi:=b.oi.trans a.oi
 tt:=b.tt
def SExt.of0(a:F.T=[])(e:Ext No F.β H β' H'):SExt F H (F.to β' h') H':=
 ⟨⟨λ x o h n _=>e.keep x o h n λ z=>z,e.len,e.bet,e.there,e.nwb⟩,λ _ h=>.inl h,rfl,a⟩
theorem SOut.move(e:SExt F H F1 H1)(h:SOut κ E F H D o):SOut κ E F1 H1 D o:=by
 cases o with
 |nx s h'|bk s h'|ct s h'=>exact λ F2 a H2 e2=>h F2 a H2 (e.trans e2)
 |rt r h'=>exact λ F2 a v H2 e2 b q=>h F2 a v H2 (e.trans e2) b (q.imp λ p hp=>hp.elim (e.lam p) λ z=>.inr (e.ext.nw p z))
 |ex x h'=>exact λ F2 H2 e2=>h F2 H2 (e.trans e2)
 |no=>exact h
def qv{st:Stmt}{t t':TS}(h:PS X st t)(w:∀D σ H,t' D σ H->t D σ H):PS X st t':=λ pins s σ H D I q=>h pins s σ H D I (w D σ H q)
def PSsw(h:yM X st t)(w:∀D σ H,t' D σ H->t D σ H):yM X st t':=λ pins s σ H D I q=>h pins s σ H D I (w D σ H q)
def sSkip:D3:=λ s h=>.nx s h
noncomputable def sSeq(a b:D3):D3:=λ s h=>match a s h with
 |.nx s1 h1=>b s1 h1
 |o=>o
def yg:yM X [] (zu κ E sSkip):=PSsw RV λ D σ H ⟨F,a,b,o⟩=>o F σ H (.refl b) rfl rfl a
def zm{st:Stmt}{rest:List Stmt}{a c:D3}(h1:PS X st (zu κ E a))(h2:yM X rest (zu κ E c)):yM X (st::rest) (zu κ E (sSeq a c)):=PSsw (MP h1 h2) λ D σ H ⟨F,b,d,o⟩=>by
 refine⟨F,b,d,?_⟩
 unfold sSeq at o;cases q:a F.s F.h with
 |nx s1 h1=>
  rw[q]at o;intro F' σ' H' e es f g
  refine⟨F',g,e.tt,?_⟩
  rw[es,f];exact SOut.move e o
 |rt r h|bk s h|ct s h|ex x h|no=>rw[q]at o;exact o
def zp(h1:PS X st (zu κ E da)):yM X [st] (zu κ E da):=JC h1
def Qh{α:Type}{l:List α}{i j:Nat}{x y:α}(h:(l.set i x)[j]? =some y):(i=j/\y=x)\/(i≠j/\l[j]? =some y):=by
 rw[Cy]at h
 by_cases e:i=j
 .rw[Ab e]at h
  by_cases e2:i<l.length
  .rw[Ab e2]at h;exact .inl ⟨e,(Option.some.inj h).symm⟩
  .rw[Ac e2]at h;cases h
 .rw[Ac e]at h;exact .inr ⟨e,h⟩
def Qj{l:AO}{i:Nat}{x:Option Addr}{a:Addr}(h:some a∈l.set i x):(x=some a)\/(some a∈l/\∃j,j≠i/\l[j]? =some (some a)):=by
 obtain⟨j,b⟩:=B7 h
 rcases Qh b with ⟨_,e⟩|⟨n,e⟩
 .exact .inl e.symm
 .exact .inr ⟨Al e,j,λ z=>n z.symm,e⟩
noncomputable abbrev Fr.setV(F:Fr)(i:Nat)(x:V3):Fr:={F with s:=F.s.set i (some (.v x)),l:=F.l.set i none}
noncomputable abbrev Fr.setM(F:Fr)(i:Nat)(c:C3)(p:Addr):Fr:={F with s:=F.s.set i (some (.m c)),l:=F.l.set i (some p)}
noncomputable abbrev Fr.setN(F:Fr)(i:Nat):Fr:={F with s:=F.s.set i none,l:=F.l.set i none}
def FQ{F:Fr}{i:Nat}{s:S3}{a:Addr}(h:({F with s:=s,l:=F.l.set i none}:Fr).O a):F.O a:=by
 rcases h with h|h|h
 .exact .inl h
 .rcases Qj h with z|z
  .cases z
  .exact .inr (.inl z.1)
 .exact .inr (.inr h)
def Rel.setGen{F:Fr}{i:Nat}{s:S3}{σ':St}(b:Rel κ F σ H)(d:s.length=F.s.length)(f:σ'.length=σ.length)
  (c:∀(j:Nat) x,s[j]? =some (some x)->(∃v,σ'[j]? =some (some v)/\SlotR κ ({F with s:=s,l:=F.l.set i none}:Fr) H j x v)):Rel κ {F with s:=s,l:=F.l.set i none} σ' H where
 heap:=b.heap.sub λ a e=>FQ e
 slen:=by show s.length=_;rw[d,f];exact b.slen
 llen:=by show (F.l.set i none).length=s.length;rw[Bw,d];exact b.llen
 linj:=λ j k a h1 h2=>by
  rcases Qh h1 with ⟨_,z⟩|⟨_,z1⟩
  .cases z
  .rcases Qh h2 with ⟨_,z⟩|⟨_,z2⟩
   .cases z
   .exact b.linj j k a z1 z2
 lt:=λ a e=>by
  rcases Qj e with z|z
  .cases z
  .exact b.lt a z.1
 lo:=λ a e=>by
  rcases Qj e with z|z
  .cases z
  .exact b.lo a z.1
 to:=b.to
 tn:=b.tn
 slot:=c
def Rel.slotNe(d:i≠j)(q:SlotR κ F H j x v):SlotR κ ({F with s:=s,l:=F.l.set i none}:Fr) H j x v:=by
 cases x with
 |v x=>exact Rep.sub (λ a b=>FQ b) q
 |m c=>
  obtain⟨a,h1,h2,e⟩:=q
  refine⟨a,?_,h2,e.sub λ a b=>FQ b⟩
  show (F.l.set i none)[j]? =_;rw[Cy,Ac d];exact h1
theorem Rel.setV(b:Rel κ F σ H)(c:Rep κ F.β F.O H x v)(hi:i<F.s.length):Rel κ (F.setV i x) (σ.set i (some v)) H:=by
 refine b.setGen (by rw[Bw]) (by rw[Bw]) λ j y d=>?_
 rcases Qh d with ⟨e,z⟩|⟨n,z⟩
 .subst e;cases z
  refine⟨v,?_,Rep.sub (λ a f=>FQ f) c⟩
  rw[Cy,Ab rfl,Ab (by rw[<-b.slen];exact hi)]
 .obtain⟨w,h1,h2⟩:=b.slot j y z
  exact⟨w,by rw[Cy,Ac n];exact h1,Rel.slotNe n h2⟩
theorem Rel.setN{i:Nat}(a:Rel κ F σ H):Rel κ (F.setN i) σ H:=by
 refine a.setGen (by rw[Bw]) rfl λ j y b=>?_
 rcases Qh b with ⟨e,z⟩|⟨n,z⟩
 .cases z
 .obtain⟨w,h1,h2⟩:=a.slot j y z
  exact⟨w,h1,Rel.slotNe n h2⟩
def Iq{F:Fr}{i:Nat}{s:S3}{a p:Addr}(h:({F with s:=s,l:=F.l.set i (some p)}:Fr).O a):(F.with p).O a:=by
 rcases h with h|h|h
 .exact .inl (Ap _ h)
 .rcases Qj h with z|z
  .cases z;exact .inl Aj
  .exact .inr (.inl z.1)
 .exact .inr (.inr h)
theorem Rel.setM{c:C3}(b:Rel κ (F.with p) σ H)(f:CellR κ F.β (F.with p).O H c p)(hi:i<F.s.length):Rel κ (F.setM i c p) (σ.set i (some (.ref p))) H where
 heap:=b.heap.sub λ a d=>Iq d
 slen:=by show (F.s.set i _).length=_;rw[Bw,Bw];exact b.slen
 llen:=by show (F.l.set i _).length=(F.s.set i _).length;rw[Bw,Bw];exact b.llen
 linj:=λ j k a h1 h2=>by
  rcases Qh h1 with ⟨e1,z1⟩|⟨n1,z1⟩<;>rcases Qh h2 with ⟨e2,z2⟩|⟨n2,z2⟩
  .lia
  .cases z1;exact absurd Aj (b.lt p (Al z2))
  .cases z2;exact absurd Aj (b.lt p (Al z1))
  .exact b.linj j k a z1 z2
 lt:=λ a d z=>by
  rcases Qj d with q|q
  .cases q;exact (Bp.mp b.tn).1 z
  .exact b.lt a q.1 (Ap _ z)
 lo:=λ a d=>by
  rcases Qj d with q|q
  .cases q;exact b.to p Aj
  .exact b.lo a q.1
 to:=λ a d=>b.to a (Ap _ d)
 tn:=(Bp.mp b.tn).2
 slot:=λ j y g=>by
  rcases Qh g with ⟨e,z⟩|⟨n,z⟩
  .subst e;cases z
   refine⟨.ref p,?_,p,?_,rfl,f.sub λ a d=>Iq d⟩
   .rw[Cy,Ab rfl,Ab (by rw[<-b.slen];exact hi)]
   .show (F.l.set i _)[i]? =_
    rw[Cy,Ab rfl,Ab (by have h:=b.llen;show i<F.l.length;rw[show F.l.length=F.s.length from h];exact hi)]
  .obtain⟨w,h1,h2⟩:=b.slot j y z
   refine⟨w,by rw[Cy,Ac n];exact h1,?_⟩
   cases y with
   |v x=>exact Rep.sub (λ a d=>Iq d) h2
   |m c=>
    obtain⟨a,q1,q2,q3⟩:=h2
    refine⟨a,?_,q2,q3.sub λ a d=>Iq d⟩
    show (F.l.set i _)[j]? =_;rw[Cy,Ac n];exact q1
def SExt.setN{s:S3}(b:F.T=[]):SExt F H ({F with s:=s,l:=F.l.set i none}:Fr) H:=
 ⟨Ext.refl,λ a h=>by
  rcases Qj h with z|z
  .cases z
  .exact .inl z.1,rfl,b⟩
noncomputable def Res.bindS{α:Type}(r:Res α)(k:α->H3->O3):O3:=match r with
 |.ok r h=>k r h
 |.ex x h=>.ex x h
 |.no=>.no
theorem bindS{α d:Type}{K:Kd α d}{a:S3->H3->Res α}{k:α->H3->O3}(c:Rel κ F σ H)(f:F.T=[])(o:SOut κ E F H D ((a F.s F.h).bindS k)):
  tOf κ E K a σ H (λ w H1=> ∃b h1 x,Ext No F.β H b H1/\K H (F.to b h1) σ H1 x w/\SOut κ E F H D (k x h1)):=by
 refine⟨F,c,?_⟩
 cases q:a F.s F.h with
 |no=>rw[q]at o;exact o
 |ex x h1=>rw[q]at o;exact λ β' H' e r=>o (F.to β' h1) H' (SExt.of0 f e) r
 |ok r h1=>rw[q]at o;exact λ b v H1 e p=>⟨b,h1,r,e,p,o⟩
def sSet(i:Nat)(e:E3):D3:=λ s h=>(e s h).bindS λ r h1=>if i<s.length then .nx (s.set i (some r)) h1 else .no
def Ka{d:E3}(h:zu κ E (sSet i d) D σ H):zi κ E d σ H (λ v H1=>D.nx (σ.set i (some v)) H1):=by
 obtain⟨F,f,b,o⟩:=h
 refine (bindS (K:=kE κ) f b o).mono λ v H1 ⟨e,h1,r,e1,p1,o⟩=>?_
 by_cases hi:i<F.s.length
 .rw[Ab hi]at o
  cases r with
  |v x=>
   obtain⟨g,j⟩:=p1;exact o ((F.to e h1).setV i x) _ H1 ((SExt.of0 (h':=h1) b e1).trans (SExt.setN b)) rfl rfl (g.setV j hi)
  |m c=>
   obtain⟨p,rfl,g,j,hp⟩:=p1
   refine o ((F.to e h1).setM i c p) _ H1 ?_ rfl rfl (g.setM j hi)
   exact⟨(SExt.of0 (h':=h1) b e1).ext,λ a k=>by
    rcases Qj k with z|z
    .cases z;exact .inr hp
    .exact .inl z.1,rfl,b⟩
 .rw[Ac hi]at o;exact o.elim
def FR(a:X.N.Nodup)(hi:X.N[i]? =some x)(b:jT X.env.scope x)(c:PE X e (zi κ E d))(hs:swapsWith e (some (.Name x pos')) pos.line X.env=pure false:=by rfl)
 (f:X.fn x=true\/X.env.scope.names.lookup x=some .local:=by first|exact .inl rfl|exact .inr rfl|assumption):PS X (.Assign [.Name x pos'] e pos) (zu κ E (sSet i d)):=qv (MT a hi b c hs f) λ D σ H h=>Ka h
def sExp(e:E3):D3:=λ s h=>(e s h).bindS λ _ h1=>.nx s h1
def FS(h:PE X e (zi κ E d))(hs:swapsWith e none pos.line X.env=pure false:=by rfl):PS X (.Expr e pos) (zu κ E (sExp d)):=qv (EZ h hs) λ D σ H ⟨F,b,g,o⟩=>
 (bindS (K:=kE κ) b g o).mono λ v H1 ⟨a,h1,r,e1,p1,o⟩=>by
  have f:Rel κ (F.to a h1) σ H1:=by
   cases r with
   |v x=>exact p1.1
   |m c=>obtain⟨p,_,f,_⟩:=p1;exact Rel.drop f
  exact o (F.to a h1) σ H1 (SExt.of0 g e1) rfl rfl f
def sRet(e:E3):D3:=λ s h=>(e s h).bindS λ r h1=>.rt r h1
def zT(f:PE X e (zi κ E d)):PS X (.Return (some e) pos) (zu κ E (sRet d)):=qv (MR f) λ D σ H ⟨F,a,c,o⟩=>
 (bindS (K:=kE κ) a c o).mono λ v H1 ⟨b,h1,r,e1,p1,o⟩=>o (F.to b h1) σ v H1 (SExt.of0 c e1) rfl (p1.imp λ p hp=>.inr hp)
def sRetN:D3:=λ _ h=>.rt (.v .non) h
def Rel.take{c:C3}(b:Rel κ F σ H)(f:F.l[i]? =some (some p)):Rel κ ((F.setN i).with p) σ H:=by
 have e:=b.setN (i:=i);have g:∀a,((F.setN i).with p).O a->F.O a:=λ a d=>by
  rcases d with z|z
  .rcases Af.mp z with z|z
   .subst z;exact .inr (.inl (Al f))
   .exact .inl z
  .rcases z with z|z
   .rcases Qj z with w|w
    .cases w
    .exact .inr (.inl w.1)
   .exact .inr (.inr z)
 have o:∀a,some a∈F.l.set i none->a≠p:=λ a d z=>by
  subst z
  rcases Qj d with w|⟨_,j,k,w⟩
  .cases w
  .exact k (b.linj j i a w f)
 refine⟨b.heap.sub g,e.slen,e.llen,e.linj,λ a d z=>?_,e.lo,λ a d z=>?_,Bp.mpr ⟨λ z=>b.lt p (Al f) z,b.tn⟩,λ j y k=>?_⟩
 .rcases Af.mp z with z|z
  .exact o a d z
  .exact e.lt a d z
 .rcases Af.mp d with h|h
  .subst h;exact b.lo a (Al f) z
  .exact b.to a h z
 .rcases Qh k with ⟨_,z⟩|⟨n,z⟩
  .cases z
  .obtain⟨w,h1,h2⟩:=b.slot j y z
   refine⟨w,h1,?_⟩
   cases y with
   |v x=>exact Rep.sub g h2
   |m c=>
    obtain⟨a,q1,q2,q3⟩:=h2
    refine⟨a,?_,q2,q3.sub g⟩
    show (F.l.set i none)[j]? =_;rw[Cy,Ac n];exact q1
def UP{a:Addr}(b:F.l[i]? =some (some p))(c:((F.setN i).with p).O a):F.O a:=by
 rcases c with z|z
 .rcases Af.mp z with z|z
  .subst z;exact .inr (.inl (Al b))
  .exact .inl z
 .rcases z with z|z
  .rcases Qj z with w|w
   .cases w
   .exact .inr (.inl w.1)
  .exact .inr (.inr z)
noncomputable def sRetS(i:Nat):D3:=λ s h=>match s[i]? with
 |some (some r)=>.rt r h
 |_=>.no
def AC(g:PE X e (tVar i)):PS X (.Return (some e) pos) (zu κ E (sRetS i)):=qv (MR g) λ D σ H ⟨F,d,f,o⟩=>by
 unfold sRetS at o;cases q:F.s[i]? with
 |none=>rw[q]at o;exact o.elim
 |some z=>
  rw[q]at o
  match z,q,o with
  |none,q,o=>exact o.elim
  |some (.v x),q,o=>
   obtain⟨v,h1,h2⟩:=d.slot i _ q;exact⟨v,h1,o F σ v H (.refl f) rfl ⟨d,h2⟩⟩
  |some (.m c),q,o=>
   obtain⟨v,h1,a,h2,h,j⟩:=d.slot i _ q;subst h;exact⟨_,h1,o (F.setN i) σ (.ref a) H (SExt.setN f) rfl ⟨a,rfl,Rel.take (c:=c) d h2,j.sub λ b k=>UP h2 k,.inl (Al h2)⟩⟩
def sFz(i:Nat):D3:=λ s h=>match s[i]? with
 |some (some (.m c))=>match c.fz with
  |some x=>.nx (s.set i (some (.v x))) h
  |none=>.no
 |_=>.nx s h
def UQ{d:D3}(h:zu κ E (sSeq (sFz i) d) D σ H):zu κ E d D σ H:=by
 obtain⟨F,e,f,o⟩:=h;unfold sSeq sFz at o;have same:(match (F.s[i]? :Option (Option Vl)) with|some (some (.m c))=>False|_=>True)->SOut κ E F H D (d F.s F.h)->zu κ E d D σ H:=λ _ o=>⟨F,e,f,o⟩
 cases q:F.s[i]? with
 |none=>rw[q]at o same;exact same trivial o
 |some z=>
  rw[q]at o same
  match z,q,o,same with
  |none,q,o,same|some (.v x),q,o,same=>exact same trivial o
  |some (.m c),q,o,same=>
   cases z:c.fz with
   |none=>simp only[z]at o;exact o.elim
   |some x=>
    simp only[z]at o;obtain⟨v,h1,a,h2,k,n⟩:=e.slot i _ q;subst k;have hi:i<F.s.length:=(Ao.mp q).1;have rt:=Rel.take (c:=c) e h2;have rep:Rep κ F.β (F.setN i).O H x (.ref a):=(n.sub (O':=(F.setN i).O) λ b p=>FQ p).fz z rt.offp rt.apart
    have g:=(e.setN (i:=i)).setV (i:=i) (x:=x) (v:= .ref a) rep (by show i<(F.s.set i none).length;rw[Bw];exact hi)
    have e1:(F.setN i).setV i x=F.setV i x:=by
     show ({F with s:=(F.s.set i none).set i _,l:=(F.l.set i none).set i none}:Fr)={F with s:=F.s.set i _,l:=F.l.set i none}
     rw[List.set_set,List.set_set]
    have e2:σ.set i (some (.ref a))=σ:=by
     apply List.ext_getElem?;intro j
     rw[Cy]
     by_cases hj:i=j
     .subst hj;rw[Ab rfl,Ab (by rw[<-e.slen];exact hi),h1]
     .rw[Ac hj]
    rw[e1,e2]at g;exact⟨F.setV i x,g,f,SOut.move (SExt.setN f) o⟩
def qk(i:Nat)(h:yM X sts (zu κ E d)):yM X sts (zu κ E (sSeq (sFz i) d)):=PSsw h λ D σ H q=>UQ q
def sIf(t:T3)(a b:D3):D3:=λ s h=>(t s h).bindS λ c h1=>if c=true then a s h1 else b s h1
def yf(g:PT X c (zQ κ E t))(h:yM X sa (zu κ E da))(i:yM X sb (zu κ E db)):PS X (.If c sa sb pos) (zu κ E (sIf t da db)):=qv (RW g h i) λ D σ H ⟨F,d,b,o⟩=>
 (bindS (K:=kT κ) d b o).mono λ c H1 ⟨a,h1,x,e1,⟨j,e⟩,o1⟩=>by
  subst j;have f:=SExt.of0 (h':=h1) b e1;cases c with
  |true=>rw[Ab rfl]at o1 ⊢;exact⟨F.to a h1,e,b,SOut.move f o1⟩
  |false=>rw[Ac Bk]at o1 ⊢;exact⟨F.to a h1,e,b,SOut.move f o1⟩
def sNever:D3:=λ _ _=>.no
def Kb:PS X st (zu κ E sNever):=qv RY λ D σ H ⟨F,a,b,o⟩=>o
abbrev G3:=V3->S3->Option S3
abbrev Gs3:=List V3->S3->Option S3
noncomputable def gN(i:Nat):G3:=λ x s=>if i<s.length then some (s.set i (some (.v x))) else none
def gsNil:Gs3:=λ xs s=>match xs with
 | []=>some s
 |_=>none
noncomputable def gsCons(g:G3)(gs:Gs3):Gs3:=λ xs s=>match xs with
 |x::r=>(g x s).bind λ s1=>gs r s1
 | []=>none
noncomputable def gT(gs:Gs3):G3:=λ x s=>match x with
 |.tup xs=>gs xs s
 |_=>none
noncomputable def gL(gs:Gs3):G3:=λ x s=>match x with
 |.lst xs=>gs xs s
 |_=>none
def yR(κ:Kx)(g:G3):TG:=λ v σ H Q=> ∃F x s',Rel κ F σ H/\F.T=[]/\Rep κ F.β F.O H x v/\g x F.s=some s'/\∀F' σ',SExt F H F' H->F'.β=F.β->F'.s=s'->F'.h=F.h->Rel κ F' σ' H->Q σ' H
def Ir(κ:Kx)(g:Gs3):TGs:=λ vs σ H Q=> ∃F xs s',Rel κ F σ H/\F.T=[]/\Reps κ F.β F.O H xs vs/\g xs F.s=some s'/\∀F' σ',SExt F H F' H->F'.β=F.β->F'.s=s'->F'.h=F.h->Rel κ F' σ' H->Q σ' H
def PGw(h:PG X tg t)(w:∀v σ H Q,t' v σ H Q->t v σ H Q):PG X tg t':=λ pins s σ H v u Q I r q=>h pins s σ H v u Q I r (w v σ H Q q)
def PGsw(h:jV X tg t)(w:∀v σ H Q,t' v σ H Q->t v σ H Q):jV X tg t':=λ pins s σ H v u Q I r q=>h pins s σ H v u Q I r (w v σ H Q q)
def NY{a:Addr}{o:HO}(e:SExt F H F' H')(b:H a=some o)(n: ¬F.O a): ¬F'.O a:=λ z=>by
 rcases z with z|z|z
 .rw[e.tt]at z;cases z
 .rcases e.lam a z with w|w
  .exact n (.inr (.inl w))
  .rw[b]at w;cases w
 .rw[e.oi]at z;exact n (.inr (.inr z))
def Rep.sext(e:SExt F H F' H')(r:Rep κ F.β F.O H x v):Rep κ F'.β F'.O H' x v:=r.ext e.ext (λ a h=>.inr (.inl h)) λ a o b n=>NY e b n
def Reps.sext(e:SExt F H F' H')(r:Reps κ F.β F.O H x v):Reps κ F'.β F'.O H' x v:=r.ext e.ext (λ a h=>.inr (.inl h)) λ a o b n=>NY e b n
def Iu(h:PG X tg (FA i)):PG X tg (yR κ (gN i)):=PGw h λ v σ H Q ⟨F,x,s',a,b,r,e,k⟩=>by
 unfold gN at e
 by_cases hi:i<F.s.length
 .rw[Ab hi]at e;cases e
  exact k (F.setV i x) _ (SExt.setN b) rfl rfl rfl (a.setV r hi)
 .rw[Ac hi]at e;cases e
def qZ:jV X [] (Ir κ gsNil):=PGsw RZ λ v σ H Q ⟨F,xs,s',a,b,r,e,k⟩=>by
 cases r with
 |nil=>cases e;exact⟨rfl,k F σ (.refl b) rfl rfl rfl a⟩
 |cons _ _=>cases e
theorem yc(h1:PG X e (yR κ g))(h2:jV X es (Ir κ gs))(i:∀{t:TG} {u:TGs},PG X e t->jV X es u->jV X (e::es) (MS t u)):jV X (e::es) (Ir κ (gsCons g gs)):=PGsw (i h1 h2) λ v σ H Q ⟨F,xs,s',c,j,r,e,k⟩=>by
 cases r with
 |nil=>cases e
 | @cons x y xs ys a b=>
  cases q:g x F.s with
  |none=>simp only[gsCons,q]at e;cases e
  |some s1=>
   simp only[gsCons,q]at e
   refine⟨y,ys,rfl,F,x,s1,c,j,a,q,λ F1 l e1 b1 d h1 m=>?_⟩
   have e:gs xs s1=some s':=e
   refine⟨F1,xs,s',m,e1.tt,b.sext e1,by rw[d];exact e,λ F2 f e2 b2 h h2 n=>?_⟩
   exact k F2 f (e1.trans e2) (b2.trans b1) h (h2.trans h1) n
def qX(h:PG X tg (gTup X.K n (Ir κ gs)))(b:∀xs s s',gs xs s=some s'->xs.length=n):PG X tg (yR κ (gT gs)):=PGw h λ v σ H Q ⟨F,x,s',a,c,r,e,k⟩=>by
 unfold gT at e;cases x<;>first|cases e|skip
 cases r with
 |tup h1 h2 h3 h4=>exact⟨_,_,rfl,.of h1,by rw[<-h4.length];exact b _ _ _ e,F,_,s',a,c,h4,e,k⟩
def sAsg(g:G3)(e:E3):D3:=λ s h=>(e s h).bindS λ r h1=>match r.fz with
 |some x=>match g x s with
  |some s1=>.nx s1 h1
  |none=>.no
 |none=>.no
def UR(h:zu κ E (sAsg g d) D σ H):tAsg (zi κ E d) (yR κ g) D σ H:=by
 obtain⟨F,a,b,o⟩:=h
 refine (bindS (K:=kE κ) a b o).mono λ v H1 ⟨c,h1,r,e1,p1,o⟩=>?_
 cases z:r.fz with
 |none=>simp only[z]at o;exact o.elim
 |some x=>
  simp only[z]at o;cases w:g x F.s with
  |none=>rw[w]at o;exact o.elim
  |some s1=>
   rw[w]at o;obtain⟨e,f⟩:=Post.fz p1 z;exact⟨F.to c h1,x,s1,e,b,f,w,λ F' σ' i k s' h' j=>o F' σ' H1 ((SExt.of0 (h':=h1) b e1).trans i) s' h' j⟩
def NZ(a:PE X e (zi κ E d))(b:PG X tg (yR κ g))(c:∀{te:TE} {g:TG},PE X e te->PG X tg g->PS X (.Assign [tg] e pos) (tAsg te g)):PS X (.Assign [tg] e pos) (zu κ E (sAsg g d)):=qv (c a b) λ D σ H h=>UR h
end
def qW{α d:Type}{K:Kd α d}{κ:Kx}{E:XK}{F:Fr}{σ:L2.St}{H:Hp}{D:Ends}{g:d->Hp->Prop}{a:S3->H3->Res α}{k:α->H3->O3}(c:Rel κ F σ H)(i:F.T=[])(o:SOut κ E F H D ((a F.s F.h).bindS k))(f:∀w H1 b h1 x,Ext No F.β H b H1->K H (F.to b h1) σ H1 x w->SOut κ E F H D (k x h1)->g w H1):tOf κ E K a σ H g:=(bindS c i o).mono λ w H1 ⟨b,h1,x,e,p,o⟩=>f w H1 b h1 x e p o
structure It3 where
 its:List V3
 xs:List V3
 ok:H3->Prop
def IR(κ:Kx)(it:It3)(vs:List V)(J:It):Prop:=∀(F:Fr)(σ:St)(H:Hp),Rel κ F σ H->Reps κ F.β F.O H it.its vs->it.ok F.h->∀i:Nat,
 (i<it.xs.length->J.go i H/\∀x H',J.yld i H x H'->∃x3,it.xs[i]? =some x3/\Ext No F.β H F.β H'/\Rel κ F σ H'/\Rep κ F.β F.O H' x3 x)/\(it.xs.length<=i->J.stop i H)
abbrev I3:=S3->H3->Res It3
def kI(κ:Kx):Kd It3 It:=λ _ F σ H' it J=>Rel κ F σ H'/\∃vs,Reps κ F.β F.O H' it.its vs/\IR κ it vs J
abbrev yG(κ:Kx)(E:XK)(d:I3):TI:=tOf κ E (kI κ) d
open Classical in
def zP(ok:H3->Prop)(g:G3)(b:D3):List V3->S3->H3->O3
 | [],s,h=>if ok h then .nx s h else .no
 |x::r,s,h=>if ok h then match g x s with
  |none=>.no
  |some s1=>match b s1 h with
   |.nx s2 h2|.ct s2 h2=>zP ok g b r s2 h2
   |.bk s2 h2=>.nx s2 h2
   |o=>o
  else .no
def zA(it:I3)(g:G3)(b:D3):D3:=λ s h=>(it s h).bindS λ I h1=>zP I.ok g b I.xs s h1
noncomputable def jz(t:T3)(b:D3):Nat->S3->H3->Option O3
 |0,_,_=>none
 |n+1,s,h=>match t s h with
  |.no=>some .no
  |.ex x h1=>some (.ex x h1)
  |.ok false h1=>some (.nx s h1)
  |.ok true h1=>match b s h1 with
   |.nx s2 h2|.ct s2 h2=>jz t b n s2 h2
   |.bk s2 h2=>some (.nx s2 h2)
   |o=>some o
open Classical in
def AD(t:T3)(b:D3):D3:=λ s h=>if hh:∃o n,jz t b n s h=some o then Classical.choose hh else .no
section
variable{X:Cx}{κ:Kx}{E:XK}{F F1 F2 F':Fr}{σ σ':St}{H H1 H2 H':Hp}{Q:VK}{p:Addr}{e a b:Expr}{pos:Pos}{i:Nat}{D:Ends}
def km_I:BB (kI κ):=λ _ _ _ _ _ _ _ _ _ _ _ h=>h
theorem US{it:I3}{g:G3}{b:D3}(h:zu κ E (zA it g b) D σ H):tFor (yG κ E it) (yR κ g) (zu κ E b) D σ H:=by
 obtain⟨F,e,f,o⟩:=h
 refine qW (K:=kI κ) e f o λ J H1 j h1 I e1 k o1=>?_
 obtain⟨v,vs,z,A⟩:=k
 refine⟨λ i m σ H=>m=I.xs.length-i/\i<=I.xs.length/\∃a,Rel κ a σ H/\a.T=[]/\Reps κ a.β a.O H I.its vs/\SOut κ E a H D (zP I.ok g b (I.xs.drop i) a.s a.h),⟨_,rfl,B5 _,F.to j h1,v,f,z,SOut.move (SExt.of0 (h':=h1) f e1) o1⟩,?_⟩
 rintro i m σ' H' ⟨rfl,hi,a,p,tk,t,ok⟩
 by_cases hok:I.ok a.h
 case neg=>
  exfalso
  cases q:I.xs.drop i with
  |nil|cons x r=>rw[q]at ok;unfold zP at ok;rw[Ac hok]at ok;exact ok
 obtain⟨B,C⟩:=A a σ' H' p t hok i
 by_cases hlt:i<I.xs.length
 .obtain⟨go,G⟩:=B hlt
  refine .inr ⟨go,λ c H2=> ∃F2,Rel κ F2 c H2/\F2.T=[]/\Reps κ F2.β F2.O H2 I.its vs/\SOut κ E F2 H2 D (zP I.ok g b (I.xs.drop (i+1)) F2.s F2.h),λ c H2 L=>⟨_,by lia,rfl,hlt,L⟩,λ x d y=>?_⟩
  obtain⟨x3,ex,u,M,N⟩:=G x d y;have hd:I.xs.drop i=x3::I.xs.drop (i+1):=by
   rw[Fh hlt]
   congr 1
   rw[zX hlt]at ex;exact Option.some.inj ex
  rw[hd]at ok;have ok:=SOut.move (SExt.of0 (h':=a.h) tk u) ok;unfold zP at ok;rw[Ab hok]at ok;cases w:g x3 a.s with
  |none=>simp only[w]at ok;exact ok.elim
  |some s1=>
   simp only[w]at ok
   refine⟨a,x3,s1,M,tk,N,w,λ F3 P l b3 Q R S=>?_⟩
   refine⟨F3,S,l.tt,?_⟩
   rw[Q,R];have ok:=SOut.move l ok;have ev:Reps κ F3.β F3.O d I.its vs:=(t.ext0 u).sext l;cases q:b s1 a.h with
   |nx s2 h2|ct s2 h2=>simp only[q]at ok;exact λ U V Z n W X Y=>⟨U,Y,n.tt,ev.sext n,by rw[W,X];exact SOut.move n ok⟩
   |bk s2 h2|rt r h2|ex x h2|no=>simp only[q]at ok;exact ok
 .have hi:i=I.xs.length:=by lia
  subst hi;rw[Cm]at ok;unfold zP at ok;rw[Ab hok]at ok;exact .inl ⟨C (Ag _),ok a σ' H' (.refl tk) rfl rfl p⟩
def UT{tg a:Expr}{body:List Stmt}{it:I3}{g:G3}{b:D3}(hp:PassesOwn (model X.prog X.w) X.A X.env X.xe)(c:X.calm=true)(hi:PI X tg a (yG κ E it))(d:PG X tg (yR κ g))(e:yM X body (zu κ E b))
 (hs:∀x,foldedSetIterable a X.env x=pure x:=by intro _;rfl):PS X (.For tg a body [] pos) (zu κ E (zA it g b)):=qv (Sn hp c hi d e hs) λ D σ H h=>US h
theorem Iv{t:T3}{b:D3}:∀{n k:Nat}{s:S3}{h:H3}{o:O3},n<=k->jz t b n s h=some o->jz t b k s h=some o
 |0,_,_,_,_,_,e=>by cases e
 |n+1,0,_,_,_,l,_=>by lia
 |n+1,k+1,s,h,o,l,e=>by
  unfold jz at e ⊢;cases q:t s h with
  |no|ex x h1=>rw[q]at e;exact e
  |ok c h1=>
   rw[q]at e;cases c with
   |false=>exact e
   |true=>
    cases z:b s h1 with
    |nx s2 h2|ct s2 h2=>simp only[z]at e ⊢;exact Iv (by lia) e
    |bk s2 h2|rt r h2|ex x h2|no=>simp only[z]at e ⊢;exact e
def UU{t:T3}{b:D3}{n:Nat}{s:S3}{h:H3}{o:O3}(e:jz t b n s h=some o):AD t b s h=o:=by
 unfold AD;have a:∃o n,jz t b n s h=some o:=⟨o,n,e⟩;rw[dif_pos a];obtain⟨k,c⟩:=Classical.choose_spec a;have h1:=Iv (Nat.le_max_left n k) e;have h2:=Iv (Nat.le_max_right n k) c;exact Option.some.inj (h2.symm.trans h1)
def UV{t:T3}{b:D3}(h:zu κ E (AD t b) D σ H):MW (zQ κ E t) (zu κ E b) D σ H:=by
 obtain⟨F,g,u,o⟩:=h;unfold AD at o
 by_cases hh:∃o n,jz t b n F.s F.h=some o
 .rw[dif_pos hh]at o
  obtain⟨n,j⟩:=Classical.choose_spec hh;generalize Classical.choose hh=w at o j
  refine⟨λ m σ H=> ∃F,Rel κ F σ H/\F.T=[]/\∃w,jz t b m F.s F.h=some w/\SOut κ E F H D w,⟨n,F,g,u,w,j,o⟩,?_⟩
  rintro m i H1 ⟨F1,v,t1,y,a,o1⟩;cases m with
  |zero=>cases a
  |succ m=>
   unfold jz at a
   refine⟨F1,v,?_⟩
   cases q:t F1.s F1.h with
   |no=>rw[q]at a;cases a;exact o1
   |ex x h1=>rw[q]at a;cases a;exact λ β' H' e r=>o1 (F1.to β' h1) H' (SExt.of0 t1 e) r
   |ok c h2=>
    rw[q]at a;rintro d c' H2 e2 ⟨rfl,k⟩;have l:=SExt.of0 (h':=h2) t1 e2;cases c' with
    |false=>rw[Ac Bk];cases a;exact o1 (F1.to d h2) i H2 l rfl rfl k
    |true=>
     rw[Ab rfl]
     refine⟨λ f H3=> ∃F3,Rel κ F3 f H3/\F3.T=[]/\∃w,jz t b m F3.s F3.h=some w/\SOut κ E F3 H3 D w,λ f H3 A=>⟨m,C4 _,A⟩,F1.to d h2,k,t1,?_⟩
     have o2:=SOut.move l o1;show SOut κ E (F1.to d h2) H2 _ (b F1.s h2);cases z:b F1.s h2 with
     |nx s3 h3|ct s3 h3=>simp only[z]at a;exact λ B C K p G I J=>⟨B,J,p.tt,y,by rw[G,I];exact a,SOut.move p o2⟩
     |bk s3 h3|rt r h3|ex x h3|no=>simp only[z]at a;cases a;exact o2
 .rw[dif_neg hh]at o;exact o.elim
def Kc{c:Expr}{body:List Stmt}{t:T3}{b:D3}(hp:PassesOwn (model X.prog X.w) X.A X.env X.xe)(a:PT X c (zQ κ E t))(d:yM X body (zu κ E b)):PS X (.While c body [] pos) (zu κ E (AD t b)):=qv (Sd hp a d) λ D σ H h=>UV h
noncomputable def yL(h:H3):V3->Option (List V3×(H3->Prop))
 |.lst xs=>some (xs,λ _=>True)
 |.scr ns=>some (ns.map .int,λ _=>True)
 |.loc n=>match h[n]? with
  |some (.lst xs)=>some (xs,λ h=>h[n]? =some (.lst xs))
  |_=>none
 |_=>none
def UW(b:Rel κ F σ H)(r:Rep κ F.β F.O H x v)(e:rdl F.s F.h (.x x)=some xs):∃a ys,v=.ref a/\SqL κ.K H a ys/\Reps κ F.β F.O H xs ys:=Qg (f:= .x x) b r e
def CY(e:yL h x=some (xs,ok)):ok h/\∀s h',ok h'->rdl s h' (.x x)=some xs:=by
 cases x<;>simp[yL]at e
 case lst zs=>obtain⟨rfl,rfl⟩:=e;exact⟨trivial,λ _ _ _=>rfl⟩
 case scr ns=>obtain⟨rfl,rfl⟩:=e;exact⟨trivial,λ _ _ _=>rfl⟩
 case loc n=>
  cases q:h[n]? with
  |none=>rw[q]at e;cases e
  |some c=>
   rw[q]at e;cases c<;>simp at e
   obtain⟨rfl,rfl⟩:=e;exact⟨q,λ s h' a=>by simp only[rdl,a]⟩
def BV(e:yL h x=some (xs,ok))(b:Rel κ F σ H)(r:Rep κ F.β F.O H x v)(c:ok F.h):∃a ys,v=.ref a/\SqL κ.K H a ys/\Reps κ F.β F.O H xs ys:=UW b r ((CY e).2 _ _ c)
def PIw(h:PI X tg iter t)(w:∀σ H R,t' σ H R->t σ H R):PI X tg iter t':=λ pins s σ H R I q=>h pins s σ H R I (w σ H R q)
def iL(p:P3):I3:=λ s h=>(p s h).bind λ f h1=>match f with
 |.x x=>match yL h1 x with
  |some (xs,ok)=>.ok ⟨[x],xs,ok⟩ h1
  |none=>.no
 |_=>.no
def UX(t:X.K=κ.K)(u:PE X l (zh κ E d)):PI X tg l (yG κ E (iL d)):=PIw (Si u) λ σ H R ⟨F,m,o⟩=>
 yu (K:=kP κ) km_I m o λ v H1 c h1 f e1 n o1=>by
  obtain⟨r,g⟩:=n;rw[t]
  match f,g,o1 with
  |.s _,g,o1=>exact o1.elim
  |.x x,g,o1=>
   cases q:yL h1 x with
   |none=>simp only[q]at o1;exact o1.elim
   |some w=>
    obtain⟨xs,ok⟩:=w;simp only[q]at o1;have g:Rep κ c F.O H1 x v:=g;obtain⟨a,ys,ev,z,G⟩:=BV (F:=F.to c h1) q r g (CY q).1;subst ev
    refine⟨a,rfl,⟨ys,z⟩,o1 c _ H1 Ext.refl ⟨r,[.ref a],.cons g .nil,λ F' σ' H' b A B i=>?_⟩⟩
    cases A with
    |cons r'' _=>
     obtain⟨I,h,p,j,k⟩:=BV q b r'' B;cases p
     refine⟨λ hi=>⟨?_,λ y H' ⟨e,C⟩=>?_⟩,λ hi=>⟨h,j,by rw[<-k.length];exact hi⟩⟩
     .obtain⟨y,D,_⟩:=k.get (i:=i) (zX hi)
      exact⟨h,y,j,D⟩
     .subst e
      obtain⟨x3,h1,h2⟩:=k.get' (C h j);exact⟨x3,h1,Ext.refl,b,h2⟩
end
end L3
namespace L3
open PySem PySem.Spec PyProof.Rows L2
abbrev F3:=List V3->H3->Res Vl
noncomputable def start3(n:Nat)(vs:List V3):S3:=vs.map (λ x=>some (.v x))++List.replicate (n-vs.length) none
noncomputable def O3.res:O3->Res Vl
 |.nx _ h=>.ok (.v .non) h
 |.rt r h=>.ok r h
 |.ex x h=>.ex x h
 |_=>.no
def fun3(k n:Nat)(b:D3):F3:=λ vs h=>if vs.length=k then (b (start3 n vs) h).res else .no
def UY(κ:Kx)(N:Addr->Prop)(O:Addr->Prop)(β:AO)(h:H3)(H:Hp):Vl->V->Prop
 |.v x,v=>RelH κ O β h H/\Rep κ β O H x v
 |.m c,v=> ∃p,v=.ref p/\RelH κ (λ a=>a=p\/O a) β h H/\CellR κ β (λ a=>a=p\/O a) H c p/\N p/\¬O p
def FOut(κ:Kx)(E:XK)(O:Addr->Prop)(β:AO)(H:Hp)(Q:VK):Res Vl->Prop
 |.ok r h'=> ∀β' v H',Ext No β H β' H'->UY κ (Nw H) O β' h' H' r v->Q v H'
 |.ex x h'=> ∀β' H',Ext No β H β' H'->RelH κ O β' h' H'->XOk κ E x β' O H'
 |.no=>False
def zn(κ:Kx)(k:Nat)(f:F3):Sp:=λ vs H Q E=> ∃O β a b,vs.length=k/\RelH κ O β b H/\Reps κ β O H a vs/\FOut κ E O β H Q (f a b)
section
variable{X:Cx}{κ:Kx}{E:XK}{F F1 F2 F':Fr}{σ σ':L2.St}{H H1 H2 H':Hp}{Q:VK}{p:Addr}{e a b o:Expr}{pos apos np:Pos}{i:Nat}{D:Ends}
def Qp{a:Addr}{n:Nat}:some a∉List.replicate n (none:Option Addr):=λ h=>by cases (List.mem_replicate.mp h).2
def UZ(h:(start3 n vs3)[i]? =some (some x)):∃y,vs3[i]? =some y/\x=.v y:=by
 unfold start3 at h
 by_cases hi:i<vs3.length
 .rw[Bh (by simpa using hi),Az]at h
  cases q:vs3[i]? with
  |none=>rw[q]at h;cases h
  |some y=>rw[q]at h;cases h;exact⟨y,rfl,rfl⟩
 .rw[Bo (by simpa using hi)]at h
  have:=List.mem_replicate.mp (Al h);cases this.2
def Va(f:RelH κ O β h3 H)(c:Reps κ β O H vs3 vs)(l:vs.length<=N.length):
  Rel κ ⟨O,[],β,List.replicate N.length none,start3 N.length vs3,h3⟩ (L2.start N vs) H:=by
 have d:∀a,(⟨O,[],β,List.replicate N.length none,start3 N.length vs3,h3⟩:Fr).O a->O a:=λ a b=>by
  rcases b with z|z|z
  .cases z
  .exact absurd z Qp
  .exact z
 have m:=c.length
 refine⟨f.sub d,?_,?_,λ i j a h=>?_,λ a b=>absurd b Qp,λ a b=>absurd b Qp,λ a b=>(by cases b),D1,λ i x g=>?_⟩
 .show (start3 N.length vs3).length=_
  unfold start3 L2.start;simp only[Ar,Ae,Du];lia
 .show (List.replicate N.length (none:Option Addr)).length=(start3 N.length vs3).length
  unfold start3;simp only[Ar,Ae,Du];lia
 .exact absurd (Al h) Qp
 .obtain⟨y,k,rfl⟩:=UZ g
  obtain⟨v,e,r⟩:=c.get k
  refine⟨v,?_,Rep.sub d r⟩
  unfold L2.start;have hi:i<vs.length:=(Ao.mp e).1;rw[Bh (by simpa using hi),Az,e];rfl
def z9{P:Program}{w:World}{K:FG}{mg:Str->Option Value}{base:Heap}{x qual:Str}{st:Stmt}{f:Addr}{fd:FuncData}{N ps:List Str}{k:Nat}{b:D3}(I:Fun K x qual st f fd)(S:FnScope N ps (zC st))
  (J:∀(cdv:Value)(A:Around)(outer:List Env)(s:Shared)(H:Hp)(E:XK),Room k (A.deeper (envOfC qual (zC st) s.heap.objs.size f cdv))->
   yM (yW (XT P w) P w K mg base N qual (zC st) f cdv A outer s H E) (BR st) (zu κ E b)):FnOk P w K mg base (XT P w) (k+1) f fd ps (zn κ ps.length (fun3 ps.length N.length b)):=by
 refine I.okX S (λ vs H Q E h=>?_) λ cdv A outer s H vs Q E L h=>?_
 .obtain⟨_,_,_,_,h,_⟩:=h;exact h
 .obtain⟨O,β,e,B,M,R,G,o⟩:=h
  have T:ps.length<=N.length:=by have:=congrArg List.length S.pre;rw[Ay]at this;lia
  have g:=Va (N:=N) R G (by lia)
  refine⟨zu κ E b,J cdv A outer s H E L,_,g,rfl,?_⟩
  unfold fun3 at o;rw[Ab (by rw[G.length];exact M)]at o
  generalize hF:(⟨O,[],β,List.replicate N.length none,start3 N.length e,B⟩:Fr)=F0 at g;have U:F0.s=start3 N.length e/\F0.h=B/\F0.β=β/\F0.Oi=O/\∀a,some a∉F0.l:=by subst hF;exact⟨rfl,rfl,rfl,rfl,λ a=>Qp⟩
  obtain⟨es,V,j,C,el⟩:=U;rw[es,V];have ext:∀{F':Fr}{H':Hp},SExt F0 H F' H'->Ext No β H F'.β H':=λ {F' H'} d=>⟨λ a u h n _=>d.ext.keep a u h (by rw[j];exact n) (el a),by rw[<-j];exact d.ext.len,λ i a hi h=>by
   have:=d.ext.bet i a (by rw[j];exact hi) h
   rw[j]at this;exact this,d.ext.there,λ i a hi h=>d.ext.nwb i a (by rw[j];exact hi) h⟩
  have t:∀{F':Fr}{H':Hp},SExt F0 H F' H'->∀a,O a->F'.O a:=λ {F' H'} d a D=>.inr (.inr (by rw[d.oi,C];exact D))
  cases q:b (start3 N.length e) B with
  |nx s1 h1=>
   rw[q]at o;exact λ F' σ' H' d _ h' y=>o F'.β .non H' (ext d) ⟨by rw[<-h'];exact y.heap.sub (t d),.non⟩
  |rt r h1=>
   rw[q]at o;intro F' σ' v H' d h' p
   refine o F'.β v H' (ext d) ?_
   cases r with
   |v x=>exact⟨by rw[<-h'];exact p.1.heap.sub (t d),Rep.sub (t d) p.2⟩
   |m c=>
    obtain⟨p,h1,h2,F,W⟩:=p;have hs:∀a,a=p\/O a->(F'.with p).O a:=λ a D=>D.elim (λ z=>.inl (by rw[z];exact Aj)) λ z=>Fr.O_with (t d a z)
    refine⟨p,h1,by rw[<-h'];exact h2.heap.sub hs,F.sub hs,W.elim (λ z=>absurd z (el p)) id,λ z=>h2.apart (t d p z)⟩
  |bk s1 h1|ct s1 h1=>rw[q]at o;exact (show False from o).elim
  |no=>rw[q]at o;exact o
  |ex x h1=>
   rw[q]at o;intro F' H' d y;have z:=o F'.β H' (ext d) (by rw[d.oi,C]at y;exact y)
   rw[d.oi,C];exact z
def Rel.nextNew(r:Rel κ F σ H)(e:Ext No F.β H β' H')(k:RelH κ (λ a=>a=p\/F.O a) β' h' H')(hp:H p=none):Rel κ ((F.to β' h').with p) σ H':=by
 have d: ¬F.O p:=(r.heap.off_new hp).2;have f:∀a,((F.to β' h').with p).O a->a=p\/F.O a:=λ a b=>by
  rcases b with z|z
  .rcases Af.mp z with z|z
   .exact .inl z
   .exact .inr (.inl z)
  .exact .inr (.inr z)
 have g:∀a u,H a=some u->¬F.O a->¬((F.to β' h').with p).O a:=λ a u b n z=>(f a z).elim (λ w=>by subst w;rw[hp]at b;cases b) n
 refine⟨k.sub f,r.slen,r.llen,r.linj,λ a b z=>?_,r.lo,λ a b z=>?_,Bp.mpr ⟨λ z=>d (.inl z),r.tn⟩,λ i x q=>?_⟩
 .rcases Af.mp z with z|z
  .subst z;exact d (.inr (.inl b))
  .exact r.lt a b z
 .rcases Af.mp b with h|h
  .subst h;exact d (.inr (.inr z))
  .exact r.to a h z
 .obtain⟨v,h1,h2⟩:=r.slot i x q
  refine⟨v,h1,?_⟩
  cases x with
  |v x=>exact Rep.ext e (λ _ z=>z.elim) g h2
  |m c=>
   obtain⟨a,j,l,o⟩:=h2;have b:F.O a:= .inr (.inl (Al j));exact⟨a,j,l,o.ext e (λ _ z=>z.elim) g λ u s=>(e.keep a u s (r.heap.off a b) λ z=>z).1⟩
def FOut.of(b:Rel κ F σ H)(o:Out κ E (kE κ) F σ H Q r):FOut κ E F.O F.β H Q r:=by
 cases r with
 |no=>exact o
 |ex x h'=>exact λ β' H' e g=>(o β' H' e (g.sub λ a d=>.inr (.inr d))).sub λ a d=>.inr (.inr d)
 |ok r h'=>
  intro β' v H' e q
  refine o β' v H' e ?_
  cases r with
  |v x=>exact⟨b.next e q.1,q.2⟩
  |m c=>
   obtain⟨p,h1,h2,h,f,j⟩:=q;have i:∀a,((F.to β' h').with p).O a->a=p\/F.O a:=λ a d=>by
    rcases d with z|z
    .rcases Af.mp z with z|z
     .exact .inl z
     .exact .inr (.inl z)
    .exact .inr (.inr z)
   exact⟨p,h1,b.nextNew e h2 f,h.sub i,f⟩
def eCall(f:F3)(a:A3):E3:=λ s h=>(a s h).bind λ fs h1=>match vals3 fs with
 |some vs=>f vs h1
 |none=>.no
def zo(f:F3)(k:Nat):Prop:=∀vs h,vs.length≠k->f vs h=.no
def zB{k n:Nat}{b:D3}:zo (fun3 k n b) k:=λ vs h e=>Ac e
def Vb(e:zo f k)(h:zi κ E (eCall f t) σ H Q):Ni (zn κ k f) [] E (zI κ E t) σ H Q:=by
 obtain⟨F,b,o⟩:=h
 refine yu (K:=kA κ) z6 b o λ vs H1 c h1 fs e1 a o1=>?_
 cases q:vals3 fs with
 |none=>simp only[q]at o1;exact o1.elim
 |some xs=>
  simp only[q]at o1;have d:=BU a.2 q;rw[Bz]
  refine⟨F.O,c,xs,h1,?_,a.1.heap,d,FOut.of a.1 o1⟩
  refine Hg λ n=>?_
  rw[e xs h1 (by rw[d.length];exact n)]at o1
  exact o1
def Iw(c:zo f n)(d:FnOk X.prog X.w X.K X.mg X.base (XT X.prog X.w) k fa fd ps (zn κ n f))(g:Room k X.A)(i:Gl X x)(j:X.mg x=some (.ref fa))(l:PySem.W.keepIn X.K (.ref fa)=true)(m:Binds X.K fd ps [])(o:jF (XT X.prog X.w) X E)
 (p:PA X (e::es) (zI κ E t)) (a:(x==("__debug__" :Str))=false:=by decide) (q:SE X e es:=by rfl) (b:BA X pos es:=by rfl):
 PE X (.Call (.Name x np) (e::es) [] pos) (zi κ E (eCall f t)):=yQ (SR d g i j l m .nil o p a q b) λ _ _ _ h=>Vb c h
def FT:jF (XT X.prog X.w) X E0:=λ pins σ H s e s' I h=>by
 obtain⟨_,_,_,_,_,_,_,_,_,_,_,_,_,_,_,_,q⟩:=h;exact q.elim
end
section
variable{X:Cx}{κ:Kx}{E:XK}{F:Fr}{σ:L2.St}{H H':Hp}{Q:VK}{p:Addr}{pos:Pos}{i:Nat}
noncomputable def oI(g:Int->Int->Option V3):F2:=λ _ _ x y=>match x,y with
 |.x (.int i),.x (.int j)=>(g i j).map .v
 |_,_=>none
def Oa(e:oI g s h x y=some z):∃i j w,x=.x (.int i)/\y=.x (.int j)/\g i j=some w/\z=.v w:=by
 unfold oI at e
 split at e
 .rename_i i j
  cases q:g i j with
  |none=>rw[q]at e;cases e
  |some w=>rw[q]at e;cases e;exact⟨i,j,w,rfl,rfl,q,rfl⟩
 .cases e
def DW(b:∀i j z,g i j=some z->∀β O H,Rep κ β O H z (gv i j)):OpSim κ (jd gv) (oI g):=λ F σ H x y z v w Q a c d e k=>by
 obtain⟨i,j,u,rfl,rfl,q,rfl⟩:=Oa e;cases (show Rep κ F.β F.O H (.int i) v from c)
 cases (show Rep κ F.β F.O H (.int j) w from d)
 exact⟨i,j,rfl,rfl,k _ H Ext.refl ⟨a,b i j u q _ _ _⟩⟩
def FU(b:∀i j z,g i j=some z->C i j/\∀β O H,Rep κ β O H z (gv i j)):OpSim κ (rI C gv) (oI g):=λ F σ H x y z v w Q a c d e k=>by
 obtain⟨i,j,u,rfl,rfl,q,rfl⟩:=Oa e;cases (show Rep κ F.β F.O H (.int i) v from c)
 cases (show Rep κ F.β F.O H (.int j) w from d)
 exact⟨i,j,rfl,rfl,(b i j u q).1,k _ H Ext.refl ⟨a,(b i j u q).2 _ _ _⟩⟩
instance {i j:Int}:Decidable (CMul i j):=inferInstanceAs (Decidable (_\/_))
instance {i j:Int}:Decidable (CDiv i j):=inferInstanceAs (Decidable (_/\_))
instance {i j:Int}:Decidable (CPow i j):=inferInstanceAs (Decidable (_/\_))
def AE:F2:=oI λ i j=>some (.int (i+j))
def zV:F2:=oI λ i j=>some (.int (i-j))
def Iy:F2:=oI λ i j=>if CMul i j then some (.int (i*j)) else none
def ym:F2:=oI λ i j=>if CDiv i j then some (.int (i / j)) else none
def zH:F2:=oI λ i j=>if 0<j then some (.int (i%j)) else none
def oPow:F2:=oI λ i j=>if CPow i j then some (.int (i ^ j.toNat)) else none
def oShr:F2:=oI λ i j=>if 0<=j then some (.int (i / 2 ^ j.toNat)) else none
def Ke:F2:=oI λ i j=>some (.int (Builtin.bitAnd i j))
def jq:F2:=oI λ i j=>some (.bl (decide (i<j)))
def jD:F2:=oI λ i j=>some (.bl (decide (i<=j)))
def Qd:F2:=oI λ i j=>some (.bl (decide (j<i)))
def oGe:F2:=oI λ i j=>some (.bl (decide (j<=i)))
def sim_addI:OpSim κ (jd λ i j=>.int (i+j)) AE:=DW λ i j z e=>by cases e;exact λ _ _ _=>.int _
def jE:OpSim κ (jd λ i j=>.int (i-j)) zV:=DW λ i j z e=>by cases e;exact λ _ _ _=>.int _
def Vc:OpSim κ (jd λ i j=>.int (Builtin.bitAnd i j)) Ke:=DW λ i j z e=>by cases e;exact λ _ _ _=>.int _
def BC:OpSim κ (jd λ i j=>.bl (decide (i<j))) jq:=DW λ i j z e=>by cases e;exact λ _ _ _=>.bl _
def Qq:OpSim κ (jd λ i j=>.bl (decide (i<=j))) jD:=DW λ i j z e=>by cases e;exact λ _ _ _=>.bl _
def BW:OpSim κ (jd λ i j=>.bl (decide (j<i))) Qd:=DW λ i j z e=>by cases e;exact λ _ _ _=>.bl _
def jt{c:Prop}[Decidable c]{α:Type}{x z:α}(e:(if c then some x else none)=some z):c/\x=z:=by
 by_cases h:c
 .rw[Ab h]at e;exact⟨h,Option.some.inj e⟩
 .rw[Ac h]at e;cases e
def sim_mulI:OpSim κ (rI CMul λ i j=>.int (i*j)) Iy:=FU λ i j z e=>by obtain⟨h,rfl⟩:=jt e;exact⟨h,λ _ _ _=>.int _⟩
def jm:OpSim κ (rI CDiv λ i j=>.int (i / j)) ym:=FU λ i j z e=>by obtain⟨h,rfl⟩:=jt e;exact⟨h,λ _ _ _=>.int _⟩
def yT:OpSim κ (rI (λ _ j=>0<j) λ i j=>.int (i%j)) zH:=FU λ i j z e=>by obtain⟨h,rfl⟩:=jt e;exact⟨h,λ _ _ _=>.int _⟩
def Vd:OpSim κ (rI CPow λ i j=>.int (i ^ j.toNat)) oPow:=FU λ i j z e=>by obtain⟨h,rfl⟩:=jt e;exact⟨h,λ _ _ _=>.int _⟩
def Ve:OpSim κ (rI (λ _ j=>0<=j) λ i j=>.int (i / 2 ^ j.toNat)) oShr:=FU λ i j z e=>by obtain⟨h,rfl⟩:=jt e;exact⟨h,λ _ _ _=>.int _⟩
noncomputable def qS(f g:F2):F2:=λ s h x y=>match f s h x y with
 |some z=>some z
 |none=>g s h x y
def OpSim.or(d:OpSim κ r f)(i:OpSim κ r' g):OpSim κ (λ x y H Q=>r x y H Q\/r' x y H Q) (qS f g):=λ F σ H x y z v w Q a b c e k=>by
 unfold qS at e;cases q:f F.s F.h x y with
 |some u=>rw[q]at e;cases e;exact .inl (d F σ H x y _ v w Q a b c q k)
 |none=>rw[q]at e;exact .inr (i F σ H x y z v w Q a b c e k)
noncomputable def FV:F2:=λ _ _ x y=>match x,y with
 |.x (.str i),.x (.str j)=>if i.length+j.length<=sizeLine then some (.v (.str (i++j))) else none
 |_,_=>none
def sim_addS:OpSim κ (λ x y H Q=> ∃i j,x=.str i/\y=.str j/\i.length+j.length<=sizeLine/\Q (.str (i++j)) H) FV:=λ F σ H x y z v w Q a b c e k=>by
 unfold FV at e
 split at e
 .rename_i i j
  obtain⟨h,rfl⟩:=jt e;cases (show Rep κ F.β F.O H (.str i) v from b)
  cases (show Rep κ F.β F.O H (.str j) w from c)
  exact⟨i,j,rfl,rfl,h,k _ H Ext.refl ⟨a,.str _⟩⟩
 .cases e
def rdm(s:S3)(h:H3):Rf->Option (List V3)
 |.x (.scr _)=>none
 |f=>rdl s h f
def CZ(b:Rel κ F σ H)(r:RfR κ F H f v)(e:rdm F.s F.h f=some xs):∃a ys,v=.ref a/\H a=some (.lst ys)/\Reps κ F.β F.O H xs ys:=by
 cases f with
 |s i=>
  have e:rdl F.s F.h (.s i)=some xs:=e;obtain⟨a,c,h1,h2,k,d⟩:=r;simp only[rdl,k]at e;cases c<;>simp at e
  subst e;obtain⟨ys,g,j⟩:=d;exact⟨a,ys,h2,g,j⟩
 |x y=>
  cases y<;>simp[rdm,rdl]at e
  case lst zs=>
   subst e;cases r with
   |lst h1 h2 k d=>exact⟨_,_,rfl,h1,d⟩
  case loc n=>
   cases r with
   |loc h1 h2=>
    cases q:F.h[n]? with
    |none=>rw[q]at e;cases e
    |some c=>
     rw[q]at e;cases c<;>simp at e
     subst e
     rcases b.heap.cell n _ q with z|⟨a,ha,ys,g,j⟩
     .cases z
     .exact⟨a,ys,h2 a ha,g,j⟩
def oCat:F2:=λ s h x y=>match rdm s h x,rdm s h y with
 |some xs,some ys=>if xs.length+ys.length<=sizeLine then some (.m (.lst (xs++ys))) else none
 |_,_=>none
def Vf:OpSim κ rCat oCat:=λ F σ H x y z v w Q c g i e k=>by
 unfold oCat at e;cases q1:rdm F.s F.h x with
 |none=>rw[q1]at e;cases e
 |some xs=>
  cases q2:rdm F.s F.h y with
  |none=>rw[q1,q2]at e;cases e
  |some ys=>
   rw[q1,q2]at e;obtain⟨h,rfl⟩:=jt e;obtain⟨a,us,rfl,j,d⟩:=CZ c g q1;obtain⟨b,ws,rfl,l,f⟩:=CZ c i q2;exact⟨a,b,us,ws,rfl,rfl,j,l,by rw[<-d.length,<-f.length];exact h,λ p hp=>k _ _ (qy hp) (Post.lst c hp (d.append f))⟩
def zx:F2:=qS AE (qS FV oCat)
def yp:OpR X (binaryOp .Add) (λ x y H Q=>(jd λ i j=>.int (i+j)) x y H Q\/((λ x y H Q=> ∃i j,x=.str i/\y=.str j/\i.length+j.length<=sizeLine/\Q (.str (i++j)) H) x y H Q\/rCat x y H Q)):=op_add.or (op_add_str.or Tx)
def yr:OpSim κ (λ x y H Q=>(jd λ i j=>.int (i+j)) x y H Q\/((λ x y H Q=> ∃i j,x=.str i/\y=.str j/\i.length+j.length<=sizeLine/\Q (.str (i++j)) H) x y H Q\/rCat x y H Q)) zx:=sim_addI.or (sim_addS.or Vf)
def oRep:F2:=λ s h x y=>match rdm s h x,y with
 |some xs,.x (.int k)=>if -(2 ^ 63)<=k/\k<2 ^ 63/\xs.length*k.toNat<=sizeLine then some (.m (.lst (List.replicate k.toNat xs).flatten)) else none
 |_,_=>none
def Vg:OpSim κ rRep oRep:=λ F σ H x y z v w Q b d f e k=>by
 unfold oRep at e
 split at e
 .rename_i xs n q
  obtain⟨⟨h1,h2,g⟩,rfl⟩:=jt e;obtain⟨a,us,rfl,h,c⟩:=CZ b d q;cases (show Rep κ F.β F.O H (.int n) w from f)
  exact⟨a,n,us,rfl,rfl,h,h1,h2,by rw[<-c.length];exact g,λ p hp=>k _ _ (qy hp) (Post.lst b hp (c.rep _))⟩
 .cases e
def zO:F2:=qS Iy oRep
def qF:OpR X (binaryOp .Mult) (λ x y H Q=>(rI CMul λ i j=>.int (i*j)) x y H Q\/rRep x y H Q):=op_mul.or T1
def qJ:OpSim κ (λ x y H Q=>(rI CMul λ i j=>.int (i*j)) x y H Q\/rRep x y H Q) zO:=sim_mulI.or Vg
theorem Reps.atI{xs:List V3}{ys:List V}{i:Int}{x:V3}(r:Reps κ F.β F.O H xs ys)(e:atI xs i=some x):∃y,L2.atI ys i=some y/\Rep κ F.β F.O H x y:=by
 unfold L2.atI at e ⊢;rw[<-r.length];cases q:qU xs.length i with
 |none=>rw[q]at e;cases e
 |some j=>
  rw[q]at e;exact r.get e
def yV:F2:=λ s h x y=>match y with
 |.x (.int i)=>match rdl s h x with
  |some xs=>(atI xs i).map .v
  |none=>none
 |_=>none
def oIxT:F2:=λ _ _ x y=>match x,y with
 |.x (.tup xs),.x (.int i)=>(atI xs i).map .v
 |_,_=>none
def oIxS:F2:=λ _ _ x y=>match x,y with
 |.x (.str z),.x (.int i)=>if z.length<=sizeLine then (atI z.cps.toList i).map λ c=>.v (.str ⟨#[c]⟩) else none
 |_,_=>none
def sim_ixL:OpSim κ (rIxL κ.K) yV:=λ F σ H x y z v w Q b d f e k=>by
 unfold yV at e
 split at e
 .rename_i i
  cases (show Rep κ F.β F.O H (.int i) w from f)
  cases q:rdl F.s F.h x with
  |none=>rw[q]at e;cases e
  |some xs=>
   rw[q]at e;cases q2:atI xs i with
   |none=>simp only[q2]at e;cases e
   |some u=>
    simp only[q2]at e;cases e;obtain⟨a,us,rfl,g,j⟩:=Qg b d q;obtain⟨y,l,c⟩:=Reps.atI j q2;exact⟨a,us,i,y,rfl,rfl,g,l,k _ H Ext.refl ⟨b,c⟩⟩
 .cases e
def sim_ixT:OpSim κ (rIxT κ.K) oIxT:=λ F σ H x y z v w Q a c d e k=>by
 unfold oIxT at e
 split at e
 .rename_i xs i
  cases (show Rep κ F.β F.O H (.int i) w from d)
  cases q2:atI xs i with
  |none=>rw[q2]at e;cases e
  |some u=>
   rw[q2]at e;cases e;cases (show Rep κ F.β F.O H (.tup xs) v from c) with
   |tup h1 h2 h3 h4=>
    obtain⟨y,f,b⟩:=Reps.atI h4 q2;exact⟨_,_,i,y,rfl,rfl,.of h1,f,k _ H Ext.refl ⟨a,b⟩⟩
 .cases e
def Vh:OpSim κ rIxS oIxS:=λ F σ H x y z v w Q b d f e k=>by
 unfold oIxS at e
 split at e
 .rename_i a i
  cases (show Rep κ F.β F.O H (.int i) w from f)
  cases (show Rep κ F.β F.O H (.str a) v from d)
  obtain⟨h,e⟩:a.length<=sizeLine/\((atI a.cps.toList i).map λ c=>Vl.v (.str ⟨#[c]⟩))=some z:=by
   by_cases h:a.length<=sizeLine
   .rw[Ab h]at e;exact⟨h,e⟩
   .rw[Ac h]at e;cases e
  cases q2:atI a.cps.toList i with
  |none=>rw[q2]at e;cases e
  |some c=>
   rw[q2]at e;cases e;exact⟨a,i,c,rfl,rfl,h,q2,k _ H Ext.refl ⟨b,.str _⟩⟩
 .cases e
def zr:F2:=qS oIxT (qS yV oIxS)
def Ob(a:X.K=κ.K):IxR X (λ x y H Q=>rIxT κ.K x y H Q\/(λ x y H Q=>rIxL κ.K x y H Q\/rIxS x y H Q) x y H Q):=by
 rw[<-a];exact ix_tup.or (ix_list.or Tj)
def Oc:OpSim κ (λ x y H Q=>rIxT κ.K x y H Q\/(λ x y H Q=>rIxL κ.K x y H Q\/rIxS x y H Q) x y H Q) zr:=sim_ixT.or (sim_ixL.or Vh)
noncomputable def oIsN(a:Bool):F2:=λ _ _ x y=>match x,y with
 |.x .non,.x .non=>some (.v (.bl (!a)))
 |.x (.loc _),_=>none
 |.x _,.x .non|.s _,.x .non=>some (.v (.bl a))
 |_,_=>none
def Vi(r:Rep κ F.β F.O H x v)(h:x≠ .non)(h2:∀n,x≠ .loc n):v≠ .non:=by
 cases r<;>first|(intro z;cases z;done)|(exact absurd rfl h)|(exact absurd rfl (h2 _))
def Vj(e:oIsN neg s h x y=some z)(b:RfR κ F H x v)(d:RfR κ F H y w):w=.non/\z=.v (.bl (if neg then !decide (v=.non) else decide (v=.non))):=by
 unfold oIsN at e
 split at e
 .cases e
  cases (show Rep κ F.β F.O H .non v from b)
  cases (show Rep κ F.β F.O H .non w from d)
  exact⟨rfl,by cases neg<;>simp⟩
 .cases e
 .rename_i x h1 h2
  cases e;cases (show Rep κ F.β F.O H .non w from d)
  have f:v≠ .non:=Vi (show Rep κ F.β F.O H x v from b) (λ z=>by subst z;exact h1 rfl) (λ n z=>by subst z;exact h2 n rfl)
  exact⟨rfl,by cases neg<;>simp[f]⟩
 .cases e
  cases (show Rep κ F.β F.O H .non w from d)
  obtain⟨a,c,_,h2,_⟩:=b;have f:v≠ .non:=by rw[h2];intro z;cases z
  exact⟨rfl,by cases neg<;>simp[f]⟩
 .cases e
def Kf:OpSim κ (λ x y H Q=>y=.non/\Q (.bl (!decide (x=.non))) H) (oIsN true):=λ F σ H x y z v w Q a b c e k=>by
 obtain⟨h1,rfl⟩:=Vj e b c;exact⟨h1,k _ H Ext.refl ⟨a,.bl _⟩⟩
end
inductive K3 where
 |f (a:V)|t (xs:List V3)|o
noncomputable def qw(h:H3):V3->K3
 |.non=>.f .non
 |.bl b=>.f (.bl b)
 |.int i=>.f (.int i)
 |.str x=>.f (.str x)
 |.tup xs=>.t xs
 |_=>.o
noncomputable def qc(f:V3->V3->Option Bool):List V3->List V3->Option Bool
 |x::xs,y::ys=>match f x y,qc f xs ys with
  |some a,some b=>some (a && b)
  |_,_=>none
 |_,_=>some true
noncomputable def zU(h:H3):Nat->V3->V3->Option Bool
 |0,x,y=>match qw h x,qw h y with
  |.f a,.f b=>some (eqV a b)
  |_,_=>none
 |n+1,x,y=>match qw h x,qw h y with
  |.f a,.f b=>some (eqV a b)
  |.t xs,.t ys=>(qc (zU h n) xs ys).map (· && xs.length==ys.length)
  |_,_=>none
section
variable{X:Cx}{κ:Kx}{E:XK}{F:Fr}{σ:L2.St}{H H':Hp}{Q:VK}{p:Addr}{pos:Pos}{i:Nat}
theorem Iz:∀{xs ys:List V3}{b:Bool},qc f xs ys=some b->(∀(j:Nat)(x y:V3),xs[j]? =some x->ys[j]? =some y->∃c,f x y=some c)/\b=(List.range (min xs.length ys.length)).all λ j=>((xs[j]?).bind λ x=>(ys[j]?).bind λ y=>f x y).getD false
 | [],ys,b,e=>by
  unfold qc at e;cases e;exact⟨λ j x y h=>by simp at h,by simp⟩
 |x::xs,[],b,e=>by
  unfold qc at e;cases e;exact⟨λ j x y _ h=>by simp at h,by simp⟩
 |x::xs,y::ys,b,e=>by
  unfold qc at e;cases q1:f x y with
  |none=>simp only[q1]at e;cases e
  |some a=>
   cases q2:qc f xs ys with
   |none=>simp only[q1,q2]at e;cases e
   |some c=>
    simp only[q1,q2]at e;cases e;obtain⟨h1,h2⟩:=Iz q2
    refine⟨λ j i k d g=>?_,?_⟩
    .cases j with
     |zero=>simp at d g;subst d;subst g;exact⟨a,q1⟩
     |succ j=>exact h1 j i k (by simpa using d) (by simpa using g)
    .rw[Ax,Ax,Nat.add_min_add_right,List.range_succ_eq_map,Fi,List.all_map]
     simp only[Ee,Gj,q1,Option.getD_some,h2,Function.comp_def,Dz]
def jX(b:RelH κ F.O F.β F.h H)(r:Rep κ F.β F.O H x v):match qw F.h x with
  |.f a=>v=a/\CP a=true
  |.t xs=> ∃a ys,v=.ref a/\H a=some (.tup ys)/\Reps κ F.β F.O H xs ys
  |.o=>True:=by
 cases r with
 |tup h1 h2 h3 h4=>exact⟨_,_,rfl,h1,h4⟩
 |_=>first|exact⟨rfl,rfl⟩|trivial
def Vals.at(r:Vals ys us)(h:j<us.toArray.size)(e:ys[j]? =some y):RelV y us.toArray[j]:=by
 obtain⟨u,h1,h2⟩:=r.get e;have:=(Ao.mp h1).2;have e1:us.toArray[j]=u:=by simpa using this
 rw[e1];exact h2
def Vk(d:∀{x y:V3} {v:V} {b:Bool},Rep κ F.β F.O H x v->Rep κ F.β F.O H y v->zU F.h n x y=some b->b=true):∀{xs ys:List V3}{vs:List V}{b:Bool},Reps κ F.β F.O H xs vs->Reps κ F.β F.O H ys vs->qc (zU F.h n) xs ys=some b->b=true:=by
 intro xs
 induction xs with
 |nil=>intro ys vs b _ _ e;unfold qc at e;cases e;rfl
 |cons x xs ihx=>
  intro ys vs b f g e;cases f with
  |cons a1 t1=>
   cases g with
   | @cons y _ ys _ a2 t2=>
    unfold qc at e;cases q1:zU F.h n x y with
    |none=>simp only[q1]at e;cases e
    |some a=>
     cases q2:qc (zU F.h n) xs ys with
     |none=>simp only[q1,q2]at e;cases e
     |some c=>
      simp only[q1,q2]at e;cases e;rw[d a1 a2 q1,ihx t1 t2 q2];rfl
def Od(h:CP a=true):eqV a a=true:=by cases a<;>simp[CP]at h<;>simp[eqV]
theorem Oe(d:RelH κ F.O F.β F.h H):∀(n:Nat){x y:V3}{v:V}{b:Bool},Rep κ F.β F.O H x v->Rep κ F.β F.O H y v->zU F.h n x y=some b->b=true
 |0,x,y,v,b,rx,ry,e=>by
  have kx:=jX d rx;have g:=jX d ry;unfold zU at e;cases h1:qw F.h x<;>cases h2:qw F.h y<;>simp only[h1,h2]at e kx g<;>try cases e
  obtain⟨e1,e2⟩:=kx;obtain⟨i,_⟩:=g;rw[<-e1,<-i];rw[<-e1]at e2;exact Od e2
 |n+1,x,y,v,b,rx,ry,e=>by
  have kx:=jX d rx;have g:=jX d ry;unfold zU at e;cases h1:qw F.h x<;>cases h2:qw F.h y<;>simp only[h1,h2]at e kx g<;>try cases e
  case f.f=>
   obtain⟨e1,e2⟩:=kx;obtain⟨i,_⟩:=g;rw[<-e1,<-i];rw[<-e1]at e2;exact Od e2
  case t.t xs ys=>
   obtain⟨a,us,i,o,j⟩:=kx;obtain⟨r,p,k,l,m⟩:=g;rw[i]at k;cases k;rw[o]at l;cases l;cases q:qc (zU F.h n) xs ys with
   |none=>rw[q]at e;cases e
   |some c=>
    rw[q]at e;cases e;rw[Vk (λ a b c=>Oe d n a b c) j m q,j.length,m.length]
    simp
def Of(e:RelV a v)(b:RelV c u)(h:CP a=true)(f:CP c=true):SeqAt.RcAt A s v u (eqV a c)/\SeqAt.RcNeAt A s v u (!eqV a c):=by
 cases a with
 |non=>
  cases e;cases c with
  |non=>cases b;exact⟨.none_none,.none_none⟩
  |bl c=>cases b;exact⟨.none_bool _,.none_bool _⟩
  |int c=>obtain⟨d,rfl⟩:=b;exact⟨.none_int _ _,.none_int _ _⟩
  |str c=>obtain⟨d,rfl⟩:=b;exact⟨.none_str _ _,.none_str _ _⟩
  |_=>exact absurd (show false=true from f) Bk
 |bl a=>
  cases e;cases c with
  |non=>cases b;exact⟨.bool_none _,.bool_none _⟩
  |bl c=>cases b;exact⟨.bool_bool _ _,.bool_bool _ _⟩
  |int c=>obtain⟨d,rfl⟩:=b;exact⟨.bool_int _ _ _,.bool_int _ _ _⟩
  |str c=>obtain⟨d,rfl⟩:=b;exact⟨.bool_str _ _ _,.bool_str _ _ _⟩
  |_=>exact absurd (show false=true from f) Bk
 |int a=>
  obtain⟨g,rfl⟩:=e;cases c with
  |non=>cases b;exact⟨.int_none _ _,.int_none _ _⟩
  |bl c=>cases b;exact⟨.int_bool _ _ _,.int_bool _ _ _⟩
  |int c=>obtain⟨d,rfl⟩:=b;exact⟨.int_int _ _ _ _,.int_int _ _ _ _⟩
  |str c=>obtain⟨d,rfl⟩:=b;exact⟨.int_str _ _ _ _,.int_str _ _ _ _⟩
  |_=>exact absurd (show false=true from f) Bk
 |str a=>
  obtain⟨g,rfl⟩:=e;cases c with
  |non=>cases b;exact⟨.str_none _ _,.str_none _ _⟩
  |bl c=>cases b;exact⟨.str_bool _ _ _,.str_bool _ _ _⟩
  |int c=>obtain⟨d,rfl⟩:=b;exact⟨.str_int _ _ _ _,.str_int _ _ _ _⟩
  |str c=>obtain⟨d,rfl⟩:=b;exact⟨.str_str _ _ _ _,.str_str _ _ _ _⟩
  |_=>exact absurd (show false=true from f) Bk
 |_=>exact absurd (show false=true from h) Bk
def ans(h:H3)(n:Nat)(xs ys:List V3)(j:Nat):Bool:=((xs[j]?).bind λ x=>(ys[j]?).bind λ y=>zU h n x y).getD false
def Og(w:∀{x y:V3} {l m:V} {v u:Value} {b:Bool},Rep κ F.β F.O H x l->Rep κ F.β F.O H y m->RelV l v->RelV m u->zU F.h n x y=some b->SeqAt.EqAt A s v u b)(o:Reps κ F.β F.O H xs us)(p:Reps κ F.β F.O H ys ws)(r:Vals us vs)(t:Vals ws zs)(q:qc (zU F.h n) xs ys=some c)(j:Nat)(h1:j<vs.toArray.size)(h2:j<zs.toArray.size):SeqAt.EqAt A s vs.toArray[j] zs.toArray[j] (ans F.h n xs ys j):=by
 have z:=o.length;have B:=p.length;have C:=r.length;have D:=t.length;have a:j<xs.length:=by rw[z,C];simpa using h1
 have e:j<ys.length:=by rw[B,D];simpa using h2
 obtain⟨G,f,g⟩:=o.get (zX a);obtain⟨I,i,k⟩:=p.get (zX e);obtain⟨d,hd⟩:=(Iz q).1 j _ _ (zX a) (zX e);have E:ans F.h n xs ys j=d:=by unfold ans;rw[zX a,zX e];simp[hd]
 rw[E];exact w g k (Vals.at r h1 f) (Vals.at t h2 i) hd
def Kg(g:RelH κ F.O F.β F.h H):∀(n:Nat){pins:AL}{s:Shared}{x y:V3}{m o:V}{v u:Value}{b:Bool}{A:Around},Inv X pins σ H s->Rep κ F.β F.O H x m->Rep κ F.β F.O H y o->RelV m v->RelV o u->zU F.h n x y=some b->A.units+n<cLine->
  (SeqAt.RcAt A s v u b/\SeqAt.RcNeAt A s v u (!b))/\SeqAt.EqAt A s v u b:=by
 intro n
 induction n with
 |zero=>
  intro pins s x y m o v u b A I p r i j e J;have kx:=jX g p;have k:=jX g r;unfold zU at e;cases h1:qw F.h x<;>cases h2:qw F.h y<;>simp only[h1,h2]at e kx k<;>try cases e
  obtain⟨e1,e2⟩:=kx;obtain⟨w,l⟩:=k;subst e1;subst w;exact⟨Of i j e2 l,Nr i j e2 l⟩
 |succ n ih=>
  intro pins s x y m o v u b A I p r i j e J;have kx:=jX g p;have k:=jX g r;have L:=e;unfold zU at e;cases h1:qw F.h x<;>cases h2:qw F.h y<;>simp only[h1,h2]at e kx k<;>try cases e
  case succ.f.f.refl=>
   obtain⟨e1,e2⟩:=kx;obtain⟨w,l⟩:=k;subst e1;subst w;exact⟨Of i j e2 l,Nr i j e2 l⟩
  case succ.t.t xs ys=>
   obtain⟨a,us,rfl,M,C⟩:=kx;obtain⟨B,N,rfl,P,D⟩:=k
   suffices h:SeqAt.RcAt A s v u b/\SeqAt.RcNeAt A s v u (!b) by
    refine⟨h,?_⟩
    cases i;cases j
    by_cases z:a=B
    .subst z
     rw[Oe g (n+1) p r L];exact SeqAt.EqAt.same _
    .exact SeqAt.EqAt.of_refs z h.1
   cases i;cases j;obtain⟨vs,i,pl,_⟩:=I.tuple (SqT.of (K:=X.K) M);obtain⟨zs,E,G,_⟩:=I.tuple (SqT.of (K:=X.K) P);have Q:=C.length;have R:=D.length;have S:=i.length;have T:=E.length;cases q:qc (zU F.h n) xs ys with
   |none=>rw[q]at e;cases e
   |some c=>
    rw[q]at e;have U:b=((List.range (min vs.toArray.size zs.toArray.size)).all (ans F.h n xs ys) && vs.toArray.size==zs.toArray.size):=by
     cases e;rw[(Iz q).2,Aq,Aq,<-S,<-T,<-Q,<-R];rfl
    rw[U];have it:=Og (A:=A.in1) (λ a b c d e=>(ih I a b c d e (by show A.units+1+n<cLine;lia)).2) C D i E q
    exact⟨.tuples (show s.heap.IsTuple a vs.toArray from pl) (show s.heap.IsTuple B zs.toArray from G) (by lia) it,.tuples (show s.heap.IsTuple a vs.toArray from pl) (show s.heap.IsTuple B zs.toArray from G) (by lia) it⟩
def j9(s:S3)(h:H3)(x y:Rf):Option Bool:=match rdm s h x,rdm s h y with
 |some xs,some ys=>if xs.length=ys.length then qc (zU h 8) xs ys else some false
 |_,_=>match x,y with
  |.x a,.x b=>zU h 9 a b
  |_,_=>none
def qq:F2:=λ s h x y=>(j9 s h x y).map λ b=>.v (.bl b)
def yq:F2:=λ s h x y=>(j9 s h x y).map λ b=>.v (.bl !b)
def rEqT(κ:Kx)(a:Bool):R2:=λ v w H Q=> ∃F σ x y b,Rel κ F σ H/\RfR κ F H x v/\RfR κ F H y w/\j9 F.s F.h x y=some b/\Q (.bl (if a then !b else b)) H
def Oh(I:Inv X pins σ' H s)(i:Rel κ F σ H)(l:RfR κ F H x v')(m:RfR κ F H y u')(j:RelV v' v)(n:RelV u' u)(e:j9 F.s F.h x y=some b)(r:A.units+9<cLine):
  SeqAt.RcAt A s v u b/\SeqAt.RcNeAt A s v u (!b):=by
 unfold j9 at e
 split at e
 .rename_i xs ys q1 q2
  obtain⟨a,us,rfl,t,o⟩:=CZ i l q1;obtain⟨E,w,rfl,z,p⟩:=CZ i m q2;cases j;cases n;obtain⟨vs,j,pl,_⟩:=I.list (SqL.of (K:=X.K) t);obtain⟨zs,q,k,_⟩:=I.list (SqL.of (K:=X.K) z);have B:=o.length;have G:=p.length;have C:=j.length;have J:=q.length
  by_cases hl:xs.length=ys.length
  .rw[Ab hl]at e
   have f:vs.toArray.size=zs.toArray.size:=by rw[Aq,Aq];lia
   have D:b=(List.range vs.toArray.size).all (ans F.h 8 xs ys):=by
    rw[(Iz e).2,<-hl,Nat.min_self,Aq,<-C,<-B];rfl
   have g:=Og (A:=A.in1) (λ a b c d e=>(Kg i.heap 8 I a b c d e (by show A.units+1+8<cLine;lia)).2) o p j q e
   rw[D];exact⟨.lists pl.isList k.isList f (by lia) g,.lists pl.isList k.isList f (by lia) g⟩
  .rw[Ac hl]at e;cases e
   have f:(vs.toArray.size !=zs.toArray.size)=true:=by rw[Aq,Aq];simp;lia
   exact⟨.lists_lengths pl.isList k.isList f (by lia),.lists_lengths pl.isList k.isList f (by lia)⟩
 .split at e
  .exact (Kg i.heap 9 I (show Rep κ F.β F.O H _ v' from l) (show Rep κ F.β F.O H _ u' from m) j n e r).1
  .cases e
def jx(c:X.A.units+9<cLine):OpR X (compareOp .Eq) (rEqT κ false):=by
 intro pins s σ H x y v u Q I d f h;obtain⟨F,σ',x3,y3,b,a,g,i,e,q⟩:=h;exact (Oh I a g i d f e c).1 X.prog X.w X.xe _ ⟨.bl b,H,I,rfl,q⟩
def j3(c:X.A.units+9<cLine):OpR X (compareOp .NotEq) (rEqT κ true):=by
 intro pins s σ H x y v u Q I d f h;obtain⟨F,σ',x3,y3,b,a,g,i,e,q⟩:=h;exact (Oh I a g i d f e c).2 X.prog X.w X.xe _ ⟨.bl !b,H,I,rfl,q⟩
def jB:OpSim κ (rEqT κ false) qq:=λ F σ H x y z v w Q a c d e k=>by
 unfold qq at e;cases q:j9 F.s F.h x y with
 |none=>rw[q]at e;cases e
 |some b=>rw[q]at e;cases e;exact⟨F,σ,x,y,b,a,c,d,q,k _ H Ext.refl ⟨a,.bl _⟩⟩
def Qb:OpSim κ (rEqT κ true) yq:=λ F σ H x y z v w Q a c d e k=>by
 unfold yq at e;cases q:j9 F.s F.h x y with
 |none=>rw[q]at e;cases e
 |some b=>rw[q]at e;cases e;exact⟨F,σ,x,y,b,a,c,d,q,k _ H Ext.refl ⟨a,.bl _⟩⟩
end
section
variable{X:Cx}{κ:Kx}{E:XK}{F:Fr}{σ:L2.St}{H H':Hp}{Q:VK}{p:Addr}{pos np:Pos}{i:Nat}{x:Str}{e:Expr}{es:List Expr}{t:A3}
def r_b{id:String}{r:List V->Hp->VK->Prop}{f:FB}(hs:j6 κ r f)(c:qH X (.builtin id) r)(d:Gl X x)(g:X.mg x=none)(i:bootBuiltins x=some (.builtin id))(j:PA X (e::es) (zI κ E t))(k:x≠"__name__" :=by decide)(a:(x==("__debug__" :Str))=false:=by decide)
 (l:SE X e es:=by rfl) (b:BA X pos es:=by rfl):PE X (.Call (.Name x np) (e::es) [] pos) (zi κ E (eB f t)):=yQ (SZ c d g i j k a l b) λ _ _ _ h=>te_b hs h
def r_ty(hs:j6 κ r f)(c:qH X (.type T) r)(d:Gl X x)(g:X.mg x=none)(i:bootBuiltins x=some (.type T))(j:PA X (e::es) (zI κ E t))(k:x≠"__name__" :=by decide)(a:(x==("__debug__" :Str))=false:=by decide)
 (l:SE X e es:=by rfl) (b:BA X pos es:=by rfl):PE X (.Call (.Name x np) (e::es) [] pos) (zi κ E (eB f t)):=yQ (Ta c d g i j k a l b) λ _ _ _ h=>te_b hs h
def p1(r:Paired (RfR κ F H) [f] vs):∃v,vs=[v]/\RfR κ F H f v:=by
 cases r with|cons a t=>cases t;exact⟨_,rfl,a⟩
def p2(r:Paired (RfR κ F H) [f,g] vs):∃v w,vs=[v,w]/\RfR κ F H f v/\RfR κ F H g w:=by
 cases r with|cons a t=>cases t with|cons b t=>cases t;exact⟨_,_,rfl,a,b⟩
def bLen:FB:=λ s h fs=>match fs with
 | [.x (.str y)]=>if y.length<=sizeLine then some (.v (.int y.length)) else none
 | [.x (.tup xs)]=>some (.v (.int xs.length))
 | [f]=>(rdl s h f).map λ xs=>.v (.int xs.length)
 |_=>none
def jy:j6 κ (λ xs H Q=> ∃x n,xs=[x]/\LenV κ.K x H n/\Q (.int n) H) bLen:=λ F σ H fs z vs Q b r e k=>by
 unfold bLen at e
 split at e
 .rename_i y
  obtain⟨v,rfl,c⟩:=p1 r;cases (show Rep κ F.β F.O H (.str y) v from c)
  obtain⟨h,rfl⟩:=jt e;exact⟨_,_,rfl,⟨h,rfl⟩,k _ H Ext.refl ⟨b,.int _⟩⟩
 .rename_i xs
  obtain⟨v,rfl,c⟩:=p1 r;cases e;cases (show Rep κ F.β F.O H (.tup xs) v from c) with
  |tup h1 h2 h3 h4=>exact⟨_,_,rfl,.inr ⟨_,.of h1,rfl⟩,k _ H Ext.refl ⟨b,by rw[h4.length];exact .int _⟩⟩
 .rename_i f _ _
  obtain⟨v,rfl,c⟩:=p1 r;cases q:rdl F.s F.h f with
  |none=>rw[q]at e;cases e
  |some xs=>
   rw[q]at e;cases e;obtain⟨a,ys,rfl,d,g⟩:=Qg b c q;exact⟨_,_,rfl,.inl ⟨_,d,rfl⟩,k _ H Ext.refl ⟨b,by rw[g.length];exact .int _⟩⟩
 .cases e
def jC(a:X.K=κ.K):qH X (.builtin "len") (λ xs H Q=> ∃x n,xs=[x]/\LenV κ.K x H n/\Q (.int n) H):=by rw[<-a];exact S6
noncomputable def bMax:FB:=λ _ _ fs=>match fs with
 | [.x (.int i),.x (.int j)]=>some (.v (.int (max i j)))
 |_=>none
noncomputable def bMin:FB:=λ _ _ fs=>match fs with
 | [.x (.int i),.x (.int j)]=>some (.v (.int (min i j)))
 |_=>none
noncomputable def bMin3:FB:=λ _ _ fs=>match fs with
 | [.x (.int i),.x (.int j),.x (.int k)]=>some (.v (.int (min i (min j k))))
 |_=>none
def FW:j6 κ (λ xs H Q=> ∃i j,xs=[.int i,.int j]/\Q (.int (if j > i then j else i)) H) bMax:=λ F σ H fs z vs Q a r e k=>by
 unfold bMax at e
 split at e
 .rename_i i j
  cases e;obtain⟨v,w,rfl,c,b⟩:=p2 r;cases (show Rep κ F.β F.O H (.int i) v from c)
  cases (show Rep κ F.β F.O H (.int j) w from b)
  refine⟨i,j,rfl,k _ H Ext.refl ⟨a,?_⟩⟩
  have:(if j > i then j else i)=max i j:=by split<;>lia
  rw[this];exact .int _
 .cases e
def IA:j6 κ (λ xs H Q=> ∃i j,xs=[.int i,.int j]/\Q (.int (if j<i then j else i)) H) bMin:=λ F σ H fs z vs Q a r e k=>by
 unfold bMin at e
 split at e
 .rename_i i j
  cases e;obtain⟨v,w,rfl,c,b⟩:=p2 r;cases (show Rep κ F.β F.O H (.int i) v from c)
  cases (show Rep κ F.β F.O H (.int j) w from b)
  refine⟨i,j,rfl,k _ H Ext.refl ⟨a,?_⟩⟩
  have:(if j<i then j else i)=min i j:=by split<;>lia
  rw[this];exact .int _
 .cases e
noncomputable def bInt:FB:=λ _ _ fs=>match fs with
 | [.x (.int i)]=>some (.v (.int i))
 | [.x (.bl b)]=>some (.v (.int (if b then 1 else 0)))
 |_=>none
def bList:FB:=λ s h fs=>match fs with
 | [.x (.tup xs)]=>some (.m (.lst xs))
 | [f]=>(rdl s h f).map λ xs=>.m (.lst xs)
 |_=>none
def FX:j6 κ (λ xs H Q=> ∃p ys,xs=[.ref p]/\(SqL κ.K H p ys\/SqT κ.K H p ys)/\∀l,H l=none->Q (.ref l) (zk H l (.lst ys))) bList:=λ F σ H fs z vs Q b r e k=>by
 unfold bList at e
 split at e
 .rename_i xs
  cases e;obtain⟨v,rfl,d⟩:=p1 r;cases (show Rep κ F.β F.O H (.tup xs) v from d) with
  |tup h1 h2 h3 h4=>exact⟨_,_,rfl,.inr (.of h1),λ l c=>k _ _ (qy c) (Post.lst b c h4)⟩
 .rename_i f _
  obtain⟨v,rfl,d⟩:=p1 r;cases q:rdl F.s F.h f with
  |none=>rw[q]at e;cases e
  |some xs=>
   rw[q]at e;cases e;obtain⟨a,ys,rfl,g,i⟩:=Qg b d q;exact⟨_,_,rfl,.inl g,λ l c=>k _ _ (qy c) (Post.lst b c i)⟩
 .cases e
noncomputable def zG{α β:Type}(f:α->Option β):List α->Option (List β)
 | []=>some []
 |x::r=>match f x,zG f r with
  |some y,some l=>some (y::l)
  |_,_=>none
theorem DA{α β a:Type}{f:α->Option β}{g:a->α}{k:a->β}(h:∀c,f (g c)=some (k c)):∀l:List a,zG f (l.map g)=some (l.map k)
 | []=>rfl
 |x::r=>by simp only[Ah,zG,h x,DA h r]
def FY{α β:Type}{f:α->Option β}{x:α}{r:List α}{l:List β}(e:zG f (x::r)=some l):∃y a,f x=some y/\zG f r=some a/\l=y::a:=by
 unfold zG at e;cases q1:f x with
 |none=>simp only[q1]at e;cases e
 |some y=>
  cases q2:zG f r with
  |none=>simp only[q1,q2]at e;cases e
  |some a=>simp only[q1,q2]at e;cases e;exact⟨y,a,rfl,rfl,rfl⟩
def bl3:V3->Option Bool
 |.bl b=>some b
 |_=>none
def int3:V3->Option Int
 |.int i=>some i
 |_=>none
theorem Oj:∀{xs:List V3}{ys:List V}{bs:List Bool},Reps κ F.β F.O H xs ys->zG bl3 xs=some bs->ys=bs.map V.bl
 |_,_,_,.nil,e=>by cases e;rfl
 |x::xs,y::ys,bs,.cons a r,e=>by
  obtain⟨b,l,h1,h2,rfl⟩:=FY e;cases x<;>simp[bl3]at h1
  subst h1;cases a;rw[Ah,Oj r h2]
theorem Kh:∀{xs:List V3}{ys:List V}{bs:List Int},Reps κ F.β F.O H xs ys->zG int3 xs=some bs->ys=bs.map V.int
 |_,_,_,.nil,e=>by cases e;rfl
 |x::xs,y::ys,bs,.cons a r,e=>by
  obtain⟨b,l,h1,h2,rfl⟩:=FY e;cases x<;>simp[int3]at h1
  subst h1;cases a;rw[Ah,Kh r h2]
def bAll(q:List Bool->Bool):FB:=λ s h fs=>match fs with
 | [f]=>match rdl s h f with
  |some xs=>(zG bl3 xs).map λ bs=>.v (.bl (q bs))
  |none=>none
 |_=>none
def Ki:j6 κ (λ xs H Q=> ∃(p:Addr)(bs:List Bool),xs=[.ref p]/\SqL κ.K H p (bs.map V.bl)/\Q (.bl (q bs)) H) (bAll q):=λ F σ H fs z vs Q b r e k=>by
 unfold bAll at e
 split at e
 .rename_i f
  obtain⟨v,rfl,c⟩:=p1 r;cases q1:rdl F.s F.h f with
  |none=>rw[q1]at e;cases e
  |some xs=>
   rw[q1]at e;cases q2:zG bl3 xs with
   |none=>simp only[q2]at e;cases e
   |some bs=>
    simp only[q2]at e;cases e;obtain⟨a,ys,rfl,d,g⟩:=Qg b c q1;exact⟨a,bs,rfl,by rw[<-Oj g q2];exact d,k _ H Ext.refl ⟨b,.bl _⟩⟩
 .cases e
def Ol(a:X.K=κ.K)(b:X.calm=true):qH X (.builtin "all") (λ xs H Q=> ∃(p:Addr)(bs:List Bool),xs=[.ref p]/\SqL κ.K H p (bs.map V.bl)/\Q (.bl (bs.all id)) H):=by rw[<-a];exact TK b
def Vm(a:X.K=κ.K)(b:X.calm=true):qH X (.builtin "any") (λ xs H Q=> ∃(p:Addr)(bs:List Bool),xs=[.ref p]/\SqL κ.K H p (bs.map V.bl)/\Q (.bl (bs.any id)) H):=by rw[<-a];exact TL b
def FZ(a:X.K=κ.K):qH X (.type "list") (λ xs H Q=> ∃p ys,xs=[.ref p]/\(SqL κ.K H p ys\/SqT κ.K H p ys)/\∀l,H l=none->Q (.ref l) (zk H l (.lst ys))):=by rw[<-a];exact Tq
instance {x:Int}:Decidable (InLong x):=inferInstanceAs (Decidable (_/\_))
noncomputable def jU:Int->List Int->Bool
 |_,[]=>true
 |a,x::r=>decide (InLong x) && decide (InLong (a+x)) && jU (a+x) r
theorem Om:∀{ns:List Int}{a:Int},jU a ns=true->∀j,j<ns.length->InLong (ns.getD j 0)/\InLong (a+(ns.take (j+1)).sum)
 | [],_,_,j,h=>by simp at h
 |x::r,a,e,j,h=>by
  simp only[jU,Be,Cv]at e;cases j with
  |zero=>simpa using e.1
  |succ j=>
   have:=Om (a:=a+x) e.2 j (by simpa using h)
   rw[List.take_succ_cons,List.sum_cons,<-Int.add_assoc];simpa using this
def zW:FB:=λ s h fs=>match fs with
 | [f]=>match rdl s h f with
  |some xs=>match zG int3 xs with
   |some ns=>if jU 0 ns=true then some (.v (.int ns.sum)) else none
   |none=>none
  |none=>none
 |_=>none
def DX:j6 κ (λ xs H Q=> ∃(p:Addr)(ns:List Int),xs=[.ref p]/\SqL κ.K H p (ns.map V.int)/\JT ns/\Q (.int ns.sum) H) zW:=λ F σ H fs z vs Q b r e k=>by
 unfold zW at e
 split at e
 .rename_i f
  obtain⟨v,rfl,c⟩:=p1 r;cases q1:rdl F.s F.h f with
  |none=>rw[q1]at e;cases e
  |some xs=>
   rw[q1]at e;cases q2:zG int3 xs with
   |none=>simp only[q2]at e;cases e
   |some bs=>
    simp only[q2]at e;obtain⟨h,rfl⟩:=jt e;obtain⟨a,ys,rfl,d,g⟩:=Qg b c q1;exact⟨a,bs,rfl,by rw[<-Kh g q2];exact d,λ j i=>by have:=Om h j i;rw[Ej]at this;exact this,k _ H Ext.refl ⟨b,.int _⟩⟩
 .cases e
def DY(a:X.K=κ.K)(b:X.calm=true):qH X (.builtin "sum") (λ xs H Q=> ∃(p:Addr)(ns:List Int),xs=[.ref p]/\SqL κ.K H p (ns.map V.int)/\JT ns/\Q (.int ns.sum) H):=by rw[<-a];exact TM b
def ty3(s:S3)(h:H3):Rf->Option String
 |.x .non=>some "NoneType"
 |.x (.bl _)=>some "bool"
 |.x (.int _)=>some "int"
 |.x (.str _)=>some "str"
 |.x (.tup _)=>some "tuple"
 |.x (.scr _)=>none
 |f=>(rdl s h f).map λ _=>"list"
noncomputable def isa(t T:String):Option Bool:=
 if T="int" then some (t=="int" || t=="bool") else if T="bool" \/T="str" \/T="list" \/T="tuple" then some (t==T) else none
def bIsT:FB:=λ s h fs=>match fs with
 | [f,.x (.ty T)]=>match ty3 s h f with
  |some t=>(isa t T).map λ b=>.v (.bl b)
  |none=>none
 |_=>none
def Vn{K:FG}{t T:String}{b:Bool}(a:t∈["NoneType","bool","int","str","tuple","list"])(e:isa t T=some b):PySem.W.kitOne K (.type t) (.type T)=some b:=by
 unfold isa at e;have c:T∈["int","bool","str","list","tuple"]:=by
  by_cases h:T="int"
  .simp[h]
  .rw[Ac h]at e
   by_cases h2:T="bool" \/T="str" \/T="list" \/T="tuple"
   .simp only[Af,Bt,Bn];exact .inr h2
   .rw[Ac h2]at e;cases e
 simp only[Af,Bt,Bn]at a c
 rcases a with rfl|rfl|rfl|rfl|rfl|rfl<;>rcases c with rfl|rfl|rfl|rfl|rfl<;>(simp at e;subst e;rfl)
def Vo{f:Rf}{v:V}{t:String}(c:Rel κ F σ H)(r:RfR κ F H f v)(e:ty3 F.s F.h f=some t):t∈["NoneType","bool","int","str","tuple","list"]/\TyOf κ.K H v (.type t):=by
 have lists:∀{f:Rf}{v:V}{t:String},RfR κ F H f v->(∀ns,f≠ .x (.scr ns))->((rdl F.s F.h f).map λ _=>"list")=some t->t∈["NoneType","bool","int","str","tuple","list"]/\TyOf κ.K H v (.type t):=by
  intro f v t r d e;cases q:rdl F.s F.h f with
  |none=>rw[q]at e;cases e
  |some xs=>
   rw[q]at e;cases e;have q2:rdm F.s F.h f=some xs:=by
    unfold rdm
    split
    .rename_i ns;exact absurd rfl (d ns)
    .exact q
   obtain⟨a,ys,rfl,g,_⟩:=CZ c r q2;exact⟨by simp,.lst g⟩
 cases f with
 |s i=>exact lists r (λ _ z=>nomatch z) e
 |x y=>
  cases y with
  |non=>cases e;cases (show Rep κ F.β F.O H .non v from r);exact⟨by simp,.non⟩
  |bl b=>cases e;cases (show Rep κ F.β F.O H (.bl b) v from r);exact⟨by simp,.bl b⟩
  |int b=>cases e;cases (show Rep κ F.β F.O H (.int b) v from r);exact⟨by simp,.int b⟩
  |str b=>cases e;cases (show Rep κ F.β F.O H (.str b) v from r);exact⟨by simp,.str b⟩
  |tup xs=>cases e;cases (show Rep κ F.β F.O H (.tup xs) v from r) with|tup h1 _ _ _=>exact⟨by simp,.tup h1⟩
  |scr ns=>cases e
  |lst xs|loc n=>exact lists r (λ _ z=>nomatch z) e
  |_=>cases e
def BX:j6 κ (λ xs H Q=> ∃x T t b,xs=[x,.ty T]/\TyOf κ.K H x t/\PySem.W.kitOne κ.K t (.type T)=some b/\Q (.bl b) H) bIsT:=λ F σ H fs z vs Q a r e k=>by
 unfold bIsT at e
 split at e
 .rename_i f T
  obtain⟨v,w,rfl,d,c⟩:=p2 r;cases (show Rep κ F.β F.O H (.ty T) w from c)
  cases q1:ty3 F.s F.h f with
  |none=>rw[q1]at e;cases e
  |some t=>
   rw[q1]at e;cases q2:isa t T with
   |none=>simp only[q2]at e;cases e
   |some b=>
    simp only[q2]at e;cases e;obtain⟨h1,h2⟩:=Vo a d q1;exact⟨v,T,_,b,rfl,h2,Vn h1 q2,k _ H Ext.refl ⟨a,.bl _⟩⟩
 .cases e
def BY(a:X.K=κ.K):qH X (.builtin "isinstance") (λ xs H Q=> ∃x T t b,xs=[x,.ty T]/\TyOf κ.K H x t/\PySem.W.kitOne κ.K t (.type T)=some b/\Q (.bl b) H):=by rw[<-a];exact TJ
def tru3(s:S3)(h:H3):Rf->Option Bool
 |.x .non=>some false
 |.x (.bl b)=>some b
 |.x (.int i)=>some (i !=0)
 |.x (.str y)=>if y.length<=sizeLine then some ((y.length:Int) !=0) else none
 |.x (.tup xs)=>some (!xs.isEmpty)
 |f=>(rdl s h f).map λ xs=> !xs.isEmpty
def tP(p:P3):T3:=λ s h=>(p s h).bind λ f h1=>match tru3 s h1 f with
 |some b=>.ok b h1
 |none=>.no
def On(r:Reps κ F.β F.O H xs ys):xs.isEmpty=ys.isEmpty:=by cases r<;>rfl
def Vp(c:Rel κ F σ H)(r:RfR κ F H f v)(e:tru3 F.s F.h f=some b):TruV κ.K v H b:=by
 have lists:∀{f:Rf}{v:V}{b:Bool},RfR κ F H f v->((rdl F.s F.h f).map λ xs=> !xs.isEmpty)=some b->TruV κ.K v H b:=by
  intro f v b r e;cases q:rdl F.s F.h f with
  |none=>rw[q]at e;cases e
  |some xs=>
   rw[q]at e;cases e;obtain⟨a,ys,rfl,d,g⟩:=Qg c r q;exact .inl ⟨ys,d,by show (!xs.isEmpty)=_;rw[On g]⟩
 cases f with
 |s i=>exact lists r e
 |x y=>
  cases y with
  |non=>cases e;cases (show Rep κ F.β F.O H .non v from r);rfl
  |bl b=>cases e;cases (show Rep κ F.β F.O H (.bl b) v from r);rfl
  |int b=>cases e;cases (show Rep κ F.β F.O H (.int b) v from r);rfl
  |str b=>cases (show Rep κ F.β F.O H (.str b) v from r);obtain⟨h,rfl⟩:=jt e;exact⟨h,rfl⟩
  |tup xs=>cases e;cases (show Rep κ F.β F.O H (.tup xs) v from r) with|tup h1 _ _ h4=>exact .inr ⟨_,.of h1,by rw[On h4]⟩
  |scr ns|lst xs|loc n=>exact lists r e
  |_=>cases e
def IB(i:X.K=κ.K)(j:PE X a (zh κ E d))(k:∀c,isTrue a X.env c=(do let v <-c;standAt a.pos;holding [v] (truthy v)):=by intro _;rfl):PT X a (zQ κ E (tP d)):=PTw (S5 j k) λ σ H Q ⟨F,h,o⟩=>
 yu (K:=kP κ) km_T h o λ v H1 g h1 f e1 e o1=>by
  cases q:tru3 F.s h1 f with
  |none=>simp only[q]at o1;exact o1.elim
  |some b=>
   simp only[q]at o1;exact⟨b,by rw[i];exact Vp (F:=F.to g h1) e.1 e.2 q,o1 g b H1 Ext.refl ⟨rfl,e.1⟩⟩
noncomputable def GA(ns:List Int):List Int:=ns.mergeSort (λ a b=>decide (a<=b))
def BD(ns:List Int):(GA ns).Perm ns/\(GA ns).Pairwise (λ a b=>a<=b):=by
 refine⟨List.mergeSort_perm _ _,?_⟩
 have:=List.pairwise_mergeSort (le:=λ a b:Int=>decide (a<=b)) (λ a b c h1 h2=>by simp at*;lia) (λ a b=>by simp;lia) ns
 exact this.imp λ h=>by simpa using h
theorem Oo:∀l:List Int,Reps κ F.β F.O H (l.map V3.int) (l.map V.int)
 | []=>.nil
 |x::r=>.cons (.int x) (Oo r)
end
section
variable{X:Cx}{κ:Kx}{E:XK}{F F1 F2 F':Fr}{σ σ':L2.St}{H H1 H2 H':Hp}{Q:VK}{p:Addr}{e a b o:Expr}{pos apos np:Pos}{i:Nat}{D:Ends}
def qV(a:A3):I3:=λ s h=>(a s h).bind λ fs h1=>match fs with
 | [.x (.int j)]=>if -(2 ^ 62)<=j/\j<2 ^ 62 then .ok ⟨[],(List.range j.toNat).map λ k=>.int (0+(k:Nat)),λ _=>True⟩ h1 else .no
 |_=>.no
def Vq{lo:Int}{n:Nat}:IR κ ⟨[],(List.range n).map λ k=>.int (lo+(k:Nat)),λ _=>True⟩ [] (Itr lo n):=λ F σ H a _ _ i=>by
 have el:((List.range n).map λ k=>V3.int (lo+(k:Nat))).length=n:=by simp
 refine⟨λ hi=>⟨show i<n by rw[el]at hi;exact hi,λ x H' ⟨e1,e2⟩=>?_⟩,λ hi=>show n<=i by rw[el]at hi;exact hi⟩
 subst e1;subst e2;have hi:i<n:=by simpa using hi
 exact⟨.int (lo+i),by simp[hi],Ext.refl,a,.int _⟩
def AF(f:Gl X "range")(g:X.mg "range" =none)(h:PA X [a] (zI κ E t))(hs:starEach [a] X.env=[(false,eval a X.env)]:=by rfl):PI X tg (.Call (.Name "range" np) [a] [] pos) (yG κ E (qV t)):=PIw (Sl f g h hs) λ σ H R ⟨F,c,o⟩=>
 yu (K:=kA κ) km_I c o λ vs H1 b h1 fs e1 d o1=>by
  obtain⟨i,e⟩:=d
  match fs,e,o1 with
  | [.x (.int j)],e,o1=>
   obtain⟨v,rfl,k⟩:=p1 e;cases (show Rep κ b F.O H1 (.int j) v from k)
   by_cases hj: -(2 ^ 62)<=j/\j<2 ^ 62
   .simp only[Ab hj]at o1
    exact⟨j,rfl,hj.1,hj.2,o1 b _ H1 Ext.refl ⟨i,[],.nil,Vq⟩⟩
   .simp only[Ac hj]at o1;exact o1.elim
def AG(a:A3):I3:=λ s h=>(a s h).bind λ fs h1=>match fs with
 | [.x x]=>match yL h1 x with
  |some (xs,ok)=>.ok ⟨[x],(List.range xs.length).map λ k=>.tup [.int (k:Nat),xs.getD k .non],ok⟩ h1
  |none=>.no
 |_=>.no
def Kj(a:A3):I3:=λ s h=>(a s h).bind λ fs h1=>match fs with
 | [.x x,.x y]=>match yL h1 x,yL h1 y with
  |some (xs,ok),some (ys,ok')=>.ok ⟨[x,y],(xs.zip ys).map λ q=>.tup [q.1,q.2],λ h=>ok h/\ok' h⟩ h1
  |_,_=>.no
 |_=>.no
def Rel.tup2(a:Rel κ F σ H)(b:H T=none)(c:Rep κ F.β F.O H x v)(d:Rep κ F.β F.O H y w):Ext No F.β H F.β (zk H T (.tup [v,w]))/\Rel κ F σ (zk H T (.tup [v,w]))/\Rep κ F.β F.O (zk H T (.tup [v,w])) (.tup [x,y]) (.ref T):=by
 have q:=Post.tup (N:=No) a b (.cons c (.cons d .nil));exact⟨qy b,q.1,q.2⟩
def IC {x1} (r:X.K=κ.K) (s:Gl X "enumerate") (u:X.mg "enumerate" =none) (A:PA X [a] (zI κ E t)) (hs:starEach [a] X.env=[(false,eval a X.env)]:=by rfl):PI X (.Tuple elts x1 tp) (.Call (.Name "enumerate" np) [a] [] pos) (yG κ E (AG t)):=PIw (UO s u A hs) λ σ H R ⟨F,j,o⟩=>
 yu (K:=kA κ) km_I j o λ vs H1 d h1 fs e1 l o1=>by
  obtain⟨n,m⟩:=l
  match fs,m,o1 with
  | [.x x],m,o1=>
   obtain⟨v,rfl,h⟩:=p1 m;have h:Rep κ d F.O H1 x v:=h;cases q:yL h1 x with
   |none=>simp only[q]at o1;exact o1.elim
   |some w=>
    obtain⟨xs,ok⟩:=w;simp only[q]at o1;obtain⟨c,ys,rfl,B,P⟩:=BV (F:=F.to d h1) q n h (CY q).1;rw[r]
    refine⟨c,ys,rfl,B,o1 d _ H1 Ext.refl ⟨n,[.ref c],.cons h .nil,λ F' σ' H' b C D i=>?_⟩⟩
    cases C with
    |cons r'' _=>
     obtain⟨c',e,G,f,g⟩:=BV q b r'' D;cases G;have I:=g.length;have el:(((List.range xs.length).map λ k=>V3.tup [.int (k:Nat),xs.getD k .non])).length=xs.length:=by simp
     refine⟨λ hi=>?_,λ hi=>⟨e,f,by rw[<-I];rw[el]at hi;exact hi⟩⟩
     rw[el]at hi;obtain⟨y,p,J⟩:=g.get (zX hi)
     refine⟨⟨e,y,f,p⟩,λ Q L M=>?_⟩
     obtain⟨T,z,rfl,N,rfl,hz⟩:=M;have:=hz e f;rw[p]at this;cases this;obtain⟨q1,q2,q3⟩:=Rel.tup2 (x:= .int (i:Nat)) (v:= .int (i:Nat)) b N (.int _) J
     refine⟨.tup [.int (i:Nat),xs[i]],?_,q1,q2,q3⟩
     simp[hi]
def Vr {x1} (S:X.K=κ.K) (U:Gl X "zip") (V:X.mg "zip" =none) (W:PA X [a,b] (zI κ E t)) (hs:starEach [a,b] X.env=[(false,eval a X.env),(false,eval b X.env)]:=by rfl) (u:starEach [b] X.env=[(false,eval b X.env)]:=by rfl):PI X (.Tuple elts x1 tp) (.Call (.Name "zip" np) [a,b] [] pos) (yG κ E (Kj t)):=PIw (TR U V W hs u) λ σ H R ⟨F,A,o⟩=>
 yu (K:=kA κ) km_I A o λ vs H1 e h1 fs e1 B o1=>by
  obtain⟨C,D⟩:=B
  match fs,D,o1 with
  | [.x x,.x y],D,o1=>
   obtain⟨v,w,rfl,s,h⟩:=p2 D;have s:Rep κ e F.O H1 x v:=s;have h:Rep κ e F.O H1 y w:=h;cases q:yL h1 x with
   |none=>simp only[q]at o1;exact o1.elim
   |some w=>
    obtain⟨xs,ok⟩:=w;cases q2:yL h1 y with
    |none=>simp only[q,q2]at o1;exact o1.elim
    |some w'=>
     obtain⟨ys,Y⟩:=w';simp only[q,q2]at o1;obtain⟨c,us,rfl,Z,rs⟩:=BV (F:=F.to e h1) q C s (CY q).1;obtain⟨d,ws,rfl,G,rs2⟩:=BV (F:=F.to e h1) q2 C h (CY q2).1;rw[S]
     refine⟨c,d,us,ws,rfl,Z,G,o1 e _ H1 Ext.refl ⟨C,[.ref c,.ref d],.cons s (.cons h .nil),λ F' σ' H' f r' P i=>?_⟩⟩
     cases r' with
     |cons ra r''=>
      cases r'' with
      |cons rb _=>
       obtain⟨c',k,ec,l,n⟩:=BV q f ra P.1;cases ec;obtain⟨d',m,ed,g,j⟩:=BV q2 f rb P.2;cases ed;have hl:=n.length;have I:=j.length;have el:((xs.zip ys).map λ q=>V3.tup [q.1,q.2]).length=min xs.length ys.length:=by simp
       refine⟨λ hi=>?_,λ hi=>⟨k,m,l,g,by rw[<-hl,<-I];rw[el]at hi;lia⟩⟩
       rw[el]at hi;have h1:i<xs.length:=by lia
       have h2:i<ys.length:=by lia
       obtain⟨y1,p,J⟩:=n.get (zX h1);obtain⟨y2,r,L⟩:=j.get (zX h2)
       refine⟨⟨k,m,y1,y2,l,g,p,r⟩,λ x' H'' yl=>?_⟩
       obtain⟨T,z1,z2,rfl,hT,rfl,M,N⟩:=yl;have t1:=M k l;have Q:=N m g;rw[p]at t1;cases t1;rw[r]at Q;cases Q;obtain⟨q1,q2,q3⟩:=Rel.tup2 f hT J L
       refine⟨.tup [xs[i],ys[i]],?_,q1,q2,q3⟩
       rw[Az,(List.getElem?_zip_eq_some (z:=(xs[i],ys[i]))).mpr ⟨zX h1,zX h2⟩];rfl
noncomputable def yo(n:Nat)(fr:List Nat)(s:S3):S3:=List.replicate n none++fr.map λ j=>match s[j]? with
 |some (some (.v x))=>some (.v x)
 |_=>none
open Classical in
def qm(ok:H3->Prop)(g:G3)(c:T3)(e:E3):List V3->List V3->S3->H3->Res (List V3)
 | [],acc,_,h=>if ok h then .ok acc h else .no
 |x::r,acc,s,h=>if ok h then match g x s with
  |none=>.no
  |some s1=>match c s1 h with
   |.ok true h1=>match e s1 h1 with
    |.ok v h2=>match v.fz with
     |some y=>if acc.length<sizeLine then qm ok g c e r (acc++[y]) s1 h2 else .no
     |none=>.no
    |_=>.no
   |.ok false h1=>qm ok g c e r acc s1 h1
   |_=>.no
  else .no
def yJ(n:Nat)(fr:List Nat)(it:I3)(g:G3)(c:T3)(e:E3):E3:=λ s h=>(it s h).bind λ I h1=>(qm I.ok g c e I.xs [] (yo n fr s) h1).bind λ vs h2=>.ok (.m (.lst vs)) h2
def tTru:T3:=λ _ h=>.ok true h
def j2:PTs X [] (zQ κ E tTru):=λ pins s σ H Q I ⟨F,a,o⟩=>TC pins s σ H Q I (o F.β true H Ext.refl ⟨rfl,a⟩)
def GB(h:PT X c (zQ κ E t)):PTs X [c] (zQ κ E t):=TF h
def BZ{β:AO}{d:Addr}{o:HO}(e:∃u,H d=some u):Ext (λ a=>a=d) β H β (zk H d o):=
 ⟨λ a u b c m=>⟨by rw[zK m];exact b,c⟩,Ag _,λ _ _ _ h=>h,λ a u b=>by
  by_cases z:a=d
  .subst z;exact⟨o,yt⟩
  .exact⟨u,by rw[zK z];exact b⟩,nwb0⟩
def RelH.wrO{O:Addr->Prop}{β:AO}{h:H3}{d:Addr}{u:HO}(r:RelH κ O β h H)(hd:O d)(f:∀ys,u≠HO.tup ys:=by intro _ z;cases z):RelH κ O β h (zk H d u):=by
 have ex:=BZ (β:=β) (o:=u) (r.trk' d hd);have th:∀a w,H a=some w->(∀ys,w≠HO.tup ys)->∃w,zk H d u a=some w/\∀ys,w≠HO.tup ys:=λ a w q n=>by
  by_cases z:a=d
  .subst z;exact⟨u,yt,f⟩
  .exact⟨w,by rw[zK z];exact q,n⟩
 refine⟨r.len,r.inj,r.off,λ a e=>let ⟨w,q,n⟩:=r.trk a e;th a w q n,λ i a q=>let ⟨w,z,n⟩:=r.btr i a q;th a w z n,λ i c g=>(r.cell i c g).imp id λ ⟨a,e,q⟩=>⟨a,e,q.ext ex (λ b j=>by rw[j];exact hd) (λ _ _ _ n=>n) λ w k=>?_⟩⟩
 rw[zK (λ z=>by subst z;exact r.off a hd (Al e))];exact k
def Rel.wrOi{d:Addr}{u:HO}(r:Rel κ F σ H)(hd:F.Oi d)(h:∀ys,u≠HO.tup ys:=by intro _ z;cases z):Rel κ F σ (zk H d u) where
 heap:=r.heap.wrO (.inr (.inr hd)) h
 slen:=r.slen
 llen:=r.llen
 linj:=r.linj
 lt:=r.lt
 lo:=r.lo
 to:=r.to
 tn:=r.tn
 slot:=λ i x q=>by
  have e:F.O d:= .inr (.inr hd);have ex:=BZ (β:=F.β) (o:=u) (r.heap.trk' d e);obtain⟨v,h1,h2⟩:=r.slot i x q
  refine⟨v,h1,?_⟩
  cases x with
  |v x=>exact Rep.ext ex (λ b f=>by rw[f];exact e) (λ _ _ _ n=>n) h2
  |m c=>
   obtain⟨a,g,j,k⟩:=h2
   refine⟨a,g,j,k.ext ex (λ b f=>by rw[f];exact e) (λ _ _ _ n=>n) λ w l=>?_⟩
   rw[zK (λ z=>by subst z;exact r.lo a (Al g) hd)];exact l
def Vs(h:(yo n fr s)[i]? =some (some x)):∃j y,fr[i-n]? =some j/\n<=i/\s[j]? =some (some (.v y))/\x=.v y:=by
 unfold yo at h
 by_cases hi:i<n
 .rw[Bh (by simpa using hi),G8]at h
  split at h<;>cases h
 .rw[Bo (by simpa using hi),Du,Az]at h
  cases q:fr[i-n]? with
  |none=>rw[q]at h;cases h
  |some j=>
   rw[q]at h;simp only[Am,Ce]at h
   split at h
   .rename_i y a;cases h;exact⟨j,y,rfl,by lia,a,rfl⟩
   .cases h
def Kk(h:zi κ E (yJ n fr it g c d) σ H Q):Ij (yG κ E it) n fr (yR κ g) (zQ κ E0 c) (zi κ E0 d) σ H Q:=by
 obtain⟨F,rel,o⟩:=h
 refine (DV (K:=kI κ) z6 rel o).mono λ J H1 ⟨A,h1,I,e1,⟨r1,vs,rv,ir⟩,o1⟩=>λ D Y=>?_
 have hDH:H D=none:=e1.nw D Y
 let Oi:Addr->Prop:=λ a=>a=D\/F.O a
 have rn:=(r1.new (o:= .lst []) Y);have rh1:RelH κ Oi A h1 (zk H1 D (.lst [])):=rn.1.heap.sub λ a p=>p.elim (λ z=>.inl (by rw[z];exact Aj)) λ z=>Fr.O_with z
 have hO1:∀a u,H1 a=some u->¬F.O a->¬Oi a:=λ a u p n z=>z.elim (λ w=>by subst w;rw[Y]at p;cases p) n
 let F0:Fr:=⟨Oi,[],A,List.replicate (yo n fr F.s).length none,yo n fr F.s,h1⟩
 have M:∀(F':Fr),F'.T=[]->(∀a,some a∉F'.l)->F'.Oi=Oi->∀a,F'.O a->Oi a:=λ F' t l oi a p=>by
  rcases p with z|z|z
  .rw[t]at z;cases z
  .exact absurd z (l a)
  .rw[oi]at z;exact z
 have hlen:(yo n fr F.s).length=(cst n fr σ).length:=by unfold yo cst;simp
 have rel0:Rel κ F0 (cst n fr σ) (zk H1 D (.lst [])):=by
  refine⟨rh1.sub (M F0 rfl (λ a=>Qp) rfl),hlen,?_,λ i j a h=>absurd (Al h) Qp,λ a p=>absurd p Qp,λ a p=>absurd p Qp,λ a p=>(by cases p),D1,λ i x hx=>?_⟩
  .show (List.replicate (yo n fr F.s).length (none:Option Addr)).length=(yo n fr F.s).length
   simp
  .obtain⟨j,y,hj,hi,hy,rfl⟩:=Vs hx
   obtain⟨v,hv,rv⟩:=r1.slot j _ hy
   refine⟨v,?_,Rep.sub (M F0 rfl (λ a=>Qp) rfl) (Rep.ext (qy Y) (λ _ z=>z.elim) hO1 (show Rep κ A F.O H1 y v from rv))⟩
   unfold cst;rw[Bo (by simpa using hi),Du,Az,hj]
   simp[hv]
 have rv0:Reps κ A Oi (zk H1 D (.lst [])) I.its vs:=rv.ext (qy Y) (λ _ z=>z.elim) hO1
 refine⟨λ i m G σ' H'=>m=I.xs.length-i/\i<=I.xs.length/\H' D=some (.lst G)/\∃(F':Fr)(f:List V3),Rel κ F' σ' H'/\F'.T=[]/\(∀a,some a∉F'.l)/\F'.Oi=Oi/\Reps κ F'.β Oi H' I.its vs/\Reps κ F'.β Oi H' f G/\Ext No A H1 F'.β H'/\
   Out κ E (kE κ) (F.to A h1) σ H1 Q ((qm I.ok g c d (I.xs.drop i) f F'.s F'.h).bind λ vs h2=>.ok (.m (.lst vs)) h2),
  ⟨_,rfl,B5 _,yt,F0,[],rel0,rfl,λ a=>Qp,rfl,rv0,.nil,qy Y,o1⟩,?_⟩
 rintro i m G σ' H' ⟨rfl,hi,P,F',f,R,ht,hl,hoi,S,N,ex,out⟩
 refine⟨P,?_⟩
 have hO:∀a,F'.O a↔Oi a:=λ a=>⟨M F' ht hl hoi a,λ z=>.inr (.inr (by rw[hoi];exact z))⟩
 have eO:F'.O=Oi:=funext λ a=>propext (hO a)
 by_cases hok:I.ok F'.h
 case neg=>
  exfalso
  cases q:I.xs.drop i with
  |nil|cons x r=>rw[q]at out;unfold qm at out;rw[Ac hok]at out;exact out
 obtain⟨i1,i2⟩:=ir F' σ' H' R (by rw[eO];exact S) hok i
 by_cases hlt:i<I.xs.length
 .obtain⟨go,yl⟩:=i1 hlt
  refine .inr ⟨go,λ U Z H5=>H5 D=some (.lst U)/\∃(F':Fr)(f:List V3),Rel κ F' Z H5/\F'.T=[]/\(∀a,some a∉F'.l)/\F'.Oi=Oi/\Reps κ F'.β Oi H5 I.its vs/\Reps κ F'.β Oi H5 f U/\Ext No A H1 F'.β H5/\
   Out κ E (kE κ) (F.to A h1) σ H1 Q ((qm I.ok g c d (I.xs.drop (i+1)) f F'.s F'.h).bind λ vs h2=>.ok (.m (.lst vs)) h2),λ U Z H5 n5=>⟨_,by lia,rfl,hlt,n5⟩,λ x H2 y=>?_⟩
  obtain⟨x3,ex3,ey,ry,rp⟩:=yl x H2 y;have hd:I.xs.drop i=x3::I.xs.drop (i+1):=by
   rw[Fh hlt]
   congr 1
   rw[zX hlt]at ex3;exact Option.some.inj ex3
  rw[hd]at out;unfold qm at out;rw[Ab hok]at out;cases w:g x3 F'.s with
  |none=>simp only[w]at out;exact out.elim
  |some s1=>
   simp only[w]at out
   refine⟨F',x3,s1,ry,ht,rp,w,λ F3 Z e3 b3 s3 h3 r3=>?_⟩
   have hl3:∀a,some a∉F3.l:=λ a p=>by
    rcases e3.lam a p with z|z
    .exact hl a z
    .obtain⟨k,hk⟩:=B7 p
     obtain⟨u,hu,_⟩:=r3.heap.trk a (.inr (.inl p));rw[z]at hu;cases hu
   have C:F3.Oi=Oi:=e3.oi.trans hoi;have eO3:F3.O=Oi:=funext λ a=>propext ⟨M F3 e3.tt hl3 C a,λ z=>.inr (.inr (by rw[C];exact z))⟩
   refine⟨F3,r3,?_⟩
   rw[s3,h3];cases q:c s1 F'.h with
   |no|ex x h2=>simp only[q]at out;exact out.elim
   |ok cb h2=>
    simp only[q]at out;rintro L cb' H4 e4 ⟨rfl,r4⟩;have ex4:Ext No A H1 L H4:=(ex.trans0 ey).trans0 (by rw[b3]at e4;exact e4)
    have k4:∀{x:List V3}{v:List V},Reps κ F'.β Oi H' x v->Reps κ L Oi H4 x v:=λ r=>(r.ext0 ey).ext0 (by rw[b3]at e4;exact e4)
    have hD2:H2 D=some (.lst G):=(ey.keep D _ P (R.heap.off D ((hO D).mpr (.inl rfl))) λ z=>z).1
    have hD4:H4 D=some (.lst G):=(e4.keep D _ hD2 (r3.heap.off D (by rw[eO3];exact .inl rfl)) λ z=>z).1
    cases cb' with
    |false=>rw[Ac Bk];exact⟨hD4,F3.to L h2,f,r4,e3.tt,hl3,C,k4 S,k4 N,ex4,by show Out _ _ _ _ _ _ _ ((qm I.ok g c d (I.xs.drop (i+1)) f F3.s h2).bind _);rw[s3];exact out⟩
    |true=>
     rw[Ab rfl]
     refine⟨F3.to L h2,r4,?_⟩
     show Out κ E0 (kE κ) (F3.to L h2) Z H4 _ (d F3.s h2);rw[s3];cases q5:d s1 h2 with
     |no|ex x h5=>simp only[q5]at out;exact out.elim
     |ok r5 h5=>
      simp only[q5]at out;intro B v5 H5 e5 p5;cases z:r5.fz with
      |none=>simp only[z]at out;exact out.elim
      |some y5=>
       simp only[z]at out
       by_cases hsz:f.length<sizeLine
       .rw[Ab hsz]at out
        obtain⟨r6,W⟩:=Post.fz p5 z;have hD5:H5 D=some (.lst G):=(e5.keep D _ hD4 (r4.heap.off D (.inr (.inr (by show F3.Oi D;rw[C];exact .inl rfl)))) λ z=>z).1
        have ex6:Ext (λ a=>a=D) B H5 B (zk H5 D (.lst (G++[v5]))):=BZ ⟨_,hD5⟩
        have k6:∀{x:List V3}{v:List V},Reps κ B Oi H5 x v->Reps κ B Oi (zk H5 D (.lst (G++[v5]))) x v:=λ r=>r.ext ex6 (λ b hb=>by rw[hb];exact .inl rfl) λ _ _ _ n=>n
        have W:Rep κ B Oi H5 y5 v5:=by
         have e:((F3.to L h2).to B h5).O=Oi:=eO3;have q:Rep κ B ((F3.to L h2).to B h5).O H5 y5 v5:=W;rw[e]at q;exact q
        have k45:∀{x:List V3}{v:List V},Reps κ L Oi H4 x v->Reps κ B Oi H5 x v:=λ r=>r.ext0 e5
        refine⟨hD5,by rw[<-N.length];exact hsz,yt,(F3.to L h2).to B h5,f++[y5],Rel.wrOi r6 (by show F3.Oi D;rw[C];exact .inl rfl),e3.tt,hl3,C,k6 (k45 (k4 S)),k6 ((k45 (k4 N)).append (.cons W .nil)),?_,?_⟩
        .have X:=ex4.trans0 e5
         refine⟨λ a u p hn _=>?_,X.len,X.bet,λ a u p=>?_,X.nwb⟩
         .obtain⟨q1,q2⟩:=X.keep a u p hn λ z=>z
          exact⟨by rw[zK (λ z=>by subst z;rw[Y]at p;cases p)];exact q1,q2⟩
         .obtain⟨u',hu'⟩:=X.there a u p
          exact ex6.there a u' hu'
        .show Out _ _ _ _ _ _ _ ((qm I.ok g c d (I.xs.drop (i+1)) (f++[y5]) F3.s h5).bind _)
         rw[s3];exact out
       .rw[Ac hsz]at out;exact out.elim
 .have hi:i=I.xs.length:=by lia
  subst hi;rw[Cm]at out;unfold qm at out;rw[Ab hok]at out
  refine .inl ⟨i2 (Ag _),out F'.β (.ref D) H' ex ?_⟩
  have rh:RelH κ (λ a=>a=D\/(F.to A h1).O a) F'.β F'.h H':=R.heap.sub λ a p=>(hO a).mpr p
  refine⟨D,rfl,Rel.nextNew (F:=F.to A h1) r1 ex rh Y,⟨G,P,N.sub λ a p=>?_⟩,Y⟩
  rcases p with z|z
  .rcases Af.mp z with z|z
   .exact .inl z
   .exact .inr (.inl z)
  .exact .inr (.inr z)
def jM(a:X.calm=true)(S:CompScope X loc free fr scope)(hi:PI X tg iter (yG κ E it))
 (b:∀cl C s H ex,PG (qD X (loc++free) scope cl C s H ex) tg (yR κ g)) (e:∀cl C s H ex,PTs (qD X (loc++free) scope cl C s H ex) ifs (zQ κ E0 c)) (f:∀cl C s H ex,PE (qD X (loc++free) scope cl C s H ex) elt (zi κ E0 d))
 (hs:∀x,foldedSetIterable iter X.env x=pure x:=by intro _;rfl):PE X (.ListComp elt [⟨tg,iter,ifs,0⟩] scope pos) (zi κ E (yJ loc.length fr it g c d)):=yQ (TH a S hi b e f hs) λ _ _ _ h=>Kk h
def Oq(e:X.N.Nodup)(a:X.N[i]? =some y)(f:X.env.scope.names.lookup y=some .local)(j:X.calm=true)(S:CompScope X loc free fr scope)(hi:PI X tg iter (yG κ E it))
 (k:∀cl C s H ex,PG (qD X (loc++free) scope cl C s H ex) tg (yR κ g)) (l:∀cl C s H ex,PTs (qD X (loc++free) scope cl C s H ex) ifs (zQ κ E0 c)) (m:∀cl C s H ex,PE (qD X (loc++free) scope cl C s H ex) elt (zi κ E0 d))
 (hs:∀x,foldedSetIterable iter X.env x=pure x:=by intro _;rfl) (b:swapsWith (.ListComp elt [⟨tg,iter,ifs,0⟩] scope pos) (some (.Name y py)) spos.line X.env=pure true:=by rfl):
 PS X (.Assign [.Name y py] (.ListComp elt [⟨tg,iter,ifs,0⟩] scope pos) spos) (zu κ E (sSet i (yJ loc.length fr it g c d))):=qv (N9 e a f j S hi k l m hs b) λ D σ H h=>Kk (Ka h)
end
section
variable{X:Cx}{κ:Kx}{E:XK}{F F':Fr}{σ σ':L2.St}{H H1 H':Hp}{Q:VK}{p:Addr}{e a b c o:Expr}{pos apos np cpos:Pos}{i:Nat}{D:Ends}
def eNeg(p:P3):E3:=λ s h=>(p s h).bind λ f h1=>match f with
 |.x (.int i)=>.ok (.v (.int (-i))) h1
 |_=>.no
def CA(h:PE X a (zh κ E d)):PE X (.UnaryOp .USub a pos) (zi κ E (eNeg d)):=yQ (Sq Sw h) λ σ H Q ⟨F,c,o⟩=>
 yu (K:=kP κ) z6 c o λ v H1 b h1 f e1 e o1=>by
  obtain⟨j,g⟩:=e
  match f,g,o1 with
  |.x (.int i),g,o1=>
   cases (show Rep κ b F.O H1 (.int i) v from g)
   exact⟨i,rfl,o1 b _ H1 Ext.refl ⟨j,.int _⟩⟩
def eChain(f g:F2)(a b c:P3):E3:=λ s h=>(a s h).bind λ x h1=>(b s h1).bind λ y h2=>match f s h2 x y with
 |some (.v (.bl true))=>(c s h2).bind λ z d=>opt d (g s d y z)
 |some (.v (.bl false))=>.ok (.v (.bl false)) h2
 |_=>.no
def Os(hs:OpSim κ r f)(n:OpSim κ r' g)(h:zi κ E (eChain f g da db dc) σ H Q):JH r r' (zh κ E da) (zh κ E db) (zh κ E dc) σ H Q:=by
 obtain⟨F,t,o⟩:=h
 refine yu (K:=kP κ) z6 t o λ v H1 i h1 A e1 c o1=>?_
 refine yu (F:=F.to i h1) (K:=kP κ) z6 c.1 o1 λ w H2 a h2 x e2 b o2=>?_
 have j:=RfR.ext (F:=F.to i h1) (β':=a) (h':=h2) c.1 e2 c.2;cases q:f F.s h2 A x with
 |none=>simp only[q]at o2;exact o2.elim
 |some z=>
  refine hs (F.to a h2) σ H2 A x z v w _ b.1 j b.2 q λ u H' e p=>?_
  match z,q,p with
  |.v (.bl true),q,p=>
   simp only[q]at o2;cases (show Rep κ a F.O H' (.bl true) u from p.2)
   refine⟨true,rfl,?_⟩
   rw[Ab rfl];have o3:=Out.move (F:=F.to a h2) (h':=h2) z6 e o2
   refine yu (F:=F.to a h2) (K:=kP κ) z6 p.1 o3 λ B H3 d y C D l o4=>?_
   obtain⟨G,I,k⟩:=Out.opt (F:=F.to d y) rfl o4;exact n (F.to d y) σ H3 x C G w B Q l.1 (RfR.ext (F:=F.to a h2) (β':=d) (h':=y) p.1 D (RfR.ext (F:=F.to a h2) (β':=a) (h':=h2) b.1 e b.2)) l.2 I k
  |.v (.bl false),q,p=>
   simp only[q]at o2;cases (show Rep κ a F.O H' (.bl false) u from p.2)
   refine⟨false,rfl,?_⟩
   rw[Ac Bk];exact o2 a _ H' e ⟨p.1,.bl _⟩
  |.v .non,q,p|.v (.int _),q,p|.v (.str _),q,p|.v (.ty _),q,p|.v (.tup _),q,p|.v (.lst _),q,p|.v (.scr _),q,p|.v (.dT _),q,p|.v (.obj _ _),q,p|.v (.cls _),q,p|.v (.fn _ _),q,p|.v (.loc _),q,p|.m _,q,p=>simp only[q]at o2;exact o2.elim
def Ot(hs:OpSim κ r f)(d:OpSim κ r' g)(i:OpR X (compareOp op) r)(e:OpR X (compareOp op') r')(j:PE X a (zh κ E da))(k:PE X b (zh κ E db))(l:PE X c (zh κ E dc))
 (m:lastMarks [op,op'] [b,c]=false:=by with_unfolding_all rfl):PE X (.Compare a [op,op'] [b,c] pos) (zi κ E (eChain f g da db dc)):=yQ (Sz i e j k l m) λ _ _ _ h=>Os hs d h
def Ou(hs:OpSim κ r f)(d:OpSim κ r' g)(i:OpR X (compareOp op) r)(e:OpR X (compareOp op') r')(j:PE X a (zh κ E da))(k:PE X b (zh κ E db))(l:PE X c (zh κ E dc))
 (m:lastMarks [op,op'] [b,c]=false:=by with_unfolding_all rfl):PT X (.Compare a [op,op'] [b,c] pos) (zQ κ E (tE (eChain f g da db dc))):=PTw (S0 i e j k l m) λ _ _ _ h=>Os hs d (FP h)
abbrev Po3:=S3->H3->Res (Option Int)
def kO(κ:Kx):Kd (Option Int) (Option Int):=λ _ F σ H' i j=>j=i/\Rel κ F σ H'
def km_O:BB (kO κ):=λ _ _ _ _ _ _ _ _ _ _ _ h=>h
abbrev toOf(κ:Kx)(E:XK)(d:Po3):TO:=tOf κ E (kO κ) d
def j7:Po3:=λ _ h=>.ok none h
def Qc(p:P3):Po3:=λ s h=>(p s h).bind λ f h1=>match f with
 |.x (.int i)=>.ok (some i) h1
 |_=>.no
def POw{e:Option Expr}{t t':TO}(h:PO X e t)(w:∀σ H Q,t' σ H Q->t σ H Q):PO X e t':=λ pins s σ H Q I q=>h pins s σ H Q I (w σ H Q q)
def GC:PO X none (toOf κ E j7):=POw Td λ σ H Q ⟨F,a,o⟩=>o F.β none H Ext.refl ⟨rfl,a⟩
def GD(h:PE X a (zh κ E d)):PO X (some a) (toOf κ E (Qc d)):=POw (Te h) λ σ H Q ⟨F,c,o⟩=>
 yu (K:=kP κ) km_O c o λ v H1 b h1 f e1 e o1=>by
  obtain⟨j,g⟩:=e
  match f,g,o1 with
  |.x (.int i),g,o1=>
   cases (show Rep κ b F.O H1 (.int i) v from g)
   exact⟨i,rfl,o1 b _ H1 Ext.refl ⟨rfl,j⟩⟩
def yY{α:Type}(xs:List α)(lo hi:Option Int):List α:=(xs.drop (HT.sIx xs.length 0 lo)).take (HT.sIx xs.length xs.length hi-HT.sIx xs.length 0 lo)
def oSl(s:S3)(h:H3)(lo hi:Option Int):Rf->Option Vl
 |.x (.str z)=>if z.length<=sizeLine then some (.v (.str (Txt.slice z lo hi))) else none
 |f=>(rdl s h f).map λ xs=>.m (.lst (yY xs lo hi))
def j8(p:P3)(lo hi:Po3):E3:=λ s h=>(p s h).bind λ f h1=>(lo s h1).bind λ l h2=>(hi s h2).bind λ u a=>opt a (oSl s a l u f)
def Vt{s:S3}{h:H3}{lo hi:Option Int}{f:Rf}{z:Vl}(e:oSl s h lo hi f=some z):(∃y,f=.x (.str y)/\y.length<=sizeLine/\z=.v (.str (Txt.slice y lo hi)))\/(rdl s h f).map (λ xs=>Vl.m (.lst (yY xs lo hi)))=some z:=by
 cases f with
 |s i=>exact .inr e
 |x y=>
  cases y with
  |str y=>obtain⟨h,e⟩:=jt e;exact .inl ⟨y,rfl,h,e.symm⟩
  |_=>exact .inr e
def Vu{xs:List V3}{ys:List V}{lo hi:Option Int}(r:Reps κ F.β F.O H xs ys):Reps κ F.β F.O H (yY xs lo hi) (cutV ys lo hi):=by
 unfold yY cutV;rw[r.length];exact (r.drop _).take _
def r_sl{lo hi:Option Expr}{p2:Pos}{d:P3}{dl w:Po3}(y:X.K=κ.K)(A:PE X a (zh κ E d))(B:PO X lo (toOf κ E dl))(C:PO X hi (toOf κ E w)):PE X (.Subscript a (.Slice lo hi none p2) pos) (zi κ E (j8 d dl w)):=
 yQ (Tf (sl_list.or UK) A B C) λ σ H Q ⟨F,n,o⟩=>
 yu (K:=kP κ) z6 n o λ v H1 i h1 f e1 e o1=>
 (DV (F:=F.to i h1) (K:=kO κ) z6 e.1 o1).mono λ l H2 ⟨g,h2,L,e2,⟨el,x⟩,o2⟩=>
 yu (F:=F.to g h2) (K:=kO κ) z6 x o2 λ u H3 b h M D r o3=>by
  obtain⟨G,t⟩:=r;subst el;subst G;obtain⟨z,q,k⟩:=Out.opt (F:=F.to b h) rfl o3;have j:RfR κ (F.to b h) H3 f v:=RfR.ext (F:=F.to g h2) (β':=b) (h':=h) x D (RfR.ext (F:=F.to i h1) (β':=g) (h':=h2) e.1 e2 e.2);rw[y];have lists:(rdl F.s h f).map (λ xs=>Vl.m (.lst (yY xs l u)))=some z->rSlL κ.K v l u H3 Q:=λ q=>by
   cases q1:rdl F.s h f with
   |none=>rw[q1]at q;cases q
   |some xs=>
    rw[q1]at q;cases q;obtain⟨c,ys,rfl,I,J⟩:=Qg (F:=F.to b h) t j q1;exact⟨c,ys,rfl,I,λ p hp=>k _ _ (qy hp) (Post.lst t hp (Vu J))⟩
  rcases Vt q with ⟨zz,rfl,hz,rfl⟩|q
  .cases (show Rep κ b F.O H3 (.str zz) v from j)
   exact .inr ⟨zz,rfl,hz,k _ H3 Ext.refl ⟨t,.str _⟩⟩
  .exact .inl (lists q)
noncomputable def wr3(s:S3)(h:H3)(c:C3):Rf->Option (S3×H3)
 |.s i=>some (s.set i (some (.m c)),h)
 |.x (.loc n)=>some (s,h.set n c)
 |_=>none
def Rel.wrSlot(d:Rel κ F σ H)(e:F.l[i]? =some (some l))(hs:F.s[i]? =some (some (.m c0)))(h:CellR κ F.β F.O (zk H l u) c' l):
  Rel κ {F with s:=F.s.set i (some (.m c'))} σ (zk H l u):=by
 have f:F.O l:= .inr (.inl (Al e));have ex:=BZ (β:=F.β) (o:=u) (d.heap.trk' l f)
 refine⟨d.heap.wrO f h.nt,?_,?_,d.linj,d.lt,d.lo,d.to,d.tn,λ j y p=>?_⟩
 .show (F.s.set i _).length=_;rw[Bw];exact d.slen
 .show F.l.length=(F.s.set i _).length;rw[Bw];exact d.llen
 .rcases Qh p with ⟨e1,e2⟩|⟨n,z⟩
  .subst e1;cases e2
   obtain⟨v,h1,a,h2,q,_⟩:=d.slot i _ hs;rw[e]at h2;cases h2;exact⟨v,h1,l,e,q,h⟩
  .obtain⟨v,h1,h2⟩:=d.slot j y z
   refine⟨v,h1,?_⟩
   cases y with
   |v x=>exact Rep.ext ex (λ b g=>by rw[g];exact f) (λ _ _ _ n=>n) h2
   |m c=>
    obtain⟨a,k,r,t⟩:=h2
    refine⟨a,k,r,t.ext ex (λ b g=>by rw[g];exact f) (λ _ _ _ n=>n) λ w A=>?_⟩
    rw[zK (λ z=>by subst z;exact n (d.linj i j a e k))];exact A
def ID{β:AO}{l:Addr}{o:HO}{n:Nat}(d:β[n]? =some (some l))(e:∃u,H l=some u):Ext No β H β (zk H l o):=
 ⟨λ a u b c _=>⟨by rw[zK (λ z=>by subst z;exact c (Al d))];exact b,c⟩,Ag _,λ _ _ _ h=>h,λ a u b=>by
  by_cases z:a=l
  .subst z;exact⟨o,yt⟩
  .exact⟨u,by rw[zK z];exact b⟩,nwb0⟩
def RelH.wrLoc{O:Addr->Prop}{β:AO}{h:H3}{l:Addr}{n:Nat}{c':C3}{u:HO}(r:RelH κ O β h H)(b:β[n]? =some (some l))(e:CellR κ β O (zk H l u) c' l):RelH κ O β (h.set n c') (zk H l u):=by
 have ex:=ID (o:=u) b (r.btr' n l b);have th:∀a w,H a=some w->(∀ys,w≠HO.tup ys)->∃w,zk H l u a=some w/\∀ys,w≠HO.tup ys:=λ a w q n=>by
  by_cases z:a=l
  .subst z;exact⟨u,yt,e.nt⟩
  .exact⟨w,by rw[zK z];exact q,n⟩
 refine⟨by rw[Bw];exact r.len,r.inj,r.off,λ a d=>let ⟨w,q,n⟩:=r.trk a d;th a w q n,λ i a q=>let ⟨w,z,n⟩:=r.btr i a q;th a w z n,λ i c hi=>?_⟩
 rcases Qh hi with ⟨e1,e2⟩|⟨ne,z⟩
 .subst e1;subst e2;exact .inr ⟨l,b,e⟩
 .refine (r.cell i c z).imp id λ ⟨a,d,q⟩=>⟨a,d,q.ext ex (λ _ z=>z.elim) (λ _ _ _ n=>n) λ w f=>?_⟩
  rw[zK (λ z=>by subst z;exact ne (r.inj n i a b d))];exact f
def Kl{f:Rf}{v:V}{xs ys:List V3}{s':S3}{h':H3}(w:F.T=[])(d:Rel κ F σ H)(r:RfR κ F H f v)(e:rdm F.s F.h f=some xs)(j:wr3 F.s F.h (.lst ys) f=some (s',h')):
  ∃l us,v=.ref l/\H l=some (.lst us)/\Reps κ F.β F.O H xs us/\∀ws,Reps κ F.β F.O H ys ws->∃F',SExt F H F' (zk H l (.lst ws))/\F'.s=s'/\F'.h=h'/\Rel κ F' σ (zk H l (.lst ws)):=by
 cases f with
 |s i=>
  cases j;obtain⟨a,c,h1,h2,A,B⟩:=r;have e:rdl F.s F.h (.s i)=some xs:=e;simp only[rdl,A]at e;cases c<;>simp at e
  subst e;obtain⟨us,g,k⟩:=B;have C:F.O a:= .inr (.inl (Al h1))
  refine⟨a,us,h2,g,k,λ ws p=>⟨{F with s:=F.s.set i (some (.m (.lst ys)))},⟨⟨λ b u t D m=>⟨by rw[zK (λ z=>by subst z;exact m (Al h1))];exact t,D⟩,Ag _,λ _ _ _ h=>h,(BZ (β:=F.β) ⟨_,g⟩).there,nwb0⟩,λ _ h=>.inl h,rfl,w⟩,rfl,rfl,d.wrSlot h1 A ⟨ws,yt,p.ext (BZ (β:=F.β) ⟨_,g⟩) (λ b t=>by rw[t];exact C) λ _ _ _ n=>n⟩⟩⟩
 |x y=>
  cases y<;>simp[wr3]at j
  case loc n=>
   obtain⟨rfl,rfl⟩:=j;cases r with
   |loc h1 h2=>
    have e:rdl F.s F.h (.x (.loc n))=some xs:=e;simp only[rdl]at e;cases q:F.h[n]? with
    |none=>rw[q]at e;cases e
    |some c=>
     rw[q]at e;cases c<;>simp at e
     subst e
     rcases d.heap.cell n _ q with z|⟨a,ha,us,g,k⟩
     .cases z
     .have ex:=λ o=>ID (o:=o) ha ⟨_,g⟩
      refine⟨a,us,h2 a ha,g,k,λ ws p=>⟨F.to F.β (F.h.set n (.lst ys)),SExt.of0 w (ex _),rfl,rfl,d.next (ex _) (d.heap.wrLoc ha ⟨ws,yt,p.ext0 (ex _)⟩)⟩⟩
abbrev FM:=List V3->List V3->Option (List V3×V3)
def mtO(b:FM)(p:P3)(a:A3)(k:S3->H3->V3->O3):D3:=λ s h=>(p s h).bindS λ f h1=>match rdm s h1 f with
 |none=>.no
 |some _=>(a s h1).bindS λ fs h2=>match vals3 fs,rdm s h2 f with
  |some vs,some xs=>match b xs vs with
   |some (ys,r)=>match wr3 s h2 (.lst ys) f with
    |some (s3,h3)=>k s3 h3 r
    |none=>.no
   |none=>.no
  |_,_=>.no
def qI(b:FM)(p:P3)(a:A3):D3:=mtO b p a λ s h _=>.nx s h
def IE(j:Nat)(b:FM)(p:P3)(a:A3):D3:=mtO b p a λ s h r=>if j<s.length then .nx (s.set j (some (.v r))) h else .no
def AH(κ:Kx)(r:V->List V->Hp->VK->Prop)(c:FM):Prop:=∀(β:AO)(O:Addr->Prop)(H:Hp)(l:Addr)(xs ys vs:List V3)(us ws:List V)(rt:V3)(Q:VK),H l=some (.lst us)->Reps κ β O H xs us->Reps κ β O H vs ws->c xs vs=some (ys,rt)->
 (∀a b,Reps κ β O H ys a->Rep κ β O H rt b->Q b (zk H l (.lst a)))->r (.ref l) ws H Q
def Km(hs:AH κ r op)(g:Rel κ F σ H)(i:F.T=[])(o:SOut κ E F H D (mtO op dp da k F.s F.h))
  (z:∀F' rt u x v H3,SExt u x F' H3->F'.s.length=F.s.length->Rel κ F' σ H3->Rep κ F'.β F'.O H3 rt v->SOut κ E u x D (k F'.s F'.h rt)->Q v H3):
  tBM κ.K "list" r (zh κ E dp) (zI κ E da) σ H Q:=by
 refine qW (K:=kP κ) g i o λ v H1 b h1 f e1 d o1=>?_
 cases q:rdm F.s h1 f with
 |none=>simp only[q]at o1;exact o1.elim
 |some xs0=>
  simp only[q]at o1;obtain⟨a,ys,rfl,A,_⟩:=CZ (F:=F.to b h1) d.1 d.2 q
  refine⟨.inl ⟨rfl,ys,.of A⟩,?_⟩
  have s1:SExt F H (F.to b h1) H1:=SExt.of0 i e1
  refine qW (F:=F.to b h1) (K:=kA κ) d.1 i (SOut.move s1 o1) λ ws H2 c h2 fs e2 j o2=>?_
  have m:=RfR.ext (F:=F.to b h1) (β':=c) (h':=h2) d.1 e2 d.2;have s2:SExt (F.to b h1) H1 (F.to c h2) H2:=SExt.of0 (F:=F.to b h1) i e2;cases q1:vals3 fs with
  |none=>simp only[q1]at o2;exact o2.elim
  |some vs=>
   cases q2:rdm F.s h2 f with
   |none=>simp only[q1,q2]at o2;exact o2.elim
   |some xs=>
    simp only[q1,q2]at o2;cases q3:op xs vs with
    |none=>simp only[q3]at o2;exact o2.elim
    |some w=>
     obtain⟨zs,rt⟩:=w;simp only[q3]at o2;cases q4:wr3 F.s h2 (.lst zs) f with
     |none=>simp only[q4]at o2;exact o2.elim
     |some w=>
      obtain⟨L,M⟩:=w;simp only[q4]at o2;obtain⟨l,us,ev,B,C,G⟩:=Kl (F:=F.to c h2) i j.1 m q2 q4;cases ev
      refine hs c F.O H2 a xs zs vs us ws rt _ B C (BU j.2 q1) q3 λ n I p t=>?_
      obtain⟨F',y,es,J,e⟩:=G n p
      refine z F' rt (F.to c h2) H2 _ _ y (by rw[e.slen,<-g.slen]) e (Rep.sext (F:=F.to c h2) y t) ?_
      rw[es,J];exact SOut.move s2 o2
def Qf{es:List Expr}{name:Str}{id:String}{r:V->List V->Hp->VK->Prop}{k:FM}{dp:P3}{l:A3}(hs:AH κ r k)(m:X.K=κ.K)(slot:Slot "list" name id)(g:typeOf (.builtin id)=pure (.type "method_descriptor"))(n:MtR X id r)(p:PE X o (zh κ E dp))(q:PA X (e::es) (zI κ E l))
  (b:attributeBase o name X.env (eval o X.env)=eval o X.env:=by rfl)
  (d:((backTo cpos (starEach (e::es) X.env)).all (λ x=> !x.1) && (backToKw cpos (keywordEach [] X.env)).all (λ x=>x.1.isSome)
   && decide ((e::es).length+([]:List Keyword).length+(if ([]:List Keyword).isEmpty then 0 else 1)<30))=true:=by rfl)
  (c:(apos.endLine==cpos.line)=true:=by rfl) (h:SE X e es:=by rfl) (a:(backTo cpos (starEach es X.env)).any (·.1)=false:=by rfl)
  (i:swapsWith (.Call (.Attribute o name apos) (e::es) [] cpos) none pos.line X.env=pure false:=by rfl):
  PS X (.Expr (.Call (.Attribute o name apos) (e::es) [] cpos) pos) (zu κ E (qI k dp l)):=qv (EZ (JO Hh slot g n p q b d c h a) i) λ D σ H ⟨F,j,s,o⟩=>by
 rw[m];exact Km hs j s o λ F' rt u w v H3 t _ f _ o'=>o' F' σ H3 t rfl rfl f
def Ow{name:Str}{id:String}{r:V->List V->Hp->VK->Prop}{g:FM}{dp:P3}(hs:AH κ r g)(h:X.K=κ.K)(slot:Slot "list" name id)(d:typeOf (.builtin id)=pure (.type "method_descriptor"))(i:MtR X id r)(j:PE X o (zh κ E dp))
  (a:attributeBase o name X.env (eval o X.env)=eval o X.env:=by rfl) (b:(apos.endLine==cpos.line)=true:=by rfl) (e:swapsWith (.Call (.Attribute o name apos) [] [] cpos) none pos.line X.env=pure false:=by rfl):
  PS X (.Expr (.Call (.Attribute o name apos) [] [] cpos) pos) (zu κ E (qI g dp aNil)):=qv (EZ (Ts Hh slot d i j a b) e) λ D σ H ⟨F,f,k,o⟩=>by
 rw[h]
 refine tOf.mono (Km (Q:=λ _ H1=>D.nx σ H1) hs f k o λ F' rt n p v H3 l _ c _ o'=>o' F' σ H3 l rfl rfl c) λ x H1 ⟨h1,F1,m,h2⟩=>⟨h1,h2 F1.β [] H1 Ext.refl ⟨m,.nil⟩⟩
def Vv(hs:AH κ r op)(h:zu κ E (IE j op dp da) D σ H):tBM κ.K "list" r (zh κ E dp) (zI κ E da) σ H (λ v H1=>D.nx (σ.set j (some v)) H1):=by
 obtain⟨F,b,d,o⟩:=h
 refine Km hs b d o λ F' rt f g v H3 c i a e o'=>?_
 by_cases hj:j<F'.s.length
 .rw[Ab hj]at o'
  exact o' (F'.setV j rt) _ H3 (c.trans (SExt.setN c.tt)) rfl rfl (a.setV e hj)
 .rw[Ac hj]at o';exact o'.elim
def Vw{j:Nat}{x:Str}{k:Pos}{es:List Expr}{name:Str}{id:String}{r:V->List V->Hp->VK->Prop}{l:FM}{dp:P3}{m:A3}(hs:AH κ r l)(n:X.K=κ.K)(slot:Slot "list" name id)(f:typeOf (.builtin id)=pure (.type "method_descriptor"))(p:MtR X id r)(q:X.N.Nodup)(hi:X.N[j]? =some x)(s:jT X.env.scope x)(t:PE X o (zh κ E dp))(u:PA X (e::es) (zI κ E m))
  (b:attributeBase o name X.env (eval o X.env)=eval o X.env:=by rfl)
  (d:((backTo cpos (starEach (e::es) X.env)).all (λ x=> !x.1) && (backToKw cpos (keywordEach [] X.env)).all (λ x=>x.1.isSome)
   && decide ((e::es).length+([]:List Keyword).length+(if ([]:List Keyword).isEmpty then 0 else 1)<30))=true:=by rfl)
  (c:(apos.endLine==cpos.line)=true:=by rfl) (g:SE X e es:=by rfl) (a:(backTo cpos (starEach es X.env)).any (·.1)=false:=by rfl)
  (i:swapsWith (.Call (.Attribute o name apos) (e::es) [] cpos) (some (.Name x k)) pos.line X.env=pure false:=by rfl)
  (v:X.fn x=true\/X.env.scope.names.lookup x=some .local:=by first|exact .inl rfl|exact .inr rfl|assumption):
  PS X (.Assign [.Name x k] (.Call (.Attribute o name apos) (e::es) [] cpos) pos) (zu κ E (IE j l dp m)):=qv (MT q hi s (JO Hh slot f p t u b d c g a) i v) λ D σ H h=>by
 rw[n];exact Vv hs h
noncomputable def qN:FM:=λ xs vs=>match vs with
 | [y]=>if xs.length<sizeLine then some (xs++[y],.non) else none
 |_=>none
def CC:AH κ Ny qN:=λ β O H l xs ys vs us ws rt Q c b d e k=>by
 unfold qN at e
 split at e
 .obtain⟨h,e⟩:=jt e
  cases e;cases d with
  |cons a t=>cases t;exact⟨l,us,_,rfl,rfl,c,by rw[<-b.length];exact h,k _ _ (b.append (.cons a .nil)) .non⟩
 .cases e
noncomputable def mPop:FM:=λ xs vs=>match vs with
 | []=>match xs[xs.length-1]? with
  |some y=>some (xs.dropLast,y)
  |none=>none
 |_=>none
def Vx:AH κ rPop mPop:=λ β O H l xs ys vs us ws rt Q b a c e k=>by
 unfold mPop at e
 split at e
 .cases c
  cases q:xs[xs.length-1]? with
  |none=>rw[q]at e;cases e
  |some y=>
   rw[q]at e;cases e;obtain⟨u,d,f⟩:=a.get q;exact⟨l,us,u,rfl,rfl,b,by rw[<-a.length];exact d,k _ _ a.dropLast f⟩
 .cases e
noncomputable def DZ:FM:=λ xs vs=>match vs with
 | [.int i]=>if -(2 ^ 63)<=i/\i<2 ^ 63 then match seqIndex? i xs.length with
   |some k=>match xs[k]? with
    |some y=>some (xs.eraseIdx k,y)
    |none=>none
   |none=>none
  else none
 |_=>none
def Vy:AH κ N0 DZ:=λ β O H l xs ys vs us ws rt Q c b d e k=>by
 unfold DZ at e
 split at e
 .rename_i i
  by_cases hi: -(2 ^ 63)<=i/\i<2 ^ 63
  .rw[Ab hi]at e
   cases q:seqIndex? i xs.length with
   |none=>rw[q]at e;cases e
   |some j=>
    simp only[q]at e;cases q2:xs[j]? with
    |none=>rw[q2]at e;cases e
    |some y=>
     rw[q2]at e;cases e;obtain⟨u,f,g⟩:=b.get q2;cases d with
     |cons a t=>
      cases t;cases a;exact⟨l,us,i,j,u,rfl,rfl,c,hi.1,hi.2,by rw[<-b.length];exact q,f,k _ _ (b.eraseIdx j) g⟩
  .rw[Ac hi]at e;cases e
 .cases e
noncomputable def GE:FM:=λ _ vs=>match vs with
 | []=>some ([],.non)
 |_=>none
def Vz:AH κ N1 GE:=λ β O H l xs ys vs us ws rt Q a c b e k=>by
 unfold GE at e
 split at e
 .cases e;cases b;exact⟨l,us,rfl,rfl,a,k _ _ .nil .non⟩
 .cases e
end
section
variable{X:Cx}{κ:Kx}{E:XK}{F F':Fr}{σ σ':L2.St}{H H1 H':Hp}{Q:VK}{p:Addr}{e a b c o:Expr}{pos apos np cpos:Pos}{i:Nat}{D:Ends}
noncomputable def Qe:FM:=λ xs vs=>match vs with
 | [.lst zs]=>if xs.length+zs.length<=sizeLine then some (xs++zs,.non) else none
 |_=>none
def Kn:AH κ Nz Qe:=λ β O H l xs ys vs us ws rt Q c b d e k=>by
 unfold Qe at e
 split at e
 .obtain⟨h,e⟩:=jt e
  cases e;cases d with
  |cons a t=>
   cases t;cases a with
   |lst h1 h2 h3 h4=>exact⟨l,_,us,_,rfl,rfl,c,h1,by rw[<-b.length,<-h4.length];exact h,k _ _ (b.append h4) .non⟩
 .cases e
def IF(p i:P3)(e:E3):D3:=λ s h=>(e s h).bindS λ r h1=>match r.fz with
 |none=>.no
 |some y=>(p s h1).bindS λ f h2=>(i s h2).bindS λ j a=>match j,rdm s a f with
  |.x (.int k),some xs=>match qU xs.length k with
   |some n=>match wr3 s a (.lst (xs.set n y)) f with
    |some (s',h')=>.nx s' h'
    |none=>.no
   |none=>.no
  |_,_=>.no
def V0(h:zu κ E (IF dp di d) D σ H):tAsg (zi κ E d) (gSub (zh κ E dp) (zh κ E di) Ii) D σ H:=by
 obtain⟨F,p,e,o⟩:=h
 refine qW (K:=kE κ) p e o λ v H1 c h1 r e1 p1 o1=>?_
 cases z:r.fz with
 |none=>simp only[z]at o1;exact o1.elim
 |some y=>
  simp only[z]at o1;obtain⟨G,I⟩:=Post.fz p1 z;have s1:SExt F H (F.to c h1) H1:=SExt.of0 e e1
  refine qW (F:=F.to c h1) (K:=kP κ) G e (SOut.move s1 o1) λ R H2 a h2 f e2 g o2=>?_
  have s2:SExt (F.to c h1) H1 (F.to a h2) H2:=SExt.of0 (F:=F.to c h1) e e2
  refine qW (F:=F.to a h2) (K:=kP κ) g.1 e (SOut.move s2 o2) λ iv H3 b i j t u o3=>?_
  obtain⟨J,rj⟩:=u;have L:SExt (F.to a h2) H2 (F.to b i) H3:=SExt.of0 (F:=F.to a h2) e t;have A:=RfR.ext (F:=F.to a h2) (β':=b) (h':=i) g.1 t g.2;have B:Rep κ b F.O H3 y v:=(Rep.ext0 t (Rep.ext0 e2 I))
  match j,rj,o3 with
  |.s _,rj,o3=>exact o3.elim
  |.x (.int k),rj,o3=>
   cases q:rdm F.s i f with
   |none=>simp only[q]at o3;exact o3.elim
   |some xs=>
    simp only[q]at o3;cases q2:qU xs.length k with
    |none=>simp only[q2]at o3;exact o3.elim
    |some n=>
     simp only[q2]at o3;cases q3:wr3 F.s i (.lst (xs.set n y)) f with
     |none=>simp only[q3]at o3;exact o3.elim
     |some w=>
      obtain⟨s',h'⟩:=w;simp only[q3]at o3;obtain⟨l,us,ev,M,C,N⟩:=Kl (F:=F.to b i) e J A q q3;subst ev;cases (show Rep κ b F.O H3 (.int k) iv from rj)
      obtain⟨F',P,es,Q,m⟩:=N (us.set n v) (C.set B n);exact⟨l,us,k,n,rfl,rfl,M,by rw[<-C.length];exact q2,SOut.move L o3 F' σ _ P es Q m⟩
def V1(b:PE X e (zi κ E d))(c:PE X o (zh κ E dp))(hi:PE X ii (zh κ E di))
 (f:∀{te to a:TE},PE X e te->PE X o to->PE X ii a->PS X (.Assign [.Subscript o ii tp] e pos) (tAsg te (gSub to a Ii))):PS X (.Assign [.Subscript o ii tp] e pos) (zu κ E (IF dp di d)):=qv (f b c hi) λ D σ H h=>V0 h
noncomputable def yS(h:H3):Rf->Option (Str×List (Str×V3))
 |.x (.obj c fs)=>some (c,fs)
 |.x (.loc n)=>match h[n]? with
  |some (.ins c fs)=>some (c,fs)
  |_=>none
 |_=>none
def Ox{f:Rf}{v:V}{c:Str}{fs:List (Str×V3)}(b:Rel κ F σ H)(r:RfR κ F H f v)(e:yS F.h f=some (c,fs)):∃a C dx gs,v=.ref a/\κ.cl c=some C/\H a=some (.ins C dx gs)/\RepP κ F.β F.O H fs gs:=by
 cases f with
 |s i=>cases e
 |x y=>
  cases y<;>simp[yS]at e
  case obj c' fs'=>
   obtain⟨rfl,rfl⟩:=e;cases (show Rep κ F.β F.O H (.obj c' fs') v from r) with
   |obj h1 h2 h3 h4 h5=>exact⟨_,_,_,_,rfl,h1,h2,h5⟩
  case loc n=>
   cases (show Rep κ F.β F.O H (.loc n) v from r) with
   |loc h1 h2=>
    cases q:F.h[n]? with
    |none=>rw[q]at e;cases e
    |some c0=>
     rw[q]at e;cases c0<;>simp at e
     obtain⟨rfl,rfl⟩:=e
     rcases b.heap.cell n _ q with z|⟨a,ha,C,dx,gs,k1,k2,k3⟩
     .cases z
     .exact⟨a,C,dx,gs,h2 a ha,k1,k2,k3⟩
def Flds(X:Cx)(κ:Kx)(cs:List Str)(f:Str):Prop:=∀c∈cs,∀C,κ.cl c=some C->Cls X.K C/\NoAttr X.K C f
def Flds.nil:Flds X κ [] f:=λ c a=>by cases a
def ze(cs:List Str)(fl:Str)(p:P3):E3:=λ s h=>(p s h).bind λ f h1=>match yS h1 f with
 |some (c,fs)=>if c∈cs then match fs.lookup fl with
   |some x=>.ok (.v x) h1
   |none=>.no
  else .no
 |none=>.no
def Oy(i:Flds X κ cs fl)(j:PE X e (zh κ E d))(k:attributeBase e fl X.env (eval e X.env)=eval e X.env:=by rfl):PE X (.Attribute e fl pos) (zi κ E (ze cs fl d)):=yQ (SJ j k) λ σ H Q ⟨F,h,o⟩=>
 yu (K:=kP κ) z6 h o λ v H1 g h1 f e1 b o1=>by
  cases q:yS h1 f with
  |none=>simp only[q]at o1;exact o1.elim
  |some w=>
   obtain⟨c,fs⟩:=w;simp only[q]at o1
   by_cases hc:c∈cs
   .rw[Ab hc]at o1
    cases q2:fs.lookup fl with
    |none=>simp only[q2]at o1;exact o1.elim
    |some x=>
     simp only[q2]at o1;obtain⟨a,C,dx,gs,rfl,k1,k2,k3⟩:=Ox (F:=F.to g h1) b.1 b.2 q;obtain⟨y,l,m⟩:=k3.lookup q2;exact⟨a,C,dx,gs,y,rfl,k2,(i c hc C k1).1,(i c hc C k1).2,l,o1 g y H1 Ext.refl ⟨b.1,m⟩⟩
   .rw[Ac hc]at o1;exact o1.elim
noncomputable def AI(f:Str)(v:V3):List (Str×V3)->List (Str×V3)
 | []=>[(f,v)]
 | (g,x)::r=>if g=f then (g,v)::r else (g,x)::AI f v r
theorem RepP.putF(r:Rep κ β O H x y):∀{fs:List (Str×V3)}{gs:List (Str×V)},RepP κ β O H fs gs->RepP κ β O H (AI f x fs) (L2.putF f y gs)
 |_,_,.nil=>.cons r .nil
 |_,_,.cons (k:=k) q t=>by
  unfold AI L2.putF
  by_cases h:k=f
  .rw[Ab h,Ab h];exact .cons r t
  .rw[Ac h,Ac h];exact .cons q (RepP.putF r t)
def qE(cs:List Str)(fl:Str)(p:P3)(e:E3):D3:=λ s h=>(e s h).bindS λ r h1=>match r.fz with
 |none=>.no
 |some y=>(p s h1).bindS λ f h2=>match f with
  |.x (.loc n)=>match h2[n]? with
   |some (.ins c fs)=>if c∈cs/\fs.length<1000 then .nx s (h2.set n (.ins c (AI fl y fs))) else .no
   |_=>.no
  |_=>.no
def AJ(p:Flds X κ cs fl)(g:PE X o (zh κ E dp))(s:PE X value (zi κ E d))(hs:swapsWith value (some (.Attribute o fl pos')) pos.line X.env=pure false:=by rfl):PS X (.Assign [.Attribute o fl pos'] value pos) (zu κ E (qE cs fl dp d)):=qv (SK g s hs) λ D σ H ⟨F,i,h,o⟩=>by
 refine qW (K:=kE κ) i h o λ v H1 e h1 r e1 p1 o1=>?_
 cases z:r.fz with
 |none=>simp only[z]at o1;exact o1.elim
 |some y=>
  simp only[z]at o1;obtain⟨t,u⟩:=Post.fz p1 z;have s1:SExt F H (F.to e h1) H1:=SExt.of0 h e1
  refine qW (F:=F.to e h1) (K:=kP κ) t h (SOut.move s1 o1) λ A H2 b h2 f e2 j o2=>?_
  obtain⟨k,l⟩:=j;have s2:SExt (F.to e h1) H1 (F.to b h2) H2:=SExt.of0 (F:=F.to e h1) h e2;have m:Rep κ b F.O H2 y v:=Rep.ext0 e2 u
  match f,l,o2 with
  |.x (.loc n),l,o2=>
   cases q:h2[n]? with
   |none=>simp only[q]at o2;exact o2.elim
   |some c0=>
    match c0,q,o2 with
    |.ins c fs,q,o2=>
     simp only[q]at o2
     by_cases hc:c∈cs/\fs.length<1000
     .rw[Ab hc]at o2
      cases (show Rep κ b F.O H2 (.loc n) A from l) with
      |loc l1 l2=>
       rcases k.heap.cell n _ q with w|⟨a,g,C,dx,gs,k1,k2,k3⟩
       .cases w
       .have ev:=l2 a g
        subst ev;have ex:=λ o=>ID (H:=H2) (β:=b) (o:=o) g ⟨_,k2⟩
        refine⟨a,C,dx,gs,rfl,k2,(p c hc.1 C k1).1,(p c hc.1 C k1).2,by rw[<-k3.length];exact hc.2,?_⟩
        refine SOut.move s2 o2 (F.to b (h2.set n (.ins c (AI fl y fs)))) σ _ (SExt.of0 (F:=F.to b h2) h (ex _)) rfl rfl ?_
        exact Rel.next (F:=F.to b h2) k (ex _) (k.heap.wrLoc g ⟨C,dx,_,k1,yt,(RepP.putF m k3).ext0 (ex _)⟩)
     .rw[Ac hc]at o2;exact o2.elim
    |.lst _,q,o2|.dT _,q,o2|.dead,q,o2=>simp only[q]at o2;exact o2.elim
def zM(c m:Str)(f:F3)(p:P3)(a:A3):E3:=λ s h=>(p s h).bind λ g h1=>match g,yS h1 g with
 |.x x,some (c',fs)=>if c'=c/\fs.lookup m=none then (a s h1).bind λ gs h2=>match vals3 gs with
   |some vs=>f (x::vs) h2
   |none=>.no
  else .no
 |_,_=>.no
def Oz{C:Addr}{c m:Str}{f:F3}{dp:P3}{t:A3}{k:Nat}(y:κ.cl c=some C)(z:zo f k)(h:zi κ E (zM c m f dp t) σ H Q):JM C m (zn κ k f) [] E (zh κ E dp) (zI κ E t) σ H Q:=by
 obtain⟨F,l,o⟩:=h
 refine yu (K:=kP κ) z6 l o λ v H1 e h1 g e1 p o1=>?_
 obtain⟨r,j⟩:=p
 match g,j,o1 with
 |.s i,j,o1=>exact o1.elim
 |.x x,j,o1=>
  cases q:yS h1 (.x x) with
  |none=>simp only[q]at o1;exact o1.elim
  |some w=>
   obtain⟨c',fs⟩:=w;simp only[q]at o1
   by_cases hc:c'=c/\fs.lookup m=none
   .rw[Ab hc]at o1
    obtain⟨a,B,dx,gs,rfl,k1,k2,k3⟩:=Ox (F:=F.to e h1) r j q;rw[hc.1,y]at k1;cases k1
    refine⟨a,dx,gs,rfl,k2,k3.lookup_none hc.2,?_⟩
    refine yu (F:=F.to e h1) (K:=kA κ) z6 r o1 λ vs H2 b h2 fs2 e2 d o2=>?_
    cases q2:vals3 fs2 with
    |none=>simp only[q2]at o2;exact o2.elim
    |some xs=>
     simp only[q2]at o2;have u:=BU d.2 q2;have A:Rep κ b F.O H2 x (.ref a):=Rep.ext0 e2 j;rw[Bz]
     refine⟨F.O,b,x::xs,h2,?_,d.1.heap,.cons A u,FOut.of (F:=F.to b h2) d.1 o2⟩
     refine Hg λ n=>?_
     rw[z (x::xs) h2 (by rw[Ax,u.length];exact n)]at o2
     exact o2
   .rw[Ac hc]at o1;exact o1.elim
def Ko{C d:Addr}{c m:Str}{es:List Expr}{f:F3}{dp:P3}{t:A3}{k:Nat}{fd:FuncData}{ps:List Str}{n:Nat}{pl:Sem Bool}(g:κ.cl c=some C)(i:zo f n)(j:PE X o (zh κ E dp))(cl:Cls X.K C)(l:Meth X.K C m d)(p:FnOk X.prog X.w X.K X.mg X.base (XT X.prog X.w) k d fd ps (zn κ n f))(q:Room k X.A)(r:Binds X.K fd ps [])(s:jF (XT X.prog X.w) X E)
 (u:PA X (e::es) (zI κ E t)) (a:SE X e es:=by rfl) (b:BA X pos es:=by rfl)
 (v:eval (.Call (.Attribute o m apos) (e::es) [] pos) X.env=(do
  let ov <-eval o X.env
  standAt apos.atName
  let (f,first) <-holding [ov] (getMethod ov m pl)
  callWith pos f first (backTo pos (starEach (e::es) X.env)) (backToKw pos (keywordEach [] X.env))):=by rfl):
 PE X (.Call (.Attribute o m apos) (e::es) [] pos) (zi κ E (zM c m f dp t)):=yQ (SS j cl l p q r .nil s u a b v) λ _ _ _ h=>Oz g i h
def Qi{C b:Addr}{c m:Str}{f:F3}{dp:P3}{k:Nat}{fd:FuncData}{ps:List Str}{n:Nat}{pl:Sem Bool}(d:κ.cl c=some C)(e:zo f n)(g:PE X o (zh κ E dp))(cl:Cls X.K C)(i:Meth X.K C m b)(j:FnOk X.prog X.w X.K X.mg X.base (XT X.prog X.w) k b fd ps (zn κ n f))(l:Room k X.A)(p:Binds X.K fd ps [])(q:jF (XT X.prog X.w) X E)
  (r:eval (.Call (.Attribute o m apos) [] [] pos) X.env=(do
   let ov <-eval o X.env
   standAt apos.atName
   let (f,first) <-holding [ov] (getMethod ov m pl)
   callWith pos f first (backTo pos (starEach [] X.env)) (backToKw pos (keywordEach [] X.env))):=by rfl):
  PE X (.Call (.Attribute o m apos) [] [] pos) (zi κ E (zM c m f dp aNil)):=yQ (SU g cl i j l p .nil q r) λ σ H Q h=>by
 refine tOf.mono (Oz d e h) λ x H1 ⟨a,dx,fs,h1,h2,s,t⟩=>⟨a,dx,fs,h1,h2,s,?_⟩
 obtain⟨F1,u,v⟩:=t;exact v F1.β [] H1 Ext.refl ⟨u,.nil⟩
def yO(c:Str)(f:F3)(a:A3):E3:=λ s h=>(a s h).bind λ fs h1=>match vals3 fs with
 |some vs=>match f (.loc h1.length::vs) (h1++[.ins c []]) with
  |.ok (.v .non) h2=>.ok (.v (.loc h1.length)) h2
  |.ex x h2=>.ex x h2
  |_=>.no
 |none=>.no
def O0{C:Addr}{c:Str}{f:F3}{k:Nat}(N:κ.cl c=some C)(P:zo f k){b:AO}{h1:H3}{H1:Hp}{xs:List V3}{vs:List V}{x dx:Addr}(l:Rel κ (F.to b h1) σ H1)(J:Reps κ b F.O H1 xs vs)(y:H1 x=none)(B:H1 dx=none)(D:dx≠x){K:XK}{L:VK}
  (o:match f (.loc h1.length::xs) (h1++[.ins c []]) with
   |.ok (.v .non) h2=> ∀β' H',Ext No b H1 β' H'->Rel κ (F.to β' h2) σ H'->Rep κ β' F.O H' (.loc h1.length) (.ref x)->L .non H'
   |.ex x' h2=> ∀β' H',Ext No b H1 β' H'->RelH κ F.O β' h2 H'->XOk κ K x' β' F.O H'
   |_=>False):zn κ k f (.ref x::vs) (zk (zk H1 dx (.own x)) x (.ins C dx [])) L K:=by
 have p:b.length=h1.length:=l.heap.len;have M:(zk H1 dx (.own x)) x=none:=by rw[zK (Bm D)];exact y
 have kp:∀a u,H1 a=some u->(zk (zk H1 dx (.own x)) x (.ins C dx [])) a=some u:=λ a u d=>by rw[zK (qA d y),zK (qA d B)];exact d
 obtain⟨nx,Q⟩:=l.heap.off_new y;have ex:Ext No b H1 (b++[some x]) (zk (zk H1 dx (.own x)) x (.ins C dx [])):=⟨λ a u d E _=>⟨kp a u d,λ z=>by
   rcases Bc.mp z with z|z
   .exact E z
   .have:=Au.mp z
    cases this;rw[y]at d;cases d⟩,by simp,λ i a hi h=>by rw[Bh hi]at h;exact h,λ a u d=>⟨u,kp a u d⟩,λ i a hi h=>by
   rw[Bo hi]at h;have:a=x:=by have:=Al h;simp at this;exact this
   rw[this];exact y⟩
 have R:RelH κ F.O (b++[some x]) (h1++[.ins c []]) (zk (zk H1 dx (.own x)) x (.ins C dx [])):=by
  refine⟨by simp[p],λ i j a e g=>?_,λ a d z=>?_,λ a d=>let ⟨u,q,n⟩:=l.heap.trk a d;⟨u,kp a u q,n⟩,λ i a q=>?_,λ i c' t=>?_⟩
  .rcases C9 i b.length with hi|hi<;>rcases C9 j b.length with hj|hj
   .rw[Bh hi]at e;rw[Bh hj]at g;exact l.heap.inj i j a e g
   .rw[Bh hi]at e;rw[Bo hj]at g
    have:a=x:=by
     have:=Al g;simp at this;exact this
    subst this;exact absurd (Al e) nx
   .rw[Bo hi]at e;rw[Bh hj]at g
    have:a=x:=by
     have:=Al e;simp at this;exact this
    subst this;exact absurd (Al g) nx
   .have s:i<(b++[some x]).length:=(Ao.mp e).1
    have G:j<(b++[some x]).length:=(Ao.mp g).1;simp at s G;lia
  .rcases Bc.mp z with z|z
   .exact l.heap.off a d z
   .have:=Au.mp z
    cases this;exact Q d
  .rcases C9 i b.length with hi|hi
   .rw[Bh hi]at q
    obtain⟨u,H,n⟩:=l.heap.btr i a q;exact⟨u,kp a u H,n⟩
   .rw[Bo hi]at q
    have:a=x:=by have:=Al q;simp at this;exact this
    subst this;exact⟨_,yt,by intro _ z;cases z⟩
  .rcases C9 i h1.length with hi|hi
   .rw[Bh hi]at t
    refine (l.heap.cell i c' t).imp id λ ⟨a,d,q⟩=>⟨a,by rw[Bh (by rw[p];exact hi)];exact d,q.ext ex (λ _ z=>z.elim) (λ _ _ _ n=>n) λ u H=>kp a u H⟩
   .rw[Bo hi]at t
    have s:i-h1.length=0:=by
     have:=(Ao.mp t).1;simp at this;exact this
    rw[s]at t;cases t;have S:i=h1.length:=by lia
    subst S;exact .inr ⟨x,by rw[<-p];simp,C,dx,[],N,yt,.nil⟩
 have A:Rep κ (b++[some x]) F.O (zk (zk H1 dx (.own x)) x (.ins C dx [])) (.loc h1.length) (.ref x):= .loc (by simp[p]) λ a d=>by rw[<-p]at d;simp at d;rw[d]
 refine⟨F.O,b++[some x],.loc h1.length::xs,h1++[.ins c []],?_,R,.cons A (J.ext0 ex),?_⟩
 .refine Hg λ n=>?_
  rw[P (.loc h1.length::xs) _ (by rw[Ax,J.length];exact n)]at o
  exact o
 .cases q2:f (.loc h1.length::xs) (h1++[.ins c []]) with
  |no=>simp only[q2]at o
  |ex x' h2=>simp only[q2]at o;exact λ β' H' w T=>o β' H' (ex.trans0 w) T
  |ok r h2=>
   have E:r=.v .non:=by
    cases r with
    |m _=>simp only[q2]at o
    |v z=>cases z<;>first|rfl|simp only[q2]at o
   subst E;simp only[q2]at o;intro β' v H' w U;obtain⟨I,W⟩:=U;cases W
   refine o β' H' (ex.trans0 w) (Rel.next (F:=F.to b h1) l (ex.trans0 w) I) (.loc ?_ λ a d=>?_)
   .show h1.length<β'.length;have:=w.len;simp at this;lia
   .have:=w.bet h1.length a (by simp[p]) d
    rw[<-p]at this;simp at this;rw[this]
def V2{C:Addr}{c:Str}{f:F3}{t:A3}{k:Nat}(p:κ.cl c=some C)(s:zo f k)(h:zi κ E (yO c f t) σ H Q):FH C (zn κ k f) [] E (zI κ E t) σ H Q:=by
 obtain⟨F,d,o⟩:=h
 refine yu (K:=kA κ) z6 d o λ vs H1 e h1 fs e1 b o1=>λ x dx u g i=>?_
 cases q:vals3 fs with
 |none=>simp only[q]at o1;exact o1.elim
 |some xs=>
  simp only[q]at o1;rw[Bz]
  refine O0 p s b.1 (BU (F:=F.to e h1) b.2 q) u g i ?_
  cases q2:f (.loc h1.length::xs) (h1++[.ins c []]) with
  |no=>simp only[q2]at o1;exact o1
  |ex x' h2=>simp only[q2]at o1;exact λ β' H' j l=>(o1 β' H' j (l.sub λ a n=>.inr (.inr n))).sub λ a n=>.inr (.inr n)
  |ok r h2=>
   cases r with
   |m _=>simp only[q2]at o1;exact o1.elim
   |v z=>
    cases z<;>simp only[q2]at o1<;>first|exact o1.elim|exact λ β' H' j l w=>⟨rfl,o1 β' (.ref x) H' j ⟨l,w⟩⟩
def EA{C d:Addr}{c x:Str}{es:List Expr}{f:F3}{t:A3}{k:Nat}{fd:FuncData}{ps:List Str}{n:Nat}(g:κ.cl c=some C)(i:zo f n)(M:Mk X.K C d)(j:FnOk X.prog X.w X.K X.mg X.base (XT X.prog X.w) k d fd ps (zn κ n f))(l:Room (k+1) X.A)(m:Gl X x)(o:X.mg x=some (.ref C))(p:Binds X.K fd ps [])(q:jF (XT X.prog X.w) X E)
 (r:PA X (e::es) (zI κ E t)) (a:(x==("__debug__" :Str))=false:=by decide) (s:SE X e es:=by rfl) (b:BA X pos es:=by rfl):
 PE X (.Call (.Name x np) (e::es) [] pos) (zi κ E (yO c f t)):=yQ (SW M j l m o p .nil q r a s b) λ _ _ _ h=>V2 g i h
end
section
variable{X:Cx}{κ:Kx}{E:XK}{F F':Fr}{σ σ':L2.St}{H H1 H':Hp}{Q:VK}{p:Addr}{e a b c o:Expr}{pos apos np cpos:Pos}{i:Nat}{D:Ends}{β:AO}{O:Addr->Prop}
def O1(b:some x∈β):Mp n β O H (β.take n) (λ a=>a=x\/O a) H:=
 ⟨λ _ _ h p q=>⟨h,λ z=>p (Ek z),λ z=>z.elim (λ e=>p (e ▸ b)) q⟩,λ m l h=>⟨by rw[Ay];lia,λ a w=>by rw[Co l]at w;exact w⟩⟩
open Classical in
def eObj(e:E3):E3:=λ s h=>(e s h).bind λ r h1=>match r with
 |.v (.loc n)=>match h1[n]? with
  |some (.ins c fs)=>if n=h.length/\h1=h++[.ins c fs]/\lowF n fs=true then .ok (.m (.ins c fs)) h else .no
  |_=>.no
 |_=>.no
def V4{b:AO}{h1:H3}{n:Nat}{c:Str}{fs:List (Str×V3)}{v:V}(f:Rel κ F σ H)(e1:Ext No F.β H b H1)(e:Rel κ (F.to b h1) σ H1)(L:Rep κ b F.O H1 (.loc n) v)(y:n=F.h.length)(A:h1=F.h++[.ins c fs])(p:lowF n fs=true):
  Ext No F.β H (b.take n) H1/\Post κ (Nw H) (F.to (b.take n) F.h) σ H1 (.m (.ins c fs)) v:=by
 have B:b.length=h1.length:=e.heap.len;have D:F.β.length=F.h.length:=f.heap.len;have K:b.length=n+1:=by rw[B,A];simp[y]
 have M:h1[n]? =some (.ins c fs):=by rw[A,y];simp
 rcases e.heap.cell n _ M with w|⟨x,o,C,dx,gs,k1,k2,k3⟩
 .cases w
 have o:b[n]? =some (some x):=o;have ev:v=.ref x:=by cases L with|loc _ l2=>exact l2 x o
 subst ev;have r:some x∈b:=Al o;have E:some x∉b.take n:=λ z=>by
  obtain⟨j,s⟩:=B7 z;have G:j<n:=by have:=(Ao.mp s).1;rw[Ay]at this;lia
  rw[Co G]at s;have:=e.heap.inj j n x s o;lia
 have t:H x=none:=e1.nwb n x (by lia) o
 have ex:Ext No F.β H (b.take n) H1:=⟨λ a u d N m=>by
   obtain⟨q1,q2⟩:=e1.keep a u d N m;exact⟨q1,λ z=>q2 (Ek z)⟩,by rw[Ay];lia,λ i a hi h=>by
   rw[Co (by lia)]at h;exact e1.bet i a hi h,e1.there,λ i a hi h=>by
   have:=(Ao.mp h).1;rw[Ay]at this;lia⟩
 have P:RelH κ (λ a=>a=x\/F.O a) (b.take n) F.h H1:=by
  refine⟨by rw[Ay];lia,λ i j a g k=>?_,λ a d z=>?_,λ a d=>?_,λ i a q=>?_,λ i c' I=>?_⟩
  .have hi:i<n:=by have:=(Ao.mp g).1;rw[Ay]at this;lia
   have s:j<n:=by have:=(Ao.mp k).1;rw[Ay]at this;lia
   rw[Co hi]at g;rw[Co s]at k;exact e.heap.inj i j a g k
  .rcases d with d|d
   .subst d;exact E z
   .exact e.heap.off a d (Ek z)
  .rcases d with d|d
   .subst d;exact⟨_,k2,by intro _ z;cases z⟩
   .exact e.heap.trk a d
  .have hi:i<n:=by have:=(Ao.mp q).1;rw[Ay]at this;lia
   rw[Co hi]at q;exact e.heap.btr i a q
  .have hi:i<n:=by rw[y];exact (Ao.mp I).1
   have J:h1[i]? =some c':=by rw[A,Bh (by lia)];exact I
   have l:c'=.dead\/lowC n c':=(f.heap.cell i c' I).imp id λ ⟨a,_,q⟩=>by have:=q.low;rw[D,<-y]at this;exact this
   rcases l with z|l
   .exact .inl z
   .exact (e.heap.cell i c' J).imp id λ ⟨a,d,q⟩=>⟨a,by rw[Co hi];exact d,q.map (O1 r) (λ _ q=>q) l⟩
 refine⟨ex,x,rfl,f.nextNew ex P t,⟨C,dx,gs,k1,k2,(k3.map (O1 r) (lowF_iff.mp p)).sub λ a d=>?_⟩,t⟩
 rcases d with z|z
 .rcases Af.mp z with z|z
  .exact .inl z
  .exact .inr (.inl z)
 .exact .inr (.inr z)
def Kp(h:PE X e (zi κ E d)):PE X e (zi κ E (eObj d)):=yQ h λ σ H Q ⟨F,a,o⟩=>by
 refine⟨F,a,?_⟩
 unfold eObj at o;cases q:d F.s F.h with
 |no|ex x h1=>rw[q]at o;exact o
 |ok r h1=>
  rw[q]at o;intro c v H1 e1 p1;simp only[Res.bind]at o
  split at o
  .split at o
   .split at o
    .rename_i f
     obtain⟨g,i,b⟩:=f;obtain⟨ex,ps⟩:=V4 a e1 p1.1 p1.2 g i b;exact o _ v H1 ex ps
    .exact o.elim
   .exact o.elim
  .exact o.elim
def iS(p:P3):I3:=λ s h=>(p s h).bind λ f h1=>match f with
 |.x (.str z)=>.ok ⟨[],z.cps.toList.map λ c=>.str ⟨#[c]⟩,λ _=>True⟩ h1
 |_=>.no
def V5(j:PE X l (zh κ E d)):PI X tg l (yG κ E (iS d)):=PIw (UJ j) λ σ H R ⟨F,e,o⟩=>
 yu (K:=kP κ) km_I e o λ v H1 a h1 f e1 g o1=>by
  obtain⟨k,h⟩:=g
  match f,h,o1 with
  |.x (.str z),h,o1=>
   cases (show Rep κ a F.O H1 (.str z) v from h)
   refine⟨z,rfl,o1 a _ H1 Ext.refl ⟨k,[],.nil,λ F' σ' H' b _ _ i=>?_⟩⟩
   have el:(z.cps.toList.map λ c=>V3.str ⟨#[c]⟩).length=z.length:=by simp[Str.length]
   refine⟨λ hi=>⟨show i<z.length by rw[el]at hi;exact hi,λ x m ⟨e1,c,n,e2⟩=>?_⟩,λ hi=>show z.length<=i by rw[el]at hi;exact hi⟩
   subst e1;subst e2
   refine⟨.str ⟨#[c]⟩,?_,Ext.refl,b,.str _⟩
   rw[Az,Bx,n];rfl
noncomputable def oInS(a:Bool):F2:=λ _ _ x y=>match x,y with
 |.x (.str i),.x (.str j)=>some (.v (.bl (if a then !(!(Builtin.Str.occurrences j i 0 j.length 1).isEmpty) else !(Builtin.Str.occurrences j i 0 j.length 1).isEmpty)))
 |_,_=>none
def O2:OpSim κ (λ x y H Q=> ∃i j,x=.str i/\y=.str j/\Q (.bl (!(Builtin.Str.occurrences j i 0 j.length 1).isEmpty)) H) (oInS false):=λ F σ H x y z v w Q a b c e k=>by
 unfold oInS at e
 split at e
 .rename_i i j
  cases e;cases (show Rep κ F.β F.O H (.str i) v from b)
  cases (show Rep κ F.β F.O H (.str j) w from c)
  exact⟨i,j,rfl,rfl,k _ H Ext.refl ⟨a,.bl _⟩⟩
 .cases e
def inO(c:Bool)(s:S3)(h:H3)(x y:Rf):Option Bool:=match x with
 |.x a=>match (match y with | .x (.tup xs)=>some xs|f=>rdl s h f) with
  |some xs=>(zG (λ b=>zU h 8 b a) xs).map λ bs=>if c then !bs.any id else bs.any id
  |none=>none
 |_=>none
end
section
variable{X:Cx}{κ:Kx}{E:XK}{F F':Fr}{σ σ':L2.St}{H H1 H':Hp}{Q:VK}{p:Addr}{e a b c o:Expr}{es:List Expr}{pos apos np cpos:Pos}{i:Nat}{D:Ends}
def yN(a:Room k A):A.units+9<cLine:=by have:=a.units;lia
def Flds.cons{cs:List Str}{c f:Str}{C:Addr}(b:κ.cl c=some C)(cl:Cls X.K C)(d:NoAttr X.K C f)(r:Flds X κ cs f):Flds X κ (c::cs) f:=λ c' e g a=>by
 rcases Af.mp e with z|z
 .subst z;rw[b]at a;cases a;exact⟨cl,d⟩
 .exact r c' z g a
def je:∀xs s s',gsNil xs s=some s'->xs.length=0:=λ xs s s' e=>by
 cases xs with
 |nil=>rfl
 |cons _ _=>cases e
def ya(h:∀xs s s',gs xs s=some s'->xs.length=n):∀xs s s',gsCons g gs xs s=some s'->xs.length=n+1:=λ xs s s' e=>by
 cases xs with
 |nil=>cases e
 |cons x r=>
  simp only[gsCons]at e;cases q:g x s with
  |none=>rw[q]at e;cases e
  |some s1=>rw[q]at e;rw[Ax,h r s1 s' e]
def sAug(i:Nat)(f:F2)(p:P3):D3:=λ s h=>match s[i]? with
 |some (some (.v x))=>(p s h).bindS λ y h1=>match f s h1 (.x x) y with
  |some (.v z)=>.nx (s.set i (some (.v z))) h1
  |_=>.no
 |_=>.no
def Kq:OpSim κ (ipI λ i j=>i+j) AE:=sim_addI
def Kr:OpSim κ (ipI λ i j=>i-j) zV:=jE
def O4(hs:OpSim κ ti f)(k:∀{te:TE},PE X e te->PS X (.AugAssign (.Name x pos') op e pos) (tAug i te ti))(l:PE X e (zh κ E d)):PS X (.AugAssign (.Name x pos') op e pos) (zu κ E (sAug i f d)):=qv (k l) λ D σ H ⟨F,c,h,o⟩=>by
 unfold sAug at o;cases q:F.s[i]? with
 |none=>rw[q]at o;exact o.elim
 |some z=>
  rw[q]at o
  match z,q,o with
  |none,q,o|some (.m _),q,o=>exact o.elim
  |some (.v x3),q,o=>
   obtain⟨v,h1,h2⟩:=c.slot i _ q
   refine⟨v,h1,qW (K:=kP κ) c h o λ w H1 b a y e1 g o1=>?_⟩
   have j:i<F.s.length:=(Ao.mp q).1;cases q2:f F.s a (.x x3) y with
   |none=>simp only[q2]at o1;exact o1.elim
   |some z=>
    refine hs (F.to b a) σ H1 (.x x3) y z v w _ g.1 (show Rep κ b F.O H1 x3 v from Rep.ext0 e1 h2) g.2 q2 λ u H2 e2 p2=>?_
    match z,q2,p2,o1 with
    |.m _,q2,p2,o1=>simp only[q2]at o1;exact o1.elim
    |.v z,q2,p2,o1=>
     simp only[q2]at o1;have s1:SExt F H (F.to b a) H1:=SExt.of0 h e1;have s2:SExt (F.to b a) H1 (F.to b a) H2:=SExt.of0 (F:=F.to b a) (h':=a) h e2;exact o1 ((F.to b a).setV i z) _ H2 ((s1.trans s2).trans (SExt.setN h)) rfl rfl (p2.1.setV p2.2 j)
def qh(e:E3):E3:=λ s h=>(e s h).bind λ r h1=>match r with
 |.m c=>.ok (.v (.loc h1.length)) (h1++[c])
 |.v x=>.ok (.v x) h1
def IG(b:O x)(hs:∀a,O' a->O a):Mp n β O H (β++[some x]) O' H:=
 ⟨λ _ _ h p q=>⟨h,λ z=>(Bc.mp z).elim p λ z=>q (by cases Au.mp z;exact b),λ z=>q (hs _ z)⟩,λ m _ l=>⟨by rw[Ar];lia,λ a w=>by rw[Bh l]at w;exact w⟩⟩
theorem Rel.cell{c:C3}{x:Addr}(g:Rel κ (F.with x) σ H)(l:CellR κ F.β (F.with x).O H c x):Rel κ (F.to (F.β++[some x]) (F.h++[c])) σ H/\Rep κ (F.β++[some x]) F.O H (.loc F.h.length) (.ref x):=by
 have k:F.β.length=F.h.length:=g.heap.len;have nx:some x∉F.β:=g.offp;have r: ¬F.O x:=g.apart;have e:(F.with x).O x:= .inl Aj
 have hs:∀a,F.O a->(F.with x).O a:=λ a f=>Fr.O_with f
 have rd:=g.drop;have b:∀{i:Nat}{a:Addr},F.β.length<=i->(F.β++[some x])[i]? =some (some a)->a=x/\i=F.β.length:=λ {i a} hi h=>by
  have h0:=(Ao.mp h).1;rw[Bo hi]at h;have:=Al h;simp at this;simp at h0;exact⟨this,by lia⟩
 refine⟨⟨⟨?_,λ i j a h1 h2=>?_,λ a f z=>?_,rd.heap.trk,λ i a q=>?_,λ i c' d=>?_⟩,rd.slen,rd.llen,rd.linj,rd.lt,rd.lo,rd.to,rd.tn,λ i y s=>?_⟩,?_⟩
 .show (F.β++[some x]).length=(F.h++[c]).length;simp[k]
 .have h1:(F.β++[some x])[i]? =some (some a):=h1
  have h2:(F.β++[some x])[j]? =some (some a):=h2
  rcases C9 i F.β.length with hi|hi<;>rcases C9 j F.β.length with hj|hj
  .rw[Bh hi]at h1;rw[Bh hj]at h2;exact g.heap.inj i j a h1 h2
  .obtain⟨rfl,_⟩:=b hj h2;rw[Bh hi]at h1;exact absurd (Al h1) nx
  .obtain⟨rfl,_⟩:=b hi h1;rw[Bh hj]at h2;exact absurd (Al h2) nx
  .have n:=(b hi h1).2;have o:=(b hj h2).2;lia
 .have z:some a∈F.β++[some x]:=z
  rcases Bc.mp z with z|z
  .exact rd.heap.off a f z
  .have:=Au.mp z;cases this;exact r f
 .have q:(F.β++[some x])[i]? =some (some a):=q
  rcases C9 i F.β.length with hi|hi
  .rw[Bh hi]at q;exact g.heap.btr i a q
  .rw[(b hi q).1];exact g.heap.trk x e
 .have d:(F.h++[c])[i]? =some c':=d
  rcases C9 i F.h.length with hi|hi
  .rw[Bh hi]at d
   refine (g.heap.cell i c' d).imp id λ ⟨a,f,q⟩=>⟨a,?_,q.map (IG e hs) (λ _ q=>q) q.low⟩
   show (F.β++[some x])[i]? =_;rw[Bh (by lia)];exact f
  .rw[Bo hi]at d
   have h0:=(Ao.mp d).1;simp at h0;rw[h0]at d;cases d;have t:i=F.h.length:=by lia
   subst t
   refine .inr ⟨x,?_,l.map (IG e hs) (λ _ q=>q) l.low⟩
   show (F.β++[some x])[F.h.length]? =_;rw[<-k];simp
 .obtain⟨v,h1,h2⟩:=g.slot i y s
  refine⟨v,h1,?_⟩
  cases y with
  |v y=>exact Rep.map (IG e hs) h2 h2.low
  |m c=>obtain⟨a,n,o,p⟩:=h2;exact⟨a,n,o,p.map (IG e hs) (λ _ q=>q) p.low⟩
 .refine .loc (by simp[k]) λ a f=>?_
  rw[<-k]at f;simp at f;rw[f]
def O5(h:zi κ E (qh d) σ H Q):zi κ E d σ H Q:=by
 obtain⟨F,f,o⟩:=h
 refine⟨F,f,?_⟩
 unfold qh at o;cases q:d F.s F.h with
 |no|ex x h1=>rw[q]at o;exact o
 |ok r h1=>
  rw[q]at o;intro b v H1 e1 p1;cases r with
  |v x=>exact o b v H1 e1 p1
  |m c=>
   obtain⟨x,rfl,j,l,k⟩:=p1;obtain⟨n,p⟩:=Rel.cell (F:=F.to b h1) j l;have nx:some x∉b:=j.offp
   refine o (b++[some x]) (.ref x) H1 ⟨λ a u g t m=>?_,by rw[Ar];have:=e1.len;lia,λ i a hi e=>?_,e1.there,λ i a hi e=>?_⟩ ⟨n,p⟩
   .obtain⟨q1,q2⟩:=e1.keep a u g t m
    refine⟨q1,λ z=>?_⟩
    rcases Bc.mp z with z|z
    .exact q2 z
    .have:=Au.mp z;cases this
     rw[k]at g;cases g
   .rw[Bh (by have:=e1.len;lia)]at e
    exact e1.bet i a hi e
   .rcases C9 i b.length with h2|h2
    .rw[Bh h2]at e;exact e1.nwb i a hi e
    .rw[Bo h2]at e
     have:a=x:=by have:=Al e;simp at this;exact this
     rw[this];exact k
def r_gl(h:PE X e (zi κ E d)):PE X e (zi κ E (qh d)):=yQ h λ _ _ _=>O5
def jW(a:Bool):F2:=λ s h x y=>(inO a s h x y).map λ b=>.v (.bl b)
def rInT(κ:Kx)(a:Bool):R2:=λ v w H Q=> ∃F σ x y b,Rel κ F σ H/\RfR κ F H x v/\RfR κ F H y w/\inO a F.s F.h x y=some b/\Q (.bl b) H
def V6:OpSim κ (rInT κ neg) (jW neg):=λ F σ H x y z v w Q a c d e k=>by
 unfold jW at e;cases q:inO neg F.s F.h x y with
 |none=>rw[q]at e;cases e
 |some b=>rw[q]at e;cases e;exact⟨F,σ,x,y,b,a,c,d,q,k _ H Ext.refl ⟨a,.bl _⟩⟩
def V7:OpSim κ (rInT κ false) (jW false):=V6
def V8(g:RelH κ F.O F.β h H)(j:F.h=h)(i:∀{x d z:V3} {v:V} {b c:Bool},Rep κ F.β F.O H x v->Rep κ F.β F.O H d v->zU h n x z=some b->zU h n d z=some c->b=c):
  ∀{xs a zs:List V3}{vs:List V}{b c:Bool},Reps κ F.β F.O H xs vs->Reps κ F.β F.O H a vs->qc (zU h n) xs zs=some b->qc (zU h n) a zs=some c->b=c:=by
 intro xs
 induction xs with
 |nil=>intro a zs vs b c e f e1 e2;cases e;cases f;rw[e1]at e2;cases e2;rfl
 |cons x xs ihx=>
  intro a zs vs b c e f e1 e2;cases e with
  |cons a1 t1=>
   cases f with
   | @cons d _ a _ a2 t2=>
    cases zs with
    |nil=>unfold qc at e1 e2;cases e1;cases e2;rfl
    |cons z zs=>
     unfold qc at e1 e2;cases q1:zU h n x z with
     |none=>simp only[q1]at e1;cases e1
     |some c1=>
      cases q2:qc (zU h n) xs zs with
      |none=>simp only[q1,q2]at e1;cases e1
      |some c2=>
       cases q3:zU h n d z with
       |none=>simp only[q3]at e2;cases e2
       |some c3=>
        cases q4:qc (zU h n) a zs with
        |none=>simp only[q3,q4]at e2;cases e2
        |some c4=>
         simp only[q1,q2]at e1;simp only[q3,q4]at e2;cases e1;cases e2;rw[i a1 a2 q1 q3,ihx t1 t2 q2 q4]
theorem O6(g:RelH κ F.O F.β F.h H):∀(n:Nat){x i z:V3}{v:V}{b l:Bool},Rep κ F.β F.O H x v->Rep κ F.β F.O H i v->zU F.h n x z=some b->zU F.h n i z=some l->b=l
 |0,x,i,z,v,b,l,rx,rx',e,e'=>by
  have kx:=jX g rx;have f:=jX g rx';unfold zU at e e';cases h1:qw F.h x<;>cases h2:qw F.h i<;>cases h3:qw F.h z<;>simp only[h1,h2,h3]at e e' kx f<;>first|(cases e;done)|(cases e';done)|skip
  rw[kx.1]at f;rw[f.1]at e;rw[e]at e';cases e';rfl
 |n+1,x,i,z,v,b,l,rx,rx',e,e'=>by
  have kx:=jX g rx;have f:=jX g rx';unfold zU at e e';cases h1:qw F.h x<;>cases h2:qw F.h i<;>cases h3:qw F.h z<;>simp only[h1,h2,h3]at e e' kx f<;>first|(cases e;done)|(cases e';done)|skip
  .rw[kx.1]at f
   rw[f.1]at e;rw[e]at e';cases e';rfl
  .rename_i xs j zs
   obtain⟨a,us,ev,k1,m⟩:=kx;obtain⟨r,p,k,k2,o⟩:=f;rw[ev]at k;cases k;rw[k1]at k2;cases k2;have q:xs.length=j.length:=by rw[m.length,o.length]
   cases q1:qc (zU F.h n) xs zs with
   |none=>rw[q1]at e;cases e
   |some c1=>
    cases q2:qc (zU F.h n) j zs with
    |none=>rw[q2]at e';cases e'
    |some c2=>
     rw[q1]at e;rw[q2]at e';cases e;cases e';rw[V8 g rfl (λ a b c d=>O6 g n a b c d) m o q1 q2,q]
end
section
variable{X:Cx}{κ:Kx}{E:XK}{F F':Fr}{σ σ':L2.St}{H H1 H':Hp}{Q:VK}{p:Addr}{e a b c o:Expr}{es:List Expr}{pos apos np cpos:Pos}{i:Nat}{D:Ends}
theorem O7{α β:Type}{f:α->Option β}:∀{l:List α}{m:List β},zG f l=some m->l.length=m.length/\∀(j:Nat) x,l[j]? =some x->∃y,m[j]? =some y/\f x=some y
 | [],_,e=>by cases e;exact⟨rfl,λ j x h=>by simp at h⟩
 |x::r,m,e=>by
  obtain⟨y,d,h1,h2,rfl⟩:=FY e;obtain⟨a,b⟩:=O7 h2
  refine⟨by simp[a],λ j c h=>?_⟩
  cases j with
  |zero=>simp at h;subst h;exact⟨y,rfl,h1⟩
  |succ j=>exact b j c (by simpa using h)
open Classical in
def O8(I:Inv X pins σ2 H s)(g:RelH κ F.O F.β F.h H)(t:Reps κ F.β F.O H xs us)(w:Vals us its)(M:Rep κ F.β F.O H x3 v)(x:RelV v vv)(q:zG (λ b=>zU F.h 8 b x3) xs=some bs)(N:A.units+8<cLine):
  ∃e:Value->Bool,(∀y,y∈its.toArray->SeqAt.EqAt A s y vv (e y))/\its.toArray.any e=bs.any id:=by
 obtain⟨Q,P⟩:=O7 q;have R:=t.length;have S:=w.length
 let e:Value->Bool:=λ y=>decide (∃(j:Nat)(z:V3),xs[j]? =some z/\its[j]? =some y/\zU F.h 8 z x3=some true)
 have a:∀(j:Nat)(y:Value),its[j]? =some y->∃z u b,xs[j]? =some z/\us[j]? =some u/\RelV u y/\Rep κ F.β F.O H z u/\bs[j]? =some b/\zU F.h 8 z x3=some b/\e y=b:=λ j y c=>by
  have d:j<its.length:=(Ao.mp c).1;obtain⟨u,i,K⟩:=t.get (zX (show j<xs.length by lia))
  obtain⟨T,k,l⟩:=w.get i;rw[c]at k;cases k;obtain⟨b,B,f⟩:=P j _ (zX (show j<xs.length by lia))
  refine⟨_,u,b,zX (show j<xs.length by lia),i,l,K,B,f,?_⟩
  cases b with
  |true=>exact Cd ⟨j,_,zX (show j<xs.length by lia),c,f⟩
  |false=>
   refine Bu λ ⟨j',U,h1,h2,m⟩=>?_
   obtain⟨V,C,D⟩:=t.get h1;obtain⟨W,n,E⟩:=w.get C;rw[h2]at n;cases n;have:=RelV.inj l E;subst this;have:=O6 g 8 K D f m;cases this
 refine⟨e,λ y c=>?_,?_⟩
 .obtain⟨j,d⟩:=B7 (show y∈its by simpa using c)
  obtain⟨z,u,b,h1,h2,m,G,o,J,p⟩:=a j y d;rw[p];exact (Kg g 8 I G M m x J N).2
 .rw[List.any_toArray,Gb,Dg,Dg]
  constructor
  .rintro⟨y,c,L⟩
   obtain⟨j,d⟩:=B7 c;obtain⟨z,u,b,h1,h2,m,G,o,J,p⟩:=a j y d;rw[p]at L;subst L;exact⟨true,Al o,rfl⟩
  .rintro⟨b,B,f⟩
   have f:b=true:=f;subst f;obtain⟨j,d⟩:=B7 B;have r:j<its.length:=by have:=(Ao.mp d).1;lia
   obtain⟨z,u,b,h1,h2,m,G,o,J,p⟩:=a j _ (zX r);rw[d]at o;cases o;exact⟨_,C8 r,p⟩
def V9(c:Bool)(t:X.K=κ.K)(C:X.A.units+9<cLine):OpR X (compareOp (if c then .NotIn else .In)) (rInT κ c):=by
 intro pins s σ H x y v u Q I o p h;obtain⟨F,σ',x3,y3,b,f,k,r,e,q⟩:=h;unfold inO at e;cases x3 with
 |s i=>cases e
 |x a=>
  have k:Rep κ F.β F.O H a x:=k;simp only at e;have d:∀{bs:List Bool},b=(if c then !bs.any id else bs.any id)->EP X pins σ Q (.bool (if c then !bs.any id else bs.any id)) s:=λ z=>⟨.bl b,H,I,by rw[z];rfl,q⟩
  have lists:∀xs,rdl F.s F.h y3=some xs->(zG (λ b=>zU F.h 8 b a) xs).map (λ bs=>if c then !bs.any id else bs.any id)=some b->wpAny (model X.prog X.w) X.A (compareOp (if c then .NotIn else .In) v u) (EP X pins σ Q) X.xe s:=λ xs g e=>by
   cases q2:zG (λ b=>zU F.h 8 b a) xs with
   |none=>rw[q2]at e;cases e
   |some bs=>
    rw[q2]at e;obtain⟨l,us,rfl,B,m⟩:=Qg f r g;cases p;obtain⟨its,n,pl,_⟩:=I.list (show SqL X.K H l us by rw[t];exact B)
    obtain⟨j,h1,h2⟩:=O8 (A:=X.A.in1) I f.heap m n k o q2 (by show X.A.units+1+8<cLine;lia)
    cases c with
    |false=>exact SeqAt.in_listAt j pl.isList h1 (by rw[h2];exact d (bs:=bs) (by cases e;rfl))
    |true=>exact SeqAt.notIn_listAt j pl.isList h1 (by rw[h2];exact d (bs:=bs) (by cases e;rfl))
  split at e
  .rename_i xs g
   split at g
   .rename_i zs
    cases g;cases q2:zG (λ b=>zU F.h 8 b a) xs with
    |none=>rw[q2]at e;cases e
    |some bs=>
     rw[q2]at e;cases (show Rep κ F.β F.O H (.tup xs) y from r) with
     | @tup _ us l t1 t2 t3 m=>
      cases p;obtain⟨its,n,pl,_⟩:=I.tuple (SqT.of (K:=X.K) t1);obtain⟨j,h1,h2⟩:=O8 (A:=X.A.in1) I f.heap m n k o q2 (by show X.A.units+1+8<cLine;lia)
      cases c with
      |false=>exact SeqAt.in_tupleAt j (show s.heap.IsTuple l its.toArray from pl) h1 (by rw[h2];exact d (bs:=bs) (by cases e;rfl))
      |true=>exact SeqAt.notIn_tupleAt j (show s.heap.IsTuple l its.toArray from pl) h1 (by rw[h2];exact d (bs:=bs) (by cases e;rfl))
   .exact lists xs g e
  .cases e
def VA(a:X.K=κ.K)(b:X.A.units+9<cLine):OpR X (compareOp .In) (rInT κ false):=V9 false a b
end
section
variable{X:Cx}{κ:Kx}{E:XK}{F F':Fr}{σ σ':L2.St}{H H1 H':Hp}{Q:VK}{p:Addr}{e a b c o:Expr}{es:List Expr}{pos apos np cpos:Pos}{i:Nat}{D:Ends}
def str3:V3->Option Str
 |.str x=>some x
 |_=>none
theorem O9:∀{xs:List V3}{ys:List V}{bs:List Str},Reps κ F.β F.O H xs ys->zG str3 xs=some bs->ys=bs.map V.str
 |_,_,_,.nil,e=>by cases e;rfl
 |x::xs,y::ys,bs,.cons a r,e=>by
  obtain⟨b,l,h1,h2,rfl⟩:=FY e;cases x<;>simp[str3]at h1
  subst h1;cases a;rw[Ah,O9 r h2]
theorem OA:∀{l:List Str}{us:List Value},Vals (l.map V.str) us->CarriedAll us (l.map λ a=>PyData.str a)
 | [],_,r=>by cases r;exact .nil
 |x::l,_,r=>by
  rw[Ah]at r;cases r with
  |cons a t=>
   obtain⟨tk,rfl⟩:=a;exact .cons (.str _ _) (OA t)
def VB(K:FG):V->List V->Hp->VK->Prop:=λ x xs H Q=> ∃z p l,x=.str z/\xs=[.ref p]/\SqL K H p (l.map V.str)/\l.length<=1048576/\(∀a∈l,a.length+z.length<=16)/\z.length<=16/\Q (.str (PySem.Txt.join z l)) H
def VC:MtR X "str.join" (VB X.K):=by
 intro pins s σ H x xs v us Q I b c h;obtain⟨z,p,l,rfl,rfl,d,e,f,hz,q⟩:=h;obtain⟨t,rfl⟩:=b;obtain⟨u,rfl,i⟩:=BQ c;cases i;obtain⟨its,j,pl,_⟩:=I.list d;have:=_root_.PySem.W.KT.join_B (prog:=X.prog) (w:=X.w) (A:=X.A) (E:=X.xe) (s:=s) (t:=t) (Q:=EP X pins σ Q) (x:=z) (l:=l) (g:=λ a=>a) (16-z.length) pl.isList (OA j) (λ a m=>by have:=f a m;lia) e (by lia) λ t' k=>⟨.str (PySem.Txt.join z l),H,I.tok k,⟨t',by simp⟩,q⟩
 exact this
def IH(p:P3)(a:A3):E3:=λ s h=>(p s h).bind λ f h1=>match f with
 |.x (.str z)=>(a s h1).bind λ fs h2=>match fs with
  | [g]=>match rdl s h2 g with
   |some xs=>match zG str3 xs with
    |some l=>if l.length<=1048576/\(∀a∈l,a.length+z.length<=16)/\z.length<=16 then .ok (.v (.str (PySem.Txt.join z l))) h2 else .no
    |none=>.no
   |none=>.no
  |_=>.no
 |_=>.no
def VD(r:X.K=κ.K)(u:PE X o (zh κ E dp))(y:PA X [e] (zI κ E t))(c:attributeBase o "join" X.env (eval o X.env)=eval o X.env:=by rfl)
  (i:((backTo cpos (starEach [e] X.env)).all (λ x=> !x.1) && (backToKw cpos (keywordEach [] X.env)).all (λ x=>x.1.isSome)
   && decide (([e]:List Expr).length+([]:List Keyword).length+(if ([]:List Keyword).isEmpty then 0 else 1)<30))=true:=by rfl)
  (d:(apos.endLine==cpos.line)=true:=by rfl) (hs:starEach [e] X.env=(false,eval e X.env)::starEach [] X.env:=by rfl) (b:(backTo cpos (starEach [] X.env)).any (·.1)=false:=by rfl):
  PE X (.Call (.Attribute o "join" apos) [e] [] cpos) (zi κ E (IH dp t)):=yQ (JO PySem.F.plainAttrs_str PySem.F.slot_str_join PySem.F.type_str_join VC u y c i d hs b) λ σ H Q ⟨F,m,o⟩=>
 yu (K:=kP κ) z6 m o λ v H1 j h1 f e1 n o1=>by
  obtain⟨A,p⟩:=n
  match f,p,o1 with
  |.x (.str z),p,o1=>
   cases (show Rep κ j F.O H1 (.str z) v from p)
   refine⟨rfl,(DV (F:=F.to j h1) (K:=kA κ) z6 A o1).mono λ vs H2 ⟨k,h2,fs,e2,⟨q,h⟩,o2⟩=>?_⟩
   match fs,h,o2 with
   | [g],h,o2=>
    obtain⟨w,rfl,B⟩:=p1 h;cases q1:rdl F.s h2 g with
    |none=>simp only[q1]at o2;exact o2.elim
    |some xs=>
     simp only[q1]at o2;cases q2:zG str3 xs with
     |none=>simp only[q2]at o2;exact o2.elim
     |some l=>
      simp only[q2]at o2
      by_cases hc:l.length<=1048576/\(∀a∈l,a.length+z.length<=16)/\z.length<=16
      .rw[Ab hc]at o2
       obtain⟨a,ys,rfl,C,D⟩:=Qg (F:=F.to k h2) q B q1;exact⟨z,a,l,rfl,rfl,by rw[r,<-O9 D q2];exact C,hc.1,hc.2.1,hc.2.2,o2 k _ H2 Ext.refl ⟨q,.str _⟩⟩
      .rw[Ac hc]at o2;exact o2.elim
end
end L3
namespace L2
open PySem PySem.Spec PyProof.Rows
open PySem.Builtin.Str (occurrences)
section
variable{X:Cx}{e a b c o:Expr}{ta tb tc:TE}{pos:Pos}
def tFmt(ta:TE):TE:=λ σ H Q=>ta σ H λ x H1=>(∃i:Int,x=.int i/\i.natAbs.log2<1920/\Q (.str (toString i)) H1)\/∃y,x=.str y/\y.length<=100000/\Q (.str y) H1
def VE(d:PE X a ta):PE X (.FormattedValue a (-1) none pos) (tFmt ta):=by
 intro pins s σ H Q I h
 refine wpAny_FormattedValue_plain (Bv (d pins s σ H _ I h) (λ v s1 ⟨x,H1,b,c,q⟩=>?_) λ _ _ e=>e)
 rcases q with ⟨i,rfl,hi,q⟩|⟨y,rfl,hy,q⟩
 .obtain⟨t,rfl⟩:=c
  exact wpAny_formatField_int hi ⟨.str _,H1,b.tok _,⟨_,rfl⟩,q⟩
 .obtain⟨t,rfl⟩:=c
  exact wpAny_formatField_str ⟨.str y,H1,b,⟨_,rfl⟩,q⟩ ⟨.str y,H1,b.tok _,⟨_,rfl⟩,q⟩ (By hy (by decide))
end
end L2
namespace L2
open PySem PySem.Spec PyProof.Rows
def isFr(a:Addr)(cls:Value)(dd:Option Addr):Heap->Prop:=λ h=> ∃o vs b,h.get? a=some o/\o.cls=cls/\o.data=.fields vs/\o.dict=dd/\vs[0]? =some (.ref b)/\vs[1]? =some .none
abbrev yw(a:Addr)(cls:Value)(dd:Option Addr):HO:= .ext (isFr a cls dd)
def Ks(x:isFr a cls dd h):ObjOk P w H h a (yw a cls dd):=
 ⟨x,let ⟨o,_,_,e,_⟩:=x;⟨o,e⟩,λ h1 h2 ⟨o,vs,b,e,r⟩ k=>⟨o,vs,b,k o e,r⟩⟩
structure CB(K:FG)(B:Addr):Prop where
 sp:PySem.W.specialIn K (.ref B) "__getattribute__" =some (some (.builtin "type.__getattribute__"))
 rd:PySem.W.readsIn K B (.type "type")=true
 fc:PySem.W.findCls K (.ref B) (.type "type") "__init__" =some (.val (.builtin "ValueError.__init__"))
section
variable{X:Cx}{a B:Addr}{np apos cpos pos pos':Pos}{x:Str}{e1 e2 o value e:Expr}{ta tv:TE}{t:TA}
def OB(K:FG)(t:TA):TE:=λ σ H Q=>t σ H λ vs H1=> ∃a C dd y,vs=[.ref a,y]/\H1 a=some (yw a (.ref C) dd)/\(PySem.W.clsIn K C).isSome=true/\PySem.W.subIn K (.ref C) (.type "ValueError")=some true/\Q .non (zk H1 a (yw a (.ref C) dd))
theorem VF(c:CB X.K B)(A:Gl X x)(D:X.mg x=some (.ref B))(E:PA X [e1,e2] t)(j:(x==("__debug__" :Str))=false:=by decide)
  (k:starEach [e1,e2] X.env=(false,eval e1 X.env)::starEach [e2] X.env:=by rfl) (l:(backTo cpos (starEach [e2] X.env)).any (·.1)=false:=by rfl)
  (F:eval (.Call (.Attribute (.Name x np) "__init__" apos) [e1,e2] [] cpos) X.env=(do
   let ov <-eval (.Name x np) X.env
   standAt apos.atName
   let (f,first) <-holding [ov] (getMethod ov "__init__" pl)
   callWith cpos f first (backTo cpos (starEach [e1,e2] X.env)) (backToKw cpos (keywordEach [] X.env))):=by rfl):
  PE X (.Call (.Attribute (.Name x np) "__init__" apos) [e1,e2] [] cpos) (OB X.K t):=by
 intro pins s σ H Q I h
 refine G7 (pl:=pl) (AX I A D ?_ j) F
 refine PySem.W.method_cls I.kIn c.sp (PySem.W.cls_value I.kIn c.rd c.fc (by decide+kernel) ?_)
 have G:Inv X pins σ H {s with toks:=s.toks+1}:=I.tok _
 have n:=E cpos pins _ σ H _ G h;rw[k]at n ⊢
 refine G9 (by show (false || (backTo cpos (starEach [e2] X.env)).any (·.1))=false;rw[l]<;>rfl) (Ha (thn n λ us s2 z=>?_))
 obtain⟨vs,H2,m,J,a,C,dd,y,rfl,p,L,sv,q⟩:=z;obtain⟨u,v,rfl,M,S⟩:=FE J;cases M;obtain⟨⟨o,vs,T,N,r,hd,i,h0,h1⟩,_⟩:=(show ObjOk X.prog X.w H2 s2.heap a (yw a (.ref C) dd) from m.hok a _ p)
 obtain⟨oc,od,O,osl⟩:=o;dsimp only at r hd i;subst r hd i;obtain⟨P,g,d,tk,os⟩:=s2
 refine Dt (Uu (K:=X.K) L sv m.kIn N h0 λ h' e1 kp=>?_)
 refine⟨.non,_,m.write (x:=a) (e:=a) (t':=tk) (by rw[p];exact trivial) (.inl rfl) (λ b u R q=>kp b u R q) ⟨_,e1⟩ (Ks ⟨_,_,P.objs.size,e1,rfl,rfl,rfl,?_,?_⟩),rfl,q⟩
 .rw[Array.getElem?_setIfInBounds_self_of_lt (Dh.mp h0).1]
 .rw[Array.getElem?_setIfInBounds_ne (by decide)];exact h1
def OC(K:FG)(ta tv:TE):TS:=λ D σ H=>tv σ H λ y H1=>ta σ H1 λ x H2=> ∃a C z,x=.ref a/\y=.str z/\H2 a=some (yw a (.ref C) none)/\ExN K C/\∀d,H2 d=none->D.nx σ (zk (zk H2 a (yw a (.ref C) (some d))) d (.xd [(("name" :Str),V.str z)]))
theorem VG(n:PE X o ta)(p:PE X value tv)(hs:swapsWith value (some (.Attribute o "name" pos')) pos.line X.env=pure false:=by rfl):PS X (.Assign [.Attribute o "name" pos'] value pos) (OC X.K ta tv):=by
 intro pins s σ H D I h
 refine plainObj_wpAny_Assign_Attribute (zt (p pins s σ H _ I h) λ u s1 y H1 r v q=>thn (n pins s1 σ H1 _ r q) λ A s2 ⟨x,H2,d,B,a,C,z,ex,E,k,c,q2⟩=>?_) hs
 subst ex;subst E;obtain rfl:A=Value.ref a:=B;obtain⟨t,rfl⟩:=(show RelV (.str z) u from v)
 obtain⟨⟨o,vs,G,J,m,hd,j,h0,h1⟩,_⟩:=(show ObjOk X.prog X.w H2 s2.heap a (yw a (.ref C) none) from d.hok a _ k)
 obtain⟨oc,od,L,osl⟩:=o;dsimp only at m hd j;subst m hd j;obtain⟨i,g,dr,tk,os⟩:=s2;have nd:H2 i.objs.size=none:=d.hok.fresh (Ag _)
 refine Us c d.kIn J λ h' l e1 M kp=>?_
 have I3:=d.write (x:=a) (e:=a) (o:=yw a (.ref C) (some i.objs.size)) (h':=h') (t':=l) (by rw[k];exact trivial) (.inl rfl) (λ b u N q=>kp b u N q) ⟨_,e1⟩ (Ks ⟨_,_,G,e1,rfl,rfl,rfl,h0,h1⟩)
 have ne:i.objs.size≠a:=λ y=>by rw[<-y,nd]at k;cases k
 have F:=Inv.fpOk d (b:=i.objs.size) (Ag _) nd;have O:=Inv.track (a:=i.objs.size) (o:= .xd [(("name" :Str),V.str z)]) I3 (by rw[zK ne];exact nd) (by
  cases q:X.s₀.heap.get? i.objs.size with
  |none=>rfl
  |some o=>exact absurd (Bj (Ai q) d.sz) (B9 _)) F.2.1 F.2.2.2.2.1 F.2.2.2.2.2 ⟨_,M,λ f=>by
   by_cases hf:f="name"
   .subst hf;exact⟨t,rfl⟩
   .have e2:([(("name" :Str),V.str z)]:List (Str×V)).lookup f=none:=by
     rw[Cb,show (f==("name" :Str))=false from by simpa using hf];rfl
    rw[e2];show RelO none (if f="name" then _ else none)
    rw[Ac hf];trivial⟩
 exact⟨σ,_,O,q2 _ nd⟩
def VH(K:FG)(ta:TE):TE:=λ σ H Q=>ta σ H λ x H1=> ∃a C d z,x=.ref a/\H1 a=some (excO a (.ref C) (some d))/\H1 d=some (.xd [(("name" :Str),V.str z)])/\ExN K C/\Q (.str z) H1
def VI(k:PE X e ta)(l:attributeBase e "name" X.env (eval e X.env)=eval e X.env:=by rfl):PE X (.Attribute e "name" pos) (VH X.K ta):=by
 intro pins s σ H Q I h
 refine Ng l (zt (k pins s σ H _ I h) λ u s1 x H1 i m n=>?_)
 obtain⟨a,C,d,z,ex,p,r,c,q⟩:=n;subst ex;obtain rfl:u=Value.ref a:=m;obtain⟨⟨o,vs,v,j,hd,b⟩,_⟩:=(show ObjOk X.prog X.w H1 s1.heap a (excO a (.ref C) (some d)) from i.hok a _ p)
 obtain⟨mA,y,A⟩:=(show ObjOk X.prog X.w H1 s1.heap d (.xd [(("name" :Str),V.str z)]) from i.hok d _ r)
 obtain⟨oc,od,B,osl⟩:=o;dsimp only at j hd b;subst j hd b;have f:=A "name";rw[show ([(("name" :Str),V.str z)]:List (Str×V)).lookup ("name" :Str)=some (V.str z) from by rw[Cb,show (("name" :Str)==("name" :Str))=true from by simp]]at f
 obtain⟨D,g,dr,tk,os⟩:=s1;cases hm:mA "name" with
 |none=>rw[hm]at f;exact f.elim
 |some u=>
  rw[hm]at f;obtain⟨t,rfl⟩:=(show RelV (.str z) u from f)
  exact Uo c i.kIn v y.ns hm rfl ⟨.str z,H1,i.tok _,⟨t,rfl⟩,q⟩
end
structure XI(K:FG)(C f:Addr):Prop extends ExN K C where
 ex:CQ K C=true
 it':PySem.W.findIn K (.ref C) "__init__" =some (some (.ref f))
 fn:PySem.W.typeIn K (.ref f)=some (.type "function")
 sv:PySem.W.subIn K (.ref C) (.type "ValueError")=some true
 kp:PySem.W.keepIn K (.ref C)=true
def XI.own{K:FG}{C f:Addr}{h:Heap}(c:XI K C f)(X:K.In h):∃nm q N bs bm hdct sn sub ab col dd k0 k1 k2 k3 k5,h.get? C=some (excClassObj nm q C N bs bm hdct sn sub ab col dd k0 k1 k2 k3 k5 "ValueError.__new__")/\OwnTail h bmV bm:=by
 obtain⟨nm,a,N,bs,bm,hd,sn,sub,ab,col,dd,b,d,e,y3,y5,g,i,_⟩:=NG X c.ex;exact⟨nm,a,N,bs,bm,hd,sn,sub,ab,col,dd,b,d,e,y3,y5,g,i⟩
section
variable{prog:Program}{w:World}{A:Around}{E:VP}{h:Heap}{g:Array GenState}{d:Drawn}{t:Nat}{os:OsState}{K:FG}{f:Addr}
variable{nm q:Str}{C N:Addr}{bs bm:List Value}{hdct:Bool}{sn:List Str}{sub:List Value}{ab:Bool}{col:Option Bool}{dd:Option Addr}{k0 k1 k2 k3 k5:Option Value}
def VJ(c:XI K C f)(X:K.In h)(T:OwnTail h bmV bm){rest:List Value}{Q:Fin->Shared->Prop}
  (j:h.get? C=some (excClassObj nm q C N bs bm hdct sn sub ab col dd k0 k1 k2 k3 k5 "ValueError.__new__"))
  (n:∀h' e,h.objs.size<=e->Heap.MadeExcOf h h' e (.ref C) rest->wpAny (model prog w) A (call (.ref f) (.ref e::rest)) (λ r s'=>r=.none/\Q (.done (.ret (.ref e))) s') E ⟨h',g,d,t,os⟩) (i:rest.length<=sizeLine):
  wpAny (model prog w) A (Builtin.«type.__call__» ⟨.ref C::rest,[]⟩) Q E ⟨h,g,d,t,os⟩:=by
 have F:=Ge
 repeat (first|with_reducible refine Cr j ?_|with_reducible refine wpAny_madeBy_exc j ?_|wp_step)
 refine codeAny_call_builtin_code (Code.quiet_builtin _ F.quiet) (wpAny_check_new_subT F T j ?_)
 refine codeAny_exc_new_subT F T j ?_ i
 show wpAny _ _ _ _ _ _;generalize hH:((h.push {cls:= .type "tuple",data:= .seq rest.toArray}).push {cls:= .ref C,data:= .fields #[.ref h.objs.size,.none,.none,.none,.bool false,.none]})=h1;have kp:∀b o,h.get? b=some o->h1.get? b=some o:=λ b o e=>by rw[<-hH];exact As _ (As _ e)
 have k:=kp _ _ j;have a:h1.get? (h.objs.size+1)=some {cls:= .ref C,data:= .fields #[.ref h.objs.size,.none,.none,.none,.bool false,.none]}:=by rw[<-hH];heap_get
 have l:(Value.ref C::bm).contains (.ref C)=true:=by simp
 have m:K.In h1:=X.keeps kp;unfold isInstance
 repeat (first|with_reducible refine Cr a ?_|(with_reducible refine wpAny_isSubtype_exc k ?_;rw[l])|wp_step)
 refine (D7 m c.it').at ?_
 refine B4 (Aa ((PySem.W.bind_fn m _ c.fn).at ?_))
 refine Aa (thn (n h1 (h.objs.size+1) (C5 _) ⟨kp,G6 (C5 _),h.objs.size,a,G6 (Ag _),by rw[<-hH];exact As _ (Heap.get?_push_at rfl rfl)⟩) λ r s' z=>?_)
 obtain⟨rfl,z⟩:=z
 wp_walk
 exact z
def VL(c:XI K C f)(X:K.In h)(T:OwnTail h bmV bm){rest:List Value}{Q:VP}
  (b:h.get? C=some (excClassObj nm q C N bs bm hdct sn sub ab col dd k0 k1 k2 k3 k5 "ValueError.__new__"))
  (i:∀h' e,h.objs.size<=e->Heap.MadeExcOf h h' e (.ref C) rest->wpAny (model prog w) (A.under (.builtin "type.__call__" ⟨.ref C::rest,[]⟩)) (call (.ref f) (.ref e::rest)) (λ r s'=>r=.none/\Q (.ref e) s') E ⟨h',g,d,t,os⟩) (a:rest.length<=sizeLine):
  wpAny (model prog w) A (call (.ref C) rest) Q E ⟨h,g,d,t,os⟩:=by
 have l:=tc_lookup;have m:=tc_bind (.ref C);have n:(⟨h,g,d,t,os⟩:Shared).TypeIs (.ref C) "type" :=⟨_,b,rfl⟩
 refine Dt (codeAny_of_tree ?_)
 show wpAny _ _ (callAny (.ref C) _) _ _ _
 repeat (any_goals (first|assumption|with_reducible refine Cr b ?_|wp_step))
 exact⟨rfl,codeAny_call_builtin_at (Code.quiet_builtin _ (by decide+kernel)) entry_typeCall (wpAny_check_type_call_sub b (VJ c X T b (λ h' e j k=>i h' e j k) a))⟩
end
end L2
namespace L4
open PySem PySem.W PyProof.Rows L2
noncomputable def II(tb:String->Option Builtin)(p:Program)(w:World)(m:Nat)(a:Option Value):Nat->SharedT->Thread->Option SharedT
 |0,_,_=>none
 |n+1,s,t=>match through t with
  |true=>some s
  |false=>match stepOk m a t with
   |false=>none
   |true=>match stepT (denote tb) p w s t with
    |some (s',t')=>II tb p w m a n s' t'
    |none=>none
theorem OD:∀{n:Nat}{s s':SharedT}{t:Thread},II tb p w m ann n s t=some s'->topRun tb p w m ann n s.abs t=some s'.abs
 |0,_,_,_,h=>by cases h
 |n+1,s,s',t,h=>by
  unfold II at h;unfold topRun;cases he:through t with
  |true=>rw[he]at h;cases h;rfl
  |false=>
   rw[he]at h;cases hk:stepOk m ann t with
   |false=>rw[hk]at h;cases h
   |true=>
    rw[hk]at h;cases hs:stepT (denote tb) p w s t with
    |none=>rw[hs]at h;cases h
    |some r=>
     obtain⟨s2,a⟩:=r;rw[hs]at h;rw[stepT_spec hs];exact OD h
noncomputable def OE:List Obj->Nat->BT->BT
 | [],_,t=>t
 |o::r,n,t=>OE r (n+1) (t.ins n o)
def boot(P:Params)(os:OsState):SharedT:=⟨OE (boot_heap P).objs.toList 0 .nil,11,(boot_heap P).life,Array.mk [],boot_drawn,boot_toks,os⟩
def VM(P:Params)(os:OsState):(boot P os).abs=⟨boot_heap P,Array.mk [],boot_drawn,boot_toks,os⟩:=by kernel_rfl
def VN(P:Params):((boot_heap P).isNs mainGlobals,(boot_heap P).objs.size,(boot_heap P).nsMap mainGlobals "__annotations__")=(true,11,some (.ref 6)):=by kernel_rfl
section
variable(p q:Program)(loose:List Str){β:Type}(obs:Heap->β)
def looks(P:Params)(s:Shared):=
 ((staticsOk (importedModules p.main.body) (boot_heap P) s.heap && namesBound p s.heap && gensDone s && laidKept (boot_heap P) s.heap),openSeen q loose (importedModules p.main.body) (λ _=>true) true s,obs s.heap)
def OF(N:Nat)(w:World)(os:OsState):=(II treeTable p w 11 (some (.ref 6)) N (boot w.params os) (topStub p)).map λ s=>looks p q loose obs w.params s.abs
end
def left_one{p q:Program}{loose:List Str}{β:Type}{obs:Heap->β}{good:β}{N:Nat}(e:opening p=plainProg p.main.scope.names)(b:Nat.ble 600 N=true)(f:∀s,fenceModules? p s=some s)
  (h:∀w os,OF p q loose obs N w os=some (true,openGood q loose,good)):LeftO p q loose (λ _=>true) (λ s=>obs s.heap) (λ _=>good) N:=λ w=>by
 obtain⟨⟨h0,gs,d,k,os⟩,e1,e2⟩:=Dj.mp (boot_open e b f w);obtain⟨rfl,rfl,rfl,rfl⟩:h0=boot_heap w.params/\gs=Array.mk []/\d=boot_drawn/\k=boot_toks:=by simpa using e2
 obtain⟨s1,c,g⟩:=Dj.mp (h w os);have a:=OD c;rw[VM]at a;obtain⟨i,j,l⟩:_/\_/\_:=by simpa only[Dk] using VN w.params
 obtain⟨m,n,o⟩:_/\_/\_:=by simpa only[looks,Dk] using g
 have t:topFrom treeTable p w N ⟨boot_heap w.params,Array.mk [],boot_drawn,boot_toks,os⟩=some s1.abs:=by
  unfold topFrom;dsimp only;rw[i,j,l,a];show (match staticsOk (importedModules p.main.body) (boot_heap w.params) s1.abs.heap && namesBound p s1.abs.heap && gensDone s1.abs && laidKept (boot_heap w.params) s1.abs.heap with|true=>_|false=>_)=_
  rw[m]
 unfold openEnds;rw[e1];show (topFrom treeTable p w N _).map _=_;rw[t];exact congrArg some (Prod.ext n o)
noncomputable def frag(b:List Addr)(h:Heap):Frag:=b.filterMap λ a=>(h.get? a).map λ o=>(a,o)
def VO:(frag as h).In h:=by
 intro a o e
 induction as with
 |nil=>cases e
 |cons b r ih=>
  unfold frag at e;rw[Fv]at e;cases hb:h.get? b with
  |none=>rw[hb]at e;exact ih e
  |some ob=>
   rw[hb]at e;simp only[Am,List.lookup]at e
   split at e
   .rename_i q;cases e;rw[Bb.mp q];exact hb
   .exact ih e
noncomputable def OG:Value->Bool
 |.none=>true
 |_=>false
def VQ(h:OG v=true):v=.none:=by cases v<;>first|rfl|cases h
def GF(K:Frag)(qual:Str):Option (Option Value)->Option (Str×Str×Arguments×FuncBody×Scope×Bool)
 |some (some (.ref f))=>match K.lookup f with
  |some ⟨_,_,.func fd,_⟩=>some (fd.name,fd.qualname,fd.params,fd.body,fd.scope,(Nat.beq fd.globals mainGlobals && fd.closure.isEmpty && OG fd.defaults && Nat.beq fd.builtins builtinsNs && codeIn K fd.code qual && isFn K (.ref f)))
  |_=>none
 |_=>none
def GG(x qual:Str)(st:Stmt):Option (Str×Str×Arguments×FuncBody×Scope×Bool):=some (x,qual,FI st,.stmts (BR st),zC st,true)
def Kt{K:Frag}{x qual:Str}{st:Stmt}{v:Option (Option Value)}(e:GF K qual v=GG x qual st):
  ∃f fd,v=some (some (.ref f))/\Fun K x qual st f fd/\isFn K (.ref f)=true:=by
 unfold GF at e
 split at e
 .rename_i f
  split at e
  .rename_i oc od fd sl c
   unfold GG at e;simp only[Ce,Dk,Be]at e;obtain⟨e1,e2,d,g,h,⟨⟨⟨⟨h1,h2⟩,a⟩,b⟩,i⟩,j⟩:=e
   refine⟨f,fd,rfl,⟨⟨oc,od,fd.kwdefaults,fd.doc,fd.pyModule,fd.annotations,fd.code,fd.closureTuple,sl,?_,c,i⟩,?_⟩,j⟩
   .obtain⟨q,r,s,t,u,w,y,z,A,k,l,m,n,o,p⟩:=fd
    simp only at e1 e2 d g h h1 h2 a b;have h1:=Nat.eq_of_beq_eq_true h1;have h2:=List.isEmpty_iff.mp h2;have a:=VQ a;have b:=Nat.eq_of_beq_eq_true b;subst e1 e2 d g h h1 h2 a b;rfl
   .unfold keepIn
    simp only[c]
  .cases e
 .cases e
inductive KV where
 |int (i:Int)
 |str (s:Str)
noncomputable def GH:Option (Option Value)->Option KV
 |some (some (.int i _))=>some (.int i)
 |some (some (.str s _))=>some (.str s)
 |_=>none
def VR(e:GH v=some (.int i)):∃t,v=some (some (.int i t)):=by
 unfold GH at e
 split at e
 .simp only[Ce,KV.int.injEq]at e;subst e;exact⟨_,rfl⟩
 .simp at e
 .cases e
def VS(e:GH v=some (.str i)):∃t,v=some (some (.str i t)):=by
 unfold GH at e
 split at e
 .simp at e
 .simp only[Ce,KV.str.injEq]at e;subst e;exact⟨_,rfl⟩
 .cases e
def DB:Option (Option Value)->Bool
 |some none=>true
 |_=>false
def GI(e:DB v=true):v=some none:=by
 unfold DB at e
 split at e
 .rfl
 .cases e
noncomputable def DC(p:Program)(i:Nat):Stmt:=p.main.body.getD i (.Pass ⟨0,0,0,0⟩)
structure Ask where
 law:Nat
 at_:List Addr
 defs:List (Str×Nat)
 cls:List (Str×Nat×List (Str×Str×Nat)×List Str)
 bare:List Str
 con:List (Str×KV)
 exc:List (Str×Bool)
 tab:List (Str×Str×Bool)
 exi:List (Str×Str×Nat×Str×Nat)
noncomputable def OH(K:Frag)(C:Addr):Bool:=
 plainGet K C Str.empty && hasDictIn K C && plainOver K C && (findIn K (.ref C) "__setattr__" ==some (some (.builtin "object.__setattr__"))) && makesIn K C && keepIn K (.ref C)
def OI(K:Frag)(c:Str×Nat×List (Str×Str×Nat)×List Str):Option Value->Option (List (Option (Str×Str×Arguments×FuncBody×Scope×Bool))×Bool×List Bool)
 |some (.ref C)=>some (c.2.2.1.map (λ m=>GF K m.2.1 (findIn K (.ref C) m.1)),OH K C,c.2.2.2.map λ a=>DB (findIn K (.ref C) a))
 |_=>none
def Ku(K:Frag)(C:Addr):Bool:=
 CQ K C && ((clsIn K C).map (·.ns)).any (λ N=>nsOkIn K N && nsIn K N "__init__" ==some none) && (clsIn K C).isSome && (findIn K (.ref C) "__getattribute__" ==some (some (.builtin "BaseException.__getattribute__"))) && DB (findIn K (.ref C) "__getattr__") && (findIn K (.ref C) "__class__" ==some (some (.builtin "object.__class__"))) && (subIn K (.ref C) (.type "BaseException")==some true) && (subIn K (.ref C) (.type "object")==some true) && (subIn K (.ref C) (.type "ValueError")==some true)
def OJ(K:Frag)(b:Bool):Option Value->Bool
 |some (.ref C)=>match b with
  |true=>Ku K C
  |false=>true
 |_=>false
noncomputable def OK:Option CFound->Bool
 |some (.val (.builtin n))=>n=="ValueError.__init__"
 |_=>false
def OL(K:Frag)(C B:Addr):Bool:=
 CQ K C && (clsIn K C).isSome && (findIn K (.ref C) "__getattribute__" ==some (some (.builtin "BaseException.__getattribute__"))) && DB (findIn K (.ref C) "__getattr__") && (findIn K (.ref C) "__class__" ==some (some (.builtin "object.__class__"))) && (subIn K (.ref C) (.type "BaseException")==some true) && (subIn K (.ref C) (.type "object")==some true) && DB (findIn K (.ref C) "name") && (clsIn K C).any (λ cd=>cd.hasDict && FL cd.mro) && (findIn K (.ref C) "__setattr__" ==some (some (.builtin "object.__setattr__"))) && (subIn K (.ref C) (.type "ValueError")==some true) && keepIn K (.ref C) &&
 (specialIn K (.ref B) "__getattribute__" ==some (some (.builtin "type.__getattribute__"))) && readsIn K B (.type "type") && OK (findCls K (.ref B) (.type "type") "__init__")
def OM(K:Frag)(q:Str):Option Value->Option Value->Option (Option (Str×Str×Arguments×FuncBody×Scope×Bool)×Bool)
 |some (.ref C),some (.ref B)=>some (GF K q (findIn K (.ref C) "__init__"),OL K C B)
 |_,_=>none
noncomputable def VT(K:Frag)(v:Bool):Option Value->Option Value->Bool
 |some (.ref C),some (.ref B)=>exmOne K (.ref C) (.ref B)==some v && kitOne K (.ref C) (.ref B)==some v
 |_,_=>false
def seenK(A:Ask)(K:Frag):=
 (A.defs.map (λ d=>GF K d.1 (nsIn K mainGlobals d.1)),A.cls.map (λ c=>OI K c (nsIn K mainGlobals c.1).join),A.bare.map (λ b=>DB (nsIn K mainGlobals b)),A.con.map (λ c=>GH (nsIn K mainGlobals c.1)),A.exc.map (λ c=>OJ K c.2 (nsIn K mainGlobals c.1).join),A.tab.map (λ r=>VT K r.2.2 (nsIn K mainGlobals r.1).join (nsIn K mainGlobals r.2.1).join),A.exi.map λ r=>OM K r.2.2.2.1 (nsIn K mainGlobals r.1).join (nsIn K mainGlobals r.2.1).join)
def seen(A:Ask)(h:Heap):=seenK A (frag A.at_ h)
def good(p:Program)(A:Ask):=
 (A.defs.map (λ d=>GG d.1 d.1 (DC p d.2)),
  A.cls.map (λ c=>some (c.2.2.1.map (λ m=>GG m.1 m.2.1 (ql (DC p c.2.1) m.2.2)),true,c.2.2.2.map λ _=>true)),
  A.bare.map (λ _=>true),A.con.map (λ c=>some c.2),A.exc.map (λ _=>true),A.tab.map (λ _=>true),A.exi.map λ r=>some (GG "__init__" r.2.2.2.1 (ql (DC p r.2.2.1) r.2.2.2.2),true))
def lawView(A:Ask)(p:Program):Program:={p with main:={p.main with body:=[DC p A.law]}}
noncomputable def looseOf(p:Program):List Str:=(p.main.scope.names.map (·.1)).filter λ x=> !(x=="law")
def claim(A:Ask)(N:Nat)(p:Program)(w:World)(os:OsState):=OF p (lawView A p) (looseOf p) (seen A) N w os
def goal(A:Ask)(p:Program):=some (true,openGood (lawView A p) (looseOf p),good p A)
section
variable{p:Program}{A:Ask}{K:Frag}
def AK{α β:Type}{f g:α->β}{l:List α}{i:Nat}{a:α}(e:l.map f=l.map g)(h:l[i]? =some a):f a=g a:=by
 have:=congrArg (λ z=>z[i]?) e
 simp only[Az,h,Am,Ce]at this;exact this
def def_at(S:seenK A K=good p A)(i:Nat)(h:A.defs[i]? =some d):∃f fd,nsIn K mainGlobals d.1=some (some (.ref f))/\Fun K d.1 d.1 (DC p d.2) f fd:=by
 obtain⟨f,fd,e,F,_⟩:=Kt (AK (congrArg (λ z=>z.1) S) h)
 exact⟨f,fd,e,F⟩
def bare_at(S:seenK A K=good p A)(i:Nat)(h:A.bare[i]? =some b):nsIn K mainGlobals b=some none:=GI (AK (congrArg (λ z=>z.2.2.1) S) h)
def int_at(S:seenK A K=good p A)(i:Nat)(h:A.con[i]? =some (x,.int n)):∃t,nsIn K mainGlobals x=some (some (.int n t)):=VR (AK (congrArg (λ z=>z.2.2.2.1) S) h)
def str_at(S:seenK A K=good p A)(i:Nat)(h:A.con[i]? =some (x,.str n)):∃t,nsIn K mainGlobals x=some (some (.str n t)):=VS (AK (congrArg (λ z=>z.2.2.2.1) S) h)
structure ClsAt(p:Program)(K:Frag)(c:Str×Nat×List (Str×Str×Nat)×List Str)(C:Addr):Prop where
 g:nsIn K mainGlobals c.1=some (some (.ref C))
 cls:Cls K C
 makes:makesIn K C=true
 kp:keepIn K (.ref C)=true
 meth:∀(j:Nat)(m:Str×Str×Nat),c.2.2.1[j]? =some m->∃f fd,findIn K (.ref C) m.1=some (some (.ref f))/\Fun K m.1 m.2.1 (ql (DC p c.2.1) m.2.2) f fd/\isFn K (.ref f)=true
 fld:∀(j:Nat)(a:Str),c.2.2.2[j]? =some a->NoAttr K C a
def IJ(h:v.join=some x):v=some (some x):=by
 cases v with
 |none=>cases h
 |some v=>cases h;rfl
def exc_at(S:seenK A K=good p A)(i:Nat)(h:A.exc[i]? =some (x,b)):∃C,nsIn K mainGlobals x=some (some (.ref C))/\(b=true->(CQ K C=true/\((clsIn K C).map (·.ns)).any (λ N=>nsOkIn K N && nsIn K N "__init__" ==some none)=true)/\ExK K C):=by
 have e:=AK (congrArg (λ z=>z.2.2.2.2.1) S) h
 unfold OJ at e
 split at e
 .rename_i C c
  refine⟨C,IJ c,λ a=>?_⟩
  have a:b=true:=a;subst a;have e:Ku K C=true:=e;unfold Ku at e;simp only[Be]at e;obtain⟨⟨⟨⟨⟨⟨⟨⟨h1,d⟩,h2⟩,f⟩,g⟩,j⟩,k⟩,l⟩,m⟩:=e;exact⟨⟨h1,d⟩,h2,Bb.mp f,GI g,Bb.mp j,Bb.mp k,Bb.mp l,Bb.mp m⟩
 .cases e
def tab_at(S:seenK A K=good p A)(i:Nat)(h:A.tab[i]? =some (x,y,v))(a:nsIn K mainGlobals x=some (some (.ref C)))(b:nsIn K mainGlobals y=some (some (.ref B))):exmOne K (.ref C) (.ref B)=some v/\kitOne K (.ref C) (.ref B)=some v:=by
 have e:=AK (congrArg (λ z=>z.2.2.2.2.2.1) S) h
 dsimp only at e;rw[a,b]at e;have e:(exmOne K (.ref C) (.ref B)==some v && kitOne K (.ref C) (.ref B)==some v)=true:=e;rw[Be]at e;exact⟨Bb.mp e.1,Bb.mp e.2⟩
def xi_at(S:seenK A K=good p A)(i:Nat){r:Str×Str×Nat×Str×Nat}(h:A.exi[i]? =some r):∃C B f fd,nsIn K mainGlobals r.1=some (some (.ref C))/\nsIn K mainGlobals r.2.1=some (some (.ref B))/\XI K C f/\CB K B/\Fun K "__init__" r.2.2.2.1 (ql (DC p r.2.2.1) r.2.2.2.2) f fd:=by
 have e:=AK (congrArg (λ z=>z.2.2.2.2.2.2) S) h
 unfold OM at e
 split at e
 .rename_i C B l m
  simp only[Ce,Dk]at e;obtain⟨e1,e2⟩:=e;obtain⟨f,fd,o,F,c⟩:=Kt e1;unfold OL at e2;simp only[Be]at e2;obtain⟨⟨⟨⟨⟨⟨⟨⟨⟨⟨⟨⟨⟨⟨h1,h2⟩,q⟩,s⟩,t⟩,u⟩,v⟩,w⟩,x⟩,d⟩,b⟩,g⟩,j⟩,k⟩,a⟩:=e2
  refine⟨C,B,f,fd,IJ l,IJ m,⟨⟨⟨h2,Bb.mp q,GI s,Bb.mp t,Bb.mp u,Bb.mp v,Bb.mp b⟩,GI w,x,Bb.mp d⟩,h1,o,Bb.mp c,Bb.mp b,g⟩,⟨Bb.mp j,k,?_⟩,F⟩
  unfold OK at a
  split at a
  .rename_i n y
   rw[y,Bb.mp a]
  .cases a
 .cases e
def cls_at(S:seenK A K=good p A)(i:Nat)(h:A.cls[i]? =some c):∃C,ClsAt p K c C:=by
 have e:=AK (congrArg (λ z=>z.2.1) S) h
 unfold OI at e
 split at e
 .rename_i C b
  simp only[Ce,Dk]at e;obtain⟨e1,e2,d⟩:=e;unfold OH at e2;simp only[Be]at e2;obtain⟨⟨⟨⟨⟨h1,h2⟩,f⟩,g⟩,k⟩,l⟩:=e2
  refine⟨C,IJ b,⟨h1,h2,f,?_⟩,k,l,λ j m n=>?_,λ j a o=>?_⟩
  .exact Bb.mp g
  .exact Kt (AK e1 n)
  .exact GI (AK d o)
 .cases e
end
section
variable{K:Frag}{x qual:Str}{st:Stmt}{f:Addr}{fd:FuncData}{p1 p2 p3 p4 p5 p6 p7 p8:Str}
abbrev Bd(x qual:Str)(st:Stmt)(us:List Value)(r:List (Str×Value)):Prop:=∀(kV doc pm:Value)(an:Option Addr)(cdv ct:Value),bindArgs (fnOf x qual (FI st) (BR st) (zC st) .none kV doc pm an cdv ct) ⟨us,[]⟩=pure r
def AM(h:us.length=n+1):∃a r,us=a::r/\r.length=n:=by
 cases us with
 |nil=>cases h
 |cons a r=>exact⟨a,r,rfl,by simpa using h⟩
theorem b1(F:Fun K x qual st f fd)(h:∀a,Bd x qual st [a] [(p1,a)]):Binds K fd [p1] []:=F.binds λ _ _ _ _ _ _ us h0=>by
 obtain⟨a,b,rfl,h1⟩:=AM h0;obtain rfl:b=[]:=El h1;exact h _ _ _ _ _ _ _
theorem b2(F:Fun K x qual st f fd)(h:∀a b,Bd x qual st [a,b] [(p1,a),(p2,b)]):Binds K fd [p1,p2] []:=F.binds λ _ _ _ _ _ _ us h0=>by
 obtain⟨a,d,rfl,h1⟩:=AM h0;obtain⟨b,c,rfl,h2⟩:=AM h1;obtain rfl:c=[]:=El h2;exact h _ _ _ _ _ _ _ _
theorem b3(F:Fun K x qual st f fd)(h:∀a b c,Bd x qual st [a,b,c] [(p1,a),(p2,b),(p3,c)]):Binds K fd [p1,p2,p3] []:=F.binds λ _ _ _ _ _ _ us h0=>by
 obtain⟨a,g,rfl,h1⟩:=AM h0;obtain⟨b,i,rfl,h2⟩:=AM h1;obtain⟨c,d,rfl,e⟩:=AM h2;obtain rfl:d=[]:=El e;exact h _ _ _ _ _ _ _ _ _
theorem b4(F:Fun K x qual st f fd)(h:∀a b c d,Bd x qual st [a,b,c,d] [(p1,a),(p2,b),(p3,c),(p4,d)]):Binds K fd [p1,p2,p3,p4] []:=F.binds λ _ _ _ _ _ _ us h0=>by
 obtain⟨a,j,rfl,h1⟩:=AM h0;obtain⟨b,k,rfl,h2⟩:=AM h1;obtain⟨c,l,rfl,e⟩:=AM h2;obtain⟨d,g,rfl,i⟩:=AM e;obtain rfl:g=[]:=El i;exact h _ _ _ _ _ _ _ _ _ _
theorem binds_law(F:Fun K x qual st f fd)(h:∀a,Bd x qual st [a] [(p1,a)])(s:Shared)(u:Value):BindsTo s fd ⟨[u],[]⟩ [(p1,u)]:=by
 obtain⟨oc,od,kV,doc,pm,an,cdv,ct,osl,rfl,c,b⟩:=F.ex;exact .of_eq (h u _ _ _ _ _ _)
end
def walk_one{l:OpenLaw}{n k:Nat}{q:Program}{loose:List Str}{XP:(Str->Option Value)->Heap->Prop}{A:Ask}{d:DefRec}{CX:World->jS}{sp:Frag->Sp}{x:Str}
  (C:l.most=some n) (p:n<=sizeLine) (r:d.params.defaults=[]) (D:Room k callerA)
  (F:∀(w:World)(mg:Str->Option Value)(m:Addr)(h:Heap)(K:Frag),K.In h->h.Ns mainGlobals mg->seenK A K=good l.prog A->mg d.name=some (.ref m)->
   ∃fd:FuncData,(∀(s:Shared)(u:Value),BindsTo s fd ⟨[u],[]⟩ [(x,u)])/\∀base:Heap,K.In base->base.Ns mainGlobals mg->FnOk l.prog w K mg base (CX w) k m fd [x] (sp K))
  (t:∀(K:Frag)(H:Hp)(a:Addr)(ns:List Int),ns.length<=n->Only H->SqL K H a (ns.map V.int)->sp K [.ref a] H (λ v _=>v=.bl true) λ _ _ _=>False)
  (y:∀(w:World)(H:Hp)(s:Shared)(e:Value)(s':Shared),CX w [] H s (λ _ _ _=>False) e s'->False):
  WalkO q loose XP (λ _ h=> ∃K:Frag,K.In h/\seenK A K=good l.prog A) l.row.toRowW d [] (λ f vs=>PySem.call f vs):=by
 refine Att.attach_call C r λ w s0 s1 mg mb m o pm cd doc a vs ns G Y O hd E z j i c I=>?_
 obtain⟨K,B,S⟩:=Y;obtain⟨fd,J,L⟩:=F w mg m _ K B G.T.g S z;exact T6 B G.T.g G.T.b G.T.builtins G.T.nolimit I j i (By c p) D L J (λ H M N=>t K H a ns c M N) λ H e s'=>y w H s1 e s'
def seen_ok(w:World)(s:Shared)(e:seen A s.heap=good p A):∃K:Frag,K.In s.heap/\seenK A K=good p A:=⟨_,VO,e⟩
def seen_keeps(w:World)(h h':Heap)(y:∃K:Frag,K.In h/\seenK A K=good p A)(k:∀b o,h.get? b=some o->h'.get? b=some o):∃K:Frag,K.In h'/\seenK A K=good p A:=
 let ⟨K,a,b⟩:=y
 ⟨K,a.keeps k,b⟩
end L4
namespace L3
open PySem PySem.Spec PyProof.Rows L2
section
variable{X:Cx}{κ:Kx}{E:XK}{a b e o tg:Expr}{pos np apos:Pos}{i:Nat}
def za(i:Nat)(b:X.N[i]? =some x:=by rfl)(c:Vis X.env.scope x:=by first|exact Or.inl rfl|exact Or.inr (Or.inl rfl)|exact Or.inr (Or.inr rfl))(hd:(x==("__debug__" :Str))=false:=by decide)
 (a:(x==("__classdict__" :Str))=false:=by decide):PE X (.Name x pos) (zh κ E (pV i)):=rp_v (pv i b c hd a)
def zf {i j pos}:PE X (.Constant (.int i) j pos) (zh κ E (kJ i)):=zb AB
def CD(c:PE X a (zh κ E da))(d:PE X b (zh κ E db))(e:X.K=κ.K:=by rfl)(f:Ih b:=by exact λ _ _=>rfl):PE X (.Subscript a b pos) (zi κ E (eOp zr da db)):=r_ix Oc (Ob e) f c d
def zE(c:PE X a (zh κ E da))(d:PE X b (zh κ E db))(e:X.K=κ.K:=by rfl)(f:Ih b:=by exact λ _ _=>rfl):PE X (.Subscript a b pos) (zh κ E (pE (eOp zr da db))):=zb (r_ix Oc (Ob e) f c d)
def zL(i:Nat)(a:X.N.Nodup)(b:PE X e (zi κ E d))(hi:X.N[i]? =some x:=by rfl)(c:jT X.env.scope x:=by exact Or.inl rfl)(hs:swapsWith e (some (.Name x pos')) pos.line X.env=pure false:=by rfl)
 (f:X.fn x=true\/X.env.scope.names.lookup x=some .local:=by first|exact .inl rfl|exact .inr rfl|assumption):PS X (.Assign [.Name x pos'] e pos) (zu κ E (sSet i d)):=FR a hi c b hs f
def yj(i:Nat)(a:X.N.Nodup)(hi:X.N[i]? =some x:=by rfl)(b:jT X.env.scope x:=by exact Or.inl rfl)(c:X.fn x=true\/X.env.scope.names.lookup x=some .local:=by first|exact .inl rfl|exact .inr rfl|assumption):PG X (.Name x pos) (yR κ (gN i)):=Iu (Ib a hi b c)
def zS(i:Nat)(N:List Str)(nd:N.Nodup:=by decide+kernel)(a:X.N=N:=by rfl)(hi:N[i]? =some x:=by rfl)(b:jT X.env.scope x:=by exact Or.inl rfl)(c:X.env.scope.names.lookup x=some .local:=by rfl):PG X (.Name x pos) (yR κ (gN i)):=Iu (pgc i N nd a hi b c)
def qt{a:Expr}{body:List Stmt}{it:I3}{g:G3}{b:D3}(hi:PI X tg a (yG κ E it))(c:PG X tg (yR κ g))(d:yM X body (zu κ E b))(hp:PassesOwn (model X.prog X.w) X.A X.env X.xe:=by exact Gk)(e:X.calm=true:=by rfl)
 (hs:∀x,foldedSetIterable a X.env x=pure x:=by intro _;rfl):PS X (.For tg a body [] pos) (zu κ E (zA it g b)):=UT hp e hi c d hs
def qC(a:PE X l (zh κ E d))(b:X.K=κ.K:=by rfl):PI X tg l (yG κ E (iL d)):=UX b a
def zy(k1:sc.kind=.function:=by rfl)(k2:sc.isCoroutine=false:=by rfl)(k3:sc.isGenerator=false:=by rfl)(a:N.Nodup:=by decide+kernel)(k5:N.take P.length=P:=by rfl)
 (b:∀x∈P,sc.names.lookup x=some .local\/sc.names.lookup x=some .cell:=by decide+kernel) (c:∀y∈sc.names,y.2≠ .free:=by decide+kernel):FnScope N P sc:=⟨k1,k2,k3,a,k5,b,c⟩
def VU(cl:Cls X.K C)(a:NoAttr X.K C fl)(b:PE X e (zh κ E d))(f:κ.cl c=some C:=by rfl)(g:attributeBase e fl X.env (eval e X.env)=eval e X.env:=by rfl):PE X (.Attribute e fl pos) (zi κ E (ze [c] fl d)):=Oy (Flds.cons f cl a Flds.nil) b g
def ye(cl:Cls X.K C)(a:NoAttr X.K C fl)(b:PE X e (zh κ E d))(f:κ.cl c=some C:=by rfl)(g:attributeBase e fl X.env (eval e X.env)=eval e X.env:=by rfl):PE X (.Attribute e fl pos) (zh κ E (pE (ze [c] fl d))):=zb (Oy (Flds.cons f cl a Flds.nil) b g)
def yd{x:Str}{st:Stmt}{es:List Expr}{f:F3}{t:A3}{k k0:Nat}{h:Addr}{fd:FuncData}{ps:List Str}{n:Nat}(i:zo f n)(j:FnOk X.prog X.w X.K X.mg X.base (XT X.prog X.w) k h fd ps (zn κ n f))(l:Room k0 X.A)(d:Dfn X.K X.mg x st ps h fd)(m:PA X (e::es) (zI κ E t))(o:jF (XT X.prog X.w) X E:=by exact qL)(p:k<=k0:=by decide)(q:Gl X x:=by rfl)
 (a:(x==("__debug__" :Str))=false:=by decide) (r:SE X e es:=by rfl) (c:BA X pos es:=by rfl):
 PE X (.Call (.Name x np) (e::es) [] pos) (zi κ E (eCall f t)):=Iw i j (l.mono p) q d.g d.F.kp d.b o m a r c
def BE(d:zo f n)(g:PE X o (zh κ E dp))(cl:Cls X.K C)(h:Meth X.K C m fa)(i:FnOk X.prog X.w X.K X.mg X.base (XT X.prog X.w) k fa fd ps (zn κ n f))(j:Room k0 X.A)(l:Binds X.K fd ps [])
 (p:PA X (e::es) (zI κ E t)) (q:jF (XT X.prog X.w) X E:=by exact qL) (r:κ.cl c=some C:=by rfl) (s:k<=k0:=by decide) (a:SE X e es:=by rfl) (b:BA X pos es:=by rfl)
 (u:eval (.Call (.Attribute o m apos) (e::es) [] pos) X.env=(do
  let ov <-eval o X.env
  standAt apos.atName
  let (f,first) <-holding [ov] (getMethod ov m pl)
  callWith pos f first (backTo pos (starEach (e::es) X.env)) (backToKw pos (keywordEach [] X.env))):=by rfl):
 PE X (.Call (.Attribute o m apos) (e::es) [] pos) (zi κ E (zM c m f dp t)):=Ko r d g cl h i (j.mono s) l q p a b u
def yi{x:Str}{es:List Expr}{t:A3}{id:String}{r:List V->Hp->VK->Prop}{f:FB}(hs:j6 κ r f)(c:qH X (.builtin id) r)(d:X.mg x=none)(g:bootBuiltins x=some (.builtin id))(h:PA X (e::es) (zI κ E t))(i:Gl X x:=by rfl)(j:x≠"__name__" :=by decide)(a:(x==("__debug__" :Str))=false:=by decide)
 (k:SE X e es:=by rfl) (b:BA X pos es:=by rfl):
 PE X (.Call (.Name x np) (e::es) [] pos) (zi κ E (eB f t)):=r_b hs c i d g h j a k b
end
def spL(K:FG):Sp:=λ vs H Q _=> ∃(a:Addr)(ns:List Int),vs=[.ref a]/\ns.length<=63/\SqL K H a (ns.map V.int)/\Only H/\∀H',Q (.bl true) H'
def spL_of(h:∀ns:List Int,ns.length<=63->∃h',f [.scr ns] []=.ok (.v (.bl true)) h')(q:spL κ.K vs H Q E):zn κ 1 f vs H Q E:=by
 obtain⟨a,ns,rfl,d,b,g,k⟩:=q;obtain⟨h',e⟩:=h ns d
 refine⟨λ _=>False,[],[.scr ns],[],rfl,⟨rfl,λ i j a h=>by simp at h,λ a h=>h.elim,λ a h=>h.elim,λ i a h=>by simp at h,λ i c h=>by simp at h⟩,.cons ?_ .nil,?_⟩
 .rcases b with b|b
  .rcases b with b|⟨o,b⟩
   .rcases g a with z|⟨o,xs,z⟩
    .rw[b]at z;cases z
    .rw[b]at z;cases z
   .exact .scr b (by simp) λ z=>z
  .exact .scrK b
 .rw[e]
  intro β' v H' ex p;obtain⟨_,r⟩:=p;cases r;exact k H'
def noX(h:XT P w [] H s (λ _ _ _=>False) e s'):False:=by
 obtain⟨_,_,_,_,_,_,_,_,_,_,_,_,_,_,_,_,q⟩:=h;exact q
end L3
namespace L3
open PySem L2
def qd(e:a s h=.nx s1 h1):sSeq a b s h=b s1 h1:=by unfold sSeq;rw[e]
def VV{ok:H3->Prop}{g:G3}{b:D3}{h:H3}{Q:O3->Prop}(I:Nat->S3->Prop){xs:List V3}{s:S3}(hok:ok h)(h0:I 0 s)
  (step:∀(i:Nat) x s,xs[i]? =some x->I i s->∃s1,g x s=some s1/\((∃s2,(b s1 h=.nx s2 h\/b s1 h=.ct s2 h)/\I (i+1) s2)\/(∃r h2,b s1 h=.rt r h2/\Q (.rt r h2))\/∃s2,b s1 h=.bk s2 h/\Q (.nx s2 h)))
  (done:∀s,I xs.length s->Q (.nx s h)):Q (zP ok g b xs s h):=by
 have gen:∀(n i:Nat)(s:S3),n=xs.length-i->i<=xs.length->I i s->Q (zP ok g b (xs.drop i) s h):=by
  intro n
  induction n with
  |zero=>
   intro i s d hi c;have:i=xs.length:=by lia
   subst this;rw[Cm];unfold zP;rw[Ab hok];exact done s c
  |succ n ih=>
   intro i s d hi c;have a:i<xs.length:=by lia
   rw[Fh a];unfold zP;rw[Ab hok];obtain⟨s1,e,hs⟩:=step i xs[i] s (zX a) c;simp only[e]
   rcases hs with ⟨s2,hb,hI2⟩|⟨r,h2,hb,hq⟩|⟨s2,hb,hq⟩
   .rcases hb with hb|hb<;>simp only[hb]<;>exact ih (i+1) s2 (by lia) a hI2
   .simp only[hb];exact hq
   .simp only[hb];exact hq
 exact gen _ 0 s rfl (B5 _) h0
def Kv{ok:H3->Prop}{g:G3}{b:D3}{h:H3}(I:Nat->S3->Prop){xs:List V3}{s:S3}(hok:ok h)(h0:I 0 s)
  (step:∀(i:Nat) x s,xs[i]? =some x->I i s->∃s1 s2,g x s=some s1/\b s1 h=.nx s2 h/\I (i+1) s2):∃s',zP ok g b xs s h=.nx s' h/\I xs.length s':=by
 refine VV (Q:=λ o=> ∃s',o=.nx s' h/\I xs.length s') I hok h0 (λ i x s c a=>?_) λ s a=>⟨s,rfl,a⟩
 obtain⟨s1,s2,h1,h2,d⟩:=step i x s c a;exact⟨s1,h1,.inl ⟨s2,.inl h2,d⟩⟩
def Kw{α:Type}{ok:H3->Prop}{g:G3}{e:E3}{h:H3}(I:S3->Prop)(enc:α->V3)(f:α->V3)(hok:ok h){l:List α}(c:l.length<=sizeLine)
  (step:∀a s,a∈l->I s->∃s1 r,g (enc a) s=some s1/\I s1/\e s1 h=.ok r h/\r.fz=some (f a)) {s:S3} (h0:I s):
  qm ok g tTru e (l.map enc) [] s h=.ok (l.map f) h:=by
 have gen:∀(l:List α)(b:List V3)(s:S3),b.length+l.length<=sizeLine->(∀a s,a∈l->I s->∃s1 r,g (enc a) s=some s1/\I s1/\e s1 h=.ok r h/\r.fz=some (f a))->I s->qm ok g tTru e (l.map enc) b s h=.ok (b++l.map f) h:=by
  intro l
  induction l with
  |nil=>intro b s _ _ _;rw[Bl];unfold qm;rw[Ab hok];simp
  |cons x r ih=>
   intro b s c st d;rw[Ah];unfold qm;rw[Ab hok];obtain⟨s1,v,h1,h2,i,j⟩:=st x s Aj d;rw[Ax]at c;simp only[h1,tTru,i,j,Ab (show b.length<sizeLine by lia)]
   rw[ih (b++[f x]) s1 (by rw[Ar,Cc];lia) (λ x s k=>st x s (Ap _ k)) h2]
   simp
 have:=gen l [] s (by simpa using c) step h0
 simpa using this
def VW{α:Type}{ok:H3->Prop}{g:G3}{c:T3}{e:E3}{h:H3}(I:S3->Prop)(enc:α->V3)(p:α->Bool)(f:α->V3)(hok:ok h){l:List α}(d:l.length<=sizeLine)
  (step:∀a s,a∈l->I s->∃s1,g (enc a) s=some s1/\I s1/\c s1 h=.ok (p a) h/\(p a=true->∃r,e s1 h=.ok r h/\r.fz=some (f a))) {s:S3} (h0:I s):
  qm ok g c e (l.map enc) [] s h=.ok ((l.filter p).map f) h:=by
 have gen:∀(l:List α)(b:List V3)(s:S3),b.length+l.length<=sizeLine->(∀a s,a∈l->I s->∃s1,g (enc a) s=some s1/\I s1/\c s1 h=.ok (p a) h/\(p a=true->∃r,e s1 h=.ok r h/\r.fz=some (f a)))->I s->qm ok g c e (l.map enc) b s h=.ok (b++(l.filter p).map f) h:=by
  intro l
  induction l with
  |nil=>intro b s _ _ _;rw[Bl];unfold qm;rw[Ab hok];simp
  |cons x r ih=>
   intro b s d st j;rw[Ah];unfold qm;rw[Ab hok];obtain⟨s1,h1,h2,k,m⟩:=st x s Aj j;rw[Ax]at d;simp only[h1,k];cases q:p x with
   |false=>
    simp only[List.filter_cons,q];exact ih b s1 (by lia) (λ x s i=>st x s (Ap _ i)) h2
   |true=>
    obtain⟨v,n,o⟩:=m q;simp only[n,o,List.filter_cons,q,Ab (show b.length<sizeLine by lia)]
    rw[ih (b++[f x]) s1 (by rw[Ar,Cc];lia) (λ x s i=>st x s (Ap _ i)) h2]
    simp
 have:=gen l [] s (by simpa using d) step h0
 simpa using this
def IK(l:List Int):zG int3 (l.map .int)=some l:=by
 have:=DA (f:=int3) (g:=V3.int) (k:=id) (λ _=>rfl) l
 simpa using this
def VX(l:List Bool):zG bl3 (l.map .bl)=some l:=by
 have:=DA (f:=bl3) (g:=V3.bl) (k:=id) (λ _=>rfl) l
 simpa using this
def VY(l:List Str):zG str3 (l.map .str)=some l:=by
 have:=DA (f:=str3) (g:=V3.str) (k:=id) (λ _=>rfl) l
 simpa using this
theorem IL:∀{ns:List Int}{a:Int},0<=a->(∀x∈ns,0<=x)->a+ns.sum<2 ^ 63->jU a ns=true
 | [],_,_,_,_=>rfl
 |x::r,a,h0,hp,hs=>by
  have b:=hp x Aj;rw[List.sum_cons]at hs;have c:0<=r.sum:=by
   have:∀l:List Int,(∀x∈l,0<=x)->0<=l.sum:=by
    intro l;induction l with
    |nil=>intro _;exact D2 _
    |cons y t ih=>intro h;rw[List.sum_cons];have:=h y Aj;have:=ih λ z hz=>h z (Ap _ hz);lia
   exact this r λ z hz=>hp z (Ap _ hz)
  unfold jU;rw[Be,Be]
  refine⟨⟨Cd ⟨by lia,by lia⟩,Cd ⟨by lia,by lia⟩⟩,IL (by lia) (λ z hz=>hp z (Ap _ hz)) (by lia)⟩
def at0{α:Type}{x:α}{r:List α}:atI (x::r) (0:Int)=some x:=jK (j:=0) rfl
def at1{α:Type}{x y:α}{r:List α}:atI (x::y::r) (1:Int)=some y:=jK (j:=1) rfl
def at2{α:Type}{x y z:α}{r:List α}:atI (x::y::z::r) (2:Int)=some z:=jK (j:=2) rfl
def at3{α:Type}{x y z u:α}{r:List α}:atI (x::y::z::u::r) (3:Int)=some u:=jK (j:=3) rfl
def at4{α:Type}{x y z u v:α}{r:List α}:atI (x::y::z::u::v::r) (4:Int)=some v:=jK (j:=4) rfl
def atm1{α:Type}{l:List α}{x:α}:atI (l++[x]) (-1:Int)=some x:=Th l x
def jI(h: -(2 ^ 64)<i/\i<2 ^ 64):CMul i j:= .inl h
def VZ(h: -(2 ^ 64)<j/\j<2 ^ 64):CMul i j:= .inr h
def ON(c:qw h x=.f a)(d:qw h y=.f b):zU h n x y=some (eqV a b):=by
 cases n<;>simp only[zU,c,d]
def GJ:zU h n (.int i) (.int j)=some (decide (i=j)):=by
 rw[ON (a:= .int i) (b:= .int j) rfl rfl];congr 1
def IM:zU h n (.str i) (.str j)=some (decide (i=j)):=by
 rw[ON (a:= .str i) (b:= .str j) rfl rfl];congr 1
def nx_ite{c:Prop}[Decidable c]{a b:S3}{h:H3}:(if c then O3.nx a h else O3.nx b h)=O3.nx (if c then a else b) h:=by split<;>rfl
def rt_ite{c:Prop}[Decidable c]{a b:Vl}{h:H3}:(if c then O3.rt a h else O3.rt b h)=O3.rt (if c then a else b) h:=by split<;>rfl
def ok_ite{α:Type}{c:Prop}[Decidable c]{a b:α}{h:H3}:(if c then Res.ok a h else Res.ok b h)=Res.ok (if c then a else b) h:=by split<;>rfl
def cons_ite{α:Type}{c:Prop}[Decidable c]{a b:α}{x y:List α}:(if c then a::x else b::y)=(if c then a else b)::(if c then x else y):=by split<;>rfl
def some_ite{α:Type}{c:Prop}[Decidable c]{a b:α}:(if c then some a else some b)=some (if c then a else b):=by split<;>rfl
def v_ite{c:Prop}[Decidable c]{a b:V3}:(if c then Vl.v a else Vl.v b)=Vl.v (if c then a else b):=by split<;>rfl
def int_ite{c:Prop}[Decidable c]{a b:Int}:(if c then V3.int a else V3.int b)=V3.int (if c then a else b):=by split<;>rfl
def bl_ite{c:Prop}[Decidable c]{a b:Bool}:(if c then V3.bl a else V3.bl b)=V3.bl (if c then a else b):=by split<;>rfl
def oEq_int{s:S3}{h:H3}{i j:Int}:qq s h (.x (.int i)) (.x (.int j))=some (.v (.bl (decide (i=j)))):=by
 unfold qq j9;simp only[rdm,rdl,GJ,Am]
def oNe_int{s:S3}{h:H3}{i j:Int}:yq s h (.x (.int i)) (.x (.int j))=some (.v (.bl (!decide (i=j)))):=by
 unfold yq j9;simp only[rdm,rdl,GJ,Am]
def oAdd_int{s:S3}{h:H3}{i j:Int}:zx s h (.x (.int i)) (.x (.int j))=some (.v (.int (i+j))):=rfl
def oAddI_int{s:S3}{h:H3}{i j:Int}:AE s h (.x (.int i)) (.x (.int j))=some (.v (.int (i+j))):=rfl
def oSub_int{s:S3}{h:H3}{i j:Int}:zV s h (.x (.int i)) (.x (.int j))=some (.v (.int (i-j))):=rfl
def oMul_int{s:S3}{h:H3}{i j:Int}(c:CMul i j):zO s h (.x (.int i)) (.x (.int j))=some (.v (.int (i*j))):=by
 unfold zO qS Iy oI;simp only[Ab c,Am]
def oDiv_int{s:S3}{h:H3}{i j:Int}(a:0<j)(b:j<1073741824):ym s h (.x (.int i)) (.x (.int j))=some (.v (.int (i / j))):=by
 unfold ym oI;simp only[Ab (show CDiv i j from ⟨a,b⟩),Am]
def oMod_int{s:S3}{h:H3}{i j:Int}(c:0<j):zH s h (.x (.int i)) (.x (.int j))=some (.v (.int (i%j))):=by
 unfold zH oI;simp only[Ab c,Am]
def oShr_int{s:S3}{h:H3}{i j:Int}(c:0<=j):oShr s h (.x (.int i)) (.x (.int j))=some (.v (.int (i / 2 ^ j.toNat))):=by
 unfold oShr oI;simp only[Ab c,Am]
def oPow_int{s:S3}{h:H3}{i j:Int}(c:CPow i j):oPow s h (.x (.int i)) (.x (.int j))=some (.v (.int (i ^ j.toNat))):=by
 unfold oPow oI;simp only[Ab c,Am]
def oAndI_int{s:S3}{h:H3}{i j:Int}:Ke s h (.x (.int i)) (.x (.int j))=some (.v (.int (Builtin.bitAnd i j))):=rfl
def oLt_int{s:S3}{h:H3}{i j:Int}:jq s h (.x (.int i)) (.x (.int j))=some (.v (.bl (decide (i<j)))):=rfl
def oLe_int{s:S3}{h:H3}{i j:Int}:jD s h (.x (.int i)) (.x (.int j))=some (.v (.bl (decide (i<=j)))):=rfl
def oGt_int{s:S3}{h:H3}{i j:Int}:Qd s h (.x (.int i)) (.x (.int j))=some (.v (.bl (decide (j<i)))):=rfl
def oGe_int{s:S3}{h:H3}{i j:Int}:oGe s h (.x (.int i)) (.x (.int j))=some (.v (.bl (decide (j<=i)))):=rfl
def oIx_tup{s:S3}{h:H3}{xs:List V3}{i:Int}:zr s h (.x (.tup xs)) (.x (.int i))=(atI xs i).map .v:=by
 unfold zr qS oIxT yV oIxS;simp only[rdl];cases atI xs i<;>rfl
def oIx_lst{s:S3}{h:H3}{xs:List V3}{i:Int}:zr s h (.x (.lst xs)) (.x (.int i))=(atI xs i).map .v:=by
 unfold zr qS oIxT yV oIxS;simp only[rdl];cases atI xs i<;>rfl
def oIx_scr{s:S3}{h:H3}{ns:List Int}{i:Int}:zr s h (.x (.scr ns)) (.x (.int i))=(atI (ns.map .int) i).map .v:=by
 unfold zr qS oIxT yV oIxS;simp only[rdl];cases atI (ns.map V3.int) i<;>rfl
def sMt_ap{b:FM}{p:P3}{a:A3}{s:S3}{h:H3}:qI b p a s h=mtO b p a (λ s h _=>.nx s h) s h:=rfl
def mAppend_ok{xs:List V3}{y:V3}(h:xs.length<sizeLine):qN xs [y]=some (xs++[y],.non):=by unfold qN;simp only[Ab h]
def yK:1000000<=sizeLine:=by decide
def sz0:(0<=sizeLine)=True:=by simp
def sz1:(1<=sizeLine)=True:=eq_true (by have:=yK;lia)
def sz2:(2<=sizeLine)=True:=eq_true (by have:=yK;lia)
def sz3:(3<=sizeLine)=True:=eq_true (by have:=yK;lia)
def sz4:(4<=sizeLine)=True:=eq_true (by have:=yK;lia)
def sz5:(5<=sizeLine)=True:=eq_true (by have:=yK;lia)
noncomputable def gb(g:G3)(b:D3)(x:V3)(s:S3)(h:H3):O3:=match g x s with
 |some s1=>b s1 h
 |none=>.no
def qo{Q:Res Vl->Prop}{k n:Nat}{b:D3}{vs:List V3}{h:H3}(a:vs.length=k)(q:Q ((b (start3 n vs) h).res)):Q (fun3 k n b vs h):=by
 unfold fun3;rw[Ab a];exact q
def Wa{α:Type}{p:P3}{g:G3}{b:D3}{s:S3}{h:H3}{x:V3}{ok:H3->Prop}{enc:α->V3}{l:List α}(ep:p s h=.ok (.x x) h)(d:yL h x=some (l.map enc,ok))
  (I:Nat->S3->Prop) (h0:I 0 s) (step:∀(i:Nat) a s,l[i]? =some a->I i s->∃s2,gb g b (enc a) s h=.nx s2 h/\I (i+1) s2):∃s',zA (iL p) g b s h=.nx s' h/\I l.length s':=by
 have j:zA (iL p) g b s h=zP ok g b (l.map enc) s h:=by
  unfold zA iL;simp only[ep,Res.bind,Res.bindS,d]
 rw[j];have:=Kv (ok:=ok) (g:=g) (b:=b) (h:=h) I (xs:=l.map enc) (s:=s) (CY d).1 h0 λ i x s f k=>by
  rw[Az]at f;obtain⟨a,m,rfl⟩:=Dj.1 f;obtain⟨s2,e,c⟩:=step i a s m k;unfold gb at e;cases q:g (enc a) s with
  |none=>rw[q]at e;cases e
  |some s1=>rw[q]at e;exact⟨s1,s2,rfl,e,c⟩
 rwa [Ae]at this
def Wb{Q:O3->Prop}{α:Type}{p:P3}{g:G3}{b r:D3}{s:S3}{h:H3}{x:V3}{ok:H3->Prop}{enc:α->V3}{l:List α}(ep:p s h=.ok (.x x) h)(c:yL h x=some (l.map enc,ok))
  (I:Nat->S3->Prop) (h0:I 0 s) (step:∀(i:Nat) a s,l[i]? =some a->I i s->∃s2,gb g b (enc a) s h=.nx s2 h/\I (i+1) s2) (k:∀s',I l.length s'->Q (r s' h)):Q (sSeq (zA (iL p) g b) r s h):=by
 obtain⟨s',e,d⟩:=Wa ep c I h0 step;rw[qd e];exact k s' d
def OO(f:a s h=.ok [.x (.int j)] h)(l: -(2 ^ 62)<=j/\j<2 ^ 62)
  (I:Nat->S3->Prop) (h0:I 0 s) (step:∀(i:Nat) s,i<j.toNat->I i s->∃s2,gb g b (.int (i:Int)) s h=.nx s2 h/\I (i+1) s2):∃s',zA (qV a) g b s h=.nx s' h/\I j.toNat s':=by
 have m:zA (qV a) g b s h=zP (λ _=>True) g b ((List.range j.toNat).map λ k=>.int (0+((k:Nat):Int))) s h:=by
  unfold zA qV;simp only[f,Res.bind,Res.bindS,Ab l]
 rw[m];have:=Kv (ok:=λ _=>True) (g:=g) (b:=b) (h:=h) I (xs:=(List.range j.toNat).map λ k=>.int (0+((k:Nat):Int))) (s:=s) trivial h0 λ i x s c n=>by
  have hi:i<j.toNat:=by
   have:=Ao.1 c;simpa using this.1
  rw[Az,List.getElem?_range hi]at c
  cases c;obtain⟨s2,e,d⟩:=step i s hi n;simp only[Ej];unfold gb at e;cases q:g (.int i) s with
  |none=>rw[q]at e;cases e
  |some s1=>rw[q]at e;exact⟨s1,s2,rfl,e,d⟩
 rwa [Ae,Bq]at this
def Wc{Q:O3->Prop}{a:A3}{g:G3}{b r:D3}{s:S3}{h:H3}{j:Int}(c:a s h=.ok [.x (.int j)] h)(d: -(2 ^ 62)<=j/\j<2 ^ 62)
  (I:Nat->S3->Prop) (h0:I 0 s) (step:∀(i:Nat) s,i<j.toNat->I i s->∃s2,gb g b (.int (i:Int)) s h=.nx s2 h/\I (i+1) s2) (k:∀s',I j.toNat s'->Q (r s' h)):Q (sSeq (zA (qV a) g b) r s h):=by
 obtain⟨s',e,f⟩:=OO c d I h0 step;rw[qd e];exact k s' f
def zF{Q:Res Vl->Prop}{a b:D3}{s s1:S3}{h h1:H3}(e:a s h=.nx s1 h1)(q:Q ((b s1 h1).res)):Q ((sSeq a b s h).res):=by rw[qd e];exact q
def GK{Q:Res Vl->Prop}{a:A3}{g:G3}{b r:D3}{s:S3}{h:H3}{j:Int}(c:a s h=.ok [.x (.int j)] h)(d: -(2 ^ 62)<=j/\j<2 ^ 62)
  (I:Nat->S3->Prop) (h0:I 0 s) (step:∀(i:Nat) s,i<j.toNat->I i s->∃s2,gb g b (.int (i:Int)) s h=.nx s2 h/\I (i+1) s2) (k:∀s',I j.toNat s'->Q ((r s' h).res)):Q ((sSeq (zA (qV a) g b) r s h).res):=
 Wc (Q:=λ o=>Q o.res) c d I h0 step k
def DD{Q:Res Vl->Prop}{α:Type}{p:P3}{g:G3}{b r:D3}{s:S3}{h:H3}{x:V3}{ok:H3->Prop}{enc:α->V3}{l:List α}(ep:p s h=.ok (.x x) h)(c:yL h x=some (l.map enc,ok))
  (I:Nat->S3->Prop) (h0:I 0 s) (step:∀(i:Nat) a s,l[i]? =some a->I i s->∃s2,gb g b (enc a) s h=.nx s2 h/\I (i+1) s2) (k:∀s',I l.length s'->Q ((r s' h).res)):Q ((sSeq (zA (iL p) g b) r s h).res):=
 Wb (Q:=λ o=>Q o.res) ep c I h0 step k
end L3
namespace L3
open PySem PySem.Spec PyProof.Rows L2
noncomputable def jQ:V3->Option MK
 |.int i=>some (.one (.inl i))
 |.str z=>some (.one (.inr z))
 |_=>none
noncomputable def kV3:qg->V3
 |.inl i=>.int i
 |.inr z=>.str z
noncomputable def yk{α:Type}[DecidableEq α](kvs:List (α×V3))(k:α):Option V3:=(kvs.find? λ a=>decide (a.1=k)).map (·.2)
noncomputable def put3{α:Type}[DecidableEq α](kvs:List (α×V3))(k:α)(v:V3):List (α×V3):=
 if (kvs.any λ a=>decide (a.1=k))=true then kvs.map λ a=>if a.1=k then (a.1,v) else a else kvs++[(k,v)]
inductive Dc where
 |t (kvs:List (MK×V3))
def Dc.c:Dc->C3
 |.t kvs=>.dT kvs
def Dc.len:Dc->Nat
 |.t kvs=>kvs.length
def Dc.get:Dc->V3->Option (Option V3)
 |.t kvs,x=>(jQ x).map (yk kvs)
def Dc.put:Dc->V3->V3->Option Dc
 |.t kvs,x,v=>(jQ x).map λ k=>.t (put3 kvs k v)
noncomputable def C3.dc:C3->Option Dc
 |.dT kvs=>some (.t kvs)
 |_=>none
def qK(s:S3)(h:H3):Rf->Option Dc
 |.x (.dT kvs)=>some (.t kvs)
 |.x (.loc n)=>match h[n]? with
  |some c=>c.dc
  |none=>none
 |.s i=>match s[i]? with
  |some (some (.m c))=>c.dc
  |_=>none
 |_=>none
section
variable{X:Cx}{κ:Kx}{E:XK}{F F':Fr}{σ σ':L2.St}{H H1 H':Hp}{Q:VK}{p:Addr}{e a b c o:Expr}{pos apos np cpos:Pos}{i:Nat}{D:Ends}{β:AO}{O:Addr->Prop}
def DR(κ:Kx)(β:AO)(O:Addr->Prop)(H:Hp):Dc->Addr->Prop
 |.t kvs,a=> ∃ws,H a=some (.dT ws)/\RepP κ β O H kvs ws
def DR.of{c:C3}{d:Dc}{a:Addr}(e:c.dc=some d)(h:CellR κ β O H c a):DR κ β O H d a:=by
 cases c<;>simp[C3.dc]at e
 .subst e;exact h
def OP(b:Rel κ F σ H)(r:RfR κ F H f v)(e:qK F.s F.h f=some d):∃a,v=.ref a/\DR κ F.β F.O H d a:=by
 cases f with
 |s i=>
  obtain⟨a,c,h1,h2,j,g⟩:=r;simp only[qK,j]at e;exact⟨a,h2,DR.of e g⟩
 |x y=>
  cases y<;>simp[qK]at e
  case dT zs=>
   subst e;cases r with
   |dT h1 h2 j g=>exact⟨_,rfl,_,h1,g⟩
  case loc n=>
   cases r with
   |loc h1 h2=>
    cases q:F.h[n]? with
    |none=>rw[q]at e;cases e
    |some c=>
     rw[q]at e
     rcases b.heap.cell n _ q with z|⟨a,ha,h5⟩
     .subst z;cases e
     .exact⟨a,h2 a ha,DR.of e h5⟩
theorem RepP.val{α:Type}[DecidableEq α]{k:α}:∀{kvs:List (α×V3)}{ws:List (α×V)},RepP κ β O H kvs ws->(∀x,yk kvs k=some x->∃y,yC ws k=some y/\Rep κ β O H x y)/\(yk kvs k=none->yC ws k=none)
 |_,_,.nil=>⟨λ x e=>(nomatch e),λ _=>rfl⟩
 |_,_,.cons (k:=k') (x:=x') (y:=y') q t=>by
  have a:=RepP.val (k:=k) t
  by_cases z:k'=k
  .subst z
   refine⟨λ x e=>?_,λ e=>?_⟩
   .simp[yk]at e;subst e;exact⟨y',by simp[yC],q⟩
   .simp[yk]at e
  .have e1:∀(l:List (_×V3)),yk ((k',x')::l) k=yk l k:=λ l=>by simp[yk,Eh,z]
   have e2:∀(l:List (_×V)),yC ((k',y')::l) k=yC l k:=λ l=>by simp[yC,Eh,z]
   refine⟨λ x e=>?_,λ e=>?_⟩
   .rw[e1]at e;rw[e2];exact a.1 x e
   .rw[e1]at e;rw[e2];exact a.2 e
theorem RepP.any{α:Type}{g:α->Bool}:∀{kvs:List (α×V3)}{ws:List (α×V)},RepP κ β O H kvs ws->(kvs.any λ a=>g a.1)=ws.any λ a=>g a.1
 |_,_,.nil=>rfl
 |_,_,.cons q t=>by simp only[List.any_cons,RepP.any (g:=g) t]
theorem RepP.len{α:Type}:∀{kvs:List (α×V3)}{ws:List (α×V)},RepP κ β O H kvs ws->kvs.length=ws.length
 |_,_,.nil=>rfl
 |_,_,.cons q t=>by simp only[Ax,RepP.len t]
theorem RepP.snoc{α:Type}{k:α}{x:V3}{y:V}(r:Rep κ β O H x y):∀{kvs:List (α×V3)}{ws:List (α×V)},RepP κ β O H kvs ws->RepP κ β O H (kvs++[(k,x)]) (ws++[(k,y)])
 |_,_,.nil=>.cons r .nil
 |_,_,.cons q t=>.cons q (RepP.snoc r t)
theorem RepP.rpl{α:Type}[DecidableEq α]{k:α}{x:V3}{y:V}(r:Rep κ β O H x y):∀{kvs:List (α×V3)}{ws:List (α×V)},RepP κ β O H kvs ws->RepP κ β O H (kvs.map λ a=>if a.1=k then (a.1,x) else a) (ws.map λ a=>if a.1=k then (a.1,y) else a)
 |_,_,.nil=>.nil
 |_,_,.cons (k:=k') q t=>by
  simp only[Ah]
  by_cases z:k'=k
  .rw[Ab z,Ab z];exact .cons r (RepP.rpl r t)
  .rw[Ac z,Ac z];exact .cons q (RepP.rpl r t)
def RepP.put{α:Type}[DecidableEq α]{k:α}{x:V3}{y:V}{kvs:List (α×V3)}{ws:List (α×V)}(r:Rep κ β O H x y)(h:RepP κ β O H kvs ws):RepP κ β O H (put3 kvs k x) (putK ws k y):=by
 unfold put3 putK;rw[h.any (g:=λ z=>decide (z=k))]
 split
 .exact h.rpl r
 .exact h.snoc r
def OQ(r:Rep κ β O H x y)(e:jQ x=some k):KyT H k y:=by
 cases x<;>simp[jQ]at e
 .subst e;cases r;rfl
 .subst e;cases r;rfl
theorem DR.get{d:Dc}{a:Addr}{x:V3}{y:V}{o:Option V3}(h:DR κ β O H d a)(r:Rep κ β O H x y)(e:d.get x=some o):
  ∃o',DGet H a y o'/\(∀z,o=some z->∃w,o'=some w/\Rep κ β O H z w)/\(o=none->o'=none):=by
 cases d with
 |t kvs=>
  obtain⟨ws,h1,h2⟩:=h;obtain⟨k,b,rfl⟩:=Dj.1 e;have:=h2.val (k:=k);exact⟨_,DGet.t h1 (OQ r b),λ z hz=>this.1 z hz,this.2⟩
def Wd:R2:=λ x y H Q=> ∃a v,x=V.ref a/\DGet H a y (some v)/\Q v H
def AN:F2:=λ s h x y=>match qK s h x,y with
 |some d,.x k=>match d.get k with
  |some (some v)=>some (.v v)
  |_=>none
 |_,_=>none
def We:OpSim κ Wd AN:=λ F σ H x y z v w Q b c f e k=>by
 unfold AN at e
 split at e
 .rename_i d h q
  obtain⟨a,rfl,hd⟩:=OP b c q
  split at e
  .rename_i j q2
   cases e;obtain⟨o',g,h1,_⟩:=hd.get (show Rep κ F.β F.O H h w from f) q2
   obtain⟨u,rfl,i⟩:=h1 _ rfl;exact⟨a,u,rfl,g,k u H Ext.refl ⟨b,i⟩⟩
  .cases e
 .cases e
def IQ(c:X.A.units+1<cLine)(hs:NoSl b)(d:PE X a (zh κ E da))(e:PE X b (zh κ E db)):PE X (.Subscript a b pos) (zi κ E (eOp AN da db)):=yQ (UC c d e hs) λ _ _ _ h=>FO We h
def rDIn(b:Bool):R2:=λ y x H Q=> ∃a o,x=V.ref a/\DGet H a y o/\Q (.bl (if b then !o.isSome else o.isSome)) H
def oDIn(a:Bool):F2:=λ s h y x=>match qK s h x,y with
 |some d,.x k=>match d.get k with
  |some o=>some (.v (.bl (if a then !o.isSome else o.isSome)))
  |none=>none
 |_,_=>none
def OR:OpSim κ (rDIn neg) (oDIn neg):=λ F σ H y x z w v Q b c f e k=>by
 unfold oDIn at e
 split at e
 .rename_i d h q
  obtain⟨a,rfl,hd⟩:=OP b f q
  split at e
  .rename_i o q2
   cases e;obtain⟨o',g,h1,h2⟩:=hd.get (show Rep κ F.β F.O H h w from c) q2
   have e1:o'.isSome=o.isSome:=by
    cases o with
    |none=>rw[h2 rfl];rfl
    |some z=>obtain⟨u,rfl,_⟩:=h1 z rfl;rfl
   refine⟨a,o',rfl,g,?_⟩
   rw[e1];exact k _ H Ext.refl ⟨b,.bl _⟩
  .cases e
 .cases e
def OS(b:X.A.units+1<cLine):OpR X (compareOp .NotIn) (rDIn true):=λ pins s σ H x y v u Q I c d ⟨a,o,e,g,q⟩=>by
 subst e;obtain rfl:u=Value.ref a:=d;exact U6 b I g c λ f I3=>⟨.bl (!o.isSome),H,I3,rfl,q⟩
noncomputable def eDnT:E3:=λ _ h=>.ok (.m (.dT [])) h
def Ky:PE X (.Dict [] [] pos) (zi κ E eDnT):=yQ UG λ σ H Q ⟨F,a,o⟩ p hp=>o F.β (.ref p) _ (qy hp) (Post.dT a hp .nil)
def Wf{f:Rf}{v:V}{d d':Dc}{s':S3}{h':H3}(B:F.T=[])(g:Rel κ F σ H)(r:RfR κ F H f v)(e:qK F.s F.h f=some d)(k:wr3 F.s F.h d'.c f=some (s',h')):
  ∃l,v=.ref l/\DR κ F.β F.O H d l/\∀u,(∀β O H',(∀{α:Type}{x:List (α×V3)}{y:List (α×V)},RepP κ F.β F.O H x y->RepP κ β O H' x y)->H' l=some u->CellR κ β O H' d'.c l)->∃F',SExt F H F' (zk H l u)/\F'.s=s'/\F'.h=h'/\Rel κ F' σ (zk H l u):=by
 cases f with
 |s i=>
  cases k;obtain⟨a,c,h1,h2,C,D⟩:=r;simp only[qK,C]at e;have hd:=DR.of e D;have j:∃o,H a=some o:=by
   cases d with
   |t kvs=>obtain⟨ws,q,_⟩:=hd;exact⟨_,q⟩
  have E:F.O a:= .inr (.inl (Al h1))
  refine⟨a,h2,hd,λ u p=>⟨{F with s:=F.s.set i (some (.m d'.c))},⟨⟨λ b u w G m=>⟨by rw[zK (λ z=>by subst z;exact m (Al h1))];exact w,G⟩,Ag _,λ _ _ _ h=>h,(BZ (β:=F.β) j).there,nwb0⟩,λ _ h=>.inl h,rfl,B⟩,rfl,rfl,g.wrSlot h1 C (p _ _ _ (λ A=>A.ext (BZ (β:=F.β) j) (λ b w=>by rw[w];exact E) λ _ _ _ n=>n) yt)⟩⟩
 |x y=>
  cases y<;>simp[wr3]at k
  case loc n=>
   obtain⟨rfl,rfl⟩:=k;cases r with
   |loc h1 h2=>
    simp only[qK]at e;cases q:F.h[n]? with
    |none=>rw[q]at e;cases e
    |some c=>
     rw[q]at e
     rcases g.heap.cell n _ q with z|⟨a,ha,h5⟩
     .subst z;cases e
     .have hd:=DR.of e h5
      have j:∃o,H a=some o:=by
       cases d with
       |t kvs=>obtain⟨ws,q,_⟩:=hd;exact⟨_,q⟩
      have ex:=λ o=>ID (o:=o) ha j
      exact⟨a,h2 a ha,hd,λ u p=>⟨F.to F.β (F.h.set n d'.c),SExt.of0 B (ex _),rfl,rfl,g.next (ex _) (g.heap.wrLoc ha (p _ _ _ (λ A=>A.ext0 (ex _)) yt))⟩⟩
def jL(p i:P3)(e:E3):D3:=λ s h=>(e s h).bindS λ r h1=>match r.fz with
 |none=>.no
 |some y=>(p s h1).bindS λ f h2=>(i s h2).bindS λ j a=>match j,qK s a f with
  |.x k,some d=>match d.put k y with
   |some d'=>if d.len<sizeLine then match wr3 s a d'.c f with
    |some (s',h')=>.nx s' h'
    |none=>.no
    else .no
   |none=>.no
  |_,_=>.no
def Wg(h:zu κ E (jL dp di d) D σ H):NS (zh κ E dp) (zh κ E di) (zi κ E d) D σ H:=by
 obtain⟨F,p,g,o⟩:=h
 refine qW (K:=kE κ) p g o λ v H1 e h1 r e1 p1 o1=>?_
 cases z:r.fz with
 |none=>simp only[z]at o1;exact o1.elim
 |some y=>
  simp only[z]at o1;obtain⟨I,J⟩:=Post.fz p1 z;have s1:SExt F H (F.to e h1) H1:=SExt.of0 g e1
  refine qW (F:=F.to e h1) (K:=kP κ) I g (SOut.move s1 o1) λ X H2 a h2 f e2 i o2=>?_
  have s2:SExt (F.to e h1) H1 (F.to a h2) H2:=SExt.of0 (F:=F.to e h1) g e2
  refine qW (F:=F.to a h2) (K:=kP κ) i.1 g (SOut.move s2 o2) λ iv H3 b m j u A o3=>?_
  obtain⟨L,rj⟩:=A;have M:SExt (F.to a h2) H2 (F.to b m) H3:=SExt.of0 (F:=F.to a h2) g u;have B:=RfR.ext (F:=F.to a h2) (β':=b) (h':=m) i.1 u i.2;have C:Rep κ b F.O H3 y v:=(Rep.ext0 u (Rep.ext0 e2 J))
  match j,rj,o3 with
  |.s _,rj,o3=>exact o3.elim
  |.x k,rj,o3=>
   cases q:qK F.s m f with
   |none=>simp only[q]at o3;exact o3.elim
   |some dc=>
    simp only[q]at o3;cases q2:dc.put k y with
    |none=>simp only[q2]at o3;exact o3.elim
    |some dc'=>
     simp only[q2]at o3
     by_cases hz:dc.len<sizeLine
     .simp only[Ab hz]at o3
      cases q3:wr3 F.s m dc'.c f with
      |none=>simp only[q3]at o3;exact o3.elim
      |some w=>
       obtain⟨s',h'⟩:=w;simp only[q3]at o3;obtain⟨l,ev,hd,N⟩:=Wf (F:=F.to b m) g L B q q3;subst ev;have P:Rep κ b F.O H3 k iv:=rj;cases dc with
       |t kvs=>
        obtain⟨ws,Q,G⟩:=hd;obtain⟨R,S,rfl⟩:=Dj.1 q2;obtain⟨F',T,es,U,n⟩:=N (.dT (putK ws R v)) (λ β O H' V W=>⟨_,W,V (G.put C)⟩)
        refine⟨l,_,rfl,?_,SOut.move M o3 F' σ _ T es U n⟩
        exact DPut.t Q (OQ P S) (by rw[<-G.len];exact hz)
     .simp only[Ac hz]at o3;exact o3.elim
def IT(b:X.A.units+1<cLine)(c:PE X e (zi κ E d))(f:PE X o (zh κ E dp))(hi:PE X ii (zh κ E di))
 (a:swapsWith e (some (.Subscript o ii tp)) pos.line X.env=pure false:=by rfl):PS X (.Assign [.Subscript o ii tp] e pos) (zu κ E (jL dp di d)):=qv (UD b f hi c a) λ D σ H h=>Wg h
end
section
variable{X:Cx}{κ:Kx}{E:XK}{F F':Fr}{σ σ':L2.St}{H H1 H':Hp}{Q:VK}{p:Addr}{e a b c o:Expr}{pos apos np cpos ip jp:Pos}{i:Nat}{D:Ends}{β:AO}{O:Addr->Prop}
def hu1(a:Room k A):A.units+1<cLine:=by have:=yN a;lia
end
end L3
namespace L2
open PySem PySem.Spec PyProof.Rows
section
variable{prog:Program}{w:World}{A:Around}{E:VP}{s:Shared}
abbrev KI:String:="dict_keyiterator"
def DE(h:Heap)(d:Addr)(es:Array DictEntry)(ep:Nat):Prop:=∃o,h.get? d=some o/\o.ExactDict/\o.data=.dict es ep
def DE.typeIs(x:DE s.heap d es ep):s.TypeIs (.ref d) "dict" :=let ⟨o,ho,hc,_⟩:=x;⟨o,ho,hc.1⟩
def Wh(hd:(d==sysModules)=false)(c:DE s.heap d es ep)
  (f:Q (.ref s.heap.objs.size) {s with heap:=s.heap.push {cls:= .type KI,data:= .fields #[.ref d,.int 0 0,.int es.size 0,.int ep 0]}}):wpAny (model prog w) A (pyIter (.ref d)) Q E s:=by
 obtain⟨o,e,g,a⟩:=id c;have b:=c.typeIs
 refine Gm b F.slot_dict_iter (Ck F.slot_dict_iter b F.entry_dict_iter ?_ (F.args_dict_iter_1 _))
 unfold PySem.Builtin.«dict.__iter__»;refine Aa ?_
 unfold PySem.Builtin.Dict.dictSlotNone;refine Aa (wpAny_notOrdered_dict b ?_)
 show wpAny _ _ (pure (Value.ref d)) _ _ s;refine Ad ?_
 show wpAny _ _ (Builtin.Dict.showsAll d >>=_) _ _ s;unfold PySem.Builtin.Dict.showsAll;rw[Ac (λ z=>by rw[hd]at z;cases z)]
 refine Aa (Ad ?_)
 refine Aa (Gg e a (Aa (wpAny_dictEpoch e a ?_)))
 refine Aa (Cu (Ad ⟨_,rfl,KI,_,⟨_,Bf _ rfl,rfl⟩,Fj.lookup,?_⟩))
 simpa[rawInt] using f
def Wi(a:s.heap.IsKeyIter it d i es.size ep)(j:DE s.heap d es ep)(k:es[i]? =some e)
  (l:∀h',h'.IsKeyIter it d (i+1) es.size ep->Heap.SameBut it s.heap h'->Q (some e.key) {s with heap:=h'}):wpAny (model prog w) A (pyNext (.ref it)) Q E s:=by
 obtain⟨o,h,m,hd⟩:=id a;obtain⟨od,c,n,f⟩:=id j;unfold pyNext
 refine Aa (wpAny_attempt (Eg (name:=Str.ofString "__next__") a.typeIs Fj (Ck Fj a.typeIs F.entry_dict_keyiterator_next ?_ (F.args_dict_keyiterator_next_1 _))))
 refine Aa (Ad (Aa (Aa ?_)))
 first|refine Aa (Gn a.typeIs (Ad (Aa (Em h hd ?_))))|refine Aa (Gp a.typeIs (Ad (Aa (Em h hd ?_))))
 have g:Builtin.Dict_items.ownsTuple KI=false:=by decide
 simp only[g,Df,Ca];show wpAny _ _ (if (Value.ref d==Value.none)=true then _ else _) _ _ s;rw[Ac (show ¬((Value.ref d==Value.none)=true) from Bk)]
 refine Aa (Ad (Aa (Gg c f ?_)))
 rw[Ac (by simp)]
 refine Aa (Ad (Aa (wpAny_dictEpoch c f ?_)))
 rw[Ac (by simp)]
 refine Ad ?_
 simp only[show ¬((i:Int)<0) from by lia,Ca,Br,k]
 refine Aa ?_
 first|refine Aa (Gn a.typeIs (Ad (Aa (Hi a.typeIs ?_))))|refine Aa (Gp a.typeIs (Ad (Aa (Hi a.typeIs ?_))))
 show wpAny _ _ (setField (.ref it) 1 (rawInt ((i:Int)+1)) >>=_) _ _ s;refine Aa (Eb h hd (by simp) ?_)
 have b:(s.heap.update it (Obj.mapFields (λ z=>z.setIfInBounds 1 (rawInt ((i:Int)+1))))).IsKeyIter it d (i+1) es.size ep:=
  ⟨_,Cp _ h (Hc (Fg hd _)),(Obj.cls_mapFields ..).trans m,by rw[Fg hd];simp[rawInt]⟩
 refine Aa (B4 (Aa (Hi (s:={s with heap:=s.heap.update it (Obj.mapFields (λ z=>z.setIfInBounds 1 (rawInt ((i:Int)+1))))}) b.typeIs ?_)))
 show wpAny _ _ (pure e.key) _ _ _;exact Ad (Ad ⟨_,rfl,Ad (l _ b (Di ..))⟩)
def Wj(j:A.handled=none)(c:s.heap.IsKeyIter it d i es.size ep)(k:DE s.heap d es ep)(l:es.size<=i)
  (n:∀h',Heap.ExtBut it s.heap h'->Q none {s with heap:=h'}):wpAny (model prog w) A (pyNext (.ref it)) Q E s:=by
 obtain⟨o,h,q,hd⟩:=id c;obtain⟨od,e,p,f⟩:=id k;unfold pyNext
 refine Aa (wpAny_attempt (Eg (name:=Str.ofString "__next__") c.typeIs Fj (Ck Fj c.typeIs F.entry_dict_keyiterator_next ?_ (F.args_dict_keyiterator_next_1 _))))
 refine Aa (Ad (Aa (Aa ?_)))
 first|refine Aa (Gn c.typeIs (Ad (Aa (Em h hd ?_))))|refine Aa (Gp c.typeIs (Ad (Aa (Em h hd ?_))))
 have g:Builtin.Dict_items.ownsTuple KI=false:=by decide
 simp only[g,Df,Ca];show wpAny _ _ (if (Value.ref d==Value.none)=true then _ else _) _ _ s;rw[Ac (show ¬((Value.ref d==Value.none)=true) from Bk)]
 refine Aa (Ad (Aa (Gg e f ?_)))
 rw[Ac (by simp)]
 refine Aa (Ad (Aa (wpAny_dictEpoch e f ?_)))
 rw[Ac (by simp)]
 refine Ad ?_
 simp only[show ¬((i:Int)<0) from by lia,Ca,Br,Gq l]
 refine Aa ?_
 first|refine Aa (Gn c.typeIs (Ad ?_))|refine Aa (Gp c.typeIs (Ad ?_))
 show wpAny _ _ (setField (.ref it) 0 .none >>=_) _ _ s;refine Aa (Eb h hd (by simp) ?_)
 show wpAny _ _ (newExc (.type "StopIteration") [] >>=_) _ _ _;refine Aa ?_
 simp only[newExc,newTuple];refine Aa (Cu ?_ (by size_fits))
 refine Aa (m:=firstArgMember _ _) (wpAny_of_eq (a:=Value.none) (by first|rfl|(simp only[firstArgMember];rfl)) (Cu ?_ (by size_fits)))
 simp only[raiseNew];refine Aa (wpAny_handled ?_)
 rw[show A.in1.handled=none from j];refine Aa (Ad (wpAny_throw ?_))
 refine Aa (wpAny_isInstance (T:="StopIteration") (b:=true) ⟨_,Bf _ rfl,rfl⟩ isSubtype_stop (Ad (n _ (((Di ..).extBut.push _).push _))))
end
def Itd(a:Addr)(n:Nat):It:=⟨λ i H=> ∃kvs,H a=some (.dT kvs)/\kvs.length=n/\i<n,λ i H x H'=>H'=H/\∀kvs,H a=some (.dT kvs)->∃k v,kvs[i]? =some (k,v)/\KyT H k x,λ i H=> ∃kvs,H a=some (.dT kvs)/\kvs.length=n/\n<=i⟩
def KyV.val:∀{k:MK}{u:Value},KyV H k u->∃x,RelV x u/\KyT H k x
 |.one k,u,r=>⟨kV k,r,rfl⟩
def DictM.at(c:DictM P w h a xs):∃es,DE h a es xs.length/\es.toList=xs.map (yH P w)/\es.size=xs.length:=by
 obtain⟨o,es,ep,d,e,f,b,⟨i,g⟩,j⟩:=c;subst g;exact⟨es,⟨o,d,e,f⟩,b,by rw[<-Cn,b,Ae]⟩
def Wk{P:Program}{w:World}{K:FG}{tg:Expr}(a it:Addr)(n:Nat):Turn P w K tg (Itd a n) [it] it (λ i h=>h.IsKeyIter it a i n n) where
 mem:=by simp
 obj:=λ i h st b f=>by
  have e:b=it:=by simpa using f
  subst e;obtain⟨o,e,c,d⟩:=st;exact⟨o,e,λ v z=>by rw[d]at z;cases z⟩
 keep:=λ i h h' st k=>st.at λ o e=>k it (by simp) o e
 item:=by
  intro X J p L W i pins s σ H E I G st M;subst J p L;obtain⟨kvs,t,Z,hi⟩:=M;obtain⟨z,y,xs,r,N⟩:=FN I.hok t;obtain⟨es,u,Y,O⟩:=N.at;have A:=Paired.length r;obtain⟨Q,R,f2,S,T,U⟩:=G it (by simp)
  have e1:es.size=n:=by lia
  have e2:xs.length=n:=by lia
  rw[e2]at u;have B:i<es.size:=by lia
  have C:i<xs.length:=by lia
  have D:i<kvs.length:=by lia
  have F:es[i].key=xs[i].2.1:=by
   have:es.toList[i]? =(xs.map (yH X.prog X.w))[i]? :=by rw[Y]
   rw[Bx,B2 B,Az,zX C]at this;rw[Option.some.inj this];rfl
  have hp:kvs[i].1=xs[i].1/\KyV H kvs[i].1 xs[i].2.1/\RelV kvs[i].2 xs[i].2.2:=by
   have gen:∀{l:List (MK×V)}{m:Tr},KT H l m->∀(i:Nat)(h1:i<l.length)(h2:i<m.length),l[i].1=m[i].1/\KyV H l[i].1 m[i].2.1/\RelV l[i].2 m[i].2.2:=λ {l m} q=>by
    induction q with
    |nil=>intro i h1;exact absurd h1 (Nat.not_lt_zero _)
    |cons t _ ih=>
     intro i h1 h2;cases i with
     |zero=>exact t
     |succ j=>exact ih j (by simpa using h1) (by simpa using h2)
   exact gen r i D C
  obtain⟨x,rx,kx⟩:=hp.2.1.val
  refine Wi (by rw[e1];exact st) u (B2 B) λ h' g sb=>?_
  have I1:Inv X pins σ H {s with heap:=h'}:=I.turned (t':=s.toks) (λ b o f e=>(sb.2 b f).trans e) Q R S T U
  rw[e1]at g;obtain⟨o,e,c,d⟩:=id g
  refine⟨es[i].key,rfl,FC (s:={s with heap:=h'}) e c d (by decide) ⟨x,H,I1,by rw[F];exact rx,⟨rfl,λ ws p=>?_⟩,g,λ b f=>(G b f).1⟩⟩
  rw[t]at p;cases p;exact⟨_,_,zX D,kx⟩
 done:=by
  intro X J p L W i pins s σ H E I G st M;subst J p L;obtain⟨kvs,t,Z,hi⟩:=M;obtain⟨z,y,xs,r,N⟩:=FN I.hok t;obtain⟨es,u,Y,O⟩:=N.at;have A:=Paired.length r;obtain⟨Q,R,f2,S,T,U⟩:=G it (by simp)
  have e1:es.size=n:=by lia
  have e2:xs.length=n:=by lia
  rw[e2]at u;exact Wj (I.ok.hd W) (by rw[e1];exact st) u (by lia) λ h' eb=>⟨rfl,I.turned (t':=s.toks) (λ b o f e=>eb b o f e) Q R S T U⟩
 self:=λ _ _ _ _ _ st h=>wpAny_pyIter_keyiter st h
section
variable{X:Cx}{tg:Expr}
def Wl(tl:TE):TI:=λ σ H R=>tl σ H λ x H1=> ∃a kvs,x=.ref a/\H1 a=some (.dT kvs)/\R (Itd a kvs.length) H1
def Wm{l:Expr}{tl:TE}(f:PE X l tl):PI X tg l (Wl tl):=by
 intro pins s σ H R I h
 refine zt (f pins s σ H _ I h) λ v s1 x H1 d g q1=>?_
 obtain⟨a,kvs,e,i,q⟩:=q1;subst e;cases g;obtain⟨z,y,xs,r,j⟩:=FN d.hok i;obtain⟨es,k,f,m⟩:=j.at;have c:=Paired.length r
 refine Wh y k ?_
 have e1:es.size=kvs.length:=by lia
 rw[e1,<-c]
 refine⟨s1.heap.objs.size,[s1.heap.objs.size],_,_,H1,rfl,d.kept (t':=s1.toks) λ b o e=>As _ e,Wk a _ kvs.length,⟨_,Bf _ rfl,rfl,rfl⟩,λ b n=>?_,q⟩
 have e:b=s1.heap.objs.size:=by simpa using n
 subst e;exact d.fpOk (Ag _) (d.hok.fresh (Ag _))
end
end L2
namespace L3
open PySem PySem.Spec PyProof.Rows L2
section
variable{X:Cx}{κ:Kx}{E:XK}{F:Fr}{σ:L2.St}{H:Hp}
def mkV3:MK->V3
 |.one k=>kV3 k
def OT:∀k:qg,Rep κ β O H (kV3 k) (kV k)
 |.inl i=>.int i
 |.inr z=>.str z
def Wn(a:Rel κ F σ H):∀{k:MK}{x:V},KyT H k x->Rep κ F.β F.O H (mkV3 k) x
 |.one k,x,e=>by
  have e:x=kV k:=e;subst e;exact OT k
theorem RepP.keys{α:Type}{β:AO}{O:Addr->Prop}:∀{kvs:List (α×V3)}{ws:List (α×V)},RepP κ β O H kvs ws->kvs.map (·.1)=ws.map (·.1)
 |_,_,.nil=>rfl
 |_,_,.cons _ r=>by rw[Ah,Ah,RepP.keys r]
def Wo(e:X.N.Nodup)(a:X.N[i]? =some y)(f:X.env.scope.names.lookup y=some .local)(j:X.calm=true)(S:CompScope X loc free fr scope)(hi:PI X tg iter (yG κ E it))
 (k:∀cl C s H ex,PG (qD X (loc++free) scope cl C s H ex) tg (yR κ g)) (l:∀cl C s H ex,PTs (qD X (loc++free) scope cl C s H ex) ifs (zQ κ E0 c)) (m:∀cl C s H ex,PE (qD X (loc++free) scope cl C s H ex) elt (zi κ E0 d))
 (hs:∀x,foldedSetIterable iter X.env x=pure x:=by intro _;rfl) (b:swapsWith (.ListComp elt [⟨tg,iter,ifs,0⟩] scope pos) (some (.Name y py)) spos.line X.env=pure true:=by rfl):
 PS X (.Assign [.Name y py] (.ListComp elt [⟨tg,iter,ifs,0⟩] scope pos) spos) (zu κ E (sSet i (qh (yJ loc.length fr it g c d)))):=qv (N9 e a f j S hi k l m hs b) λ D σ H h=>Kk (O5 (Ka h))
end
end L3
namespace L2
open PySem PySem.Spec PySem.W PyProof.Rows
def EB(kvs:List (MK×V)):Prop:=∀p∈kvs,∃k,p.1=MK.one k
def Wp(h:RelV (kV k) u):BM k u=true:=by
 cases k with
 |inl i=>obtain⟨t,rfl⟩:=h;exact ML i t
 |inr x=>obtain⟨t,rfl⟩:=h;exact MM x t
theorem OU:∀{kvs:List (MK×V)}{xs:Tr},KT H kvs xs->EB kvs->∃vs:List (qg×Value),Pairs (qP P w) (xs.map (yH P w)) vs/\Paired (λ(p:MK×V)(q:qg×Value)=>p.1=.one q.1/\RelV p.2 q.2) kvs vs/\xs.map (·.1)=vs.map (λ q=>MK.one q.1)/\∀e∈xs.map (yH P w),∃k,(qP P w).is k e.key=true/\e.hash=(qP P w).hash k
 |_,_,.nil,_=>⟨[],.nil,.nil,rfl,λ e c=>by cases c⟩
 |_,_,.cons (a:=p) (b:=q) ⟨e1,e2,e3⟩ r,pk=>by
  obtain⟨k,d⟩:=pk p Aj;obtain⟨vs,h1,h2,g,h⟩:=OU (P:=P) (w:=w) r λ x i=>pk x (Ap _ i)
  rw[d]at e2;have f:=Wp e2;have q1:q.1=.one k:=by rw[<-e1,d]
  refine⟨(k,q.2.2)::vs,.cons f rfl h1,.cons ⟨d,e3⟩ h2,?_,λ e c=>?_⟩
  .rw[Ah,Ah,g,q1]
  .rcases Af.mp c with rfl|m
   .refine⟨k,f,?_⟩
    show q.1.hash P w=_;rw[q1];rfl
   .exact h e m
def Kz(ok:HOk P w H h)(e:H a=some (.dT kvs))(pk:EB kvs):
  (a==sysModules)=false/\∃vs:List (qg×Value),h.DictAt (qP P w) a vs kvs.length/\Paired (λ(p:MK×V)(q:qg×Value)=>p.1=.one q.1/\RelV p.2 q.2) kvs vs:=by
 obtain⟨z,y,xs,r,f⟩:=FN ok e;obtain⟨o,es,ep,g,i,j,c,⟨d,l⟩,u⟩:=f;obtain⟨vs,h1,h2,m,n⟩:=OU (P:=P) (w:=w) r pk;have s:ep=kvs.length:=by rw[l,Paired.length r]
 subst s
 refine⟨y,vs,⟨o,es,g,i,j,λ e t=>n e (by rw[<-c];exact Array.mem_toList_iff.mpr t),by rw[c];exact h1,?_⟩,h2⟩
 rw[m]at d;exact List.Pairwise.of_map (S:=(· ≠ ·)) (λ k=>MK.one k) (λ a b h e=>h (by rw[e])) (by rw[Bg];exact d)
def Iti(a:Addr)(n:Nat):It:=
 ⟨λ i H=> ∃kvs,H a=some (.dT kvs)/\EB kvs/\kvs.length=n/\i<n,
  λ i H x H'=> ∃(T:Addr)(k:qg)(v:V),x=.ref T/\H T=none/\H'=zk H T (.tup [kV k,v])/\∀kvs,H a=some (.dT kvs)->kvs[i]? =some (.one k,v),
  λ i H=> ∃kvs,H a=some (.dT kvs)/\EB kvs/\kvs.length=n/\n<=i⟩
def Wq:entryFor table "dict_itemiterator.__iter__" =some Builtin.«dict_keyiterator.__iter__» :=entryFor_alias (id':="dict_keyiterator.__iter__") (by kernel_rfl) rfl (by decide+kernel) (by kernel_rfl)
def Wr{P:Program}{w:World}{K:FG}{B:List Expr} {x1} {tp:Pos} (a it:Addr) (n:Nat):Turn P w K (.Tuple B x1 tp) (Iti a n) [it] it (λ i h=> ∃ok f,IsItemIter h it a i n n ok f) where
 mem:=by simp
 obj:=λ i h st b N=>by
  have e:b=it:=by simpa using N
  subst e;obtain⟨_,_,e⟩:=st;exact⟨_,e,λ v z=>by cases z⟩
 keep:=λ i h h' ⟨ok,f,st⟩ k=>⟨ok,f,k it (by simp) _ st⟩
 item:=by
  intro X O r R W i pins s σ H E I J st S;subst O r R;obtain⟨ok,f,hz⟩:=st;obtain⟨kvs,u,pk,T,hi⟩:=S;subst T;obtain⟨y,vs,hd,L⟩:=Kz I.hok u pk;have M:=Paired.length L;have C:i<vs.length:=by lia
  have D:kvs[i].1=.one vs[i].1/\RelV kvs[i].2 vs[i].2:=by
   have gen:∀{l:List (MK×V)}{m:List (qg×Value)},Paired (λ(p:MK×V)(q:qg×Value)=>p.1=.one q.1/\RelV p.2 q.2) l m->∀(i:Nat)(h1:i<l.length)(h2:i<m.length),l[i].1=.one m[i].1/\RelV l[i].2 m[i].2:=λ {l m} q=>by
    induction q with
    |nil=>intro i h1;exact absurd h1 (Nat.not_lt_zero _)
    |cons u _ ih=>
     intro i h1 h2;cases i with
     |zero=>exact u
     |succ j=>exact ih j (by simpa using h1) (by simpa using h2)
   exact gen L i hi C
  have g:IsItemIter s.heap it a i vs.length kvs.length ok f:=by rw[<-M];exact hz
  refine wpAny_pyNext_items_item (k:=vs[i].1) (v:=vs[i].2) g hd (zX C) λ key h' Z a2 a3 a4 hk=>?_
  refine⟨_,rfl,wpAny_letOwnedTupleGo_items a2 λ G b1 b2=>?_⟩
  have Y:s.heap.objs.size≠it:=Ct (Ai hz);have k2:∀c o,c∉[it]->s.heap.get? c=some o->G.get? c=some o:=λ c o d e=>by
   have d:c≠it:=by simpa using d
   exact b2.extBut _ _ d (hk c o d e)
  have rk:RelV (kV vs[i].1) key:=by
   rcases AA (show BM vs[i].1 key=true from Z) with ⟨j,t,e1,rfl⟩|⟨x,t,e1,rfl⟩
   .rw[e1];exact⟨t,rfl⟩
   .rw[e1];exact⟨t,rfl⟩
  have I':Inv X pins σ (zk H s.heap.objs.size (.tup [kV vs[i].1,kvs[i].2])) {s with heap:=G,toks:=s.toks}:=
   I.turnLay (ch:=[it]) k2 (λ c d=>J c d) (Ag _)
    ⟨by show 2<=sizeLine;decide,[key,vs[i].2],.cons rk (.cons D.2 .nil),⟨_,b2.extBut _ _ Y a3,rfl,_,rfl⟩⟩
  have nf:H s.heap.objs.size=none:=I.hok.fresh (Ag _)
  refine⟨.ref s.heap.objs.size,_,I',rfl,⟨_,vs[i].1,kvs[i].2,rfl,nf,rfl,λ ws r=>?_⟩,⟨_,_,by have b:=b1;rw[<-M]at b;exact b⟩,λ c d=>?_⟩
  .rw[u]at r;cases r
   rw[zX hi,<-D.1]
  .have U:=J c d
   have e:c=it:=by simpa using d
   subst e;rw[zK Y.symm];exact U.1
 done:=by
  intro X O r R W i pins s σ H E I J st S;subst O r R;obtain⟨ok,f,hz⟩:=st;obtain⟨kvs,u,pk,T,hi⟩:=S;subst T;obtain⟨y,vs,hd,L⟩:=Kz I.hok u pk;have M:=Paired.length L;have g:IsItemIter s.heap it a i vs.length kvs.length ok f:=by rw[<-M];exact hz
  obtain⟨f0,f1,f2,f3,f4,f5⟩:=J it (by simp)
  exact wpAny_pyNext_items_end (I.ok.hd W) g hd (Ed (by lia)) λ h' eb=>⟨rfl,I.turned (t':=s.toks) (λ b o N e=>eb b o N e) f0 f1 f3 f4 f5⟩
 self:=λ A i s Q E ⟨ok,f,hz⟩ h=>by
  have ty:s.TypeIs (.ref it) "dict_itemiterator" :=⟨_,hz,rfl⟩
  refine Gm ty PySem.F.slot_dict_itemiterator_iter (Ck PySem.F.slot_dict_itemiterator_iter ty Wq ?_ (PySem.F.args_dict_itemiterator_iter_1 _))
  show wpAny _ _ (ret (.ref it)) _ _ s;exact Ad ⟨_,rfl,"dict_itemiterator",_,ty,PySem.F.slot_dict_itemiterator_next.lookup,h⟩
def Ws(tl:TE):TI:=λ σ H R=>tl σ H λ x H1=> ∃a kvs,x=.ref a/\H1 a=some (.dT kvs)/\EB kvs/\R (Iti a kvs.length) H1
def Wt{X:Cx}{i:List Expr} {x1} {tp apos pos:Pos} {l:Expr} {tl:TE} (n:PE X l tl) (f:attributeBase l "items" X.env (eval l X.env)=eval l X.env:=by rfl) (g:(apos.endLine==pos.line)=true:=by rfl):
  PI X (.Tuple i x1 tp) (.Call (.Attribute l "items" apos) [] [] pos) (Ws tl):=by
 intro pins s σ H R I h
 refine wpAny_Call_method (T:="dict") (id:="dict.items") f rfl g PySem.F.plainAttrs_dict PySem.F.slot_dict_items PySem.F.type_dict_items (zt (n pins s σ H _ I h) λ v s1 x H1 m p q1=>?_)
 obtain⟨a,kvs,e,t,pk,q⟩:=q1;subst e;cases p;obtain⟨y,vs,hd,u⟩:=Kz m.hok t pk;have j:=Paired.length u;have c:s1.heap.DictOf (qP X.prog X.w) a vs:=let ⟨o,es,r⟩:=hd;⟨o,es,_,r⟩
 refine⟨c.typeIs,c.mapOf.noDict,?_⟩
 show wpAny _ _ (callWith pos (.builtin "dict.items") [.ref a] [] []) _ _ s1
 refine method_meetsIn PySem.F.slot_dict_items PySem.F.entry_dict_items rfl (PySem.evalArgs_none ⟨rfl,c.typeIs,PySem.F.args_dict_items_1 _,_,meets_dict_items (qP X.prog X.w) a y,⟨vs,c⟩,?_⟩)
 refine wpAny_pyIter_items (d:=a) (kvs:=vs) (ep:=kvs.length) ⟨_,Bf _ rfl,rfl,rfl⟩ (hd.push _) ?_
 have k1:∀b o,s1.heap.get? b=some o->((s1.heap.push {cls:= .type "dict_items",data:= .fields #[.ref a]}).push {cls:= .type "dict_itemiterator",data:= .fields #[.none,.bool false,.ref a,.int 0 0,.int vs.length 0,.int kvs.length 0,.none,.none]}).get? b=some o:=λ b o e=>As _ (As _ e)
 have k:s1.heap.objs.size<=(s1.heap.push {cls:= .type "dict_items",data:= .fields #[.ref a]}).objs.size:=by rw[Ci];exact C5 _
 refine⟨_,[_],_,_,H1,rfl,m.kept (t':=s1.toks) k1,Wr a _ kvs.length,⟨.none,.none,?_⟩,λ b z=>?_,q⟩
 .have e:=Bf (s1.heap.push {cls:= .type "dict_items",data:= .fields #[.ref a]}) (o:={cls:= .type "dict_itemiterator",data:= .fields #[.none,.bool false,.ref a,.int 0 0,.int vs.length 0,.int kvs.length 0,.none,.none]}) rfl
  rw[<-j]at e ⊢;exact e
 .have e:=Au.mp z
  subst e;exact m.fpOk k (m.hok.fresh k)
end L2
namespace Se
open PySem PySem.Spec PyProof.Rows
abbrev Ris(l:List Nat):Prop:=l.Pairwise (· < ·)
def Ris.lt{l:List Nat}(h:Ris l){i j x y:Nat}(hi:l[i]? =some x)(c:l[j]? =some y)(d:i<j):x<y:=by
 obtain⟨a,rfl⟩:=Ao.mp hi;obtain⟨b,rfl⟩:=Ao.mp c;exact Hj.mp h i j a b d
structure Bel(xs:Array Nat)(j p:Nat):Prop where
 le:p<=xs.size
 lo:∀i x,i<p->xs[i]? =some x->x<j
 hi:∀i x,p<=i->xs[i]? =some x->j<=x
def Wu{xs:Array Nat}{j:Nat}(h:Ris xs.toList):∀(f lo hi:Nat),hi-lo<=f->lo<=hi->hi<=xs.size->(∀i x,i<lo->xs[i]? =some x->x<j)->(∀i x,hi<=i->xs[i]? =some x->j<=x)->Bel xs j (SetTable.below.go xs j f lo hi):=by
 intro f
 induction f with
 |zero=>intro lo hi a b c d e;unfold SetTable.below.go;exact⟨by lia,d,λ i x g=>e i x (by lia)⟩
 |succ n ih=>
  intro lo hi a b c d e;unfold SetTable.below.go
  by_cases hl:lo<hi
  .rw[Ab hl]
   dsimp only;have m:(lo+hi) / 2<xs.size:=by lia
   have l:xs[(lo+hi) / 2]? =some xs[(lo+hi) / 2]:=B2 m;have hd:xs.getD ((lo+hi) / 2) j=xs[(lo+hi) / 2]:=by simp[Array.getD,m]
   have k:xs.toList[(lo+hi) / 2]? =some xs[(lo+hi) / 2]:=by rw[Bx];exact l
   rw[hd]
   by_cases hx:xs[(lo+hi) / 2]<j
   .rw[Ab hx]
    refine ih _ _ (by lia) (by lia) c (λ i x g ex=>?_) e
    by_cases he:i=(lo+hi) / 2
    .subst he;rw[l]at ex;cases ex;exact hx
    .have:=h.lt (i:=i) (j:=(lo+hi) / 2) (by rw[Bx];exact ex) k (by lia);lia
   .rw[Ac hx]
    refine ih _ _ (by lia) (by lia) (by lia) d λ i x g ex=>?_
    by_cases he:i=(lo+hi) / 2
    .subst he;rw[l]at ex;cases ex;lia
    .have:=h.lt (j:=i) (i:=(lo+hi) / 2) k (by rw[Bx];exact ex) (by lia);lia
  .rw[Ac hl];exact⟨by lia,d,λ i x g=>e i x (by lia)⟩
def K0(h:Ris xs.toList):Bel xs j (SetTable.below xs j):=
 Wu h _ _ _ (by lia) (by lia) (Ag _) (λ i x hi=>by lia) λ i x hi e=>by have:=(Dh.mp e).1;lia
def Wv{xs:Array Nat}{j:Nat}(h:Ris xs.toList)(n:xs[SetTable.below xs j]? ≠some j):j∉xs.toList:=λ m=>by
 obtain⟨i,hi⟩:=B7 m;rw[Bx]at hi;have b:=K0 (j:=j) h;have h1:SetTable.below xs j<=i:=Nat.le_of_not_lt λ l=>B9 _ (b.lo i j l hi)
 by_cases e:SetTable.below xs j=i
 .rw[e]at n;exact n hi
 .have hp:SetTable.below xs j<xs.size:=by have:=(Dh.mp hi).1;lia
  have g:xs[SetTable.below xs j]? =some xs[SetTable.below xs j]:=B2 hp;have:=b.hi _ _ (Ag _) g;have:=h.lt (i:=SetTable.below xs j) (j:=i) (by rw[Bx];exact g) (by rw[Bx];exact hi) (by lia)
  lia
def Ww(h:Ris xs.toList)(n:j∉xs.toList):Ris (SetTable.insertAt xs (SetTable.below xs j) j).toList:=by
 have b:=K0 (j:=j) h;generalize SetTable.below xs j=p at b;have e:(SetTable.insertAt xs p j).toList=xs.toList.take p++j::xs.toList.drop p:=by
  unfold SetTable.insertAt;rw[Array.toList_append,Array.toList_push,Array.toList_extract,Array.toList_extract];simp[List.extract_eq_drop_take,Cq];rw[Gr (by rw[Fy];simp)]
 rw[e];have d:∀x∈xs.toList.take p,x<j:=λ x a=>by
  obtain⟨i,hi⟩:=B7 a;have c:i<p:=by
   have:=(Ao.mp hi).1;rw[Ay]at this;lia
  rw[Co c,Bx]at hi;exact b.lo i x c hi
 have f:∀x∈xs.toList.drop p,j<x:=λ x a=>by
  obtain⟨i,hi⟩:=B7 a;rw[List.getElem?_drop]at hi
  have m:x∈xs.toList:=Al hi;rw[Bx]at hi;have:=b.hi (p+i) x (by lia) hi
  have g:x≠j:=λ z=>n (z ▸ m)
  lia
 refine List.pairwise_append.mpr ⟨h.sublist (List.take_sublist _ _),En.mpr ⟨f,h.sublist (List.drop_sublist _ _)⟩,λ x a y k=>?_⟩
 rcases Af.mp k with z|z
 .subst z;exact d x a
 .have:=d x a;have:=f y z;lia
structure Tab(led:Bool)(t:SetTable):Prop where
 ris:Ris t.place.toList
 led:t.led=led
def Wx(n:Nat):Ris (Array.range n).toList:=by rw[Array.toList_range];exact Hk
theorem Tab.standIn{led:Bool}{t:SetTable}(h:Tab led t)(n:Nat):Tab led (t.standIn n):=⟨Wx n,h.led⟩
def OV{t:SetTable}(h:Ris t.place.toList){j:Nat}(e:∀i,t.slot j≠ .live i):j∉t.place.toList:=by
 refine Wv h λ z=>e (SetTable.below t.place j) ?_
 unfold SetTable.slot;rw[Ab (by rw[z];simp)]
def Wy{t:SetTable}{g:Nat->Int}{h:Int}(f:Ris t.place.toList):∀(a:Nat)(p:SetTable.Probe)(j:Nat)(d:Option Nat),(∀x,p.dummy=some x->x∉t.place.toList)->SetTable.probe.go t g h a p=some (.empty j d)->d.getD j∉t.place.toList:=by
 intro a
 induction a with
 |zero=>intro p j d _ e;unfold SetTable.probe.go at e;cases e
 |succ n ih=>
  intro p j d hd e;unfold SetTable.probe.go at e;have b:∀q:SetTable.Probe,(t.advance q).dummy=q.dummy:=λ q=>by unfold SetTable.advance;split<;>rfl
  cases hs:t.slot p.j with
  |empty=>
   rw[hs]at e;simp only[Ce,SetTable.Met.empty.injEq]at e;obtain⟨rfl,rfl⟩:=e;cases hdd:p.dummy with
   |none=>exact OV (j:=p.j) f (by rw[hs];intro i z;cases z)
   |some x=>exact hd x hdd
  |dummy=>
   rw[hs]at e
   refine ih _ j d (λ x c=>?_) e
   rw[b]at c;cases c;exact OV f (by rw[hs];intro i z;cases z)
  |live i=>
   rw[hs]at e;dsimp only at e
   split at e
   .cases e
   .exact ih _ j d (λ x c=>hd x (by rw[b]at c;exact c)) e
def Wz{t:SetTable}{h:Int}(a:Ris t.place.toList){s:Nat}{b:Bool}(e:t.freeSlot h=some (s,b)):s∉t.place.toList:=by
 unfold SetTable.freeSlot at e
 split at e
 .rename_i j d c
  cases e;exact Wy a _ _ _ _ (λ x f=>by cases f) c
 .cases e
def Tab.lay{led:Bool}{t:SetTable}(h:Tab led t)(es:Array (Int×Value))(k:Int)(x:Value):Tab led (layNew t es k x).2.1:=by
 unfold layNew
 split
 .rename_i s b e
  have hp:Tab led (t.put s).1:=⟨Ww h.ris (Wz h.ris e),h.led⟩;dsimp only;unfold SetTable.orStandIn
  split
  .exact hp
  .exact hp.standIn _
 .exact h.standIn _
def Tab.relay{led:Bool}{t:SetTable}(h:Tab led t)(es:Array (Int×Value))(n:Nat):Tab led (relayAll t es n).2.1:=by
 unfold relayAll
 split
 .rename_i t' o e
  dsimp only
  split
  .unfold SetTable.relaid SetTable.laid at e
   simp only[Option.bind_eq_bind,Option.bind_eq_some_iff,Option.pure_def,Ce,Dk]at e;obtain⟨i,_,rfl,rfl⟩:=e
   refine⟨?_,h.led⟩
   show Ris (List.map _ _).toArray.toList;rw[List.toList_toArray,List.map_filterMap]
   refine List.Pairwise.filterMap _ (λ a b f c g d hd=>?_) (Hk (n:=_))
   simp only[Dj]at g hd;obtain⟨⟨_,_⟩,⟨_,_,e1⟩,rfl⟩:=g;obtain⟨⟨_,_⟩,⟨_,_,e2⟩,rfl⟩:=hd;cases e1;cases e2;exact f
  .exact h.standIn _
 .exact h.standIn _
def iv:Value->Int
 |.int i _=>i
 |_=>0
noncomputable abbrev byT(w:World):Bool:=w.params.followText "set-order"
def EI(e:Int×Value):Prop:=∃k tk,e.2=Value.int k tk/\e.1=hashInt k
structure SD(w:World)(ks:List Int)(o:Obj)(es:Array (Int×Value))(ep:Nat)(t:SetTable):Prop where
 ex:o.ExactSet
 dt:o.data=.set es ep t
 el:∀e∈es.toList,EI e
 pm:(es.toList.map λ e=>iv e.2).Perm ks
 nd:ks.Nodup
 sz:es.size<scanBound
 ft:t.fits es.size=true
 tb:Tab (!byT w) t
def SG(w:World)(h:Heap)(a:Addr)(ks:List Int):Prop:=∃o es ep t,h.get? a=some o/\SD w ks o es ep t
section
variable{prog:Program}{w:World}{A:Around}{E:VP}{s:Shared}{a:Addr}{ks:List Int}{k:Int}{tk:Tok}
def W0(h:∀e∈l,EI e):ElemsOf (intKind prog w) l:=λ e a=>by
 obtain⟨i,u,e1,e2⟩:=h e a
 refine⟨⟨i,?_,e2⟩,?_⟩
 .show Value.isInt i e.2=true;rw[e1];simp[Value.isInt]
 .rw[e1];rfl
def SD.len(d:SD w ks o es ep t):es.size=ks.length:=by
 rw[<-d.pm.length_eq,Ae,Cn]
def kis(h:EI e):(intKind prog w).is i e.2=decide (iv e.2=i):=by
 obtain⟨k,u,e1,_⟩:=h;show Value.isInt i e.2=_;rw[e1];simp only[Value.isInt,iv]
 by_cases z:k=i
 .subst z;simp
 .simp[z,D5,bne_iff_ne,λ y:i=k=>z y.symm]
def OW(b:s.heap.get? a=some o)(d:SD w ks o es ep t)(el:∀e∈es'.toList,EI e)(pm:(es'.toList.map λ e=>iv e.2).Perm ks')(nd:ks'.Nodup)(sz:es'.size<scanBound)(ft:t'.fits es'.size=true)(tb:Tab (!byT w) t')
  (h:∀h' o',Heap.SameBut a s.heap h'->h'.get? a=some o'->SD w ks' o' es' (ep+1) t'->Q () {s with heap:=h'}):wpAny (model prog w) A (storeSet a es' t') Q E s:=by
 refine wpAny_storeSet_of b d.dt (h _ _ (Di s.heap a (Obj.putSet es' t')) (Cp (Obj.putSet es' t') b (by rw[putSet_of es' t' d.dt];rfl)) ?_) (fits_of_scanBound sz)
 rw[putSet_of es' t' d.dt];exact⟨d.ex,rfl,el,pm,nd,sz,ft,tb⟩
def tail{g:Bool->Sem Unit}(q:∀(b:Bool) (i:Shared) (l:Unit->Shared->Prop),l () i->wpAny (model prog w) A (g b) l E i){o:Obj}{es f:Array (Int×Value)}{ep:Nat}{t t':SetTable}{j:List Int}(r:s.heap.get? a=some o)(d:SD w ks o es ep t)
  (el:∀e∈f.toList,EI e) (pm:(f.toList.map λ e=>iv e.2).Perm j) (nd:j.Nodup) (sz:f.size<scanBound) (ft:t'.fits f.size=true) (tb:Tab (!byT w) t') {wd:Bool} {R:Option Bool->Shared->Prop}
  (h:∀h',Heap.SameBut a s.heap h'->SG w h' a j->R (some true) {s with heap:=h'}):
  wpAny (model prog w) A (storeSet a f t' >>=λ _=>
   if (!wd && t'.tooFull)=true then
    g (relayAll t' f (SetTable.grown f.size)).2.2 >>=λ _=>
     storeSet a (relayAll t' f (SetTable.grown f.size)).1 (relayAll t' f (SetTable.grown f.size)).2.1 >>=λ _=>pure (some true)
   else pure (some true)) R E s:=by
 refine Aa (OW r d el pm nd sz ft tb λ h1 o1 sb m n=>?_)
 by_cases c:(!wd && t'.tooFull)=true
 .rw[Ab c]
  have p:=relayAll_perm t' f (SetTable.grown f.size);have u:(relayAll t' f (SetTable.grown f.size)).1.size=f.size:=by rw[<-Cn,p.length_eq,Cn]
  refine Aa (q _ _ _ (Aa (OW m n (λ e v=>el e (p.mem_iff.mp v)) ((p.map _).trans pm) nd (by rw[u];exact sz) (relayAll_fits _ _ _) (tb.relay _ _) λ h2 o2 k x y=>Ad (h h2 (sb.trans k) ⟨o2,_,_,_,x,y⟩))))
 .rw[Ac c];exact Ad (h h1 sb ⟨o1,_,_,_,m,n⟩)
def OX{l:List Int}{i:Int}:l.any (· ==i)=decide (i∈l):=by
 rw[Gb];simp[Dg]
def W1{Q:Bool->Shared->Prop}(H:SG w s.heap a ks)(l:ks.length+1<scanBound)
  (h:∀b h',Heap.SameBut a s.heap h'->SG w h' a (step_dedup ks k)->Q b {s with heap:=h'}):wpAny (model prog w) A (setAddHashed a (.int k tk) (hashInt k)) Q E s:=by
 obtain⟨o,es,ep,t,n,d⟩:=H;have q:=W0 (prog:=prog) (w:=w) d.el;have I:(intKind prog w).is k (.int k tk)=true:=intKind_is _ _ _ _;unfold setAddHashed setAddHashedIn
 refine B4 (Aa (Da n d.dt d.ft ?_))
 dsimp only;rw[byScan_of (knd:=intKind prog w) (by rfl) d.sz q]
 simp only[↓reduceIte];unfold setAddByScan
 refine Aa (Aa (D0 (Aa (wpAny_setScan_of (knd:=intKind prog w) I n d.dt d.ft q ?_))))
 cases hr:List.findIdx? (λ e=>(intKind prog w).is k e.2) es.toList with
 |some j=>
  dsimp only;obtain⟨D,r,_⟩:=List.findIdx?_eq_some_iff_getElem.mp hr
  have J:k∈ks:=by
   rw[kis (d.el _ (C8 D)),Cv]at r;exact d.pm.mem_iff.mp (Ak.mpr ⟨_,C8 D,r⟩)
  have:=h false s.heap (Heap.SameBut.refl a s.heap) (by unfold step_dedup;rw[Ab (by rw[OX];simpa using J)];exact⟨o,es,ep,t,n,d⟩)
  exact Ad (Ad this)
 |none=>
  dsimp only;have F:k∉ks:=λ m=>by
   obtain⟨e,v,z⟩:=Ak.mp (d.pm.mem_iff.mpr m);have:=List.findIdx?_eq_none_iff.mp hr e v
   rw[kis (d.el e v),z]at this;simp at this
  have B:step_dedup ks k=ks++[k]:=by unfold step_dedup;rw[Ac (by rw[OX];simpa using F)]
  rw[B]at h;have p:=layNew_perm t es (hashInt k) (.int k tk);have f:=layNew_fits t es (hashInt k) (.int k tk);have tb:=d.tb.lay es (hashInt k) (.int k tk);generalize hL:layNew t es (hashInt k) (.int k tk)=L at p f tb;obtain⟨e1,t1,wd,M⟩:=L;dsimp only at p f tb ⊢;rw[Array.toList_push]at p;have el:∀e∈e1.toList,EI e:=λ e v=>by
   rcases Bc.mp (p.mem_iff.mp v) with m|m
   .exact d.el e m
   .rw[Au]at m;subst m;exact⟨k,tk,rfl,rfl⟩
  have pm:(e1.toList.map λ e=>iv e.2).Perm (ks++[k]):=by
   refine (p.map _).trans ?_
   rw[Av];exact d.pm.append_right _
  have nd:(ks++[k]).Nodup:=Cw.mpr ⟨d.nd,by simp,λ x K y G z=>by rw[Au]at G;subst G;subst z;exact F K⟩
  have sz:e1.size<scanBound:=by
   rw[<-Cn,p.length_eq,Ar,Cn,d.len];exact l
  have C:∀(b:Bool)(c:Shared)(u:Unit->Shared->Prop),u () c->wpAny (model prog w) A (match b with|true=>rule "set.scan.the-table-gave-way" |false=>pure ()) u E c:=
   λ b c u i=>by cases b<;>first|exact Ad i|exact D0 i
  refine Aa (C _ _ _ ?_)
  split
  .refine Aa ?_
   rw[hashByValue_scannable 8 (by rfl)]
   refine Ad ?_
   exact tail (λ b c u i=>by cases b<;>first|exact Ad i|exact D0 i) n d el pm nd sz (by simpa[plainKind] using f) (by simpa[plainKind] using tb) λ h' sb g=>Ad (h true h' sb g)
  .refine Aa (Ad ?_)
   simp only[↓reduceIte];exact tail (λ b c u i=>by cases b<;>first|exact Ad i|exact D0 i) n d el pm nd sz f tb λ h' sb g=>Ad (h true h' sb g)
end
def SG.keep(g:SG w h a ks)(k:∀o,h.get? a=some o->h'.get? a=some o):SG w h' a ks:=let ⟨o,es,ep,t,ho,d⟩:=g;⟨o,es,ep,t,k o ho,d⟩
theorem SG.fresh(e:h.get? a=some {cls:= .type "set",dict:=none,data:= .set #[] 0 (.fresh 0 0 (!byT w))}):SG w h a []:=
 ⟨_,#[],0,_,e,⟨rfl,rfl,rfl⟩,rfl,λ e b=>by simp at b,.nil,D1,by decide,by rfl,List.Pairwise.nil,rfl⟩
section
variable{prog:Program}{w:World}{A:Around}{R:Result->Shared->Prop}{I:Addr}{fp wr:List Addr}{G:Array GenState->Array GenState->Prop}{n:Nat}{P:Nat->Value->Prop}{St:Nat->Shared->Prop}
theorem W2(W:WalksS prog w A.in1 I fp wr G n P St)(S:Addr)(j:S∉fp)(val:Nat->Int)(p:∀i v,P i v->∃t,v=.int (val i) t)(a:n+1<scanBound)(q:Nat):
  ∀(i:Nat)(s:Shared),n-i=q->i<=n->St i s->SG w s.heap S (firstMet val i)->
   (∀s',Moved (S::wr) G s s'->SG w s'.heap S (firstMet val n)->R (.ok (.ret .none)) s')->
   codeAny (model prog w) A (.builtin "set.update.loop" ⟨[.ref S,.ref I],[]⟩) R s:=by
 have nw:S∉wr:=λ h=>j (W.sub _ h)
 have up:∀b∈wr,b∈S::wr:=λ b a=>Ap _ a
 induction q with
 |zero=>
  intro i s e hi st g k;have:i=n:=by lia
  subst this
  refine Eo Ht ?_
  rw[Fo Hl _];show wpAny _ A.in1 (pyNext (.ref I) >>=_) _ _ s
  refine Aa (W.done s _ _ st λ s' m=>?_)
  show wpAny _ A.in1 (ret Value.none) _ _ s';exact Ad (k s' (m.mono up) (g.keep λ o c=>m.heap S _ nw c))
 |succ q ih=>
  intro i s e hi st g k
  refine Eo Ht ?_
  rw[Fo Hl _];show wpAny _ A.in1 (pyNext (.ref I) >>=_) _ _ s
  refine Aa (W.item i s _ _ (by lia) st λ v s' hp d m=>?_)
  obtain⟨t,rfl⟩:=p i v hp;have g':SG w s'.heap S (firstMet val i):=g.keep λ o c=>m.heap S _ nw c
  show wpAny _ A.in1 (holding [Value.int (val i) t] (setAdd S (.int (val i) t)) >>=_) _ _ s'
  refine Aa (B4 ?_)
  unfold setAdd
  refine B4 (Aa ((intKind prog w).pyHash (k:=val i) (intKind_is _ _ _ _) ?_))
  refine W1 (s:={s' with toks:=s'.toks+1}) g' (by have:=firstMet_length_le val i;lia) λ b h' sb l=>?_
  rw[<-firstMet_succ]at l
  refine Ad ⟨Fp Hl _,ih (i+1) _ (by lia) (by lia) (W.frame _ s' _ _ d (C5 _) λ b a o e=>?_) l λ f r u=>?_⟩
  .rw[sb.2 b λ z=>j (by rw[<-z];exact a)];exact e
  .refine k f (Moved.trans W.gtrans ((m.mono up).then_heap (C5 _) λ b o a e=>?_) r) u
   rw[sb.2 b λ z=>a (by rw[z];exact Aj)];exact e
end
section
variable{prog:Program}{w:World}{A:Around}{E:VP}{s:Shared}
abbrev emp(w:World):Obj:={cls:= .type "set",dict:=none,data:= .set #[] 0 (.fresh 0 0 (!byT w))}
def made(a:Value)(h:Q₁ (.ref s.heap.objs.size) {s with heap:=s.heap.push (emp w)}):
  codeAny (model prog w) A (.call (.builtin "set.__new__") ⟨[.type "set",a],[]⟩) (wants Q₁ E) s:=by
 refine codeAny_of_tree ?_
 show wpAny _ A.in1 (checkBuiltinCall "set.__new__" ⟨[.type "set",a],[]⟩ >>=λ _=>again (.builtin "set.__new__" ⟨[.type "set",a],[]⟩)) _ _ s
 refine Aa (wpAny_of_eq (PySem.F.newCall_set_1 a) (Ad ⟨Fp PySem.F.plain_set_new _,Eo PySem.F.entry_set_new ?_⟩))
 rw[Fo PySem.F.plain_set_new _];unfold Builtin.«set.__new__» Builtin.Frozenset.newClass;have b:=sub_set_self;obtain⟨hp,g,d,tk,os⟩:=s;dsimp only
 wp_walk
 refine Gs (Ad ?_)
 dsimp only;simp only[newObj];exact Aa (wpAny_alloc (Ad (Ad h)))
set_option maxHeartbeats 3200000 in
def W3(K:A.handled=none)(H:s.heap.IsList l items)(hi:IntsAre items.toList ns)(t:items.size+1<scanBound)
  (h:∀(h':Heap)(tk:Nat),SG w h' s.heap.objs.size (firstMet (λ i=>ns.getD i 0) items.size)->(∀b o,b<s.heap.objs.size->s.heap.get? b=some o->h'.get? b=some o)->s.toks<=tk->Q (.ref s.heap.objs.size) {s with heap:=h',toks:=tk}):
  wpAny (model prog w) A (call (.type "set") [.ref l]) Q E s:=by
 obtain⟨c,tl,m1⟩:=Dl.mro;have m2:=Dl.made;have m3:=Dl.sub
 refine Dt (codeAny_of_tree ?_)
 show wpAny _ _ (callAny (.type "set") _) _ _ _
 refine Ad ⟨Code.quiet_builtin _ (by decide+kernel),Eo PySem.F.entry_type_call ?_⟩
 rw[Around.under_plain (weight_type_call_type "set" [.ref l] []) rfl];have m4:=Dl.notType;have m5:=Dl.canCreate;have m6:=PySem.F.typeCall_set_1 (.ref l)
 repeat (any_goals (first|assumption|wp_step))
 refine Dd (made (.ref l) (E:=E) (Q₁:=λ obj d=>obj=.ref s.heap.objs.size/\d={s with heap:=s.heap.push (emp w)}) ⟨rfl,rfl⟩) λ r d y=>?_
 cases r with
 |error e=>exact y
 |ok fl=>
  cases fl with
  |ret obj=>
   obtain⟨rfl,rfl⟩:=y;have I:(s.heap.push (emp w)).get? s.heap.objs.size=some (emp w):=Bf _ rfl;have L:Shared.TypeIs {s with heap:=s.heap.push (emp w)} (.ref s.heap.objs.size) "set" :=⟨_,I,rfl⟩
   have m7:=Dl.init.lookup;have m8:=Dl.init.bind (.ref s.heap.objs.size)
   repeat (any_goals (first|assumption|wp_step))
   refine Dd (Gf (R:=wants (λ r f=>r=.none/\∃h' tk,f={s with heap:=h',toks:=tk}/\SG w h' s.heap.objs.size (firstMet (λ i=>ns.getD i 0) items.size)/\(∀b o,b<s.heap.objs.size->s.heap.get? b=some o->h'.get? b=some o)/\s.toks<=tk) E) Dl.init.plain PySem.F.entry_set_init (check_set_init_1 L ?_)) λ n f a=>?_
   .have u:(s.heap.push (emp w)).IsList l items:=H.push _
    have p:l<s.heap.objs.size:=by obtain⟨z,j,_⟩:=H;exact Ai j
    obtain⟨z,j,k,M,m⟩:=u;have u:(s.heap.push (emp w)).IsList l items:=⟨z,j,k,M,m⟩;obtain⟨J,B,C,x⟩:=z;simp only at k m;subst k;subst m;have m9:=PySem.F.sub_list_set;have N:=PySem.F.sub_list_frozenset;have O:(Value.type "list" ==Value.type "dict")=false:=by decide
    unfold Builtin.«set.__init__» noKeywords Builtin.Frozenset.updateFrom;generalize hPI:pyIter=PI
    wp_walk
    subst hPI
    refine E8 u (Aa (wpAny_runValue ?_))
    have P:A.in1.in1.in1.handled=none:=by simp[K]
    have S:l≠(s.heap.push (emp w)).objs.size:=by rw[Ci];exact Aw (Ff p)
    have T:s.heap.objs.size∉[(s.heap.push (emp w)).objs.size,l]:=by
     rw[Ci];simp only[Af,Bt,Bn,not_or];exact⟨Aw (C4 _),Ct p⟩
    refine W2 ((Walks.list P _ l S items).toS) s.heap.objs.size T (λ i=>ns.getD i 0) (λ i v U=>IntsAre.int_at hi i v (by rw[Bx];exact U)) t (items.size-0) 0 _ rfl (B5 _) ⟨⟨_,Bf _ rfl,rfl,rfl⟩,u.push _⟩ (SG.fresh (As _ I)) ?_
    intro s' q g;obtain⟨h',g',d',D,G⟩:=s';have eg:g'=s.gens:=q.gens;have V:d'=s.drawn:=q.drawn;have W:G=s.os:=q.os;subst eg;subst V;subst W;show wpAny _ _ _ _ _ _
    refine Ad ?_
    show wpAny _ _ (ret Value.none) _ _ _
    refine Ad ⟨rfl,h',D,rfl,g,λ b o t e=>?_,q.toks⟩
    refine q.heap b o ?_ (As _ (As _ e))
    rw[Ci];simp only[Af,Bt,Bn,not_or];exact⟨Aw t,Aw (Ff t)⟩
   .cases n with
    |error e=>exact a
    |ok fl₂=>
     cases fl₂ with
     |ret r=>
      obtain⟨rfl,h',tk,rfl,X,Y,Z⟩:=a
      repeat (any_goals (first|assumption|wp_step))
      exact h _ _ X Y Z
     |_=>exact a.elim
  |_=>exact y.elim
end
def W4(a:n≠0)(h:∀i d,i<n->Q i {s with drawn:=d}):wpAny M A (choose src n) Q E s:=
 λ _ _ _=>⟨a,h _ _ (Nat.mod_lt _ (Nat.pos_of_ne_zero a))⟩
theorem K1{α:Type}:∀{l:List α}{i:Nat}(h:i<l.length),(l[i]::l.eraseIdx i).Perm l
 |x::r,0,_=>.rfl
 |x::r,i+1,h=>(List.Perm.swap x (r[i]'(by simpa using h)) (r.eraseIdx i)).trans ((K1 (by simpa using h)).cons x)
theorem OY{α:Type}{M:Model}{A:Around}{E:VP}:∀(n:Nat)(xs:List α){s:Shared}{Q:List α->Shared->Prop},xs.length<=n->(∀l d,l.Perm xs->Q l {s with drawn:=d})->wpAny M A (drawOrder n xs) Q E s
 |0,xs,s,Q,hl,h=>by
  have:xs=[]:=El (by lia)
  subst this;unfold drawOrder;exact Ad (h [] s.drawn .nil)
 |n+1,[],s,Q,hl,h=>by unfold drawOrder;exact Ad (h [] s.drawn .nil)
 |n+1,x::r,s,Q,hl,h=>by
  unfold drawOrder
  refine Aa (W4 (by simp) λ i d hi=>?_)
  rw[zX hi];dsimp only
  refine Aa (OY n _ (by rw[List.length_eraseIdx_of_lt hi];simp at hl ⊢;lia) λ l d' hp=>Ad (h _ d' ?_))
  exact (hp.cons _).trans (K1 hi)
theorem OZ{α:Type}{next:Nat->Nat}:∀(a k:Nat)(left:List α)(out:Array α),left.length=a->(pickOrder.go next a k left out).toList.Perm (out.toList++left)
 |0,k,left,out,h=>by
  have:left=[]:=El h;subst this;unfold pickOrder.go;simp
 |f+1,k,left,out,h=>by
  unfold pickOrder.go;have hi:next k%left.length<left.length:=Nat.mod_lt _ (by lia)
  rw[zX hi];dsimp only
  refine (OZ f _ _ _ (by rw[List.length_eraseIdx_of_lt hi];lia)).trans ?_
  rw[Array.toList_push,Cq];exact (K1 hi).append_left _
def Pa{α:Type}(next:Nat->Nat)(xs:Array α):(pickOrder next xs).toList.Perm xs.toList:=by
 unfold pickOrder;have:=OZ (next:=next) xs.size 0 xs.toList #[] (by simp)
 simpa using this
noncomputable def atP(t:SetTable):Nat->Nat
 |0=>0
 |i+1=>t.place.getD i 0+1
def Pb(h:Ris t.place.toList)(hi:i<=t.place.size):SetTable.below t.place (atP t i)=i:=by
 have b:=K0 (j:=atP t i) h;have get:∀{k:Nat},k<t.place.size->t.place[k]? =some (t.place.getD k 0):=λ {k} a=>by
  rw[B2 a];simp[Array.getD,a]
 generalize hp:SetTable.below t.place (atP t i)=p at b;cases i with
 |zero=>
  cases p with
  |zero=>rfl
  |succ q=>
   have:=b.le;have:=b.lo 0 _ (by lia) (get (k:=0) (by lia))
   simp[atP]at this
 |succ j=>
  have c:=get (k:=j) (by lia)
  have h1: ¬p<=j:=λ z=>by have:=b.hi j _ z c;simp only[atP]at this;lia
  by_cases h2:p=j+1
  .exact h2
  .have a:=get (k:=j+1) (by have:=b.le;lia)
   have d:=b.lo (j+1) _ (by lia) a
   have e:=h.lt (i:=j) (j:=j+1) (by rw[Bx];exact c) (by rw[Bx];exact a) (by lia)
   simp only[atP]at d;lia
noncomputable def dr(es:Array (Int×Value))(t:SetTable):Bool:= !t.plain && decide (es.size > 1)
inductive Way(w:World)(S:Addr)(es:Array (Int×Value))(ep:Nat)(t:SetTable)(i:Nat)(h:Heap):Value->List Value->Prop
 |text (e:byT w=true):Way w S es ep t i h (.int 0 0) ((pickOrder (w.params.setOrder S ep) es).toList.map (·.2))
 |table (e:byT w=false) (d:dr es t=false):Way w S es ep t i h (.int (atP t i) 0) (es.toList.map (·.2))
 |drawn (pl:List Nat) (T:Addr) (o:Obj) (z:Nat) (p:pl.Perm (List.range es.size)) (g:h.get? T=some o) (d:o.data=.seq (pl.map λ(k:Nat)=>Value.int (k:Int) 0).toArray z):Way w S es ep t i h (.ref T) (pl.map λ k=>(es[k]?.map (·.2)).getD .none)
def Way.perm(W:Way w S es ep t i h f ord):ord.Perm (es.toList.map (·.2)):=by
 cases W with
 |text e=>exact (Pa _ _).map _
 |table e d=>exact .rfl
 |drawn pl T o z p g d=>
  refine (p.map _).trans ?_
  have:(List.range es.size).map (λ k=>(es[k]?.map (·.2)).getD Value.none)=es.toList.map (·.2):=by
   refine Ep (by simp) λ k h1 h2=>?_
   have a:k<es.size:=by simpa using h1
   simp[a]
  rw[this]
structure At(w:World)(S I:Addr)(T:Option Addr)(es:Array (Int×Value))(ep:Nat)(t:SetTable)(ord:List Value)(i:Nat)(h:Heap):Prop where
 set:∃o,h.get? S=some o/\o.data=.set es ep t
 ft:t.fits es.size=true
 tb:Tab (!byT w) t
 it:∃f,h.get? I=some {cls:= .type "set_iterator",dict:=none,data:= .fields #[f,.int i 0,.ref S,.int es.size 0,.int ep 0],slots:= #[]}/\Way w S es ep t i h f ord/\∀x,f=.ref x->T=some x
abbrev SI:String:="set_iterator"
def si_next:Slot SI "__next__" "set_iterator.__next__" :=
 .of (owner:=SI) (n:="__next__") (by rw[typeLookup_type,Hn];kernel_rfl) (by decide+kernel) (by decide+kernel) (by decide+kernel) (by first|exact .inl (by decide+kernel)|exact .inr (by decide+kernel)) (by rw[isSubtype_type];kernel_rfl)
def Pc:entryFor table "set_iterator.__next__" =some Builtin.«set_iterator.__next__» :=entryFor_of_tree (by kernel_rfl)
def Pd:Manifest.owners.lookup (String.ofList "rotareti_tes".toList.reverse)=some Manifest.sig_set_iterator:=by kernel_rfl
def Pe(a:Value):argsOk "set_iterator.__next__" ⟨[a],[]⟩:=by
 unfold argsOk;rw[signature?_of (id:="set_iterator.__next__") (n:="__txen__".toList) (o:="rotareti_tes".toList) (by kernel_rfl) Pd];kernel_rfl
def W5:entryFor table "set.__iter__" =some Builtin.«frozenset.__iter__» :=entryFor_alias (id':="frozenset.__iter__") (by kernel_rfl) rfl (by decide+kernel) (by kernel_rfl)
section
variable{prog:Program}{w:World}{A:Around}{E:VP}{s:Shared}{S I:Addr}{T:Option Addr}{es:Array (Int×Value)}{ep:Nat}{t:SetTable}{ord:List Value}{i:Nat}
def DF(h:Q (byT w) s):wpAny (model prog w) A setsByText Q E s:=by
 unfold setsByText;exact Aa (Gs (Ad h))
theorem put2(hi:s.heap.get? I=some {cls:= .type SI,dict:=none,data:= .fields #[f,.int i 0,.ref S,.int n 0,.int ep 0],slots:= #[]})
  (h:∀h',Heap.SameBut I s.heap h'->h'.get? I=some {cls:= .type SI,dict:=none,data:= .fields #[f',.int (i+1:Nat) 0,.ref S,.int n 0,.int ep 0],slots:= #[]}->wpAny (model prog w) A' (pure (some v)) Q E {s with heap:=h'}):
  wpAny (model prog w) A (setField (.ref I) 0 f' >>=λ _=>setField (.ref I) 1 (rawInt ((i:Int)+1)) >>=λ _=>ret v) (λ a s'=> ∃v,a=Fin.done (Flow.ret v)/\wpAny (model prog w) A' (pure (some v)) Q E s') E' s:=by
 refine Aa (Er hi (by simp) λ h1 d b=>Aa (Er (s:={s with heap:=h1}) d (by simp) λ h2 e c=>Ad ⟨_,rfl,h h2 (b.trans c) ?_⟩))
 rw[e];simp[rawInt]
theorem W6(n:At w S I T es ep t ord i s.heap)(a:ord[i]? =some v)(j:I≠S)(q:∀x,T=some x->x≠I)
  (h:∀h',Heap.SameBut I s.heap h'->At w S I T es ep t ord (i+1) h'->Q (some v) {s with heap:=h'}):wpAny (model prog w) A (pyNext (.ref I)) Q E s:=by
 obtain⟨⟨o,c,hd⟩,ft,tb,f,hi,W,l⟩:=n;have ty:s.TypeIs (.ref I) SI:=⟨_,hi,rfl⟩;unfold pyNext
 refine Aa (wpAny_attempt (Eg (name:=Str.ofString "__next__") ty si_next (Ck si_next ty Pc ?_ (Pe _))))
 unfold Builtin.«set_iterator.__next__»
 refine Aa (Ad ?_)
 refine Aa (Em hi rfl ?_)
 dsimp only
 refine Aa (wpAny_setEntries_of c hd ft ?_)
 rw[Ac (by simp)]
 cases W with
 |text e=>
  have b:i<(pickOrder (w.params.setOrder S ep) es).size:=by
   have:=(Ao.mp a).1;simpa using this
  refine Aa ?_
  unfold setNext
  refine Aa (Da c hd ft (Aa (DF ?_)))
  rw[Ab e,Ac (by simp)]
  refine Aa (Aa ?_)
  refine Da c hd ft (Aa (DF ?_))
  rw[Ab e]
  refine Aa (Gs (Ad (Ad ?_)))
  rw[Br,show (pickOrder (({program:=(model prog w).prog,params:=(model prog w).w.params}:Setting).params.setOrder S ep) es)[i]? =_ from B2 b]
  have ev:v=(pickOrder (w.params.setOrder S ep) es)[i].2:=by
   rw[Az,Bx,B2 b]at a;exact (Option.some.inj a).symm
  rw[ev]at h;exact put2 hi (λ h' sb g'=>Ad (h h' sb ⟨⟨o,(sb.2 S j.symm).trans c,hd⟩,ft,tb,_,g',.text e,λ x z=>by cases z⟩))
 |table e d=>
  refine Aa ?_
  unfold setNext
  refine Aa (Da c hd ft (Aa (DF ?_)))
  rw[Ac (by rw[e];simp)]
  show wpAny _ _ (if dr es t=true then _ else _) _ _ _
  rw[Ac (by rw[d];simp)]
  show wpAny _ _ ((if (!t.led && !es.isEmpty)=true then unsupported "set:maker-not-led" else pure ()) >>=_) _ _ _
  rw[Ac (by rw[tb.led,e];simp)]
  refine Aa (Ad (Ad ?_))
  have hz:t.place.size=es.size:=by simp only[SetTable.fits,Be,Bb]at ft;exact ft.1
  have b:i<es.size:=by have:=(Ao.mp a).1;simpa using this
  rw[Br,Pb tb.ris (by lia),B2 b,B2 (by lia:i<t.place.size)]
  have ev:v=es[i].2:=by
   rw[Az,Bx,B2 b]at a;exact (Option.some.inj a).symm
  rw[ev]at h;have r:t.place[i]+1=atP t (i+1):=by
   have:i<t.place.size:=by lia
   simp[atP,Array.getD,this]
  refine put2 (f':=rawInt ((t.place[i]+1:Nat):Int)) hi (λ h' sb g'=>Ad (h h' sb ⟨⟨o,(sb.2 S j.symm).trans c,hd⟩,ft,tb,_,g',?_,λ x z=>by cases z⟩))
  rw[r];exact .table e d
 |drawn pl T' o' z p g d=>
  refine Aa (wpAny_seqItems g d ?_)
  dsimp only;have b:i<pl.length:=by have:=(Ao.mp a).1;simpa using this
  have hp:pl[i]<es.size:=by have:=p.mem_iff.mp (C8 b);simpa using this
  have ev:v=es[pl[i]].2:=by
   rw[Az,zX b]at a;simp only[Am,Ce]at a;rw[B2 hp]at a;exact a.symm
  have eg:((pl.map λ(k:Nat)=>Value.int (k:Int) 0).toArray)[((i:Nat):Int).toNat]? =some (.int (pl[i]:Nat) 0):=by
   rw[Br,List.getElem?_toArray,Az,zX b];rfl
  rw[eg];dsimp only
  refine Aa ?_
  unfold setNextDrawn
  refine Aa (Da c hd ft ?_)
  dsimp only;rw[Ac (by simp),Br,B2 hp]
  refine Aa (Ad (Ad ?_))
  rw[ev]at h;have m:T'≠I:=q T' (l T' rfl)
  refine Aa (Er hi (by simp) λ h' g' sb=>Ad ⟨_,rfl,Ad (h h' sb ⟨⟨o,(sb.2 S j.symm).trans c,hd⟩,ft,tb,.ref T',?_,.drawn pl T' o' z p ((sb.2 T' m).trans g) d,l⟩)⟩)
  rw[g'];simp[rawInt]
end
section
variable{prog:Program}{w:World}{A:Around}{E:VP}{s:Shared}{S I:Addr}{T:Option Addr}{es:Array (Int×Value)}{ep:Nat}{t:SetTable}{ord:List Value}{i:Nat}
def Pf{α:Type}{R:α->Shared->Prop}{Q:Option Value->Shared->Prop}(c:A.handled=none)(h:∀h',(∀b o,s.heap.get? b=some o->h'.get? b=some o)->Q none {s with heap:=h'}):
  wpAny (model prog w) A.in1 (newExc (.type "StopIteration") [] >>=λ e=>(raiseNew e:Sem α)) R (λ e s'=>wpAny (model prog w) A (isInstance e (.type "StopIteration") >>=λ b=>if b=true then pure none else throw e) Q E s') s:=by
 refine Aa ?_
 simp only[newExc,newTuple]
 refine Aa (Cu ?_ (by size_fits))
 refine Aa (m:=firstArgMember _ _) (wpAny_of_eq (a:=Value.none) (by first|rfl|(simp only[firstArgMember];rfl)) (Cu ?_ (by size_fits)))
 simp only[raiseNew]
 refine Aa (wpAny_handled ?_)
 rw[show A.in1.handled=none from c]
 refine Aa (Ad (wpAny_throw ?_))
 exact Aa (wpAny_isInstance (T:="StopIteration") (b:=true) ⟨_,Bf _ rfl,rfl⟩ isSubtype_stop (Ad (h _ λ b o e=>As _ (As _ e))))
theorem W7{Q:Option Value->Shared->Prop}(m:A.handled=none)(q:At w S I T es ep t ord es.size s.heap)(r:I≠S)
  (h:∀h',(∀b o,b≠I->s.heap.get? b=some o->h'.get? b=some o)->Q none {s with heap:=h'}):wpAny (model prog w) A (pyNext (.ref I)) Q E s:=by
 obtain⟨⟨o,c,hd⟩,ft,tb,f,hi,W,u⟩:=q;have ty:s.TypeIs (.ref I) SI:=⟨_,hi,rfl⟩;have a:∀{R:Fin->Shared->Prop},wpAny (model prog w) A.in1 (setField (.ref I) 2 Value.none >>=λ _=>newExc (.type "StopIteration") [] >>=λ e=>(raiseNew e:Sem Fin)) R (λ e s'=>wpAny (model prog w) A (isInstance e (.type "StopIteration") >>=λ b=>if b=true then pure none else throw e) Q E s') s:=λ {R}=>
  Aa (Er hi (by simp) λ h1 n sb=>Pf (s:={s with heap:=h1}) m λ h' k=>h h' λ b o i e=>k b o ((sb.2 b i).trans e))
 unfold pyNext
 refine Aa (wpAny_attempt (Eg (name:=Str.ofString "__next__") ty si_next (Ck si_next ty Pc ?_ (Pe _))))
 unfold Builtin.«set_iterator.__next__»
 refine Aa (Ad ?_)
 refine Aa (Em hi rfl ?_)
 dsimp only
 refine Aa (wpAny_setEntries_of c hd ft ?_)
 rw[Ac (by simp)]
 have j:∀(f:Nat->Nat),(pickOrder f es).size=es.size:=λ f=>by
  have:=(Pa f es).length_eq;simpa using this
 cases W with
 |text e=>
  refine Aa ?_
  unfold setNext
  refine Aa (Da c hd ft (Aa (DF ?_)))
  rw[Ab e,Ac (by simp)]
  refine Aa (Aa ?_)
  refine Da c hd ft (Aa (DF ?_))
  rw[Ab e]
  refine Aa (Gs (Ad (Ad ?_)))
  rw[Br,Gq (by rw[j];exact Ag _)]
  exact a
 |table e d=>
  refine Aa ?_
  unfold setNext
  refine Aa (Da c hd ft (Aa (DF ?_)))
  rw[Ac (by rw[e];simp)]
  show wpAny _ _ (if dr es t=true then _ else _) _ _ _
  rw[Ac (by rw[d];simp)]
  show wpAny _ _ ((if (!t.led && !es.isEmpty)=true then unsupported "set:maker-not-led" else pure ()) >>=_) _ _ _
  rw[Ac (by rw[tb.led,e];simp)]
  refine Aa (Ad (Ad ?_))
  have hz:t.place.size=es.size:=by simp only[SetTable.fits,Be,Bb]at ft;exact ft.1
  rw[Br,Pb tb.ris (by lia),Gq (Ag _)]
  exact a
 |drawn pl T' o' z p g d=>
  refine Aa (wpAny_seqItems g d ?_)
  dsimp only;have v:pl.length=es.size:=by rw[p.length_eq,Bq]
  rw[Br,Gq (by simp[v])]
  dsimp only
  refine Aa (Er hi (by simp) λ h1 n sb=>Aa (Er (s:={s with heap:=h1}) n (by simp) λ h2 x l=>Pf (s:={s with heap:=h2}) m λ h' k=>h h' λ b o i e=>k b o (((l.2 b i).trans (sb.2 b i)).trans e)))
theorem W8(g:s.heap.get? S=some o)(d:SD w ks o es ep t)
  (h:∀(I:Addr)(T:Option Addr)(ord:List Value)(h':Heap)(dr:Drawn),(∀b o,s.heap.get? b=some o->h'.get? b=some o)->s.heap.objs.size<=I->I<h'.objs.size->(∀x,T=some x->s.heap.objs.size<=x/\x<h'.objs.size/\x≠I)->At w S I T es ep t ord 0 h'->ord.Perm (es.toList.map (·.2))->Q (.ref I) {s with heap:=h',drawn:=dr}):wpAny (model prog w) A (pyIter (.ref S)) Q E s:=by
 have ty:s.TypeIs (.ref S) "set" :=⟨o,g,d.ex.1⟩
 refine Gm ty PySem.F.slot_set_iter (Ck PySem.F.slot_set_iter ty W5 ?_ (PySem.F.args_set_iter_1 _))
 unfold Builtin.«frozenset.__iter__»
 refine Aa (Ad ?_)
 refine Aa ?_
 unfold Builtin.Frozenset.sizeOf
 refine Aa (wpAny_setEntries_of g d.dt d.ft (Ad ?_))
 refine Aa ?_
 unfold setDrawn
 refine Aa (Da g d.dt d.ft (Aa (DF (Ad ?_))))
 show wpAny _ _ (if (!byT w && dr es t)=true then _ else _) _ _ _
 have a:∀(f:Value)(h1:Heap)(dd:Drawn)(T:Option Addr)(ord:List Value),(∀b o,s.heap.get? b=some o->h1.get? b=some o)->s.heap.objs.size<=h1.objs.size->(∀x,T=some x->s.heap.objs.size<=x/\x<h1.objs.size)->(∀x,f=.ref x->T=some x)->(∀h',(∀b o,h1.get? b=some o->h'.get? b=some o)->Way w S es ep t 0 h' f ord)->wpAny (model prog w) A.in1 (setEpoch S >>=λ e=>newFields "set_iterator" [f,rawInt 0,.ref S,rawInt es.size,rawInt e] >>=λ r=>ret r)
   (λ a s'=> ∃v,a=Fin.done (Flow.ret v)/\∃T' r,s'.TypeIs v T'/\typeLookup (.type T') "__next__" =pure (some r)/\Q v s') E {s with heap:=h1,drawn:=dd}:=by
  intro f h1 dd T ord k1 k2 k3 p W
  refine Aa (wpAny_setEpoch_of (s:={s with heap:=h1,drawn:=dd}) (k1 _ _ g) d.dt d.ft ?_)
  refine Aa (Cu (Ad ⟨_,rfl,SI,_,⟨_,Bf _ rfl,rfl⟩,si_next.lookup,?_⟩))
  have i:∀b o,h1.get? b=some o->(h1.push {cls:= .type SI,data:= .fields #[f,rawInt 0,.ref S,rawInt es.size,rawInt ep]}).get? b=some o:=λ b o e=>As _ e
  have m:=W _ i
  refine h h1.objs.size T ord _ dd (λ b o e=>i b o (k1 b o e)) k2 (by rw[Ci];exact C4 _) (λ x j=>⟨(k3 x j).1,by rw[Ci];exact Ff (k3 x j).2,Aw (k3 x j).2⟩) ⟨⟨o,i _ _ (k1 _ _ g),d.dt⟩,d.ft,d.tb,f,?_,m,p⟩ m.perm
  exact Bf _ rfl
 by_cases c:(!byT w && dr es t)=true
 .rw[Ab c]
  refine Aa (OY _ _ (by simp) λ l dd hp=>Aa ?_)
  have hz:l.length=es.size:=by rw[hp.length_eq,Bq]
  have q:=d.sz
  refine Cu ?_ (by have:=fits_of_scanBound d.sz;unfold sizeOk;simpa[hz] using this)
  refine a (.ref s.heap.objs.size) _ dd (some s.heap.objs.size) (l.map λ k=>(es[k]?.map (·.2)).getD .none) (λ b o e=>As _ e) (by rw[Ci];exact C5 _) (λ x z=>by cases z;exact⟨Ag _,by rw[Ci];exact C4 _⟩) (λ x z=>by cases z;rfl) λ h' k=>?_
  exact .drawn l _ _ _ hp (k _ _ (Bf _ rfl)) rfl
 .rw[Ac c]
  refine Aa (Ad ?_)
  by_cases e:byT w=true
  .exact a (rawInt 0) s.heap s.drawn none _ (λ _ _ e=>e) (Ag _) (λ x z=>by cases z) (λ x z=>by cases z) λ h' _=>.text e
  .have n:byT w=false:=by simpa using e
   exact a (rawInt 0) s.heap s.drawn none _ (λ _ _ e=>e) (Ag _) (λ x z=>by cases z) (λ x z=>by cases z) λ h' _=>.table n (by rw[n]at c;simpa using c)
end
def W9:typeLookup (.type "set") "__len__" =pure (some (.builtin "set.__len__")):=by rw[typeLookup_type,Hn];kernel_rfl
def Pg:Slot SI "__iter__" "set_iterator.__iter__" :=
 .of (owner:=SI) (n:="__iter__") (by rw[typeLookup_type,Hn];kernel_rfl) (by decide+kernel) (by decide+kernel) (by decide+kernel) (by first|exact .inl (by decide+kernel)|exact .inr (by decide+kernel)) (by rw[isSubtype_type];kernel_rfl)
def WA:entryFor table "set_iterator.__iter__" =some Builtin.«dict_keyiterator.__iter__» :=entryFor_alias (id':="dict_keyiterator.__iter__") (by kernel_rfl) rfl (by decide+kernel) (by kernel_rfl)
def WB(a:Value):argsOk "set_iterator.__iter__" ⟨[a],[]⟩:=by
 unfold argsOk;rw[signature?_of (id:="set_iterator.__iter__") (n:="__reti__".toList) (o:="rotareti_tes".toList) (by kernel_rfl) Pd];kernel_rfl
section
variable{prog:Program}{w:World}{A:Around}{E:VP}{s:Shared}{S I:Addr}{T:Option Addr}{es:Array (Int×Value)}{ep:Nat}{t:SetTable}{ord:List Value}{i:Nat}
theorem WC(a:s.TypeIs (.ref S) "set")(h:Q false s):wpAny (model prog w) A (Builtin.List.listLengthHint (.ref S)) Q E s:=by
 unfold Builtin.List.listLengthHint
 refine Aa (wpAny_specialOf a W9 ?_)
 generalize hid:("set.__len__" :String)=id0
 wp_delta
 rw[show splitId id0=some ("set","__len__") from by subst hid;decide+kernel]
 subst hid
 refine Aa (wpAny_isInstance (T:="set") (b:=true) a (by rw[isSubtype_type];kernel_rfl) ?_)
 refine Gh (λ z=>absurd z (by decide)) (λ _=>?_)
 exact Gh (λ _=>Aa (wpAny_typeOf a (Ad h))) (λ z=>absurd (by decide+kernel) z)
theorem At.move(a:At w S I T es ep t ord i h)(k:∀b∈I::S::T.toList,∀o,h.get? b=some o->h'.get? b=some o):At w S I T es ep t ord i h':=by
 obtain⟨⟨o,j,hd⟩,ft,tb,f,hi,W,c⟩:=a
 refine⟨⟨o,k S (by simp) o j,hd⟩,ft,tb,f,k I (by simp) _ hi,?_,c⟩
 cases W with
 |text e=>exact .text e
 |table e d=>exact .table e d
 |drawn pl T' o' z p g d=>exact .drawn pl T' o' z p (k T' (by simp[c T' rfl]) _ g) d
theorem WD(j:A.handled=none)(d:I≠S)(l:∀x,T=some x->x≠I)(n:ord.length=es.size):WalksS prog w A I (I::S::T.toList) [I] Eq es.size (λ i v=>ord[i]? =some v) (λ i s=>At w S I T es ep t ord i s.heap) where
 sub:=λ b c=>by rw[Au]at c;subst c;exact Aj
 grefl:=λ _=>rfl
 gtrans:=λ _ _ _ a b=>a.trans b
 frame:=λ i s h' tk a _ k=>a.move k
 item:=λ i s Q E hi a h=>by
  have g:i<ord.length:=by lia
  exact W6 a (zX g) d l λ h' sb m=>h _ _ (zX g) m ⟨λ b o c e=>(sb.2 b (by simpa using c)).trans e,rfl,rfl,rfl,Ag _⟩
 done:=λ s Q E a h=>W7 j a d λ h' k=>h _ ⟨λ b o c e=>k b o (by simpa using c) e,rfl,rfl,rfl,Ag _⟩
 self:=λ i s Q E a h=>by
  obtain⟨f,hi,_⟩:=a.it;have ty:s.TypeIs (.ref I) SI:=⟨_,hi,rfl⟩
  refine Gm ty Pg (Ck Pg ty WA ?_ (WB _))
  show wpAny _ _ (ret (.ref I)) _ _ s;exact Ad ⟨_,rfl,SI,_,ty,si_next.lookup,h⟩
theorem Ph:∀{l:List Value},(∀v∈l,∃k tk,v=Value.int k tk)->IntsAre l (l.map iv)
 | [],_=>.nil
 |v::r,h=>by
  obtain⟨k,tk,rfl⟩:=h v Aj;exact .cons k tk (Ph λ x a=>h x (Ap _ a))
def WE{d:Addr}{T:String}{n:Nat}(D:(Nat->Value->Prop)->Prop){Q:List Value->Shared->Prop}(g:d<s.heap.objs.size)(ty:∀(h:Heap) (dd:Drawn),(∀b o,s.heap.get? b=some o->h.get? b=some o)->Shared.TypeIs {s with heap:=h,drawn:=dd} (.ref d) T)
  (M:(Value.type T==Value.type "list")=false) (nt:(Value.type T==Value.type "tuple")=false) (k:∀(N:Around)(s':Shared)(p:Bool->Shared->Prop)(y:VP),s'.TypeIs (.ref d) T->p false s'->wpAny (model prog w) N (Builtin.List.listLengthHint (.ref d)) p y s')
  (it:∀(h0:Heap)(p:VP)(y:VP),(∀b o,s.heap.get? b=some o->h0.get? b=some o)->(∀(I:Addr)(fp:List Addr)(P:Nat->Value->Prop)(St:Nat->Shared->Prop)(h1:Heap)(dd:Drawn),D P->(∀b o,h0.get? b=some o->h1.get? b=some o)->h0.objs.size<=I->(∀b∈fp,b=d\/h0.objs.size<=b)->WalksS prog w A.in1 I fp [I] Eq n P St->St 0 {s with heap:=h1,drawn:=dd}->p (.ref I) {s with heap:=h1,drawn:=dd})->wpAny (model prog w) A.in1 (pyIter (.ref d)) p y {s with heap:=h0})
  (O:n<=sizeLine) (h:∀(P:Nat->Value->Prop)(f:Array Value)(h':Heap)(dd:Drawn)(tk:Nat),D P->ItemsOf P f n->(∀b o,s.heap.get? b=some o->h'.get? b=some o)->s.toks<=tk->s.heap.objs.size<=h'.objs.size->Q f.toList {s with heap:=h',drawn:=dd,toks:=tk}):wpAny (model prog w) A (collect (.ref d)) Q E s:=by
 unfold collect
 refine Aa (wpAny_runValue (Eo PySem.F.entry_proto_collect ?_))
 rw[Fo PySem.F.plain_proto_collect _];show wpAny _ A.in1 (newList [] >>=λ l=>again (.builtin "list.__iadd__" ⟨[l,.ref d],[]⟩)) _ _ s
 refine Aa (Cu ?_)
 refine Ad ⟨Fp PySem.F.plain_list_iadd _,Eo PySem.F.entry_list_iadd ?_⟩
 rw[Fo PySem.F.plain_list_iadd _];generalize hL:s.heap.objs.size=L at g;have G:(s.heap.push {cls:= .type "list",data:= .seq ([]:List Value).toArray}).get? L=some {cls:= .type "list",data:= .seq ([]:List Value).toArray}:=by rw[<-hL];exact Bf _ rfl
 have k0:∀b o,s.heap.get? b=some o->(s.heap.push {cls:= .type "list",data:= .seq ([]:List Value).toArray}).get? b=some o:=λ b o e=>As _ e
 have sz0:(s.heap.push {cls:= .type "list",data:= .seq ([]:List Value).toArray}).objs.size=L+1:=by rw[Ci,hL]
 generalize s.heap.push {cls:= .type "list",data:= .seq ([]:List Value).toArray}=h0 at G k0 sz0;show wpAny _ A.in1 (Builtin.List.listExtendWith (.ref L) (.ref d) (.ref L)) _ _ {s with heap:=h0}
 unfold Builtin.List.listExtendWith
 refine Aa (wpAny_typeOf (ty h0 s.drawn k0) ?_)
 have R:Builtin.List.listSameRef (.ref L) (.ref d)=false:=by
  have:L≠d:=Ct g;simp[Builtin.List.listSameRef,this]
 simp only[R,M,nt,D9,Df,Ca]
 refine Aa (it h0 _ _ k0 λ I fp P St h1 dd S k1 H J W st=>?_)
 rw[sz0]at H J
 refine Aa (B4 (k _ {s with heap:=h1,drawn:=dd} _ _ (ty h1 dd λ b o e=>k1 b o (k0 b o e)) ?_))
 have K:L∉fp:=λ m=>by
  rcases J L m with z|z
  .exact Ct g z
  .exact Nat.not_succ_le_self _ z
 have key:∀(h2:Heap)(c:Nat),St 0 {s with heap:=h2,drawn:=dd}->(∀b o,b≠L->h1.get? b=some o->h2.get? b=some o)->h2.get? L=some {cls:= .type "list",data:= .seq #[] c}->
   codeAny (model prog w) A (.builtin "list.extend.loop" ⟨[.ref L,.ref I,.ref L],[]⟩) (λ r s'=>match r with | .ok (.ret v)=>wpAny (model prog w) A (match v with | .ref a=>load a >>=λ o=>(match o.data with | .seq xs _=>pure xs.toList|_=>unsupported "internal:collect")|_=>unsupported "internal:collect") Q E s' | .ok _=>False | .error e=>E e s') {s with heap:=h2,drawn:=dd}:=by
  intro h2 c U k2 x
  refine codeAny_extend_loopS W O L K (.ref L) n 0 _ #[] c rfl (B5 _) U x (ItemsOf.nil _) λ s' f c' q g' t=>?_
  show wpAny _ A (load L >>=_) _ _ s'
  refine Aa (wpAny_load g' (Ad ?_))
  have B:s'={s with heap:=s'.heap,drawn:=dd,toks:=s'.toks}:=by
   obtain⟨u1,V,X,u4,Y⟩:=s';have e1:s.gens=V:=q.gens;have e2:X=dd:=q.drawn;have Z:Y=s.os:=q.os;subst e1;subst e2;subst Z;rfl
  rw[B]
  refine h P f s'.heap dd s'.toks S t (λ b o i=>?_) q.toks (by rw[hL];exact Dp (Ai g'))
  have j:b<L:=by rw[<-hL];exact Ai i
  refine q.heap b o ?_ (k2 b o (Aw j) (k1 b o (k0 b o i)))
  simp only[Af,Bt,Bn,not_or];exact⟨Aw j,λ z=>absurd (Bj (z ▸ j) (Nat.le_of_succ_le H)) (B9 _)⟩
 have C:=k1 _ _ G
 refine Gh (λ _=>?_) (λ _=>Ad ⟨Fp PySem.F.plain_extend_loop _,key h1 0 st (λ b o _ e=>e) C⟩)
 refine Aa (D0 (Aa ?_))
 show wpAny _ _ (updateSeq L (·.push .none) >>=λ _=>updateSeq L (·.pop)) _ _ _
 refine Aa (wpAny_updateSeq C rfl ?_)
 have x:=Cp (Obj.mapSeq (·.push Value.none)) C rfl
 refine wpAny_updateSeq (hz:=by seq_fits) x rfl ?_
 have g3:=Cp (Obj.mapSeq (·.pop)) x rfl;have u:∀b o,b≠L->h1.get? b=some o->((h1.update L (Obj.mapSeq (·.push Value.none))).update L (Obj.mapSeq (·.pop))).get? b=some o:=λ b o i e=>
  (C7 _ _ (Bm i)).trans ((C7 _ _ (Bm i)).trans e)
 exact Ad ⟨Fp PySem.F.plain_extend_loop _,key _ _ (W.frame 0 {s with heap:=h1,drawn:=dd} _ s.toks st (Ag _) λ b i o e=>u b o (λ z=>K (z ▸ i)) e) u g3⟩
def WG(h:ItemsOf (λ i v=>ord[i]? =some v) acc ord.length):acc.toList=ord:=by
 refine List.ext_getElem? λ i=>?_
 by_cases hi:i<acc.size
 .rw[h.2 i _ (B2 hi),Bx,B2 hi]
 .rw[Ed (by simpa using hi),Ed (by rw[<-h.1];lia)]
theorem WH{ks:List Int}{Q:List Value->Shared->Prop}(u:A.handled=none)(y:SG w s.heap S ks)
  (h:∀(vs:List Value)(ns:List Int)(h':Heap)(dd:Drawn)(tk:Nat),IntsAre vs ns->ns.Perm ks->(∀b o,s.heap.get? b=some o->h'.get? b=some o)->s.toks<=tk->Q vs {s with heap:=h',drawn:=dd,toks:=tk}):wpAny (model prog w) A (collect (.ref S)) Q E s:=by
 obtain⟨o,es,ep,t,j,d⟩:=y;have m:S<s.heap.objs.size:=Ai j
 refine WE (T:="set") (n:=es.size) (λ P=> ∃ord:List Value,ord.Perm (es.toList.map (·.2))/\P=λ i v=>ord[i]? =some v) m (λ h dd k=>⟨o,k _ _ j,d.ex.1⟩) (by decide) (by decide) (λ _ _ _ _ ty q=>WC ty q) (λ h0 K L k0 q=>?_) (fits_of_scanBound d.sz) λ P B h' dd tk C c k D _=>?_
 .refine W8 (s:={s with heap:=h0}) (k0 _ _ j) d λ I T ord h1 dd k1 p M r a pm=>?_
  have g:S<h0.objs.size:=Ai (k0 _ _ j);have F:I≠S:=λ z=>absurd (Bj (z ▸ g) p) (B9 _)
  have f:ord.length=es.size:=by rw[pm.length_eq,Ae,Cn]
  refine q I (I::S::T.toList) _ _ h1 dd ⟨ord,pm,rfl⟩ k1 p (λ b l=>?_) (WD u F (λ x G=>(r x G).2.2) f) a
  simp only[Af,Option.mem_toList]at l
  rcases l with rfl|rfl|l
  .exact .inr p
  .exact .inl rfl
  .exact .inr (r b l).1
 .obtain⟨ord,pm,rfl⟩:=C
  have f:ord.length=es.size:=by rw[pm.length_eq,Ae,Cn]
  rw[<-f]at c;rw[WG c]
  refine h ord (ord.map iv) h' dd tk (Ph λ v H=>?_) ((pm.map iv).trans (by rw[Bg];exact d.pm)) k D
  obtain⟨e,J,rfl⟩:=Ak.mp (pm.mem_iff.mp H);obtain⟨k,tk,e1,_⟩:=d.el e J;exact⟨k,tk,e1⟩
end
section
variable{prog:Program}{w:World}{A:Around}{E:VP}{s:Shared}
def WI(h:wpAny (model prog w) A.in1 (collect x) (λ vs s1=> ∃ns,IntsAre vs ns/\vs.length<64/\∀(h':Heap) (out:Array Value) (c:Nat) (a:List Int),IntsAre out.toList a->a.Perm ns->a.Pairwise (· <= ·)->(∀b o,s1.heap.get? b=some o->h'.get? b=some o)->h'.get? s1.heap.objs.size=some (seqObj "list" out c)->Q (.ref s1.heap.objs.size) {s1 with heap:=h'}) E s):
  wpAny (model prog w) A (call (.builtin "sorted") [x]) Q E s:=by
 refine Calls.call_function_entry kind_sorted plain_sorted entry_sorted (args_sorted1 _) ?_
 unfold Builtin.«sorted»
 refine Aa (m:=checkCount "sorted" 1 1 _) (Ad (Aa (L2.thn h λ vs s1 ⟨ns,hi,f,k⟩=>?_)))
 refine Aa (wpAny_newList ?_ (by rw[Ds];lia))
 have g:(s1.heap.push (seqObj "list" vs.toArray 0)).get? s1.heap.objs.size=some (seqObj "list" vs.toArray 0):=Bf _ rfl
 refine Aa (B4 (Ck slot_list_sort ⟨_,g,rfl⟩ entry_list_sort (list_sort_tree g hi f λ out a i j l=>⟨_,rfl,?_⟩) (args_list_sort _)))
 obtain⟨c,n⟩:=sortedHeap_at (out:=out) g;exact Ad ⟨_,rfl,k _ out c a i j l (λ b o e=>by
  have d:b<s1.heap.objs.size:=Ai e;rw[sortedHeap_old (Aw d) (by rw[size_push'];exact Ff d)]
  exact As _ e) n⟩
end
end Se
namespace L2
open PySem PySem.Spec PySem.W PyProof.Rows Se
theorem Pi:∀{ns:List Int}{vs:List Value},Vals (ns.map V.int) vs->IntsAre vs ns
 | [],_,.nil=>.nil
 |_::_,_,.cons ⟨_,e⟩ r=>by subst e;exact .cons _ _ (Pi r)
theorem K2:∀{vs:List Value}{ns:List Int},IntsAre vs ns->Vals (ns.map V.int) vs
 |_,_,.nil=>.nil
 |_,_,.cons n t r=>.cons ⟨t,rfl⟩ (K2 r)
def z8(l:List Int):List Int:=l.foldl step_dedup []
def WJ(h:n=ns.length):firstMet (λ i=>ns.getD i 0) n=z8 ns:=by
 subst h;unfold firstMet z8
 congr 1
 refine Ep (by simp) λ i h1 h2=>?_
 simp[Cf,h2]
def Pj(K:FG):List V->Hp->VK->Prop:=λ xs H Q=> ∃(p:Addr)(ns:List Int),xs=[.ref p]/\SqL K H p (ns.map V.int)/\ns.length<4000/\(z8 ns).length<64/\
 ∀(l:Addr)(a:List Int),H l=none->a.Perm (z8 ns)->a.Pairwise (· <= ·)->Q (.ref l) (zk H l (.lst (a.map V.int)))
section
variable{X:Cx}{K:FG}{e:Expr}{p1 p2 q1 q2:Pos}{t:TA}
theorem WK(B:X.K=K)(x:X.calm=true)(k:Gl X "sorted")(C:X.mg "sorted" =none)(l:Gl X "set")(m:X.mg "set" =none)(D:PA X [e] t)(E:starEach [e] X.env=[(false,eval e X.env)]:=by rfl)
  (d:starEach [.Call (.Name "set" p2) [e] [] q2] X.env=[(false,eval (.Call (.Name "set" p2) [e] [] q2) X.env)]:=by rfl):PE X (.Call (.Name "sorted" p1) [.Call (.Name "set" p2) [e] [] q2] [] q1) (tCB (Pj K) t):=by
 subst B;intro pins s σ H Q I h
 refine De (BN I k C (show bootBuiltins "sorted" =some (.builtin "sorted") by rfl) ?_ (by decide) (by decide))
 refine PyProof.Rows.callWith_builtin1 ?_ d rfl
 rw[d];show wpAny _ _ (spliced ((false,eval _ X.env)::backTo q1 [])) _ _ s
 refine Calls.spliced_cons ?_
 refine De (BN I l m (show bootBuiltins "set" =some (.type "set") by rfl) ?_ (by decide) (by decide))
 refine E9 (thn (D q2 pins s σ H _ I h) λ us s1 ⟨vs,H1,a,F,q1⟩=>?_) E rfl
 obtain⟨p,ns,rfl,G,O,P,q⟩:=q1;obtain⟨u,rfl,J⟩:=BQ F;cases J;obtain⟨its,y,pl,hz⟩:=a.list G;have n:its.length=ns.length:=by have:=y.length;rw[Ae]at this;lia
 have f:its.toArray.size=ns.length:=by simpa using n
 refine W3 (I.ok.hd x) pl.isList (Pi y) (by rw[f];unfold scanBound;lia) λ h1 tk g k1 R=>?_
 rw[WJ f]at g;have r:∀b o,s1.heap.get? b=some o->h1.get? b=some o:=λ b o e=>k1 b o (Ai e) e
 refine Calls.spliced_nil ?_
 refine WI (WH (A:=X.A.in1) (I.ok.hd x) g λ vs ms h2 dd v z w k2 L=>⟨ms,z,?_,λ S out c i b1 b2 b3 k3 M=>?_⟩)
 .have:=(K2 z).length
  rw[Ae,w.length_eq]at this;lia
 .have N:Inv X pins σ H1 {s1 with drawn:=dd}:=⟨a.ok,a.os,a.bare,a.base,a.loc,a.cell,a.free,a.freeC,a.pin,a.hok,a.len⟩
  have j:s1.heap.objs.size<=h2.objs.size:=by
   obtain⟨o,es,ep,t,k,_⟩:=g;exact Dp (Ai (k2 _ _ k))
  exact⟨.ref _,_,N.laid (t':=v) (o:= .lst (i.map V.int)) (λ b o e=>k3 b o (k2 b o (r b o e))) j ⟨by rw[Ae,(b2.trans w).length_eq,Ds];lia,out.toList,c,K2 b1,by rw[Array.toArray_toList];exact M⟩,rfl,q _ i (a.hok.fresh j) (b2.trans w) b3⟩
end
end L2
namespace L3
open PySem PySem.Spec PyProof.Rows L2
section
variable{X:Cx}{κ:Kx}{E:XK}{e:Expr}{p1 p2 q1 q2:Pos}{t:A3}
def EC:FB:=λ s h fs=>match fs with
 | [f]=>match rdl s h f with
  |some xs=>match zG int3 xs with
   |some ns=>if ns.length<4000/\(z8 ns).length<64 then some (.m (.lst ((GA (z8 ns)).map .int))) else none
   |none=>none
  |none=>none
 |_=>none
theorem WL:j6 κ (Pj κ.K) EC:=λ F σ H fs z vs Q b r e k=>by
 unfold EC at e
 split at e
 .rename_i f
  obtain⟨v,rfl,g⟩:=p1 r;cases q1:rdl F.s F.h f with
  |none=>rw[q1]at e;cases e
  |some xs=>
   rw[q1]at e;obtain⟨a,ys,rfl,i,j⟩:=Qg b g q1;cases q3:zG int3 xs with
   |none=>simp only[q3]at e;cases e
   |some ns=>
    simp only[q3]at e;obtain⟨c,rfl⟩:=jt e
    refine⟨a,ns,rfl,by rw[<-Kh j q3];exact i,c.1,c.2,λ l m d pm n=>?_⟩
    have e:=NU (pm.trans (BD (z8 ns)).1.symm) n (BD (z8 ns)).2;rw[e];exact k _ _ (qy d) (Post.lst b d (Oo _))
 .cases e
theorem WM(d:X.K=κ.K)(f:X.calm=true)(g:Gl X "sorted")(i:X.mg "sorted" =none)(a:Gl X "set")(b:X.mg "set" =none)(j:PA X [e] (zI κ E t))(k:starEach [e] X.env=[(false,eval e X.env)]:=by rfl)
  (c:starEach [.Call (.Name "set" p2) [e] [] q2] X.env=[(false,eval (.Call (.Name "set" p2) [e] [] q2) X.env)]:=by rfl):PE X (.Call (.Name "sorted" p1) [.Call (.Name "set" p2) [e] [] q2] [] q1) (zi κ E (eB EC t)):=
 yQ (WK d f g i a b j k c) λ _ _ _ h=>te_b WL h
end
section
variable{X:Cx}{κ:Kx}{E:XK}{F:Fr}{σ:L2.St}{H:Hp}
noncomputable def BF(h:H3):V3->Option (List (MK×V3)×(H3->Prop))
 |.dT kvs=>some (kvs,λ _=>True)
 |.loc n=>match h[n]? with
  |some (.dT kvs)=>some (kvs,λ h=>h[n]? =some (.dT kvs))
  |_=>none
 |_=>none
def Pk(e:BF h x=some (kvs,ok)):ok h/\∀{F:Fr}{σ:L2.St}{H:Hp}{v:V},Rel κ F σ H->Rep κ F.β F.O H x v->ok F.h->∃a ws,v=.ref a/\H a=some (.dT ws)/\RepP κ F.β F.O H kvs ws:=by
 cases x<;>simp only[BF]at e<;>try cases e
 case dT=>
  refine⟨trivial,λ b r _=>?_⟩
  cases r with
  |dT g1 g2 g3 g4=>exact⟨_,_,rfl,g1,g4⟩
 case loc n=>
  split at e
  .rename_i k q
   cases e
   refine⟨q,λ {F σ H v} b r c=>?_⟩
   cases r with
   |loc h1 h2=>
    rcases b.heap.cell n _ c with z|⟨a,ha,ws,g1,g2⟩
    .cases z
    .exact⟨a,ws,h2 a ha,g1,g2⟩
  .cases e
def iDl(p:P3):I3:=λ s h=>(p s h).bind λ f h1=>match f with
 |.x x=>match BF h1 x with
  |some (kvs,ok)=>.ok ⟨[x],kvs.map λ a=>mkV3 a.1,ok⟩ h1
  |none=>.no
 |_=>.no
def Pl{kvs:List (MK×V3)}{ws:List (MK×V)}{β:AO}{O:Addr->Prop}(r:RepP κ β O H kvs ws){i:Nat}{k:MK}{v:V}(a:ws[i]? =some (k,v)):∃x,kvs[i]? =some (k,x)/\Rep κ β O H x v:=by
 have gen:∀{kvs:List (MK×V3)}{ws:List (MK×V)},RepP κ β O H kvs ws->∀i:Nat,ws[i]? =some (k,v)->∃x,kvs[i]? =some (k,x)/\Rep κ β O H x v:=by
  intro kvs
  induction kvs with
  |nil=>intro ws q i e;cases q;simp at e
  |cons p r ih=>
   intro ws q i e;cases q with
   |cons q1 q2=>
    cases i with
    |zero=>simp only[Ee,Ce,Dk]at e;obtain⟨rfl,rfl⟩:=e;exact⟨_,rfl,q1⟩
    |succ j=>exact ih q2 j (by simpa using e)
 exact gen r i a
def Pm{tg l:Expr}{d:P3}(s:PE X l (zh κ E d)):PI X tg l (yG κ E (iDl d)):=PIw (Wm s) λ σ H R ⟨F,j,o⟩=>
 yu (K:=kP κ) km_I j o λ v H1 g h1 f e1 m o1=>by
  obtain⟨p,h⟩:=m
  match f,h,o1 with
  |.x x,h,o1=>
   have h:Rep κ g F.O H1 x v:=h;cases q:BF h1 x with
   |none=>simp only[q]at o1;exact o1.elim
   |some w=>
    obtain⟨kvs,ok⟩:=w;simp only[q]at o1;obtain⟨w0,r⟩:=Pk (κ:=κ) q;obtain⟨a,ws,rfl,t,u⟩:=r (F:=F.to g h1) p h w0;have el:kvs.length=ws.length:=by have:=congrArg List.length (RepP.keys u);simpa using this
    refine⟨a,ws,rfl,t,o1 g _ H1 Ext.refl ⟨p,[.ref a],.cons h .nil,λ F' σ' H' b A n i=>?_⟩⟩
    cases A with
    |cons r'' _=>
     obtain⟨J,c,B,q1,q4⟩:=r b r'' n;cases B;have C:kvs.length=c.length:=by have:=congrArg List.length (RepP.keys q4);simpa using this
     refine⟨λ hi=>⟨⟨c,q1,by lia,?_⟩,λ y D ⟨e,G⟩=>?_⟩,λ hi=>⟨c,q1,by lia,?_⟩⟩
     .rw[Ae]at hi;lia
     .subst e
      obtain⟨k,v,n,I⟩:=G c q1;obtain⟨z,hz,_⟩:=Pl q4 n;exact⟨mkV3 k,by rw[Az,hz];rfl,Ext.refl,b,Wn b I⟩
     .rw[Ae]at hi;lia
noncomputable def oneK:MK×V3->Option (qg×V3)
 | (.one k,v)=>some (k,v)
def iI(p:P3):I3:=λ s h=>(p s h).bind λ f h1=>match f with
 |.x x=>match BF h1 x with
  |some (kvs,ok)=>match zG oneK kvs with
   |some ks=>.ok ⟨[x],ks.map λ a=>.tup [kV3 a.1,a.2],ok⟩ h1
   |none=>.no
  |none=>.no
 |_=>.no
theorem Pn:∀{kvs:List (MK×V3)}{ks:List (qg×V3)},zG oneK kvs=some ks->kvs=ks.map λ a=>(MK.one a.1,a.2)
 | [],_,e=>by cases e;rfl
 | (.one k,v)::r,_,e=>by obtain⟨y,l,h1,h2,rfl⟩:=FY e;cases h1;rw[Ah,<-Pn h2]
def K4{ks:List (qg×V3)}{ws:List (MK×V)}{β:AO}{O:Addr->Prop}(r:RepP κ β O H (ks.map λ a=>(MK.one a.1,a.2)) ws):EB ws:=λ p hp=>by
 have:p.1∈ws.map (·.1):=Ak.mpr ⟨p,hp,rfl⟩;rw[<-RepP.keys r,Bg]at this;obtain⟨q,_,e⟩:=Ak.mp this;exact⟨q.1,e.symm⟩
def WN {x1} (u:PE X l (zh κ E d)) (e:attributeBase l "items" X.env (eval l X.env)=eval l X.env:=by rfl) (g:(apos.endLine==pos.line)=true:=by rfl):
  PI X (.Tuple elts x1 tp) (.Call (.Attribute l "items" apos) [] [] pos) (yG κ E (iI d)):=PIw (Wt u e g) λ σ H R ⟨F,n,o⟩=>
 yu (K:=kP κ) km_I n o λ v H1 h h1 f e1 p o1=>by
  obtain⟨r,j⟩:=p
  match f,j,o1 with
  |.x x,j,o1=>
   have j:Rep κ h F.O H1 x v:=j;cases q:BF h1 x with
   |none=>simp only[q]at o1;exact o1.elim
   |some w=>
    obtain⟨kvs,ok⟩:=w;simp only[q]at o1;cases q2:zG oneK kvs with
    |none=>simp only[q2]at o1;exact o1.elim
    |some ks=>
     simp only[q2]at o1;have A:=Pn q2;subst A;obtain⟨w0,s⟩:=Pk (κ:=κ) q;obtain⟨a,ws,rfl,B,t⟩:=s (F:=F.to h h1) r j w0;have el:ks.length=ws.length:=by have:=congrArg List.length (RepP.keys t);simpa using this
     refine⟨a,ws,rfl,B,K4 t,o1 h _ H1 Ext.refl ⟨r,[.ref a],.cons j .nil,λ F' σ' H' c C D i=>?_⟩⟩
     cases C with
     |cons r'' _=>
      obtain⟨V,b,G,q1,q4⟩:=s c r'' D;cases G;have I:ks.length=b.length:=by have:=congrArg List.length (RepP.keys q4);simpa using this
      refine⟨λ hi=>⟨⟨b,q1,K4 q4,by lia,?_⟩,λ y J L=>?_⟩,λ hi=>⟨b,q1,K4 q4,by lia,?_⟩⟩
      .rw[Ae]at hi;lia
      .obtain⟨T,k,v,rfl,M,rfl,hz⟩:=L
       obtain⟨z,m,N⟩:=Pl q4 (hz b q1);obtain⟨t1,P,Q⟩:=Rel.tup2 (x:=kV3 k) (v:=kV k) (y:=z) (w:=v) c M (OT k) N
       refine⟨.tup [kV3 k,z],?_,t1,P,Q⟩
       rw[Az]at m ⊢;cases e4:ks[i]? with
       |none=>rw[e4]at m;cases m
       |some y=>rw[e4]at m;simp only[Am,Ce,Dk,MK.one.injEq]at m;obtain⟨S,U⟩:=m;simp[S,U]
      .rw[Ae]at hi;lia
end
section
variable{X:Cx}{κ:Kx}{E:XK}{F:Fr}{σ:L2.St}{H:Hp}{D:Ends}{o e:Expr}{pos:Pos}
def j5(g:F2)(p i e:P3):D3:=λ s h=>(p s h).bindS λ f h1=>(i s h1).bindS λ j h2=>match yV s h2 f j with
 |some (.v old)=>(e s h2).bindS λ y a=>match g s a (.x old) y,j,rdm s a f with
  |some (.v z),.x (.int k),some xs=>match qU xs.length k with
   |some n=>match wr3 s a (.lst (xs.set n z)) f with
    |some (s',h')=>.nx s' h'
    |none=>.no
   |none=>.no
  |_,_,_=>.no
 |_=>.no
end
end L3
namespace L2
open PySem PySem.Spec PySem.W PyProof.Rows
def WO:PGet X (rIxL X.K):=by
 intro pins s σ H x y v u Q I e f h;obtain⟨p,xs,i,z,rfl,rfl,g,k,q⟩:=h;cases e;obtain⟨t,rfl⟩:=f;obtain⟨its,r,pl,hz⟩:=I.list g;obtain⟨j,h1,h2,o,l,m⟩:=Ig k;obtain⟨w,d,b⟩:=r.get h2;have n:=r.length;have A:=CO;have a:EP X pins σ Q w s:=⟨z,H,I,b,q⟩
 by_cases h0:0<=i
 .have c:i.toNat=j:=by
   rw[seqIndex_of h0 m]at h1;exact Option.some.inj h1
  exact wpAny_getItem_list pl.isList h0 (by lia) (by rw[c];simpa using d) a
 .have c:(i+(its.toArray.size:Int)).toNat=j:=by
   rw[seqIndex_neg (by lia) l]at h1
   rw[Aq,<-n];exact Option.some.inj h1
  exact wpAny_getItem_list_neg pl.isList (by lia) (by rw[Aq]<;>lia) (by lia) (by rw[c];simpa using d) a
end L2
namespace L3
open PySem PySem.Spec PyProof.Rows L2
section
variable{X:Cx}{κ:Kx}{E:XK}{F:Fr}{σ:L2.St}{H:Hp}{D:Ends}{o e ii:Expr}{pos tp:Pos}
def WQ(e:yV s h x y=some z):∃i,y=.x (.int i):=by
 cases y with
 |s i=>cases e
 |x y=>
  cases y with
  |int i=>exact⟨i,rfl⟩
  |_=>cases e
def WR(hs:OpSim κ tip g)(h:zu κ E (j5 g dp di de) D σ H):MV (zh κ E dp) (zh κ E di) (zh κ E de) (rIxL κ.K) tip Ii D σ H:=by
 obtain⟨F,I,i,o⟩:=h
 refine qW (K:=kP κ) I i o λ W H1 d h1 f e1 r o1=>?_
 have s1:SExt F H (F.to d h1) H1:=SExt.of0 i e1
 refine qW (F:=F.to d h1) (K:=kP κ) r.1 i (SOut.move s1 o1) λ iv H2 a h2 j e2 e o2=>?_
 have s2:SExt (F.to d h1) H1 (F.to a h2) H2:=SExt.of0 (F:=F.to d h1) i e2;have A:=RfR.ext (F:=F.to d h1) (β':=a) (h':=h2) r.1 e2 r.2;have o2:=SOut.move s2 o2
 split at o2
 .rename_i old q
  obtain⟨k,rfl⟩:=WQ q
  refine sim_ixL (F.to a h2) σ H2 f _ (.v old) W iv _ e.1 A e.2 q λ u H3 J post=>?_
  obtain⟨L,X⟩:=post;have Y:SExt (F.to a h2) H2 (F.to a h2) H3:=SExt.of0 (F:=F.to a h2) i J;have M:=RfR.ext (F:=F.to a h2) (β':=a) (h':=h2) e.1 J A;have N:=RfR.ext (F:=F.to a h2) (β':=a) (h':=h2) e.1 J e.2
  refine qW (F:=F.to a h2) (K:=kP κ) L i (SOut.move Y o2) λ Z C b c y G p o4=>?_
  have s4:SExt (F.to a h2) H3 (F.to b c) C:=SExt.of0 (F:=F.to a h2) i G;have o4:=SOut.move s4 o4;have P:=RfR.ext (F:=F.to a h2) (β':=b) (h':=c) L G M;have Q:=RfR.ext (F:=F.to a h2) (β':=b) (h':=c) L G N;have R:RfR κ (F.to b c) C (.x old) u:=Rep.ext0 G X;cases q1:g F.s c (.x old) y with
  |none=>simp only[q1]at o4;exact o4.elim
  |some zz=>
   cases zz with
   |m _=>simp only[q1]at o4;exact o4.elim
   |v z=>
    cases q3:rdm F.s c f with
    |none=>simp only[q1,q3]at o4;exact o4.elim
    |some xs=>
     simp only[q1,q3]at o4
     refine hs (F.to b c) σ C (.x old) y (.v z) u Z _ p.1 R p.2 q1 λ zv H5 S t=>?_
     obtain⟨r5,rz⟩:=t;have s5:SExt (F.to b c) C (F.to b c) H5:=SExt.of0 (F:=F.to b c) i S;have T:=RfR.ext (F:=F.to b c) (β':=b) (h':=c) p.1 S P;have U:=RfR.ext (F:=F.to b c) (β':=b) (h':=c) p.1 S Q;cases q4:qU xs.length k with
     |none=>simp only[q4]at o4;exact o4.elim
     |some n=>
      simp only[q4]at o4;cases q5:wr3 F.s c (.lst (xs.set n z)) f with
      |none=>simp only[q5]at o4;exact o4.elim
      |some w=>
       obtain⟨s',h'⟩:=w;simp only[q5]at o4;obtain⟨l,us,ev,hl,V,wk⟩:=Kl (F:=F.to b c) i r5 T q3 q5;subst ev;cases (show Rep κ b F.O H5 (.int k) iv from U)
       obtain⟨F',e',es,eh,B⟩:=wk (us.set n zv) (V.set rz n);exact⟨l,us,k,n,rfl,rfl,hl,by rw[<-V.length];exact q4,SOut.move s5 o4 F' σ _ e' es eh B⟩
 .exact o2.elim
def IU(b:X.K=κ.K)(hs:OpSim κ tip g)(hp:PIp X op tip)(c:PE X o (zh κ E dp))(hi:PE X ii (zh κ E di))(d:PE X e (zh κ E de))
  (f:∀a iv new,augStore ii a iv new=(do holding [new,a,iv] (setItem a iv new);release [new,a,iv] [];pure .next):=by intros;rfl):PS X (.AugAssign (.Subscript o ii tp) op e pos) (zu κ E (j5 g dp di de)):=
 qv (Sb c hi WO d hp Nq f) λ D σ H h=>by rw[b];exact WR hs h
end
section
variable{X:Cx}{κ:Kx}{E:XK}{F F1 F2 F':Fr}{σ σ':L2.St}{H H1 H2 H':Hp}{Q:VK}{p:Addr}{e a b o:Expr}{es:List Expr}{pos apos np cpos hp:Pos}{i:Nat}{D:Ends}
def K5(c:Str)(t:A3):D3:=λ s h=>(t s h).bindS λ fs h1=>if fs.length<=1000 then .ex ⟨c,none⟩ h1 else .no
def WS(j:κ.cl c=some C)(k:XCl X.K X.mg x C)(l:X.calm=true)(m:Gl X x)(n:JV X E)(d:PA X (e::es) (zI κ E t))(hs:SE X e es:=by rfl)(f:(backTo cpos (starEach es X.env)).any (·.1)=false:=by rfl)
  (hd:(x==("__debug__" :Str))=false:=by decide):PS X (.Raise (some (.Call (.Name x np) (e::es) [] cpos)) none pos) (zu κ E (K5 c t)):=
 qv (Ub k l m n d hs f hd) λ D σ H ⟨F,g,i,o⟩=>qW (K:=kA κ) g i o λ vs H1 h h1 fs e1 b o1=>by
  by_cases hl:fs.length<=1000
  .rw[Ab hl]at o1
   exact⟨by rw[<-b.2.length];exact hl,o1 (F.to h h1) H1 (SExt.of0 i e1) (b.1.heap.sub λ a d=>.inr (.inr d)) C none j rfl⟩
  .rw[Ac hl]at o1;exact o1.elim
abbrev Hd:=Str×Option Nat×D3
def noEx:O3->O3
 |.ex _ _=>.no
 |o=>o
noncomputable def asN(i:Nat):O3->O3
 |.nx s h=>.nx (s.set i none) h
 |.bk s h=>.bk (s.set i none) h
 |.ct s h=>.ct (s.set i none) h
 |.rt r h=>.rt r h
 |_=>.no
noncomputable def pick(a:Str->Str->Option Bool)(x:X3)(s:S3)(h:H3):List Hd->O3
 | []=>.no
 | (B,n,k)::r=>match a x.c B with
  |some true=>match n with
   |none=>noEx (k s h)
   |some i=>if i<s.length then asN i (k (s.set i (some (.v (.fn x.c x.nm.toList)))) h) else .no
  |some false=>pick a x s h r
  |none=>.no
def trOf(κ:Kx)(E:XK)(a:Str->Str->Option Bool)(hs:List Hd):Value->Option Addr->TS:=λ cls dd D σ H=> ∃F x C,Rel κ F σ H/\F.T=[]/\κ.cl x.c=some C/\cls=.ref C/\XD F.β F.O H dd x.nm.toList/\SOut κ E F H D (pick a x F.s F.h hs)
def phw(h:jN X hs t)(w:∀cls dd D σ H,t' cls dd D σ H->t cls dd D σ H):jN X hs t':=λ pins σ H s D a cls dd c q=>h pins σ H s D a cls dd c (w cls dd D σ H q)
def WT{a:Str->Str->Option Bool}:jN X [] (trOf κ E a []):=phw Uj λ cls dd D σ H ⟨F,x,C,_,_,_,_,_,o⟩=>o
def MtOk(κ:Kx)(a:Str->Str->Option Bool)(B:Str)(b:Addr):Prop:=∀c C v,κ.cl c=some C->a c B=some v->PySem.W.exmOne κ.K (.ref C) (.ref b)=some v
theorem SOut.noEx{o:O3}(h:SOut κ E F H D (noEx o)):SOut κ E0 F H D o:=by
 cases o with
 |ex x h'=>exact h.elim
 |nx s h'|bk s h'|ct s h'|rt r h'|no=>exact h
theorem WU{x:Str}{B:Str}{g:Addr}{b:Str->Str->Option Bool}{hs:List ExceptHandler}{b₀:Stmt}{suite:List Stmt}{k:D3}{r:List Hd}(j:X.K=κ.K)(l:MtOk κ b B g)(m:Gl X x)(n:X.mg x=some (.ref g))
  (d:∀e,yM ((X.suite e).wish xNil) (b₀::suite) (zu κ E0 k)) (p:jN X hs (trOf κ E b r)) (hd:(x==("__debug__" :Str))=false:=by decide):
  jN X (.ExceptHandler (some (.Name x np)) none (b₀::suite) hp::hs) (trOf κ E b ((B,none,k)::r)):=phw (Uh m n d p hd) λ cls dd D σ H ⟨F,y,C,a,h,i,f,xd,o⟩=>by
 subst f;unfold pick at o;cases q:b y.c B with
 |none=>rw[q]at o;exact o.elim
 |some v=>
  rw[q]at o;have ex:=l y.c C v i q;rw[<-j]at ex;cases v with
  |true=>exact .inl ⟨ex,F,a,h,SOut.noEx o⟩
  |false=>exact .inr ⟨ex,F,y,C,a,h,i,rfl,xd,o⟩
def Rel.unset(a:Rel κ F σ H):Rel κ {F with s:=F.s.set i none} (σ.set i none) H where
 heap:=a.heap
 slen:=by show (F.s.set i none).length=_;rw[Bw,Bw];exact a.slen
 llen:=by show F.l.length=(F.s.set i none).length;rw[Bw];exact a.llen
 linj:=a.linj
 lt:=a.lt
 lo:=a.lo
 to:=a.to
 tn:=a.tn
 slot:=λ j x b=>by
  have b:(F.s.set i none)[j]? =some (some x):=b
  by_cases e:j=i
  .subst e
   by_cases hl:j<F.s.length
   .rw[Fw hl]at b;cases b
   .rw[Ed (by rw[Bw];lia)]at b;cases b
  .rw[E6 (Bm e)]at b
   obtain⟨v,h1,h2⟩:=a.slot j x b;exact⟨v,by rw[E6 (Bm e)];exact h1,h2⟩
def SExt.unset(e:SExt F H F' H'):SExt F H {F' with s:=F'.s.set i none} H':=⟨e.ext,e.lam,e.oi,e.tt⟩
theorem SOut.asN{o:O3}(h:SOut κ E F H D (asN i o)):SOut κ E0 F H {nx:=λ σ' H'=>D.nx (σ'.set i none) H',rt:=D.rt,bk:=λ σ' H'=>D.bk (σ'.set i none) H',ct:=λ σ' H'=>D.ct (σ'.set i none) H'} o:=by
 cases o with
 |ex x h'=>exact h.elim
 |no=>exact h
 |nx s h'|bk s h'|ct s h'=>exact λ F' σ' H' e es a r=>h _ _ H' e.unset (by show F'.s.set i none=_;rw[es]) a r.unset
 |rt r h'=>exact h
theorem WV{x m:Str}{B:Str}{J:Addr}{l:Str->Str->Option Bool}{hs:List ExceptHandler}{b₀:Stmt}{suite:List Stmt}{k:D3}{r:List Hd}(L:X.K=κ.K)(M:MtOk κ l B J)(P:X.N.Nodup)(hi:X.N[i]? =some m)(t:jT X.env.scope m)(w:X.env.kindOf m=some .local)(Q:Gl X x)(R:X.mg x=some (.ref J))
  (A:∀e,yM ((X.suite e).wish xNil) (b₀::suite) (zu κ E0 k)) (S:jN X hs (trOf κ E l r)) (hd:(x==("__debug__" :Str))=false:=by decide) (T:X.fn m=true\/X.env.scope.names.lookup m=some .local:=by first|exact .inl rfl|exact .inr rfl|assumption):
  jN X (.ExceptHandler (some (.Name x np)) (some m) (b₀::suite) hp::hs) (trOf κ E l ((B,some i,k)::r)):=phw (Ui P hi t w Q R A S hd T) λ cls dd D σ H ⟨F,y,C,b,p,G,I,xd,o⟩=>by
 subst I;unfold pick at o;cases q:l y.c B with
 |none=>rw[q]at o;exact o.elim
 |some v=>
  rw[q]at o;have ex:=M y.c C v G q;rw[<-L]at ex;cases v with
  |true=>
   refine .inl ⟨ex,λ a f=>?_⟩
   by_cases hi':i<F.s.length
   .simp only[Ab hi']at o
    have e1:Ext No F.β H F.β (zk H a (excO a (.ref C) dd)):=qy f;have U:some a∉F.β:=λ z=>by
     obtain⟨j,V⟩:=B7 z;obtain⟨u,g,_⟩:=b.heap.btr j a V;rw[f]at g;cases g
    have no: ¬F.O a:=λ z=>by
     obtain⟨u,g,_⟩:=b.heap.trk a z;rw[f]at g;cases g
    have W:Rel κ F σ (zk H a (excO a (.ref C) dd)):=b.laid f;exact⟨F.setV i (.fn y.c y.nm.toList),W.setV (.exc G yt U no (xd.imp λ d u h n q=>⟨by rw[zK (λ z=>by subst z;rw[f]at h;cases h)];exact h,n,q⟩)) hi',p,SOut.asN (SOut.move ((SExt.of0 (h':=F.h) p e1).trans (SExt.setN p)) o)⟩
   .simp only[Ac hi']at o;exact o.elim
  |false=>exact .inr ⟨ex,F,y,C,b,p,G,rfl,xd,o⟩
end
section
variable{X:Cx}{κ:Kx}
noncomputable def mtL(l:List (Str×Str×Bool))(c B:Str):Option Bool:=match l with
 | []=>none
 | (x,y,v)::r=>if x=c/\y=B then some v else mtL r c B
def MtL(κ:Kx)(l:List (Str×Str×Bool)):Prop:=∀c B v,mtL l c B=some v->∃C a,κ.cl c=some C/\κ.cl B=some a/\PySem.W.exmOne κ.K (.ref C) (.ref a)=some v/\PySem.W.kitOne κ.K (.ref C) (.ref a)=some v/\ExK κ.K C
def MtL.nil:MtL κ []:=λ c B v e=>by cases e
def MtL.cons(h1:κ.cl x=some C)(h2:κ.cl y=some Ba)(a:PySem.W.exmOne κ.K (.ref C) (.ref Ba)=some v)(b:PySem.W.kitOne κ.K (.ref C) (.ref Ba)=some v)(d:ExK κ.K C)(r:MtL κ l):MtL κ ((x,y,v)::l):=λ c B u e=>by
 unfold mtL at e
 by_cases q:x=c/\y=B
 .rw[Ab q]at e;obtain⟨rfl,rfl⟩:=q;cases e
  exact⟨C,Ba,h1,h2,a,b,d⟩
 .rw[Ac q]at e;exact r c B u e
def MtL.ok(h:MtL κ l)(d:κ.cl B=some Ba):MtOk κ (mtL l) B Ba:=λ c C v f e=>by
 obtain⟨i,g,a,b,x,_⟩:=h c B v e;rw[f]at a;rw[d]at b;cases a;cases b;exact x
end
end L3
namespace L2
open PySem PySem.Spec PyProof.Rows
section
variable{A:Around}{E:VP}{env:Env}
variable{nm q:Str}{C N:Addr}{bs bm:List Value}{hdct:Bool}{sn:List Str}{sub:List Value}{ab:Bool}{col:Option Bool}{dd:Option Addr}{k0 k1 k2 k3 k5:Option Value}{newId:String}
def WW(b:bm.contains (.type "BaseException")=true)(k:A.handled=none)
  (h:wpAny M A x (λ v a=> ∃e dx vs sl,v=.ref e/\a.heap.get? C=some (excClassObj nm q C N bs bm hdct sn sub ab col dd k0 k1 k2 k3 k5 newId)/\a.heap.get? e=some ⟨.ref C,dx,.fields vs,sl⟩/\vs[1]? =some .none/\E (.ref e) a) E s):
  wpAny M A (raiseStmt env (some x) none) Q E s:=by
 have f:(Value.ref C::bm).contains (.type "BaseException")=true:=by rw[List.contains_cons,b,Bool.or_true]
 unfold raiseStmt
 refine Aa (thn h λ v a c=>?_)
 obtain⟨e,dx,vs,sl,rfl,i,j,h1,l⟩:=c;obtain⟨hp,g,d,tk,os⟩:=a
 repeat (first|with_reducible refine wpAny_field j rfl h1 ?_|with_reducible refine Cr j ?_|with_reducible refine Cr i ?_|(with_reducible refine wpAny_isSubtype_exc i ?_;rw[f])|wp_step)
 exact wpAny_raiseNew_none k l
end
noncomputable def fg(H:Hp)(a:Addr):Hp:=λ b=>if b=a then none else H b
def ED(h:b≠a):fg H a b=H b:=by unfold fg;rw[Ac h]
def IV:fg H a a=none:=by unfold fg;rw[Ab rfl]
def IW(h:H b=none):fg H a b=none:=by unfold fg;split<;>first|rfl|exact h
section
variable{X:Cx}{pins:AL}{σ:St}{H:Hp}{s:Shared}{a C f:Addr}{φ:Heap->Prop}
def HOk.forget(x:HOk P w H h)(e:H a=some (.ext φ)):HOk P w (fg H a) h:=λ b u q=>by
 have d:b≠a:=λ z=>by rw[z,IV]at q;cases q
 rw[ED d]at q;exact (x b u q).stay (λ c v _ r=>r) (λ c r=>by rw[ED (λ z=>by rw[z,e]at r;cases r)];exact r) λ c xs r=>by rw[ED (λ z=>by rw[z,e]at r;cases r)];exact r
theorem Inv.forget(I:Inv X pins σ H s)(e:H a=some (.ext φ)):Inv X pins σ (fg H a) s:=by
 refine⟨I.ok,I.os,I.bare,⟨I.base.keep,I.base.slot,λ b u q n d=>IW (I.base.free b u q n d),I.base.there,λ b xs q=>?_,λ b u v q=>?_⟩,I.loc,I.cell,IW I.free,λ y c q=>IW (I.freeC y c q),λ p q=>?_,I.hok.forget e,I.len⟩
 .have r:=I.base.tups b xs q
  rw[ED (λ z=>by rw[z,e]at r;cases r)];exact r
 .have r:=I.base.frzs b u v q
  rw[ED (λ z=>by rw[z,e]at r;cases r)];exact r
 .obtain⟨f,g,h⟩:=I.pin p q
  exact⟨f,IW g,h⟩
def K6(X:Cx)(E:XK):Prop:=∀(pins:AL)(σ:St)(H:Hp)(s:Shared)(a C:Addr)(dd:Option Addr),Inv X pins σ H s->H a=some (yw a (.ref C) dd)->X.s₀.heap.get? a=none->E (.ref C) dd (fg H a)->X.xe (.ref a) s
def WX{P:Program}{w:World}{K:FG}{mg:Str->Option Value}{base:Heap}{N:List Str}{qual:Str}{scope:Scope}{f:Addr}{cd:Value}{A:Around}{outer:List Env}{s0:Shared}{H0:Hp}{E:XK}:K6 (yW (XT P w) P w K mg base N qual scope f cd A outer s0 H0 E) E:=by
 intro pins σ H s a C dd I g old q;obtain⟨⟨o,vs,i,j,h,hd,d,h0,h1⟩,_⟩:=(show ObjOk P w H s.heap a (yw a (.ref C) dd) from I.hok a _ g)
 obtain⟨oc,od,k,osl⟩:=o;dsimp only at h hd d;subst h hd d;have c:=I.forget g
 refine NF (base:=base) (L:=s0.heap.objs.size) (a0:= .ref i) c.ok.frames c.stack rfl j rfl h1 h0 λ l T' y=>?_
 obtain⟨u,m,n,p⟩:=c.left rfl rfl y λ b e=>by
  rcases Af.mp e with z|e
  .rw[z];exact⟨.inr old,IV⟩
  .exact⟨.inl e,c.stkFree b e⟩
 exact⟨a,T',.ref C,_,_,fg H a,rfl,c.os,c.bare,u,m,old,n,IV,p,y.trc,q⟩
end
section
variable{X:Cx}{C f:Addr}{fd:FuncData}{ps:List Str}{sp:Sp}{k:Nat}{x:Str}{np cpos pos:Pos}{e:Expr}{es:List Expr}{ta:TA}{E:XK}
def WY(C:Addr)(sp:Sp)(E:XK)(ta:TA):TS:=λ _ σ H=>ta σ H λ vs H1=>vs.length<=1000/\∀a,H1 a=none->sp (.ref a::vs) (zk H1 a (yw a (.ref C) none)) (λ v H2=>v=.non/\∃dd,H2 a=some (yw a (.ref C) dd)/\E (.ref C) dd (fg H2 a)) (λ _ _ _=>False)
def WZ(c:XI X.K C f)(R:X.calm=true)(S:Gl X x)(U:X.mg x=some (.ref C))(F:FnOk X.prog X.w X.K X.mg X.base (XT X.prog X.w) k f fd ps sp)(W:Room (k+1) X.A)(Y:Binds X.K fd ps [])(Z:X.ex=[])(y:K6 X E)(ha:PA X (e::es) ta)
  (hs:SE X e es:=by rfl) (hp:(backTo cpos (starEach es X.env)).any (·.1)=false:=by rfl) (hd:(x==("__debug__" :Str))=false:=by decide):
  PS X (.Raise (some (.Call (.Name x np) (e::es) [] cpos)) none pos) (WY C sp E ta):=by
 intro pins s σ H D I h;obtain⟨nm,q,N,bs,bm,hdct,sn,sub,ab,col,dd,k0,k1,k2,k3,k5,J,T⟩:=c.own I.ok.mod.kin;have p:(backTo cpos (starEach (e::es) X.env)).any (·.1)=false:=by rw[hs];show (false || _)=false;rw[Ec];exact hp
 rw[arm_exec_Raise]
 refine Aa (E7 (WW (C:=C) (nm:=nm) (q:=q) (N:=N) (bs:=bs) (bm:=bm) (hdct:=hdct) (sn:=sn) (sub:=sub) (ab:=ab) (col:=col) (dd:=dd) (k0:=k0) (k1:=k1) (k2:=k2) (k3:=k3) (k5:=k5) (newId:="ValueError.__new__") (T.hasType (by decide)) (I.ok.hd R) ?_))
 refine Aa (Bv (De (AX I S U ?_ hd)) (λ v L l=>Aa (E7 (Ad l))) λ _ _ x=>x)
 refine Fc (h₀:=X.base) I.ok.mod.kin c.kp (thn (ha cpos pins s σ H _ I h) λ us s1 ⟨vs,H1,i,t,hl,q1⟩=>⟨i.kIn,?_⟩) hs hp
 obtain⟨hh,g,d,tk,os⟩:=s1
 refine VL c i.kIn (T.keeps i.bk) (i.bk _ _ J) (λ h' a M mk=>?_) (by show ([]++us).length<=sizeLine;rw[Ea,<-t.length];exact Dp (N3 hl))
 obtain⟨t0,hx,_,_⟩:=mk.there;have na:H1 a=none:=i.hok.untracked mk.new;have B:=i.laid (a:=a) (o:=yw a (.ref C) none) (h':=h') (t':=tk) mk.keeps M (Ks ⟨_,_,t0,hx,rfl,rfl,rfl,rfl,rfl⟩);have O:=q1 a na;have P:Vals (V.ref a::vs) (Value.ref a::us):= .cons rfl t;have G:(Value.ref a::us++([]:List Value)).length=ps.length:=by
  have e:=P.length;rw[F.len _ _ _ _ O]at e;rw[Bz];exact e.symm
 have old:X.s₀.heap.get? a=none:=by
  cases z:X.s₀.heap.get? a with
  |none=>rfl
  |some o=>exact absurd (Bj (Ai z) (By i.sz M)) (B9 _)
 refine Dt (Dd (F.run _ X.stack _ _ ⟨Value.ref a::us,[]⟩ (Value.ref a::us) _ _ _ (W.make C us []) (B.env0.make C us []) (by have:=Y _ (Value.ref a::us) B.kIn G;rw[Bz]at this;exact this) P O) λ r s' j=>?_)
 cases r with
 |error e=>
  obtain⟨_,_,_,_,_,_,_,_,_,_,_,_,_,_,_,_,z⟩:=j;exact z.elim
 |ok fl=>
  cases fl with
  |ret u=>
   obtain⟨v,H',I3,t,ev,dx,Q,q3⟩:=B.after j;subst ev;obtain⟨⟨o,ws,t1,ho,m,n,b,h0,h1⟩,_⟩:=(show ObjOk X.prog X.w H' s'.heap a (yw a (.ref C) dx) from I3.hok a _ Q)
   obtain⟨oc,od,odt,osl⟩:=o;dsimp only at m n b;subst m n b;exact⟨t,a,_,_,_,rfl,I3.bk _ _ J,ho,h1,y pins σ H' s' a C _ I3 Q old q3⟩
  |next|brk|cont=>exact False.elim j
end
section
variable{X:Cx}{a b:Expr}{pos:Pos}{ta tb:TE}
def tF2(ta tb:TE):TE:=λ σ H Q=>ta σ H λ x H1=> ∃i,x=.str i/\i.length<=10000/\tb σ H1 λ y H2=> ∃j,y=.str j/\j.length<=10000/\Q (.str (i++j)) H2
def Xa(d:PE X a ta)(f:PE X b tb):PE X (.JoinedStr [a,b] pos) (tF2 ta tb):=by
 intro pins s σ H Q I h;have sz:40000<=sizeLine:=by decide
 refine wpAny_JoinedStr ?_
 refine Bv (d pins s σ H _ I h) (λ v s1 ⟨x,H1,g,k,i,l,q,q1⟩=>?_) λ _ _ e=>e
 subst l;obtain⟨t1,rfl⟩:=k;have c:Str.empty++i=i:=Str.empty_append i
 refine⟨i,t1,rfl,by rw[c];lia,?_⟩
 rw[c]
 refine Bv (f pins s1 σ H1 _ g q1) (λ v s2 ⟨x,H2,m,n,j,o,r,q2⟩=>?_) λ _ _ e=>e
 subst o;obtain⟨p,rfl⟩:=n
 refine⟨j,p,rfl,by rw[strLen_append];lia,?_⟩
 exact⟨by rw[strLen_append];lia,.str _,H2,m.tok _,⟨_,rfl⟩,q2⟩
end
def K7(C:Addr):Sp:=λ vs H Q _=> ∃a z,vs=[.ref a,.str z]/\z.length<=10000/\H a=some (yw a (.ref C) none)/\∀d,H d=none->Q .non (zk (zk H a (yw a (.ref C) (some d))) d (.xd [(("name" :Str),V.str z)]))
def Xb{P:Program}{w:World}{K:FG}{mg:Str->Option Value}{base:Heap}{x qual:Str}{st:Stmt}{f C:Addr}{fd:FuncData}{k:Nat}{w0:Str}(c:XI K C f)(b:Fun K x qual st f fd)(S:FnScope ["self","name"] ["self","name"] (zC st))(e:w0.length<=10000)
  (g:∀(cdv:Value)(A:Around)(outer:List Env)(s:Shared)(H:Hp)(E:XK),Room k (A.deeper (envOfC qual (zC st) s.heap.objs.size f cdv))->
   yM (yW (XT P w) P w K mg base ["self","name"] qual (zC st) f cdv A outer s H E) (BR st) (tSeq (MQ (OB K (JK (tVar 0) (JK (tF2 (tC (.str w0)) (tFmt (tVar 1))) tNil)))) (OC K (tVar 0) (tVar 1)))):
  FnOk P w K mg base (XT P w) (k+1) f fd ["self","name"] (K7 C):=by
 refine b.okX S (λ vs H Q E h=>?_) λ cdv A outer s H vs Q E i h=>⟨_,g cdv A outer s H E i,?_⟩
 .obtain⟨_,_,rfl,_⟩:=h;rfl
 .obtain⟨a,z,rfl,hz,j,q⟩:=h
  have s0:(start ["self","name"] [V.ref a,V.str z])[0]? =some (some (V.ref a)):=rfl;have s1:(start ["self","name"] [V.ref a,V.str z])[1]? =some (some (V.str z)):=rfl
  refine⟨_,s0,w0,rfl,e,.str z,s1,.inr ⟨z,rfl,by lia,z,rfl,hz,a,C,none,_,rfl,j,c.it,c.sv,?_⟩⟩
  refine⟨.str z,s1,.ref a,s0,a,C,z,rfl,rfl,yt,c.toExN,λ d hd=>?_⟩
  rw[MN];exact q d (by rw[<-hd,zK (λ y=>by rw[y,yt]at hd;cases hd)])
end L2
namespace L3
open PySem PySem.Spec PyProof.Rows L2
section
variable{X:Cx}{κ:Kx}{E:XK}{F F1 F2 F':Fr}{σ σ':L2.St}{H H1 H2 H':Hp}{Q:VK}{p:Addr}{e a b o:Expr}{es:List Expr}{pos apos np cpos hp:Pos}{i:Nat}{D:Ends}
def IY(c:Str)(t:A3):D3:=λ s h=>(t s h).bindS λ fs h1=>match fs with
 | [.x (.str z)]=>if z.length<=10000 then .ex ⟨c,some (.str z)⟩ h1 else .no
 |_=>.no
def Xc{H:Hp}{a d:Addr}{u v:HO}(c:H a=none)(hd:d≠a):fg (zk (zk H a u) d v) a=zk H d v:=by
 funext b
 by_cases hb:b=a
 .subst hb;rw[IV,zK (Bm hd)];exact c.symm
 .rw[ED hb]
  by_cases hb2:b=d
  .subst hb2;rw[yt,yt]
  .rw[zK hb2,zK hb,zK hb2]
def Xd{c x:Str}{C f:Addr}{fd:FuncData}{k:Nat}{t:A3}(G:κ.cl c=some C)(I:XI X.K C f)(J:X.calm=true)(L:Gl X x)(M:X.mg x=some (.ref C))(N:FnOk X.prog X.w X.K X.mg X.base (XT X.prog X.w) k f fd ["self","name"] (K7 C))(P:Room (k+1) X.A)(Q:Binds X.K fd ["self","name"] [])(l:X.ex=[])(m:K6 X E)(h:PA X (e::es) (zI κ E t))
  (hs:SE X e es:=by rfl) (n:(backTo cpos (starEach es X.env)).any (·.1)=false:=by rfl)
  (hd:(x==("__debug__" :Str))=false:=by decide):PS X (.Raise (some (.Call (.Name x np) (e::es) [] cpos)) none pos) (zu κ E (IY c t)):=
 qv (WZ I J L M N P Q l m h hs n hd) λ D σ H ⟨F,p,B,o⟩=>qW (K:=kA κ) p B o λ vs H1 b h1 fs e1 q o1=>by
  obtain⟨r,s⟩:=q
  match fs,s,o1 with
  | [.x (.str z)],s,o1=>
   obtain⟨v,rfl,R⟩:=p1 s;cases (show Rep κ b F.O H1 (.str z) v from R)
   by_cases hl:z.length<=10000
   .simp only[Ab hl]at o1
    refine⟨by show 1<=1000;decide,λ a h=>⟨a,z,rfl,hl,yt,λ d hd=>⟨rfl,some d,?_,?_⟩⟩⟩
    all_goals have g:d≠a:=λ y=>by rw[y,yt]at hd;cases hd
    all_goals rw[zK g]at hd
    .rw[zK (Bm g),yt]
    .rw[MN,Xc h g]
     have S:Rel κ (F.to b h1) σ (zk H1 d (.xd [(("name" :Str),V.str z)])):=r.laid hd;have T:some d∉b:=λ y=>by
      obtain⟨j,U⟩:=B7 y;obtain⟨u,i,_⟩:=r.heap.btr j d U;rw[hd]at i;cases i
     have no: ¬F.Oi d:=λ y=>by
      obtain⟨u,i,_⟩:=r.heap.trk d (.inr (.inr y));rw[hd]at i;cases i
     exact o1 (F.to b h1) _ (SExt.of0 B (e1.trans0 (qy hd))) (S.heap.sub λ a h=>.inr (.inr h)) C (some d) G ⟨z,rfl,yt,T,no⟩
   .simp only[Ac hl]at o1;exact o1.elim
def eXn(a:Str)(d:P3):E3:=λ s h=>(d s h).bind λ f h1=>match f with
 |.x (.fn c [.str z])=>if c=a then .ok (.v (.str z)) h1 else .no
 |_=>.no
def r_xn(j:κ.cl c0=some C)(k:ExN X.K C)(l:PE X e (zh κ E d))(m:attributeBase e "name" X.env (eval e X.env)=eval e X.env:=by rfl):PE X (.Attribute e "name" pos) (zi κ E (eXn c0 d)):=
 yQ (VI l m) λ σ H Q ⟨F,g,o⟩=>yu (K:=kP κ) z6 g o λ v H1 b h1 f e1 h o1=>by
  obtain⟨n,i⟩:=h
  match f,i,o1 with
  |.x (.fn c [.str z]),i,o1=>
   by_cases hc:c=c0
   .subst hc
    simp only[Ab rfl]at o1;cases (show Rep κ b F.O H1 (.fn c [.str z]) v from i) with
    | @exc _ C' a dd _ hc ha nb no xd=>
     rw[j]at hc;cases hc;cases dd with
     |none=>cases xd
     |some d=>
      obtain⟨q,p,hd,_,_⟩:=xd;cases p;exact⟨a,C,d,z,rfl,ha,hd,k,o1 b _ H1 Ext.refl ⟨n,.str _⟩⟩
   .simp only[Ac hc]at o1;exact o1.elim
end
end L3
namespace L2
open PySem PySem.Spec PyProof.Rows
section
variable{X:Cx}{CX:jS}{k:Nat}{f C:Addr}{fd:FuncData}{ps:List Str}{sp:Sp}{dvs:List V}{ds:List Value}{E:XK}{x m:Str}{p pos apos:Pos}{e o:Expr}{es:List Expr}{ta:TE}{t:TA}{σ₀:St}
def Xe(M:Mk X.K C f)(F:FnOk X.prog X.w X.K X.mg X.base CX k f fd ps sp)(g:Room (k+1) X.A)(i:Binds X.K fd ps ds)(hd:Vals dvs ds)
  (j:JW CX X σ₀ E) (I:Inv X pins σ₀ H s) (r:Vals vs us)
  (h:∀x dx,H x=none->H dx=none->dx≠x->sp (.ref x::(vs++dvs)) (zk (zk H dx (.own x)) x (.ins C dx [])) (λ v H2=>v=.non/\Q (.ref x) H2) E):
  wpAny (model X.prog X.w) X.A (call (.ref C) us) (EP X pins σ₀ Q) X.xe s:=by
 have c:=h (s.heap.objs.size+1) s.heap.objs.size (I.hok.fresh (C5 _)) (I.hok.fresh (Ag _)) (Aw (C4 _));have b:=Inv.made (C:=C) I;have d:Vals (V.ref (s.heap.objs.size+1)::(vs++dvs)) (Value.ref (s.heap.objs.size+1)::(us++ds)):= .cons rfl (r.append hd);have l:(Value.ref (s.heap.objs.size+1)::us++ds).length=ps.length:=by
  have e:=d.length;rw[F.len _ _ _ _ c]at e;exact e.symm
 refine Dt (Nb (f:=f) I.kIn M.makes M.init (Bb.mp M.fn) (Dd (F.run _ X.stack _ _ ⟨Value.ref (s.heap.objs.size+1)::us,[]⟩ (Value.ref (s.heap.objs.size+1)::(us++ds)) _ _ E (g.make C us [])
  (b.env0.make C us []) (i _ (Value.ref (s.heap.objs.size+1)::us) b.kIn l) d c) λ r s' a=>?_))
 match r,a with
 |.error e,a=>exact j pins _ _ e s' b a
 |.ok (.ret u),a=>
  obtain⟨v,H',I3,m,ev,q3⟩:=b.after a;subst ev;exact⟨m,⟨V.ref (s.heap.objs.size+1),H',I3,rfl,q3⟩⟩
 |.ok .next,a|.ok .brk,a|.ok .cont,a=>exact False.elim a
def Xf(M:Mk X.K C f)(F:FnOk X.prog X.w X.K X.mg X.base CX k f fd ps sp)(g:Room (k+1) X.A)(i:Gl X x)(j:X.mg x=some (.ref C))(l:Binds X.K fd ps ds)(hd:Vals dvs ds)(m:JW CX X σ₀ E)
  (n:PA X (e::es) t) (a:(x==("__debug__" :Str))=false:=by decide) (o:SE X e es:=by rfl) (b:BA X pos es:=by rfl):
  PE X (.Call (.Name x p) (e::es) [] pos) (λ σ H Q=>σ=σ₀/\FH C sp dvs E t σ H Q):=by
 intro pins s σ H Q I ⟨c,h⟩;subst c
 refine De (AX I i j ?_ a)
 refine Fc (h₀:=X.base) I.ok.mod.kin M.kp (thn (n pos pins s σ H _ I h) λ us s1 ⟨vs,H1,d,r,q⟩=>⟨d.kIn,?_⟩) o b
 exact Xe M F g l hd m d r q
end
end L2
namespace L3
open PySem PySem.Spec PyProof.Rows L2
section
variable{X:Cx}{κ:Kx}{E:XK}{D:Ends}{σ:L2.St}{H:Hp}{e:Expr}{es:List Expr}{np cpos apos pos:Pos}
def DG(a:Str->Str->Option Bool)(c:Str)(f:F3)(t:A3)(hs:List Hd):D3:=λ s h=>match t s h with
 |.ok fs h1=>match vals3 fs with
  |some vs=>match f (.loc h1.length::vs) (h1++[.ins c []]) with
   |.ok (.v .non) h2=>.nx s h2
   |.ex x h2=>pick a x s h2 hs
   |_=>.no
  |none=>.no
 |_=>.no
def Xg{C:Addr}{c:Str}{f:F3}{t:A3}{n:Nat}{k:Str->Str->Option Bool}{hs:List Hd}(u:κ.cl c=some C)(w:zo f n)(h:zu κ E (DG k c f t hs) D σ H):
  FH C (zn κ n f) [] (λ cls dd H'=>trOf κ E k hs cls dd D σ H') (zI κ E0 t) σ H (λ _ H1=>D.nx σ H1):=by
 obtain⟨F,e,b,o⟩:=h;unfold DG at o
 refine⟨F,e,?_⟩
 cases q:t F.s F.h with
 |no|ex x h1=>rw[q]at o;exact o.elim
 |ok fs h1=>
  rw[q]at o;intro a vs H1 e1 ⟨l,y⟩ x dx A g i;cases q2:vals3 fs with
  |none=>simp only[q2]at o;exact o.elim
  |some xs=>
   simp only[q2]at o;rw[Bz];have p:SExt F H (F.to a h1) H1:=SExt.of0 b e1
   refine O0 u w l (BU y q2) A g i ?_
   cases q3:f (.loc h1.length::xs) (h1++[.ins c []]) with
   |no=>simp only[q3]at o;exact o.elim
   |ex x' h2=>
    simp only[q3]at o;intro β' H' d B G dd j xd;exact⟨_,x',G,l.next d B,b,j,rfl,xd,SOut.move (p.trans (SExt.of0 (h':=h2) b d)) o⟩
   |ok r h2=>
    cases r with
    |m _=>simp only[q3]at o;exact o.elim
    |v z=>cases z<;>simp only[q3]at o<;>first|exact o.elim|exact λ β' H' d I _=>⟨rfl,o ((F.to a h1).to β' h2) σ H' (p.trans (SExt.of0 (h':=h2) b d)) rfl rfl I⟩
def Xh{x c:Str}{C m:Addr}{f:F3}{t:A3}{k n:Nat}{fd:FuncData}{ps:List Str}{o:Str->Str->Option Bool}{hs:List Hd}{h₀:ExceptHandler}{p:List ExceptHandler}(q:κ.cl c=some C)(r:zo f n)(M:Mk X.K C m)(s:FnOk X.prog X.w X.K X.mg X.base (XT X.prog X.w) k m fd ps (zn κ n f))(u:Room (k+1) X.A)(v:Gl X x)(y:X.mg x=some (.ref C))(z:Binds X.K fd ps [])
  (B:∀pn W,PA ((X.pinned pn).wish W) (e::es) (zI κ E0 t)) (b:X.stack=X.env::X.outer) (d:X.env.frame=some X.env.locals) (g:X.ex=[]) (hp:jN X (h₀::p) (trOf κ E o hs))
  (i:(x==("__debug__" :Str))=false:=by decide) (F:SE X e es:=by rfl) (j:(backTo cpos (starEach es X.env)).any (·.1)=false:=by rfl)
  (l:swapsWith (.Call (.Name x np) (e::es) [] cpos) none apos.line X.env=pure false:=by rfl):
  PS X (.Try [.Expr (.Call (.Name x np) (e::es) [] cpos) apos] (h₀::p) [] [] pos) (zu κ E (DG o c f t hs)):=
 qv (Uk (tb:=λ a D σ H=>FH C (zn κ n f) [] a (zI κ E0 t) σ H (λ _ H1=>D.nx σ H1)) b d g (λ pn σ₀ a=>JC (EZ (X:=(X.pinned pn).wish (FK X pn σ₀ a)) (Xf (X:=(X.pinned pn).wish (FK X pn σ₀ a)) M s u v y z .nil Ug (B pn _) i F j) l)) hp) λ D σ H h=>Xg q r h
end
end L3
namespace My
open PySem L2 L3
noncomputable def mtb:List (Str×Str×Bool):=[(("TooMany" :Str),("TooMany" :Str),true),(("TooMany" :Str),("Twice" :Str),false),(("Twice" :Str),("TooMany" :Str),false),(("Twice" :Str),("Twice" :Str),true),(("Twice" :Str),("YardError" :Str),true)]
def K8:D3:=(sSeq (sSet 2 (eOp zH (pE (eOp zO (pE (eOp zx (pV 0) (pE (eOp zO (kJ 7919) (pV 1))))) (kJ 48271))) (kJ 2147483647))) (sSeq (sSet 2 (eOp zH (pE (eOp zO (pV 2) (pV 2))) (kJ 2147483629))) (sRet (eOp zH (pE (eOp zx (pE (eOp zx (pE (eOp zO (pV 2) (pV 2))) (pE (eOp zO (kJ 16807) (pV 2))))) (kJ 11))) (kJ 2147483587)))))
def AQ:F3:=fun3 2 3 K8
def EE:zo AQ 2:=zB
def K9:D3:=(zA (qV (aCons (pE (eOp zH (pV 0) (kJ 6))) aNil)) (gN 3) (sSeq (sSet 4 (eOp Ke (pE (eOp oShr (pE (eOp ym (pV 0) (kJ 7680))) (pE (eOp zO (kJ 6) (pV 3))))) (kJ 63))) (sSeq (sIf (tE (eOp qq (pE (eOp zH (pE (eOp ym (pV 0) (kJ 3840))) (kJ 2))) (kJ 0))) (sSet 4 (eCall AQ (aCons (pV 0) (aCons (pE (eOp zx (kJ 20) (pV 3))) aNil)))) sSkip) (qI qN (pV 2) (aCons (pE (eTup (aCons (pE (eOp zO (pV 1) (pE (eOp zx (kJ 1) (pE (eOp zH (pV 4) (kJ 9))))))) (aCons (pE (eOp zH (pE (eOp ym (pV 4) (kJ 9))) (kJ 5))) aNil)))) aNil)))))
def KA:D3:=(sSeq (sSet 1 (eC (.int 1))) (sSeq (sIf (tE (eOp qq (pE (eOp zH (pE (eOp ym (pV 0) (kJ 60))) (kJ 8))) (kJ 1))) (sSet 1 (eOp zx (kJ 1) (pE (eOp zH (pE (eCall AQ (aCons (pV 0) (aCons (kJ 9) aNil)))) (kJ 90000))))) sSkip) (sSeq (sSet 2 (eLst aNil)) (sSeq K9 (sSeq (sSet 5 (eOp zx (kJ 1) (pE (eOp zH (pE (eOp ym (pV 0) (kJ 6))) (kJ 3))))) (sSeq (sIf (tE (eOp qq (pE (eOp zH (pE (eOp ym (pV 0) (kJ 480))) (kJ 8))) (kJ 1))) (sSet 5 (eC (.int 16))) sSkip) (sSeq (sFz 1) (sSeq (sFz 5) (sSeq (sFz 2) (sRet (eTup (aCons (pV 2) (aCons (pV 5) (aCons (pV 1) aNil))))))))))))))
def GL:F3:=fun3 1 6 KA
def Xi:zo GL 1:=zB
def IZ:D3:=(sSeq (sIf (tE (eOp jq (pV 1) (pE (eB bLen (aCons (pV 0) aNil))))) (sRet (eOp zr (pV 0) (pV 1))) sSkip) (sRet (eC (.int 0))))
def AR:F3:=fun3 2 2 IZ
def Ja:zo AR 2:=zB
def GM:E3:=(yJ 1 [2,0] (qV (aCons (kJ 7) aNil)) (gN 0) tTru (eOp zr (pV 1) (pE (eOp zH (pE (eCall AQ (aCons (pV 2) (aCons (pV 0) aNil)))) (kJ 36)))))
def GN:E3:=(yJ 1 [4,3] (qV (aCons (pV 1) aNil)) (gN 0) tTru (eOp zx (pV 1) (pE (j8 (pV 2) j7 (Qc (pV 0))))))
def KB:D3:=(zA (qV (aCons (pV 1) aNil)) (gN 7) (sSeq (sSet 8 (eOp zr (pV 2) (pE (eOp zH (pE (eOp zx (pV 0) (pE (eOp zO (kJ 7) (pV 7))))) (kJ 36))))) (qI qN (pV 6) (aCons (pE (eOp zx (pE (eOp zx (pE (eOp zx (pV 4) (pE (j8 (pV 3) j7 (Qc (pV 5)))))) (pV 8))) (pE (j8 (pV 3) (Qc (pE (eOp zx (pV 5) (kJ 1)))) j7)))) aNil))))
def KC:D3:=(sSeq (sSet 2 (eC (.str ("abcdefghijklmnopqrstuvwxyz0123456789" :Str)))) (sSeq (sSet 3 (IH (pE (eC (.str ("" :Str)))) (aCons (pE GM) aNil))) (sSeq (sSet 4 (eOp zr (pV 2) (pE (eOp zH (pE (eCall AQ (aCons (pV 0) (aCons (kJ 8) aNil)))) (kJ 26))))) (sSeq (sIf (tAnd3 (tE (eOp qq (pE (eOp zH (pV 0) (kJ 3))) (kJ 0))) (tE (eOp jq (pV 1) (kJ 9)))) (sSeq (sFz 3) (sRet GN)) sSkip) (sSeq (sSet 5 (eOp zH (pE (eOp ym (pV 0) (kJ 3))) (kJ 7))) (sSeq (sSet 6 (eLst aNil)) (sSeq KB (sRetS 6))))))))
def GO:F3:=fun3 2 9 KC
def Xj:zo GO 2:=zB
def KD:D3:=(zA (qV (aCons (pV 3) aNil)) (gN 7) (sSeq (sSet 8 (eCall AR (aCons (pV 0) (aCons (pE (eOp zx (kJ 4) (pV 7))) aNil)))) (sSeq (sIf (tE (eOp qq (pE (eOp zH (pE (eOp ym (pV 2) (kJ 1024))) (kJ 2))) (kJ 0))) (sSeq (sFz 8) (sSet 8 (eCall AQ (aCons (pV 8) (aCons (pV 7) aNil))))) sSkip) (sSeq (sSet 9 (eOp zx (pV 4) (pE (eOp zO (pV 1) (pE (eOp zH (pV 8) (kJ 17))))))) (sSeq (sSet 10 (eOp zV (pE (eOp zx (pV 9) (pE (eOp zO (pV 1) (pE (eOp zx (kJ 1) (pE (eOp zH (pE (eOp ym (pV 8) (kJ 17))) (kJ 11))))))))) (kJ 1))) (sSeq (sIf (tE (eOp qq (pE (eOp zH (pE (eOp ym (pV 8) (kJ 187))) (kJ 16))) (kJ 1))) (sSet 10 (eOp zV (pV 9) (kJ 1))) sSkip) (sSeq (sSet 11 (eOp zx (kJ 1) (pE (eOp zH (pE (eOp ym (pV 8) (kJ 3000))) (pE (eOp zr (pE (eLst (aCons (kJ 4) (aCons (kJ 12) (aCons (kJ 60) aNil))))) (pE (eOp zH (pE (eOp ym (pV 8) (kJ 180000))) (kJ 3))))))))) (sSeq (sSet 12 (eOp zx (kJ 1) (pE (eOp zH (pE (eOp ym (pV 8) (kJ 540000))) (pE (eOp zr (pE (eLst (aCons (kJ 1) (aCons (kJ 1) (aCons (kJ 3) (aCons (kJ 16) aNil)))))) (pE (eOp zH (pE (eOp ym (pV 8) (kJ 8640000))) (kJ 4))))))))) (sSeq (sFz 12) (sSeq (sFz 11) (sSeq (sFz 9) (qI qN (pV 6) (aCons (pE (eTup (aCons (pE (eOp zr (pV 5) (pV 7))) (aCons (pV 9) (aCons (pV 10) (aCons (pV 11) (aCons (pV 12) aNil))))))) aNil)))))))))))))
def KF:D3:=(sSeq (sSet 2 (eCall AR (aCons (pV 0) (aCons (kJ 1) aNil)))) (sSeq (sSet 3 (eOp zH (pV 2) (kJ 8))) (sSeq (sIf (tE (eOp qq (pE (eOp zH (pE (eOp ym (pV 2) (kJ 8))) (kJ 16))) (kJ 1))) (sSet 3 (eC (.int 12))) sSkip) (sSeq (sSet 4 (eC (.int 0))) (sSeq (sIf (tE (eOp qq (pE (eOp zH (pE (eOp ym (pV 2) (kJ 128))) (kJ 8))) (kJ 1))) (sSeq (sFz 2) (sSet 4 (eOp zH (pE (eCall AQ (aCons (pV 2) (aCons (kJ 10) aNil)))) (pE (eOp zO (kJ 9) (pE (eOp oPow (kJ 10) (kJ 8)))))))) sSkip) (sSeq (sSet 5 (eCall GO (aCons (pE (eCall AR (aCons (pV 0) (aCons (kJ 2) aNil)))) (aCons (pV 3) aNil)))) (sSeq (sSet 6 (eLst aNil)) (sSeq KD (sRetS 6)))))))))
def GP:F3:=fun3 2 13 KF
def Xk:zo GP 2:=zB
def Jb:E3:=(yJ 1 [] (iS (pV 0)) (gN 0) tTru (eOp (oInS false) (pV 0) (pE (eC (.str ("abcdefghijklmnopqrstuvwxyz0123456789" :Str))))))
def KG:D3:=(sSeq (sIf (tOr3 (tNot3 (tE (eB bIsT (aCons (pV 0) (aCons (pE (eC (.ty "str"))) aNil))))) (tNot3 (tE (eChain jD jD (kJ 1) (pE (eB bLen (aCons (pV 0) aNil))) (kJ 8))))) (sRet (eC (.bl false))) sSkip) (sRet (eAnd (eOp (oInS false) (pE (eOp zr (pV 0) (kJ 0))) (pE (eC (.str ("abcdefghijklmnopqrstuvwxyz" :Str))))) (eB (bAll λ bs=>bs.all id) (aCons (pE Jb) aNil)))))
def EF:F3:=fun3 1 1 KG
def Xl:zo EF 1:=zB
def KH:D3:=(sRet (eAnd (eB bIsT (aCons (pV 0) (aCons (pE (eC (.ty "int"))) aNil))) (eNot (eB bIsT (aCons (pV 0) (aCons (pE (eC (.ty "bool"))) aNil))))))
def GQ:F3:=fun3 1 1 KH
def Xm:zo GQ 1:=zB
def KJ:D3:=(sRet (eAnd (eCall GQ (aCons (pV 0) aNil)) (eChain jD jD (pV 1) (pV 0) (pV 2))))
def Qm:F3:=fun3 3 3 KJ
def DH:zo Qm 3:=zB
def KL:D3:=(sSeq (sIf (tOr3 (tNot3 (tE (eCall Qm (aCons (pV 0) (aCons (kJ 0) (aCons (kJ 1000000000) aNil)))))) (tNot3 (tE (eCall Qm (aCons (pV 1) (aCons (pE (eNeg (kJ 1))) (aCons (kJ 10000000000) aNil))))))) (sRet (eC (.bl false))) sSkip) (sRet (eAnd (eCall Qm (aCons (pV 2) (aCons (kJ 1) (aCons (kJ 60) aNil)))) (eCall Qm (aCons (pV 3) (aCons (kJ 1) (aCons (kJ 16) aNil)))))))
def EG:F3:=fun3 4 4 KL
def Xn:zo EG 4:=zB
def Jc:D3:=(zA (iL (pV 0)) (gT (gsCons (gN 2) (gsCons (gN 3) (gsCons (gN 4) (gsCons (gN 5) (gsCons (gN 6) gsNil)))))) (sSeq (sIf (tNot3 (tE (eCall EF (aCons (pV 2) aNil)))) sNever sSkip) (sSeq (sIf (tE (eOp (jW false) (pV 2) (pV 1))) (IY ("Twice" :Str) (aCons (pV 2) aNil)) sSkip) (sSeq (sIf (tNot3 (tE (eCall EG (aCons (pV 3) (aCons (pV 4) (aCons (pV 5) (aCons (pV 6) aNil))))))) sNever sSkip) (qI qN (pV 1) (aCons (pV 2) aNil))))))
def GR:D3:=(sSeq (sIf (tE (eOp Qd (pE (eB bLen (aCons (pV 0) aNil))) (kJ 12))) (K5 ("TooMany" :Str) (aCons (pE (eC (.str ("a load has at most 12 jobs" :Str)))) aNil)) sSkip) (sSeq (sSet 1 (eLst aNil)) (sSeq Jc (sRet (eC (.bl true))))))
def BG:F3:=fun3 1 7 GR
def Xo:zo BG 1:=zB
def KM:D3:=(sRet (eB bMax (aCons (kJ 0) (aCons (pE (eOp zx (pE (eOp zV (pE (eOp zr (pV 0) (kJ 2))) (pE (eOp zr (pV 0) (kJ 1))))) (kJ 1))) aNil))))
def GS:F3:=fun3 1 1 KM
def Xp:zo GS 1:=zB
def KN:D3:=(zA (iL (pE (ze [("Calendar" :Str)] ("stretches" :Str) (pV 0)))) (gT (gsCons (gN 5) (gsCons (gN 6) gsNil))) (sSeq (sAug 4 AE (pV 5)) (sIf (tE (eChain jq jD (pV 1) (pV 4) (pV 2))) (qI qN (pV 3) (aCons (pV 4) aNil)) sSkip)))
def KO:D3:=(sSeq (sSet 3 (eLst aNil)) (sSeq (sSet 4 (eC (.int 0))) (sSeq KN (sRetS 3))))
def GT:F3:=fun3 3 7 KO
def Xq:zo GT 3:=zB
def KP:D3:=(zA (iL (pV 0)) (gN 3) (sIf (tE (eOp Qd (pE (eCall GS (aCons (pV 3) aNil))) (kJ 0))) (sSeq (qI Qe (pV 2) (aCons (pE (eLst (aCons (pE (eOp zr (pV 3) (kJ 1))) (aCons (pE (eOp zx (pE (eOp zr (pV 3) (kJ 2))) (kJ 1))) aNil)))) aNil)) (qI Qe (pV 2) (aCons (pE (zM ("Calendar" :Str) ("changes" :Str) GT (pV 1) (aCons (pE (eOp zr (pV 3) (kJ 1))) (aCons (pE (eOp zr (pV 3) (kJ 2))) aNil)))) aNil))) sSkip))
def KQ:D3:=(sSeq (sSet 2 (eLst aNil)) (sSeq KP (sSeq (sFz 2) (sRet (eB EC (aCons (pV 2) aNil))))))
def GU:F3:=fun3 2 4 KQ
def Xr:zo GU 2:=zB
def Jd:E3:=(yJ 5 [1] (iL (pV 0)) (gT (gsCons (gN 0) (gsCons (gN 1) (gsCons (gN 2) (gsCons (gN 3) (gsCons (gN 4) gsNil)))))) tTru (eChain jD jD (pV 1) (pV 5) (pV 2)))
def KR:D3:=(sRet (eB (bAll λ bs=>bs.any id) (aCons (pE Jd) aNil)))
def GV:F3:=fun3 2 2 KR
def Xs:zo GV 2:=zB
def KS:D3:=(zA (iL (pE (ze [("Calendar" :Str)] ("stretches" :Str) (pV 0)))) (gT (gsCons (gN 3) (gsCons (gN 4) gsNil))) (sSeq (sAug 2 AE (pV 3)) (sIf (tE (eOp jq (pV 1) (pV 2))) (sRetS 4) sSkip)))
def KU:D3:=(sSeq (sSet 2 (eC (.int 0))) (sSeq KS (sRet (ze [("Calendar" :Str)] ("beyond" :Str) (pV 0)))))
def GW:F3:=fun3 2 5 KU
def Xu:zo GW 2:=zB
def KW:D3:=(zA (Kj (aCons (pV 3) (aCons (pE (j8 (pV 3) (Qc (kJ 1)) j7)) aNil))) (gT (gsCons (gN 4) (gsCons (gN 5) gsNil))) (sIf (tE (eCall GV (aCons (pV 0) (aCons (pV 4) aNil)))) (qI qN (pV 2) (aCons (pE (eTup (aCons (pV 4) (aCons (pE (eOp zV (pV 5) (kJ 1))) (aCons (pE (zM ("Calendar" :Str) ("at" :Str) GW (pV 1) (aCons (pV 4) aNil))) aNil))))) aNil)) sSkip))
def Je:D3:=(sSeq (sExp (eCall BG (aCons (pV 0) aNil))) (sSeq (sSet 2 (eLst aNil)) (sSeq (sSet 3 (eCall GU (aCons (pV 0) (aCons (pV 1) aNil)))) (sSeq (sFz 3) (sSeq KW (sRetS 2))))))
def AS:F3:=fun3 2 6 Je
def Po:zo AS 2:=zB
def Jf:D3:=(zA (iL (pV 1)) (gT (gsCons (gN 3) (gsCons (gN 4) (gsCons (gN 5) gsNil)))) (sSeq (sSet 2 (eB bMin (aCons (pV 2) (aCons (pE (eOp zV (pE (eOp AN (pE (eOp zr (pE (ze [("Flow" :Str)] ("most" :Str) (pV 0))) (pV 3))) (pV 4))) (pE (eOp zr (pE (eOp zr (pE (ze [("Flow" :Str)] ("shares" :Str) (pV 0))) (pV 3))) (pV 4))))) aNil)))) (sIf (tE (eOp (oIsN true) (pV 5) (pE (eC .non)))) (sSet 2 (eB bMin (aCons (pV 2) (aCons (pE (eOp zr (pE (eOp zr (pE (ze [("Flow" :Str)] ("shares" :Str) (pV 0))) (pV 3))) (pV 5))) aNil)))) sSkip)))
def Jg:D3:=(zA (iL (pV 1)) (gT (gsCons (gN 3) (gsCons (gN 4) (gsCons (gN 5) gsNil)))) (sSeq (j5 AE (pE (eOp zr (pE (ze [("Flow" :Str)] ("shares" :Str) (pV 0))) (pV 3))) (pV 4) (pV 2)) (sIf (tE (eOp (oIsN true) (pV 5) (pE (eC .non)))) (j5 zV (pE (eOp zr (pE (ze [("Flow" :Str)] ("shares" :Str) (pV 0))) (pV 3))) (pV 5) (pV 2)) sSkip)))
def KY:D3:=(sSeq (sSet 2 (eB bMin (aCons (pE (eOp zr (pE (ze [("Flow" :Str)] ("spare" :Str) (pV 0))) (pE (eOp zr (pE (eOp zr (pV 1) (kJ 0))) (kJ 1))))) (aCons (pE (eOp zr (pE (ze [("Flow" :Str)] ("missing" :Str) (pV 0))) (pE (eOp zr (pE (eOp zr (pV 1) (pE (eNeg (kJ 1))))) (kJ 0))))) aNil)))) (sSeq Jf (sSeq Jg (sSeq (j5 zV (pE (ze [("Flow" :Str)] ("spare" :Str) (pV 0))) (pE (eOp zr (pE (eOp zr (pV 1) (kJ 0))) (kJ 1))) (pV 2)) (j5 zV (pE (ze [("Flow" :Str)] ("missing" :Str) (pV 0))) (pE (eOp zr (pE (eOp zr (pV 1) (pE (eNeg (kJ 1))))) (kJ 0))) (pV 2))))))
def CF:F3:=fun3 2 6 KY
def Pp:zo CF 2:=zB
def GX:D3:=(zA (iDl (pV 2)) (gN 3) (sExp (zM ("Flow" :Str) ("shift" :Str) CF (pV 0) (aCons (pE (eLst (aCons (pE (eTup (aCons (pV 1) (aCons (pV 3) (aCons (pE (eC .non)) aNil))))) aNil))) aNil))))
def KZ:D3:=(zA (AG (aCons (pE (ze [("Flow" :Str)] ("most" :Str) (pV 0))) aNil)) (gT (gsCons (gN 1) (gsCons (gN 2) gsNil))) GX)
def La:D3:=KZ
def GY:F3:=fun3 1 4 La
def Xv:zo GY 1:=zB
def Lb:D3:=(zA (iL (pV 1)) (gN 2) (jL (pE (ze [("Reach" :Str)] ("cell_ahead" :Str) (pV 0))) (pV 2) (eC .non)))
def Lc:D3:=(sSeq (qE [("Reach" :Str)] ("job_ahead" :Str) (pV 0) (qh eDnT)) (sSeq (qE [("Reach" :Str)] ("cell_ahead" :Str) (pV 0) (qh eDnT)) Lb))
def GZ:F3:=fun3 2 3 Lc
def Xw:zo GZ 2:=zB
def Jh:E3:=(yJ 2 [1,0] (iI (pE (eOp zr (pE (ze [("Flow" :Str)] ("most" :Str) (pV 0))) (pV 1)))) (gT (gsCons (gN 0) (gsCons (gN 1) gsNil))) (tE (eOp jq (pE (eOp zr (pE (eOp zr (pE (ze [("Flow" :Str)] ("shares" :Str) (pV 3))) (pV 2))) (pV 0))) (pV 1))) (eV 0))
def Ld:D3:=(sRet Jh)
def EH:F3:=fun3 2 2 Ld
def Xx:zo EH 2:=zB
def Ji:E3:=(yJ 2 [1] (AG (aCons (pE (ze [("Flow" :Str)] ("shares" :Str) (pV 0))) aNil)) (gT (gsCons (gN 0) (gsCons (gN 1) gsNil))) (tE (eOp Qd (pE (eOp zr (pV 1) (pV 2))) (kJ 0))) (eV 0))
def Lf:D3:=(sRet Ji)
def Hu:F3:=fun3 2 2 Lf
def Xy:zo Hu 2:=zB
def Jj:E3:=(yJ 2 [] (AG (aCons (pE (ze [("Flow" :Str)] ("missing" :Str) (pV 0))) aNil)) (gT (gsCons (gN 0) (gsCons (gN 1) gsNil))) (tE (eOp Qd (pV 1) (kJ 0))) (eV 0))
def Hv:E3:=(yJ 1 [2] (iL (pE (zM ("Flow" :Str) ("jobs_behind" :Str) Hu (pV 0) (aCons (pV 4) aNil)))) (gN 0) (tE (eOp (oDIn true) (pV 0) (pE (ze [("Reach" :Str)] ("cell_ahead" :Str) (pV 1))))) (eV 0))
def Hw:D3:=(zA (iL (pV 5)) (gN 6) (jL (pE (ze [("Reach" :Str)] ("cell_ahead" :Str) (pV 2))) (pV 6) (eV 4)))
def Jk:D3:=(zA (iL (pE (zM ("Flow" :Str) ("cells_behind" :Str) EH (pV 0) (aCons (pV 3) aNil)))) (gN 4) (sIf (tE (eOp (oDIn true) (pV 4) (pE (ze [("Reach" :Str)] ("job_ahead" :Str) (pV 2))))) (sSeq (sFz 3) (sSeq (jL (pE (ze [("Reach" :Str)] ("job_ahead" :Str) (pV 2))) (pV 4) (eV 3)) (sSeq (sFz 2) (sSeq (sSet 5 Hv) (sSeq (sFz 5) (sSeq Hw (sSeq (sFz 5) (qI Qe (pV 1) (aCons (pV 5) aNil))))))))) sSkip))
def Lg:D3:=(AD (tP (pV 1)) (sSeq (IE 3 DZ (pV 1) (aCons (kJ 0) aNil)) (sSeq (sFz 3) Jk)))
def Lh:D3:=(sSeq (sSet 1 (qh Jj)) (sSeq (sSet 2 (yO ("Reach" :Str) GZ (aCons (pV 1) aNil))) (sSeq Lg (sRetS 2))))
def Hx:F3:=fun3 1 7 Lh
def Xz:zo Hx 1:=zB
def Li:D3:=(AD (tE (eOp (oIsN true) (pV 1) (pE (eC .non)))) (sSeq (sSet 3 (eOp AN (pE (ze [("Reach" :Str)] ("job_ahead" :Str) (pV 0))) (pV 1))) (sSeq (qI qN (pV 2) (aCons (pE (eTup (aCons (pV 3) (aCons (pV 1) (aCons (pE (eOp AN (pE (ze [("Reach" :Str)] ("cell_ahead" :Str) (pV 0))) (pV 3))) aNil))))) aNil)) (sSet 1 (eOp AN (pE (ze [("Reach" :Str)] ("cell_ahead" :Str) (pV 0))) (pV 3))))))
def Lj:D3:=(sSeq (sSet 2 (eLst aNil)) (sSeq Li (sRetS 2)))
def Hy:F3:=fun3 2 4 Lj
def X0:zo Hy 2:=zB
def Lk:D3:=(zA (iDl (pE (ze [("Reach" :Str)] ("job_ahead" :Str) (pV 1)))) (gN 2) (sIf (tE (eOp Qd (pE (eOp zr (pE (ze [("Flow" :Str)] ("spare" :Str) (pV 0))) (pV 2))) (kJ 0))) (sRet (zM ("Reach" :Str) ("steps_to" :Str) Hy (pV 1) (aCons (pV 2) aNil))) sSkip))
def Ll:D3:=(sSeq (sSet 1 (zM ("Flow" :Str) ("reached" :Str) Hx (pV 0) aNil)) (sSeq Lk (sRet (eLst aNil))))
def DI:F3:=fun3 1 3 Ll
def Pq:zo DI 1:=zB
def Lm:D3:=(AD (tP (pV 1)) (sSeq (sFz 1) (sSeq (sExp (zM ("Flow" :Str) ("shift" :Str) CF (pV 0) (aCons (pV 1) aNil))) (sSet 1 (zM ("Flow" :Str) ("steps_to_spare" :Str) DI (pV 0) aNil)))))
def Ln:D3:=(sSeq (sSet 1 (zM ("Flow" :Str) ("steps_to_spare" :Str) DI (pV 0) aNil)) Lm)
def Hz:F3:=fun3 1 2 Ln
def X2:zo Hz 1:=zB
def Jl:E3:=(yJ 2 [0] (AG (aCons (pV 1) aNil)) (gT (gsCons (gN 0) (gsCons (gN 1) gsNil))) (tAnd3 (tE (eOp jD (pE (eOp zr (pV 2) (kJ 1))) (pE (eOp zr (pV 1) (kJ 0))))) (tE (eOp jD (pE (eOp zr (pV 1) (kJ 1))) (pE (eOp zr (pV 2) (kJ 2)))))) (eV 0))
def Lo:D3:=(sRet Jl)
def HA:F3:=fun3 2 2 Lo
def X4:zo HA 2:=zB
def Lp:D3:=(zA (iL (pE (eCall HA (aCons (pV 0) (aCons (pV 1) aNil))))) (gN 3) (jL (pV 2) (pV 3) (eOp zO (pE (eOp zr (pV 0) (kJ 4))) (pE (eOp zx (pE (eOp zV (pE (eOp zr (pE (eOp zr (pV 1) (pV 3))) (kJ 1))) (pE (eOp zr (pE (eOp zr (pV 1) (pV 3))) (kJ 0))))) (kJ 1))))))
def Lq:D3:=(sSeq (sSet 2 eDnT) (sSeq Lp (sRetS 2)))
def HB:F3:=fun3 2 4 Lq
def X5:zo HB 2:=zB
def Jm:E3:=(yJ 1 [0] (iL (pE (ze [("Flow" :Str)] ("load" :Str) (pV 0)))) (gN 0) tTru (eCall HB (aCons (pV 0) (aCons (pE (ze [("Flow" :Str)] ("cells" :Str) (pV 1))) aNil))))
def Jn:E3:=(yJ 1 [0] (iL (pE (ze [("Flow" :Str)] ("load" :Str) (pV 0)))) (gN 0) tTru (qh (eOp zO (pE (eLst (aCons (kJ 0) aNil))) (pE (eB bLen (aCons (pE (ze [("Flow" :Str)] ("cells" :Str) (pV 1))) aNil))))))
def HC:E3:=(yJ 1 [] (iL (pE (ze [("Flow" :Str)] ("load" :Str) (pV 0)))) (gN 0) tTru (eOp zr (pV 0) (kJ 3)))
def HD:E3:=(yJ 3 [] (iL (pE (ze [("Flow" :Str)] ("cells" :Str) (pV 0)))) (gT (gsCons (gN 0) (gsCons (gN 1) (gsCons (gN 2) gsNil)))) tTru (eOp zO (pV 2) (pE (eOp zx (pE (eOp zV (pV 1) (pV 0))) (kJ 1)))))
def Jo:D3:=(sSeq (qE [("Flow" :Str)] ("cells" :Str) (pV 0) (eCall AS (aCons (pV 1) (aCons (pV 2) aNil)))) (sSeq (qE [("Flow" :Str)] ("load" :Str) (pV 0) (eB bList (aCons (pV 1) aNil))) (sSeq (qE [("Flow" :Str)] ("most" :Str) (pV 0) Jm) (sSeq (qE [("Flow" :Str)] ("shares" :Str) (pV 0) Jn) (sSeq (qE [("Flow" :Str)] ("missing" :Str) (pV 0) (qh HC)) (sSeq (qE [("Flow" :Str)] ("spare" :Str) (pV 0) (qh HD)) (sSeq (sExp (zM ("Flow" :Str) ("take_straight" :Str) GY (pV 0) aNil)) (sExp (zM ("Flow" :Str) ("take_by_ways" :Str) Hz (pV 0) aNil)))))))))
def j0:F3:=fun3 3 3 Jo
def Lr:zo j0 3:=zB
def Ls:D3:=(zA (iL (pV 0)) (gT (gsCons (gN 2) (gsCons (gN 3) gsNil))) (sIf (tAnd3 (tP (pV 1)) (tE (eOp qq (pE (eOp zr (pE (eOp zr (pV 1) (pE (eNeg (kJ 1))))) (kJ 1))) (pV 3)))) (IF (pV 1) (pE (eNeg (kJ 1))) (eTup (aCons (pE (eOp zx (pE (eOp zr (pE (eOp zr (pV 1) (pE (eNeg (kJ 1))))) (kJ 0))) (pV 2))) (aCons (pV 3) aNil)))) (qI qN (pV 1) (aCons (pE (eTup (aCons (pV 2) (aCons (pV 3) aNil)))) aNil))))
def Lu:D3:=(sSeq (sSet 1 (eLst aNil)) (sSeq Ls (sRetS 1)))
def HE:F3:=fun3 1 4 Lu
def X6:zo HE 1:=zB
def HF:D3:=(sSeq (sSet 2 (eCall HE (aCons (pV 0) aNil))) (sSeq (sIf (tAnd3 (tP (pV 2)) (tE (eOp qq (pE (eOp zr (pE (eOp zr (pV 2) (pE (eNeg (kJ 1))))) (kJ 1))) (pV 1)))) (qI mPop (pV 2) aNil) sSkip) (sRetS 2)))
def DJ:F3:=fun3 2 3 HF
def X7:zo DJ 2:=zB
def Lv:D3:=(sRet (eCall Qm (aCons (pV 0) (aCons (kJ 0) (aCons (kJ 16) aNil)))))
def HG:F3:=fun3 1 1 Lv
def X8:zo HG 1:=zB
def Lw:D3:=(sSeq (sIf (tOr3 (tNot3 (tE (eB bIsT (aCons (pV 0) (aCons (pE (eC (.ty "tuple"))) aNil))))) (tE (eOp yq (pE (eB bLen (aCons (pV 0) aNil))) (kJ 2)))) (sRet (eC (.bl false))) sSkip) (sRet (eAnd (eCall Qm (aCons (pE (eOp zr (pV 0) (kJ 0))) (aCons (kJ 1) (aCons (kJ 1000000) aNil)))) (eCall HG (aCons (pE (eOp zr (pV 0) (kJ 1))) aNil)))))
def HH:F3:=fun3 1 1 Lw
def X9:zo HH 1:=zB
def Jp:E3:=(yJ 1 [] (iL (pV 0)) (gN 0) tTru (eCall HH (aCons (pV 0) aNil)))
def Lx:D3:=(sSeq (sIf (tOr3 (tNot3 (tE (eB bIsT (aCons (pV 0) (aCons (pE (eC (.ty "list"))) aNil))))) (tE (eOp Qd (pE (eB bLen (aCons (pV 0) aNil))) (kJ 16)))) (sRet (eC (.bl false))) sSkip) (sRet (eB (bAll λ bs=>bs.all id) (aCons (pE Jp) aNil))))
def HI:F3:=fun3 1 1 Lx
def XA:zo HI 1:=zB
def Ly:D3:=(sRet (eCall Qm (aCons (pV 0) (aCons (kJ 1) (aCons (kJ 16) aNil)))))
def HJ:F3:=fun3 1 1 Ly
def XB:zo HJ 1:=zB
def Lz:D3:=(sSeq (sIf (tOr3 (tNot3 (tE (eCall HI (aCons (pV 1) aNil)))) (tNot3 (tE (eCall HJ (aCons (pV 2) aNil))))) sNever sSkip) (sSeq (qE [("Calendar" :Str)] ("stretches" :Str) (pV 0) (eCall DJ (aCons (pV 1) (aCons (pV 2) aNil)))) (qE [("Calendar" :Str)] ("beyond" :Str) (pV 0) (eV 2))))
def BH:F3:=fun3 3 3 Lz
def L0:zo BH 3:=zB
def L5:D3:=(sRet (eAnd (eB bIsT (aCons (pV 0) (aCons (pE (eC (.ty "int"))) aNil))) (eNot (eB bIsT (aCons (pV 0) (aCons (pE (eC (.ty "bool"))) aNil))))))
def jk:F3:=fun3 1 1 L5
def HK:zo jk 1:=zB
def L6:D3:=(sRet (eB bList (aCons (pE (ze [("Flow" :Str)] ("missing" :Str) (pV 0))) aNil)))
def Qo:F3:=fun3 1 1 L6
def L7:zo Qo 1:=zB
def L8:D3:=(sRet (eB zW (aCons (pE (eOp zr (pE (ze [("Flow" :Str)] ("shares" :Str) (pV 0))) (pV 1))) aNil)))
def CG:F3:=fun3 2 2 L8
def XC:zo CG 2:=zB
def L9:D3:=(sRet (eOp zr (pE (eOp zr (pE (ze [("Flow" :Str)] ("shares" :Str) (pV 0))) (pV 1))) (pV 2)))
def CH:F3:=fun3 3 3 L9
def Pr:zo CH 3:=zB
def HL:D3:=(sSeq (sIf (tOr3 (tNot3 (tE (eCall jk (aCons (pV 0) aNil)))) (tE (eOp jq (pV 0) (kJ 0)))) (sRet (eC (.bl false))) sSkip) (sSeq (sIf (tOr3 (tE (eOp jq (pE (eOp zr (pV 2) (kJ 0))) (pE (eOp zr (pV 1) (kJ 1))))) (tE (eOp Qd (pE (eOp zr (pV 2) (kJ 1))) (pE (eOp zr (pV 1) (kJ 2)))))) (sRet (eOp qq (pV 0) (kJ 0))) sSkip) (sRet (eOp jD (pV 0) (pE (eOp zO (pE (eOp zr (pV 1) (kJ 4))) (pE (eOp zx (pE (eOp zV (pE (eOp zr (pV 2) (kJ 1))) (pE (eOp zr (pV 2) (kJ 0))))) (kJ 1)))))))))
def AU:F3:=fun3 3 3 HL
def XE:zo AU 3:=zB
def HM:E3:=(yJ 1 [3,0] (qV (aCons (pE (eB bLen (aCons (pE (ze [("Flow" :Str)] ("cells" :Str) (pV 0))) aNil))) aNil)) (gN 0) tTru (zM ("Flow" :Str) ("share" :Str) CH (pV 2) (aCons (pV 1) (aCons (pV 0) aNil))))
def Jq:D3:=(zA (qV (aCons (pE (eB bLen (aCons (pV 4) aNil))) aNil)) (gN 5) (sIf (tNot3 (tE (eCall AU (aCons (pE (eOp zr (pV 4) (pV 5))) (aCons (pE (eOp zr (pV 1) (pV 3))) (aCons (pE (eOp zr (pE (ze [("Flow" :Str)] ("cells" :Str) (pV 0))) (pV 5))) aNil)))))) (sRet (eC (.bl false))) sSkip))
def LA:D3:=(zA (qV (aCons (pE (eB bLen (aCons (pV 1) aNil))) aNil)) (gN 3) (sSeq (sSet 4 HM) (sSeq Jq (sSeq (sSet 6 (zM ("Flow" :Str) ("work_done" :Str) CG (pV 0) (aCons (pV 3) aNil))) (sSeq (sFz 6) (sSeq (sIf (tOr3 (tNot3 (tE (eCall jk (aCons (pV 6) aNil)))) (tOr3 (tE (eOp yq (pV 6) (pE (eB zW (aCons (pV 4) aNil))))) (tOr3 (tNot3 (tE (eCall jk (aCons (pE (eOp zr (pV 2) (pV 3))) aNil)))) (tE (eOp jq (pE (eOp zr (pV 2) (pV 3))) (kJ 0)))))) (sRet (eC (.bl false))) sSkip) (sIf (tE (eOp yq (pE (eOp zx (pV 6) (pE (eOp zr (pV 2) (pV 3))))) (pE (eOp zr (pE (eOp zr (pV 1) (pV 3))) (kJ 3))))) (sRet (eC (.bl false))) sSkip)))))))
def LB:D3:=(sSeq (sSet 2 (zM ("Flow" :Str) ("lacking_by" :Str) Qo (pV 0) aNil)) (sSeq (sIf (tOr3 (tNot3 (tE (eB bIsT (aCons (pV 2) (aCons (pE (eC (.ty "list"))) aNil))))) (tE (eOp yq (pE (eB bLen (aCons (pV 2) aNil))) (pE (eB bLen (aCons (pV 1) aNil)))))) (sRet (eC (.bl false))) sSkip) (sSeq LA (sRet (eC (.bl true))))))
def DK:F3:=fun3 2 7 LB
def XF:zo DK 2:=zB
def Jr:E3:=(yJ 1 [1] (iL (pE (ze [("Flow" :Str)] ("shares" :Str) (pV 0)))) (gN 0) tTru (eOp zr (pV 0) (pV 1)))
def LC:D3:=(sRet (eB zW (aCons (pE Jr) aNil)))
def CI:F3:=fun3 2 2 LC
def XG:zo CI 2:=zB
def LD:D3:=(zA (iL (pV 0)) (gT (gsCons (gN 6) (gsCons (gN 7) gsNil))) (sSeq (sSet 4 (eOp zx (pV 4) (pE (eOp zO (pV 7) (pE (eB bMax (aCons (kJ 0) (aCons (pE (eOp zx (pE (eOp zV (pE (eB bMin (aCons (pV 3) (aCons (pE (eOp zV (pE (eOp zx (pV 5) (pV 6))) (kJ 1))) aNil)))) (pE (eB bMax (aCons (pV 2) (aCons (pV 5) aNil)))))) (kJ 1))) aNil)))))))) (sSet 5 (eOp zx (pV 5) (pV 6)))))
def LF:D3:=(sSeq (sSet 4 (eC (.int 0))) (sSeq (sSet 5 (eC (.int 0))) (sSeq LD (sRet (eOp zx (pV 4) (pE (eOp zO (pV 1) (pE (eB bMax (aCons (kJ 0) (aCons (pE (eOp zx (pE (eOp zV (pV 3) (pE (eB bMax (aCons (pV 2) (aCons (pV 5) aNil)))))) (kJ 1))) aNil)))))))))))
def CJ:F3:=fun3 4 8 LF
def XH:zo CJ 4:=zB
def DL:E3:=(yJ 1 [5,0] (qV (aCons (pE (eB bLen (aCons (pV 1) aNil))) aNil)) (gN 0) tTru (zM ("Flow" :Str) ("share" :Str) CH (pV 2) (aCons (pV 0) (aCons (pV 1) aNil))))
def LG:D3:=(zA (qV (aCons (pE (eB bLen (aCons (pE (ze [("Flow" :Str)] ("cells" :Str) (pV 0))) aNil))) aNil)) (gN 5) (sSeq (sAsg (gT (gsCons (gN 6) (gsCons (gN 7) (gsCons (gN 8) gsNil)))) (eOp zr (pE (ze [("Flow" :Str)] ("cells" :Str) (pV 0))) (pV 5))) (sSeq (sIf (tOr3 (tE (eOp jD (pV 6) (pV 4))) (tE (eOp jq (pV 7) (pV 6)))) (sRet (eC (.bl false))) sSkip) (sSeq (sIf (tE (eOp yq (pE (eOp zO (pV 8) (pE (eOp zx (pE (eOp zV (pV 7) (pV 6))) (kJ 1))))) (pE (eCall CJ (aCons (pV 2) (aCons (pV 3) (aCons (pV 6) (aCons (pV 7) aNil)))))))) (sRet (eC (.bl false))) sSkip) (sSeq (sSet 4 (eV 7)) (sSeq (sSet 9 (zM ("Flow" :Str) ("used" :Str) CI (pV 0) (aCons (pV 5) aNil))) (sSeq (sFz 9) (sSeq (sIf (tOr3 (tNot3 (tE (eCall jk (aCons (pV 9) aNil)))) (tE (eOp yq (pV 9) (pE (eB zW (aCons (pE DL) aNil)))))) (sRet (eC (.bl false))) sSkip) (sIf (tE (eOp Qd (pV 9) (pE (eOp zO (pV 8) (pE (eOp zx (pE (eOp zV (pV 7) (pV 6))) (kJ 1))))))) (sRet (eC (.bl false))) sSkip)))))))))
def LH:D3:=(sSeq (sSet 4 (eNeg (kJ 1))) (sSeq LG (sRet (eC (.bl true)))))
def DM:F3:=fun3 4 10 LH
def XJ:zo DM 4:=zB
def HN:D3:=(sSeq (sSet 2 (eC .non)) (sSeq (DG (mtL mtb) ("Flow" :Str) j0 (aCons (pE (eOp zx (pV 0) (pE (j8 (pV 0) j7 (Qc (kJ 1)))))) (aCons (pV 1) aNil)) [(("Twice" :Str),some 3,(sSet 2 (eXn ("Twice" :Str) (pV 3)))),(("TooMany" :Str),none,(sSet 2 (eC (.str ("too many" :Str)))))]) (sSeq (sIf (tE (eOp qq (pE (eB bLen (aCons (pV 0) aNil))) (kJ 12))) (sRet (eOp qq (pV 2) (pE (eC (.str ("too many" :Str)))))) sSkip) (sRet (eOp qq (pV 2) (pE (eOp zr (pE (eOp zr (pE (eOp zx (pV 0) (pE (eLst (aCons (pE (eTup (aCons (pE (eC .non)) (aCons (kJ 0) aNil)))) aNil))))) (kJ 0))) (kJ 0))))))))
def BI:F3:=fun3 2 4 HN
def XM:zo BI 2:=zB
def LI:D3:=(sRet (eB zW (aCons (pE (ze [("Flow" :Str)] ("missing" :Str) (pV 0))) aNil)))
def jY:F3:=fun3 1 1 LI
def LJ:zo jY 1:=zB
def LK:D3:=(sSeq (sAsg (gT (gsCons (gN 1) (gsCons (gN 2) (gsCons (gN 3) gsNil)))) (eCall GL (aCons (pE (eCall AR (aCons (pV 0) (aCons (kJ 0) aNil)))) aNil))) (sSeq (sSet 4 (eCall GP (aCons (pV 0) (aCons (pV 3) aNil)))) (sSeq (sSet 5 (qh (eB bList (aCons (pV 4) aNil)))) (sSeq (sSet 6 (yO ("Flow" :Str) j0 (aCons (pV 5) (aCons (pE (eObj (yO ("Calendar" :Str) BH (aCons (pE (eB bList (aCons (pV 1) aNil))) (aCons (pV 2) aNil))))) aNil)))) (sSeq (sIf (tE (eOp yq (pV 5) (pV 4))) (sRet (eC (.bl false))) sSkip) (sSeq (qI GE (pV 5) aNil) (sSeq (sSet 7 (yO ("Flow" :Str) j0 (aCons (pE (eLst (aCons (pE (eTup (aCons (pE (eC (.str ("q0" :Str)))) (aCons (kJ 0) (aCons (kJ 4) (aCons (kJ 3) (aCons (kJ 1) aNil))))))) (aCons (pE (eTup (aCons (pE (eC (.str ("q1" :Str)))) (aCons (kJ 2) (aCons (kJ 2) (aCons (kJ 2) (aCons (kJ 1) aNil))))))) aNil)))) (aCons (pE (eObj (yO ("Calendar" :Str) BH (aCons (pE (eLst aNil)) (aCons (kJ 1) aNil))))) aNil)))) (sSeq (sFz 4) (sSeq (sFz 6) (sSeq (sIf (tOr3 (tE (eOp yq (pE (ze [("Flow" :Str)] ("load" :Str) (pV 6))) (pV 4))) (tOr3 (tNot3 (tE (eCall DK (aCons (pV 6) (aCons (pV 4) aNil))))) (tNot3 (tE (eCall DM (aCons (pV 6) (aCons (pV 4) (aCons (pV 1) (aCons (pV 2) aNil))))))))) (sRet (eC (.bl false))) sSkip) (sSeq (sSet 8 (eObj (yO ("Calendar" :Str) BH (aCons (pE (eB bList (aCons (pV 1) aNil))) (aCons (pV 2) aNil))))) (sSeq (sFz 8) (sSeq (sFz 4) (sSeq (sIf (tOr3 (tE (eOp yq (pE (ze [("Flow" :Str)] ("cells" :Str) (pV 6))) (pE (eCall AS (aCons (pV 4) (aCons (pV 8) aNil)))))) (tNot3 (tE (eCall BI (aCons (pV 4) (aCons (pV 8) aNil)))))) (sRet (eC (.bl false))) sSkip) (sSeq (sIf (tOr3 (tE (eOp yq (pE (zM ("Flow" :Str) ("lacking_by" :Str) Qo (pV 7) aNil)) (pE (eLst (aCons (kJ 0) (aCons (kJ 1) aNil)))))) (tOr3 (tE (eOp yq (pE (zM ("Flow" :Str) ("lacking" :Str) jY (pV 7) aNil)) (kJ 1))) (tE (eOp yq (pE (eB bLen (aCons (pE (ze [("Flow" :Str)] ("load" :Str) (pV 7))) aNil))) (kJ 2))))) (sRet (eC (.bl false))) sSkip) (sRet (eAnd (eCall jk (aCons (pE (zM ("Flow" :Str) ("lacking" :Str) jY (pV 6) aNil)) aNil)) (eOp qq (pE (zM ("Flow" :Str) ("lacking" :Str) jY (pV 6) aNil)) (pE (eB zW (aCons (pE (zM ("Flow" :Str) ("lacking_by" :Str) Qo (pV 6) aNil)) aNil)))))))))))))))))))))
def f_law:F3:=fun3 1 9 LK
end My
namespace My
open PySem PySem.Spec PyProof.Rows L2 L3
noncomputable def zY(i:Nat):Stmt:=PySem.Challenge.pw_dueyard_k22_shares.main.body.getD i (.Pass ⟨0,0,0,0⟩)
abbrev Pt:Stmt:=zY 47
def o0:FnScope ["_law_cell","_law_k","_law_number"] ["_law_cell","_law_k"] (zC Pt):=zy
abbrev Pu:Stmt:=zY 49
def o1:FnScope ["_law_cell","_law_by","_law_rows_here","_law_k","_law_number","_law_rest"] ["_law_cell"] (zC Pu):=zy
abbrev Pv:Stmt:=zY 45
def o2:FnScope ["_law_script","_law_k"] ["_law_script","_law_k"] (zC Pv):=zy
abbrev Js:Stmt:=zY 48
def o3:FnScope ["_law_cell","_law_many","_law_signs","_law_base","_law_first","_law_at","_law_names_here","_law_k","_law_sign"] ["_law_cell","_law_many"] (zC Js):=zy
abbrev Pw:Stmt:=zY 50
def o4:FnScope ["_law_script","_law_by","_law_cell","_law_many","_law_far","_law_names_here","_law_load_here","_law_k","_law_number","_law_first","_law_last","_law_work","_law_breadth"] ["_law_script","_law_by"] (zC Pw):=zy
abbrev LL:Stmt:=zY 20
def o5:FnScope ["thing"] ["thing"] (zC LL):=zy
abbrev Px:Stmt:=zY 10
def o6:FnScope ["thing"] ["thing"] (zC Px):=zy
abbrev Py:Stmt:=zY 11
def o7:FnScope ["thing","low","high"] ["thing","low","high"] (zC Py):=zy
abbrev Pz:Stmt:=zY 21
def o8:FnScope ["first","last","work","breadth"] ["first","last","work","breadth"] (zC Pz):=zy
abbrev P0:Stmt:=zY 22
def o9:FnScope ["load","names","name","first","last","work","breadth"] ["load"] (zC P0):=zy
abbrev P4:Stmt:=zY 23
def XN:FnScope ["job"] ["job"] (zC P4):=zy
abbrev P5:Stmt:=ql (zY 43) 7
def EJ:FnScope ["self","first","last","told","stop","many","machines"] ["self","first","last"] (zC P5):=zy
abbrev P6:Stmt:=zY 26
def LM:FnScope ["load","calendar","told","job"] ["load","calendar"] (zC P6):=zy
abbrev LN:Stmt:=zY 25
def XO:FnScope ["load","turn"] ["load","turn"] (zC LN):=zy
abbrev P7:Stmt:=ql (zY 43) 3
def HP:FnScope ["self","turn","stop","many","machines"] ["self","turn"] (zC P7):=zy
abbrev P8:Stmt:=zY 27
def HQ:FnScope ["load","calendar","told","turns","start","stop"] ["load","calendar"] (zC P8):=zy
abbrev P9:Stmt:=ql (zY 32) 7
def AV:FnScope ["self","steps","by","job","taken","given"] ["self","steps"] (zC P9):=zy
abbrev PB:Stmt:=ql (zY 32) 1
def Jt:FnScope ["self","job","most","cell"] ["self"] (zC PB):=zy
abbrev PC:Stmt:=ql (zY 31) 0
def PD:FnScope ["self","lacking_jobs","job"] ["self","lacking_jobs"] (zC PC):=zy
abbrev LO:Stmt:=ql (zY 32) 5
def XQ:FnScope ["self","job"] ["self","job"] (zC LO):=zy
abbrev LP:Stmt:=ql (zY 32) 6
def XR:FnScope ["self","cell"] ["self","cell"] (zC LP):=zy
abbrev Ju:Stmt:=ql (zY 32) 4
def DN:FnScope ["self","waiting","reach","job","cell","fresh","other"] ["self"] (zC Ju):=zy
abbrev PF:Stmt:=ql (zY 31) 1
def Jv:FnScope ["self","cell","steps","job"] ["self","cell"] (zC PF):=zy
abbrev PH:Stmt:=ql (zY 32) 3
def LQ:FnScope ["self","reach","cell"] ["self"] (zC PH):=zy
abbrev PJ:Stmt:=ql (zY 32) 2
def LR:FnScope ["self","steps"] ["self"] (zC PJ):=zy
abbrev LS:Stmt:=zY 28
def XS:FnScope ["job","some"] ["job","some"] (zC LS):=zy
abbrev PK:Stmt:=zY 30
def LU:FnScope ["job","some","most","place"] ["job","some"] (zC PK):=zy
abbrev EK:Stmt:=ql (zY 32) 0
def XU:FnScope ["self","load","calendar"] ["self","load","calendar"] (zC EK):=zy
abbrev PL:Stmt:=zY 41
def Jw:FnScope ["rows","told","many","machines"] ["rows"] (zC PL):=zy
abbrev PM:Stmt:=zY 42
def PN:FnScope ["rows","rest","told"] ["rows","rest"] (zC PM):=zy
abbrev PP:Stmt:=zY 37
def XW:FnScope ["thing"] ["thing"] (zC PP):=zy
abbrev PQ:Stmt:=zY 39
def XX:FnScope ["thing"] ["thing"] (zC PQ):=zy
abbrev LV:Stmt:=zY 40
def XY:FnScope ["thing"] ["thing"] (zC LV):=zy
abbrev PR:Stmt:=zY 38
def XZ:FnScope ["thing"] ["thing"] (zC PR):=zy
abbrev PU:Stmt:=ql (zY 43) 0
def Ya:FnScope ["self","rows","rest"] ["self","rows","rest"] (zC PU):=zy
abbrev PV:Stmt:=zY 46
def Yb:FnScope ["_law_found"] ["_law_found"] (zC PV):=zy
abbrev PX:Stmt:=ql (zY 32) 11
def Yc:FnScope ["self"] ["self"] (zC PX):=zy
abbrev PY:Stmt:=ql (zY 32) 9
def Yd:FnScope ["self","job"] ["self","job"] (zC PY):=zy
abbrev PZ:Stmt:=ql (zY 32) 8
def Ye:FnScope ["self","job","cell"] ["self","job","cell"] (zC PZ):=zy
abbrev Qs:Stmt:=zY 52
def Yf:FnScope ["_law_share","_law_job","_law_cell"] ["_law_share","_law_job","_law_cell"] (zC Qs):=zy
abbrev LW:Stmt:=zY 53
def EL:FnScope ["_law_flow","_law_load_here","_law_lacks","_law_k","_law_shares","_law_j","_law_done"] ["_law_flow","_law_load_here"] (zC LW):=zy
abbrev LX:Stmt:=ql (zY 32) 10
def Yg:FnScope ["self","cell"] ["self","cell"] (zC LX):=zy
abbrev Qt:Stmt:=zY 51
def DO:FnScope ["_law_rows_here","_law_rest","_law_first","_law_last","_law_total","_law_begin","_law_many","_law_machines"] ["_law_rows_here","_law_rest","_law_first","_law_last"] (zC Qt):=zy
abbrev LY:Stmt:=zY 54
def CK:FnScope ["_law_flow","_law_load_here","_law_rows_here","_law_rest","_law_behind","_law_j","_law_first","_law_last","_law_machines","_law_used"] ["_law_flow","_law_load_here","_law_rows_here","_law_rest"] (zC LY):=zy
abbrev Qu:Stmt:=zY 55
def HR:FnScope ["_law_load_here","_law_calendar","_law_found","e"] ["_law_load_here","_law_calendar"] (zC Qu):=zy
abbrev Qv:Stmt:=ql (zY 32) 12
def Yh:FnScope ["self"] ["self"] (zC Qv):=zy
abbrev Qw:Stmt:=zY 56
def BJ:FnScope ["_law_script","_law_rows_here","_law_rest","_law_by","_law_load_here","_law_handed","_law_flow","_law_other","_law_calendar"] ["_law_script"] (zC Qw):=zy
abbrev Qx:Stmt:=ql (zY 7) 0
def Yi:FnScope ["self","name"] ["self","name"] (zC Qx):=zy
set_option genInjectivity false in
structure Txt(K:FG)(mg:Str->Option Value) where
 q0:Addr
 q1:FuncData
 q2:Dfn K mg "_law_mixed" Pt ["_law_cell","_law_k"] q0 q1
 q3:Addr
 q4:FuncData
 q5:Dfn K mg "_law_rows" Pu ["_law_cell"] q3 q4
 q6:Addr
 q7:FuncData
 q8:Dfn K mg "_law_cell_at" Pv ["_law_script","_law_k"] q6 q7
 q9:Addr
 q10:FuncData
 q11:Dfn K mg "_law_names" Js ["_law_cell","_law_many"] q9 q10
 q12:Addr
 q13:FuncData
 q14:Dfn K mg "_law_load" Pw ["_law_script","_law_by"] q12 q13
 q15:Addr
 q16:FuncData
 q17:Dfn K mg "is_name" LL ["thing"] q15 q16
 q18:Addr
 q19:FuncData
 q20:Dfn K mg "is_whole" Px ["thing"] q18 q19
 q21:Addr
 q22:FuncData
 q23:Dfn K mg "is_whole_between" Py ["thing","low","high"] q21 q22
 q24:Addr
 q25:FuncData
 q26:Dfn K mg "are_numbers_of_job" Pz ["first","last","work","breadth"] q24 q25
 q27:Addr
 q28:FuncData
 q29:Dfn K mg "check_load" P0 ["load"] q27 q28
 q30:Addr
 q31:FuncData
 q32:Dfn K mg "turns_of" P4 ["job"] q30 q31
 q33:Addr
 q34:FuncData
 q35:Dfn K mg "borders" P6 ["load","calendar"] q33 q34
 q36:Addr
 q37:FuncData
 q38:Dfn K mg "is_in_a_window" LN ["load","turn"] q36 q37
 q39:Addr
 q40:FuncData
 q41:Dfn K mg "cells" P8 ["load","calendar"] q39 q40
 q42:Addr
 q43:FuncData
 q44:Dfn K mg "cells_within" LS ["job","some"] q42 q43
 q45:Addr
 q46:FuncData
 q47:Dfn K mg "most_shares" PK ["job","some"] q45 q46
 q48:Addr
 q49:FuncData
 q50:Dfn K mg "neighbours_as_one" PL ["rows"] q48 q49
 q51:Addr
 q52:FuncData
 q53:Dfn K mg "kept_rows" PM ["rows","rest"] q51 q52
 q54:Addr
 q55:FuncData
 q56:Dfn K mg "is_machines" PP ["thing"] q54 q55
 q57:Addr
 q58:FuncData
 q59:Dfn K mg "is_calendar_row" PQ ["thing"] q57 q58
 q60:Addr
 q61:FuncData
 q62:Dfn K mg "are_calendar_rows" LV ["thing"] q60 q61
 q63:Addr
 q64:FuncData
 q65:Dfn K mg "is_rest" PR ["thing"] q63 q64
 q66:Addr
 q67:FuncData
 q68:Dfn K mg "_law_whole" PV ["_law_found"] q66 q67
 q69:Addr
 q70:FuncData
 q71:Dfn K mg "_law_share_right" Qs ["_law_share","_law_job","_law_cell"] q69 q70
 q72:Addr
 q73:FuncData
 q74:Dfn K mg "_law_jobs_right" LW ["_law_flow","_law_load_here"] q72 q73
 q75:Addr
 q76:FuncData
 q77:Dfn K mg "_law_over" Qt ["_law_rows_here","_law_rest","_law_first","_law_last"] q75 q76
 q78:Addr
 q79:FuncData
 q80:Dfn K mg "_law_cells_right" LY ["_law_flow","_law_load_here","_law_rows_here","_law_rest"] q78 q79
 q81:Addr
 q82:FuncData
 q83:Dfn K mg "_law_refused" Qu ["_law_load_here","_law_calendar"] q81 q82
 f_law:Addr
 fd_law:FuncData
 d_law:Dfn K mg "law" Qw ["_law_script"] f_law fd_law
 q84:Addr
 q85:Cls K q84
 q86:mg "Reach" =some (.ref q84)
 q87:Addr
 q88:FuncData
 q89:DfnM K "__init__" "Reach.__init__" PC ["self","lacking_jobs"] q87 q88
 q90:Addr
 q91:FuncData
 q92:DfnM K "steps_to" "Reach.steps_to" PF ["self","cell"] q90 q91
 q93:Meth K q84 "steps_to" q90
 q94:Mk K q84 q87
 q95:NoAttr K q84 "job_ahead"
 q96:NoAttr K q84 "cell_ahead"
 q97:Addr
 q98:Cls K q97
 q99:mg "Flow" =some (.ref q97)
 q100:Addr
 q101:FuncData
 q102:DfnM K "shift" "Flow.shift" P9 ["self","steps"] q100 q101
 q103:Meth K q97 "shift" q100
 q104:Addr
 q105:FuncData
 q106:DfnM K "take_straight" "Flow.take_straight" PB ["self"] q104 q105
 q107:Meth K q97 "take_straight" q104
 q108:Addr
 q109:FuncData
 q110:DfnM K "cells_behind" "Flow.cells_behind" LO ["self","job"] q108 q109
 q111:Meth K q97 "cells_behind" q108
 q112:Addr
 q113:FuncData
 q114:DfnM K "jobs_behind" "Flow.jobs_behind" LP ["self","cell"] q112 q113
 q115:Meth K q97 "jobs_behind" q112
 q116:Addr
 q117:FuncData
 q118:DfnM K "reached" "Flow.reached" Ju ["self"] q116 q117
 q119:Meth K q97 "reached" q116
 q120:Addr
 q121:FuncData
 q122:DfnM K "steps_to_spare" "Flow.steps_to_spare" PH ["self"] q120 q121
 q123:Meth K q97 "steps_to_spare" q120
 q124:Addr
 q125:FuncData
 q126:DfnM K "take_by_ways" "Flow.take_by_ways" PJ ["self"] q124 q125
 q127:Meth K q97 "take_by_ways" q124
 q128:Addr
 q129:FuncData
 q130:DfnM K "__init__" "Flow.__init__" EK ["self","load","calendar"] q128 q129
 q131:Addr
 q132:FuncData
 q133:DfnM K "lacking_by" "Flow.lacking_by" PX ["self"] q131 q132
 q134:Meth K q97 "lacking_by" q131
 q135:Addr
 q136:FuncData
 q137:DfnM K "work_done" "Flow.work_done" PY ["self","job"] q135 q136
 q138:Meth K q97 "work_done" q135
 q139:Addr
 q140:FuncData
 q141:DfnM K "share" "Flow.share" PZ ["self","job","cell"] q139 q140
 q142:Meth K q97 "share" q139
 q143:Addr
 q144:FuncData
 q145:DfnM K "used" "Flow.used" LX ["self","cell"] q143 q144
 q146:Meth K q97 "used" q143
 q147:Addr
 q148:FuncData
 q149:DfnM K "lacking" "Flow.lacking" Qv ["self"] q147 q148
 q150:Meth K q97 "lacking" q147
 q151:Mk K q97 q128
 q152:NoAttr K q97 "cells"
 q153:NoAttr K q97 "load"
 q154:NoAttr K q97 "most"
 q155:NoAttr K q97 "shares"
 q156:NoAttr K q97 "missing"
 q157:NoAttr K q97 "spare"
 q158:Addr
 q159:Cls K q158
 q160:mg "Calendar" =some (.ref q158)
 q161:Addr
 q162:FuncData
 q163:DfnM K "changes" "Calendar.changes" P5 ["self","first","last"] q161 q162
 q164:Meth K q158 "changes" q161
 q165:Addr
 q166:FuncData
 q167:DfnM K "at" "Calendar.at" P7 ["self","turn"] q165 q166
 q168:Meth K q158 "at" q165
 q169:Addr
 q170:FuncData
 q171:DfnM K "__init__" "Calendar.__init__" PU ["self","rows","rest"] q169 q170
 q172:Mk K q158 q169
 q173:NoAttr K q158 "stretches"
 q174:NoAttr K q158 "beyond"
 q175:Addr
 q176:mg "YardError" =some (.ref q175)
 q177:Addr
 q178:mg "TooMany" =some (.ref q177)
 q179:Addr
 q180:mg "Twice" =some (.ref q179)
 q181:XCl K mg "TooMany" q177
 q182:ExK K q177
 q183:Addr
 q184:FuncData
 q185:XI K q179 q183
 q186:CB K q175
 q187:Fun K "__init__" "Twice.__init__" Qx q183 q184
 q188:Binds K q184 ["self","name"] []
 q189:PySem.W.exmOne K (.ref q177) (.ref q177)=some true
 q190:PySem.W.kitOne K (.ref q177) (.ref q177)=some true
 q191:PySem.W.exmOne K (.ref q177) (.ref q179)=some false
 q192:PySem.W.kitOne K (.ref q177) (.ref q179)=some false
 q193:PySem.W.exmOne K (.ref q179) (.ref q177)=some false
 q194:PySem.W.kitOne K (.ref q179) (.ref q177)=some false
 q195:PySem.W.exmOne K (.ref q179) (.ref q179)=some true
 q196:PySem.W.kitOne K (.ref q179) (.ref q179)=some true
 q197:PySem.W.exmOne K (.ref q179) (.ref q175)=some true
 q198:PySem.W.kitOne K (.ref q179) (.ref q175)=some true
 q199:mg "all" =none
 q200:mg "any" =none
 q201:mg "bool" =none
 q202:mg "enumerate" =none
 q203:mg "int" =none
 q204:mg "isinstance" =none
 q205:mg "len" =none
 q206:mg "list" =none
 q207:mg "max" =none
 q208:mg "min" =none
 q209:mg "range" =none
 q210:mg "set" =none
 q211:mg "sorted" =none
 q212:mg "str" =none
 q213:mg "sum" =none
 q214:mg "tuple" =none
 q215:mg "zip" =none
 q216:Tok
 q217:mg "LAST_TURN" =some (.int 10000000000 q216)
 q218:Tok
 q219:mg "LETTERS" =some (.str ("abcdefghijklmnopqrstuvwxyz" :Str) q218)
 q220:Tok
 q221:mg "LETTERS_AND_FIGURES" =some (.str ("abcdefghijklmnopqrstuvwxyz0123456789" :Str) q220)
 q222:Tok
 q223:mg "MOST_SIGNS" =some (.int 8 q222)
 q224:Tok
 q225:mg "MOST_JOBS" =some (.int 12 q224)
 q226:Tok
 q227:mg "LATEST_FIRST" =some (.int 1000000000 q226)
 q228:Tok
 q229:mg "MOST_WORK" =some (.int 60 q228)
 q230:Tok
 q231:mg "MOST_BREADTH" =some (.int 16 q230)
 q232:Tok
 q233:mg "MOST_ROWS" =some (.int 16 q232)
 q234:Tok
 q235:mg "MOST_TURNS_OF_ROW" =some (.int 1000000 q234)
 q236:Tok
 q237:mg "MOST_MACHINES" =some (.int 16 q236)
noncomputable def kx{K:FG}{mg:Str->Option Value}(T:Txt K mg):Kx:=⟨K,λ c=>([(("Reach" :Str),T.q84),(("Flow" :Str),T.q97),(("Calendar" :Str),T.q158),(("YardError" :Str),T.q175),(("TooMany" :Str),T.q177),(("Twice" :Str),T.q179)]:List (Str×Addr)).lookup c⟩
def Qy{K:FG}{mg:Str->Option Value}(T:Txt K mg):MtL (kx T) mtb:=(MtL.cons rfl rfl T.q189 T.q190 T.q182 (MtL.cons rfl rfl T.q191 T.q192 T.q182 (MtL.cons rfl rfl T.q193 T.q194 T.q185.toExN.toExK (MtL.cons rfl rfl T.q195 T.q196 T.q185.toExN.toExK (MtL.cons rfl rfl T.q197 T.q198 T.q185.toExN.toExK MtL.nil)))))
section
variable{P:Program}{w:World}{K:FG}{mg:Str->Option Value}{base:Heap}
theorem Yj(T:Txt K mg):FnOk P w K mg base (XT P w) 1 T.q183 T.q184 ["self","name"] (K7 T.q179):=Xb (k:=0) (w0:=("two jobs have the name " :Str)) T.q185 T.q187 Yi (by decide+kernel) λ cdv A outer s H E a=>(MP (EZ (VF T.q186 (by rfl) T.q176 (JL (EY (i:=0) rfl (Or.inl rfl)) (JL (Xa MO (VE (EY (i:=1) rfl (Or.inl rfl)))) Nh)))) (JC (VG (EY (i:=0) rfl (Or.inl rfl)) (EY (i:=1) rfl (Or.inl rfl)))))
theorem EM(T:Txt K mg):FnOk P w K mg base (XT P w) 1 T.q0 T.q1 ["_law_cell","_law_k"] (zn (kx T) 2 AQ):=z9 T.q2.F o0 λ cdv A outer s H E a=>by unfold K8;exact (zm (zL 2 o0.nd (zq yT yU (zb (zq qJ qF (zb (zq yr yp (za 0) (zb (zq qJ qF zf (za 1))))) zf)) zf)) (zm (zL 2 o0.nd (zq yT yU (zb (zq qJ qF (za 2) (za 2))) zf)) (zp (zT (zq yT yU (zb (zq yr yp (zb (zq yr yp (zb (zq qJ qF (za 2) (za 2))) (zb (zq qJ qF zf (za 2))))) zf)) zf)))))
theorem Yk(T:Txt K mg):FnOk P w K mg base (XT P w) 2 T.q3 T.q4 ["_law_cell"] (zn (kx T) 1 GL):=z9 T.q5.F o1 λ cdv A outer s H E a=>by unfold KA K9;exact (zm (zL 1 o1.nd AB) (zm (yf (z7 jB (jx (yN a)) (zZ _) (zb (zq yT yU (zb (zq jm ji (za 0) zf)) zf)) zf) (zp (zL 1 o1.nd (zq yr yp zf (zb (zq yT yU (zb (yd EE (EM T) a T.q2 (zc (za 0) (zc zf zg)))) zf))))) yg) (zm (zL 2 o1.nd (qG zg)) (zm (qt (AF rfl T.q209 (zc (zb (zq yT yU (za 0) zf)) zg)) (yj 3 o1.nd) (zm (zL 4 o1.nd (zq Vc Sv (zb (zq Ve Su (zb (zq jm ji (za 0) zf)) (zb (zq qJ qF zf (za 3))))) zf)) (zm (yf (z7 jB (jx (yN a)) (zZ _) (zb (zq yT yU (zb (zq jm ji (za 0) zf)) zf)) zf) (zp (zL 4 o1.nd (yd EE (EM T) a T.q2 (zc (za 0) (zc (zb (zq yr yp zf (za 3))) zg))))) yg) (zp (Qf CC rfl Dm Dn AZ (za 2) (zc (zb (Qk (zc (zb (zq qJ qF (za 1) (zb (zq yr yp zf (zb (zq yT yU (za 4) zf)))))) (zc (zb (zq yT yU (zb (zq jm ji (za 4) zf)) zf)) zg)))) zg)))))) (zm (zL 5 o1.nd (zq yr yp zf (zb (zq yT yU (zb (zq jm ji (za 0) zf)) zf)))) (zm (yf (z7 jB (jx (yN a)) (zZ _) (zb (zq yT yU (zb (zq jm ji (za 0) zf)) zf)) zf) (zp (zL 5 o1.nd AB)) yg) (qk 1 (qk 5 (qk 2 (zp (zT (Qk (zc (za 2) (zc (za 5) (zc (za 1) zg)))))))))))))))
theorem Jx(T:Txt K mg):FnOk P w K mg base (XT P w) 1 T.q6 T.q7 ["_law_script","_law_k"] (zn (kx T) 2 AR):=z9 T.q8.F o2 λ cdv A outer s H E a=>by unfold IZ;exact (zm (yf (z7 BC AY (zZ _) (za 1) (zb (yi jy (jC rfl) T.q205 B8 (zc (za 0) zg)))) (zp (zT (CD (za 0) (za 1)))) yg) (zp (zT AB)))
theorem Yl(T:Txt K mg):FnOk P w K mg base (XT P w) 2 T.q9 T.q10 ["_law_cell","_law_many"] (zn (kx T) 2 GO):=z9 T.q11.F o3 λ cdv A outer s H E a=>by unfold KC KB GN GM;exact (zm (FR (i:=2) o3.nd rfl (Or.inr rfl) CT) (zm (FR (i:=3) o3.nd rfl (Or.inr rfl) (VD rfl (zb CT) (zc (zb (jM (loc:=["_law_j"]) (free:=["_law_signs","_law_cell"]) (fr:=[2,0]) rfl (qY (sc:=zC Js) (N:=(["_law_cell","_law_many","_law_signs","_law_base","_law_first","_law_at","_law_names_here","_law_k","_law_sign"]:List Str)) rfl rfl (by decide+kernel)) (AF rfl T.q209 (zc zf zg)) (λ _ _ _ _ _=>(zS 0 (["_law_j","_law_signs","_law_cell"]:List Str))) (λ _ _ _ _ _=>j2) (λ _ _ _ _ _=>(CD (za 1) (zb (zq yT yU (zb (Iw EE (EM T) (a.mono (by decide)) (by rfl) T.q2.g T.q2.F.kp T.q2.b FT (zc (za 2) (zc (za 0) zg)))) zf)))))) zg))) (zm (FR (i:=4) o3.nd rfl (Or.inr rfl) (CD (za 2) (zb (zq yT yU (zb (yd EE (EM T) a T.q2 (zc (za 0) (zc zf zg)))) zf)))) (zm (yf (PW.pt (Ip (z7 jB (jx (yN a)) (zZ _) (zb (zq yT yU (za 0) zf)) zf) (Io (z7 BC AY (zZ _) (za 1) zf)))) (qk 3 (zp (zT (jM (loc:=["_law_k"]) (free:=["_law_first","_law_base"]) (fr:=[4,3]) rfl (qY (sc:=zC Js) (N:=(["_law_cell","_law_many","_law_signs","_law_base","_law_first","_law_at","_law_names_here","_law_k","_law_sign"]:List Str)) rfl rfl (by decide+kernel)) (AF rfl T.q209 (zc (za 1) zg)) (λ _ _ _ _ _=>(zS 0 (["_law_k","_law_first","_law_base"]:List Str))) (λ _ _ _ _ _=>j2) (λ _ _ _ _ _=>(zq yr yp (za 1) (zb (r_sl rfl (za 2) GC (GD (za 0)))))))))) yg) (zm (zL 5 o3.nd (zq yT yU (zb (zq jm ji (za 0) zf)) zf)) (zm (zL 6 o3.nd (qG zg)) (zm (qt (AF rfl T.q209 (zc (za 1) zg)) (yj 7 o3.nd) (zm (zL 8 o3.nd (CD (za 2) (zb (zq yT yU (zb (zq yr yp (za 0) (zb (zq qJ qF zf (za 7))))) zf)))) (zp (Qf CC rfl Dm Dn AZ (za 6) (zc (zb (zq yr yp (zb (zq yr yp (zb (zq yr yp (za 4) (zb (r_sl rfl (za 3) GC (GD (za 5)))))) (za 8))) (zb (r_sl rfl (za 3) (GD (zb (zq yr yp (za 5) zf))) GC)))) zg))))) (zp (AC (pv 6))))))))))
theorem Ym(T:Txt K mg):FnOk P w K mg base (XT P w) 3 T.q12 T.q13 ["_law_script","_law_by"] (zn (kx T) 2 GP):=z9 T.q14.F o4 λ cdv A outer s H E a=>by unfold KF KD;exact (zm (zL 2 o4.nd (yd Ja (Jx T) a T.q8 (zc (za 0) (zc zf zg)))) (zm (zL 3 o4.nd (zq yT yU (za 2) zf)) (zm (yf (z7 jB (jx (yN a)) (zZ _) (zb (zq yT yU (zb (zq jm ji (za 2) zf)) zf)) zf) (zp (zL 3 o4.nd AB)) yg) (zm (zL 4 o4.nd AB) (zm (yf (z7 jB (jx (yN a)) (zZ _) (zb (zq yT yU (zb (zq jm ji (za 2) zf)) zf)) zf) (qk 2 (zp (zL 4 o4.nd (zq yT yU (zb (yd EE (EM T) a T.q2 (zc (za 2) (zc zf zg)))) (zb (zq qJ qF zf (zb (zq Vd Ss zf zf)))))))) yg) (zm (zL 5 o4.nd (yd Xj (Yl T) a T.q11 (zc (zb (yd Ja (Jx T) a T.q8 (zc (za 0) (zc zf zg)))) (zc (za 3) zg)))) (zm (zL 6 o4.nd (qG zg)) (zm (qt (AF rfl T.q209 (zc (za 3) zg)) (yj 7 o4.nd) (zm (zL 8 o4.nd (yd Ja (Jx T) a T.q8 (zc (za 0) (zc (zb (zq yr yp zf (za 7))) zg)))) (zm (yf (z7 jB (jx (yN a)) (zZ _) (zb (zq yT yU (zb (zq jm ji (za 2) zf)) zf)) zf) (qk 8 (zp (zL 8 o4.nd (yd EE (EM T) a T.q2 (zc (za 8) (zc (za 7) zg)))))) yg) (zm (zL 9 o4.nd (zq yr yp (za 4) (zb (zq qJ qF (za 1) (zb (zq yT yU (za 8) zf)))))) (zm (zL 10 o4.nd (zq jE jR (zb (zq yr yp (za 9) (zb (zq qJ qF (za 1) (zb (zq yr yp zf (zb (zq yT yU (zb (zq jm ji (za 8) zf)) zf)))))))) zf)) (zm (yf (z7 jB (jx (yN a)) (zZ _) (zb (zq yT yU (zb (zq jm ji (za 8) zf)) zf)) zf) (zp (zL 10 o4.nd (zq jE jR (za 9) zf))) yg) (zm (zL 11 o4.nd (zq yr yp zf (zb (zq yT yU (zb (zq jm ji (za 8) zf)) (zE (zb (qG (zc zf (zc zf (zc zf zg))))) (zb (zq yT yU (zb (zq jm ji (za 8) zf)) zf))))))) (zm (zL 12 o4.nd (zq yr yp zf (zb (zq yT yU (zb (zq jm ji (za 8) zf)) (zE (zb (qG (zc zf (zc zf (zc zf (zc zf zg)))))) (zb (zq yT yU (zb (zq jm ji (za 8) zf)) zf))))))) (qk 12 (qk 11 (qk 9 (zp (Qf CC rfl Dm Dn AZ (za 6) (zc (zb (Qk (zc (zE (za 5) (za 7)) (zc (za 9) (zc (za 10) (zc (za 11) (zc (za 12) zg))))))) zg)))))))))))))) (zp (AC (pv 6)))))))))))
theorem Yn(T:Txt K mg):FnOk P w K mg base (XT P w) 1 T.q15 T.q16 ["thing"] (zn (kx T) 1 EF):=z9 T.q17.F o5 λ cdv A outer s H E a=>by unfold KG Jb;exact (zm (yf (PW.pt (qR (qO (qM (yi BX (BY rfl) T.q204 Do (zc (za 0) (zc (zb (qj (BO (v:= .ty "str") (by rfl) T.q212 PyProof.Rows.boot_str rfl) λ _ _ _=>.ty _)) zg))))) (jG (qO (Ou Qq Qq Qn Qn zf (zb (yi jy (jC rfl) T.q205 B8 (zc (za 0) zg))) (zb (qj (Qa (v:= .int 8) (by rfl) T.q223 ⟨_,rfl⟩) λ _ _ _=>.int _))))))) (zp (zT yh)) yg) (zp (zT (CV (CU O2 MY (by with_unfolding_all rfl) (zE (za 0) zf) (zb (qj (Qa (v:= .str ("abcdefghijklmnopqrstuvwxyz" :Str)) (by rfl) T.q219 ⟨_,rfl⟩) λ _ _ _=>.str _))) (CW (yi Ki (Ol rfl rfl) T.q199 PyProof.Rows.boot_all (zc (zb (jM (loc:=["sign"]) (free:=[]) (fr:=[]) rfl (qY (sc:=zC LL) (N:=(["thing"]:List Str)) rfl rfl (by decide+kernel)) (V5 (za 0)) (λ _ _ _ _ _=>(zS 0 (["sign"]:List Str))) (λ _ _ _ _ _=>j2) (λ _ _ _ _ _=>(CU O2 MY (by with_unfolding_all rfl) (za 0) (zb (qj (Qa (v:= .str ("abcdefghijklmnopqrstuvwxyz0123456789" :Str)) (by rfl) T.q221 ⟨_,rfl⟩) λ _ _ _=>.str _)))))) zg)))))))
theorem Yo(T:Txt K mg):FnOk P w K mg base (XT P w) 1 T.q18 T.q19 ["thing"] (zn (kx T) 1 GQ):=z9 T.q20.F o6 λ cdv A outer s H E a=>by unfold KH;exact (zp (zT (CV (yi BX (BY rfl) T.q204 Do (zc (za 0) (zc (zb (qj (BO (v:= .ty "int") (by rfl) T.q203 PyProof.Rows.boot_int rfl) λ _ _ _=>.ty _)) zg))) (CW (NX (yi BX (BY rfl) T.q204 Do (zc (za 0) (zc (zb (qj (BO (v:= .ty "bool") (by rfl) T.q201 PyProof.Rows.boot_bool rfl) λ _ _ _=>.ty _)) zg))))))))
theorem DP(T:Txt K mg):FnOk P w K mg base (XT P w) 2 T.q21 T.q22 ["thing","low","high"] (zn (kx T) 3 Qm):=z9 T.q23.F o7 λ cdv A outer s H E a=>by unfold KJ;exact (zp (zT (CV (yd Xm (Yo T) a T.q20 (zc (za 0) zg)) (CW (Ot Qq Qq Qn Qn (za 1) (za 0) (za 2))))))
theorem Yp(T:Txt K mg):FnOk P w K mg base (XT P w) 3 T.q24 T.q25 ["first","last","work","breadth"] (zn (kx T) 4 EG):=z9 T.q26.F o8 λ cdv A outer s H E a=>by unfold KL;exact (zm (yf (PW.pt (qR (qO (qM (yd DH (DP T) a T.q23 (zc (za 0) (zc zf (zc (zb (qj (Qa (v:= .int 1000000000) (by rfl) T.q227 ⟨_,rfl⟩) λ _ _ _=>.int _)) zg)))))) (jG (qO (qM (yd DH (DP T) a T.q23 (zc (za 1) (zc (zb (CA zf)) (zc (zb (qj (Qa (v:= .int 10000000000) (by rfl) T.q217 ⟨_,rfl⟩) λ _ _ _=>.int _)) zg))))))))) (zp (zT yh)) yg) (zp (zT (CV (yd DH (DP T) a T.q23 (zc (za 2) (zc zf (zc (zb (qj (Qa (v:= .int 60) (by rfl) T.q229 ⟨_,rfl⟩) λ _ _ _=>.int _)) zg)))) (CW (yd DH (DP T) a T.q23 (zc (za 3) (zc zf (zc (zb (qj (Qa (v:= .int 16) (by rfl) T.q231 ⟨_,rfl⟩) λ _ _ _=>.int _)) zg)))))))))
theorem Yq(T:Txt K mg):FnOk P w K mg base (XT P w) 4 T.q27 T.q28 ["load"] (zn (kx T) 1 BG):=z9 T.q29.F o9 λ cdv A outer s H E a=>by unfold GR Jc;exact (zm (yf (z7 BW BP (zZ _) (zb (yi jy (jC rfl) T.q205 B8 (zc (za 0) zg))) (zb (qj (Qa (v:= .int 12) (by rfl) T.q225 ⟨_,rfl⟩) λ _ _ _=>.int _))) (zp (WS rfl T.q181 rfl (by rfl) TZ (zc (zb CT) zg))) yg) (zm (zL 1 o9.nd (qG zg)) (zm (qt (qC (za 0)) (qX (n:=5) (jZ rfl (yc (yj 2 o9.nd) (yc (yj 3 o9.nd) (yc (yj 4 o9.nd) (yc (yj 5 o9.nd) (yc (yj 6 o9.nd) qZ yb) yb) yb) yb) yb)) (ya (ya (ya (ya (ya je)))))) (zm (yf (qO (qM (yd Xl (Yn T) a T.q17 (zc (za 2) zg)))) (zp Kb) yg) (zm (yf (z7 V7 (VA rfl (yN a)) (by with_unfolding_all rfl) (za 2) (za 1)) (zp (Xd rfl T.q185 rfl (by rfl) T.q180 (Yj T) (a.mono (by decide)) T.q188 rfl WX (zc (za 2) zg))) yg) (zm (yf (qO (qM (yd Xn (Yp T) a T.q26 (zc (za 3) (zc (za 4) (zc (za 5) (zc (za 6) zg))))))) (zp Kb) yg) (zp (Qf CC rfl Dm Dn AZ (za 1) (zc (za 2) zg))))))) (zp (zT yh)))))
theorem Yr(T:Txt K mg):FnOk P w K mg base (XT P w) 1 T.q30 T.q31 ["job"] (zn (kx T) 1 GS):=z9 T.q32.F XN λ cdv A outer s H E a=>by unfold KM;exact (zp (zT (yi FW (FF rfl) T.q207 Fq (zc zf (zc (zb (zq yr yp (zb (zq jE jR (zE (za 0) zf) (zE (za 0) zf))) zf)) zg)))))
theorem Ys(T:Txt K mg):FnOk P w K mg base (XT P w) 1 T.q161 T.q162 ["self","first","last"] (zn (kx T) 3 GT):=z9 T.q163.F EJ λ cdv A outer s H E a=>by unfold KO KN;exact (zm (zL 3 EJ.nd (qG zg)) (zm (zL 4 EJ.nd AB) (zm (qt (qC (ye T.q159 T.q173 (za 0))) (qX (n:=2) (jZ rfl (yc (yj 5 EJ.nd) (yc (yj 6 EJ.nd) qZ yb) yb)) (ya (ya je))) (zm (O4 (i:=4) Kq (λ h=>MU EJ.nd rfl (Or.inl rfl) h JE) (za 5)) (zp (yf (Ou BC Qq AY Qn (za 1) (za 4) (za 2)) (zp (Qf CC rfl Dm Dn AZ (za 3) (zc (za 4) zg))) yg)))) (zp (AC (pv 3))))))
theorem Yt(T:Txt K mg):FnOk P w K mg base (XT P w) 2 T.q33 T.q34 ["load","calendar"] (zn (kx T) 2 GU):=z9 T.q35.F LM λ cdv A outer s H E a=>by unfold KQ KP;exact (zm (zL 2 LM.nd (qG zg)) (zm (qt (qC (za 0)) (yj 3 LM.nd) (zp (yf (z7 BW BP (zZ _) (zb (yd Xp (Yr T) a T.q32 (zc (za 3) zg))) zf) (zm (Qf Kn rfl Ho Hq JP (za 2) (zc (zb (qG (zc (zE (za 3) zf) (zc (zb (zq yr yp (zE (za 3) zf) zf)) zg)))) zg)) (zp (Qf Kn rfl Ho Hq JP (za 2) (zc (zb (BE Xq (za 1) T.q159 T.q164 (Ys T) a T.q163.b (zc (zE (za 3) zf) (zc (zE (za 3) zf) zg)))) zg)))) yg))) (qk 2 (zp (zT (WM rfl rfl (by rfl) T.q211 (by rfl) T.q210 (zc (za 2) zg)))))))
theorem Yu(T:Txt K mg):FnOk P w K mg base (XT P w) 1 T.q36 T.q37 ["load","turn"] (zn (kx T) 2 GV):=z9 T.q38.F XO λ cdv A outer s H E a=>by unfold KR Jd;exact (zp (zT (yi Ki (Vm rfl rfl) T.q200 PyProof.Rows.boot_any (zc (zb (jM (loc:=["name","first","last","work","breadth"]) (free:=["turn"]) (fr:=[1]) rfl (qY (sc:=zC LN) (N:=(["load","turn"]:List Str)) rfl rfl (by decide+kernel)) (qC (za 0)) (λ _ _ _ _ _=>(qX (n:=5) (pgT 5 rfl rfl (yc (zS 0 (["name","first","last","work","breadth","turn"]:List Str)) (yc (zS 1 (["name","first","last","work","breadth","turn"]:List Str)) (yc (zS 2 (["name","first","last","work","breadth","turn"]:List Str)) (yc (zS 3 (["name","first","last","work","breadth","turn"]:List Str)) (yc (zS 4 (["name","first","last","work","breadth","turn"]:List Str)) qZ yb) yb) yb) yb) yb)) (ya (ya (ya (ya (ya je))))))) (λ _ _ _ _ _=>j2) (λ _ _ _ _ _=>(Ot Qq Qq Qn Qn (za 1) (za 5) (za 2))))) zg))))
theorem Yv(T:Txt K mg):FnOk P w K mg base (XT P w) 1 T.q165 T.q166 ["self","turn"] (zn (kx T) 2 GW):=z9 T.q167.F HP λ cdv A outer s H E a=>by unfold KU KS;exact (zm (zL 2 HP.nd AB) (zm (qt (qC (ye T.q159 T.q173 (za 0))) (qX (n:=2) (jZ rfl (yc (yj 3 HP.nd) (yc (yj 4 HP.nd) qZ yb) yb)) (ya (ya je))) (zm (O4 (i:=2) Kq (λ h=>MU HP.nd rfl (Or.inl rfl) h JE) (za 3)) (zp (yf (z7 BC AY (zZ _) (za 1) (za 2)) (zp (AC (pv 4))) yg)))) (zp (zT (VU T.q159 T.q174 (za 0))))))
theorem Qz(T:Txt K mg):FnOk P w K mg base (XT P w) 5 T.q39 T.q40 ["load","calendar"] (zn (kx T) 2 AS):=z9 T.q41.F HQ λ cdv A outer s H E a=>by unfold Je KW;exact (zm (FS (yd Xo (Yq T) a T.q29 (zc (za 0) zg))) (zm (zL 2 HQ.nd (qG zg)) (zm (zL 3 HQ.nd (yd Xr (Yt T) a T.q35 (zc (za 0) (zc (za 1) zg)))) (qk 3 (zm (qt (Vr rfl rfl T.q215 (zc (za 3) (zc (zb (r_sl rfl (za 3) (GD zf) GC)) zg))) (qX (n:=2) (jZ rfl (yc (yj 4 HQ.nd) (yc (yj 5 HQ.nd) qZ yb) yb)) (ya (ya je))) (zp (yf (qM (yd Xs (Yu T) a T.q38 (zc (za 0) (zc (za 4) zg)))) (zp (Qf CC rfl Dm Dn AZ (za 2) (zc (zb (Qk (zc (za 4) (zc (zb (zq jE jR (za 5) zf)) (zc (zb (BE Xu (za 1) T.q159 T.q168 (Yv T) a T.q167.b (zc (za 4) zg))) zg))))) zg))) yg))) (zp (AC (pv 2))))))))
theorem Q0(T:Txt K mg):FnOk P w K mg base (XT P w) 1 T.q100 T.q101 ["self","steps"] (zn (kx T) 2 CF):=z9 T.q102.F AV λ cdv A outer s H E a=>by unfold KY Jg Jf;exact (zm (zL 2 AV.nd (yi IA (Ie rfl) T.q208 Gu (zc (zE (ye T.q98 T.q157 (za 0)) (zE (zE (za 1) zf) zf)) (zc (zE (ye T.q98 T.q156 (za 0)) (zE (zE (za 1) (zb (CA zf))) zf)) zg)))) (zm (qt (qC (za 1)) (qX (n:=3) (jZ rfl (yc (yj 3 AV.nd) (yc (yj 4 AV.nd) (yc (yj 5 AV.nd) qZ yb) yb) yb)) (ya (ya (ya je)))) (zm (zL 2 AV.nd (yi IA (Ie rfl) T.q208 Gu (zc (za 2) (zc (zb (zq jE jR (zb (IQ (hu1 a) (λ _ _=>rfl) (zE (ye T.q98 T.q154 (za 0)) (za 3)) (za 4))) (zE (zE (ye T.q98 T.q155 (za 0)) (za 3)) (za 4)))) zg)))) (zp (yf (z7 Kf JG (zZ _) (za 5) (zb CS)) (zp (zL 2 AV.nd (yi IA (Ie rfl) T.q208 Gu (zc (za 2) (zc (zE (zE (ye T.q98 T.q155 (za 0)) (za 3)) (za 5)) zg))))) yg)))) (zm (qt (qC (za 1)) (qX (n:=3) (jZ rfl (yc (yj 3 AV.nd) (yc (yj 4 AV.nd) (yc (yj 5 AV.nd) qZ yb) yb) yb)) (ya (ya (ya je)))) (zm (IU rfl Kq JE (zE (ye T.q98 T.q155 (za 0)) (za 3)) (za 4) (za 2)) (zp (yf (z7 Kf JG (zZ _) (za 5) (zb CS)) (zp (IU rfl Kr JF (zE (ye T.q98 T.q155 (za 0)) (za 3)) (za 5) (za 2))) yg)))) (zm (IU rfl Kr JF (ye T.q98 T.q157 (za 0)) (zE (zE (za 1) zf) zf) (za 2)) (zp (IU rfl Kr JF (ye T.q98 T.q156 (za 0)) (zE (zE (za 1) (zb (CA zf))) zf) (za 2)))))))
theorem Yw(T:Txt K mg):FnOk P w K mg base (XT P w) 2 T.q104 T.q105 ["self"] (zn (kx T) 1 GY):=z9 T.q106.F Jt λ cdv A outer s H E a=>by unfold La KZ GX;exact (zp (qt (IC rfl rfl T.q202 (zc (ye T.q98 T.q154 (za 0)) zg)) (qX (n:=2) (jZ rfl (yc (yj 1 Jt.nd) (yc (yj 2 Jt.nd) qZ yb) yb)) (ya (ya je))) (zp (qt (Pm (za 2)) (yj 3 Jt.nd) (zp (FS (BE Pp (za 0) T.q98 T.q103 (Q0 T) a T.q102.b (zc (zb (qG (zc (zb (Qk (zc (za 1) (zc (za 3) (zc (zb CS) zg))))) zg))) zg))))))))
theorem Yx(T:Txt K mg):FnOk P w K mg base (XT P w) 1 T.q87 T.q88 ["self","lacking_jobs"] (zn (kx T) 2 GZ):=z9 T.q89.F PD λ cdv A outer s H E a=>by unfold Lc Lb;exact (zm (AJ (Flds.cons rfl T.q85 T.q95 Flds.nil) (za 0) (r_gl Ky)) (zm (AJ (Flds.cons rfl T.q85 T.q96 Flds.nil) (za 0) (r_gl Ky)) (zp (qt (qC (za 1)) (yj 2 PD.nd) (zp (IT (hu1 a) CS (ye T.q85 T.q96 (za 0)) (za 2)))))))
theorem Yy(T:Txt K mg):FnOk P w K mg base (XT P w) 1 T.q108 T.q109 ["self","job"] (zn (kx T) 2 EH):=z9 T.q110.F XQ λ cdv A outer s H E a=>by unfold Ld Jh;exact (zp (zT (jM (loc:=["cell","most"]) (free:=["job","self"]) (fr:=[1,0]) rfl (qY (sc:=zC LO) (N:=(["self","job"]:List Str)) rfl rfl (by decide+kernel)) (WN (zE (ye T.q98 T.q154 (za 0)) (za 1))) (λ _ _ _ _ _=>(qX (n:=2) (pgT 2 rfl rfl (yc (zS 0 (["cell","most","job","self"]:List Str)) (yc (zS 1 (["cell","most","job","self"]:List Str)) qZ yb) yb)) (ya (ya je)))) (λ _ _ _ _ _=>(GB (z7 BC AY (zZ _) (zE (zE (ye T.q98 T.q155 (za 3)) (za 2)) (za 0)) (za 1)))) (λ _ _ _ _ _=>(r_v (pv 0))))))
theorem Yz(T:Txt K mg):FnOk P w K mg base (XT P w) 1 T.q112 T.q113 ["self","cell"] (zn (kx T) 2 Hu):=z9 T.q114.F XR λ cdv A outer s H E a=>by unfold Lf Ji;exact (zp (zT (jM (loc:=["job","shares"]) (free:=["cell"]) (fr:=[1]) rfl (qY (sc:=zC LP) (N:=(["self","cell"]:List Str)) rfl rfl (by decide+kernel)) (IC rfl rfl T.q202 (zc (ye T.q98 T.q155 (za 0)) zg)) (λ _ _ _ _ _=>(qX (n:=2) (pgT 2 rfl rfl (yc (zS 0 (["job","shares","cell"]:List Str)) (yc (zS 1 (["job","shares","cell"]:List Str)) qZ yb) yb)) (ya (ya je)))) (λ _ _ _ _ _=>(GB (z7 BW BP (zZ _) (zE (za 1) (za 2)) zf))) (λ _ _ _ _ _=>(r_v (pv 0))))))
theorem Y0(T:Txt K mg):FnOk P w K mg base (XT P w) 3 T.q116 T.q117 ["self"] (zn (kx T) 1 Hx):=z9 T.q118.F DN λ cdv A outer s H E a=>by unfold Lh Lg Jk Hw Hv Jj;exact (zm (Wo (i:=1) DN.nd rfl (by rfl) (loc:=["job","missing"]) (free:=[]) (fr:=[]) rfl (qY (sc:=zC Ju) (N:=(["self","waiting","reach","job","cell","fresh","other"]:List Str)) rfl rfl (by decide+kernel)) (IC rfl rfl T.q202 (zc (ye T.q98 T.q156 (za 0)) zg)) (λ _ _ _ _ _=>(qX (n:=2) (pgT 2 rfl rfl (yc (zS 0 (["job","missing"]:List Str)) (yc (zS 1 (["job","missing"]:List Str)) qZ yb) yb)) (ya (ya je)))) (λ _ _ _ _ _=>(GB (z7 BW BP (zZ _) (za 1) zf))) (λ _ _ _ _ _=>(r_v (pv 0)))) (zm (FR (i:=2) DN.nd rfl (Or.inr rfl) (EA rfl Xw T.q94 (Yx T) (a.mono (by decide)) (by rfl) T.q86 T.q89.b qL (zc (za 1) zg))) (zm (Kc Gk (IB rfl (za 1)) (zm (Vw (j:=3) Vy rfl PySem.F.slot_list_pop PySem.F.type_list_pop Tv DN.nd rfl (Or.inl rfl) (za 1) (zc zf zg)) (qk 3 (zp (qt (qC (zb (BE Xx (za 0) T.q98 T.q111 (Yy T) a T.q110.b (zc (za 3) zg)))) (yj 4 DN.nd) (zp (yf (z7 OR (OS (hu1 a)) (by with_unfolding_all rfl) (za 4) (ye T.q85 T.q95 (za 2))) (qk 3 (zm (IT (hu1 a) (r_v (pv 3)) (ye T.q85 T.q95 (za 2)) (za 4)) (qk 2 (zm (Oq (i:=5) DN.nd rfl (by rfl) (loc:=["other"]) (free:=["reach"]) (fr:=[2]) rfl (qY (sc:=zC Ju) (N:=(["self","waiting","reach","job","cell","fresh","other"]:List Str)) rfl rfl (by decide+kernel)) (qC (zb (BE Xy (za 0) T.q98 T.q115 (Yz T) a T.q114.b (zc (za 4) zg)))) (λ _ _ _ _ _=>(zS 0 (["other","reach"]:List Str))) (λ _ _ _ _ _=>(GB (z7 OR (OS (hu1 a)) (by with_unfolding_all rfl) (za 0) (ye T.q85 T.q96 (za 1))))) (λ _ _ _ _ _=>(r_v (pv 0)))) (qk 5 (zm (qt (qC (za 5)) (yj 6 DN.nd) (zp (IT (hu1 a) (r_v (pv 4)) (ye T.q85 T.q96 (za 2)) (za 6)))) (qk 5 (zp (Qf Kn rfl Ho Hq JP (za 1) (zc (za 5) zg)))))))))) yg))))))) (zp (AC (pv 2))))))
theorem Y1(T:Txt K mg):FnOk P w K mg base (XT P w) 1 T.q90 T.q91 ["self","cell"] (zn (kx T) 2 Hy):=z9 T.q92.F Jv λ cdv A outer s H E a=>by unfold Lj Li;exact (zm (zL 2 Jv.nd (qG zg)) (zm (Kc Gk (z7 Kf JG (zZ _) (za 1) (zb CS)) (zm (zL 3 Jv.nd (IQ (hu1 a) (λ _ _=>rfl) (ye T.q85 T.q95 (za 0)) (za 1))) (zm (Qf CC rfl Dm Dn AZ (za 2) (zc (zb (Qk (zc (za 3) (zc (za 1) (zc (zb (IQ (hu1 a) (λ _ _=>rfl) (ye T.q85 T.q96 (za 0)) (za 3))) zg))))) zg)) (zp (zL 1 Jv.nd (IQ (hu1 a) (λ _ _=>rfl) (ye T.q85 T.q96 (za 0)) (za 3))))))) (zp (AC (pv 2)))))
theorem Q1(T:Txt K mg):FnOk P w K mg base (XT P w) 4 T.q120 T.q121 ["self"] (zn (kx T) 1 DI):=z9 T.q122.F LQ λ cdv A outer s H E a=>by unfold Ll Lk;exact (zm (zL 1 LQ.nd (Qi rfl Xz (za 0) T.q98 T.q119 (Y0 T) (a.mono (by decide)) T.q118.b qL)) (zm (qt (Pm (ye T.q85 T.q95 (za 1))) (yj 2 LQ.nd) (zp (yf (z7 BW BP (zZ _) (zE (ye T.q98 T.q157 (za 0)) (za 2)) zf) (zp (zT (BE X0 (za 1) T.q85 T.q93 (Y1 T) a T.q92.b (zc (za 2) zg)))) yg))) (zp (zT (qG zg)))))
theorem Y2(T:Txt K mg):FnOk P w K mg base (XT P w) 5 T.q124 T.q125 ["self"] (zn (kx T) 1 Hz):=z9 T.q126.F LR λ cdv A outer s H E a=>by unfold Ln Lm;exact (zm (zL 1 LR.nd (Qi rfl Pq (za 0) T.q98 T.q123 (Q1 T) (a.mono (by decide)) T.q122.b qL)) (zp (Kc Gk (IB rfl (za 1)) (qk 1 (zm (FS (BE Pp (za 0) T.q98 T.q103 (Q0 T) a T.q102.b (zc (za 1) zg))) (zp (zL 1 LR.nd (Qi rfl Pq (za 0) T.q98 T.q123 (Q1 T) (a.mono (by decide)) T.q122.b qL))))))))
theorem Y3(T:Txt K mg):FnOk P w K mg base (XT P w) 1 T.q42 T.q43 ["job","some"] (zn (kx T) 2 HA):=z9 T.q44.F XS λ cdv A outer s H E a=>by unfold Lo Jl;exact (zp (zT (jM (loc:=["place","cell"]) (free:=["job"]) (fr:=[0]) rfl (qY (sc:=zC LS) (N:=(["job","some"]:List Str)) rfl rfl (by decide+kernel)) (IC rfl rfl T.q202 (zc (za 1) zg)) (λ _ _ _ _ _=>(qX (n:=2) (pgT 2 rfl rfl (yc (zS 0 (["place","cell","job"]:List Str)) (yc (zS 1 (["place","cell","job"]:List Str)) qZ yb) yb)) (ya (ya je)))) (λ _ _ _ _ _=>(GB (PW.pt (Ip (z7 Qq Qn (zZ _) (zE (za 2) zf) (zE (za 1) zf)) (Io (z7 Qq Qn (zZ _) (zE (za 1) zf) (zE (za 2) zf))))))) (λ _ _ _ _ _=>(r_v (pv 0))))))
theorem Y4(T:Txt K mg):FnOk P w K mg base (XT P w) 2 T.q45 T.q46 ["job","some"] (zn (kx T) 2 HB):=z9 T.q47.F LU λ cdv A outer s H E a=>by unfold Lq Lp;exact (zm (zL 2 LU.nd Ky) (zm (qt (qC (zb (yd X4 (Y3 T) a T.q44 (zc (za 0) (zc (za 1) zg))))) (yj 3 LU.nd) (zp (IT (hu1 a) (zq qJ qF (zE (za 0) zf) (zb (zq yr yp (zb (zq jE jR (zE (zE (za 1) (za 3)) zf) (zE (zE (za 1) (za 3)) zf))) zf))) (za 2) (za 3)))) (zp (AC (pv 2)))))
theorem LZ(T:Txt K mg):FnOk P w K mg base (XT P w) 6 T.q128 T.q129 ["self","load","calendar"] (zn (kx T) 3 j0):=z9 T.q130.F XU λ cdv A outer s H E a=>by unfold Jo HD HC Jn Jm;exact (zm (AJ (Flds.cons rfl T.q98 T.q152 Flds.nil) (za 0) (yd Po (Qz T) a T.q41 (zc (za 1) (zc (za 2) zg)))) (zm (AJ (Flds.cons rfl T.q98 T.q153 Flds.nil) (za 0) (r_ty FX (FZ rfl) (by rfl) T.q206 D4 (zc (za 1) zg))) (zm (AJ (Flds.cons rfl T.q98 T.q154 Flds.nil) (za 0) (jM (loc:=["job"]) (free:=["self"]) (fr:=[0]) rfl (qY (sc:=zC EK) (N:=(["self","load","calendar"]:List Str)) rfl rfl (by decide+kernel)) (qC (ye T.q98 T.q153 (za 0))) (λ _ _ _ _ _=>(zS 0 (["job","self"]:List Str))) (λ _ _ _ _ _=>j2) (λ _ _ _ _ _=>(Iw X5 (Y4 T) (a.mono (by decide)) (by rfl) T.q47.g T.q47.F.kp T.q47.b FT (zc (za 0) (zc (ye T.q98 T.q152 (za 1)) zg)))))) (zm (AJ (Flds.cons rfl T.q98 T.q155 Flds.nil) (za 0) (jM (loc:=["job"]) (free:=["self"]) (fr:=[0]) rfl (qY (sc:=zC EK) (N:=(["self","load","calendar"]:List Str)) rfl rfl (by decide+kernel)) (qC (ye T.q98 T.q153 (za 0))) (λ _ _ _ _ _=>(zS 0 (["job","self"]:List Str))) (λ _ _ _ _ _=>j2) (λ _ _ _ _ _=>(r_gl (zq qJ qF (zb (qG (zc zf zg))) (zb (yi jy (jC rfl) T.q205 B8 (zc (ye T.q98 T.q152 (za 1)) zg)))))))) (zm (AJ (Flds.cons rfl T.q98 T.q156 Flds.nil) (za 0) (r_gl (jM (loc:=["job"]) (free:=[]) (fr:=[]) rfl (qY (sc:=zC EK) (N:=(["self","load","calendar"]:List Str)) rfl rfl (by decide+kernel)) (qC (ye T.q98 T.q153 (za 0))) (λ _ _ _ _ _=>(zS 0 (["job"]:List Str))) (λ _ _ _ _ _=>j2) (λ _ _ _ _ _=>(CD (za 0) zf))))) (zm (AJ (Flds.cons rfl T.q98 T.q157 Flds.nil) (za 0) (r_gl (jM (loc:=["first","last","machines"]) (free:=[]) (fr:=[]) rfl (qY (sc:=zC EK) (N:=(["self","load","calendar"]:List Str)) rfl rfl (by decide+kernel)) (qC (ye T.q98 T.q152 (za 0))) (λ _ _ _ _ _=>(qX (n:=3) (pgT 3 rfl rfl (yc (zS 0 (["first","last","machines"]:List Str)) (yc (zS 1 (["first","last","machines"]:List Str)) (yc (zS 2 (["first","last","machines"]:List Str)) qZ yb) yb) yb)) (ya (ya (ya je))))) (λ _ _ _ _ _=>j2) (λ _ _ _ _ _=>(zq qJ qF (za 2) (zb (zq yr yp (zb (zq jE jR (za 1) (za 0))) zf))))))) (zm (FS (Qi rfl Xv (za 0) T.q98 T.q107 (Yw T) (a.mono (by decide)) T.q106.b qL)) (zp (FS (Qi rfl X2 (za 0) T.q98 T.q127 (Y2 T) (a.mono (by decide)) T.q126.b qL))))))))))
theorem Y5(T:Txt K mg):FnOk P w K mg base (XT P w) 1 T.q48 T.q49 ["rows"] (zn (kx T) 1 HE):=z9 T.q50.F Jw λ cdv A outer s H E d=>by unfold Lu Ls;exact (zm (zL 1 Jw.nd (qG zg)) (zm (qt (qC (za 0)) (qX (n:=2) (jZ rfl (yc (yj 2 Jw.nd) (yc (yj 3 Jw.nd) qZ yb) yb)) (ya (ya je))) (zp (yf (PW.pt (Ip (IB rfl (za 1)) (Io (z7 jB (jx (yN d)) (zZ _) (zE (zE (za 1) (zb (CA zf))) zf) (za 3))))) (zp (V1 (Qk (zc (zb (zq yr yp (zE (zE (za 1) (zb (CA zf))) zf) (za 2))) (zc (za 3) zg))) (za 1) (zb (CA zf)) λ a b c=>JD a (Sa b c Nq))) (zp (Qf CC rfl Dm Dn AZ (za 1) (zc (zb (Qk (zc (za 2) (zc (za 3) zg)))) zg)))))) (zp (AC (pv 1)))))
theorem Y6(T:Txt K mg):FnOk P w K mg base (XT P w) 2 T.q51 T.q52 ["rows","rest"] (zn (kx T) 2 DJ):=z9 T.q53.F PN λ cdv A outer s H E a=>by unfold HF;exact (zm (zL 2 PN.nd (yd X6 (Y5 T) a T.q50 (zc (za 0) zg))) (zm (yf (PW.pt (Ip (IB rfl (za 2)) (Io (z7 jB (jx (yN a)) (zZ _) (zE (zE (za 2) (zb (CA zf))) zf) (za 1))))) (zp (Ow Vx rfl PySem.F.slot_list_pop PySem.F.type_list_pop Tu (za 2))) yg) (zp (AC (pv 2)))))
theorem Y7(T:Txt K mg):FnOk P w K mg base (XT P w) 3 T.q54 T.q55 ["thing"] (zn (kx T) 1 HG):=z9 T.q56.F XW λ cdv A outer s H E a=>by unfold Lv;exact (zp (zT (yd DH (DP T) a T.q23 (zc (za 0) (zc zf (zc (zb (qj (Qa (v:= .int 16) (by rfl) T.q237 ⟨_,rfl⟩) λ _ _ _=>.int _)) zg))))))
theorem Y8(T:Txt K mg):FnOk P w K mg base (XT P w) 4 T.q57 T.q58 ["thing"] (zn (kx T) 1 HH):=z9 T.q59.F XX λ cdv A outer s H E a=>by unfold Lw;exact (zm (yf (PW.pt (qR (qO (qM (yi BX (BY rfl) T.q204 Do (zc (za 0) (zc (zb (qj (BO (v:= .ty "tuple") (by rfl) T.q214 PyProof.Rows.boot_tuple rfl) λ _ _ _=>.ty _)) zg))))) (jG (z7 Qb (j3 (yN a)) (zZ _) (zb (yi jy (jC rfl) T.q205 B8 (zc (za 0) zg))) zf)))) (zp (zT yh)) yg) (zp (zT (CV (yd DH (DP T) a T.q23 (zc (zE (za 0) zf) (zc zf (zc (zb (qj (Qa (v:= .int 1000000) (by rfl) T.q235 ⟨_,rfl⟩) λ _ _ _=>.int _)) zg)))) (CW (yd X8 (Y7 T) a T.q56 (zc (zE (za 0) zf) zg)))))))
theorem Y9(T:Txt K mg):FnOk P w K mg base (XT P w) 5 T.q60 T.q61 ["thing"] (zn (kx T) 1 HI):=z9 T.q62.F XY λ cdv A outer s H E a=>by unfold Lx Jp;exact (zm (yf (PW.pt (qR (qO (qM (yi BX (BY rfl) T.q204 Do (zc (za 0) (zc (zb (qj (BO (v:= .ty "list") (by rfl) T.q206 D4 rfl) λ _ _ _=>.ty _)) zg))))) (jG (z7 BW BP (zZ _) (zb (yi jy (jC rfl) T.q205 B8 (zc (za 0) zg))) (zb (qj (Qa (v:= .int 16) (by rfl) T.q233 ⟨_,rfl⟩) λ _ _ _=>.int _)))))) (zp (zT yh)) yg) (zp (zT (yi Ki (Ol rfl rfl) T.q199 PyProof.Rows.boot_all (zc (zb (jM (loc:=["row"]) (free:=[]) (fr:=[]) rfl (qY (sc:=zC LV) (N:=(["thing"]:List Str)) rfl rfl (by decide+kernel)) (qC (za 0)) (λ _ _ _ _ _=>(zS 0 (["row"]:List Str))) (λ _ _ _ _ _=>j2) (λ _ _ _ _ _=>(Iw X9 (Y8 T) (a.mono (by decide)) (by rfl) T.q59.g T.q59.F.kp T.q59.b FT (zc (za 0) zg))))) zg)))))
theorem YA(T:Txt K mg):FnOk P w K mg base (XT P w) 3 T.q63 T.q64 ["thing"] (zn (kx T) 1 HJ):=z9 T.q65.F XZ λ cdv A outer s H E a=>by unfold Ly;exact (zp (zT (yd DH (DP T) a T.q23 (zc (za 0) (zc zf (zc (zb (qj (Qa (v:= .int 16) (by rfl) T.q237 ⟨_,rfl⟩) λ _ _ _=>.int _)) zg))))))
theorem Ma(T:Txt K mg):FnOk P w K mg base (XT P w) 6 T.q169 T.q170 ["self","rows","rest"] (zn (kx T) 3 BH):=z9 T.q171.F Ya λ cdv A outer s H E a=>by unfold Lz;exact (zm (yf (PW.pt (qR (qO (qM (yd XA (Y9 T) a T.q62 (zc (za 1) zg)))) (jG (qO (qM (yd XB (YA T) a T.q65 (zc (za 2) zg))))))) (zp Kb) yg) (zm (AJ (Flds.cons rfl T.q159 T.q173 Flds.nil) (za 0) (yd X7 (Y6 T) a T.q53 (zc (za 1) (zc (za 2) zg)))) (zp (AJ (Flds.cons rfl T.q159 T.q174 Flds.nil) (za 0) (r_v (pv 2))))))
theorem HS(T:Txt K mg):FnOk P w K mg base (XT P w) 1 T.q66 T.q67 ["_law_found"] (zn (kx T) 1 jk):=z9 T.q68.F Yb λ cdv A outer s H E a=>by unfold L5;exact (zp (zT (CV (yi BX (BY rfl) T.q204 Do (zc (za 0) (zc (zb (qj (BO (v:= .ty "int") (by rfl) T.q203 PyProof.Rows.boot_int rfl) λ _ _ _=>.ty _)) zg))) (CW (NX (yi BX (BY rfl) T.q204 Do (zc (za 0) (zc (zb (qj (BO (v:= .ty "bool") (by rfl) T.q201 PyProof.Rows.boot_bool rfl) λ _ _ _=>.ty _)) zg))))))))
theorem Mb(T:Txt K mg):FnOk P w K mg base (XT P w) 1 T.q131 T.q132 ["self"] (zn (kx T) 1 Qo):=z9 T.q133.F Yc λ cdv A outer s H E a=>by unfold L6;exact (zp (zT (r_ty FX (FZ rfl) (by rfl) T.q206 D4 (zc (ye T.q98 T.q156 (za 0)) zg))))
theorem YB(T:Txt K mg):FnOk P w K mg base (XT P w) 1 T.q135 T.q136 ["self","job"] (zn (kx T) 2 CG):=z9 T.q137.F Yd λ cdv A outer s H E a=>by unfold L8;exact (zp (zT (yi DX (DY rfl rfl) T.q213 Es (zc (zE (ye T.q98 T.q155 (za 0)) (za 1)) zg))))
theorem Q3(T:Txt K mg):FnOk P w K mg base (XT P w) 1 T.q139 T.q140 ["self","job","cell"] (zn (kx T) 3 CH):=z9 T.q141.F Ye λ cdv A outer s H E a=>by unfold L9;exact (zp (zT (CD (zE (ye T.q98 T.q155 (za 0)) (za 1)) (za 2))))
theorem YC(T:Txt K mg):FnOk P w K mg base (XT P w) 2 T.q69 T.q70 ["_law_share","_law_job","_law_cell"] (zn (kx T) 3 AU):=z9 T.q71.F Yf λ cdv A outer s H E a=>by unfold HL;exact (zm (yf (PW.pt (qR (qO (qM (yd HK (HS T) a T.q68 (zc (za 0) zg)))) (jG (z7 BC AY (zZ _) (za 0) zf)))) (zp (zT yh)) yg) (zm (yf (PW.pt (qR (z7 BC AY (zZ _) (zE (za 2) zf) (zE (za 1) zf)) (jG (z7 BW BP (zZ _) (zE (za 2) zf) (zE (za 1) zf))))) (zp (zT (CU jB (jx (yN a)) (zZ _) (za 0) zf))) yg) (zp (zT (CU Qq Qn (zZ _) (za 0) (zb (zq qJ qF (zE (za 1) zf) (zb (zq yr yp (zb (zq jE jR (zE (za 2) zf) (zE (za 2) zf))) zf)))))))))
theorem YD(T:Txt K mg):FnOk P w K mg base (XT P w) 3 T.q72 T.q73 ["_law_flow","_law_load_here"] (zn (kx T) 2 DK):=z9 T.q74.F EL λ cdv A outer s H E a=>by unfold LB LA Jq HM;exact (zm (zL 2 EL.nd (Qi rfl L7 (za 0) T.q98 T.q134 (Mb T) (a.mono (by decide)) T.q133.b qL)) (zm (yf (PW.pt (qR (qO (qM (yi BX (BY rfl) T.q204 Do (zc (za 2) (zc (zb (qj (BO (v:= .ty "list") (by rfl) T.q206 D4 rfl) λ _ _ _=>.ty _)) zg))))) (jG (z7 Qb (j3 (yN a)) (zZ _) (zb (yi jy (jC rfl) T.q205 B8 (zc (za 2) zg))) (zb (yi jy (jC rfl) T.q205 B8 (zc (za 1) zg))))))) (zp (zT yh)) yg) (zm (qt (AF rfl T.q209 (zc (zb (yi jy (jC rfl) T.q205 B8 (zc (za 1) zg))) zg)) (Iu (Ib (i:=3) EL.nd rfl (Or.inr rfl))) (zm (Oq (i:=4) EL.nd rfl (by rfl) (loc:=["_law_j"]) (free:=["_law_k","_law_flow"]) (fr:=[3,0]) rfl (qY (sc:=zC LW) (N:=(["_law_flow","_law_load_here","_law_lacks","_law_k","_law_shares","_law_j","_law_done"]:List Str)) rfl rfl (by decide+kernel)) (AF rfl T.q209 (zc (zb (yi jy (jC rfl) T.q205 B8 (zc (ye T.q98 T.q152 (za 0)) zg))) zg)) (λ _ _ _ _ _=>(zS 0 (["_law_j","_law_k","_law_flow"]:List Str))) (λ _ _ _ _ _=>j2) (λ _ _ _ _ _=>(Ko rfl Pr (za 2) T.q98 T.q142 (Q3 T) (a.mono (by decide)) T.q141.b FT (zc (za 1) (zc (za 0) zg))))) (zm (qt (AF rfl T.q209 (zc (zb (yi jy (jC rfl) T.q205 B8 (zc (za 4) zg))) zg)) (yj 5 EL.nd) (zp (yf (qO (qM (yd XE (YC T) a T.q71 (zc (zE (za 4) (za 5)) (zc (zE (za 1) (za 3)) (zc (zE (ye T.q98 T.q152 (za 0)) (za 5)) zg)))))) (zp (zT yh)) yg))) (zm (zL 6 EL.nd (BE XC (za 0) T.q98 T.q138 (YB T) a T.q137.b (zc (za 3) zg))) (qk 6 (zm (yf (PW.pt (qR (qO (qM (yd HK (HS T) a T.q68 (zc (za 6) zg)))) (qR (z7 Qb (j3 (yN a)) (zZ _) (za 6) (zb (yi DX (DY rfl rfl) T.q213 Es (zc (za 4) zg)))) (qR (qO (qM (yd HK (HS T) a T.q68 (zc (zE (za 2) (za 3)) zg)))) (jG (z7 BC AY (zZ _) (zE (za 2) (za 3)) zf)))))) (zp (zT yh)) yg) (zp (yf (z7 Qb (j3 (yN a)) (zZ _) (zb (zq yr yp (za 6) (zE (za 2) (za 3)))) (zE (zE (za 1) (za 3)) zf)) (zp (zT yh)) yg)))))))) (zp (zT yh)))))
theorem YE(T:Txt K mg):FnOk P w K mg base (XT P w) 1 T.q143 T.q144 ["self","cell"] (zn (kx T) 2 CI):=z9 T.q145.F Yg λ cdv A outer s H E a=>by unfold LC Jr;exact (zp (zT (yi DX (DY rfl rfl) T.q213 Es (zc (zb (jM (loc:=["shares"]) (free:=["cell"]) (fr:=[1]) rfl (qY (sc:=zC LX) (N:=(["self","cell"]:List Str)) rfl rfl (by decide+kernel)) (qC (ye T.q98 T.q155 (za 0))) (λ _ _ _ _ _=>(zS 0 (["shares","cell"]:List Str))) (λ _ _ _ _ _=>j2) (λ _ _ _ _ _=>(CD (za 0) (za 1))))) zg))))
theorem YF(T:Txt K mg):FnOk P w K mg base (XT P w) 1 T.q75 T.q76 ["_law_rows_here","_law_rest","_law_first","_law_last"] (zn (kx T) 4 CJ):=z9 T.q77.F DO λ cdv A outer s H E a=>by unfold LF LD;exact (zm (zL 4 DO.nd AB) (zm (zL 5 DO.nd AB) (zm (qt (qC (za 0)) (qX (n:=2) (jZ rfl (yc (yj 6 DO.nd) (yc (yj 7 DO.nd) qZ yb) yb)) (ya (ya je))) (zm (zL 4 DO.nd (zq yr yp (za 4) (zb (zq qJ qF (za 7) (zb (yi FW (FF rfl) T.q207 Fq (zc zf (zc (zb (zq yr yp (zb (zq jE jR (zb (yi IA (Ie rfl) T.q208 Gu (zc (za 3) (zc (zb (zq jE jR (zb (zq yr yp (za 5) (za 6))) zf)) zg)))) (zb (yi FW (FF rfl) T.q207 Fq (zc (za 2) (zc (za 5) zg)))))) zf)) zg)))))))) (zp (zL 5 DO.nd (zq yr yp (za 5) (za 6)))))) (zp (zT (zq yr yp (za 4) (zb (zq qJ qF (za 1) (zb (yi FW (FF rfl) T.q207 Fq (zc zf (zc (zb (zq yr yp (zb (zq jE jR (za 3) (zb (yi FW (FF rfl) T.q207 Fq (zc (za 2) (zc (za 5) zg)))))) zf)) zg))))))))))))
theorem YG(T:Txt K mg):FnOk P w K mg base (XT P w) 2 T.q78 T.q79 ["_law_flow","_law_load_here","_law_rows_here","_law_rest"] (zn (kx T) 4 DM):=z9 T.q80.F CK λ cdv A outer s H E a=>by unfold LH LG DL;exact (zm (zL 4 CK.nd (CA zf)) (zm (qt (AF rfl T.q209 (zc (zb (yi jy (jC rfl) T.q205 B8 (zc (ye T.q98 T.q152 (za 0)) zg))) zg)) (Iu (Ib (i:=5) CK.nd rfl (Or.inr rfl))) (zm (NZ (CD (ye T.q98 T.q152 (za 0)) (za 5)) (qX (n:=3) (jZ rfl (yc (yj 6 CK.nd) (yc (yj 7 CK.nd) (yc (yj 8 CK.nd) qZ yb) yb) yb)) (ya (ya (ya je)))) JD) (zm (yf (PW.pt (qR (z7 Qq Qn (zZ _) (za 6) (za 4)) (jG (z7 BC AY (zZ _) (za 7) (za 6))))) (zp (zT yh)) yg) (zm (yf (z7 Qb (j3 (yN a)) (zZ _) (zb (zq qJ qF (za 8) (zb (zq yr yp (zb (zq jE jR (za 7) (za 6))) zf)))) (zb (yd XH (YF T) a T.q77 (zc (za 2) (zc (za 3) (zc (za 6) (zc (za 7) zg))))))) (zp (zT yh)) yg) (zm (zL 4 CK.nd (r_v (pv 7))) (zm (zL 9 CK.nd (BE XG (za 0) T.q98 T.q146 (YE T) a T.q145.b (zc (za 5) zg))) (qk 9 (zm (yf (PW.pt (qR (qO (qM (yd HK (HS T) a T.q68 (zc (za 9) zg)))) (jG (z7 Qb (j3 (yN a)) (zZ _) (za 9) (zb (yi DX (DY rfl rfl) T.q213 Es (zc (zb (jM (loc:=["_law_k"]) (free:=["_law_j","_law_flow"]) (fr:=[5,0]) rfl (qY (sc:=zC LY) (N:=(["_law_flow","_law_load_here","_law_rows_here","_law_rest","_law_behind","_law_j","_law_first","_law_last","_law_machines","_law_used"]:List Str)) rfl rfl (by decide+kernel)) (AF rfl T.q209 (zc (zb (yi jy (jC rfl) T.q205 B8 (zc (za 1) zg))) zg)) (λ _ _ _ _ _=>(zS 0 (["_law_k","_law_j","_law_flow"]:List Str))) (λ _ _ _ _ _=>j2) (λ _ _ _ _ _=>(Ko rfl Pr (za 2) T.q98 T.q142 (Q3 T) (a.mono (by decide)) T.q141.b FT (zc (za 0) (zc (za 1) zg)))))) zg))))))) (zp (zT yh)) yg) (zp (yf (z7 BW BP (zZ _) (za 9) (zb (zq qJ qF (za 8) (zb (zq yr yp (zb (zq jE jR (za 7) (za 6))) zf))))) (zp (zT yh)) yg)))))))))) (zp (zT yh))))
theorem YH(T:Txt K mg):FnOk P w K mg base (XT P w) 8 T.q81 T.q82 ["_law_load_here","_law_calendar"] (zn (kx T) 2 BI):=z9 T.q83.F HR λ cdv A outer s H E a=>by unfold HN;exact (zm (zL 2 HR.nd CS) (zm (Xh rfl Lr T.q151 (LZ T) (a.mono (by decide)) (by rfl) T.q99 T.q130.b (λ _ _=>(zc (zb (zq yr yp (za 0) (zb (r_sl rfl (za 0) GC (GD zf))))) (zc (za 1) zg))) rfl rfl rfl (WV (i:=3) rfl ((Qy T).ok rfl) HR.nd rfl (Or.inl rfl) rfl (by rfl) T.q180 (λ _=>(zp (zL 2 HR.nd (r_xn rfl T.q185.toExN (za 3))))) (WU rfl ((Qy T).ok rfl) (by rfl) T.q178 (λ _=>(zp (zL 2 HR.nd CT))) WT))) (zm (yf (z7 jB (jx (yN a)) (zZ _) (zb (yi jy (jC rfl) T.q205 B8 (zc (za 0) zg))) zf) (zp (zT (CU jB (jx (yN a)) (zZ _) (za 2) (zb CT)))) yg) (zp (zT (CU jB (jx (yN a)) (zZ _) (za 2) (zE (zE (zb (zq yr yp (za 0) (zb (qG (zc (zb (Qk (zc (zb CS) (zc zf zg)))) zg))))) zf) zf)))))))
theorem Mc(T:Txt K mg):FnOk P w K mg base (XT P w) 1 T.q147 T.q148 ["self"] (zn (kx T) 1 jY):=z9 T.q149.F Yh λ cdv A outer s H E a=>by unfold LI;exact (zp (zT (yi DX (DY rfl rfl) T.q213 Es (zc (ye T.q98 T.q156 (za 0)) zg))))
theorem G_law(T:Txt K mg):FnOk P w K mg base (XT P w) 9 T.f_law T.fd_law ["_law_script"] (zn (kx T) 1 f_law):=z9 T.d_law.F BJ λ cdv A outer s H E a=>by unfold LK;exact (zm (NZ (yd Xi (Yk T) a T.q5 (zc (zb (yd Ja (Jx T) a T.q8 (zc (za 0) (zc zf zg)))) zg)) (qX (n:=3) (jZ rfl (yc (yj 1 BJ.nd) (yc (yj 2 BJ.nd) (yc (yj 3 BJ.nd) qZ yb) yb) yb)) (ya (ya (ya je)))) JD) (zm (zL 4 BJ.nd (yd Xk (Ym T) a T.q14 (zc (za 0) (zc (za 3) zg)))) (zm (zL 5 BJ.nd (r_gl (r_ty FX (FZ rfl) (by rfl) T.q206 D4 (zc (za 4) zg)))) (zm (zL 6 BJ.nd (EA rfl Lr T.q151 (LZ T) (a.mono (by decide)) (by rfl) T.q99 T.q130.b qL (zc (za 5) (zc (zb (Kp (EA rfl L0 T.q172 (Ma T) (a.mono (by decide)) (by rfl) T.q160 T.q171.b qL (zc (zb (r_ty FX (FZ rfl) (by rfl) T.q206 D4 (zc (za 1) zg))) (zc (za 2) zg))))) zg)))) (zm (yf (z7 Qb (j3 (yN a)) (zZ _) (za 5) (za 4)) (zp (zT yh)) yg) (zm (Ow Vz rfl PySem.F.slot_list_clear PySem.F.type_list_clear Tw (za 5)) (zm (zL 7 BJ.nd (EA rfl Lr T.q151 (LZ T) (a.mono (by decide)) (by rfl) T.q99 T.q130.b qL (zc (zb (qG (zc (zb (Qk (zc (zb CT) (zc zf (zc zf (zc zf (zc zf zg))))))) (zc (zb (Qk (zc (zb CT) (zc zf (zc zf (zc zf (zc zf zg))))))) zg)))) (zc (zb (Kp (EA rfl L0 T.q172 (Ma T) (a.mono (by decide)) (by rfl) T.q160 T.q171.b qL (zc (zb (qG zg)) (zc zf zg))))) zg)))) (qk 4 (qk 6 (zm (yf (PW.pt (qR (z7 Qb (j3 (yN a)) (zZ _) (ye T.q98 T.q153 (za 6)) (za 4)) (qR (qO (qM (yd XF (YD T) a T.q74 (zc (za 6) (zc (za 4) zg))))) (jG (qO (qM (yd XJ (YG T) a T.q80 (zc (za 6) (zc (za 4) (zc (za 1) (zc (za 2) zg))))))))))) (zp (zT yh)) yg) (zm (zL 8 BJ.nd (Kp (EA rfl L0 T.q172 (Ma T) (a.mono (by decide)) (by rfl) T.q160 T.q171.b qL (zc (zb (r_ty FX (FZ rfl) (by rfl) T.q206 D4 (zc (za 1) zg))) (zc (za 2) zg))))) (qk 8 (qk 4 (zm (yf (PW.pt (qR (z7 Qb (j3 (yN a)) (zZ _) (ye T.q98 T.q152 (za 6)) (zb (yd Po (Qz T) a T.q41 (zc (za 4) (zc (za 8) zg))))) (jG (qO (qM (yd XM (YH T) a T.q83 (zc (za 4) (zc (za 8) zg)))))))) (zp (zT yh)) yg) (zm (yf (PW.pt (qR (z7 Qb (j3 (yN a)) (zZ _) (zb (Qi rfl L7 (za 7) T.q98 T.q134 (Mb T) (a.mono (by decide)) T.q133.b qL)) (zb (qG (zc zf (zc zf zg))))) (qR (z7 Qb (j3 (yN a)) (zZ _) (zb (Qi rfl LJ (za 7) T.q98 T.q150 (Mc T) (a.mono (by decide)) T.q149.b qL)) zf) (jG (z7 Qb (j3 (yN a)) (zZ _) (zb (yi jy (jC rfl) T.q205 B8 (zc (ye T.q98 T.q153 (za 7)) zg))) zf))))) (zp (zT yh)) yg) (zp (zT (CV (yd HK (HS T) a T.q68 (zc (zb (Qi rfl LJ (za 6) T.q98 T.q150 (Mc T) (a.mono (by decide)) T.q149.b qL)) zg)) (CW (CU jB (jx (yN a)) (zZ _) (zb (Qi rfl LJ (za 6) T.q98 T.q150 (Mc T) (a.mono (by decide)) T.q149.b qL)) (zb (yi DX (DY rfl rfl) T.q213 Es (zc (zb (Qi rfl L7 (za 6) T.q98 T.q134 (Mb T) (a.mono (by decide)) T.q133.b qL)) zg)))))))))))))))))))))))
end
end My
def PySem.W.Fast.tw14598715356260435866:Nat:=0
def PySem.W.Fast.tw7238046018651277534:Nat:=0
def PySem.W.Fast.tw6534874000650894987:Nat:=0
def PySem.W.Fast.tw10544295344006241723:Nat:=0
def PySem.W.Fast.tw3182386257043530798:Nat:=0
def PySem.W.Fast.tw12329155263669439519:Nat:=0
def PySem.W.Fast.tw3677632882827384062:Nat:=0
def PySem.W.Fast.tw13388153557339397715:Nat:=0
def PySem.W.Fast.tw16205993139258394665:Nat:=0
def PySem.W.Fast.tw12186927737360925045:Nat:=0
def PySem.W.Fast.tw13256641116850012859:Nat:=0
def PySem.W.Fast.tw4069818745696331118:Nat:=0
def PySem.W.Fast.tw12309487429465621764:Nat:=0
def PySem.W.Fast.tw10594365738534580157:Nat:=0
def PySem.W.Fast.tw1319192029097868252:Nat:=0
def PySem.W.Fast.tw10178460254095656201:Nat:=0
def PySem.W.Fast.tw17846797487192150033:Nat:=0
def PySem.W.Fast.tw12196925527506493495:Nat:=0
def PySem.W.Fast.tw8565733149115213228:Nat:=0
def PySem.W.Fast.tw6667695353286145696:Nat:=0
def PySem.W.Fast.tw11488531227469871684:Nat:=0
def PySem.W.Fast.tw5822829993140332335:Nat:=0
def PySem.W.Fast.tw1992449075930466090:Nat:=0
def PySem.W.Fast.tw5262731503136342451:Nat:=0
def PySem.W.Fast.tw5173889594236819067:Nat:=0
def PySem.W.Fast.tw10531621347620151403:Nat:=0
def PySem.W.Fast.tw12411216588197505872:Nat:=0
def PySem.W.Fast.tw17495155262278756735:Nat:=0
def PySem.W.Fast.tw8988036822726370258:Nat:=0
def PySem.W.Fast.tw3510150404263062150:Nat:=0
def PySem.W.Fast.tw17754248650196429969:Nat:=0
def PySem.W.Fast.tw18103249343670716084:Nat:=0
namespace My
open PySem PySem.W L2 L3
noncomputable def ask:L4.Ask where
 law:=56
 at_:=[2,3,15,17,18,20,21,22,29,30,31,32,35,42,43,44,47,54,55,56,59,66,67,68,71,78,79,80,83,90,92,93,95,96,97,98,99,102,104,105,107,108,109,111,112,114,115,116,119,120,121,123,124,126,127,128,130,131,133,134,135,137,138,140,141,142,145,146,147,149,150,152,153,154,156,157,159,160,161,164,165,166,168,169,171,172,180,182,183,185,186,187,189,190,192,193,194,195,196,197,198,208,211,212,213,215,216,218,219,220,222,223,225,226,227,229,230,232,233,234,237,238,239,242,243,244,247,248,249,251,252,254,255,256,258,259,261,262,263,265,266,268,269,270,273,274,275,277,278,280,281,282,284,285,287,288,289,291,292,294,295,296,297,298,299,300,303,305,306,308,309,310,312,313,315,316,317,319,320,322,323,324,327,328,329,331,332,334,335,336,338,339,341,342,350,352,353,355,356,357,359,360,362,363,364,366,367,369,370,371,373,374,376,377,378,380,381,383,384,385,387,388,390,391,392,394,395,397,398,399,401,402,404,405,406,408,409,411,412,413,415,416,418,419,420,422,423,425,426,427,428,429,430,431,434,436,437,439,440,441,443,444,446,447,448,450,451,453,454,455,458,459,460,462,463,465,466,467,469,470,472,473,474,476,477,479,480,481,483,484,486,487,488,491,492,493,496,497,498,500,501,503,504,505,507,508,510,511]
 defs:=[("_law_mixed",47),("_law_rows",49),("_law_cell_at",45),("_law_names",48),("_law_load",50),("is_name",20),("is_whole",10),("is_whole_between",11),("are_numbers_of_job",21),("check_load",22),("turns_of",23),("borders",26),("is_in_a_window",25),("cells",27),("cells_within",28),("most_shares",30),("neighbours_as_one",41),("kept_rows",42),("is_machines",37),("is_calendar_row",39),("are_calendar_rows",40),("is_rest",38),("_law_whole",46),("_law_share_right",52),("_law_jobs_right",53),("_law_over",51),("_law_cells_right",54),("_law_refused",55),("law",56)]
 cls:=[("Reach",31,[("__init__","Reach.__init__",0),("steps_to","Reach.steps_to",1)],["job_ahead","cell_ahead"]),("Flow",32,[("shift","Flow.shift",7),("take_straight","Flow.take_straight",1),("cells_behind","Flow.cells_behind",5),("jobs_behind","Flow.jobs_behind",6),("reached","Flow.reached",4),("steps_to_spare","Flow.steps_to_spare",3),("take_by_ways","Flow.take_by_ways",2),("__init__","Flow.__init__",0),("lacking_by","Flow.lacking_by",11),("work_done","Flow.work_done",9),("share","Flow.share",8),("used","Flow.used",10),("lacking","Flow.lacking",12)],["cells","load","most","shares","missing","spare"]),("Calendar",43,[("changes","Calendar.changes",7),("at","Calendar.at",3),("__init__","Calendar.__init__",0)],["stretches","beyond"])]
 bare:=["all","any","bool","enumerate","int","isinstance","len","list","max","min","range","set","sorted","str","sum","tuple","zip"]
 con:=[("LAST_TURN",.int 10000000000),("LETTERS",.str ("abcdefghijklmnopqrstuvwxyz" :Str)),("LETTERS_AND_FIGURES",.str ("abcdefghijklmnopqrstuvwxyz0123456789" :Str)),("MOST_SIGNS",.int 8),("MOST_JOBS",.int 12),("LATEST_FIRST",.int 1000000000),("MOST_WORK",.int 60),("MOST_BREADTH",.int 16),("MOST_ROWS",.int 16),("MOST_TURNS_OF_ROW",.int 1000000),("MOST_MACHINES",.int 16)]
 exc:=[("YardError",false),("TooMany",true),("Twice",false)]
 tab:=[("TooMany","TooMany",true),("TooMany","Twice",false),("Twice","TooMany",false),("Twice","Twice",true),("Twice","YardError",true)]
 exi:=[("Twice","YardError",7,"Twice.__init__",0)]
end My
lay_quick L4.claim L4.goal
open PySem PySem.W in
def My.one1:∀(w:World)(os:OsState),PySem.W.Fast.tw6268680626415656479 My.ask 20000 PySem.Challenge.pw_dueyard_k22_shares w os=PySem.W.Fast.tw12952061662341455360 My.ask PySem.Challenge.pw_dueyard_k22_shares:=by
 intro w os
 kernel_rfl
open PySem PySem.W in
def My.one:∀(w:World)(os:OsState),L4.claim My.ask 20000 PySem.Challenge.pw_dueyard_k22_shares w os=L4.goal My.ask PySem.Challenge.pw_dueyard_k22_shares:=by
 rw[PySem.W.Fast.te6268680626415656479,PySem.W.Fast.te12952061662341455360];exact My.one1
namespace L3
open PySem L2
def ev:type_of% (zd (zd (zd (zd (zd (zd @L3.fun3.eq_1 (zd @L3.start3.eq_1 @L3.sSeq.eq_1)) (zd (zd @L3.sSet.eq_1 @L3.sRet.eq_1) (zd @L3.sRetS.eq_1 @L3.sRetN.eq_1))) (zd (zd (zd @L3.sIf.eq_1 @L3.sExp.eq_1) (zd @L3.sFz.eq_1 @L3.sAug.eq_1)) (zd (zd @L3.sAsg.eq_1 @L3.sSkip.eq_1) (zd @L3.sNever.eq_1 @L3.gN.eq_1)))) (zd (zd (zd @L3.eV.eq_1 (zd @L3.eC.eq_1 @L3.pV.eq_1)) (zd (zd @L3.pE.eq_1 @L3.eOp.eq_1) (zd @L3.eNeg.eq_1 @L3.eNot.eq_1))) (zd (zd (zd @L3.eAnd.eq_1 @L3.eOr.eq_1) (zd @L3.eIf.eq_1 @L3.eChain.eq_1)) (zd (zd @L3.oEq_int @L3.oNe_int) (zd @L3.nx_ite @L3.rt_ite))))) (zd (zd (zd (zd @L3.ok_ite (zd @L3.cons_ite @L3.some_ite)) (zd (zd @L3.v_ite @L3.int_ite) (zd @L3.bl_ite @ite_self.{1}))) (zd (zd (zd @Cv @and_true) (zd @true_and @and_self)) (zd (zd @L3.eTup.eq_1 @L3.eLst.eq_1) (zd @L3.aCons.eq_1 @L3.aNil.eq_1)))) (zd (zd (zd (zd @L3.eB.eq_1 @L3.isa.eq_1) (zd @L3.eCall.eq_1 @L3.tE.eq_1)) (zd (zd @L3.tP.eq_1 @L3.tTru.eq_1) (zd @L3.tAnd3.eq_1 @L3.tOr3.eq_1))) (zd (zd (zd @L3.tNot3.eq_1 @L3.mtO.eq_1) (zd @L3.at0 @L3.at1)) (zd (zd @L3.at2 @L3.at3) (zd @L3.at4 @Ah.{0,0})))))) (zd (zd (zd (zd (zd @Bl.{0,0} (zd @Ax.{0} @Dy.{0})) (zd (zd @Gv.{0} @Ea.{0}) (zd @Bz.{0} @Ee.{0}))) (zd (zd (zd @Dz.{0} @List.getElem?_nil.{0}) (zd @List.set_cons_zero.{0} @Gw.{0})) (zd (zd @Am.{0,0} @Option.map_none.{0,0}) (zd @Gj.{0,0} @Nat.zero_add)))) (zd (zd (zd @ite_true.{1} (zd @ite_false.{1} @B6.{1})) (zd (zd @Ca.{1} @Et) (zd @Eu @decide_true))) (zd (zd (zd @decide_false @Ew) (zd @Dr @Bool.or_true)) (zd (zd @D9 @Ei) (zd @Ec @Ga.{0}))))) (zd (zd (zd (zd @or_true (zd @true_or @Bn)) (zd (zd @false_or @L3.oAdd_int) (zd @L3.oAddI_int @L3.oSub_int))) (zd (zd (zd @L3.oMul_int @L3.oDiv_int) (zd @L3.oMod_int @L3.oShr_int)) (zd (zd @L3.oPow_int @L3.oAndI_int) (zd @L3.oLt_int @L3.oLe_int)))) (zd (zd (zd (zd @L3.oGt_int @L3.oGe_int) (zd @L3.oIx_tup @L3.oIx_lst)) (zd (zd @L3.oIx_scr @L3.sMt_ap) (zd @L3.mAppend_ok @L3.sz0))) (zd (zd (zd @L3.sz1 @L3.sz2) (zd @L3.sz3 @L3.sz4)) (zd (zd @L3.sz5 @L3.gb.eq_1) (zd @Int.cast_ofNat_Int @Df))))))):=(zd (zd (zd (zd (zd (zd @L3.fun3.eq_1 (zd @L3.start3.eq_1 @L3.sSeq.eq_1)) (zd (zd @L3.sSet.eq_1 @L3.sRet.eq_1) (zd @L3.sRetS.eq_1 @L3.sRetN.eq_1))) (zd (zd (zd @L3.sIf.eq_1 @L3.sExp.eq_1) (zd @L3.sFz.eq_1 @L3.sAug.eq_1)) (zd (zd @L3.sAsg.eq_1 @L3.sSkip.eq_1) (zd @L3.sNever.eq_1 @L3.gN.eq_1)))) (zd (zd (zd @L3.eV.eq_1 (zd @L3.eC.eq_1 @L3.pV.eq_1)) (zd (zd @L3.pE.eq_1 @L3.eOp.eq_1) (zd @L3.eNeg.eq_1 @L3.eNot.eq_1))) (zd (zd (zd @L3.eAnd.eq_1 @L3.eOr.eq_1) (zd @L3.eIf.eq_1 @L3.eChain.eq_1)) (zd (zd @L3.oEq_int @L3.oNe_int) (zd @L3.nx_ite @L3.rt_ite))))) (zd (zd (zd (zd @L3.ok_ite (zd @L3.cons_ite @L3.some_ite)) (zd (zd @L3.v_ite @L3.int_ite) (zd @L3.bl_ite @ite_self.{1}))) (zd (zd (zd @Cv @and_true) (zd @true_and @and_self)) (zd (zd @L3.eTup.eq_1 @L3.eLst.eq_1) (zd @L3.aCons.eq_1 @L3.aNil.eq_1)))) (zd (zd (zd (zd @L3.eB.eq_1 @L3.isa.eq_1) (zd @L3.eCall.eq_1 @L3.tE.eq_1)) (zd (zd @L3.tP.eq_1 @L3.tTru.eq_1) (zd @L3.tAnd3.eq_1 @L3.tOr3.eq_1))) (zd (zd (zd @L3.tNot3.eq_1 @L3.mtO.eq_1) (zd @L3.at0 @L3.at1)) (zd (zd @L3.at2 @L3.at3) (zd @L3.at4 @Ah.{0,0})))))) (zd (zd (zd (zd (zd @Bl.{0,0} (zd @Ax.{0} @Dy.{0})) (zd (zd @Gv.{0} @Ea.{0}) (zd @Bz.{0} @Ee.{0}))) (zd (zd (zd @Dz.{0} @List.getElem?_nil.{0}) (zd @List.set_cons_zero.{0} @Gw.{0})) (zd (zd @Am.{0,0} @Option.map_none.{0,0}) (zd @Gj.{0,0} @Nat.zero_add)))) (zd (zd (zd @ite_true.{1} (zd @ite_false.{1} @B6.{1})) (zd (zd @Ca.{1} @Et) (zd @Eu @decide_true))) (zd (zd (zd @decide_false @Ew) (zd @Dr @Bool.or_true)) (zd (zd @D9 @Ei) (zd @Ec @Ga.{0}))))) (zd (zd (zd (zd @or_true (zd @true_or @Bn)) (zd (zd @false_or @L3.oAdd_int) (zd @L3.oAddI_int @L3.oSub_int))) (zd (zd (zd @L3.oMul_int @L3.oDiv_int) (zd @L3.oMod_int @L3.oShr_int)) (zd (zd @L3.oPow_int @L3.oAndI_int) (zd @L3.oLt_int @L3.oLe_int)))) (zd (zd (zd (zd @L3.oGt_int @L3.oGe_int) (zd @L3.oIx_tup @L3.oIx_lst)) (zd (zd @L3.oIx_scr @L3.sMt_ap) (zd @L3.mAppend_ok @L3.sz0))) (zd (zd (zd @L3.sz1 @L3.sz2) (zd @L3.sz3 @L3.sz4)) (zd (zd @L3.sz5 @L3.gb.eq_1) (zd @Int.cast_ofNat_Int @Df)))))))
end L3
local macro_rules | `(tactic| simp![$xs,*] $[$l]?)=> `(tactic| simp only[L3.kJ,L3.fun3,L3.start3,L3.O3.res,L3.sSeq,L3.sSet,L3.sRet,L3.sRetS,L3.sRetN,L3.sIf,L3.sExp,L3.sFz,L3.sAug,L3.sAsg,L3.sSkip,L3.sNever,L3.gN,L3.gT,L3.gL,L3.gsCons,L3.gsNil,L3.eV,L3.eC,L3.pV,L3.pE,L3.eOp,L3.eNeg,L3.eNot,L3.eAnd,L3.eOr,L3.eIf,L3.eChain,L3.oEq_int,L3.oNe_int,L3.nx_ite,L3.rt_ite,L3.ok_ite,L3.cons_ite,L3.some_ite,L3.v_ite,L3.int_ite,L3.bl_ite,ite_self,Cv,and_true,true_and,and_self,L3.oIsN,L3.eTup,L3.eLst,L3.aCons,L3.aNil,L3.vals3,L3.eB,L3.bLen,L3.bMax,L3.bMin,L3.bMin3,L3.bInt,L3.bList,L3.bIsT,L3.ty3,L3.isa,L3.eCall,L3.opt,L3.Res.bind,L3.Res.bindS,L3.Vl.fz,L3.C3.fz,L3.tE,L3.tP,L3.tru3,L3.tTru,L3.tAnd3,L3.tOr3,L3.tNot3,L3.rdl,L3.rdm,L3.mtO,L3.wr3,L3.at0,L3.at1,L3.at2,L3.at3,L3.at4,Ah,Bl,Ax,Dy,List.replicate,Gv,Ea,Bz,Ee,Dz,List.getElem?_nil,List.set_cons_zero,Gw,Am,Option.map_none,Gj,Nat.reduceSub,Nat.reduceAdd,Nat.reduceLT,Nat.reduceEqDiff,Nat.reduceLeDiff,Nat.zero_add,reduceIte,ite_true,ite_false,B6,Ca,Et,Eu,decide_true,decide_false,Ew,Dr,Bool.or_true,D9,Ei,Ec,Ga,String.reduceEq,String.reduceBEq,or_true,true_or,Bn,false_or,reduceCtorEq,Int.reduceLT,Int.reduceLE,Int.reduceNeg,L3.oAdd_int,L3.oAddI_int,L3.oSub_int,L3.oMul_int,L3.oDiv_int,L3.oMod_int,L3.oShr_int,L3.oPow_int,L3.oAndI_int,L3.oLt_int,L3.oLe_int,L3.oGt_int,L3.oGe_int,L3.oIx_tup,L3.oIx_lst,L3.oIx_scr,L3.sMt_ap,L3.mAppend_ok,L3.sz0,L3.sz1,L3.sz2,L3.sz3,L3.sz4,L3.sz5,L3.gb,Int.cast_ofNat_Int,Int.reduceEq,Df,$xs,*] $[$l]?)
namespace L3
open PySem L2
noncomputable def tx(l:List Nat):Str:=⟨l.toArray⟩
def jJ(l:List Nat):(tx l).length=l.length:=by simp[tx,Str.length]
def HU(l:List Nat):(tx l).cps.toList=l:=by simp[tx]
def YI(z:Str):tx z.cps.toList=z:=by simp[tx]
def YJ(h:tx a=tx b):a=b:=by have:=congrArg (λ z:Str=>z.cps.toList) h;simpa[tx] using this
def Q4(a b:List Nat):tx a++tx b=tx (a++b):=by
 show Str.append (tx a) (tx b)=_;simp[Str.append,tx]
def Q5(x:Str){l u:Option Int}{a b:Nat}(e:Builtin.Str.strSliceIndices l u 1 x.length=Builtin.Str.strSliceIndices (some (a:Int)) (some (b:Int)) 1 x.length)(c:a<=b)(d:b<=x.length):
  Txt.slice x l u=tx ((x.cps.toList.drop a).take (b-a)):=by
 unfold Txt.slice;rw[e,StrLaws.sliced_plain x c d]
 split
 .rename_i q
  rw[StrLaws.strSliceIndices_plain c d]at q;simp at q;have h1:a=0:=by lia
  have h2:b=x.length:=by lia
  subst h1;subst h2;rw[Ex,Nat.sub_zero,Gr (by simp[Str.length])]
  exact (YI x).symm
 .rfl
def YK(l:List Nat)(k:Nat):Txt.slice (tx l) none (some (k:Int))=tx (l.take k):=by
 have e:Builtin.Str.strSliceIndices none (some (k:Int)) 1 (tx l).length=Builtin.Str.strSliceIndices (some ((0:Nat):Int)) (some ((min k l.length:Nat):Int)) 1 (tx l).length:=by
  rw[jJ];have h1: ¬((k:Int)<0):=by lia
  have h2: ¬(((min k l.length:Nat):Int)<0):=by lia
  have a: ¬(((0:Nat):Int)<0):=by lia
  simp only[Builtin.Str.strSliceIndices,h1,h2,a,Ca,show ((1:Int) > 0)=True from by simp,B6]
  congr 1<;>lia
 rw[Q5 _ e (B5 _) (by rw[jJ];lia),HU,Ex,Nat.sub_zero]
 congr 1
 rw[List.take_eq_take_iff];lia
def YL(l:List Nat)(k:Nat):Txt.slice (tx l) (some (k:Int)) none=tx (l.drop k):=by
 have e:Builtin.Str.strSliceIndices (some (k:Int)) none 1 (tx l).length=Builtin.Str.strSliceIndices (some ((min k l.length:Nat):Int)) (some ((l.length:Nat):Int)) 1 (tx l).length:=by
  rw[jJ];have h1: ¬((k:Int)<0):=by lia
  have h2: ¬(((min k l.length:Nat):Int)<0):=by lia
  have a: ¬(((l.length:Nat):Int)<0):=by lia
  simp only[Builtin.Str.strSliceIndices,h1,h2,a,Ca,show ((1:Int) > 0)=True from by simp,B6]
  congr 1<;>lia
 rw[Q5 _ e (by lia) (by rw[jJ];lia),HU]
 congr 1
 by_cases hk:k<=l.length
 .rw[Nat.min_eq_left hk,Gr (by simp)]
 .rw[Nat.min_eq_right (by lia),Cm,List.drop_eq_nil_of_le (by lia)];simp
def YM(ls:List (List Nat)):Txt.join (tx []) (ls.map tx)=tx ls.flatten:=by
 show Builtin.Str.glued _ _=_;rw[StrLaws.glued_eq_join];have e:∀a:Str,tx []++a=a:=λ a=>by show Str.append _ _=_;simp[Str.append,tx]
 induction ls with
 |nil=>rfl
 |cons a r ih=>
  cases r with
  |nil=>simp[Str.join]
  |cons b r=>
   rw[Ah,Ah,Str.join]
   .rw[<-Ah,ih]
    simp only[Q4,Bz,Dw]
   .simp
def qB(c:Nat):Bool:=decide (97<=c) && decide (c<=122)
noncomputable def j4(c:Nat):Bool:=decide (48<=c) && decide (c<=57)
noncomputable def abc:List Nat:=[97,98,99,100,101,102,103,104,105,106,107,108,109,110,111,112,113,114,115,116,117,118,119,120,121,122]
def abc9:List Nat:=abc++[48,49,50,51,52,53,54,55,56,57]
def YN:("abcdefghijklmnopqrstuvwxyz" :Str)=tx abc:=by decide+kernel
def Q6:("abcdefghijklmnopqrstuvwxyz0123456789" :Str)=tx abc9:=by decide+kernel
def YO:("" :Str)=tx []:=by decide+kernel
def YQ(c:Nat):decide (c∈abc)=qB c:=by
 by_cases h:c<128
 .exact (by decide+kernel:∀c,c<128->decide (c∈abc)=qB c) c h
 .rw[Bu λ m=>h ((by decide+kernel:∀x∈abc,x<128) c m)]
  unfold qB;rw[Bu (p:=c<=122) (by lia),Fd]
def YR(c:Nat):decide (c∈abc9)=(qB c || j4 c):=by
 by_cases h:c<128
 .exact (by decide+kernel:∀c,c<128->decide (c∈abc9)=(qB c || j4 c)) c h
 .rw[Bu λ m=>h ((by decide+kernel:∀x∈abc9,x<128) c m)]
  unfold qB j4;rw[Bu (p:=c<=122) (by lia),Bu (p:=c<=57) (by lia),Fd,Fd,D9]
def Q7:oInS false s h (.x (.str (tx [c]))) (.x (.str (tx l)))=some (.v (.bl (decide (c∈l)))):=by
 unfold oInS;simp only[Df,Ca];rw[show (tx [c])=⟨#[c]⟩ from rfl,UL,HU]
def Jy(a:l.length<=sizeLine):zr s h (.x (.str (tx l))) (.x (.int i))=(atI l i).map λ c=>.v (.str (tx [c])):=by
 unfold zr qS oIxT yV oIxS;simp only[rdl,jJ,HU,Ab a];cases atI l i<;>rfl
def Jz(c:a.length+b.length<=sizeLine):zx s h (.x (.str (tx a))) (.x (.str (tx b)))=some (.v (.str (tx (a++b)))):=by
 unfold zx qS AE oI FV;simp only[jJ,Ab c,Q4]
def Q8{s:S3}{h:H3}{l:List Nat}{k:Nat}(a:l.length<=sizeLine):oSl s h none (some (k:Int)) (.x (.str (tx l)))=some (.v (.str (tx (l.take k)))):=by
 simp only[oSl,jJ,Ab a,YK]
def YS{s:S3}{h:H3}{l:List Nat}{k:Nat}(a:l.length<=sizeLine):oSl s h (some (k:Int)) none (.x (.str (tx l)))=some (.v (.str (tx (l.drop k)))):=by
 simp only[oSl,jJ,Ab a,YL]
def sz36:36<=sizeLine:=by have:=yK;lia
def isN(l:List Nat):Bool:=decide (1<=l.length) && decide (l.length<=8) && (qB (l.headD 0) && l.all λ c=>qB c || j4 c)
def J0(I:S3->Prop)(f:Nat->V3)(c:a s h=.ok [.x (.int j)] h)(o: -1000000<=j/\j<=1000000)
  (h0:I (yo n fr s)) (step:∀(k:Nat) s,k<j.toNat->I s->∃s1 r,g (.int (k:Int)) s=some s1/\I s1/\e s1 h=.ok r h/\r.fz=some (f k)):
  yJ n fr (qV a) g tTru e s h=.ok (.m (.lst ((List.range j.toNat).map f))) h:=by
 have b: -(2 ^ 62)<=j/\j<2 ^ 62:=by lia
 have:=Kw (ok:=λ _=>True) (g:=g) (e:=e) (h:=h) I (λ k:Nat=>V3.int (0+(k:Int))) f trivial (l:=List.range j.toNat) (by rw[Bq];have:=yK;lia)
  (λ k s d i=>by rw[Ej];exact step k s (by simpa using d) i) h0
 unfold yJ qV;simp only[c,Res.bind,Ab b,this]
def EN{α:Type}{n:Nat}{fr:List Nat}{p:P3}{g:G3}{e:E3}{s:S3}{h:H3}{x:V3}{ok:H3->Prop}{enc:α->V3}{l:List α}(I:S3->Prop)(f:α->V3)(ep:p s h=.ok (.x x) h)
  (b:yL h x=some (l.map enc,ok)) (c:l.length<=1000000) (h0:I (yo n fr s)) (step:∀a s,a∈l->I s->∃s1 r,g (enc a) s=some s1/\I s1/\e s1 h=.ok r h/\r.fz=some (f a)):
  yJ n fr (iL p) g tTru e s h=.ok (.m (.lst (l.map f))) h:=by
 have:=Kw (ok:=ok) (g:=g) (e:=e) (h:=h) I enc f (CY b).1 (l:=l) (by have:=yK;lia) step h0
 unfold yJ iL;simp only[ep,Res.bind,b,this]
def YT(I:S3->Prop)(f:Nat->V3)(ep:p s h=.ok (.x (.str (tx l))) h)(d:l.length<=1000000)
  (h0:I (yo n fr s)) (step:∀a s,a∈l->I s->∃s1 r,g (.str (tx [a])) s=some s1/\I s1/\e s1 h=.ok r h/\r.fz=some (f a)):
  yJ n fr (iS p) g tTru e s h=.ok (.m (.lst (l.map f))) h:=by
 have:=Kw (ok:=λ _=>True) (g:=g) (e:=e) (h:=h) I (λ a:Nat=>V3.str (tx [a])) f trivial (l:=l) (by have:=yK;lia) step h0
 have b:(tx l).length<=sizeLine:=by rw[jJ];have:=yK;lia
 unfold yJ iS;simp only[ep,Res.bind,Ab b,HU]
 first
  | (simp only[show ∀a:Nat,(⟨#[a]⟩:Str)=tx [a] from λ _=>rfl,this])
  | (rw[show (l.map λ c=>V3.str ⟨#[c]⟩)=l.map (λ a=>V3.str (tx [a])) from rfl,this])
def Md(hs:jU 0 ns=true):zW s h [.x (.lst (ns.map .int))]=some (.v (.int ns.sum)):=by
 unfold zW;simp only[rdl,IK,Ab hs]
def Me:bAll q s h [.x (.lst (bs.map .bl))]=some (.v (.bl (q bs))):=by
 unfold bAll;simp only[rdl,VX,Am]
def YU{p:P3}{a:A3}{s:S3}{h:H3}{ls:List (List Nat)}(ep:p s h=.ok (.x (.str (tx []))) h)(c:a s h=.ok [.x (.lst (ls.map λ l=>.str (tx l)))] h)(b:ls.length<=1000)(h1:∀l∈ls,l.length<=16):
  IH p a s h=.ok (.v (.str (tx ls.flatten))) h:=by
 have e:ls.map (λ l=>V3.str (tx l))=(ls.map tx).map .str:=by rw[Bg];rfl
 unfold IH;rw[ep];simp only[Res.bind,c,rdl,e,VY];rw[Ab,YM]
 refine⟨by rw[Ae];lia,λ z hz=>?_,by rw[jJ];simp⟩
 obtain⟨l,b,rfl⟩:=Ak.1 hz;rw[jJ,jJ];have:=h1 l b;simpa using this
def YV{α:Type}{it:I3}{g:G3}{b:D3}{s:S3}{h:H3}{its:List V3}{ok:H3->Prop}{enc:α->V3}{l:List α}(f:it s h=.ok ⟨its,l.map enc,ok⟩ h)(hok:ok h)
  (I:Nat->S3->Prop) (h0:I 0 s) (step:∀(i:Nat) a s,l[i]? =some a->I i s->∃s2,gb g b (enc a) s h=.nx s2 h/\I (i+1) s2):∃s',zA it g b s h=.nx s' h/\I l.length s':=by
 have j:zA it g b s h=zP ok g b (l.map enc) s h:=by
  unfold zA;simp only[f,Res.bindS]
 rw[j];have:=Kv (ok:=ok) (g:=g) (b:=b) (h:=h) I (xs:=l.map enc) (s:=s) hok h0 λ i x s d k=>by
  rw[Az]at d;obtain⟨a,m,rfl⟩:=Dj.1 d;obtain⟨s2,e,c⟩:=step i a s m k;unfold gb at e;cases q:g (enc a) s with
  |none=>rw[q]at e;cases e
  |some s1=>rw[q]at e;exact⟨s1,s2,rfl,e,c⟩
 rwa [Ae]at this
def it_R{Q:Res Vl->Prop}{α:Type}{it:I3}{g:G3}{b r:D3}{s:S3}{h:H3}{its:List V3}{ok:H3->Prop}{enc:α->V3}{l:List α}(c:it s h=.ok ⟨its,l.map enc,ok⟩ h)(hok:ok h)
  (I:Nat->S3->Prop) (h0:I 0 s) (step:∀(i:Nat) a s,l[i]? =some a->I i s->∃s2,gb g b (enc a) s h=.nx s2 h/\I (i+1) s2) (k:∀s',I l.length s'->Q ((r s' h).res)):Q ((sSeq (zA it g b) r s h).res):=by
 obtain⟨s',e,d⟩:=YV c hok I h0 step;rw[qd e];exact k s' d
def YW(I:Nat->S3->H3->Prop)(hok:∀i s h,I i s h->ok h)(h0:I 0 s h)
  (step:∀(i:Nat) x s h,xs[i]? =some x->I i s h->∃s1 s2 h2,g x s=some s1/\b s1 h=.nx s2 h2/\I (i+1) s2 h2):∃s' h',zP ok g b xs s h=.nx s' h'/\I xs.length s' h':=by
 have gen:∀(n i:Nat)(s:S3)(h:H3),n=xs.length-i->i<=xs.length->I i s h->∃s' h',zP ok g b (xs.drop i) s h=.nx s' h'/\I xs.length s' h':=by
  intro n
  induction n with
  |zero=>
   intro i s h e hi c;have:i=xs.length:=by lia
   subst this;rw[Cm];unfold zP;rw[Ab (hok _ _ _ c)];exact⟨s,h,rfl,c⟩
  |succ n ih=>
   intro i s h e hi c;have a:i<xs.length:=by lia
   rw[Fh a];unfold zP;rw[Ab (hok _ _ _ c)];obtain⟨s1,s2,h2,f,j,d⟩:=step i xs[i] s h (zX a) c;simp only[f,j];exact ih (i+1) s2 h2 (by lia) a d
 exact gen _ 0 s h rfl (B5 _) h0
def EO{α:Type}{it:I3}{g:G3}{b:D3}{s:S3}{h:H3}{its:List V3}{ok:H3->Prop}{enc:α->V3}{l:List α}(f:it s h=.ok ⟨its,l.map enc,ok⟩ h)
  (I:Nat->S3->H3->Prop) (hok:∀i s h,I i s h->ok h) (h0:I 0 s h) (step:∀(i:Nat) a s h,l[i]? =some a->I i s h->∃s2 h2,gb g b (enc a) s h=.nx s2 h2/\I (i+1) s2 h2):∃s' h',zA it g b s h=.nx s' h'/\I l.length s' h':=by
 have j:zA it g b s h=zP ok g b (l.map enc) s h:=by
  unfold zA;simp only[f,Res.bindS]
 rw[j];have:=YW (ok:=ok) (g:=g) (b:=b) I (xs:=l.map enc) (s:=s) (h:=h) hok h0 λ i x s h d k=>by
  rw[Az]at d;obtain⟨a,m,rfl⟩:=Dj.1 d;obtain⟨s2,h2,e,c⟩:=step i a s h m k;unfold gb at e;cases q:g (enc a) s with
  |none=>rw[q]at e;cases e
  |some s1=>rw[q]at e;exact⟨s1,s2,h2,rfl,e,c⟩
 rwa [Ae]at this
def YX{Q:Res Vl->Prop}{α:Type}{it:I3}{g:G3}{b r:D3}{s:S3}{h:H3}{its:List V3}{ok:H3->Prop}{enc:α->V3}{l:List α}(c:it s h=.ok ⟨its,l.map enc,ok⟩ h)
  (I:Nat->S3->H3->Prop) (hok:∀i s h,I i s h->ok h) (h0:I 0 s h) (step:∀(i:Nat) a s h,l[i]? =some a->I i s h->∃s2 h2,gb g b (enc a) s h=.nx s2 h2/\I (i+1) s2 h2) (k:∀s' h',I l.length s' h'->Q ((r s' h').res)):Q ((sSeq (zA it g b) r s h).res):=by
 obtain⟨s',h',e,d⟩:=EO c I hok h0 step;rw[qd e];exact k s' h' d
def Is(h:H3)(r:Vl)(R:Res Vl):Prop:=R=.ok r h
def Yes(R:Res Vl):Prop:=∃h',R=.ok (.v (.bl true)) h'
def HV:zr s h (.s i) (.x (.int j))=match s[i]? with
  |some (some (.m (.lst xs)))=>(atI xs j).map .v
  |_=>none:=by
 unfold zr qS oIxT yV oIxS;simp only[rdl];generalize s[i]? =o
 match o with
 |none|some none|some (some (.v _))=>rfl
 |some (some (.m (.lst xs)))=>simp only[];cases atI xs j<;>rfl
 |some (some (.m (.dT _)))|some (some (.m (.ins _ _)))|some (some (.m .dead))=>rfl
def Q9(e:s[i]? =some (some (.m (.lst (l++[x]))))):zr s h (.s i) (.x (.int (-1)))=some (.v x):=by
 rw[HV,e];simp only[atm1,Am]
def QA{α β:Type}{l:List α}{f:α->β}:(l.map f).isEmpty=l.isEmpty:=by cases l<;>rfl
def QB{α:Type}{l:List α}{n:Nat}{x y:α}(h:l.length=n):(l++[x]).set n y=l++[y]:=by
 subst h;rw[Ey _ _ (Ag _)];simp
def Qr{α:Type}{l:List α}{i:Nat}{a:α}(h:l[i]? =some a):l.drop i=a::l.drop (i+1):=by
 obtain⟨hi,rfl⟩:=Ao.1 h;exact Fh hi
def Ql{α:Type}{l:List α}{i:Nat}{a:α}(h:l[i]? =some a):l.take (i+1)=l.take i++[a]:=by rw[Fe,h];rfl
def YY{α:Type}(xs:List α)(k:Nat):yY xs (some (k:Int)) none=xs.drop k:=by
 unfold yY HT.sIx;have h1: ¬((k:Int)<0):=by lia
 simp only[Ac h1,Br]
 by_cases hk:k<=xs.length
 .rw[Nat.min_eq_left hk,Gr (by simp)]
 .rw[Nat.min_eq_right (by lia),Cm,List.drop_eq_nil_of_le (by lia)];simp
def YZ{α:Type}(xs:List α)(k:Nat):yY xs none (some (k:Int))=xs.take k:=by
 unfold yY HT.sIx;have h1: ¬((k:Int)<0):=by lia
 simp only[Ac h1,Br,Ex,Nat.sub_zero];rw[List.take_eq_take_iff];lia
theorem Mf:∀{xs:List V3},(∀x∈xs,f x x=some true)->qc f xs xs=some true
 | [],_=>rfl
 |x::r,h=>by simp only[qc,h x Aj,Mf (xs:=r) λ y a=>h y (Ap _ a),Bool.and_self]
def Za(a:rdm s h f=some xs)(b:rdm s h g=some xs)(c:∀x∈xs,zU h 8 x x=some true):j9 s h f g=some true:=by
 unfold j9;rw[a,b];simp only[B6,Mf c]
def J1(a:rdm s h f=some xs)(b:rdm s h g=some xs)(c:∀x∈xs,zU h 8 x x=some true):yq s h f g=some (.v (.bl false)):=by
 unfold yq;rw[Za a b c];rfl
def QC(a:∀x∈xs,zU h n x x=some true):zU h (n+1) (.tup xs) (.tup xs)=some true:=by
 simp only[zU,qw];rw[Mf a];simp
def QD:qq s h (.x (.str i)) (.x (.str j))=some (.v (.bl (decide (i=j)))):=by
 unfold qq j9;simp only[rdm,rdl,IM,Am]
def ER:rdm s h (.x (.lst xs))=some xs:=rfl
def Zb(e:s[i]? =some (some (.m (.lst xs)))):rdm s h (.s i)=some xs:=by
 show rdl s h (.s i)=_;simp only[rdl,e]
def Zc(e:h[n]? =some (.lst xs)):rdm s h (.x (.loc n))=some xs:=by
 show rdl s h (.x (.loc n))=_;simp only[rdl,e]
def IsL(h:H3)(x:V3)(xs:List V3):Prop:=x=.lst xs\/∃n,x=.loc n/\h[n]? =some (.lst xs)
def IsL.walk(l:IsL h x xs):∃ok,yL h x=some (xs,ok):=by
 rcases l with rfl|⟨n,rfl,e⟩
 .exact⟨_,rfl⟩
 .exact⟨_,by simp only[yL,e];rfl⟩
theorem IsL.rdl(l:IsL h x xs):L3.rdl s h (.x x)=some xs:=by
 rcases l with rfl|⟨n,rfl,e⟩
 .rfl
 .simp only[L3.rdl,e]
def ch(i:Int):Nat:=abc9.getD i.toNat 0
def QE(h0:0<=i)(h1:i<36):atI abc9 i=some (ch i):=by
 obtain⟨n,rfl⟩:=Int.eq_ofNat_of_zero_le h0;have a:n<abc9.length:=by show n<36;lia
 refine jK (j:=n) ?_
 rw[zX a];unfold ch;rw[Cf,Br,zX a];rfl
def QF(x:Int):atI abc9 (x%36)=some (ch (x%36)):=QE (by lia) (by lia)
def Zd(x:Int):atI abc9 (x%26)=some (ch (x%26)):=QE (by lia) (by lia)
def Ze:∀n:Nat,n<36->(qB (ch n) || j4 (ch n))=true:=by decide
def Zf:∀n:Nat,n<26->qB (ch n)=true:=by decide
def Zg:∀m n:Nat,m<36->n<36->ch m=ch n->m=n:=by
 have:∀m:Nat,m<36->∀n:Nat,n<36->ch m=ch n->m=n:=by decide
 exact λ m n a b=>this m a n b
def QG(x:Int):(qB (ch (x%36)) || j4 (ch (x%36)))=true:=by
 have:=Ze (x%36).toNat (by lia)
 rwa [show (((x%36).toNat:Nat):Int)=x%36 by lia]at this
def Zh(x:Int):qB (ch (x%26))=true:=by
 have:=Zf (x%26).toNat (by lia)
 rwa [show (((x%26).toNat:Nat):Int)=x%26 by lia]at this
def Zi(h:ch (x%36)=ch (y%36)):x%36=y%36:=by
 have:=Zg (x%36).toNat (y%36).toNat (by lia) (by lia) (by rw[show (((x%36).toNat:Nat):Int)=x%36 by lia,show (((y%36).toNat:Nat):Int)=y%36 by lia];exact h)
 lia
def nodup_range{α:Type}{f:Nat->α}{n:Nat}(h:∀i j,i<j->j<n->f i≠f j):((List.range n).map f).Nodup:=by
 unfold List.Nodup;rw[List.pairwise_map]
 refine List.Pairwise.imp_of_mem (λ {a b} e d c=>h a b c (by simpa using d)) Hk
def Zj{Q:Res Vl->Prop}{ok:H3->Prop}{g:G3}{b r:D3}{α:Type}{enc:α->V3}{l:List α}(I:Nat->S3->H3->Prop)(hok:∀i s h,I i s h->ok h)
  (step:∀(i:Nat) a s h,l[i]? =some a->I i s h->(∃s2 h2,(gb g b (enc a) s h=.nx s2 h2\/gb g b (enc a) s h=.ct s2 h2)/\I (i+1) s2 h2)\/(∃v h2,gb g b (enc a) s h=.rt v h2/\Q (.ok v h2))\/∃s2 h2,gb g b (enc a) s h=.bk s2 h2/\Q ((r s2 h2).res))
  (k:∀s' h',I l.length s' h'->Q ((r s' h').res)):∀(n i:Nat)(s:S3)(h:H3),l.length-i=n->i<=l.length->I i s h->Q ((match zP ok g b ((l.drop i).map enc) s h with | .nx s h=>r s h|o=>o).res):=by
 intro n
 induction n with
 |zero=>
  intro i s h f hi d;have e:i=l.length:=by lia
  subst e;rw[Cm,Bl];unfold zP;rw[Ab (hok _ _ _ d)];exact k s h d
 |succ n ih=>
  intro i s h f hi d;have c:i<l.length:=by lia
  rw[Qr (zX c),Ah];unfold zP;rw[Ab (hok _ _ _ d)];have st:=step i l[i] s h (zX c) d;unfold gb at st;cases q:g (enc l[i]) s with
  |none=>simp only[q]at st;rcases st with ⟨_,_,z|z,_⟩|⟨_,_,z,_⟩|⟨_,_,z,_⟩<;>cases z
  |some s1=>
   simp only[q]at st ⊢
   rcases st with ⟨s2,h2,z|z,hI2⟩|⟨v,h2,z,hq⟩|⟨s2,h2,z,hq⟩
   .rw[z];exact ih (i+1) s2 h2 (by lia) c hI2
   .rw[z];exact ih (i+1) s2 h2 (by lia) c hI2
   .rw[z];exact hq
   .rw[z];exact hq
def it_E{Q:Res Vl->Prop}{α:Type}{it:I3}{g:G3}{b r:D3}{s:S3}{h:H3}{its:List V3}{ok:H3->Prop}{enc:α->V3}{l:List α}(c:it s h=.ok ⟨its,l.map enc,ok⟩ h)
  (I:Nat->S3->H3->Prop) (hok:∀i s h,I i s h->ok h) (h0:I 0 s h)
  (step:∀(i:Nat) a s h,l[i]? =some a->I i s h->(∃s2 h2,(gb g b (enc a) s h=.nx s2 h2\/gb g b (enc a) s h=.ct s2 h2)/\I (i+1) s2 h2)\/(∃v h2,gb g b (enc a) s h=.rt v h2/\Q (.ok v h2))\/∃s2 h2,gb g b (enc a) s h=.bk s2 h2/\Q ((r s2 h2).res))
  (k:∀s' h',I l.length s' h'->Q ((r s' h').res)):Q ((sSeq (zA it g b) r s h).res):=by
 have:=Zj (Q:=Q) (r:=r) I hok step k _ 0 s h rfl (B5 _) h0;unfold sSeq zA;simp only[c,Res.bindS];rw[Ex]at this;exact this
def Zk(ep:p s h=.ok (.x x) h)(a:yL h x=some (xs,ok)):iL p s h=.ok ⟨[x],xs,ok⟩ h:=by
 unfold iL;simp only[ep,Res.bind,a]
end L3
namespace L3
open PySem PySem.Spec PyProof.Rows L2
def QH{t:T3}{b:D3}{Post:S3->H3->Prop}(I:Nat->S3->H3->Prop)
  (step:∀n s h,I n s h->(∃h1,t s h=.ok false h1/\Post s h1)\/∃h1 s2 h2 a,t s h=.ok true h1/\b s h1=.nx s2 h2/\a < n/\I a s2 h2):
  ∀(n:Nat)(s:S3)(h:H3),I n s h->∃s' h',AD t b s h=.nx s' h'/\Post s' h':=by
 have key:∀(n:Nat)(s:S3)(h:H3),I n s h->∃k s' h',jz t b k s h=some (.nx s' h')/\Post s' h':=by
  intro n
  induction n using Nat.strongRecOn with
  |_ n ih=>
   intro s h c
   rcases step n s h c with ⟨h1,e1,p⟩|⟨h1,s2,h2,a,e1,e2,hn,hI'⟩
   .exact⟨1,s,h1,by unfold jz;rw[e1],p⟩
   .obtain⟨k,s',h',d,p⟩:=ih a hn s2 h2 hI'
    refine⟨k+1,s',h',?_,p⟩
    unfold jz;rw[e1];simp only[B6,e2];exact d
 intro n s h c;obtain⟨k,s',h',e,p⟩:=key n s h c;exact⟨s',h',UU e,p⟩
def QI{Q:Res Vl->Prop}{t:T3}{b r:D3}(I:Nat->S3->H3->Prop){n:Nat}{s:S3}{h:H3}(h0:I n s h)
  (step:∀n s h,I n s h->(∃h1,t s h=.ok false h1/\Q ((r s h1).res))\/∃h1 s2 h2 a,t s h=.ok true h1/\b s h1=.nx s2 h2/\a < n/\I a s2 h2):Q ((sSeq (AD t b) r s h).res):=by
 obtain⟨s',h',e,p⟩:=QH (Post:=λ s h=>Q ((r s h).res)) I step n s h h0
 exact zF e p
end L3
namespace My
open PySem L2 L3
noncomputable abbrev zj(p:Int×Int):V3:= .tup [.int p.1,.int p.2]
noncomputable def mix1(c k:Int):Int:=(c+7919*k)*48271%2147483647
def mix2(c k:Int):Int:=mix1 c k*mix1 c k%2147483629
def qx(c k:Int):Int:=(mix2 c k*mix2 c k+16807*mix2 c k+11)%2147483587
def QJ(c k:Int):0<=mix1 c k/\mix1 c k<2147483647:=⟨Gx _ (by decide),Gy _ (by decide)⟩
def QK(c k:Int):0<=mix2 c k/\mix2 c k<2147483629:=⟨Gx _ (by decide),Gy _ (by decide)⟩
def CM(c k:Int)(h:H3):AQ [.int c,.int k] h=.ok (.v (.int (qx c k))) h:=by
 have a:CMul 7919 k:=jI ⟨by decide,by decide⟩
 have b:CMul (c+7919*k) 48271:=VZ ⟨by decide,by decide⟩
 have d:CMul (mix1 c k) (mix1 c k):=jI ⟨by have:=QJ c k;lia,by have:=QJ c k;lia⟩
 have e:CMul (mix2 c k) (mix2 c k):=jI ⟨by have:=QK c k;lia,by have:=QK c k;lia⟩
 have f:CMul 16807 (mix2 c k):=jI ⟨by decide,by decide⟩
 have g:(c+7919*k)*48271%2147483647=mix1 c k:=rfl;have i:mix1 c k*mix1 c k%2147483629=mix2 c k:=rfl;simp![AQ,K8,a,b,d,e,f,g,i,qx]
def cell(ns:List Int)(k:Nat):Int:=(ns[k]?).getD 0
def Zl(ns:List Int)(k:Nat)(h:H3):AR [.scr ns,.int k] h=.ok (.v (.int (cell ns k))) h:=by
 by_cases hk:k<ns.length
 .have a:((k:Int)<(ns.length:Int)):=by lia
  have c:atI (ns.map V3.int) (k:Int)=some (.int ns[k]):=jK (j:=k) (by rw[Az,zX hk];rfl)
  have b:cell ns k=ns[k]:=by unfold cell;rw[zX hk];rfl
  simp![AR,IZ,Ae,a,c,b]
 .have a: ¬((k:Int)<(ns.length:Int)):=by lia
  have b:cell ns k=0:=by unfold cell;rw[Ed (by lia)];rfl
  simp![AR,IZ,Ae,a,b]
structure RowsOk(rows:List (Int×Int))(rest by_:Int):Prop where
 len:rows.length<=5
 one:∀p∈rows,1<=p.1/\p.1<=9*by_/\0<=p.2/\p.2<=4
 rest:1<=rest/\rest<=16
 by_:1<=by_/\by_<=90000
def Zm(h:H3)(R:Res Vl):Prop:=∃rows rest by_,R=.ok (.v (.tup [.lst (rows.map zj),.int rest,.int by_])) h/\RowsOk rows rest by_
def Zn(c:Int)(h:H3):Zm h (GL [.int c] h):=by
 unfold GL KA K9
 refine qo rfl ?_
 refine zF (by (simp![CM])<;>rfl) ?_
 refine zF (by (simp![CM])<;>rfl) ?_
 refine zF (by (simp![CM])<;>rfl) ?_
 generalize hby:(if c / 60%8=1 then (1+qx c 9%90000:Int) else 1)=by_
 have e:1<=by_/\by_<=90000:=by rw[<-hby];split<;>lia
 have f: -(2 ^ 62)<=c%6/\c%6<2 ^ 62:=by lia
 refine GK (j:=c%6) (by simp![]) f (λ i s=> ∃rows x3 x4,s=[some (.v (.int c)),some (.v (.int by_)),some (.m (.lst (rows.map zj))),x3,x4,none]/\rows.length=i/\∀p∈rows,1<=p.1/\p.1<=9*by_/\0<=p.2/\p.2<=4) ⟨[],_,_,rfl,rfl,by simp⟩ ?_ ?_
 .rintro i s hi ⟨rows,x3,x4,rfl,d,hp⟩
  have g:CMul 6 (i:Int):=jI ⟨by decide,by decide⟩
  have k:(0:Int)<=6*(i:Int):=by lia
  have l:∀x,CMul by_ x:=λ x=>jI ⟨by lia,by lia⟩
  have n:rows.length<sizeLine:=by have:=yK;lia
  refine⟨_,by (simp![CM,g,k,l,n,Ae])<;>rfl,?_⟩
  refine⟨rows++[(_,_)],_,_,by rw[Av];rfl,by simp[d],?_⟩
  intro p a;rw[Bc,Au]at a
  rcases a with a|rfl
  .exact hp p a
  .refine⟨?_,?_,by lia,by lia⟩
   .have:1<=by_*1:=by lia
    exact Int.le_trans this (Int.mul_le_mul_of_nonneg_left (by lia) (by lia))
   .rw[Int.mul_comm 9]
    exact Int.mul_le_mul_of_nonneg_left (by lia) (by lia)
 .rintro s ⟨rows,x3,x4,rfl,d,hp⟩
  have b:∀p:Prop,[Decidable p]->1<=(if p then 16 else 1+c / 6%3:Int)/\(if p then 16 else 1+c / 6%3:Int)<=16:=by intro p _;split<;>lia
  refine⟨rows,_,by_,by (simp![])<;>rfl,⟨by lia,hp,b _,e⟩⟩
def base(c:Int):List Nat:=(List.range 7).map λ k:Nat=>ch (qx c (k:Int)%36)
def J2(c:Int):(base c).length=7:=by simp[base]
def Mg(c:Int):∀x∈base c,(qB x || j4 x)=true:=by
 intro x a;obtain⟨k,_,rfl⟩:=Ak.1 a;exact QG _
def Zo(c:Int)(x1:Option Vl)(r:S3)(h:H3):
  GM (some (.v (.int c))::x1::some (.v (.str (tx abc9)))::r) h=.ok (.m (.lst ((List.range 7).map λ k:Nat=>.str (tx [ch (qx c (k:Int)%36)])))) h:=by
 unfold GM
 refine J0 (j:=7) (λ s=> ∃x,s=[x,some (.v (.str (tx abc9))),some (.v (.int c))]) (λ k:Nat=>.str (tx [ch (qx c (k:Int)%36)])) (by simp![]) (by decide) ⟨none,?_⟩ ?_
 .simp[yo]
 .rintro k s _ ⟨x,rfl⟩
  have a:abc9.length<=sizeLine:=sz36
  refine⟨_,_,by (simp![])<;>rfl,⟨_,rfl⟩,by (simp![CM,Jy,a,QF])<;>rfl,rfl⟩
def Zp(a:Nat)(b:List Nat)(m:Int)(f:0<=m/\m<=100)(g:b.length<=100)(d x2:Option Vl)(r:S3)(h:H3):
  GN (d::some (.v (.int m))::x2::some (.v (.str (tx b)))::some (.v (.str (tx [a])))::r) h=.ok (.m (.lst ((List.range m.toNat).map λ k=>.str (tx (a::b.take k))))) h:=by
 unfold GN
 refine J0 (j:=m) (λ s=> ∃x,s=[x,some (.v (.str (tx [a]))),some (.v (.str (tx b)))]) (λ k=>.str (tx (a::b.take k))) (by simp![]) (by lia) ⟨none,?_⟩ ?_
 .simp[yo]
 .rintro k s _ ⟨x,rfl⟩
  have e:b.length<=sizeLine:=by have:=yK;lia
  have c:∀k,[a].length+(b.take k).length<=sizeLine:=λ k=>by
   have h1:=yK;have h2:(b.take k).length<=b.length:=by rw[Ay];lia
   rw[Cc];lia
  refine⟨_,_,by (simp![])<;>rfl,⟨_,rfl⟩,by (simp![j8,j7,Qc,Q8,e])<;>(rw[Jz (c k)])<;>rfl,rfl⟩
def Zq(a:Int)(h:H3)(R:Res Vl):Prop:=∃ls:List (List Nat),R=.ok (.m (.lst (ls.map λ l=>.str (tx l)))) h/\ls.length=a.toNat/\(∀l∈ls,isN l=true)/\ls.Nodup
def QL{a:Nat}{l:List Nat}(b:qB a=true)(c:l.length<=7)(h:∀x∈l,(qB x || j4 x)=true):isN (a::l)=true:=by
 unfold isN;rw[Ax,Cd (show 1<=l.length+1 by lia),Cd (show l.length+1<=8 by lia),List.headD_cons,b,Fi,b]
 simp only[Ew,Ei];exact Gc.2 h
def nmB(c:Int)(at_:Nat)(k:Nat):List Nat:=ch (qx c 8%26)::((base c).take at_++ch ((c+7*(k:Int))%36)::(base c).drop (at_+1))
def Zr(c m:Int)(E:0<=m/\m<=12)(h:H3):Zq m h (GO [.int c,.int m] h):=by
 unfold GO KC KB
 refine qo rfl ?_
 refine zF (by (simp![])<;>rfl) ?_
 rw[Q6];have d:abc9.length<=sizeLine:=sz36;have t:pE (eC (V3.str ""))=λ(_:S3) h=>Res.ok (.x (.str (tx []))) h:=by rw[YO];rfl
 refine zF (s1:=[some (.v (.int c)),some (.v (.int m)),some (.v (.str (tx abc9))),some (.v (.str (tx (base c)))),none,none,none,none,none]) (h1:=h) ?_ ?_
 .have:=YU (p:=pE (eC (V3.str ""))) (a:=aCons (pE GM) aNil) (s:=[some (.v (.int c)),some (.v (.int m)),some (.v (.str (tx abc9))),none,none,none,none,none,none]) (h:=h) (ls:=(List.range 7).map λ k:Nat=>[ch (qx c (k:Int)%36)])
   (by rw[t]) (by simp![Zo,Bg];rfl) (by simp) (by simp)
  have e2:((List.range 7).map λ k:Nat=>[ch (qx c (k:Int)%36)]).flatten=base c:=by unfold base;rw[<-List.flatMap_def];rfl
  rw[e2]at this;simp![this]
 refine zF (by (simp![CM,Jy,d,Zd])<;>rfl) ?_
 have f:=Zh (qx c 8)
 by_cases hc:c%3=0/\m<9
 .obtain⟨g,n⟩:=hc
  refine⟨(List.range m.toNat).map λ k=>ch (qx c 8%26)::(base c).take k,?_,by simp,?_,nodup_range ?_⟩
  ·(simp![g,n,Zp (ch (qx c 8%26)) (base c) m (by lia) (by rw[J2];lia),Bg])<;>rfl
  .intro l d
   obtain⟨k,_,rfl⟩:=Ak.1 d
   refine QL f (by rw[Ay,J2];lia) λ x b=>Mg c x (Ek b)
  .intro i j o u e
   have:=congrArg List.length e;rw[Ax,Ax,Ay,Ay,J2]at this;lia
 .have e:(sIf (tAnd3 (tE (eOp qq (pE (eOp zH (pV 0) (kJ 3))) (kJ 0))) (tE (eOp jq (pV 1) (kJ 9)))) (sSeq (sFz 3) (sRet GN)) sSkip) [some (.v (.int c)),some (.v (.int m)),some (.v (.str (tx abc9))),some (.v (.str (tx (base c)))),some (.v (.str (tx [ch (qx c 8%26)]))),none,none,none,none] h=.nx [some (.v (.int c)),some (.v (.int m)),some (.v (.str (tx abc9))),some (.v (.str (tx (base c)))),some (.v (.str (tx [ch (qx c 8%26)]))),none,none,none,none] h:=by
   by_cases h1:c%3=0
   .have h2: ¬m<9:=λ z=>hc ⟨h1,z⟩
    simp![h1,h2]
   .simp![h1]
  refine zF e ?_
  refine zF (by (simp![])<;>rfl) ?_
  refine zF (by (simp![])<;>rfl) ?_
  obtain⟨a,w⟩:=Int.eq_ofNat_of_zero_le (show 0<=c / 3%7 by lia)
  have y:a<7:=by lia
  rw[w];have A:=J2 c
  refine GK (j:=m) (by simp![]) (by lia) (λ i s=> ∃x7 x8,s=[some (.v (.int c)),some (.v (.int m)),some (.v (.str (tx abc9))),some (.v (.str (tx (base c)))),some (.v (.str (tx [ch (qx c 8%26)]))),some (.v (.int a)),some (.m (.lst (((List.range i).map (nmB c a)).map λ l=>.str (tx l)))),x7,x8]) ⟨none,none,rfl⟩ ?_ ?_
  .rintro i s hi ⟨x7,x8,rfl⟩
   have B:CMul 7 (i:Int):=jI ⟨by decide,by decide⟩
   have C:=yK;have q:(base c).length<=sizeLine:=by lia
   have b1:[ch (qx c 8%26)].length+((base c).take a).length<=sizeLine:=by rw[Cc,Ay];lia
   have b2:∀x:Nat,([ch (qx c 8%26)]++(base c).take a).length+[x].length<=sizeLine:=λ x=>by rw[Ar,Cc,Cc,Ay];lia
   have b3:∀x:Nat,(([ch (qx c 8%26)]++(base c).take a)++[x]).length+((base c).drop (a+1)).length<=sizeLine:=λ x=>by rw[Ar,Ar,Cc,Cc,Ay,Fy];lia
   have e1:((a:Int)+1)=((a+1:Nat):Int):=by lia
   have r:∀x,qN (((List.range i).map (nmB c a)).map λ l=>V3.str (tx l)) [x]=some ((((List.range i).map (nmB c a)).map λ l=>V3.str (tx l))++[x],.non):=λ x=>mAppend_ok (by rw[Ae,Ae,Bq];lia)
   refine⟨_,by (simp![Jy,d,QF,B,j8,j7,Qc,Q8,YS,q,e1]);(simp only[Jz b1,Jz (b2 _),Jz (b3 _),opt,Vl.fz,Res.bind,Res.bindS,L3.vals3,r,Am]);rfl,⟨some (.v (.int i)),some (.v (.str (tx [ch ((c+7*(i:Int))%36)]))),?_⟩⟩
   have D:nmB c a i=[ch (qx c 8%26)]++(base c).take a++[ch ((c+7*(i:Int))%36)]++(base c).drop (a+1):=by simp[nmB]
   rw[Gz,Av,Av,Ah,Bl,Ah,Bl,D]
  .rintro s ⟨x7,x8,rfl⟩
   refine⟨(List.range m.toNat).map (nmB c a),by (simp![])<;>rfl,by simp,?_,nodup_range ?_⟩
   .intro l d
    obtain⟨k,_,rfl⟩:=Ak.1 d;unfold nmB
    refine QL f ?_ ?_
    .rw[Ar,Ax,Ay,Fy];lia
    .intro x b
     rw[Bc,Af]at b
     rcases b with b|rfl|b
     .exact Mg c x (Ek b)
     .exact QG _
     .exact Mg c x (List.mem_of_mem_drop b)
   .intro i j o u e
    unfold nmB at e;have e2:=(List.append_inj (List.cons.inj e).2 rfl).2;have:=Zi (List.cons.inj e2).1;lia
def J3(ns:List Int)(k:Int)(a:0<=k)(h:H3):AR [.scr ns,.int k] h=.ok (.v (.int (cell ns k.toNat))) h:=by
 have:=Zl ns k.toNat h
 rwa [show ((k.toNat:Nat):Int)=k by lia]at this
structure J where
 nm:List Nat
 f:Int
 l:Int
 w:Int
 b:Int
 deriving DecidableEq
abbrev J.enc(j:J):V3:= .tup [.str (tx j.nm),.int j.f,.int j.l,.int j.w,.int j.b]
structure J.Ok(j:J):Prop where
 nm:isN j.nm=true
 f:0<=j.f/\j.f<=1000000000
 l: -1<=j.l/\j.l<=10000000000
 w:1<=j.w/\j.w<=60
 b:1<=j.b/\j.b<=16
structure LoadOk(js:List J):Prop where
 len:js.length<=12
 one:∀j∈js,j.Ok
 nd:(js.map J.nm).Nodup
noncomputable def wd(x:Int):Int:=if x%3=0 then 4 else if x%3=1 then 12 else 60
noncomputable def bd(x:Int):Int:=if x%4=0 then 1 else if x%4=1 then 1 else if x%4=2 then 3 else 16
def Zs(x:Int):atI [V3.int 4,V3.int 12,V3.int 60] (x%3)=some (.int (wd x)):=by
 unfold wd;have h:x%3=0\/x%3=1\/x%3=2:=by lia
 rcases h with h|h|h<;>rw[h]<;>rfl
def Zt(x:Int):atI [V3.int 1,V3.int 1,V3.int 3,V3.int 16] (x%4)=some (.int (bd x)):=by
 unfold bd;have h:x%4=0\/x%4=1\/x%4=2\/x%4=3:=by lia
 rcases h with h|h|h|h<;>rw[h]<;>rfl
def wd_b(x:Int):0<wd x/\wd x<=60:=by unfold wd;split;lia;split<;>lia
def bd_b(x:Int):0<bd x/\bd x<=16:=by unfold bd;split;lia;split;lia;split<;>lia
def Zu(h:H3)(R:Res Vl):Prop:=∃js:List J,R=.ok (.m (.lst (js.map J.enc))) h/\LoadOk js
def Zv(ns:List Int)(by_:Int)(H:1<=by_/\by_<=90000)(h:H3):Zu h (GP [.scr ns,.int by_] h):=by
 unfold GP KF KD
 refine qo rfl ?_
 generalize hc:cell ns (1:Int).toNat=c
 refine zF (by (simp![J3,hc])<;>rfl) ?_
 refine zF (by (simp![])<;>rfl) ?_
 refine zF (by (simp![])<;>rfl) ?_
 refine zF (by (simp![])<;>rfl) ?_
 have p1:CPow 10 8:=by decide
 have p2:CMul 9 ((10:Int) ^ (8:Int).toNat):=by decide
 have p3:(0:Int)<9*10 ^ (8:Int).toNat:=by decide
 refine zF (by (simp![CM,p1,p2,p3])<;>rfl) ?_
 generalize hm:(if c / 8%16=1 then (12:Int) else c%8)=m
 have q:0<=m/\m<=12:=by rw[<-hm];split<;>lia
 generalize hf:(if c / 128%8=1 then qx c 10%(9*10 ^ (8:Int).toNat) else 0)=far
 have u:0<=far/\far<900000000:=by
  have e:(9*10 ^ (8:Int).toNat:Int)=900000000:=by decide
  rw[<-hf,e];split<;>lia
 obtain⟨ls,w,y,z,hd⟩:=Zr (cell ns (2:Int).toNat) m q h
 refine zF (by (simp![J3,w])<;>rfl) ?_
 refine zF (by (simp![])<;>rfl) ?_
 refine GK (j:=m) (by simp![]) (by lia) (λ i s=> ∃js x7 x8 x9 a b d,s=[some (.v (.scr ns)),some (.v (.int by_)),some (.v (.int c)),some (.v (.int m)),some (.v (.int far)),some (.m (.lst (ls.map λ l=>.str (tx l)))),some (.m (.lst (js.map J.enc))),x7,x8,x9,a,b,d]/\js.length=i/\(∀j∈js,j.Ok)/\js.map J.nm=ls.take i) ⟨[],none,none,none,none,none,none,rfl,rfl,by simp,by simp⟩ ?_ ?_
 .rintro i s hi ⟨js,x7,x8,x9,a,b,d,rfl,k,f,g⟩
  have o:i<ls.length:=by lia
  have A:(0:Int)<=4+(i:Int):=by lia
  have B:∀x,CMul by_ x:=λ x=>jI ⟨by lia,by lia⟩
  have C:js.length<sizeLine:=by have:=yK;lia
  have r:∀x,0<wd x:=λ x=>(wd_b x).1
  have t:∀x,0<bd x:=λ x=>(bd_b x).1
  have D:atI (ls.map λ l=>V3.str (tx l)) (i:Int)=some (.str (tx ls[i])):=jK (j:=i) (by rw[Az,zX o];rfl)
  refine⟨_,by (simp![J3,CM,A,B,C,r,t,Zs,Zt,HV,D,Ae])<;>rfl,?_⟩
  generalize hnn:(if c / 1024%2=0 then qx (cell ns (4+(i:Int)).toNat) i else cell ns (4+(i:Int)).toNat)=n
  have I:0<=by_*(n%17)/\by_*(n%17)<=90000*16:=by
   refine⟨G0 (by lia) (by lia),?_⟩
   exact Int.mul_le_mul (by lia) (by lia) (by lia) (by lia)
  have K:0<=by_*(1+n / 17%11)/\by_*(1+n / 17%11)<=90000*11:=by
   refine⟨G0 (by lia) (by lia),?_⟩
   exact Int.mul_le_mul (by lia) (by lia) (by lia) (by lia)
  have L:0<=n / 3000%wd (n / 180000)/\n / 3000%wd (n / 180000)<wd (n / 180000):=⟨Gx _ (by have:=r (n / 180000);lia),Gy _ (r _)⟩
  have E:0<=n / 540000%bd (n / 8640000)/\n / 540000%bd (n / 8640000)<bd (n / 8640000):=⟨Gx _ (by have:=t (n / 8640000);lia),Gy _ (t _)⟩
  have F:=(wd_b (n / 180000)).2;have G:=(bd_b (n / 8640000)).2
  refine⟨js++[⟨ls[i],far+by_*(n%17),if n / 187%16=1 then far+by_*(n%17)-1 else far+by_*(n%17)+by_*(1+n / 17%11)-1,1+n / 3000%wd (n / 180000),1+n / 540000%bd (n / 8640000)⟩],_,_,_,_,_,_,by rw[Av];rfl,by simp[k],?_,?_⟩
  .intro j p
   rw[Bc,Au]at p
   rcases p with p|rfl
   .exact f j p
   .refine⟨z _ (C8 _),?_,?_,?_,?_⟩
    .dsimp only;lia
    .dsimp only;split<;>lia
    .dsimp only;lia
    .dsimp only;lia
  .rw[Av,g,Fe,zX o];rfl
 .rintro s ⟨js,x7,x8,x9,a,b,d,rfl,k,f,g⟩
  refine⟨js,by (simp![])<;>rfl,⟨by lia,f,?_⟩⟩
  rw[g,<-y,Cj];exact hd
end My
namespace Cal
abbrev P:=Int×Int
noncomputable def at_:List P->Int->Int->Int
 | [],rest,_=>rest
 |p::r,rest,t=>if t<p.1 then p.2 else at_ r rest (t-p.1)
noncomputable def jO:List P->Int->Int->Int
 | [],rest,t=>max 0 t*rest
 |p::r,rest,t=>min p.1 (max 0 t)*p.2+jO r rest (t-p.1)
noncomputable def cc(a b lo hi:Int):Int:=max 0 (min b hi-max a lo+1)
noncomputable def over:List P->Int->Int->Int->Int->Int
 | [],rest,st,f,l=>rest*cc st l f l
 |p::r,rest,st,f,l=>p.2*cc st (st+p.1-1) f l+over r rest (st+p.1) f l
noncomputable def stops:List P->Int->List Int
 | [],_=>[]
 |p::r,st=>(st+p.1)::stops r (st+p.1)
def Pos(rows:List P):Prop:=∀p∈rows,1<=p.1
def Pos.tail(h:Pos (p::r)):Pos r:=λ x a=>h x (Ap _ a)
def Pos.head(h:Pos (p::r)):1<=p.1:=h p Aj
theorem over_ahead:∀(rows:List P)(rest st f l:Int),Pos rows->over rows rest st f l=if f<=l then jO rows rest (l+1-st)-jO rows rest (f-st) else 0
 | [],rest,st,f,l,_=>by
  unfold over jO
  by_cases h:f<=l
  .rw[Ab h,<-Int.sub_mul,Int.mul_comm]
   congr 1
   unfold cc;lia
  .rw[Ac h]
   have:cc st l f l=0:=by unfold cc;lia
   rw[this,Ez]
 |p::r,rest,st,f,l,hp=>by
  unfold over jO;rw[over_ahead r rest (st+p.1) f l hp.tail];have h1:=hp.head
  by_cases h:f<=l
  .rw[Ab h,Ab h]
   have e1:cc st (st+p.1-1) f l=min p.1 (max 0 (l+1-st))-min p.1 (max 0 (f-st)):=by
    unfold cc
    rcases Int.le_total st f with a|a
    .rw[E4 a,E4 (show 0<=f-st by lia),E4 (show 0<=l+1-st by lia)]
     lia
    .rw[Fs a,Fs (show f-st<=0 by lia),Int.min_eq_right (show (0:Int)<=p.1 by lia)]
     lia
   have e2:l+1-(st+p.1)=l+1-st-p.1:=by lia
   have b:f-(st+p.1)=f-st-p.1:=by lia
   rw[e1,e2,b,Int.mul_comm,Int.sub_mul];lia
  .rw[Ac h,Ac h]
   have:cc st (st+p.1-1) f l=0:=by unfold cc;lia
   rw[this,Ez];rfl
noncomputable def pk(rest:Int):Int->Int->List P->List P
 |a,c,[]=>if c=rest then [] else [(a,c)]
 |a,c,p::r=>if p.2=c then pk rest (a+p.1) c r else (a,c)::pk rest p.1 p.2 r
def kform(rest:Int):List P->List P
 | []=>[]
 |p::r=>pk rest p.1 p.2 r
noncomputable def nstep(a:List P)(r:P):List P:=
 match a.getLast? with
 |some l=>if l.2=r.2 then a.dropLast++[(l.1+r.1,r.2)] else a++[r]
 |none=>a++[r]
def Zw(h:acc.getLast? =some l)(r:P):nstep acc r=if l.2=r.2 then acc.dropLast++[(l.1+r.1,r.2)] else acc++[r]:=by
 unfold nstep;rw[h]
def nstep_snoc(i:List P)(l r:P):nstep (i++[l]) r=if l.2=r.2 then i++[(l.1+r.1,r.2)] else (i++[l])++[r]:=by
 rw[Zw (l:=l) (by simp)]
 simp
noncomputable def drp(rest:Int)(t:List P):List P:=
 match t.getLast? with
 |some l=>if l.2=rest then t.dropLast else t
 |none=>t
def drp_last(h:t.getLast? =some l):drp rest t=if l.2=rest then t.dropLast else t:=by
 unfold drp;rw[h]
def drp_empty(h:t=[]):drp rest t=t:=by rw[h];rfl
theorem Mh(rest:Int):∀(r i:List P)(a c:Int),drp rest (r.foldl nstep (i++[(a,c)]))=i++pk rest a c r
 | [],i,a,c=>by
  rw[List.foldl_nil,drp_last (l:=(a,c)) (by simp)]
  unfold pk
  by_cases h:c=rest
  .rw[Ab h,Ab h];simp
  .rw[Ac h,Ac h]
 |p::r,i,a,c=>by
  rw[Fz,nstep_snoc];unfold pk
  by_cases h:c=p.2
  .rw[Ab h,Ab h.symm]
   have:=Mh rest r i (a+p.1) p.2;rw[<-h]at this ⊢;exact this
  .rw[Ac h,Ac (Bm h)]
   have:=Mh rest r (i++[(a,c)]) p.1 p.2;rw[this,Cq];rfl
def kept_eq(rest:Int)(rows:List P):drp rest (rows.foldl nstep [])=kform rest rows:=by
 cases rows with
 |nil=>rfl
 |cons p r=>exact Mh rest r [] p.1 p.2
theorem Mi(rest:Int):∀(r:List P)(a c t:Int),Pos r->at_ (pk rest a c r) rest t=at_ ((a,c)::r) rest t
 | [],a,c,t,_=>by
  unfold pk
  by_cases h:c=rest
  .rw[Ab h]
   simp only[at_];rw[h];simp
  .rw[Ac h]
 |p::r,a,c,t,h=>by
  have h1:=h.head;unfold pk
  by_cases e:p.2=c
  .rw[Ab e,Mi rest r (a+p.1) c t h.tail]
   simp only[at_]
   by_cases c1:t<a
   .rw[Ab c1,Ab (by lia)]
   .rw[Ac c1]
    by_cases c2:t-a<p.1
    .rw[Ab c2,Ab (by lia),e]
    .rw[Ac c2,Ac (by lia)]
     congr 1;lia
  .rw[Ac e]
   simp only[at_];rw[Mi rest r p.1 p.2 (t-a) h.tail];simp only[at_]
def kform_at(rest:Int)(rows:List P)(t:Int)(h:Pos rows):at_ (kform rest rows) rest t=at_ rows rest t:=by
 cases rows with
 |nil=>rfl
 |cons p r=>exact Mi rest r p.1 p.2 t h.tail
theorem Mj(rest:Int):∀(r:List P)(a c t:Int),0<=a->Pos r->jO (pk rest a c r) rest t=jO ((a,c)::r) rest t
 | [],a,c,t,ha,_=>by
  unfold pk
  by_cases h:c=rest
  .rw[Ab h]
   simp only[jO];rw[h,<-Int.add_mul]
   congr 1;lia
  .rw[Ac h]
 |p::r,a,c,t,ha,h=>by
  have h1:=h.head;unfold pk
  by_cases e:p.2=c
  .rw[Ab e,Mj rest r (a+p.1) c t (by lia) h.tail]
   simp only[jO];have e1:t-(a+p.1)=t-a-p.1:=by lia
   have e2:min (a+p.1) (max 0 t)=min a (max 0 t)+min p.1 (max 0 (t-a)):=by lia
   rw[e1,e2,e,Int.add_mul];lia
  .rw[Ac e]
   simp only[jO];rw[Mj rest r p.1 p.2 (t-a) (by lia) h.tail]
   simp only[jO]
def kform_ahead(rest:Int)(rows:List P)(t:Int)(h:Pos rows):jO (kform rest rows) rest t=jO rows rest t:=by
 cases rows with
 |nil=>rfl
 |cons p r=>exact Mj rest r p.1 p.2 t (by have:=h.head;lia) h.tail
theorem Ml(rest:Int):∀(r:List P)(a c:Int),1<=a->Pos r->Pos (pk rest a c r)
 | [],a,c,ha,_=>by
  unfold pk
  by_cases h:c=rest
  .rw[Ab h];exact λ _ h=>(nomatch h)
  .rw[Ac h]
   intro p hp;rw[Au.mp hp];exact ha
 |p::r,a,c,ha,h=>by
  have h1:=h.head;unfold pk
  by_cases e:p.2=c
  .rw[Ab e];exact Ml rest r (a+p.1) c (by lia) h.tail
  .rw[Ac e]
   intro x b
   rcases Af.mp b with rfl|b
   .exact ha
   .exact Ml rest r p.1 p.2 h1 h.tail x b
def kform_pos(rest:Int)(rows:List P)(h:Pos rows):Pos (kform rest rows):=by
 cases rows with
 |nil=>exact h
 |cons p r=>exact Ml rest r p.1 p.2 h.head h.tail
theorem Mm(rest:Int):∀(r:List P)(a c:Int),(pk rest a c r).length<=r.length+1
 | [],a,c=>by unfold pk;split<;>simp
 |p::r,a,c=>by
  unfold pk
  split
  .exact By (Mm rest r _ _) (by simp)
  .rw[Ax,Ax]
   have:=Mm rest r p.1 p.2;lia
def kform_len(rest:Int)(rows:List P):(kform rest rows).length<=rows.length:=by
 cases rows with
 |nil=>exact Ag _
 |cons p r=>exact Mm rest r p.1 p.2
end Cal
namespace My
open PySem L2 L3
structure RwB(rows:List (Int×Int))(rest:Int):Prop where
 len:rows.length<=16
 one:∀p∈rows,1<=p.1/\p.1<=1000000/\0<=p.2/\p.2<=16
 rest:1<=rest/\rest<=16
def nb2:(Str.ofString "stretches" =Str.ofString "beyond")=False:=eq_false (by decide+kernel)
abbrev yP(rows:List (Int×Int))(rest:Int):V3:= .obj "Calendar" [("stretches",.lst (rows.map zj)),("beyond",.int rest)]
def Zx(a:Int)(h:H3):GQ [.int a] h=.ok (.v (.bl true)) h:=by
 simp![GQ,KH]
def DQ{a b c:Int}(h1:b<=a)(h2:a<=c)(h:H3):Qm [.int a,.int b,.int c] h=.ok (.v (.bl true)) h:=by
 simp![Qm,KJ,Zx,h1,h2]
def Zy{a:Int}(h1:0<=a)(h2:a<=16)(h:H3):HG [.int a] h=.ok (.v (.bl true)) h:=by
 simp![HG,Lv,DQ h1 h2]
def Zz{a:Int}(h1:1<=a)(h2:a<=16)(h:H3):HJ [.int a] h=.ok (.v (.bl true)) h:=by
 simp![HJ,Ly,DQ h1 h2]
def Z0{p:Int×Int}(h1:1<=p.1/\p.1<=1000000/\0<=p.2/\p.2<=16)(h:H3):HH [zj p] h=.ok (.v (.bl true)) h:=by
 simp![HH,Lw,DQ h1.1 h1.2.1,Zy h1.2.2.1 h1.2.2.2]
def Z1{rows:List (Int×Int)}{rest:Int}(b:RwB rows rest)(h:H3):HI [.lst (rows.map zj)] h=.ok (.v (.bl true)) h:=by
 have c:Jp [some (.v (.lst (rows.map zj)))] h=.ok (.m (.lst ((rows.map λ _=>true).map .bl))) h:=by
  unfold Jp;rw[Bg]
  refine EN (x:= .lst (rows.map zj)) (enc:=zj) (λ s=> ∃a,s=[a]) _ (by simp![]) rfl (by have:=b.len;lia) ⟨none,rfl⟩ ?_
  rintro p s hp ⟨a,rfl⟩;exact⟨_,_,by (simp![])<;>rfl,⟨_,rfl⟩,by (simp![Z0 (b.one p hp)])<;>rfl,rfl⟩
 have d: ¬((16:Int)<(rows.length:Int)):=by have:=b.len;lia
 have e:(rows.map λ _=>true).all id=true:=by simp
 simp![HI,Lx,c,Ae,d,Me,e]
def Z2(rows:List (Int×Int))(g:rows.length<=1000)(h:H3):HE [.lst (rows.map zj)] h=.ok (.m (.lst ((rows.foldl Cal.nstep []).map zj))) h:=by
 show Is h _ _;unfold HE Lu Ls
 refine qo rfl ?_
 refine zF (by (simp![])<;>rfl) ?_
 refine DD (x:= .lst (rows.map zj)) (l:=rows) (enc:=zj) (by simp![]) rfl (λ i s=> ∃a x2 x3,s=[some (.v (.lst (rows.map zj))),some (.m (.lst (a.map zj))),x2,x3]/\a.length<=i/\(rows.drop i).foldl Cal.nstep a=rows.foldl Cal.nstep []) ⟨[],none,none,rfl,by simp,by simp⟩ ?_ ?_
 .rintro i p s hi ⟨a,x2,x3,rfl,c,b⟩
  rw[Qr hi,Fz]at b;have e:i<rows.length:=(Ao.1 hi).1;have d:a.length<sizeLine:=by have:=yK;lia
  rcases List.eq_nil_or_concat a with rfl|⟨ini,q,rfl⟩
  .refine⟨_,by (simp![QA,G1])<;>rfl,⟨[(p.1,p.2)],_,_,rfl,by simp,?_⟩⟩
   rw[<-b];rfl
  .rw[Hr,Cal.nstep_snoc]at b
   rw[Hr]at d c ⊢;rw[Av,Ah,Bl];rw[Ar,Cc]at c;have e1:∀(h:H3)(x2 x3:Option Vl),zr [some (.v (.lst (rows.map zj))),some (.m (.lst (ini.map zj++[zj q]))),x2,x3] h (.s 1) (.x (.int (-1)))=some (.v (zj q)):=λ h x2 x3=>Q9 rfl
   have f:ini.length+1<sizeLine:=by simpa using d
   have ne:(ini.map zj++[zj q]).isEmpty=false:=by simp
   have e2:qU (ini.length+1) (-1)=some ini.length:=by
    unfold qU;rw[Ac (by decide),Ab (by lia)]
    congr 1;lia
   by_cases hq:q.2=p.2
   .rw[Ab hq]at b
    refine⟨_,by (simp![ne,e1,hq,IF,Ar,Ae,e2])<;>rfl,⟨ini++[(q.1+p.1,p.2)],some (.v (.int p.1)),some (.v (.int p.2)),?_,by simpa using by lia,b⟩⟩
    rw[Av,Ah,Bl,QB (by rw[Ae])]
   .rw[Ac hq]at b
    refine⟨_,by (simp![ne,e1,hq,f,Ar,Ae])<;>rfl,⟨(ini++[q])++[p],some (.v (.int p.1)),some (.v (.int p.2)),?_,by simpa using by lia,b⟩⟩
    rw[Av,Av,Ah,Bl,Ah,Bl]
 .rintro s ⟨a,x2,x3,rfl,c,b⟩
  rw[Cm,List.foldl_nil]at b;subst b;unfold Is
  (simp![])<;>rfl
def Z3(rows:List (Int×Int))(rest:Int)(c:rows.length<=1000)(h:H3):DJ [.lst (rows.map zj),.int rest] h=.ok (.m (.lst ((Cal.kform rest rows).map zj))) h:=by
 rw[<-Cal.kept_eq];generalize hm:rows.foldl Cal.nstep []=t;have a:=Z2 rows c h;rw[hm]at a
 rcases List.eq_nil_or_concat t with rfl|⟨ini,q,rfl⟩
 .rw[Cal.drp_empty rfl]
  (simp![DJ,HF,a,QA,G1])
 .rw[Hr]at a ⊢
  rw[Cal.drp_last (l:=q) (by simp),List.dropLast_concat]
  have ne:(ini.map zj++[zj q]).isEmpty=false:=by simp
  have e1:∀(h:H3)(b x1:Option Vl),zr [b,x1,some (.m (.lst (ini.map zj++[zj q])))] h (.s 2) (.x (.int (-1)))=some (.v (zj q)):=λ h b x1=>Q9 rfl
  rw[Av,Ah,Bl]at a;have d:mPop (ini.map zj++[zj q]) []=some (ini.map zj,zj q):=by
   unfold mPop;simp
  by_cases hq:q.2=rest
  .rw[Ab hq]
   (simp![DJ,HF,a,ne,e1,hq,d])
  .rw[Ac hq]
   (simp![DJ,HF,a,ne,e1,hq,Av])
def Z4{rows:List (Int×Int)}{rest:Int}(a:RwB rows rest)(h:H3):BH [.loc h.length,.lst (rows.map zj),.int rest] (h++[.ins "Calendar" []])=.ok (.v .non) (h++[.ins "Calendar" [("stretches",.lst ((Cal.kform rest rows).map zj)),("beyond",.int rest)]]):=by
 have b:∀c,(h++[C3.ins "Calendar" c])[h.length]? =some (.ins "Calendar" c):=λ c=>by simp
 have hs:∀c d,(h++[C3.ins "Calendar" c]).set h.length d=h++[d]:=λ c d=>QB rfl
 simp![BH,Lz,Z1 a,Zz a.rest.1 a.rest.2,qE,Z3 rows rest (by have:=a.len;lia),b,hs,AI,Au,nb2]
def QM{p:Int×Int}{r:List (Int×Int)}{rest t:Int}:Cal.at_ (p::r) rest t=if t<p.1 then p.2 else Cal.at_ r rest (t-p.1):=rfl
def QN{rest t:Int}:Cal.at_ [] rest t=rest:=rfl
def Z5(rows:List (Int×Int))(rest t:Int)(h:H3):GW [yP rows rest,.int t] h=.ok (.v (.int (Cal.at_ rows rest t))) h:=by
 show Is h _ _;unfold GW KU KS
 refine qo rfl ?_
 refine zF (by (simp![])<;>rfl) ?_
 refine it_E (l:=rows) (enc:=zj) (its:=[.lst (rows.map zj)]) (ok:=λ _=>True) (by (simp![iL,yL])<;>rfl) (λ i s h'=>h'=h/\∃e y3 b,s=[some (.v (yP rows rest)),some (.v (.int t)),some (.v (.int e)),y3,b]/\Cal.at_ (rows.drop i) rest (t-e)=Cal.at_ rows rest t) (λ _ _ _ _=>trivial) ⟨rfl,0,none,none,rfl,by rw[Ex,Int.sub_zero]⟩ ?_ ?_
 .rintro i p s h' hi ⟨rfl,e,y3,b,rfl,a⟩
  rw[Qr hi,QM]at a
  by_cases hq:t<e+p.1
  .rw[Ab (by lia)]at a
   refine .inr (.inl ⟨.v (.int p.2),_,by (simp![hq])<;>rfl,?_⟩)
   unfold Is;rw[a]
  .rw[Ac (by lia)]at a
   refine .inl ⟨_,_,.inl (by (simp![hq])<;>rfl),rfl,e+p.1,_,_,rfl,?_⟩
   rw[<-a];congr 1;lia
 .rintro s h' ⟨rfl,e,y3,b,rfl,a⟩
  rw[Cm,QN]at a;unfold Is;rw[<-a]
  (simp![])<;>rfl
end My
namespace Bd
open L2 L3
theorem len_sub:∀{l m:List Int},l.Nodup->(∀x∈l,x∈m)->l.length<=m.length
 | [],_,_,_=>B5 _
 |x::r,m,nd,h=>by
  rw[Bp]at nd;have a:x∈m:=h x Aj;have:=len_sub (l:=r) (m:=m.erase x) nd.2 λ y b=>(List.mem_erase_of_ne (λ(z:y=x)=>nd.1 (z ▸ b))).mpr (h y (Ap _ b))
  rw[List.length_erase_of_mem a]at this;have:=List.length_pos_of_mem a;rw[Ax];lia
def dedup_any{σ:List Int}{k:Int}:σ.any (· ==k)=true↔k∈σ:=by simp[Dg]
theorem J4:∀(l c:List Int),c.Nodup->(l.foldl PyProof.Rows.step_dedup c).Nodup/\∀x,x∈l.foldl PyProof.Rows.step_dedup c↔x∈c\/x∈l
 | [],c,h=>⟨h,λ x=>by simp⟩
 |k::r,c,h=>by
  rw[Fz]
  by_cases hk:k∈c
  .have e:PyProof.Rows.step_dedup c k=c:=by unfold PyProof.Rows.step_dedup;rw[Ab (dedup_any.mpr hk)]
   rw[e];obtain⟨a,b⟩:=J4 r c h
   refine⟨a,λ x=>(b x).trans ?_⟩
   rw[Af];exact⟨λ z=>z.imp id .inr,λ z=>z.elim .inl λ z=>z.elim (λ e=>.inl (e ▸ hk)) .inr⟩
  .have e:PyProof.Rows.step_dedup c k=c++[k]:=by unfold PyProof.Rows.step_dedup;rw[Ac λ z=>hk (dedup_any.mp z)]
   rw[e];obtain⟨a,b⟩:=J4 r (c++[k]) (Cw.mpr ⟨h,by simp,λ x f y d z=>by rw[Au]at d;subst d;subst z;exact hk f⟩)
   refine⟨a,λ x=>(b x).trans ?_⟩
   rw[Bc,Au,Af,or_assoc]
def QO(l:List Int):(z8 l).Nodup:=(J4 l [] D1).1
def QP(l:List Int)(x:Int):x∈z8 l↔x∈l:=by
 have:=(J4 l [] D1).2 x;simpa[z8] using this
abbrev Up(l:List Int):Prop:=l.Pairwise (· < ·)
def srt(l:List Int):List Int:=GA (z8 l)
def srt_up(l:List Int):Up (srt l):=by
 have h:=(BD (z8 l)).2;have n:(GA (z8 l)).Nodup:=(BD (z8 l)).1.nodup_iff.mpr (QO l)
 refine List.Pairwise.imp₂ (λ a b h1 h2=>?_) h n
 lia
def srt_mem(l:List Int)(x:Int):x∈srt l↔x∈l:=((BD (z8 l)).1.mem_iff).trans (QP l x)
def srt_len{l m:List Int}(h:∀x∈l,x∈m):(z8 l).length<=m.length:=len_sub (QO l) λ x a=>h x ((QP l x).mp a)
noncomputable def prs:List Int->List (Int×Int)
 |a::b::r=>(a,b)::prs (b::r)
 |_=>[]
theorem prs_zip:∀l:List Int,l.zip (l.drop 1)=prs l
 |[]|[a]=>rfl
 |a::b::r=>by
  show (a,b)::(b::r).zip r=(a,b)::prs (b::r);rw[<-prs_zip (b::r)];rfl
theorem prs_up:∀{l:List Int},Up l->∀p∈prs l,p.1<p.2/\p.1∈l/\p.2∈l/\∀x∈l,x<=p.1\/p.2<=x
 |[],_,p,hp|[a],_,p,hp=>by cases hp
 |a::b::r,h,p,hp=>by
  obtain⟨h1,h2⟩:=En.mp h;obtain⟨f,k⟩:=En.mp h2
  rcases Af.mp hp with e|m
  .subst e
   refine⟨h1 b Aj,Aj,Ap _ Aj,λ x c=>?_⟩
   rcases Af.mp c with e|m
   .exact .inl (by lia)
   .rcases Af.mp m with e|m
    .exact .inr (by lia)
    .have:=f x m;exact .inr (by lia)
  .obtain⟨g,d,i,j⟩:=prs_up h2 p m
   refine⟨g,Ap _ d,Ap _ i,λ x c=>?_⟩
   rcases Af.mp c with e|m
   .have:=h1 p.1 d;exact .inl (by lia)
   .exact j x m
theorem prs_rise:∀{l:List Int},Up l->(prs l).Pairwise (λ p q=>p.2<=q.1)
 |[],_|[a],_=>.nil
 |a::b::r,h=>by
  obtain⟨h1,h2⟩:=En.mp h
  refine En.mpr ⟨λ q c=>?_,prs_rise h2⟩
  obtain⟨_,d,_,_⟩:=prs_up h2 q c
  rcases Af.mp d with e|m
  .show b<=q.1;lia
  .have:=(En.mp h2).1 q.1 m;show b<=q.1;lia
theorem at_same:∀(rows:List Cal.P)(rest st a t:Int),Cal.Pos rows->a<=t->(∀s∈Cal.stops rows st,s<=a+st\/t+st<s)->Cal.at_ rows rest t=Cal.at_ rows rest a
 | [],_,_,_,_,_,_,_=>rfl
 |p::r,rest,st,a,t,hp,hat,h=>by
  have h0:=h (st+p.1) Aj;show (if t<p.1 then p.2 else Cal.at_ r rest (t-p.1))=if a<p.1 then p.2 else Cal.at_ r rest (a-p.1)
  by_cases ht:t<p.1
  .rw[Ab ht,Ab (by lia)]
  .rw[Ac ht,Ac (by lia)]
   refine at_same r rest (st+p.1) (a-p.1) (t-p.1) hp.tail (by lia) λ s hs=>?_
   have:=h s (Ap _ hs);lia
theorem over_const:∀(rows:List Cal.P)(rest st f l m:Int),Cal.Pos rows->(∀t,st<=t->f<=t->t<=l->Cal.at_ rows rest (t-st)=m)->Cal.over rows rest st f l=m*max 0 (l-max f st+1)
 | [],rest,st,f,l,m,_,h=>by
  show rest*Cal.cc st l f l=_;unfold Cal.cc
  by_cases hl:max f st<=l
  .have e:rest=m:=h (max f st) (by lia) (by lia) hl
   rw[e];congr 1;lia
  .rw[show max 0 (min l l-max st f+1)=0 by lia,show max 0 (l-max f st+1)=0 by lia,Ez,Ez]
 |p::r,rest,st,f,l,m,hp,h=>by
  show p.2*Cal.cc st (st+p.1-1) f l+Cal.over r rest (st+p.1) f l=_;have c:=hp.head;rw[over_const r rest (st+p.1) f l m hp.tail λ t h1 h2 a=>by
   have:=h t (by lia) h2 a
   rw[<-this];show _=if t-st<p.1 then p.2 else Cal.at_ r rest (t-st-p.1)
   rw[Ac (by lia)];congr 1;lia]
  unfold Cal.cc
  by_cases hl:max st f<=min (st+p.1-1) l
  .have e:=h (max st f) (by lia) (by lia) (by lia)
   have e:(if max st f-st<p.1 then p.2 else Cal.at_ r rest (max st f-st-p.1))=m:=e
   rw[Ab (by lia)]at e
   rw[e,<-Int.mul_add,Int.max_comm f st];have b:f<=max st f:=Int.le_max_right _ _;generalize max st f=s at*
   congr 1
   rw[E4 (show f<=st+p.1 by lia),E4 (show 0<=min (st+p.1-1) l-s+1 by lia),E4 (show 0<=l-s+1 by lia)]
   lia
  .have hs:max st f=st\/max st f=f:=by lia
   have b:f<=max st f:=Int.le_max_right _ _;have d:st<=max st f:=Int.le_max_left _ _;rw[Int.max_comm f st];generalize max st f=s at*;rw[Fs (show min (st+p.1-1) l-s+1<=0 by lia),Ez,Ej]
   congr 1
   by_cases q:l<s
   .rw[Fs (show l-max f (st+p.1)+1<=0 by lia),Fs (show l-s+1<=0 by lia)]
   .rw[show max f (st+p.1)=s by lia]
end Bd
namespace L3
open PySem PySem.Spec PyProof.Rows L2
def HW{α:Type}{n:Nat}{fr:List Nat}{it:I3}{g:G3}{c:T3}{e:E3}{s:S3}{h:H3}{its:List V3}{ok:H3->Prop}{enc:α->V3}{l:List α}(I:S3->Prop)(q:α->Bool)(f:α->V3)(b:it s h=.ok ⟨its,l.map enc,ok⟩ h)(hok:ok h)(d:l.length<=1000000)
  (h0:I (yo n fr s)) (step:∀a s,a∈l->I s->∃s1,g (enc a) s=some s1/\I s1/\c s1 h=.ok (q a) h/\(q a=true->∃r,e s1 h=.ok r h/\r.fz=some (f a))):yJ n fr it g c e s h=.ok (.m (.lst ((l.filter q).map f))) h:=by
 have:=VW (ok:=ok) (g:=g) (c:=c) (e:=e) (h:=h) I enc q f hok (l:=l) (by have:=yK;lia) step h0
 unfold yJ;simp only[b,Res.bind,this]
def Z6{α:Type}{n:Nat}{fr:List Nat}{it:I3}{g:G3}{e:E3}{s:S3}{h:H3}{its:List V3}{ok:H3->Prop}{enc:α->V3}{l:List α}(I:S3->Prop)(c:α->C3)(f:it s h=.ok ⟨its,l.map enc,ok⟩ h)(hok:∀h',ok (h++h'))(t:l.length<=1000000)
  (h0:I (yo n fr s)) (step:∀a s h',a∈l->I s->∃s1,g (enc a) s=some s1/\I s1/\e s1 (h++h')=.ok (.v (.loc (h++h').length)) ((h++h')++[c a])):
  yJ n fr it g tTru e s h=.ok (.m (.lst ((List.range l.length).map λ k=>.loc (h.length+k)))) (h++l.map c):=by
 have gen:∀(m:List α)(k:Nat)(h':H3)(s:S3),k+m.length<=1000000->(∀a∈m,a∈l)->h'.length=k->I s->
   qm ok g tTru e (m.map enc) ((List.range k).map λ k=>.loc (h.length+k)) s (h++h')=.ok ((List.range (k+m.length)).map λ k=>.loc (h.length+k)) ((h++h')++m.map c):=by
  intro m
  induction m with
  |nil=>intro k h' s _ _ _ _;unfold qm;rw[Bl];simp only[Ab (hok h')];simp
  |cons a r ih=>
   intro k h' s hz b d i;obtain⟨s1,e1,j,e2⟩:=step a s h' (b a Aj) i;rw[Ax]at hz ⊢;have o:=yK;rw[Ah,Ah];unfold qm;rw[Ab (hok h')];simp only[e1,tTru,e2,Vl.fz];rw[Ab (by rw[Ae,Bq];lia),Cq]
   have p:((List.range k).map λ k=>V3.loc (h.length+k))++[V3.loc (h++h').length]=(List.range (k+1)).map λ k=>V3.loc (h.length+k):=by
    rw[Gz,Av,Ah,Bl,Ar,d]
   rw[p,ih (k+1) (h'++[c a]) s1 (by lia) (λ x q=>b x (Ap _ q)) (by rw[Ar,d];rfl) j]
   rw[show k+1+r.length=k+(r.length+1) by lia]
   simp
 have:=gen l 0 [] (yo n fr s) (by lia) (λ a h=>h) rfl h0
 rw[Bz,Nat.zero_add]at this;unfold yJ;have this:qm ok g tTru e (l.map enc) [] (yo n fr s) h=_:=this;simp only[f,Res.bind,this]
end L3
namespace My
open PySem L2 L3
def QQ{l:List Nat}(h:isN l=true):∃a r,l=a::r/\l.length<=8/\qB a=true/\l.all (λ c=>qB c || j4 c)=true:=by
 unfold isN at h;simp only[Be,Cv]at h;obtain⟨⟨h1,h2⟩,b,d⟩:=h
 match l,h1,h2,b,d with
 |a::r,h1,h2,b,d=>exact⟨a,r,rfl,h2,b,d⟩
def Mn{l:List Nat}(g:isN l=true)(h:H3):EF [.str (tx l)] h=.ok (.v (.bl true)) h:=by
 obtain⟨a,r,rfl,i,hs,j⟩:=QQ g;have e:Jb [some (.v (.str (tx (a::r))))] h=.ok (.m (.lst (((a::r).map λ c=>qB c || j4 c).map .bl))) h:=by
  unfold Jb;rw[Bg]
  refine YT (λ s=> ∃x,s=[x]) _ (by simp![]) (by lia) ⟨none,rfl⟩ ?_
  rintro c s _ ⟨x,rfl⟩;exact⟨_,_,by (simp![])<;>rfl,⟨_,rfl⟩,by (simp![Q6,Q7,YR])<;>rfl,rfl⟩
 have k:(a::r).length<=sizeLine:=by have:=yK;lia
 have d:r.length+1<=sizeLine:=k;have n:(1:Int)<=((r.length+1:Nat):Int):=by lia
 have o:((r.length+1:Nat):Int)<=8:=by rw[Ax]at i;lia
 have b:(((a::r).map λ c=>qB c || j4 c)).all id=true:=by rw[List.all_map];exact j
 have f:bAll (λ bs=>bs.all id) [some (.v (.str (tx (a::r))))] h [.x (.lst (((a::r).map λ c=>qB c || j4 c).map .bl))]=some (.v (.bl true)):=by rw[Me,b]
 rw[Ah,Ah,hs,Ei]at f e;simp![EF,KG,jJ,d,n,o,Jy,YN,Q7,YQ,hs,e,f]
def QR{j:J}(a:j.Ok)(h:H3):EG [.int j.f,.int j.l,.int j.w,.int j.b] h=.ok (.v (.bl true)) h:=by
 simp![EG,KL,DQ a.f.1 a.f.2,DQ a.l.1 a.l.2,DQ a.w.1 a.w.2,DQ a.b.1 a.b.2]
def QS{s:S3}{h:H3}{i:Nat}{ls:List (List Nat)}{l:List Nat}(e:s[i]? =some (some (.m (.lst (ls.map λ l=>.str (tx l))))))(a:l∉ls):jW false s h (.x (.str (tx l))) (.s i)=some (.v (.bl false)):=by
 have e2:zG (λ b=>zU h 8 b (.str (tx l))) (ls.map λ l=>V3.str (tx l))=some (ls.map λ m=>decide (tx m=tx l)):=DA (f:=λ b=>zU h 8 b (.str (tx l))) (g:=λ l=>V3.str (tx l)) (k:=λ m=>decide (tx m=tx l)) (λ m=>IM) ls
 have c:(ls.map λ m=>decide (tx m=tx l)).any id=false:=by
  rw[List.any_map,List.any_eq_false];intro m d;simp only[Function.comp,id,Cv];intro z;exact a (YJ z ▸ d)
 unfold jW inO;simp only[rdl,e,e2,Am,c]
 first|rfl|simp
def Z7{js:List J}(c:LoadOk js){x:V3}{h:H3}(k:IsL h x (js.map J.enc)):BG [x] h=.ok (.v (.bl true)) h:=by
 show Is h _ _;obtain⟨ok,q⟩:=k.walk;unfold BG GR Jc
 refine qo rfl ?_
 have o: ¬((12:Int)<(js.length:Int)):=by have:=c.len;lia
 refine zF (s1:=[some (.v x),none,none,none,none,none,none]) (h1:=h) ?_ ?_
 .rcases k with rfl|⟨n,rfl,en⟩
  .simp![Ae,o]
  .simp![en,Ae,o]
 refine zF (by (simp![])<;>rfl) ?_
 refine DD (x:=x) (l:=js) (enc:=J.enc) (by simp![]) q (λ i s=> ∃x2 x3 x4 x5 x6,s=[some (.v x),some (.m (.lst (((js.take i).map J.nm).map λ l=>.str (tx l)))),x2,x3,x4,x5,x6]) ⟨none,none,none,none,none,rfl⟩ ?_ ?_
 .rintro i j s hi ⟨x2,x3,x4,x5,x6,rfl⟩
  obtain⟨r,t⟩:=Ao.1 hi;have d:=Al hi;have p:=c.one j d;have a:j.nm∉(js.take i).map J.nm:=by
   have h0:js.map J.nm=(js.take i).map J.nm++j.nm::(js.drop (i+1)).map J.nm:=by
    rw[<-Ah,<-Av,<-Qr hi,Ft]
   have h1:=c.nd;rw[h0,Cw]at h1;intro z;exact h1.2.2 _ z _ Aj rfl
  have e:∀x2 x3 x4 x5 x6,jW false [some (.v x),some (.m (.lst (((js.take i).map J.nm).map λ l=>V3.str (tx l)))),x2,x3,x4,x5,x6] h (.x (.str (tx j.nm))) (.s 1)=some (.v (.bl false)):=λ x2 x3 x4 x5 x6=>QS rfl a
  have g:∀y,qN (((js.take i).map J.nm).map λ l=>V3.str (tx l)) [y]=some ((((js.take i).map J.nm).map λ l=>V3.str (tx l))++[y],.non):=λ y=>mAppend_ok (by rw[Ae,Ae,Ay];have:=yK;have:=c.len;lia)
  refine⟨_,by (simp![Mn p.nm,e,QR p,g])<;>rfl,⟨some (.v (.str (tx j.nm))),some (.v (.int j.f)),some (.v (.int j.l)),some (.v (.int j.w)),some (.v (.int j.b)),?_⟩⟩
  rw[Fe,hi,Option.toList,Av,Av,Ah,Bl,Ah,Bl]
 .rintro s ⟨x2,x3,x4,x5,x6,rfl⟩
  unfold Is;simp![]
def QT(j:J)(h:H3):GS [j.enc] h=.ok (.v (.int (max 0 (j.l-j.f+1)))) h:=by
 simp![GS,KM]
def chgs(rows:List (Int×Int))(f l:Int):List Int:=(Cal.stops rows 0).filter λ s=>decide (f<s) && decide (s<=l)
def Z8(rows:List (Int×Int))(g:rows.length<=1000)(rest f l:Int)(h:H3):GT [yP rows rest,.int f,.int l] h=.ok (.m (.lst ((chgs rows f l).map .int))) h:=by
 show Is h _ _;unfold GT KO KN
 refine qo rfl ?_
 refine zF (by (simp![])<;>rfl) ?_
 refine zF (by (simp![])<;>rfl) ?_
 refine DD (x:= .lst (rows.map zj)) (l:=rows) (enc:=zj) (by (simp![ze,yS,Au,List.lookup])<;>rfl) rfl (λ i s=> ∃a st y5 y6,s=[some (.v (yP rows rest)),some (.v (.int f)),some (.v (.int l)),some (.m (.lst (a.map .int))),some (.v (.int st)),y5,y6]/\a.length<=i/\a++((Cal.stops (rows.drop i) st).filter λ s=>decide (f<s) && decide (s<=l))=chgs rows f l) ⟨[],0,none,none,rfl,by simp,rfl⟩ ?_ ?_
 .rintro i p s hi ⟨a,st,y5,y6,rfl,d,b⟩
  rw[Qr hi,show Cal.stops (p::rows.drop (i+1)) st=(st+p.1)::Cal.stops (rows.drop (i+1)) (st+p.1) from rfl]at b
  have e:i<rows.length:=(Ao.1 hi).1;have c:∀y,qN (a.map V3.int) [y]=some (a.map V3.int++[y],.non):=λ y=>mAppend_ok (by rw[Ae];have:=yK;lia)
  by_cases h1:f<st+p.1
  .by_cases h2:st+p.1<=l
   .rw[List.filter_cons_of_pos (by simp[h1,h2])]at b
    refine⟨_,by (simp![h1,h2,c])<;>rfl,⟨a++[st+p.1],st+p.1,_,_,by rw[Av];rfl,by simpa using d,?_⟩⟩
    rw[Cq];exact b
   .rw[Hs (by simp[h1,h2])]at b
    exact⟨_,by (simp![h1,h2])<;>rfl,⟨a,st+p.1,_,_,rfl,by lia,b⟩⟩
  .rw[Hs (by simp[h1])]at b
   exact⟨_,by (simp![h1])<;>rfl,⟨a,st+p.1,_,_,rfl,by lia,b⟩⟩
 .rintro s ⟨a,st,y5,y6,rfl,d,b⟩
  rw[Cm,show Cal.stops [] st=[] from rfl,List.filter_nil,Bz]at b
  subst b;unfold Is;simp![]
def bdJ(rows:List (Int×Int))(j:J):List Int:=if j.f<=j.l then [j.f,j.l+1]++chgs rows j.f j.l else []
def yz(rows:List (Int×Int))(js:List J):List Int:=js.flatMap (bdJ rows)
theorem J5:∀(rows:List (Int×Int))(st:Int),(Cal.stops rows st).length=rows.length
 | [],_=>rfl
 |_::r,st=>by show (Cal.stops r _).length+1=r.length+1;rw[J5 r]
def Z9(rows:List (Int×Int))(j:J):(bdJ rows j).length<=rows.length+2:=by
 unfold bdJ chgs
 split
 .have:=Cz (λ s=>decide (j.f<s) && decide (s<=j.l)) (Cal.stops rows 0)
  rw[J5]at this;simp;lia
 .simp
theorem Mo(rows:List (Int×Int)):∀js:List J,(yz rows js).length<=js.length*(rows.length+2)
 | []=>B5 _
 |j::r=>by
  show ((bdJ rows j)++yz rows r).length<=_;have h1:=Z9 rows j;have h2:=Mo rows r;rw[Ar,Ax,Nat.succ_mul];lia
def bdL_mem{rows:List (Int×Int)}{js:List J}{x:Int}:x∈yz rows js↔∃j∈js,j.f<=j.l/\(x=j.f\/x=j.l+1\/(x∈Cal.stops rows 0/\j.f<x/\x<=j.l)):=by
 unfold yz;rw[List.mem_flatMap]
 constructor
 .rintro⟨j,b,a⟩
  unfold bdJ at a
  by_cases e:j.f<=j.l
  .rw[Ab e]at a
   simp[chgs]at a;exact⟨j,b,e,a⟩
  .rw[Ac e]at a;cases a
 .rintro⟨j,b,e,a⟩
  refine⟨j,b,?_⟩
  unfold bdJ;rw[Ab e];simp[chgs];exact a
def Mq{rows:List (Int×Int)}{js:List J}(h1:js.length<=12)(h2:rows.length<=16):(z8 (yz rows js)).length<64:=by
 have:=Bd.srt_len (l:=yz rows js) (m:=js.map (·.f)++js.map (λ j=>j.l+1)++Cal.stops rows 0) λ x b=>by
  obtain⟨j,a,_,e⟩:=bdL_mem.mp b;rw[Bc,Bc,Ak,Ak]
  rcases e with e|e|⟨e,_⟩
  .exact .inl (.inl ⟨j,a,e.symm⟩)
  .exact .inl (.inr ⟨j,a,e.symm⟩)
  .exact .inr e
 rw[Ar,Ar,Ae,Ae,J5]at this;lia
def Mr{xs ys:List V3}(h:xs.length+ys.length<=sizeLine):Qe xs [.lst ys]=some (xs++ys,.non):=by
 unfold Qe;simp only[Ab h]
def ZA{s:S3}{h:H3}{f:Rf}{ns:List Int}(a:rdl s h f=some (ns.map .int))(h1:ns.length<4000)(h2:(z8 ns).length<64):EC s h [f]=some (.m (.lst ((Bd.srt ns).map .int))):=by
 unfold EC;simp only[a,IK,Ab (zd h1 h2)];rfl
def ZC{rows:List (Int×Int)}{rest:Int}:List.lookup ("changes":Str) [(("stretches":Str),V3.lst (rows.map zj)),(("beyond":Str),V3.int rest)]=none:=by
 have h1:(Str.ofString "changes" ==Str.ofString "stretches")=false:=by decide+kernel
 have h2:(Str.ofString "changes" ==Str.ofString "beyond")=false:=by decide+kernel
 simp only[List.lookup,h1,h2]
def noAt{rows:List (Int×Int)}{rest:Int}:List.lookup ("at":Str) [(("stretches":Str),V3.lst (rows.map zj)),(("beyond":Str),V3.int rest)]=none:=by
 have h1:(Str.ofString "at" ==Str.ofString "stretches")=false:=by decide+kernel
 have h2:(Str.ofString "at" ==Str.ofString "beyond")=false:=by decide+kernel
 simp only[List.lookup,h1,h2]
def ZD{js:List J}(c:LoadOk js){rows:List (Int×Int)}(g:rows.length<=16)(rest:Int){x:V3}{h:H3}(k:IsL h x (js.map J.enc)):GU [x,yP rows rest] h=.ok (.m (.lst ((Bd.srt (yz rows js)).map .int))) h:=by
 show Is h _ _;obtain⟨ok,b⟩:=k.walk;unfold GU KQ KP
 refine qo rfl ?_
 refine zF (by (simp![])<;>rfl) ?_
 refine DD (x:=x) (l:=js) (enc:=J.enc) (by simp![]) b (λ i s=> ∃y3,s=[some (.v x),some (.v (yP rows rest)),some (.m (.lst ((yz rows (js.take i)).map .int))),y3]) ⟨none,rfl⟩ ?_ ?_
 .rintro i j s hi ⟨y3,rfl⟩
  have e1:yz rows (js.take (i+1))=yz rows (js.take i)++bdJ rows j:=by
   unfold yz;rw[Ql hi,List.flatMap_append];simp
  rw[e1];have n:=Mo rows (js.take i);have d:(js.take i).length<=12:=by rw[Ay];have:=c.len;lia
  have a:(yz rows (js.take i)).length<=216:=by
   have:(js.take i).length*(rows.length+2)<=12*18:=Nat.mul_le_mul d (by lia)
   lia
  have hz:=yK;have q:(chgs rows j.f j.l).length<=16:=by
   unfold chgs;have:=Cz (λ s=>decide (j.f<s) && decide (s<=j.l)) (Cal.stops rows 0)
   rw[J5]at this;lia
  generalize yz rows (js.take i)=acc at a ⊢
  by_cases b:j.f<=j.l
  .have h0:(0:Int)<max 0 (j.l-j.f+1):=by lia
   have o:Qe (acc.map V3.int) [.lst [.int j.f,.int (j.l+1)]]=some (acc.map V3.int++[.int j.f,.int (j.l+1)],.non):=Mr (by rw[Ae];show acc.length+2<=_;lia)
   have p:Qe (acc.map V3.int++[.int j.f,.int (j.l+1)]) [.lst ((chgs rows j.f j.l).map .int)]=some ((acc.map V3.int++[.int j.f,.int (j.l+1)])++(chgs rows j.f j.l).map .int,.non):=Mr (by rw[Ar,Ae,Ae];show acc.length+2+_<=_;lia)
   refine⟨_,by (simp![QT,h0,o,zM,yS,ZC,Z8 rows (by lia),p])<;>rfl,⟨some (.v j.enc),?_⟩⟩
   unfold bdJ;rw[Ab b];simp
  .have h0: ¬(0:Int)<max 0 (j.l-j.f+1):=by lia
   refine⟨_,by (simp![QT,h0])<;>rfl,⟨some (.v j.enc),?_⟩⟩
   unfold bdJ;rw[Ac b,Bz]
 .rintro s ⟨y3,rfl⟩
  rw[Cj];have n:=Mo rows js;have a:(yz rows js).length<=216:=by
   have:js.length*(rows.length+2)<=12*18:=Nat.mul_le_mul c.len (by lia)
   lia
  have e:=λ s h=>ZA (s:=s) (h:=h) (f:= .x (.lst ((yz rows js).map .int))) (ns:=yz rows js) rfl (by lia) (Mq c.len g)
  unfold Is;simp![e]
structure Cl where
 f:Int
 l:Int
 m:Int
 deriving Inhabited
noncomputable abbrev Cl.enc(c:Cl):V3:= .tup [.int c.f,.int c.l,.int c.m]
def jh(js:List J)(t:Int):Bool:=js.any λ j=>decide (j.f<=t) && decide (t<=j.l)
def qu(js:List J)(rows:List (Int×Int))(rest:Int):List Cl:=((Bd.prs (Bd.srt (yz rows js))).filter λ p=>jh js p.1).map λ p=>⟨p.1,p.2-1,Cal.at_ rows rest p.1⟩
def QU{js:List J}(g:LoadOk js)(t:Int){x:V3}{h:H3}(i:IsL h x (js.map J.enc)):GV [x,.int t] h=.ok (.v (.bl (jh js t))) h:=by
 obtain⟨ok,k⟩:=i.walk;have n:Jd [some (.v x),some (.v (.int t))] h=.ok (.m (.lst ((js.map λ j=>decide (j.f<=t) && decide (t<=j.l)).map .bl))) h:=by
  unfold Jd;rw[Bg]
  refine EN (x:=x) (enc:=J.enc) (λ s=> ∃a b c d e,s=[a,b,c,d,e,some (.v (.int t))]) _ (by simp![]) k (by have:=g.len;lia) ⟨none,none,none,none,none,rfl⟩ ?_
  rintro j s o ⟨a,b,c,d,e,rfl⟩
  refine⟨_,.v (.bl (decide (j.f<=t) && decide (t<=j.l))),by (simp![])<;>rfl,⟨_,_,_,_,_,rfl⟩,?_,rfl⟩
  by_cases h1:j.f<=t
  ·(simp![h1,Cd h1,Ew])<;>rfl
  ·(simp![h1,Bu h1,Dr])<;>rfl
 have e:(js.map λ j=>decide (j.f<=t) && decide (t<=j.l)).any id=jh js t:=by rw[List.any_map];rfl
 simp![GV,KR,n,Me,e]
def QV{js:List J}(a:LoadOk js){rows:List (Int×Int)}(g:rows.length<=16)(rest:Int){x:V3}{h:H3}(d:IsL h x (js.map J.enc)):AS [x,yP rows rest] h=.ok (.m (.lst ((qu js rows rest).map Cl.enc))) h:=by
 show Is h _ _;unfold AS Je KW
 refine qo rfl ?_
 refine zF (by (simp![Z7 a d])<;>rfl) ?_
 refine zF (by (simp![])<;>rfl) ?_
 refine zF (by (simp![ZD a g rest d])<;>rfl) ?_
 refine zF (by (simp![])<;>rfl) ?_
 have e:(Bd.srt (yz rows js)).length<64:=by
  have:=(BD (z8 (yz rows js))).1.length_eq;have:=Mq (js:=js) (rows:=rows) a.len g;unfold Bd.srt;lia
 unfold qu;generalize Bd.srt (yz rows js)=bs at e ⊢;have j:(Bd.prs bs).length<=64:=by rw[<-Bd.prs_zip,List.length_zip];lia
 have hd:yY (bs.map V3.int) (some 1) none=(bs.drop 1).map .int:=by have:=YY (bs.map V3.int) 1;rw[List.map_drop];exact this
 have hz:((bs.map V3.int).zip ((bs.drop 1).map V3.int)).map (λ q=>V3.tup [q.1,q.2])=(Bd.prs bs).map zj:=by
  rw[List.zip_map,Bg,Bd.prs_zip];rfl
 refine it_R (l:=Bd.prs bs) (enc:=zj) (its:=[.lst (bs.map .int),.lst ((bs.drop 1).map .int)]) (ok:=λ _=>True/\True) (by (simp![Kj,yL,j8,Qc,j7,oSl,hd,hz])<;>rfl) ⟨trivial,trivial⟩ (λ i s=> ∃f y5,s=[some (.v x),some (.v (yP rows rest)),some (.m (.lst (((((Bd.prs bs).take i).filter λ p=>jh js p.1).map λ p=>(⟨p.1,p.2-1,Cal.at_ rows rest p.1⟩:Cl)).map Cl.enc))),some (.v (.lst (bs.map .int))),f,y5]) ⟨none,none,rfl⟩ ?_ ?_
 .rintro i p s hi ⟨f,y5,rfl⟩
  have k:i<(Bd.prs bs).length:=(Ao.1 hi).1;rw[Ql hi,List.filter_append,Av,Av];have b:∀y,qN ((((((Bd.prs bs).take i).filter λ p=>jh js p.1).map λ p=>(⟨p.1,p.2-1,Cal.at_ rows rest p.1⟩:Cl)).map Cl.enc)) [y]=some ((((((Bd.prs bs).take i).filter λ p=>jh js p.1).map λ p=>(⟨p.1,p.2-1,Cal.at_ rows rest p.1⟩:Cl)).map Cl.enc)++[y],.non):=λ y=>mAppend_ok (by
   rw[Ae,Ae];have h1:=Cz (λ p:Int×Int=>jh js p.1) ((Bd.prs bs).take i)
   rw[Ay]at h1;have:=yK;lia)
  generalize ((((Bd.prs bs).take i).filter λ p=>jh js p.1).map λ p=>(⟨p.1,p.2-1,Cal.at_ rows rest p.1⟩:Cl)).map Cl.enc=acc at b ⊢
  by_cases hw:jh js p.1=true
  .refine⟨_,by (simp![QU a _ d,hw,zM,yS,noAt,Z5,b])<;>rfl,⟨some (.v (.int p.1)),some (.v (.int p.2)),?_⟩⟩
   rw[List.filter_cons_of_pos (p:=λ p:Int×Int=>jh js p.1) hw];rfl
  .have c:jh js p.1=false:=by simpa using hw
   refine⟨_,by (simp![QU a _ d,c])<;>rfl,⟨some (.v (.int p.1)),some (.v (.int p.2)),?_⟩⟩
   rw[Hs (p:=λ p:Int×Int=>jh js p.1) (by simp[c])];simp
 .rintro s ⟨f,y5,rfl⟩
  rw[Cj];unfold Is;simp![]
noncomputable abbrev zN(cs:List Cl)(k:Nat):Cl:=cs.getD k default
def wn(cs:List Cl)(j:J)(k:Nat):Bool:=decide (j.f<=(zN cs k).f) && decide ((zN cs k).l<=j.l)
def clen(cs:List Cl)(k:Nat):Int:=(zN cs k).l-(zN cs k).f+1
def qQ(cs:List Cl)(j:J):List Nat:=(List.range cs.length).filter (wn cs j)
def ZE{cs:List Cl}{k:Nat}(h:k<cs.length):(cs.map Cl.enc).getD k V3.non=(zN cs k).enc:=by
 rw[Cf,Az,zX h];unfold zN;rw[Cf,zX h];rfl
def Ms{cs:List Cl}{k:Nat}(h:k<cs.length):atI (cs.map Cl.enc) (k:Int)=some (zN cs k).enc:=by
 refine jK (j:=k) ?_
 rw[Az,zX h];unfold zN;rw[Cf,zX h];rfl
def ZF(cs:List Cl)(g:cs.length<=1000)(j:J)(h:H3):HA [j.enc,.lst (cs.map Cl.enc)] h=.ok (.m (.lst ((qQ cs j).map λ k:Nat=>.int (k:Int)))) h:=by
 have e:Jl [some (.v j.enc),some (.v (.lst (cs.map Cl.enc)))] h=.ok (.m (.lst ((qQ cs j).map λ k:Nat=>.int (k:Int)))) h:=by
  unfold Jl qQ;have d:(List.range (cs.map Cl.enc).length).map (λ k=>V3.tup [.int (k:Nat),(cs.map Cl.enc).getD k .non])=(List.range cs.length).map λ k=>V3.tup [.int (k:Nat),(zN cs k).enc]:=by
   rw[Ae];exact Ef λ k c=>by rw[ZE (Bi.mp c)]
  refine HW (l:=List.range cs.length) (enc:=λ k=>V3.tup [.int (k:Nat),(zN cs k).enc]) (its:=[.lst (cs.map Cl.enc)]) (ok:=λ _=>True) (λ s=> ∃a b,s=[a,b,some (.v j.enc)]) (wn cs j) (λ k:Nat=>.int (k:Int)) (by (simp![AG,yL,d])<;>rfl) trivial (by rw[Bq];lia) ⟨none,none,rfl⟩ ?_
  rintro k s c ⟨a,b,rfl⟩
  refine⟨_,by (simp![])<;>rfl,⟨_,_,rfl⟩,?_,λ _=>⟨_,by (simp![])<;>rfl,rfl⟩⟩
  unfold wn
  by_cases h1:j.f<=(zN cs k).f
  ·(simp![h1,Cd h1,Ew])<;>rfl
  ·(simp![h1,Bu h1,Dr])<;>rfl
 simp![HA,Lo,e]
def ZG{α:Type}[DecidableEq α]{kvs:List (α×V3)}{k:α}(h:k∉kvs.map (·.1)):(kvs.any λ a=>decide (a.1=k))=false:=by
 rw[List.any_eq_false];intro p hp z;exact h (Ak.mpr ⟨p,hp,by simpa using z⟩)
def Mt{α:Type}[DecidableEq α]{kvs:List (α×V3)}{k:α}{v:V3}(h:k∉kvs.map (·.1)):put3 kvs k v=kvs++[(k,v)]:=by
 unfold put3;rw[ZG h];rfl
noncomputable abbrev ik(k:Nat):MK:= .one (.inl (k:Int))
def DS{a b:Nat}(h:ik a=ik b):a=b:=by injection h with h;injection h with h;exact Int.ofNat.inj h
def qf(cs:List Cl)(j:J):List (MK×V3):=(qQ cs j).map λ k=>(ik k,.int (j.b*clen cs k))
def ZH(cs:List Cl)(r:cs.length<=1000){j:J}(p:j.Ok)(h:H3):HB [j.enc,.lst (cs.map Cl.enc)] h=.ok (.m (.dT (qf cs j))) h:=by
 show Is h _ _;unfold HB Lq Lp
 refine qo rfl ?_
 refine zF (by (simp![eDnT])<;>rfl) ?_
 have nd:(qQ cs j).Nodup:=List.Nodup.sublist E5 List.nodup_range;have d:∀k∈qQ cs j,k<cs.length:=λ k n=>Bi.mp (B0.mp n).1
 have o:(qQ cs j).length<=1000:=by
  have:=Cz (wn cs j) (List.range cs.length);rw[Bq]at this;unfold qQ;lia
 have q:=ZF cs r j h;unfold qf;generalize qQ cs j=ps at nd d o q ⊢
 refine DD (x:= .lst (ps.map λ k:Nat=>.int (k:Int))) (l:=ps) (enc:=λ k:Nat=>.int (k:Int)) (by (simp![q])<;>rfl) rfl (λ i s=> ∃y3,s=[some (.v j.enc),some (.v (.lst (cs.map Cl.enc))),some (.m (.dT ((ps.take i).map λ k=>(ik k,.int (j.b*clen cs k))))),y3]) ⟨none,rfl⟩ ?_ ?_
 .rintro i k s hi ⟨y3,rfl⟩
  have n:=d k (Al hi);have t:∀x,CMul j.b x:=λ x=>jI ⟨by have:=p.b;lia,by have:=p.b;lia⟩
  have f:ik k∉((ps.take i).map λ k=>(ik k,V3.int (j.b*clen cs k))).map (·.1):=λ m=>by
   rw[Bg]at m;obtain⟨a,u,e⟩:=Ak.mp m;have e:a=k:=DS e;subst e;have h0:ps=ps.take i++a::ps.drop (i+1):=by rw[<-Qr hi,Ft]
   rw[h0,Cw]at nd;exact nd.2.2 _ u _ Aj rfl
  have g:((ps.take i).map λ k=>(ik k,V3.int (j.b*clen cs k))).length<sizeLine:=by
   rw[Ae,Ay];have:=yK;lia
  have ep:∀v,put3 ((ps.take i).map λ k=>(ik k,V3.int (j.b*clen cs k))) (ik k) v=((ps.take i).map λ k=>(ik k,V3.int (j.b*clen cs k)))++[(ik k,v)]:=λ v=>Mt f
  rw[Ql hi,Av];generalize ((ps.take i).map λ k=>(ik k,V3.int (j.b*clen cs k)))=acc at g ep ⊢
  exact⟨_,by (simp![jL,qK,C3.dc,Dc.put,Dc.len,jQ,Am,Ms n,t,g,ep,Dc.c])<;>rfl,⟨_,rfl⟩⟩
 .rintro s ⟨y3,rfl⟩
  rw[Cj];unfold Is;simp![]
end My
namespace Fl
noncomputable def S:Nat->(Nat->Int)->Int
 |0,_=>0
 |n+1,f=>S n f+f n
theorem S_congr:∀{n:Nat},(∀i,i<n->f i=g i)->S n f=S n g
 |0,_=>rfl
 |n+1,h=>by show S n f+f n=S n g+g n;rw[S_congr λ i hi=>h i (by lia),h n (by lia)]
theorem HX:∀n:Nat,S n (λ i=>f i+g i)=S n f+S n g
 |0=>rfl
 |n+1=>by show S n _+_=(S n f+f n)+(S n g+g n);rw[HX n];dsimp only;lia
theorem S_sub:∀n:Nat,S n (λ i=>f i-g i)=S n f-S n g
 |0=>rfl
 |n+1=>by show S n _+_=(S n f+f n)-(S n g+g n);rw[S_sub n];dsimp only;lia
theorem S_zero:∀n:Nat,S n (λ _=>0)=0
 |0=>rfl
 |n+1=>by show S n _+0=0;rw[S_zero n];rfl
theorem Mu:∀n:Nat,S n (λ i=>k*f i)=k*S n f
 |0=>(Ez k).symm
 |n+1=>by show S n _+_=k*(S n f+f n);rw[Mu n,Int.mul_add]
theorem S_le:∀{n:Nat},(∀i,i<n->f i<=g i)->S n f<=S n g
 |0,_=>D2 _
 |n+1,h=>by
  show S n f+f n<=S n g+g n;have:=S_le (f:=f) (g:=g) (n:=n) λ i hi=>h i (by lia)
  have:=h n (by lia)
  lia
def S_nonneg(h:∀i,i<n->0<=f i):0<=S n f:=by
 have:=S_le (f:=λ _=>0) (g:=f) (n:=n) h
 rwa [S_zero]at this
theorem S_at:∀{n k:Nat},k<n->S n (λ i=>if i=k then x else 0)=x
 |n+1,k,h=>by
  show S n _+(if n=k then x else 0)=x
  by_cases e:n=k
  .subst e
   rw[Ab rfl,S_congr (g:=λ _=>0) λ i hi=>Ac (by lia),S_zero];lia
  .rw[Ac e,S_at (by lia)];lia
structure D where
 nJ:Nat
 nC:Nat
 w:Nat->Int
 win:Nat->Nat->Bool
 mx:Nat->Nat->Int
 cap:Nat->Int
structure St where
 sh:Nat->Nat->Int
 ms:Nat->Int
 sp:Nat->Int
structure Good(d:D)(s:St):Prop where
 lo:∀j c,j<d.nJ->c<d.nC->0<=s.sh j c
 hi:∀j c,j<d.nJ->c<d.nC->d.win j c=true->s.sh j c<=d.mx j c
 off:∀j c,j<d.nJ->c<d.nC->d.win j c=false->s.sh j c=0
 row:∀j,j<d.nJ->S d.nC (s.sh j)+s.ms j=d.w j
 col:∀c,c<d.nC->S d.nJ (λ j=>s.sh j c)+s.sp c=d.cap c
 ms:∀j,j<d.nJ->0<=s.ms j
 sp:∀c,c<d.nC->0<=s.sp c
abbrev Sp:=Nat×Nat×Option Nat
noncomputable def e1(j c a x:Nat):Int:=if a=j/\x=c then 1 else 0
def eg(j:Nat)(g:Option Nat)(a x:Nat):Int:=match g with
 |none=>0
 |some y=>e1 j y a x
noncomputable def dl:List Sp->Nat->Nat->Int
 | [],_,_=>0
 | (j,c,g)::r,a,x=>e1 j c a x-eg j g a x+dl r a x
theorem dl_snoc(p:Sp)(a x:Nat):∀l:List Sp,dl (l++[p]) a x=dl l a x+(e1 p.1 p.2.1 a x-eg p.1 p.2.2 a x)
 | []=>by obtain⟨j,c,g⟩:=p;show e1 j c a x-eg j g a x+0=0+(e1 j c a x-eg j g a x);lia
 | (j,c,g)::r=>by
  show e1 j c a x-eg j g a x+dl (r++[p]) a x=e1 j c a x-eg j g a x+dl r a x+_;rw[dl_snoc p a x r];lia
inductive Ch:Nat->Nat->List Sp->Prop
 |one (j c:Nat):Ch c j [(j,c,none)]
 |cons {j c y l:Nat} {r:List Sp}:Ch y l r->Ch c l ((j,c,some y)::r)
def Mv(h:c<n):S n (e1 j c a)=if a=j then 1 else 0:=by
 by_cases e:a=j
 .rw[Ab e,S_congr (g:=λ i=>if i=c then 1 else 0) λ i _=>by unfold e1;simp[e],S_at h]
 .rw[Ac e,S_congr (g:=λ _=>0) λ i _=>by unfold e1;simp[e],S_zero]
def Mw(h:j<n):S n (λ a=>e1 j c a x)=if x=c then 1 else 0:=by
 by_cases e:x=c
 .rw[Ab e,S_congr (g:=λ i=>if i=j then 1 else 0) λ i _=>by unfold e1;simp[e],S_at h]
 .rw[Ac e,S_congr (g:=λ _=>0) λ i _=>by unfold e1;simp[e],S_zero]
def In(d:D)(l:List Sp):Prop:=∀p∈l,p.1<d.nJ/\p.2.1<d.nC/\d.win p.1 p.2.1=true/\∀y,p.2.2=some y->y<d.nC/\d.win p.1 y=true/\y≠p.2.1
def Ch.row(h:Ch c l ps)(hi:In d ps)(a:Nat):S d.nC (dl ps a)=if a=l then 1 else 0:=by
 induction h with
 |one j c=>
  obtain⟨_,h2,_⟩:=hi _ Aj;rw[S_congr (g:=e1 j c a) λ i _=>by show e1 j c a i-0+0=_;lia,Mv h2]
 | @cons j c y l r _ ih=>
  obtain⟨_,h2,_,b⟩:=hi _ Aj;have e:=(b y rfl).1;show S d.nC (λ i=>(e1 j c a i-e1 j y a i)+dl r a i)=_
  rw[HX,S_sub,Mv h2,Mv e,ih λ p hp=>hi p (Ap _ hp)]
  lia
def Ch.col(h:Ch c l ps)(hi:In d ps)(x:Nat):S d.nJ (λ a=>dl ps a x)=if x=c then 1 else 0:=by
 induction h with
 |one j c=>
  obtain⟨h1,_⟩:=hi _ Aj;rw[S_congr (g:=λ a=>e1 j c a x) λ i _=>by show e1 j c i x-0+0=_;lia,Mw h1]
 | @cons j c y l r _ ih=>
  obtain⟨h1,_⟩:=hi _ Aj;show S d.nJ (λ a=>(e1 j c a x-e1 j y a x)+dl r a x)=_
  rw[HX,S_sub,Mw h1,Mw h1,ih λ p hp=>hi p (Ap _ hp)]
  lia
theorem QW:∀{l:List Sp},(∀p∈l,p.1≠a)->dl l a x=0
 | [],_=>rfl
 | (j,c,g)::r,h=>by
  have b:a≠j:=λ z=>h _ Aj z.symm
  show e1 j c a x-eg j g a x+dl r a x=0;rw[QW λ p hp=>h p (Ap _ hp)]
  have h1:e1 j c a x=0:=by unfold e1;rw[Ac λ z=>b z.1]
  have h2:eg j g a x=0:=by
   unfold eg
   split
   .rfl
   .unfold e1;rw[Ac λ z=>b z.1]
  lia
theorem J6:∀{l:List Sp},(l.map (·.1)).Nodup->(∀p∈l,∀y,p.2.2=some y->y≠p.2.1)->dl l a x=0\/(dl l a x=1/\∃p∈l,p.1=a/\p.2.1=x)\/(dl l a x= -1/\∃p∈l,p.1=a/\p.2.2=some x)
 | [],_,_=>.inl rfl
 | (j,c,g)::r,nd,hg=>by
  rw[Ah,Bp]at nd
  by_cases e:a=j
  .subst e
   have z:dl r a x=0:=QW λ p hp e=>nd.1 (Ak.mpr ⟨p,hp,e⟩)
   show e1 a c a x-eg a g a x+dl r a x=0\/_;rw[show dl ((a,c,g)::r) a x=e1 a c a x-eg a g a x+dl r a x from rfl,z]
   by_cases ec:x=c
   .have h1:e1 a c a x=1:=by unfold e1;rw[Ab ⟨rfl,ec⟩]
    have h2:eg a g a x=0:=by
     unfold eg
     split
     .rfl
     .rename_i y;unfold e1;rw[Ac λ z=>hg _ Aj y rfl (z.2.symm.trans ec)]
    exact .inr (.inl ⟨by lia,_,Aj,rfl,ec.symm⟩)
   .have h1:e1 a c a x=0:=by unfold e1;rw[Ac λ z=>ec z.2]
    cases g with
    |none=>exact .inl (by rw[h1];show (0:Int)-0+0=0;lia)
    |some y=>
     by_cases ey:x=y
     .have h2:eg a (some y) a x=1:=by show e1 a y a x=1;unfold e1;rw[Ab ⟨rfl,ey⟩]
      exact .inr (.inr ⟨by lia,_,Aj,rfl,by rw[ey]⟩)
     .have h2:eg a (some y) a x=0:=by show e1 a y a x=0;unfold e1;rw[Ac λ z=>ey z.2]
      exact .inl (by lia)
  .have h1:e1 j c a x=0:=by unfold e1;rw[Ac λ z=>e z.1]
   have h2:eg j g a x=0:=by
    unfold eg
    split
    .rfl
    .unfold e1;rw[Ac λ z=>e z.1]
   have e2:dl ((j,c,g)::r) a x=dl r a x:=by show e1 j c a x-eg j g a x+dl r a x=_;lia
   rw[e2]
   rcases J6 (a:=a) (x:=x) nd.2 λ p hp=>hg p (Ap _ hp) with h|⟨h,p,hp,k⟩|⟨h,p,hp,k⟩
   .exact .inl h
   .exact .inr (.inl ⟨h,p,Ap _ hp,k⟩)
   .exact .inr (.inr ⟨h,p,Ap _ hp,k⟩)
def St.after(s:St)(ps:List Sp)(c l:Nat)(by_:Int):St where
 sh:=λ j x=>s.sh j x+by_*dl ps j x
 ms:=λ j=>if j=l then s.ms j-by_ else s.ms j
 sp:=λ x=>if x=c then s.sp x-by_ else s.sp x
structure Fits(d:D)(s:St)(ps:List Sp)(c l:Nat)(by_:Int):Prop where
 b0:0<=by_
 sp:by_<=s.sp c
 ms:by_<=s.ms l
 up:∀p∈ps,by_<=d.mx p.1 p.2.1-s.sh p.1 p.2.1
 dn:∀p∈ps,∀y,p.2.2=some y->by_<=s.sh p.1 y
theorem Good.after(g:Good d s)(h:Ch c l ps)(hi:In d ps)(nd:(ps.map (·.1)).Nodup)(f:Fits d s ps c l by_):Good d (s.after ps c l by_) where
 lo:=λ j x b i=>by
  have h0:=g.lo j x b i;have b0:=f.b0;show 0<=s.sh j x+by_*dl ps j x
  rcases J6 (a:=j) (x:=x) nd λ p hp y k=>((hi p hp).2.2.2 y k).2.2 with e|⟨e,_⟩|⟨e,p,hp,e1,e2⟩
  .rw[e];lia
  .rw[e];lia
  .have:=f.dn p hp x e2
   rw[e1]at this;rw[e];lia
 hi:=λ j x b i m=>by
  have h0:=g.hi j x b i m;have b0:=f.b0;show s.sh j x+by_*dl ps j x<=d.mx j x
  rcases J6 (a:=j) (x:=x) nd λ p hp y k=>((hi p hp).2.2.2 y k).2.2 with e|⟨e,p,hp,e1,e2⟩|⟨e,_⟩
  .rw[e];lia
  .have:=f.up p hp
   rw[e1,e2]at this;rw[e];lia
  .rw[e];lia
 off:=λ j x b i m=>by
  have h0:=g.off j x b i m;show s.sh j x+by_*dl ps j x=0
  rcases J6 (a:=j) (x:=x) nd λ p hp y k=>((hi p hp).2.2.2 y k).2.2 with e|⟨e,p,hp,e1,e2⟩|⟨e,p,hp,e1,e2⟩
  .rw[e];lia
  .have:=(hi p hp).2.2.1
   rw[e1,e2,m]at this;cases this
  .have:=((hi p hp).2.2.2 x e2).2.1
   rw[e1,m]at this;cases this
 row:=λ j b=>by
  have h0:=g.row j b;show S d.nC (λ x=>s.sh j x+by_*dl ps j x)+(if j=l then s.ms j-by_ else s.ms j)=d.w j
  rw[HX,Mu,h.row hi];have:S d.nC (λ x=>s.sh j x)=S d.nC (s.sh j):=rfl
  split<;>lia
 col:=λ x i=>by
  have h0:=g.col x i;show S d.nJ (λ j=>s.sh j x+by_*dl ps j x)+(if x=c then s.sp x-by_ else s.sp x)=d.cap x
  rw[HX,Mu,h.col hi]
  split<;>lia
 ms:=λ j b=>by
  have h0:=g.ms j b;show 0<=if j=l then s.ms j-by_ else s.ms j
  split
  .rename_i e;subst e;have:=f.ms;lia
  .exact h0
 sp:=λ x i=>by
  have h0:=g.sp x i;show 0<=if x=c then s.sp x-by_ else s.sp x
  split
  .rename_i e;subst e;have:=f.sp;lia
  .exact h0
inductive Rch(d:D)(s:St):Nat ⊕ Nat->Prop
 |lack {j:Nat}:j<d.nJ->0<s.ms j->Rch d s (.inl j)
 |take {j c:Nat}:Rch d s (.inl j)->c<d.nC->d.win j c=true->s.sh j c<d.mx j c->Rch d s (.inr c)
 |give {j c:Nat}:Rch d s (.inr c)->j<d.nJ->0<s.sh j c->Rch d s (.inl j)
abbrev kc(ja:List (Nat×Nat)):List Nat:=ja.map (·.1)
noncomputable abbrev kj(ca:List (Nat×Option Nat)):List Nat:=ca.map (·.1)
structure Tree(d:D)(s:St)(ja:List (Nat×Nat))(ca:List (Nat×Option Nat)):Prop where
 nc:(kc ja).Nodup
 nj:(kj ca).Nodup
 cj:∀p∈ja,p.1<d.nC/\d.win p.2 p.1=true/\s.sh p.2 p.1<d.mx p.2 p.1/\p.2∈kj ca
 jc:∀p∈ca,p.1<d.nJ/\(p.2=none->0<s.ms p.1)/\∀y,p.2=some y->y∈kc ja/\0<s.sh p.1 y
 ord:∀(i:Nat) p,ja[i]? =some p->∀y,(p.2,some y)∈ca->y∈kc (ja.take i)
 rj:∀j∈kj ca,Rch d s (.inl j)
 rc:∀c∈kc ja,Rch d s (.inr c)
structure Closed(d:D)(s:St)(ja:List (Nat×Nat))(ca:List (Nat×Option Nat)):Prop where
 lack:∀j,j<d.nJ->0<s.ms j->j∈kj ca
 out:∀j∈kj ca,∀c,c<d.nC->d.win j c=true->s.sh j c<d.mx j c->c∈kc ja
 bk:∀c∈kc ja,∀j,j<d.nJ->0<s.sh j c->j∈kj ca
def Closed.all(h:Closed d s ja ca)(r:Rch d s x):match x with
  |.inl j=>j∈kj ca
  |.inr c=>c∈kc ja:=by
 induction r with
 |lack h1 h2=>exact h.lack _ h1 h2
 |take _ h1 h2 h3 ih=>exact h.out _ ih _ h1 h2 h3
 |give _ h1 h2 ih=>exact h.bk _ ih _ h1 h2
def ZI{α β:Type}{l:List (α×β)}(nd:(l.map (·.1)).Nodup){k:α}{u v:β}(h1:(k,u)∈l)(h2:(k,v)∈l):u=v:=by
 induction l with
 |nil=>cases h1
 |cons p r ih=>
  rw[Ah,Bp]at nd
  rcases Af.mp h1 with e1|m1
  .rcases Af.mp h2 with e2|m2
   .rw[<-e1]at e2;exact (congrArg Prod.snd e2).symm
   .exact absurd (Ak.mpr ⟨_,m2,by rw[<-e1]⟩) nd.1
  .rcases Af.mp h2 with e2|m2
   .exact absurd (Ak.mpr ⟨_,m1,by rw[<-e2]⟩) nd.1
   .exact ih nd.2 m1 m2
inductive Pth(ja:List (Nat×Nat))(ca:List (Nat×Option Nat)):Nat->List Sp->Prop
 |one {c j:Nat}:(c,j)∈ja->(j,none)∈ca->Pth ja ca c [(j,c,none)]
 |cons {c j y:Nat} {r:List Sp}:(c,j)∈ja->(j,some y)∈ca->Pth ja ca y r->Pth ja ca c ((j,c,some y)::r)
section
variable{d:D}{s:St}{ja:List (Nat×Nat)}{ca:List (Nat×Option Nat)}
def Pth.head(h:Pth ja ca c ps):∃j g r,ps=(j,c,g)::r/\(c,j)∈ja/\(j,g)∈ca:=by
 cases h with
 |one h1 h2|cons h1 h2 _=>exact⟨_,_,_,rfl,h1,h2⟩
def Pth.mem(h:Pth ja ca c ps):∀p∈ps,(p.2.1,p.1)∈ja/\(p.1,p.2.2)∈ca:=by
 induction h with
 |one h1 h2=>intro p hp;rw[Au]at hp;subst hp;exact⟨h1,h2⟩
 |cons h1 h2 _ ih=>
  intro p hp
  rcases Af.mp hp with e|m
  .subst e;exact⟨h1,h2⟩
  .exact ih p m
def Tree.path(T:Tree d s ja ca):∀(i:Nat){c j:Nat},ja[i]? =some (c,j)->∃ps,Pth ja ca c ps/\(∀p∈ps.tail,p.2.1∈kc (ja.take i))/\(ps.map λ p=>p.2.1).Nodup:=by
 intro i
 induction i using Nat.strongRecOn with
 |_ i ih=>
  intro c j hi;have n:(c,j)∈ja:=Al hi;have f:c∉kc (ja.take i):=λ m=>by
   obtain⟨p,hp,e⟩:=Ak.mp m;obtain⟨k,b⟩:=B7 hp;have a:k<i:=by have:=(Ao.mp b).1;rw[Ay]at this;lia
   rw[Co a]at b;have nd:=T.nc;have h1:(kc ja)[k]? =some c:=by rw[Az,b,<-e];rfl
   have h2:(kc ja)[i]? =some c:=by rw[Az,hi];rfl
   obtain⟨o,b1⟩:=Ao.mp h1;obtain⟨t,b2⟩:=Ao.mp h2;exact (Hj.mp nd k i o t a) (b1.trans b2.symm)
  obtain⟨⟨j',g⟩,hp,e⟩:=Ak.mp (T.cj _ n).2.2.2;have e:j'=j:=e;subst e;cases g with
  |none=>exact⟨_,.one n hp,(λ p hp=>by cases hp),by simp⟩
  |some y=>
   obtain⟨⟨u,l⟩,h,e⟩:=Ak.mp (T.ord i _ hi y hp);have e:u=y:=e;subst e;obtain⟨k,b⟩:=B7 h;have a:k<i:=by have:=(Ao.mp b).1;rw[Ay]at this;lia
   rw[Co a]at b;obtain⟨ps,h1,h2,v⟩:=ih k a b;have sub:∀p∈ps,p.2.1∈kc (ja.take i):=λ p hp=>by
    obtain⟨z,A,r,e,_,_⟩:=h1.head;subst e;have up:∀x,x∈kc (ja.take k)->x∈kc (ja.take i):=λ x w=>by
     obtain⟨q,h,e⟩:=Ak.mp w
     refine Ak.mpr ⟨q,?_,e⟩
     have:(ja.take i).take k=ja.take k:=by rw[List.take_take];congr 1;lia
     rw[<-this]at h;exact Ek h
    rcases Af.mp hp with e|m
    .subst e;exact Ak.mpr ⟨_,h,rfl⟩
    .exact up _ (h2 p m)
   refine⟨_,.cons n hp h1,sub,?_⟩
   rw[Ah,Bp]
   refine⟨λ m=>?_,v⟩
   obtain⟨p,hp,e⟩:=Ak.mp m;have e:p.2.1=c:=e;rw[<-e]at f;exact f (sub p hp)
def Pth.next(h:Pth ja ca c ps):∀p∈ps,∀y,p.2.2=some y->y∈ps.tail.map λ p=>p.2.1:=by
 induction h with
 |one h1 h2=>intro p hp y e;rw[Au]at hp;subst hp;cases e
 | @cons c j z r h1 h2 h3 ih=>
  intro p hp y e
  rcases Af.mp hp with e1|m
  .subst e1
   cases e;obtain⟨b,d,f,rfl,_,_⟩:=h3.head;exact Aj
  .have:=ih p m y e
   obtain⟨q,a,eq⟩:=Ak.mp this;exact Ak.mpr ⟨q,List.mem_of_mem_tail a,eq⟩
def Pth.ne(h:Pth ja ca c ps)(nd:(ps.map λ p=>p.2.1).Nodup):∀p∈ps,∀y,p.2.2=some y->y≠p.2.1:=by
 induction h with
 |one h1 h2=>intro p hp y e;rw[Au]at hp;subst hp;cases e
 | @cons c j z r h1 h2 h3 ih=>
  rw[Ah,Bp]at nd;intro p hp y e
  rcases Af.mp hp with e1|m
  .subst e1
   cases e;obtain⟨a,b,d,rfl,_,_⟩:=h3.head;intro z;exact nd.1 (by rw[Ah,<-z];exact Aj)
  .exact ih nd.2 p m y e
def Pth.jobs(T:Tree d s ja ca){c:Nat}{ps:List Sp}(h:Pth ja ca c ps)(nd:(ps.map λ p=>p.2.1).Nodup):(ps.map (·.1)).Nodup:=by
 induction h with
 |one h1 h2=>simp
 | @cons c j y r h1 h2 h3 ih=>
  rw[Ah,Bp]at nd ⊢
  refine⟨λ m=>?_,ih nd.2⟩
  obtain⟨p,hp,e⟩:=Ak.mp m;have b:=(h3.mem p hp).2;rw[show p.1=j from e]at b
  have eg:p.2.2=some y:=ZI T.nj b h2;have:=h3.next p hp y eg;obtain⟨f,g,i,rfl,_,_⟩:=h3.head;have a:=nd.2;rw[Ah,Bp]at a;exact a.1 this
def Pth.ch(h:Pth ja ca c ps):∃l,Ch c l ps/\(l,none)∈ca:=by
 induction h with
 |one h1 h2=>exact⟨_,.one _ _,h2⟩
 |cons h1 h2 _ ih=>obtain⟨l,h,m⟩:=ih;exact⟨l,.cons h,m⟩
def Tree.way(T:Tree d s ja ca)(r:c∈kc ja)(t:∀j y,j<d.nJ->y<d.nC->0<s.sh j y->d.win j y=true):∃ps l,Pth ja ca c ps/\Ch c l ps/\In d ps/\(ps.map (·.1)).Nodup/\0<s.ms l/\l<d.nJ/\c<d.nC/\(∀p∈ps,s.sh p.1 p.2.1<d.mx p.1 p.2.1)/\∀p∈ps,∀y,p.2.2=some y->0<s.sh p.1 y:=by
 obtain⟨⟨c',j⟩,k,e⟩:=Ak.mp r;have e:c'=c:=e;subst e;obtain⟨i,hi⟩:=B7 k;obtain⟨ps,h1,h2,m⟩:=T.path i hi;obtain⟨l,u,v⟩:=h1.ch;have n:=T.jc _ v
 refine⟨ps,l,h1,u,λ p hp=>?_,h1.jobs T m,n.2.1 rfl,n.1,(T.cj _ k).1,λ p hp=>(T.cj _ (h1.mem p hp).1).2.2.1,λ p hp y g=>?_⟩
 .obtain⟨o,h⟩:=h1.mem p hp
  have a:=T.cj _ o;have b:=T.jc _ h
  refine⟨b.1,a.1,a.2.1,λ y g=>?_⟩
  obtain⟨w,x⟩:=b.2.2 y g;obtain⟨q,z,e⟩:=Ak.mp w;have f:y<d.nC:=by have:=(T.cj q z).1;rw[show q.1=y from e]at this;exact this
  exact⟨f,t _ _ b.1 f x,h1.ne m p hp y g⟩
 .obtain⟨o,h⟩:=h1.mem p hp
  exact ((T.jc _ h).2.2 y g).2
open Classical in
open Classical in
end
end Fl
namespace My
open PySem L2 L3
noncomputable abbrev zw(n:Nat)(f:Nat->Int):List V3:=(List.range n).map λ k=>.int (f k)
def jA{n:Nat}{f:Nat->Int}{k:Nat}(h:k<n):atI (zw n f) (k:Int)=some (.int (f k)):=jK (j:=k) (by simp[h])
def J7{n:Nat}{f:Nat->Int}:(zw n f).length=n:=by simp
def Mx{n:Nat}{f:Nat->Int}{k:Nat}{x:Int}:(zw n f).set k (.int x)=zw n λ i=>if i=k then x else f i:=by
 refine Ep (by simp) λ i h1 h2=>?_
 rw[List.getElem_set]
 by_cases e:k=i
 .subst e;simp
 .have a: ¬i=k:=λ z=>e z.symm
  rw[Ac e];simp[a]
def Mz{n k:Nat}(h:k<n):qU n (k:Int)=some k:=by
 unfold qU;rw[Ab (by lia),Ab (by lia)];rfl
abbrev jH(cs:List Cl)(js:List J)(n:Nat):List (Str×V3):=[("cells",.lst (cs.map Cl.enc)),("load",.lst (js.map J.enc)),("most",.lst (js.map λ j=>.dT (qf cs j))),("shares",.lst ((List.range js.length).map λ k=>.loc (n+1+k))),("missing",.loc (n+1+js.length)),("spare",.loc (n+1+(js.length+1)))]
def ju(cs:List Cl)(js:List J)(st:Fl.St):H3:=((List.range js.length).map λ j=>C3.lst (zw cs.length (st.sh j)))++[.lst (zw js.length st.ms),.lst (zw cs.length st.sp)]
def hp(h0:H3)(cs:List Cl)(js:List J)(st:Fl.St)(g:H3):H3:=h0++(.ins "Flow" (jH cs js h0.length)::(ju cs js st++g))
section
variable{h0:H3}{cs:List Cl}{js:List J}{st:Fl.St}{g:H3}
def CN:(ju cs js st).length=js.length+2:=by simp[ju]
def hp_o:(hp h0 cs js st g)[h0.length]? =some (.ins "Flow" (jH cs js h0.length)):=by
 unfold hp;rw[Bo (Ag _),Nat.sub_self];rfl
def hp_k{k:Nat}{c:C3}(e:(ju cs js st++g)[k]? =some c):(hp h0 cs js st g)[h0.length+1+k]? =some c:=by
 unfold hp;rw[Bo (by lia),show h0.length+1+k-h0.length=k+1 by lia,Dz]
 exact e
def hp_r{j:Nat}(h:j<js.length):(hp h0 cs js st g)[h0.length+1+j]? =some (.lst (zw cs.length (st.sh j))):=hp_k (by
 unfold ju;rw[Cq,Bh (by simpa using h)];simp[h])
def hp_m:(hp h0 cs js st g)[h0.length+1+js.length]? =some (.lst (zw js.length st.ms)):=hp_k (by
 unfold ju;rw[Cq,Bo (by simp)];simp)
def hp_s:(hp h0 cs js st g)[h0.length+1+(js.length+1)]? =some (.lst (zw cs.length st.sp)):=hp_k (by
 unfold ju;rw[Cq,Bo (by simp)];simp)
def hp_g{k:Nat}:(hp h0 cs js st g)[h0.length+1+(js.length+2)+k]? =g[k]? :=by
 unfold hp;rw[Bo (by lia),show h0.length+1+(js.length+2)+k-h0.length=(js.length+2+k)+1 by lia,Dz,Bo (by rw[CN];lia),CN,show js.length+2+k-(js.length+2)=k by lia]
def QX:(hp h0 cs js st g).length=h0.length+1+(js.length+2)+g.length:=by
 unfold hp;rw[Ar,Ax,Ar,CN];lia
def DT{x:H3}:hp h0 cs js st g++x=hp h0 cs js st (g++x):=by unfold hp;simp
def J8{k:Nat}{c:C3}:(hp h0 cs js st g).set (h0.length+1+k) c=h0++(.ins "Flow" (jH cs js h0.length)::(ju cs js st++g).set k c):=by
 unfold hp;rw[Ey _ _ (by lia),show h0.length+1+k-h0.length=k+1 by lia,Gw]
def ZJ{k:Nat}{c:C3}:(hp h0 cs js st g).set (h0.length+1+(js.length+2)+k) c=hp h0 cs js st (g.set k c):=by
 rw[show h0.length+1+(js.length+2)+k=h0.length+1+(js.length+2+k) by lia,J8,Ey _ _ (by rw[CN];lia),CN,show js.length+2+k-(js.length+2)=k by lia]
 rfl
def ZK{j:Nat}{f:Nat->Int}(h:j<js.length):(hp h0 cs js st g).set (h0.length+1+j) (.lst (zw cs.length f))=hp h0 cs js {st with sh:=λ a=>if a=j then f else st.sh a} g:=by
 rw[J8,G2 _ _ (by rw[CN];lia)]
 unfold hp
 congr 3
 unfold ju;rw[G2 _ _ (by simpa using h)]
 congr 1
 refine Ep (by simp) λ i h1 h2=>?_
 rw[List.getElem_set]
 by_cases e:j=i
 .subst e;simp
 .have b: ¬i=j:=λ z=>e z.symm
  rw[Ac e];simp[b]
def ZL{f:Nat->Int}:(hp h0 cs js st g).set (h0.length+1+js.length) (.lst (zw js.length f))=hp h0 cs js {st with ms:=f} g:=by
 rw[J8,G2 _ _ (by rw[CN];lia)]
 unfold hp
 congr 3
 unfold ju;rw[Ey _ _ (by simp)]
 simp
def ZM{f:Nat->Int}:(hp h0 cs js st g).set (h0.length+1+(js.length+1)) (.lst (zw cs.length f))=hp h0 cs js {st with sp:=f} g:=by
 rw[J8,G2 _ _ (by rw[CN];lia)]
 unfold hp
 congr 3
 unfold ju;rw[Ey _ _ (by simp)]
 simp
end
def qi{n:Nat}{cs:List Cl}{js:List J}:(jH cs js n).lookup ("cells":Str)=some (.lst (cs.map Cl.enc))/\(jH cs js n).lookup ("load":Str)=some (.lst (js.map J.enc))/\(jH cs js n).lookup ("most":Str)=some (.lst (js.map λ j=>.dT (qf cs j)))/\(jH cs js n).lookup ("shares":Str)=some (.lst ((List.range js.length).map λ k=>.loc (n+1+k)))/\(jH cs js n).lookup ("missing":Str)=some (.loc (n+1+js.length))/\(jH cs js n).lookup ("spare":Str)=some (.loc (n+1+(js.length+1))):=by
 have a:(Str.ofString "load" ==Str.ofString "cells")=false:=by decide+kernel
 have b:(Str.ofString "most" ==Str.ofString "cells")=false:=by decide+kernel
 have c:(Str.ofString "most" ==Str.ofString "load")=false:=by decide+kernel
 have d:(Str.ofString "shares" ==Str.ofString "cells")=false:=by decide+kernel
 have e:(Str.ofString "shares" ==Str.ofString "load")=false:=by decide+kernel
 have f:(Str.ofString "shares" ==Str.ofString "most")=false:=by decide+kernel
 have b1:(Str.ofString "missing" ==Str.ofString "cells")=false:=by decide+kernel
 have b2:(Str.ofString "missing" ==Str.ofString "load")=false:=by decide+kernel
 have b3:(Str.ofString "missing" ==Str.ofString "most")=false:=by decide+kernel
 have b4:(Str.ofString "missing" ==Str.ofString "shares")=false:=by decide+kernel
 have g:(Str.ofString "spare" ==Str.ofString "cells")=false:=by decide+kernel
 have h:(Str.ofString "spare" ==Str.ofString "load")=false:=by decide+kernel
 have i:(Str.ofString "spare" ==Str.ofString "most")=false:=by decide+kernel
 have l:(Str.ofString "spare" ==Str.ofString "shares")=false:=by decide+kernel
 have m:(Str.ofString "spare" ==Str.ofString "missing")=false:=by decide+kernel
 have r:∀x:Str,(x==x)=true:=λ x=>by simp
 simp only[List.lookup,a,b,c,d,e,f,b1,b2,b3,b4,g,h,i,l,m,r,and_self]
def jg{n:Nat}{cs:List Cl}{js:List J}{m:String}(h:["cells","load","most","shares","missing","spare"].all (λ x=> !(Str.ofString m==Str.ofString x))=true):(jH cs js n).lookup (Str.ofString m)=none:=by
 simp only[Fi,List.all_nil,Bool.and_true,Be,Gd]at h;obtain⟨a,b,c,d,e,f⟩:=h;simp only[List.lookup,a,b,c,d,e,f]
instance:Inhabited J:=⟨⟨[],0,0,0,0⟩⟩
abbrev zR(js:List J)(k:Nat):J:=js.getD k default
def fd(cs:List Cl)(js:List J):Fl.D:=⟨js.length,cs.length,λ j=>(zR js j).w,λ j c=>wn cs (zR js j) c,λ j c=>(zR js j).b*clen cs c,λ c=>(zN cs c).m*clen cs c⟩
def atL{α:Type}{l:List α}{f:α->V3}{k:Nat}{a:α}(h:l[k]? =some a):atI (l.map f) (k:Int)=some (f a):=jK (j:=k) (by rw[Az,h];rfl)
def HY{js:List J}{k:Nat}(h:k<js.length):js[k]? =some (zR js k):=by
 unfold zR;rw[Cf,zX h];rfl
def AW{s:S3}{h:H3}{n:Nat}{xs:List V3}{k:Int}(e:h[n]? =some (.lst xs)):zr s h (.x (.loc n)) (.x (.int k))=(atI xs k).map .v:=by
 unfold zr qS oIxT yV oIxS;simp only[rdl,e];cases atI xs k<;>rfl
def MA{s:S3}{h:H3}{n:Nat}{xs:List V3}{k:Int}(e:h[n]? =some (.lst xs)):yV s h (.x (.loc n)) (.x (.int k))=(atI xs k).map .v:=by
 unfold yV;simp only[rdl,e]
def ZN{ps:List Nat}{f:Nat->V3}{c:Nat}(h:c∈ps):yk (ps.map λ k=>(ik k,f k)) (ik c)=some (f c):=by
 unfold yk
 induction ps with
 |nil=>cases h
 |cons a r ih=>
  rw[Ah]
  by_cases e:ik a=ik c
  .rw[G4 (by simpa using e),DS e];rfl
  .rw[G5 (by simpa using e)]
   rcases Af.mp h with z|m
   .exact absurd (by rw[z]) e
   .exact ih m
def ZO{cs:List Cl}{j:J}{c:Nat}(a:c<cs.length)(d:wn cs j c=true):yk (qf cs j) (.one (.inl (c:Int)))=some (.int (j.b*clen cs c)):=
 ZN (f:=λ k=>.int (j.b*clen cs k)) (B0.mpr ⟨Bi.mpr a,d⟩)
noncomputable abbrev encO(g:Option Nat):V3:=match g with
 |none=>.non
 |some y=>.int (y:Int)
abbrev zJ(p:Fl.Sp):V3:= .tup [.int (p.1:Int),.int (p.2.1:Int),encO p.2.2]
section
variable{h0:H3}{cs:List Cl}{js:List J}{st:Fl.St}{g:H3}
noncomputable abbrev shL(js:List J)(n:Nat):List V3:=(List.range js.length).map λ k=>V3.loc (n+1+k)
def ES{n j:Nat}(h:j<js.length):atI (shL js n) (j:Int)=some (.loc (n+1+j)):=jK (j:=j) (by simp[h])
def yy:(Str.ofString "Flow" ∈[Str.ofString "Flow"])=True:=by simp
def zD:yS (hp h0 cs js st g) (.x (.loc h0.length))=some (("Flow" :Str),jH cs js h0.length):=by unfold yS;simp only[hp_o]
structure ByOk(cs:List Cl)(js:List J)(st:Fl.St)(ps:List Fl.Sp)(c l:Nat)(b:Int):Prop where
 sp:b<=st.sp c
 ms:b<=st.ms l
 up:∀p∈ps,b<=(fd cs js).mx p.1 p.2.1-st.sh p.1 p.2.1
 dn:∀p∈ps,∀y,p.2.2=some y->b<=st.sh p.1 y
 at_:∀m:Int,m<=st.sp c->m<=st.ms l->(∀p∈ps,m<=(fd cs js).mx p.1 p.2.1-st.sh p.1 p.2.1)->(∀p∈ps,∀y,p.2.2=some y->m<=st.sh p.1 y)->m<=b
def ZP{ps:List Fl.Sp}(hi:Fl.In (fd cs js) ps){c l:Nat}(h1:(hp h0 cs js st g)=(hp h0 cs js st g)){Q:Res Vl->Prop}{r:D3}
  (k:∀b y3 o y5,ByOk cs js st ps c l b->Q ((r [some (.v (.loc h0.length)),some (.v (.lst (ps.map zJ))),some (.v (.int b)),y3,o,y5] (hp h0 cs js st g)).res)):
  Q ((sSeq Jf r [some (.v (.loc h0.length)),some (.v (.lst (ps.map zJ))),some (.v (.int (min (st.sp c) (st.ms l)))),none,none,none] (hp h0 cs js st g)).res):=by
 unfold Jf
 refine DD (x:= .lst (ps.map zJ)) (l:=ps) (enc:=zJ) (by simp![]) rfl (λ i s=> ∃b y3 o y5,s=[some (.v (.loc h0.length)),some (.v (.lst (ps.map zJ))),some (.v (.int b)),y3,o,y5]/\ByOk cs js st (ps.take i) c l b) ⟨_,none,none,none,rfl,⟨by lia,by lia,by simp,by simp,λ m u w _ _=>by lia⟩⟩ ?_ ?_
 .rintro i ⟨j,x,C⟩ s hs ⟨b,y3,o,y5,rfl,a⟩
  obtain⟨F,G,H,I⟩:=hi _ (Al hs);have d:j<js.length:=F;have h:x<cs.length:=G;have B:wn cs (zR js j) x=true:=H;have D:=atL (f:=λ j=>V3.dT (qf cs j)) (HY d)
  have q:=ZO h B;have E:=hp_r (h0:=h0) (cs:=cs) (st:=st) (g:=g) d;have mem:∀p,p∈ps.take (i+1)↔p∈ps.take i\/p=(j,x,C):=λ p=>by rw[Ql hs,Bc,Au]
  cases C with
  |none=>
   refine⟨_,by (simp![ze,zD,yy,qi,D,AN,qK,Dc.get,jQ,Am,q,ES d,AW E,jA h])<;>rfl,⟨min b ((zR js j).b*clen cs x-st.sh j x),_,_,_,rfl,⟨by have:=a.sp;lia,by have:=a.ms;lia,λ p hp=>?_,λ p hp y e=>?_,λ m u w t A=>?_⟩⟩⟩
   .rcases (mem p).mp hp with m|rfl
    .have:=a.up p m;lia
    .show min b ((zR js j).b*clen cs x-st.sh j x)<=(zR js j).b*clen cs x-st.sh j x;lia
   .rcases (mem p).mp hp with m|rfl
    .have:=a.dn p m y e;lia
    .cases e
   .have h1:=a.at_ m u w (λ p hp=>t p ((mem p).mpr (.inl hp))) (λ p hp=>A p ((mem p).mpr (.inl hp)))
    have h2:m<=(zR js j).b*clen cs x-st.sh j x:=t _ ((mem _).mpr (.inr rfl));lia
  |some y=>
   obtain⟨n,_,_⟩:=I y rfl;have n:y<cs.length:=n
   refine⟨_,by (simp![ze,zD,yy,qi,D,AN,qK,Dc.get,jQ,Am,q,ES d,AW E,jA h,jA n])<;>rfl,⟨min (min b ((zR js j).b*clen cs x-st.sh j x)) (st.sh j y),_,_,_,rfl,⟨by have:=a.sp;lia,by have:=a.ms;lia,λ p hp=>?_,λ p hp z e=>?_,λ m u w t A=>?_⟩⟩⟩
   .rcases (mem p).mp hp with m|rfl
    .have:=a.up p m;lia
    .show min (min b ((zR js j).b*clen cs x-st.sh j x)) (st.sh j y)<=(zR js j).b*clen cs x-st.sh j x;lia
   .rcases (mem p).mp hp with m|rfl
    .have:=a.dn p m z e;lia
    .cases e;show _<=st.sh j y;lia
   .have h1:=a.at_ m u w (λ p hp=>t p ((mem p).mpr (.inl hp))) (λ p hp=>A p ((mem p).mpr (.inl hp)))
    have h2:m<=(zR js j).b*clen cs x-st.sh j x:=t _ ((mem _).mpr (.inr rfl));have J:m<=st.sh j y:=A _ ((mem _).mpr (.inr rfl)) y rfl;lia
 .rintro s ⟨b,y3,o,y5,rfl,a⟩
  rw[Cj]at a;exact k b y3 o y5 a
end
section
variable{h0:H3}{cs:List Cl}{js:List J}{st:Fl.St}{g:H3}
noncomputable abbrev upd2(sh:Nat->Nat->Int)(j x:Nat)(v:Int):Nat->Nat->Int:=λ a=>if a=j then (λ i=>if i=x then v else sh j i) else sh a
def QY(f:F2)(d:Int->Int->Int)(n:∀s h a c,f s h (.x (.int a)) (.x (.int c))=some (.v (.int (d a c)))){s:S3}{i j x:Nat}{b:Int}(o:s[0]? =some (some (.v (.loc h0.length))))(e2:s[2]? =some (some (.v (.int b))))(p:s[3]? =some (some (.v (.int (j:Int)))))(q:s[i]? =some (some (.v (.int (x:Int)))))
  (e:j<js.length) (l:x<cs.length):j5 f (pE (eOp zr (pE (ze [("Flow" :Str)] ("shares" :Str) (pV 0))) (pV 3))) (pV i) (pV 2) s (hp h0 cs js st g)=.nx s (hp h0 cs js {st with sh:=upd2 st.sh j x (d (st.sh j x) b)} g):=by
 have m:=hp_r (h0:=h0) (cs:=cs) (st:=st) (g:=g) e;have es:=ZK (h0:=h0) (cs:=cs) (st:=st) (g:=g) (f:=λ k=>if k=x then d (st.sh j x) b else st.sh j k) e
 (simp![j5,o,e2,p,q,ze,zD,yy,qi,ES e,MA m,jA l,Am,n,m,Mz l,J7,Mx,es])
def ZQ{ps:List Fl.Sp}(hi:Fl.In (fd cs js) ps){b:Int}{q t u:Option Vl}{Q:Res Vl->Prop}{r:D3}
  (k:∀y3 m y5,Q ((r [some (.v (.loc h0.length)),some (.v (.lst (ps.map zJ))),some (.v (.int b)),y3,m,y5] (hp h0 cs js {st with sh:=λ a x=>st.sh a x+b*Fl.dl ps a x} g)).res)):
  Q ((sSeq Jg r [some (.v (.loc h0.length)),some (.v (.lst (ps.map zJ))),some (.v (.int b)),q,t,u] (hp h0 cs js st g)).res):=by
 unfold Jg
 refine YX (l:=ps) (enc:=zJ) (its:=[.lst (ps.map zJ)]) (ok:=λ _=>True) (by (simp![iL,yL])<;>rfl) (λ i s h=> ∃y3 m y5,s=[some (.v (.loc h0.length)),some (.v (.lst (ps.map zJ))),some (.v (.int b)),y3,m,y5]/\h=hp h0 cs js {st with sh:=λ a x=>st.sh a x+b*Fl.dl (ps.take i) a x} g) (λ _ _ _ _=>trivial) ⟨q,t,u,rfl,?_⟩ ?_ ?_
 .have e:(λ a x=>st.sh a x+b*Fl.dl (ps.take 0) a x)=st.sh:=by
   funext a x
   show st.sh a x+b*0=_;lia
  rw[e]
 .rintro i ⟨j,x,A⟩ s h hs ⟨y3,m,y5,rfl,rfl⟩
  obtain⟨B,C,G,D⟩:=hi _ (Al hs);have o:j<js.length:=B;have p:x<cs.length:=C;have w:=λ st y5=>QY (h0:=h0) (g:=g) (st:=st) AE (λ a c=>a+c) (λ _ _ _ _=>oAddI_int) (s:=[some (.v (.loc h0.length)),some (.v (.lst (ps.map zJ))),some (.v (.int b)),some (.v (.int (j:Int))),some (.v (.int (x:Int))),y5]) (i:=4) (j:=j) (x:=x) (b:=b) rfl rfl rfl rfl o p
  cases A with
  |none=>
   refine⟨[some (.v (.loc h0.length)),some (.v (.lst (ps.map zJ))),some (.v (.int b)),some (.v (.int (j:Int))),some (.v (.int (x:Int))),some (.v .non)],hp h0 cs js {st with sh:=λ a x=>st.sh a x+b*Fl.dl (ps.take (i+1)) a x} g,?_,_,_,_,rfl,rfl⟩
   have e:{st with sh:=upd2 (λ a x=>st.sh a x+b*Fl.dl (ps.take i) a x) j x (st.sh j x+b*Fl.dl (ps.take i) j x+b)}=({st with sh:=λ a x=>st.sh a x+b*Fl.dl (ps.take (i+1)) a x}:Fl.St):=by
    congr 1
    funext a z
    rw[Ql hs,Fl.dl_snoc,Int.mul_add];show (if a=j then (λ E=>_) else _) z=_
    by_cases ea:a=j
    .subst ea
     rw[Ab rfl]
     by_cases ez:z=x
     .subst ez
      have:Fl.e1 a z a z=1:=by unfold Fl.e1;simp
      simp only[B6,this,Fl.eg];lia
     .have:Fl.e1 a x a z=0:=by unfold Fl.e1;simp[ez]
      simp only[Ac ez,this,Fl.eg];lia
    .have:Fl.e1 j x a z=0:=by unfold Fl.e1;simp[ea]
     simp only[Ac ea,this,Fl.eg];lia
   rw[<-e]
   (simp![w])
  |some y=>
   obtain⟨f,_,d⟩:=D y rfl;have f:y<cs.length:=f;have d:y≠x:=d;have F:=λ st=>QY (h0:=h0) (g:=g) (st:=st) zV (λ a c=>a-c) (λ _ _ _ _=>oSub_int) (s:=[some (.v (.loc h0.length)),some (.v (.lst (ps.map zJ))),some (.v (.int b)),some (.v (.int (j:Int))),some (.v (.int (x:Int))),some (.v (.int (y:Int)))]) (i:=5) (j:=j) (x:=y) (b:=b) rfl rfl rfl rfl o f
   refine⟨[some (.v (.loc h0.length)),some (.v (.lst (ps.map zJ))),some (.v (.int b)),some (.v (.int (j:Int))),some (.v (.int (x:Int))),some (.v (.int (y:Int)))],hp h0 cs js {st with sh:=λ a x=>st.sh a x+b*Fl.dl (ps.take (i+1)) a x} g,?_,_,_,_,rfl,rfl⟩
   have e:{st with sh:=upd2 (upd2 (λ a x=>st.sh a x+b*Fl.dl (ps.take i) a x) j x (st.sh j x+b*Fl.dl (ps.take i) j x+b)) j y (upd2 (λ a x=>st.sh a x+b*Fl.dl (ps.take i) a x) j x (st.sh j x+b*Fl.dl (ps.take i) j x+b) j y-b)}=({st with sh:=λ a x=>st.sh a x+b*Fl.dl (ps.take (i+1)) a x}:Fl.St):=by
    congr 1
    funext a z
    rw[Ql hs,Fl.dl_snoc,Int.mul_add];unfold upd2
    by_cases ea:a=j
    .subst ea
     by_cases ey:z=y
     .subst ey
      have t1:Fl.e1 a x a z=0:=by unfold Fl.e1;simp[d]
      have n:Fl.eg a (some z) a z=1:=by show Fl.e1 a z a z=1;unfold Fl.e1;simp
      simp only[B6,Ac d,t1,n];lia
     .have n:Fl.eg a (some y) a z=0:=by show Fl.e1 a y a z=0;unfold Fl.e1;simp[ey]
      by_cases ez:z=x
      .subst ez
       have t1:Fl.e1 a z a z=1:=by unfold Fl.e1;simp
       simp only[B6,Ac ey,t1,n];lia
      .have t1:Fl.e1 a x a z=0:=by unfold Fl.e1;simp[ez]
       simp only[B6,Ac ey,Ac ez,t1,n];lia
    .have t1:Fl.e1 j x a z=0:=by unfold Fl.e1;simp[ea]
     have n:Fl.eg j (some y) a z=0:=by show Fl.e1 j y a z=0;unfold Fl.e1;simp[ea]
     simp only[Ac ea,t1,n];lia
   rw[<-e]
   (simp![w,F])
 .rintro s h ⟨y3,m,y5,rfl,rfl⟩
  rw[Cj];exact k y3 m y5
end
def QZ{c l:Nat}{ps:List Fl.Sp}(h:Fl.Ch c l ps):∃j g r,ps=(j,c,g)::r:=by
 cases h with
 |one j c|cons _=>exact⟨_,_,_,rfl⟩
def ZR{c l:Nat}{ps:List Fl.Sp}(h:Fl.Ch c l ps):∃i x,ps=i++[(l,x,none)]:=by
 induction h with
 |one j c=>exact⟨[],c,rfl⟩
 | @cons j c y l r _ ih=>obtain⟨i,x,rfl⟩:=ih;exact⟨(j,c,some y)::i,x,rfl⟩
section
variable{h0:H3}{cs:List Cl}{js:List J}{st:Fl.St}{g:H3}
abbrev zl(k:Nat):V3:= .int (k:Int)
def ZS{s:S3}{x:Nat}{b:Int}{i:P3}(d:s[0]? =some (some (.v (.loc h0.length))))(e2:s[2]? =some (some (.v (.int b))))(j:∀h,i s h=.ok (.x (.int (x:Int))) h)(a:x<cs.length):
  j5 zV (pE (ze [("Flow" :Str)] ("spare" :Str) (pV 0))) i (pV 2) s (hp h0 cs js st g)=.nx s (hp h0 cs js {st with sp:=λ k=>if k=x then st.sp k-b else st.sp k} g):=by
 have c:=hp_s (h0:=h0) (cs:=cs) (js:=js) (st:=st) (g:=g);have es:=ZM (h0:=h0) (cs:=cs) (js:=js) (st:=st) (g:=g) (f:=λ k=>if k=x then st.sp x-b else st.sp k)
 have e:(λ k=>if k=x then st.sp x-b else st.sp k)=λ k=>if k=x then st.sp k-b else st.sp k:=by
  funext k
  by_cases z:k=x
  .subst z;rfl
  .rw[Ac z,Ac z]
 rw[e]at es
 (simp![j5,d,e2,j,ze,zD,yy,qi,MA c,jA a,Am,c,Mz a,J7,Mx,e,es])
def ZT{s:S3}{x:Nat}{b:Int}{i:P3}(d:s[0]? =some (some (.v (.loc h0.length))))(e2:s[2]? =some (some (.v (.int b))))(j:∀h,i s h=.ok (.x (.int (x:Int))) h)(a:x<js.length):
  j5 zV (pE (ze [("Flow" :Str)] ("missing" :Str) (pV 0))) i (pV 2) s (hp h0 cs js st g)=.nx s (hp h0 cs js {st with ms:=λ k=>if k=x then st.ms k-b else st.ms k} g):=by
 have c:=hp_m (h0:=h0) (cs:=cs) (js:=js) (st:=st) (g:=g);have es:=ZL (h0:=h0) (cs:=cs) (js:=js) (st:=st) (g:=g) (f:=λ k=>if k=x then st.ms x-b else st.ms k)
 have e:(λ k=>if k=x then st.ms x-b else st.ms k)=λ k=>if k=x then st.ms k-b else st.ms k:=by
  funext k
  by_cases z:k=x
  .subst z;rfl
  .rw[Ac z,Ac z]
 rw[e]at es
 (simp![j5,d,e2,j,ze,zD,yy,qi,MA c,jA a,Am,c,Mz a,J7,Mx,e,es])
def ZU(h0:H3)(cs:List Cl)(js:List J)(st:Fl.St)(g:H3)(ps:List Fl.Sp)(c l:Nat)(R:Res Vl):Prop:=∃b,ByOk cs js st ps c l b/\R=.ok (.v .non) (hp h0 cs js (st.after ps c l b) g)
def Ra{ps:List Fl.Sp}{c l:Nat}(hi:Fl.In (fd cs js) ps)(f:Fl.Ch c l ps)(d:c<cs.length)(e:l<js.length):ZU h0 cs js st g ps c l (CF [.loc h0.length,.lst (ps.map zJ)] (hp h0 cs js st g)):=by
 obtain⟨j,p,r,e1⟩:=QZ f;obtain⟨i,x,e2⟩:=ZR f;have m:atI (ps.map zJ) (0:Int)=some (zJ (j,c,p)):=by rw[e1];exact at0
 have n:atI (ps.map zJ) (-1:Int)=some (zJ (l,x,none)):=by rw[e2,Av];exact atm1
 have q:=hp_s (h0:=h0) (cs:=cs) (js:=js) (st:=st) (g:=g);have t:=hp_m (h0:=h0) (cs:=cs) (js:=js) (st:=st) (g:=g);unfold CF KY
 refine qo rfl ?_
 refine zF (s1:=[some (.v (.loc h0.length)),some (.v (.lst (ps.map zJ))),some (.v (.int (min (st.sp c) (st.ms l)))),none,none,none]) (h1:=hp h0 cs js st g) ?_ ?_
 ·(simp![ze,zD,yy,qi,m,n,AW q,AW t,jA d,jA e,Am])
 refine ZP hi (c:=c) (l:=l) rfl λ b y3 o y5 u=>?_
 refine ZQ hi λ y3 o y5=>?_
 refine zF (ZS (x:=c) rfl rfl (λ h=>by (simp![m])) d) ?_
 refine⟨b,u,?_⟩
 have:=ZT (h0:=h0) (cs:=cs) (js:=js) (g:=g) (st:={st with sh:=λ a x=>st.sh a x+b*Fl.dl ps a x,sp:=λ k=>if k=c then st.sp k-b else st.sp k}) (s:=[some (.v (.loc h0.length)),some (.v (.lst (ps.map zJ))),some (.v (.int b)),y3,o,y5]) (x:=l) (b:=b) (i:=pE (eOp zr (pE (eOp zr (pV 1) (pE (eNeg (kJ 1))))) (kJ 0))) rfl rfl (λ h=>by (simp![n])) e
 rw[this];rfl
end
section
variable{h0:H3}{cs:List Cl}{js:List J}{st:Fl.St}{g:H3}
def ZV{ps:List Fl.Sp}{c l:Nat}{b:Int}(a:ByOk cs js st ps c l b)(z:0<=st.sp c)(d:0<=st.ms l)(e:∀p∈ps,0<=(fd cs js).mx p.1 p.2.1-st.sh p.1 p.2.1)(f:∀p∈ps,∀y,p.2.2=some y->0<=st.sh p.1 y):Fl.Fits (fd cs js) st ps c l b:=
 ⟨a.at_ 0 z d e f,a.sp,a.ms,a.up,a.dn⟩
def ZW(j:J):(qf cs j).map (λ a=>mkV3 a.1)=(qQ cs j).map zl:=by
 unfold qf;rw[Bg];rfl
def ZX(t:Fl.Good (fd cs js) st){j:Nat}(o:j<js.length)(y3:Option Vl):∃s' h',GX [some (.v (.loc h0.length)),some (.v (.int (j:Int))),some (.v (.dT (qf cs (zR js j)))),y3] (hp h0 cs js st g)=.nx s' h'/\∃y3 a,Fl.Good (fd cs js) a/\s'=[some (.v (.loc h0.length)),some (.v (.int (j:Int))),some (.v (.dT (qf cs (zR js j)))),y3]/\h'=hp h0 cs js a g:=by
 unfold GX;have u:=ZW (cs:=cs) (zR js j)
 refine EO (l:=qQ cs (zR js j)) (enc:=zl) (its:=[.dT (qf cs (zR js j))]) (ok:=λ _=>True) (by (simp![iDl,BF,u])<;>rfl) (λ i s h=> ∃y3 a,Fl.Good (fd cs js) a/\s=[some (.v (.loc h0.length)),some (.v (.int (j:Int))),some (.v (.dT (qf cs (zR js j)))),y3]/\h=hp h0 cs js a g) (λ _ _ _ _=>trivial) ⟨y3,st,t,rfl,rfl⟩ ?_
 rintro i c s h hi ⟨y3,a,d,rfl,rfl⟩;obtain⟨f,r⟩:=B0.mp (Al hi);have f:c<cs.length:=Bi.mp f;have k:Fl.In (fd cs js) [(j,c,none)]:=λ p hp=>by
  rw[Au]at hp;subst hp;exact⟨o,f,r,λ y e=>by cases e⟩
 obtain⟨b,w,q⟩:=Ra (h0:=h0) (st:=a) (g:=g) k (.one j c) f o;have q:CF [.loc h0.length,.lst [.tup [.int (j:Int),.int (c:Int),.non]]] (hp h0 cs js a g)=_:=q;have nm:=jg (n:=h0.length) (cs:=cs) (js:=js) (m:="shift") (by decide+kernel)
 have ft:=ZV w (d.sp c f) (d.ms j o) (λ p hp=>by
  rw[Au]at hp;subst hp;have:=d.hi j c o f r;show 0<=(fd cs js).mx j c-a.sh j c;lia) (λ p hp y e=>by rw[Au]at hp;subst hp;cases e)
 exact⟨_,_,by (simp![zM,zD,nm,q])<;>rfl,_,_,d.after (.one j c) k (by simp) ft,rfl,rfl⟩
def Q_go(h0:H3)(cs:List Cl)(js:List J)(g:H3)(R:Res Vl):Prop:=∃a,Fl.Good (fd cs js) a/\R=.ok (.v .non) (hp h0 cs js a g)
def ZY(o:Fl.Good (fd cs js) st):Q_go h0 cs js g (GY [.loc h0.length] (hp h0 cs js st g)):=by
 unfold GY La KZ
 refine qo rfl ?_
 have p:(List.range (js.map λ j=>V3.dT (qf cs j)).length).map (λ k=>V3.tup [.int (k:Nat),(js.map λ j=>V3.dT (qf cs j)).getD k .non])=(List.range js.length).map λ k=>V3.tup [.int (k:Nat),.dT (qf cs (zR js k))]:=by
  rw[Ae]
  refine Ef λ k d=>?_
  have d:=Bi.mp d;rw[Cf,Az,HY d];rfl
 obtain⟨s',h',e,f,m,y3,a,c,rfl,rfl⟩:=EO (g:=gT (gsCons (gN 1) (gsCons (gN 2) gsNil))) (b:=GX) (s:=[some (.v (.loc h0.length)),none,none,none]) (h:=hp h0 cs js st g) (it:=AG (aCons (pE (ze [("Flow" :Str)] ("most" :Str) (pV 0))) aNil)) (l:=List.range js.length) (enc:=λ k=>V3.tup [.int (k:Nat),.dT (qf cs (zR js k))]) (its:=[.lst (js.map λ j=>V3.dT (qf cs j))]) (ok:=λ _=>True) (by (simp![AG,yL,ze,zD,yy,qi,p])<;>rfl) (λ i s h=> ∃f m y3 a,Fl.Good (fd cs js) a/\s=[some (.v (.loc h0.length)),f,m,y3]/\h=hp h0 cs js a g) (λ _ _ _ _=>trivial) ⟨none,none,none,st,o,rfl,rfl⟩ (by
   rintro i k s h hi ⟨f,m,y3,a,c,rfl,rfl⟩;have d:k<js.length:=Bi.mp (Al hi);obtain⟨s2,h2,e2,q,r,n,rfl,rfl⟩:=ZX (h0:=h0) (g:=g) c d y3;exact⟨_,_,by (simp![e2])<;>rfl,_,_,_,_,n,rfl,rfl⟩)
 refine⟨a,c,?_⟩
 (simp![e])
end
end My
namespace Fl
section
variable{d:D}{s:St}{ja:List (Nat×Nat)}{ca:List (Nat×Option Nat)}
structure Srch(d:D)(s:St)(ja:List (Nat×Nat))(ca:List (Nat×Option Nat))(wt:List Nat)(cur:Option Nat):Prop where
 tree:Tree d s ja ca
 lack:∀j,j<d.nJ->0<s.ms j->j∈kj ca
 bk:∀c∈kc ja,∀j,j<d.nJ->0<s.sh j c->j∈kj ca
 out:∀j∈kj ca,j∈wt\/some j=cur\/∀c,c<d.nC->d.win j c=true->s.sh j c<d.mx j c->c∈kc ja
 wt:∀j∈wt,j∈kj ca
def fresh(d:D)(s:St)(ca:List (Nat×Option Nat))(c:Nat):List Nat:=((List.range d.nJ).filter λ j=>decide (0<s.sh j c)).filter λ j=>decide (j∉kj ca)
def fresh_mem:j∈fresh d s ca c↔j<d.nJ/\0<s.sh j c/\j∉kj ca:=by
 unfold fresh;rw[B0,B0,Bi];simp[and_assoc]
def fresh_nodup:(fresh d s ca c).Nodup:=(List.nodup_range.sublist E5).sublist E5
def Srch.step{wt:List Nat}{j c:Nat}(S:Srch d s ja ca wt (some j))(u:j∈kj ca)(B:c<d.nC)(C:d.win j c=true)(D:s.sh j c<d.mx j c)(E:c∉kc ja):
  Srch d s (ja++[(c,j)]) (ca++(fresh d s ca c).map λ o=>(o,some c)) (wt++fresh d s ca c) (some j):=by
 have T:=S.tree;have g:kj (ca++(fresh d s ca c).map λ o=>(o,some c))=kj ca++fresh d s ca c:=by
  show (ca++_).map _=_;rw[Av,Bg]
  congr 1
  exact List.map_id _
 have h:kc (ja++[(c,j)])=kc ja++[c]:=by show (ja++_).map _=_;rw[Av];rfl
 have up:∀x,x∈kj ca->x∈kj (ca++(fresh d s ca c).map λ o=>(o,some c)):=λ x b=>by rw[g];exact Cs _ b
 have q:∀x,x∈kc ja->x∈kc (ja++[(c,j)]):=λ x b=>by rw[h];exact Cs _ b
 have r:Rch d s (.inr c):= .take (T.rj j u) B C D
 refine⟨⟨?_,?_,?_,?_,?_,?_,?_⟩,λ x h1 h2=>up x (S.lack x h1 h2),?_,?_,?_⟩
 .rw[h];exact Cw.mpr ⟨T.nc,by simp,λ x b y f z=>by rw[Au]at f;subst f;subst z;exact E b⟩
 .rw[g];exact Cw.mpr ⟨T.nj,fresh_nodup,λ x b y f z=>by subst z;exact (fresh_mem.mp f).2.2 b⟩
 .intro p hp
  rcases Bc.mp hp with m|m
  .obtain⟨v,w,t,F⟩:=T.cj p m;exact⟨v,w,t,up _ F⟩
  .rw[Au]at m;subst m;exact⟨B,C,D,up _ u⟩
 .intro p hp
  rcases Bc.mp hp with m|m
  .obtain⟨v,w,t⟩:=T.jc p m;exact⟨v,w,λ y f=>⟨q _ (t y f).1,(t y f).2⟩⟩
  .obtain⟨o,n,rfl⟩:=Ak.mp m
   obtain⟨b1,b2,b3⟩:=fresh_mem.mp n
   refine⟨b1,(λ z=>by cases z),λ y f=>?_⟩
   cases f;exact⟨by rw[h];simp,b2⟩
 .intro i p hp y f
  have l:∀k,k∈kj ca->∀y,(k,some y)∈ca++(fresh d s ca c).map (λ o=>(o,some c))->(k,some y)∈ca:=λ k G y f=>by
   rcases Bc.mp f with m|m
   .exact m
   .obtain⟨o,n,e⟩:=Ak.mp m
    cases e;exact absurd G (fresh_mem.mp n).2.2
  by_cases hi:i<ja.length
  .rw[Bh hi]at hp
   rw[List.take_append_of_le_length (by lia)]
   exact T.ord i p hp y (l _ (T.cj p (Al hp)).2.2.2 y f)
  .have A:i=ja.length:=by
    have:=(Ao.mp hp).1;rw[Ar,Cc]at this;lia
   subst A;rw[Bo (Ag _),Nat.sub_self]at hp;cases hp;rw[List.take_left']
   .exact ((T.jc _ (l j u y f)).2.2 y rfl).1
   .rfl
 .intro x b
  rw[g]at b
  rcases Bc.mp b with m|m
  .exact T.rj x m
  .obtain⟨b1,b2,_⟩:=fresh_mem.mp m;exact .give r b1 b2
 .intro x b
  rw[h]at b
  rcases Bc.mp b with m|m
  .exact T.rc x m
  .rw[Au]at m;subst m;exact r
 .intro x b k h1 h2
  rw[h]at b
  rcases Bc.mp b with m|m
  .exact up k (S.bk x m k h1 h2)
  .rw[Au]at m
   subst m;rw[g]
   by_cases z:k∈kj ca
   .exact Cs _ z
   .exact B1 _ (fresh_mem.mpr ⟨h1,h2,z⟩)
 .intro x b
  rw[g]at b
  rcases Bc.mp b with m|m
  .rcases S.out x m with a|a|a
   .exact .inl (Cs _ a)
   .exact .inr (.inl a)
   .exact .inr (.inr λ c' h1 h2 H=>q _ (a c' h1 h2 H))
  .exact .inl (B1 _ m)
 .intro x b
  rcases Bc.mp b with m|m
  .exact up x (S.wt x m)
  .rw[g];exact B1 _ m
def Srch.pop{wt:List Nat}{j:Nat}(S:Srch d s ja ca (j::wt) none):Srch d s ja ca wt (some j)/\j∈kj ca:=
 ⟨⟨S.tree,S.lack,S.bk,λ x b=>by
  rcases S.out x b with a|a|a
  .rcases Af.mp a with e|m
   .exact .inr (.inl (by rw[e]))
   .exact .inl m
  .cases a
  .exact .inr (.inr a),λ x b=>S.wt x (Ap _ b)⟩,S.wt j Aj⟩
def Srch.done{wt:List Nat}{j:Nat}(S:Srch d s ja ca wt (some j))(h:∀c,c<d.nC->d.win j c=true->s.sh j c<d.mx j c->c∈kc ja):Srch d s ja ca wt none:=
 ⟨S.tree,S.lack,S.bk,λ x b=>by
  rcases S.out x b with a|a|a
  .exact .inl a
  .cases a;exact .inr (.inr h)
  .exact .inr (.inr a),S.wt⟩
def Srch.closed(S:Srch d s ja ca [] none):Closed d s ja ca:=
 ⟨S.lack,λ j b=>by
  rcases S.out j b with a|a|a
  .cases a
  .cases a
  .exact a,S.bk⟩
def roots(d:D)(s:St):List Nat:=(List.range d.nJ).filter λ j=>decide (0<s.ms j)
def Srch.start:Srch d s [] ((roots d s).map λ j=>(j,none)) (roots d s) none:=by
 have f:kj ((roots d s).map λ j=>(j,(none:Option Nat)))=roots d s:=by
  show List.map _ (List.map _ _)=_;rw[Bg];exact List.map_id _
 have g:∀j,j∈roots d s↔j<d.nJ/\0<s.ms j:=λ j=>by unfold roots;rw[B0,Bi];simp
 refine⟨⟨D1,by rw[f];exact List.nodup_range.sublist E5,(λ p hp=>by cases hp),λ p hp=>?_,(λ i p hp=>by simp at hp),λ j e=>?_,(λ c h=>by cases h)⟩,(λ j h1 h2=>by rw[f];exact (g j).mpr ⟨h1,h2⟩),(λ c h=>by cases h),(λ j e=>.inl (by rw[f]at e;exact e)),λ j e=>by rw[f];exact e⟩
 .obtain⟨j,e,rfl⟩:=Ak.mp hp
  obtain⟨a,b⟩:=(g j).mp e;exact⟨a,λ _=>b,(λ y k=>by cases k)⟩
 .rw[f]at e
  obtain⟨a,b⟩:=(g j).mp e;exact .lack a b
def Srch.jlen{wt:List Nat}{cur:Option Nat}(S:Srch d s ja ca wt cur):ca.length<=d.nJ/\ja.length<=d.nC:=by
 have sub:∀{l:List Nat}{n:Nat},l.Nodup->(∀x∈l,x<n)->l.length<=n:=λ {l n} nd h=>by
  have:=List.Nodup.sublist (l₁:=l) (List.Sublist.refl l) nd;have key:∀(l m:List Nat),l.Nodup->(∀x∈l,x∈m)->l.length<=m.length:=by
   intro l
   induction l with
   |nil=>intro m _ _;exact B5 _
   |cons x r ih=>
    intro m nd h;rw[Bp]at nd;have a:x∈m:=h x Aj;have:=ih (m.erase x) nd.2 λ y b=>(List.mem_erase_of_ne (λ(z:y=x)=>nd.1 (z ▸ b))).mpr (h y (Ap _ b))
    rw[List.length_erase_of_mem a]at this;have:=List.length_pos_of_mem a;rw[Ax];lia
  have:=key l (List.range n) nd λ x a=>Bi.mpr (h x a)
  rwa [Bq]at this
 have h1:=sub (l:=kj ca) (n:=d.nJ) S.tree.nj λ x a=>by obtain⟨p,hp,rfl⟩:=Ak.mp a;exact (S.tree.jc p hp).1
 have h2:=sub (l:=kc ja) (n:=d.nC) S.tree.nc λ x a=>by obtain⟨p,hp,rfl⟩:=Ak.mp a;exact (S.tree.cj p hp).1
 rw[Ae]at h1 h2;exact⟨h1,h2⟩
end
end Fl
namespace My
open PySem L2 L3
section
variable{h0:H3}{cs:List Cl}{js:List J}{st:Fl.St}{g:H3}
def opn(cs:List Cl)(js:List J)(st:Fl.St)(j:Nat):List Nat:=(qQ cs (zR js j)).filter λ c=>decide (st.sh j c<(zR js j).b*clen cs c)
def Rb{j:J}{c:Nat}(h:c∈qQ cs j):c<cs.length:=Bi.mp (B0.mp h).1
def ZZ(t:cs.length<=1000){j:Nat}(d:j<js.length):EH [.loc h0.length,.int (j:Int)] (hp h0 cs js st g)=.ok (.m (.lst ((opn cs js st j).map zl))) (hp h0 cs js st g):=by
 have n:=atL (f:=λ j=>V3.dT (qf cs j)) (HY d)
 have o:=hp_r (h0:=h0) (cs:=cs) (st:=st) (g:=g) d;have e:Jh [some (.v (.loc h0.length)),some (.v (.int (j:Int)))] (hp h0 cs js st g)=.ok (.m (.lst ((opn cs js st j).map zl))) (hp h0 cs js st g):=by
  unfold Jh opn;have p:zG oneK (qf cs (zR js j))=some ((qQ cs (zR js j)).map λ k:Nat=>(Sum.inl (k:Int),V3.int ((zR js j).b*clen cs k))):=by
   unfold qf;exact DA (f:=oneK) (g:=λ k=>(ik k,V3.int ((zR js j).b*clen cs k))) (k:=λ k:Nat=>(Sum.inl (k:Int),V3.int ((zR js j).b*clen cs k))) (λ k=>rfl) _
  have q:((qQ cs (zR js j)).map λ k:Nat=>((Sum.inl (k:Int):qg),V3.int ((zR js j).b*clen cs k))).map (λ i=>V3.tup [kV3 i.1,i.2])=(qQ cs (zR js j)).map λ k:Nat=>V3.tup [.int (k:Int),.int ((zR js j).b*clen cs k)]:=by rw[Bg];rfl
  refine HW (l:=qQ cs (zR js j)) (enc:=λ k:Nat=>V3.tup [.int (k:Int),.int ((zR js j).b*clen cs k)]) (its:=[.dT (qf cs (zR js j))]) (ok:=λ _=>True) (λ s=> ∃a b,s=[a,b,some (.v (.int (j:Int))),some (.v (.loc h0.length))]) (λ c=>decide (st.sh j c<(zR js j).b*clen cs c)) zl (by (simp![iI,ze,zD,yy,qi,n,BF,p,q])<;>rfl) trivial (by
   have:=Cz (wn cs (zR js j)) (List.range cs.length);rw[Bq]at this;unfold qQ;lia) ⟨none,none,rfl⟩ ?_
  rintro k s r ⟨a,b,rfl⟩;have h:=Rb r;exact⟨_,by (simp![])<;>rfl,⟨_,_,rfl⟩,by (simp![ze,zD,yy,qi,ES d,AW o,jA h,Am])<;>rfl,λ _=>⟨_,by (simp![])<;>rfl,rfl⟩⟩
 (simp![EH,Ld,e])
noncomputable def gvs(cs:List Cl)(js:List J)(st:Fl.St)(c:Nat):List Nat:=(List.range js.length).filter λ j=>decide (0<st.sh j c)
def aa(o:js.length<=12){c:Nat}(h:c<cs.length):Hu [.loc h0.length,.int (c:Int)] (hp h0 cs js st g)=.ok (.m (.lst ((gvs cs js st c).map zl))) (hp h0 cs js st g):=by
 have e:Ji [some (.v (.loc h0.length)),some (.v (.int (c:Int)))] (hp h0 cs js st g)=.ok (.m (.lst ((gvs cs js st c).map zl))) (hp h0 cs js st g):=by
  unfold Ji gvs;have i:(List.range (shL js h0.length).length).map (λ k=>V3.tup [.int (k:Nat),(shL js h0.length).getD k .non])=(List.range js.length).map λ k:Nat=>V3.tup [.int (k:Int),.loc (h0.length+1+k)]:=by
   unfold shL;rw[Ae,Bq]
   refine Ef λ k d=>?_
   have d:=Bi.mp d;rw[Cf];simp[d]
  refine HW (l:=List.range js.length) (enc:=λ k:Nat=>V3.tup [.int (k:Int),.loc (h0.length+1+k)]) (its:=[.lst (shL js h0.length)]) (ok:=λ _=>True) (λ s=> ∃a b,s=[a,b,some (.v (.int (c:Int)))]) (λ j=>decide (0<st.sh j c)) zl (by (simp![AG,yL,ze,zD,yy,qi,i])<;>rfl) trivial (by rw[Bq];lia) ⟨none,none,rfl⟩ ?_
  rintro k s d ⟨a,b,rfl⟩;have f:=Bi.mp d;have n:=hp_r (h0:=h0) (cs:=cs) (st:=st) (g:=g) f;exact⟨_,by (simp![])<;>rfl,⟨_,_,rfl⟩,by (simp![AW n,jA h,Am])<;>rfl,λ _=>⟨_,by (simp![])<;>rfl,rfl⟩⟩
 (simp![Hu,Lf,e])
noncomputable abbrev rF(q:Nat):List (Str×V3):=[("job_ahead",.loc (q+2)),("cell_ahead",.loc (q+3))]
abbrev yI(ja:List (Nat×Nat)):List (MK×V3):=ja.map λ p=>(ik p.1,zl p.2)
abbrev qp(ca:List (Nat×Option Nat)):List (MK×V3):=ca.map λ p=>(ik p.1,encO p.2)
def gr(g:H3)(q:Nat)(wt:List Nat)(ja:List (Nat×Nat))(ca:List (Nat×Option Nat)):H3:=g++[.lst (wt.map zl),.ins "Reach" (rF q),.dT (yI ja),.dT (qp ca)]
noncomputable def bq(h0:H3)(js:List J)(g:H3):Nat:=h0.length+1+(js.length+2)+g.length
variable{wt:List Nat}{ja:List (Nat×Nat)}{ca:List (Nat×Option Nat)}{q:Nat}
def ET{i:Nat}{x:H3}:(hp h0 cs js st (g++x))[bq h0 js g+i]? =x[i]? :=by
 unfold bq;rw[show h0.length+1+(js.length+2)+g.length+i=h0.length+1+(js.length+2)+(g.length+i) by lia,hp_g,Bo (by lia),show g.length+i-g.length=i by lia]
def HZ{i:Nat}{x:H3}{c:C3}:(hp h0 cs js st (g++x)).set (bq h0 js g+i) c=hp h0 cs js st (g++x.set i c):=by
 unfold bq;rw[show h0.length+1+(js.length+2)+g.length+i=h0.length+1+(js.length+2)+(g.length+i) by lia,ZJ,Ey _ _ (by lia),show g.length+i-g.length=i by lia]
def g_w:(hp h0 cs js st (gr g q wt ja ca))[bq h0 js g]? =some (.lst (wt.map zl)):=ET (i:=0)
def g_o:(hp h0 cs js st (gr g q wt ja ca))[bq h0 js g+1]? =some (.ins "Reach" (rF q)):=ET (i:=1)
def g_a:(hp h0 cs js st (gr g q wt ja ca))[bq h0 js g+2]? =some (.dT (yI ja)):=ET (i:=2)
def g_b:(hp h0 cs js st (gr g q wt ja ca))[bq h0 js g+3]? =some (.dT (qp ca)):=ET (i:=3)
def g_sw{w':List Nat}:(hp h0 cs js st (gr g q wt ja ca)).set (bq h0 js g) (.lst (w'.map zl))=hp h0 cs js st (gr g q w' ja ca):=HZ (i:=0)
def g_sa{j':List (Nat×Nat)}:(hp h0 cs js st (gr g q wt ja ca)).set (bq h0 js g+2) (.dT (yI j'))=hp h0 cs js st (gr g q wt j' ca):=HZ (i:=2)
def g_sb{c':List (Nat×Option Nat)}:(hp h0 cs js st (gr g q wt ja ca)).set (bq h0 js g+3) (.dT (qp c'))=hp h0 cs js st (gr g q wt ja c'):=HZ (i:=3)
def insR:yS (hp h0 cs js st (gr g q wt ja ca)) (.x (.loc (bq h0 js g+1)))=some (("Reach" :Str),rF q):=by unfold yS;simp only[g_o]
def BK:(Str.ofString "Reach" ∈[Str.ofString "Reach"])=True:=by simp
def lkR:(rF q).lookup ("job_ahead":Str)=some (.loc (q+2))/\(rF q).lookup ("cell_ahead":Str)=some (.loc (q+3)):=by
 have a:(Str.ofString "cell_ahead" ==Str.ofString "job_ahead")=false:=by decide+kernel
 have r:∀x:Str,(x==x)=true:=λ x=>by simp
 simp only[List.lookup,a,r,and_self]
def keyA{c:Nat}:(yk (yI ja) (.one (.inl (c:Int)))).isSome=decide (c∈Fl.kc ja):=by
 unfold yk
 induction ja with
 |nil=>rfl
 |cons p r ih=>
  rw[show yI (p::r)=(ik p.1,zl p.2)::yI r from rfl]
  by_cases e:ik p.1=ik c
  .rw[G4 (by simpa using e)]
   have:=DS e;simp[Fl.kc,this]
  .rw[G5 (by simpa using e),ih]
   have: ¬c=p.1:=λ z=>e (by rw[z])
   simp[Fl.kc,this]
def keyB{c:Nat}:(yk (qp ca) (.one (.inl (c:Int)))).isSome=decide (c∈Fl.kj ca):=by
 unfold yk
 induction ca with
 |nil=>rfl
 |cons p r ih=>
  rw[show qp (p::r)=(ik p.1,encO p.2)::qp r from rfl]
  by_cases e:ik p.1=ik c
  .rw[G4 (by simpa using e)]
   have:=DS e;simp[Fl.kj,this]
  .rw[G5 (by simpa using e),ih]
   have: ¬c=p.1:=λ z=>e (by rw[z])
   simp[Fl.kj,this]
def newA{c j:Nat}(h:c∉Fl.kc ja):put3 (yI ja) (.one (.inl (c:Int))) (.int (j:Int))=yI (ja++[(c,j)]):=by
 rw[show yI (ja++[(c,j)])=yI ja++[(ik c,zl j)] by simp]
 refine Mt λ m=>h ?_
 rw[Bg]at m;obtain⟨p,hp,e⟩:=Ak.mp m;exact Ak.mpr ⟨p,hp,DS e⟩
def newB{j:Nat}{o:Option Nat}(h:j∉Fl.kj ca):put3 (qp ca) (.one (.inl (j:Int))) (encO o)=qp (ca++[(j,o)]):=by
 rw[show qp (ca++[(j,o)])=qp ca++[(ik j,encO o)] by simp]
 refine Mt λ m=>h ?_
 rw[Bg]at m;obtain⟨p,hp,e⟩:=Ak.mp m;exact Ak.mpr ⟨p,hp,DS e⟩
end
section
variable{h0:H3}{cs:List Cl}{js:List J}{st:Fl.St}{g:H3}{wt:List Nat}{ja:List (Nat×Nat)}{ca:List (Nat×Option Nat)}{q:Nat}
def MB{x:H3}:(hp h0 cs js st (g++x)).length=bq h0 js g+x.length:=by unfold bq;rw[QX,Ar];lia
def ae:(Str.ofString "job_ahead" =Str.ofString "cell_ahead")=False:=eq_false (by decide+kernel)
def af:qE [("Reach" :Str)] ("job_ahead" :Str) (pV 0) (qh eDnT) [some (.v (.loc (bq h0 js g+1))),some (.v (.loc (bq h0 js g))),none] (hp h0 cs js st (g++[.lst (wt.map zl),.ins "Reach" []]))=.nx [some (.v (.loc (bq h0 js g+1))),some (.v (.loc (bq h0 js g))),none] (hp h0 cs js st (g++[.lst (wt.map zl),.ins "Reach" [("job_ahead",.loc (bq h0 js g+2))],.dT []])):=by
 have e1:(hp h0 cs js st (g++[.lst (wt.map zl),.ins "Reach" []])).length=bq h0 js g+2:=MB;have e2:hp h0 cs js st (g++[C3.lst (wt.map zl),.ins "Reach" []])++[.dT []]=hp h0 cs js st (g++[.lst (wt.map zl),.ins "Reach" [],.dT []]):=by rw[DT];simp
 have a:(hp h0 cs js st (g++[C3.lst (wt.map zl),.ins "Reach" [],.dT []]))[bq h0 js g+1]? =some (.ins "Reach" []):=ET (i:=1);have b:∀c,(hp h0 cs js st (g++[C3.lst (wt.map zl),.ins "Reach" [],.dT []])).set (bq h0 js g+1) c=hp h0 cs js st (g++[.lst (wt.map zl),c,.dT []]):=λ c=>HZ (i:=1)
 (simp![qE,qh,eDnT,e1,e2,a,AI,BK,b,Au])
def ag:qE [("Reach" :Str)] ("cell_ahead" :Str) (pV 0) (qh eDnT) [some (.v (.loc (bq h0 js g+1))),some (.v (.loc (bq h0 js g))),none] (hp h0 cs js st (g++[.lst (wt.map zl),.ins "Reach" [("job_ahead",.loc (bq h0 js g+2))],.dT []]))=.nx [some (.v (.loc (bq h0 js g+1))),some (.v (.loc (bq h0 js g))),none] (hp h0 cs js st (gr g (bq h0 js g) wt [] [])):=by
 have e1:(hp h0 cs js st (g++[.lst (wt.map zl),.ins "Reach" [("job_ahead",.loc (bq h0 js g+2))],.dT []])).length=bq h0 js g+3:=MB;have e2:hp h0 cs js st (g++[C3.lst (wt.map zl),.ins "Reach" [("job_ahead",.loc (bq h0 js g+2))],.dT []])++[.dT []]=hp h0 cs js st (g++[.lst (wt.map zl),.ins "Reach" [("job_ahead",.loc (bq h0 js g+2))],.dT [],.dT []]):=by rw[DT];simp
 have a:(hp h0 cs js st (g++[C3.lst (wt.map zl),.ins "Reach" [("job_ahead",.loc (bq h0 js g+2))],.dT [],.dT []]))[bq h0 js g+1]? =some (.ins "Reach" [("job_ahead",.loc (bq h0 js g+2))]):=ET (i:=1);have b:∀c,(hp h0 cs js st (g++[C3.lst (wt.map zl),.ins "Reach" [("job_ahead",.loc (bq h0 js g+2))],.dT [],.dT []])).set (bq h0 js g+1) c=hp h0 cs js st (g++[.lst (wt.map zl),c,.dT [],.dT []]):=λ c=>HZ (i:=1)
 (simp![qE,qh,eDnT,e1,e2,a,AI,BK,b,Au,ae,gr,Bl])
def putB{s:S3}{p i:P3}{e:E3}{j:Nat}{o:Option Nat}(a:∀h,p s h=.ok (.x (.loc (bq h0 js g+1))) h)(hi:∀h,i s h=.ok (.x (.int (j:Int))) h)(b:∀h,e s h=.ok (.v (encO o)) h)(d:j∉Fl.kj ca)(l:ca.length<1000):
  jL (pE (ze [("Reach" :Str)] ("cell_ahead" :Str) p)) i e s (hp h0 cs js st (gr g (bq h0 js g) wt ja ca))=.nx s (hp h0 cs js st (gr g (bq h0 js g) wt ja (ca++[(j,o)]))):=by
 have e1:=newB (o:=o) d;have e2:(qp ca).length<sizeLine:=by rw[Ae];have:=yK;lia
 have f:=g_b (h0:=h0) (cs:=cs) (js:=js) (st:=st) (g:=g) (q:=bq h0 js g) (wt:=wt) (ja:=ja) (ca:=ca);have k:=g_sb (h0:=h0) (cs:=cs) (js:=js) (st:=st) (g:=g) (q:=bq h0 js g) (wt:=wt) (ja:=ja) (ca:=ca) (c':=ca++[(j,o)])
 (simp![jL,b,a,hi,ze,insR,BK,lkR,qK,f,C3.dc,Dc.put,Dc.len,jQ,Am,e1,e2,Dc.c,k])
def putA{s:S3}{p i:P3}{e:E3}{j c:Nat}(a:∀h,p s h=.ok (.x (.loc (bq h0 js g+1))) h)(hi:∀h,i s h=.ok (.x (.int (c:Int))) h)(b:∀h,e s h=.ok (.v (.int (j:Int))) h)(d:c∉Fl.kc ja)(l:ja.length<1000):
  jL (pE (ze [("Reach" :Str)] ("job_ahead" :Str) p)) i e s (hp h0 cs js st (gr g (bq h0 js g) wt ja ca))=.nx s (hp h0 cs js st (gr g (bq h0 js g) wt (ja++[(c,j)]) ca)):=by
 have e1:=newA (j:=j) d;have e2:(yI ja).length<sizeLine:=by rw[Ae];have:=yK;lia
 have f:=g_a (h0:=h0) (cs:=cs) (js:=js) (st:=st) (g:=g) (q:=bq h0 js g) (wt:=wt) (ja:=ja) (ca:=ca);have k:=g_sa (h0:=h0) (cs:=cs) (js:=js) (st:=st) (g:=g) (q:=bq h0 js g) (wt:=wt) (ja:=ja) (ca:=ca) (j':=ja++[(c,j)])
 (simp![jL,b,a,hi,ze,insR,BK,lkR,qK,f,C3.dc,Dc.put,Dc.len,jQ,Am,e1,e2,Dc.c,k])
def ah(nd:wt.Nodup)(n:wt.length<=12):GZ [.loc (bq h0 js g+1),.loc (bq h0 js g)] (hp h0 cs js st (g++[.lst (wt.map zl),.ins "Reach" []]))=.ok (.v .non) (hp h0 cs js st (gr g (bq h0 js g) wt [] (wt.map λ j=>(j,none)))):=by
 show Is _ _ _;unfold GZ Lc Lb
 refine qo rfl ?_
 refine zF af (zF ag ?_)
 have c:=g_w (h0:=h0) (cs:=cs) (js:=js) (st:=st) (g:=g) (q:=bq h0 js g) (wt:=wt) (ja:=[]) (ca:=[]);obtain⟨s',h',e,a,rfl,rfl⟩:=EO (g:=gN 2) (b:=jL (pE (ze [("Reach" :Str)] ("cell_ahead" :Str) (pV 0))) (pV 2) (eC .non)) (s:=[some (.v (.loc (bq h0 js g+1))),some (.v (.loc (bq h0 js g))),none]) (h:=hp h0 cs js st (gr g (bq h0 js g) wt [] [])) (it:=iL (pV 1)) (l:=wt) (enc:=zl) (its:=[.loc (bq h0 js g)]) (ok:=λ h=>h[bq h0 js g]? =some (.lst (wt.map zl))) (by (simp![iL,yL,c])<;>rfl) (λ i s h=> ∃a,s=[some (.v (.loc (bq h0 js g+1))),some (.v (.loc (bq h0 js g))),a]/\h=hp h0 cs js st (gr g (bq h0 js g) wt [] ((wt.take i).map λ j=>(j,none)))) (by rintro i s h ⟨_,_,rfl⟩;exact g_w) ⟨none,rfl,rfl⟩ (by
  rintro i j s h hi ⟨a,rfl,rfl⟩;have d:j∉Fl.kj ((wt.take i).map λ j=>(j,(none:Option Nat))):=λ m=>by
   have f:Fl.kj ((wt.take i).map λ j=>(j,(none:Option Nat)))=wt.take i:=by
    show List.map _ (List.map _ _)=_;rw[Bg];exact List.map_id _
   rw[f]at m;have k:wt=wt.take i++j::wt.drop (i+1):=by rw[<-Qr hi,Ft]
   rw[k,Cw]at nd;exact nd.2.2 _ m _ Aj rfl
  have:=putB (h0:=h0) (cs:=cs) (js:=js) (st:=st) (g:=g) (wt:=wt) (ja:=[]) (ca:=(wt.take i).map λ j=>(j,none)) (s:=[some (.v (.loc (bq h0 js g+1))),some (.v (.loc (bq h0 js g))),some (.v (.int (j:Int)))]) (p:=pV 0) (i:=pV 2) (e:=eC .non) (j:=j) (o:=none) (λ _=>rfl) (λ _=>rfl) (λ _=>rfl) d (by rw[Ae,Ay];lia)
  refine⟨_,_,by (simp![this])<;>rfl,_,rfl,?_⟩
  rw[Ql hi,Av];rfl)
 rw[Cj]at e;unfold Is
 (simp![e])
end
section
variable{h0:H3}{cs:List Cl}{js:List J}{st:Fl.St}{g:H3}{wt:List Nat}{ja:List (Nat×Nat)}{ca:List (Nat×Option Nat)}
abbrev rS(h0:H3)(js:List J)(g:H3)(j:Nat)(a y5 y6:Option Vl):S3:=[some (.v (.loc h0.length)),some (.v (.loc (bq h0 js g))),some (.v (.loc (bq h0 js g+1))),some (.v (.int (j:Int))),a,y5,y6]
def MC:D3:=(sSeq (sFz 3) (sSeq (jL (pE (ze [("Reach" :Str)] ("job_ahead" :Str) (pV 2))) (pV 4) (eV 3)) (sSeq (sFz 2) (sSeq (sSet 5 Hv) (sSeq (sFz 5) (sSeq Hw (sSeq (sFz 5) (qI Qe (pV 1) (aCons (pV 5) aNil)))))))))
def ai(b:js.length<=12){c j:Nat}(d:c<cs.length)(y5 y6:Option Vl):Hv (rS h0 js g j (some (.v (.int (c:Int)))) y5 y6) (hp h0 cs js st (gr g (bq h0 js g) wt ja ca))=.ok (.m (.lst ((Fl.fresh (fd cs js) st ca c).map zl))) (hp h0 cs js st (gr g (bq h0 js g) wt ja ca)):=by
 unfold Hv;have f:=aa (h0:=h0) (cs:=cs) (js:=js) (st:=st) (g:=gr g (bq h0 js g) wt ja ca) b d;have nm:=jg (n:=h0.length) (cs:=cs) (js:=js) (m:="jobs_behind") (by decide+kernel)
 have gb:=g_b (h0:=h0) (cs:=cs) (js:=js) (st:=st) (g:=g) (q:=bq h0 js g) (wt:=wt) (ja:=ja) (ca:=ca)
 refine HW (l:=gvs cs js st c) (enc:=zl) (its:=[.lst ((gvs cs js st c).map zl)]) (ok:=λ _=>True) (λ s=> ∃a,s=[a,some (.v (.loc (bq h0 js g+1)))]) (λ j=>decide (j∉Fl.kj ca)) zl (by (simp![iL,yL,zM,zD,nm,f])<;>rfl) trivial (by
  have:=Cz (λ j=>decide (0<st.sh j c)) (List.range js.length)
  rw[Bq]at this;unfold gvs;lia) ⟨none,rfl⟩ ?_
 rintro k s h ⟨a,rfl⟩;have e:(!decide (k∈Fl.kj ca))=decide (k∉Fl.kj ca):=by simp
 exact⟨_,by (simp![])<;>rfl,⟨_,rfl⟩,by (simp![oDIn,ze,insR,BK,lkR,qK,gb,C3.dc,Dc.get,jQ,Am,keyB,e])<;>rfl,λ _=>⟨_,by (simp![])<;>rfl,rfl⟩⟩
def aj{c j:Nat}(fr:List Nat)(nd:fr.Nodup)(f:∀x∈fr,x∉Fl.kj ca)(q:ca.length+fr.length<1000)(y6:Option Vl):
  ∃a,Hw (rS h0 js g j (some (.v (.int (c:Int)))) (some (.v (.lst (fr.map zl)))) y6) (hp h0 cs js st (gr g (bq h0 js g) wt ja ca))=.nx (rS h0 js g j (some (.v (.int (c:Int)))) (some (.v (.lst (fr.map zl)))) a) (hp h0 cs js st (gr g (bq h0 js g) wt ja (ca++fr.map λ o=>(o,some c)))):=by
 unfold Hw;obtain⟨s',h',e,a,rfl,rfl⟩:=EO (g:=gN 6) (b:=jL (pE (ze [("Reach" :Str)] ("cell_ahead" :Str) (pV 2))) (pV 6) (eV 4)) (s:=rS h0 js g j (some (.v (.int (c:Int)))) (some (.v (.lst (fr.map zl)))) y6) (h:=hp h0 cs js st (gr g (bq h0 js g) wt ja ca)) (it:=iL (pV 5)) (l:=fr) (enc:=zl) (its:=[.lst (fr.map zl)]) (ok:=λ _=>True) (by (simp![iL,yL])<;>rfl) (λ i s h=> ∃y6,s=rS h0 js g j (some (.v (.int (c:Int)))) (some (.v (.lst (fr.map zl)))) y6/\h=hp h0 cs js st (gr g (bq h0 js g) wt ja (ca++(fr.take i).map λ o=>(o,some c)))) (λ _ _ _ _=>trivial) ⟨y6,rfl,by simp⟩ (by
   rintro i o s h hi ⟨y6,rfl,rfl⟩;have d:o∉Fl.kj (ca++(fr.take i).map λ o=>(o,some c)):=λ m=>by
    have m:o∈(ca++(fr.take i).map λ o=>(o,some c)).map (·.1):=m
    rw[Av,Bg,Bc]at m
    rcases m with m|m
    .exact f o (Al hi) m
    .obtain⟨x,k,e⟩:=Ak.mp m
     have e:x=o:=e;subst e;have n:fr=fr.take i++x::fr.drop (i+1):=by rw[<-Qr hi,Ft]
     rw[n,Cw]at nd;exact nd.2.2 _ k _ Aj rfl
   have:=putB (h0:=h0) (cs:=cs) (js:=js) (st:=st) (g:=g) (wt:=wt) (ja:=ja) (ca:=ca++(fr.take i).map λ o=>(o,some c)) (s:=rS h0 js g j (some (.v (.int (c:Int)))) (some (.v (.lst (fr.map zl)))) (some (.v (.int (o:Int))))) (p:=pV 2) (i:=pV 6) (e:=eV 4) (j:=o) (o:=some c) (λ _=>rfl) (λ _=>rfl) (λ _=>rfl) d (by rw[Ar,Ae,Ay];lia)
   refine⟨_,_,by (simp![this])<;>rfl,_,rfl,?_⟩
   rw[Ql hi,Av,<-Cq];rfl)
 rw[Cj]at e;exact⟨_,e⟩
def ak(l:js.length<=12)(n:cs.length<=900){c j:Nat}(S:Fl.Srch (fd cs js) st ja ca wt (some j))(C:j∈Fl.kj ca)(r:c∈opn cs js st j)(b:c∉Fl.kc ja)(t:wt.length<=100)(y5 y6:Option Vl):
  ∃d a,MC (rS h0 js g j (some (.v (.int (c:Int)))) y5 y6) (hp h0 cs js st (gr g (bq h0 js g) wt ja ca))=.nx (rS h0 js g j (some (.v (.int (c:Int)))) d a) (hp h0 cs js st (gr g (bq h0 js g) (wt++Fl.fresh (fd cs js) st ca c) (ja++[(c,j)]) (ca++(Fl.fresh (fd cs js) st ca c).map λ o=>(o,some c)))):=by
 obtain⟨h,k⟩:=S.jlen;have h:ca.length<=js.length:=h;have k:ja.length<=cs.length:=k;have f:c<cs.length:=Rb (B0.mp r).1;have u:=putA (h0:=h0) (cs:=cs) (js:=js) (st:=st) (g:=g) (wt:=wt) (ja:=ja) (ca:=ca) (s:=rS h0 js g j (some (.v (.int (c:Int)))) y5 y6) (p:=pV 2) (i:=pV 4) (e:=eV 3) (j:=j) (c:=c) (λ _=>rfl) (λ _=>rfl) (λ _=>rfl) b (by lia)
 have w:=λ y5 y6=>ai (h0:=h0) (cs:=cs) (js:=js) (st:=st) (g:=g) (wt:=wt) (ja:=ja++[(c,j)]) (ca:=ca) l (j:=j) f y5 y6
 have y:(Fl.fresh (fd cs js) st ca c).length<=12:=by
  have h1:=Cz (λ j=>decide (j∉Fl.kj ca)) ((List.range js.length).filter λ j=>decide (0<st.sh j c))
  have h2:=Cz (λ j=>decide (0<st.sh j c)) (List.range js.length)
  rw[Bq]at h2;unfold Fl.fresh;show (List.filter _ (List.filter _ (List.range js.length))).length<=12;lia
 obtain⟨a,z⟩:=aj (h0:=h0) (cs:=cs) (js:=js) (st:=st) (g:=g) (wt:=wt) (ja:=ja++[(c,j)]) (ca:=ca) (c:=c) (j:=j) (Fl.fresh (fd cs js) st ca c) Fl.fresh_nodup (λ x A=>(Fl.fresh_mem.mp A).2.2) (by lia) y6
 have B:=g_w (h0:=h0) (cs:=cs) (js:=js) (st:=st) (g:=g) (q:=bq h0 js g) (wt:=wt) (ja:=ja++[(c,j)]) (ca:=ca++(Fl.fresh (fd cs js) st ca c).map λ o=>(o,some c))
 have gs:=g_sw (h0:=h0) (cs:=cs) (js:=js) (st:=st) (g:=g) (q:=bq h0 js g) (wt:=wt) (ja:=ja++[(c,j)]) (ca:=ca++(Fl.fresh (fd cs js) st ca c).map λ o=>(o,some c)) (w':=wt++Fl.fresh (fd cs js) st ca c)
 have ex:Qe (wt.map zl) [.lst ((Fl.fresh (fd cs js) st ca c).map zl)]=some ((wt++Fl.fresh (fd cs js) st ca c).map zl,.non):=by
  rw[Mr (by rw[Ae,Ae];have:=yK;lia),Av]
 refine⟨some (.v (.lst ((Fl.fresh (fd cs js) st ca c).map zl))),a,?_⟩
 unfold MC
 refine (qd (by (simp![])<;>rfl)).trans ?_
 refine (qd u).trans ?_
 refine (qd (by (simp![])<;>rfl)).trans ?_
 refine (qd (s1:=rS h0 js g j (some (.v (.int (c:Int)))) (some (.m (.lst ((Fl.fresh (fd cs js) st ca c).map zl)))) y6) (by (simp![w])<;>rfl)).trans ?_
 refine (qd (s1:=rS h0 js g j (some (.v (.int (c:Int)))) (some (.v (.lst ((Fl.fresh (fd cs js) st ca c).map zl)))) y6) (by (simp![])<;>rfl)).trans ?_
 refine (qd z).trans ?_
 refine (qd (s1:=rS h0 js g j (some (.v (.int (c:Int)))) (some (.v (.lst ((Fl.fresh (fd cs js) st ca c).map zl)))) a) (by (simp![])<;>rfl)).trans ?_
 (simp![B,ex,gs])
end
section
variable{h0:H3}{cs:List Cl}{js:List J}{st:Fl.St}{g:H3}{wt:List Nat}{ja:List (Nat×Nat)}{ca:List (Nat×Option Nat)}
def At(h0:H3)(cs:List Cl)(js:List J)(st:Fl.St)(g:H3)(n:Nat)(cur:Option Nat)(h:H3)(wt:List Nat)(ja:List (Nat×Nat))(ca:List (Nat×Option Nat)):Prop:=
 h=hp h0 cs js st (gr g (bq h0 js g) wt ja ca)/\Fl.Srch (fd cs js) st ja ca wt cur/\wt.length+(js.length-ca.length)<=n
def ao(L:js.length<=12)(C:cs.length<=900){j n:Nat}(k:j∈Fl.kj ca)(R:n<=12){h:H3}(A:At h0 cs js st g n (some j) h wt ja ca)(y y5 y6:Option Vl):
  ∃r d f h' t u w,Jk (rS h0 js g j y y5 y6) h=.nx (rS h0 js g j r d f) h'/\At h0 cs js st g n none h' t u w:=by
 obtain⟨rfl,S,D⟩:=A;have E:j<js.length:=by
  obtain⟨p,hp,e⟩:=Ak.mp k;have:=(S.tree.jc p hp).1;rw[show p.1=j from e]at this;exact this
 have F:=ZZ (h0:=h0) (cs:=cs) (js:=js) (st:=st) (g:=gr g (bq h0 js g) wt ja ca) (by lia) E
 have nm:=jg (n:=h0.length) (cs:=cs) (js:=js) (m:="cells_behind") (by decide+kernel)
 unfold Jk;obtain⟨s',h',e,r,d,f,t,u,w,rfl,M,N,a⟩:=EO (g:=gN 4) (b:=(sIf (tE (eOp (oDIn true) (pV 4) (pE (ze [("Reach" :Str)] ("job_ahead" :Str) (pV 2))))) MC sSkip)) (s:=rS h0 js g j y y5 y6) (h:=hp h0 cs js st (gr g (bq h0 js g) wt ja ca)) (it:=iL (pE (zM ("Flow" :Str) ("cells_behind" :Str) EH (pV 0) (aCons (pV 3) aNil)))) (l:=opn cs js st j) (enc:=zl) (its:=[.lst ((opn cs js st j).map zl)]) (ok:=λ _=>True) (by (simp![iL,yL,zM,zD,nm,F])<;>rfl)
  (λ i s h=> ∃y y5 y6 wt ja ca,s=rS h0 js g j y y5 y6/\At h0 cs js st g n (some j) h wt ja ca/\j∈Fl.kj ca/\∀x∈(opn cs js st j).take i,x∈Fl.kc ja) (λ _ _ _ _=>trivial) ⟨y,y5,y6,wt,ja,ca,rfl,⟨rfl,S,D⟩,k,by simp⟩ (by
   rintro i c s h hi ⟨y,y5,y6,wt,ja,ca,rfl,⟨rfl,S,D⟩,k,a⟩;have K:=Al hi;have ga:=g_a (h0:=h0) (cs:=cs) (js:=js) (st:=st) (g:=g) (q:=bq h0 js g) (wt:=wt) (ja:=ja) (ca:=ca)
   by_cases hcn:c∈Fl.kc ja
   .have e:(yk (yI ja) (.one (.inl (c:Int)))).isSome=true:=by rw[keyA];simpa using hcn
    refine⟨rS h0 js g j (some (.v (.int (c:Int)))) y5 y6,_,by (simp![oDIn,ze,insR,BK,lkR,qK,ga,C3.dc,Dc.get,jQ,Am,e,Et])<;>rfl,_,_,_,wt,ja,ca,rfl,⟨rfl,S,D⟩,k,λ x z=>?_⟩
    rw[Ql hi,Bc,Au]at z
    rcases z with m|rfl
    .exact a x m
    .exact hcn
   .have e:(yk (yI ja) (.one (.inl (c:Int)))).isSome=false:=by rw[keyA];simpa using hcn
    obtain⟨d,f,F⟩:=ak (h0:=h0) (g:=g) L C S k K hcn (by lia) y5 y6
    obtain⟨G,O⟩:=B0.mp K;obtain⟨H,P⟩:=B0.mp G;have B:=S.step k (Bi.mp H) P (Gi O) hcn;obtain⟨I,_⟩:=B.jlen;have I:(ca++(Fl.fresh (fd cs js) st ca c).map λ o=>(o,some c)).length<=js.length:=I
    refine⟨_,_,by (simp![oDIn,ze,insR,BK,lkR,qK,ga,C3.dc,Dc.get,jQ,Am,e,Eu,F])<;>rfl,_,_,_,_,_,_,rfl,⟨rfl,B,?_⟩,?_,λ x z=>?_⟩
    .rw[Ar,Ae]at I
     rw[Ar,Ar,Ae];lia
    .show j∈List.map _ _
     rw[Av];exact Cs _ k
    .show x∈List.map _ _
     rw[Av];rw[Ql hi,Bc,Au]at z
     rcases z with m|rfl
     .exact Cs _ (a x m)
     .exact B1 _ (by simp))
 rw[Cj]at a;obtain⟨rfl,B,J⟩:=M
 refine⟨r,d,f,_,t,u,w,e,rfl,B.done λ c h1 h2 Q=>a c ?_,J⟩
 exact B0.mpr ⟨B0.mpr ⟨Bi.mpr h1,h2⟩,Cd Q⟩
def pop0{x:V3}{r:List V3}(h:r.length<1000):DZ (x::r) [.int 0]=some (r,x):=by
 unfold DZ;simp only[];rw[Ab (by decide)]
 have e:seqIndex? 0 (x::r).length=some 0:=by
  unfold seqIndex?;simp
 simp only[e];rfl
def aq(h0:H3)(cs:List Cl)(js:List J)(st:Fl.St)(g:H3)(R:Res Vl):Prop:=∃ja ca,Fl.Tree (fd cs js) st ja ca/\Fl.Closed (fd cs js) st ja ca/\R=.ok (.v (.loc (bq h0 js g+1))) (hp h0 cs js st (gr g (bq h0 js g) [] ja ca))
def ar(o:js.length<=12)(d:cs.length<=900):aq h0 cs js st g (Hx [.loc h0.length] (hp h0 cs js st g)):=by
 unfold Hx Lh Lg
 refine qo rfl ?_
 have p:=hp_m (h0:=h0) (cs:=cs) (js:=js) (st:=st) (g:=g);have t:(Fl.roots (fd cs js) st).length<=js.length:=by
  have:=Cz (λ j=>decide (0<st.ms j)) (List.range js.length)
  rw[Bq]at this;exact this
 have e1:Jj [some (.v (.loc h0.length)),none,none,none,none,none,none] (hp h0 cs js st g)=.ok (.m (.lst ((Fl.roots (fd cs js) st).map zl))) (hp h0 cs js st g):=by
  unfold Jj;have u:(List.range (zw js.length st.ms).length).map (λ k=>V3.tup [.int (k:Nat),(zw js.length st.ms).getD k .non])=(List.range js.length).map λ k:Nat=>V3.tup [.int (k:Int),.int (st.ms k)]:=by
   rw[J7]
   refine Ef λ k c=>?_
   have c:=Bi.mp c;rw[Cf];simp[c]
  refine HW (l:=List.range js.length) (enc:=λ k:Nat=>V3.tup [.int (k:Int),.int (st.ms k)]) (its:=[.loc (h0.length+1+js.length)]) (ok:=λ h=>h[h0.length+1+js.length]? =some (.lst (zw js.length st.ms))) (λ s=> ∃a b,s=[a,b]) (λ j=>decide (0<st.ms j)) zl (by (simp![AG,yL,ze,zD,yy,qi,p,u])<;>rfl) p (by rw[Bq];lia) ⟨none,none,rfl⟩ ?_
  rintro k s c ⟨a,b,rfl⟩;exact⟨_,by (simp![])<;>rfl,⟨_,_,rfl⟩,by (simp![])<;>rfl,λ _=>⟨_,by (simp![])<;>rfl,rfl⟩⟩
 have w:(hp h0 cs js st g).length=bq h0 js g:=QX;have e2:hp h0 cs js st g++[C3.lst ((Fl.roots (fd cs js) st).map zl)]=hp h0 cs js st (g++[.lst ((Fl.roots (fd cs js) st).map zl)]):=DT;have x:(hp h0 cs js st (g++[C3.lst ((Fl.roots (fd cs js) st).map zl)])).length=bq h0 js g+1:=MB;have y:hp h0 cs js st (g++[C3.lst ((Fl.roots (fd cs js) st).map zl)])++[.ins "Reach" []]=hp h0 cs js st (g++[.lst ((Fl.roots (fd cs js) st).map zl),.ins "Reach" []]):=by rw[DT];simp
 have z:=ah (h0:=h0) (cs:=cs) (js:=js) (st:=st) (g:=g) (wt:=Fl.roots (fd cs js) st) (List.nodup_range.sublist E5) (by lia)
 refine zF (s1:=[some (.v (.loc h0.length)),some (.v (.loc (bq h0 js g))),none,none,none,none,none]) (h1:=hp h0 cs js st (g++[.lst ((Fl.roots (fd cs js) st).map zl)])) (by (simp![e1,qh,w,e2])) ?_
 refine zF (s1:=[some (.v (.loc h0.length)),some (.v (.loc (bq h0 js g))),some (.v (.loc (bq h0 js g+1))),none,none,none,none]) (h1:=hp h0 cs js st (gr g (bq h0 js g) (Fl.roots (fd cs js) st) [] ((Fl.roots (fd cs js) st).map λ j=>(j,none)))) (by (simp![yO,x,y,z])) ?_
 refine QI (n:=js.length) (λ n s h=>n<=12/\∃y3 f y5 y6 wt ja ca,s=[some (.v (.loc h0.length)),some (.v (.loc (bq h0 js g))),some (.v (.loc (bq h0 js g+1))),y3,f,y5,y6]/\At h0 cs js st g n none h wt ja ca) ⟨o,none,none,none,none,_,_,_,rfl,rfl,.start,by rw[Ae];lia⟩ ?_
 rintro n s h ⟨L,y3,f,y5,y6,wt,ja,ca,rfl,rfl,S,A⟩;have i:=g_w (h0:=h0) (cs:=cs) (js:=js) (st:=st) (g:=g) (q:=bq h0 js g) (wt:=wt) (ja:=ja) (ca:=ca);cases wt with
 |nil=>
  refine .inl ⟨_,by (simp![i,G1,Bl,Am,Et])<;>rfl,ja,ca,S.tree,S.closed,?_⟩
  (simp![])
 |cons j r=>
  obtain⟨B,C⟩:=S.pop;rw[Ax]at A;have gs:=g_sw (h0:=h0) (cs:=cs) (js:=js) (st:=st) (g:=g) (q:=bq h0 js g) (wt:=j::r) (ja:=ja) (ca:=ca) (w':=r);have D:DZ (V3.int (j:Int)::r.map zl) [.int 0]=some (r.map zl,.int (j:Int)):=pop0 (by rw[Ae];lia)
  have ne:((j::r).map zl).isEmpty=false:=rfl;obtain⟨E,F,G,h',H,I,J,e,K⟩:=ao (h0:=h0) (cs:=cs) (js:=js) (st:=st) (g:=g) (n:=n-1) o d C (by lia) ⟨rfl,B,by lia⟩ f y5 y6
  exact .inr ⟨_,_,_,n-1,by (simp![i,ne,Am,Eu])<;>rfl,by (simp![IE,i,D,gs,e])<;>rfl,by lia,by lia,_,_,_,_,_,_,_,rfl,K⟩
end
section
variable{h0:H3}{cs:List Cl}{js:List J}{st:Fl.St}{g:H3}{wt:List Nat}{ja:List (Nat×Nat)}{ca:List (Nat×Option Nat)}
def Rc{β:Type}{l:List (Nat×β)}{f:β->V3}(nd:(l.map (·.1)).Nodup){k:Nat}{v:β}(h:(k,v)∈l):yk (l.map λ p=>(ik p.1,f p.2)) (.one (.inl (k:Int)))=some (f v):=by
 unfold yk
 induction l with
 |nil=>cases h
 |cons p r ih=>
  rw[Ah,Bp]at nd;rw[Ah]
  by_cases e:ik p.1=ik k
  .rw[G4 (by simpa using e)]
   have e:=DS e
   rcases Af.mp h with z|m
   .rw[<-z];rfl
   .exact absurd (Ak.mpr ⟨_,m,e.symm⟩) nd.1
  .rw[G5 (by simpa using e)]
   rcases Af.mp h with z|m
   .exact absurd (by rw[<-z]) e
   .exact ih nd.2 m
def au(T:Fl.Tree (fd cs js) st ja ca){c:Nat}{ps:List Fl.Sp}(P:Fl.Pth ja ca c ps)(u:ps.length<=100):Hy [.loc (bq h0 js g+1),.int (c:Int)] (hp h0 cs js st (gr g (bq h0 js g) wt ja ca))=.ok (.m (.lst (ps.map zJ))) (hp h0 cs js st (gr g (bq h0 js g) wt ja ca)):=by
 show Is _ _ _;unfold Hy Lj Li
 refine qo rfl ?_
 refine zF (by (simp![])<;>rfl) ?_
 have ga:=g_a (h0:=h0) (cs:=cs) (js:=js) (st:=st) (g:=g) (q:=bq h0 js g) (wt:=wt) (ja:=ja) (ca:=ca);have gb:=g_b (h0:=h0) (cs:=cs) (js:=js) (st:=st) (g:=g) (q:=bq h0 js g) (wt:=wt) (ja:=ja) (ca:=ca)
 refine QI (n:=ps.length) (λ n s h=> ∃cur a rest y3,s=[some (.v (.loc (bq h0 js g+1))),some (.v (encO cur)),some (.m (.lst (a.map zJ))),y3]/\h=hp h0 cs js st (gr g (bq h0 js g) wt ja ca)/\a++rest=ps/\n=rest.length/\match cur with|none=>rest=[] | some c=>Fl.Pth ja ca c rest) ⟨some c,[],ps,none,rfl,rfl,rfl,rfl,P⟩ ?_
 rintro n s h ⟨cur,a,rest,y3,rfl,rfl,d,rfl,b⟩;cases cur with
 |none=>
  have b:rest=[]:=b;subst b;rw[Bz]at d;subst d
  refine .inl ⟨_,by (simp![])<;>rfl,?_⟩
  unfold Is
  (simp![])
 |some x=>
  have b:Fl.Pth ja ca x rest:=b;have k:a.length<=100:=by have:=congrArg List.length d;rw[Ar]at this;lia
  have i:∀y,qN (a.map zJ) [y]=some (a.map zJ++[y],.non):=λ y=>mAppend_ok (by rw[Ae];have:=yK;lia)
  obtain⟨j,e,r,rfl,l,o⟩:=b.head;have p:=Rc (f:=zl) T.nc l;have t:=Rc (f:=encO) T.nj o
  refine .inr ⟨_,[some (.v (.loc (bq h0 js g+1))),some (.v (encO e)),some (.m (.lst ((a++[(j,x,e)]).map zJ))),some (.v (.int (j:Int)))],hp h0 cs js st (gr g (bq h0 js g) wt ja ca),r.length,by (simp![])<;>rfl,?_,by simp,e,a++[(j,x,e)],r,_,rfl,rfl,by rw[Cq];exact d,rfl,?_⟩
  .rw[Av]
   (simp![AN,ze,insR,BK,lkR,qK,ga,gb,C3.dc,Dc.get,jQ,Am,p,t,i])
  .cases b with
   |one _ _=>rfl
   |cons _ _ h=>exact h
def av(h0:H3)(cs:List Cl)(js:List J)(st:Fl.St)(R:Res Vl):Prop:=∃ps g',R=.ok (.m (.lst (ps.map zJ))) (hp h0 cs js st g')/\
 ((ps=[]/\∀c,Fl.Rch (fd cs js) st (.inr c)->st.sp c<=0)\/∃c l,Fl.Ch c l ps/\Fl.In (fd cs js) ps/\(ps.map (·.1)).Nodup/\0<st.ms l/\l<js.length/\c<cs.length/\0<st.sp c/\(∀p∈ps,st.sh p.1 p.2.1<(fd cs js).mx p.1 p.2.1)/\∀p∈ps,∀y,p.2.2=some y->0<st.sh p.1 y)
def aw:(yI ja).map (λ a=>mkV3 a.1)=(Fl.kc ja).map zl:=by
 show List.map _ (List.map _ _)=List.map _ (List.map _ _);rw[Bg,Bg];rfl
def noMR{q:Nat}{m:String}(h:["job_ahead","cell_ahead"].all (λ x=> !(Str.ofString m==Str.ofString x))=true):(rF q).lookup (Str.ofString m)=none:=by
 simp only[Fi,List.all_nil,Bool.and_true,Be,Gd]at h;obtain⟨a,b⟩:=h;simp only[List.lookup,a,b]
def Re(A:js.length<=12)(f:cs.length<=900)(B:Fl.Good (fd cs js) st):av h0 cs js st (DI [.loc h0.length] (hp h0 cs js st g)):=by
 unfold DI Ll Lk
 refine qo rfl ?_
 obtain⟨ja,ca,T,C,D⟩:=ar (h0:=h0) (cs:=cs) (js:=js) (st:=st) (g:=g) A f;have nm:=jg (n:=h0.length) (cs:=cs) (js:=js) (m:="reached") (by decide+kernel)
 refine zF (s1:=[some (.v (.loc h0.length)),some (.v (.loc (bq h0 js g+1))),none]) (h1:=hp h0 cs js st (gr g (bq h0 js g) [] ja ca)) (by (simp![zM,zD,nm,D])) ?_
 have ga:=g_a (h0:=h0) (cs:=cs) (js:=js) (st:=st) (g:=g) (q:=bq h0 js g) (wt:=[]) (ja:=ja) (ca:=ca);have es:=hp_s (h0:=h0) (cs:=cs) (js:=js) (st:=st) (g:=gr g (bq h0 js g) [] ja ca);have E:=noMR (q:=bq h0 js g) (m:="steps_to") (by decide+kernel)
 have F:∀j y,j<(fd cs js).nJ->y<(fd cs js).nC->0<st.sh j y->(fd cs js).win j y=true:=λ j y h1 h2 a=>by
  cases z:(fd cs js).win j y with
  |true=>rfl
  |false=>rw[B.off j y h1 h2 z]at a;lia
 refine it_E (l:=Fl.kc ja) (enc:=zl) (its:=[.loc (bq h0 js g+2)]) (ok:=λ h=>h[bq h0 js g+2]? =some (.dT (yI ja))) (by (simp![iDl,BF,ze,insR,BK,lkR,ga,aw])<;>rfl) (λ i s h=>h=hp h0 cs js st (gr g (bq h0 js g) [] ja ca)/\∃o,s=[some (.v (.loc h0.length)),some (.v (.loc (bq h0 js g+1))),o]/\∀c∈(Fl.kc ja).take i,st.sp c<=0) (by rintro i s h ⟨rfl,_⟩;exact ga) ⟨rfl,none,rfl,by simp⟩ ?_ ?_
 .rintro i c s h hi ⟨rfl,o,rfl,hz⟩
  have w:=Al hi;have b:c<cs.length:=by
   obtain⟨p,hp,e⟩:=Ak.mp w;have:=(T.cj p hp).1;rw[show p.1=c from e]at this;exact this
  by_cases hs:0<st.sp c
  .obtain⟨ps,l,P,h1,h2,a,G,H,I,J,K⟩:=T.way w F
   have t:ps.length<=100:=by
    have:=Bd.len_sub (l:=ps.map λ p=>(p.1:Int)) (m:=(List.range js.length).map λ k:Nat=>(k:Int)) (by
     unfold List.Nodup at a ⊢;rw[List.pairwise_map]at a ⊢;exact a.imp λ h z=>h (Int.ofNat.inj z)) (λ x d=>by
      obtain⟨p,hp,rfl⟩:=Ak.mp d;exact Ak.mpr ⟨p.1,Bi.mpr (h2 p hp).1,rfl⟩)
    rw[Ae,Ae,Bq]at this;lia
   have u:=au (h0:=h0) (g:=g) (wt:=[]) T P t
   refine .inr (.inl ⟨.m (.lst (ps.map zJ)),_,by (simp![ze,zD,yy,qi,AW es,jA b,Am,hs,zM,insR,E,u])<;>rfl,ps,_,rfl,.inr ⟨c,l,h1,h2,a,G,H,I,hs,J,K⟩⟩)
  .refine .inl ⟨_,_,.inl (by (simp![ze,zD,yy,qi,AW es,jA b,Am,hs])<;>rfl),rfl,_,rfl,λ x d=>?_⟩
   rw[Ql hi,Bc,Au]at d
   rcases d with m|rfl
   .exact hz x m
   .lia
 .rintro s h ⟨rfl,o,rfl,hz⟩
  rw[Cj]at hz
  refine⟨[],_,by (simp![])<;>rfl,.inl ⟨rfl,λ c r=>hz c (C.all r)⟩⟩
end
section
variable{h0:H3}{cs:List Cl}{js:List J}{st:Fl.St}{g:H3}
def Max(d:Fl.D)(st:Fl.St):Prop:=∀c,Fl.Rch d st (.inr c)->st.sp c<=0
def Rg(h0:H3)(cs:List Cl)(js:List J)(R:Res Vl):Prop:=∃a g',Fl.Good (fd cs js) a/\Max (fd cs js) a/\R=.ok (.v .non) (hp h0 cs js a g')
def ax{n l:Nat}{f:Nat->Int}{b:Int}(h:l<n):Fl.S n (λ j=>if j=l then f j-b else f j)=Fl.S n f-b:=by
 rw[Fl.S_congr (g:=λ j=>f j-if j=l then b else 0) λ j _=>by split<;>lia,Fl.S_sub,Fl.S_at h]
def ay(q:js.length<=12)(f:cs.length<=900)(i:Fl.Good (fd cs js) st):Rg h0 cs js (Hz [.loc h0.length] (hp h0 cs js st g)):=by
 unfold Hz Ln Lm
 refine qo rfl ?_
 have nm:=jg (n:=h0.length) (cs:=cs) (js:=js) (m:="steps_to_spare") (by decide+kernel)
 have ns:=jg (n:=h0.length) (cs:=cs) (js:=js) (m:="shift") (by decide+kernel)
 obtain⟨ps,r,e1,k1⟩:=Re (h0:=h0) (g:=g) q f i
 refine zF (s1:=[some (.v (.loc h0.length)),some (.m (.lst (ps.map zJ)))]) (h1:=hp h0 cs js st r) (by (simp![zM,zD,nm,e1])) ?_
 obtain⟨s',h',e,a,g',d,mx,rfl,rfl⟩:=QH (t:=tP (pV 1)) (b:=(sSeq (sFz 1) (sSeq (sExp (zM ("Flow" :Str) ("shift" :Str) CF (pV 0) (aCons (pV 1) aNil))) (sSet 1 (zM ("Flow" :Str) ("steps_to_spare" :Str) DI (pV 0) aNil))))) (Post:=λ s h=> ∃a g',Fl.Good (fd cs js) a/\Max (fd cs js) a/\s=[some (.v (.loc h0.length)),some (.m (.lst []))]/\h=hp h0 cs js a g')
  (λ n s h=> ∃a g' ps,Fl.Good (fd cs js) a/\s=[some (.v (.loc h0.length)),some (.m (.lst (ps.map zJ)))]/\h=hp h0 cs js a g'/\n=(Fl.S js.length a.ms).toNat/\((ps=[]/\∀c,Fl.Rch (fd cs js) a (.inr c)->a.sp c<=0)\/∃c l,Fl.Ch c l ps/\Fl.In (fd cs js) ps/\(ps.map (·.1)).Nodup/\0<a.ms l/\l<js.length/\c<cs.length/\0<a.sp c/\(∀p∈ps,a.sh p.1 p.2.1<(fd cs js).mx p.1 p.2.1)/\∀p∈ps,∀y,p.2.2=some y->0<a.sh p.1 y)) (by
   rintro n s h ⟨st,g,ps,i,rfl,rfl,rfl,k⟩
   rcases k with ⟨rfl,hz⟩|⟨c,l,h1,h2,h3,h4,h5,h6,h7,h8,h9⟩
   .exact .inl ⟨_,by (simp![Bl,G1,Am,Et])<;>rfl,st,g,i,hz,rfl,rfl⟩
   .obtain⟨b,j,es⟩:=Ra (h0:=h0) (st:=st) (g:=g) h2 h1 h6 h5
    have b1:1<=b:=j.at_ 1 (by lia) (by lia) (λ p hp=>by have:=h8 p hp;lia) (λ p hp y e=>by have:=h9 p hp y e;lia)
    have d:=i.after h1 h2 h3 ⟨by lia,j.sp,j.ms,j.up,j.dn⟩
    obtain⟨o,u,e2,k2⟩:=Re (h0:=h0) (g:=g) q f d;have ne:(ps.map zJ).isEmpty=false:=by
     obtain⟨_,_,_,rfl⟩:=QZ h1;rfl
    have lt:(Fl.S js.length (st.after ps c l b).ms).toNat<(Fl.S js.length st.ms).toNat:=by
     have e:Fl.S js.length (st.after ps c l b).ms=Fl.S js.length st.ms-b:=ax h5;have w:0<=Fl.S js.length (st.after ps c l b).ms:=Fl.S_nonneg d.ms;lia
    exact .inr ⟨_,_,_,_,by (simp![ne,Am,Eu])<;>rfl,by (simp![zM,zD,ns,nm,es,e2])<;>rfl,lt,_,_,o,d,rfl,rfl,rfl,k2⟩) _ _ _ ⟨st,r,ps,i,rfl,rfl,rfl,k1⟩
 refine⟨a,g',d,mx,?_⟩
 (simp![e])
def j1(cs:List Cl)(js:List J):Fl.St:=⟨λ _ _=>0,λ j=>(zR js j).w,λ c=>(zN cs c).m*clen cs c⟩
def rep0(n:Nat):(List.replicate n [V3.int 0]).flatten=zw n λ _=>0:=by
 induction n with
 |zero=>rfl
 |succ n ih=>
  rw[List.replicate_succ',List.flatten_append,ih];unfold zw;rw[Gz,Av];rfl
def az(js:List J)(cs:List Cl)(d:cs.length<=900)(c:LoadOk js){n:Nat}{h:H3}{x1 x2:Option Vl}{fs:List (Str×V3)}(e:h[n]? =some (.ins "Flow" fs))(e1:fs.lookup ("load":Str)=some (.lst (js.map J.enc)))(e2:fs.lookup ("cells":Str)=some (.lst (cs.map Cl.enc))):
  Jm [some (.v (.loc n)),x1,x2] h=.ok (.m (.lst (js.map λ j=>.dT (qf cs j)))) h:=by
 unfold Jm
 refine EN (x:= .lst (js.map J.enc)) (enc:=J.enc) (λ s=> ∃a,s=[a,some (.v (.loc n))]) (λ j=>.dT (qf cs j)) (by (simp![ze,yS,e,yy,e1,Au])<;>rfl) rfl (by have:=c.len;lia) ⟨none,rfl⟩ ?_
 rintro j s b ⟨a,rfl⟩;exact⟨_,_,by (simp![])<;>rfl,⟨_,rfl⟩,by (simp![ze,yS,e,yy,e2,Au,ZH cs (by lia) (c.one j b)])<;>rfl,rfl⟩
def rp_b(n:Nat)(a:n<=900): -(2 ^ 63)<=(n:Int)/\(n:Int)<2 ^ 63/\[V3.int 0].length*(n:Int).toNat<=sizeLine:=by
 have hz:=yK;exact⟨by lia,by lia,by rw[Cc,Br];lia⟩
def rp_x(s:S3)(h:H3):rdm s h (.x (.lst [V3.int 0]))=some [V3.int 0]:=rfl
def rp_r(n:Nat)(a:n<=900)(s:S3)(h:H3):oRep s h (.x (.lst [V3.int 0])) (.x (.int (n:Int)))=some (.m (.lst (List.replicate (n:Int).toNat [V3.int 0]).flatten)):=by
 unfold oRep;simp only[rp_x];exact Ab (rp_b n a)
def aA{f g:F2}{s:S3}{h:H3}{x y:Rf}(e:f s h x y=none):qS f g s h x y=g s h x y:=by unfold qS;rw[e]
def mul0(n:Nat)(a:n<=900)(K:Int)(b:(n:Int)=K)(s:S3)(h:H3):zO s h (.x (.lst [V3.int 0])) (.x (.int K))=some (.m (.lst (zw n λ _=>0))):=by
 subst b;have e:(n:Int).toNat=n:=Br n;exact (aA (f:=Iy) (g:=oRep) rfl).trans ((rp_r n a s h).trans (by rw[e,rep0]))
def elt2{cs:List Cl}(b:cs.length<=900){n:Nat}{h:H3}{a:Option Vl}{fs:List (Str×V3)}(e:h[n]? =some (.ins "Flow" fs))(e2:fs.lookup ("cells":Str)=some (.lst (cs.map Cl.enc))):
  (qh (eOp zO (pE (eLst (aCons (kJ 0) aNil))) (pE (eB bLen (aCons (pE (ze [("Flow" :Str)] ("cells" :Str) (pV 1))) aNil))))) [a,some (.v (.loc n))] h=.ok (.v (.loc h.length)) (h++[.lst (zw cs.length λ _=>0)]):=by
 obtain⟨K,c⟩:∃K:Int,(cs.length:Int)=K:=⟨_,rfl⟩;have d:=λ s h=>mul0 cs.length b K c s h
 have f:(pE (eB bLen (aCons (pE (ze [("Flow" :Str)] ("cells" :Str) (pV 1))) aNil))) [a,some (.v (.loc n))] h=.ok (.x (.int K)) h:=by
  (simp![ze,yS,e,yy,e2,Ae,c])
 generalize pE (eB bLen (aCons (pE (ze [("Flow" :Str)] ("cells" :Str) (pV 1))) aNil))=p at f ⊢;generalize zw cs.length (λ _=>0)=R at d ⊢
 (simp![qh,f,d])
def aB(js:List J)(cs:List Cl)(b:cs.length<=900)(c:LoadOk js){n:Nat}{h:H3}{x1 x2:Option Vl}{fs:List (Str×V3)}(e:h[n]? =some (.ins "Flow" fs))(e1:fs.lookup ("load":Str)=some (.lst (js.map J.enc)))(e2:fs.lookup ("cells":Str)=some (.lst (cs.map Cl.enc))):
  Jn [some (.v (.loc n)),x1,x2] h=.ok (.m (.lst ((List.range js.length).map λ k=>.loc (h.length+k)))) (h++js.map λ _=>.lst (zw cs.length λ _=>0)):=by
 unfold Jn;have d:n<h.length:=(Ao.mp e).1
 refine Z6 (l:=js) (enc:=J.enc) (its:=[.lst (js.map J.enc)]) (ok:=λ _=>True) (λ s=> ∃a,s=[a,some (.v (.loc n))]) (λ _=>.lst (zw cs.length λ _=>0)) (by (simp![iL,yL,ze,yS,e,yy,e1,Au])<;>rfl) (λ _=>trivial) (by have:=c.len;lia) ⟨none,rfl⟩ ?_
 rintro j s h' f ⟨a,rfl⟩;have g:(h++h')[n]? =some (.ins "Flow" fs):=by rw[Bh d];exact e
 exact⟨[some (.v j.enc),some (.v (.loc n))],by (simp![]),⟨_,rfl⟩,elt2 b g e2⟩
end
section
variable{cs:List Cl}{js:List J}
def Rh{α:Type}(f:α->Int)(d:α)(l:List α):(zw l.length λ k=>f (l.getD k d))=l.map λ a=>.int (f a):=by
 apply Ep
 .simp
 .intro i h1 h2
  have hi:i<l.length:=by simpa using h2
  simp[Cf,zX hi]
def aC(js:List J)(c:LoadOk js){n:Nat}{h:H3}{x1 x2:Option Vl}{fs:List (Str×V3)}(e:h[n]? =some (.ins "Flow" fs))(e1:fs.lookup ("load":Str)=some (.lst (js.map J.enc))):
  qh HC [some (.v (.loc n)),x1,x2] h=.ok (.v (.loc h.length)) (h++[.lst (zw js.length (j1 cs js).ms)]):=by
 have a:HC [some (.v (.loc n)),x1,x2] h=.ok (.m (.lst (js.map λ j=>.int j.w))) h:=by
  unfold HC
  refine EN (x:= .lst (js.map J.enc)) (enc:=J.enc) (λ s=> ∃a,s=[a]) (λ j=>.int j.w) (by (simp![ze,yS,e,yy,e1,Au])<;>rfl) rfl (by have:=c.len;lia) ⟨none,rfl⟩ ?_
  rintro j s d ⟨a,rfl⟩;exact⟨_,_,by (simp![])<;>rfl,⟨_,rfl⟩,by (simp![])<;>rfl,rfl⟩
 have b:zw js.length (j1 cs js).ms=js.map λ j=>.int j.w:=Rh J.w default js
 rw[b];unfold qh;rw[a];rfl
def aD(js:List J)(cs:List Cl)(g:cs.length<=900){n:Nat}{h:H3}{x1 x2:Option Vl}{fs:List (Str×V3)}(e:h[n]? =some (.ins "Flow" fs))(e1:fs.lookup ("cells":Str)=some (.lst (cs.map Cl.enc)))(k:∀c∈cs,0<=c.m/\c.m<=16/\c.f<=c.l):
  qh HD [some (.v (.loc n)),x1,x2] h=.ok (.v (.loc h.length)) (h++[.lst (zw cs.length (j1 cs js).sp)]):=by
 have a:HD [some (.v (.loc n)),x1,x2] h=.ok (.m (.lst (cs.map λ c=>.int (c.m*(c.l-c.f+1))))) h:=by
  unfold HD
  refine EN (x:= .lst (cs.map Cl.enc)) (enc:=Cl.enc) (λ s=> ∃a b c,s=[a,b,c]) (λ c=>.int (c.m*(c.l-c.f+1))) (by (simp![ze,yS,e,yy,e1,Au])<;>rfl) rfl (by lia) ⟨none,none,none,rfl⟩ ?_
  rintro c s o ⟨a,b,d,rfl⟩;have q:=k c o;have p:=λ s h j=>oMul_int (s:=s) (h:=h) (jI (i:=c.m) (j:=j) ⟨by lia,by lia⟩)
  exact⟨_,_,by (simp![])<;>rfl,⟨_,_,_,rfl⟩,by (simp![p])<;>rfl,rfl⟩
 have b:zw cs.length (j1 cs js).sp=cs.map λ c=>.int (c.m*(c.l-c.f+1)):=Rh (λ c:Cl=>c.m*(c.l-c.f+1)) default cs
 rw[b];unfold qh;rw[a];rfl
def EU{k:Str}{v:V3}{fs g:List (Str×V3)}(h:fs.lookup k=some v):(fs++g).lookup k=some v:=by rw[List.lookup_append,h];rfl
def Ri{k:Str}{v:V3}{fs:List (Str×V3)}(h:fs.lookup k=none):(fs++[(k,v)]).lookup k=some v:=by rw[List.lookup_append,h];simp[List.lookup]
theorem Rj{k:Str}{v:V3}:∀{fs:List (Str×V3)},fs.lookup k=none->AI k v fs=fs++[(k,v)]
 | [],_=>rfl
 | (g,x)::r,h=>by
  unfold List.lookup at h;unfold AI
  by_cases e:g=k
  .subst e;simp at h
  .have a:(k==g)=false:=by simpa using λ x=>e x.symm
   rw[a]at h;rw[Ac e,Rj h];rfl
def EV{k:String}{ns:List String}(h:ns.all (λ x=> !(Str.ofString k==Str.ofString x))=true):∀{fs:List (Str×V3)},fs.map (·.1)=ns.map Str.ofString->fs.lookup (Str.ofString k)=none:=by
 induction ns with
 |nil=>intro fs e;cases fs with
  |nil=>rfl
  |cons _ _=>simp at e
 |cons n r ih=>intro fs e;cases fs with
  |nil=>rfl
  |cons p q=>
   rw[Ah,Ah,List.cons.injEq]at e;rw[Fi,Be,Gd]at h;obtain⟨a,b⟩:=p;unfold List.lookup;have c:a=Str.ofString n:=e.1;rw[c,h.1];exact ih h.2 e.2
def J9{h0 t u:H3}{fs:List (Str×V3)}{fl:Str}{e:E3}{r:Vl}{y:V3}{x1 x2:Option Vl}
  (a:e [some (.v (.loc h0.length)),x1,x2] (h0++(.ins "Flow" fs::t))=.ok r (h0++(.ins "Flow" fs::t)++u)) (b:r.fz=some y) (d:fs.length<1000) (f:fs.lookup fl=none):
  qE [("Flow" :Str)] fl (pV 0) e [some (.v (.loc h0.length)),x1,x2] (h0++(.ins "Flow" fs::t))=.nx [some (.v (.loc h0.length)),x1,x2] (h0++(.ins "Flow" (fs++[(fl,y)])::(t++u))):=by
 have e1:(h0++(C3.ins "Flow" fs::t)++u)[h0.length]? =some (.ins "Flow" fs):=by simp
 have e2:∀c,(h0++(C3.ins "Flow" fs::t)++u).set h0.length c=h0++(c::(t++u)):=λ c=>by simp
 have g:=Rj (v:=y) f;unfold qE;rw[a];simp only[Res.bindS,b]
 (simp![e1,e2,yy,d,g])
structure CsOk(cs:List Cl):Prop where
 one:∀c∈cs,0<=c.m/\c.m<=16/\c.f<=c.l
def at_b{rows:List (Int×Int)}{rest:Int}(a:RwB rows rest)(t:Int):0<=Cal.at_ rows rest t/\Cal.at_ rows rest t<=16:=by
 have h1:=a.one;have h2:=a.rest;clear a
 induction rows generalizing t with
 |nil=>rw[QN];lia
 |cons p r ih=>
  rw[QM]
  split
  .have:=h1 p (Aj ..);lia
  .exact ih _ λ q b=>h1 q (Ap _ b)
def MD{rows:List (Int×Int)}{rest:Int}(a:∀t,0<=Cal.at_ rows rest t/\Cal.at_ rows rest t<=16)(js:List J):CsOk (qu js rows rest):=⟨λ c b=>by
 obtain⟨p,hp,rfl⟩:=Ak.mp b;have:=Bd.prs_up (Bd.srt_up _) p (B0.mp hp).1;have:=a p.1;exact⟨this.1,this.2,by show p.1<=p.2-1;lia⟩⟩
def DU{cs:List Cl}{c:Nat}(h:c<cs.length):zN cs c∈cs:=by
 unfold zN;rw[Cf,zX h];exact C8 h
def Ia{js:List J}{j:Nat}(h:j<js.length):zR js j∈js:=Al (HY h)
theorem CsOk.clen{cs:List Cl}(h:CsOk cs){c:Nat}(a:c<cs.length):1<=clen cs c:=by
 have:=h.one _ (DU a);unfold My.clen;lia
def aE(d:LoadOk js)(a:CsOk cs):Fl.Good (fd cs js) (j1 cs js) where
 lo _ _ _ _:=D2 0
 hi j c h1 h2 _:=by
  have:=(d.one _ (Ia h1)).b;have:=a.clen h2;exact G0 (by lia) (by lia)
 off _ _ _ _ _:=rfl
 row j h:=by
  show Fl.S _ (λ _=>0)+_=_
  rw[Fl.S_zero,Ej];rfl
 col c h:=by
  show Fl.S _ (λ _=>0)+_=_
  rw[Fl.S_zero,Ej];rfl
 ms j h:=by
  have:=(d.one _ (Ia h)).w;show 0<=(zR js j).w;lia
 sp c h:=by
  have:=a.one _ (DU h);have:=a.clen h;exact G0 (by lia) (by lia)
end
section
variable{js:List J}{h0:H3}
theorem Rk:∀l:List Int,(Bd.prs l).length<=l.length
 | []=>Ag _
 | [_]=>by simp[Bd.prs]
 |a::b::r=>by
  have:=Rk (b::r);show (Bd.prs (b::r)).length+1<=_;simp only[Ax] at*;lia
def Rl{rows:List (Int×Int)}(rest:Int)(e:LoadOk js)(f:rows.length<=16):(qu js rows rest).length<=63:=by
 have a:=Mq (rows:=rows) e.len f;have b:=Rk (Bd.srt (yz rows js));have c:(Bd.srt (yz rows js)).length=(z8 (yz rows js)).length:=(BD (z8 (yz rows js))).1.length_eq;unfold qu;rw[Ae];have d:=Cz (λ p:Int×Int=>jh js p.1) (Bd.prs (Bd.srt (yz rows js)))
 lia
def ME{t:H3}{fs:List (Str×V3)}{fl:Str}{e:E3}{r:Vl}{y:V3}{x1 x2:Option Vl}
  (a:e [some (.v (.loc h0.length)),x1,x2] (h0++(.ins "Flow" fs::t))=.ok r (h0++(.ins "Flow" fs::t))) (b:r.fz=some y) (c:fs.length<1000) (d:fs.lookup fl=none):
  qE [("Flow" :Str)] fl (pV 0) e [some (.v (.loc h0.length)),x1,x2] (h0++(.ins "Flow" fs::t))=.nx [some (.v (.loc h0.length)),x1,x2] (h0++(.ins "Flow" (fs++[(fl,y)])::t)):=by
 have:=J9 (u:=[]) (by rw[Bz];exact a) b c d
 rwa [Bz]at this
def aF{cs:List Cl}:([]++js.map λ _=>C3.lst (zw cs.length λ _=>0))++[.lst (zw js.length (j1 cs js).ms)]++[.lst (zw cs.length (j1 cs js).sp)]=ju cs js (j1 cs js)++[]:=by
 unfold ju;have e:(js.map λ _=>C3.lst (zw cs.length λ _=>0))=(List.range js.length).map λ j=>C3.lst (zw cs.length ((j1 cs js).sh j)):=by
  apply Ep
  .simp
  .intro i h1 h2;simp[j1]
 rw[e];simp
def aG{b:FB}{a:A3}{s:S3}{h:H3}{fs:List Rf}{r:Vl}(c:a s h=.ok fs h)(d:b s h fs=some r):eB b a s h=.ok r h:=by unfold eB;simp only[c,Res.bind,d,opt]
def MF{rows:List (Int×Int)}{rest:Int}(a:LoadOk js)(p:rows.length<=16)(q:CsOk (qu js rows rest)){x:V3}(b:∀t,IsL (h0++t) x (js.map J.enc)):Rg h0 (qu js rows rest) js (j0 [.loc h0.length,x,yP rows rest] (h0++[.ins "Flow" []])):=by
 have u:=λ t=>QV a p rest (b t)
 have w:∀s t,bList s (h0++t) [.x x]=some (.m (.lst (js.map J.enc))):=λ s t=>by
  have:=(b t).rdl (s:=s)
  rcases b t with rfl|⟨n,rfl,e⟩
  .rfl
  .show (rdl s (h0++t) (.x (.loc n))).map _=_;rw[this];rfl
 have el:=Rl rest a p;generalize hcs:qu js rows rest=cs at*;have at_:∀(fs:List (Str×V3))(t:H3),(h0++(C3.ins "Flow" fs::t))[h0.length]? =some (.ins "Flow" fs):=λ fs t=>by simp
 unfold j0 Jo
 refine qo rfl ?_
 refine zF (ME (t:=[]) (y:= .lst (cs.map Cl.enc)) (by (simp![u])<;>rfl) rfl (by simp) rfl) ?_
 refine zF (ME (t:=[]) (y:= .lst (js.map J.enc)) (e:=eB bList (aCons (pV 1) aNil)) (r:= .m (.lst (js.map J.enc))) (aG (by (simp![])<;>rfl) (w _ _)) rfl (by simp) (EV (ns:=["cells"]) (by decide+kernel) rfl)) ?_
 generalize hf2:([]++[(Str.ofString "cells",V3.lst (List.map Cl.enc cs))]++[(Str.ofString "load",V3.lst (List.map J.enc js))])=f2;have q1:f2.lookup ("cells":Str)=some (.lst (cs.map Cl.enc)):=by subst hf2;exact EU (Ri rfl)
 have q2:f2.lookup ("load":Str)=some (.lst (js.map J.enc)):=by subst hf2;exact Ri (EV (ns:=["cells"]) (by decide+kernel) rfl)
 have z:f2.length<1000:=by subst hf2;simp
 have c:f2.map (·.1)=["cells","load"].map Str.ofString:=by subst hf2;rfl
 refine zF (ME (t:=[]) (y:= .lst (js.map λ j=>.dT (qf cs j))) (az js cs (by lia) a (at_ _ _) q2 q1) rfl z (EV (by decide+kernel) c)) ?_
 generalize hf3:(f2++[(Str.ofString "most",V3.lst (List.map (λ j=>V3.dT (qf cs j)) js))])=f3
 have q13:f3.lookup ("cells":Str)=some (.lst (cs.map Cl.enc)):=by subst hf3;exact EU q1
 have q23:f3.lookup ("load":Str)=some (.lst (js.map J.enc)):=by subst hf3;exact EU q2
 have A:f3.length<1000:=by subst hf3;subst hf2;simp
 have d:f3.map (·.1)=["cells","load","most"].map Str.ofString:=by subst hf3;rw[Av,c];rfl
 refine zF (J9 (aB js cs (by lia) a (at_ _ _) q23 q13) rfl A (EV (by decide+kernel) d)) ?_
 generalize hf4:(f3++[(Str.ofString "shares",_)])=f4;have q14:f4.lookup ("cells":Str)=some (.lst (cs.map Cl.enc)):=by subst hf4;exact EU q13
 have q24:f4.lookup ("load":Str)=some (.lst (js.map J.enc)):=by subst hf4;exact EU q23
 have B:f4.length<1000:=by subst hf4;subst hf3;subst hf2;simp
 have f:f4.map (·.1)=["cells","load","most","shares"].map Str.ofString:=by subst hf4;rw[Av,d];rfl
 refine zF (J9 (aC (cs:=cs) js a (at_ _ _) q24) rfl B (EV (by decide+kernel) f)) ?_
 generalize hf5:(f4++[(Str.ofString "missing",_)])=f5;have q15:f5.lookup ("cells":Str)=some (.lst (cs.map Cl.enc)):=by subst hf5;exact EU q14
 have C:f5.length<1000:=by subst hf5;subst hf4;subst hf3;subst hf2;simp
 have D:f5.map (·.1)=["cells","load","most","shares","missing"].map Str.ofString:=by subst hf5;rw[Av,f];rfl
 have E:f4=f3++[(Str.ofString "shares",.lst ((List.range js.length).map λ k=>.loc (h0.length+1+k)))]:=by rw[<-hf4,Ar];rfl
 have F:(h0++C3.ins "Flow" f4::([]++List.map (λ _=>C3.lst (zw cs.length λ _=>0)) js)).length=h0.length+1+js.length:=by simp;lia
 have G:f5=f4++[(Str.ofString "missing",.loc (h0.length+1+js.length))]:=by rw[<-hf5];exact congrArg (λ n=>f4++[(Str.ofString "missing",V3.loc n)]) F
 have H:(h0++C3.ins "Flow" f5::([]++List.map (λ _=>C3.lst (zw cs.length λ _=>0)) js++[.lst (zw js.length (j1 cs js).ms)])).length=h0.length+1+(js.length+1):=by simp;lia
 refine zF (h1:=hp h0 cs js (j1 cs js) []) ((J9 (aD js cs (by lia) (at_ _ _) q15 q.one) rfl C (EV (by decide+kernel) D)).trans (by
  rw[H,aF];unfold hp;rw[G,E,<-hf3,<-hf2];rfl)) ?_
 clear E F G H D C q15 hf5 hf4 f B q24 q14 d A q23 q13 hf3 c z q1 q2 hf2 at_ u w;have nm:=jg (n:=h0.length) (cs:=cs) (js:=js) (m:="take_straight") (by decide+kernel)
 have ns:=jg (n:=h0.length) (cs:=cs) (js:=js) (m:="take_by_ways") (by decide+kernel)
 obtain⟨h,i,e1⟩:=ZY (h0:=h0) (g:=[]) (aE a q)
 refine zF (s1:=[some (.v (.loc h0.length)),some (.v x),some (.v (yP rows rest))]) (h1:=hp h0 cs js h []) (by (simp![zM,zD,nm,e1])) ?_
 obtain⟨l,I,o,mx,e2⟩:=ay (h0:=h0) (g:=[]) a.len (by lia) i
 refine⟨l,I,o,mx,?_⟩
 (simp![zM,zD,ns,e2])
end
def aH{p:Int×Int}{r:List (Int×Int)}{rest st f l:Int}:Cal.over (p::r) rest st f l=p.2*Cal.cc st (st+p.1-1) f l+Cal.over r rest (st+p.1) f l:=rfl
def aI{rest st f l:Int}:Cal.over [] rest st f l=rest*Cal.cc st l f l:=rfl
def aJ{rows:List (Int×Int)}{rest:Int}(c:RwB rows rest)(f l:Int)(h:H3):CJ [.lst (rows.map zj),.int rest,.int f,.int l] h=.ok (.v (.int (Cal.over rows rest 0 f l))) h:=by
 show Is h _ _;unfold CJ LF LD
 refine qo rfl ?_
 refine zF (by (simp![])<;>rfl) ?_
 refine zF (by (simp![])<;>rfl) ?_
 refine DD (x:= .lst (rows.map zj)) (l:=rows) (enc:=zj) (by simp![]) rfl (λ i s=> ∃t b x6 x7,s=[some (.v (.lst (rows.map zj))),some (.v (.int rest)),some (.v (.int f)),some (.v (.int l)),some (.v (.int t)),some (.v (.int b)),x6,x7]/\t+Cal.over (rows.drop i) rest b f l=Cal.over rows rest 0 f l) ⟨0,0,none,none,rfl,by simp⟩ ?_ ?_
 .rintro i p s hi ⟨t,b,x6,x7,rfl,a⟩
  have hp:=c.one p (Al hi);have d:∀x,CMul p.2 x:=λ x=>jI ⟨by lia,by lia⟩
  refine⟨_,by (simp![d])<;>rfl,⟨_,_,_,_,rfl,?_⟩⟩
  rw[Qr hi,aH]at a;rw[<-a,show Cal.cc b (b+p.1-1) f l=max 0 (min l (b+p.1-1)-max f b+1) by unfold Cal.cc;rw[Int.min_comm,Int.max_comm b f]]
  lia
 .rintro s ⟨t,b,x6,x7,rfl,a⟩
  have d:∀x,CMul rest x:=λ x=>jI ⟨by have:=c.rest;lia,by have:=c.rest;lia⟩
  rw[Cm,aI]at a;rw[show Cal.cc b l f l=max 0 (l-max f b+1) by unfold Cal.cc;rw[Int.min_self,Int.max_comm b f]]at a
  unfold Is;rw[<-a];simp![d]
def EW(n:Int)(h:H3):jk [.int n] h=.ok (.v (.bl true)) h:=by
 simp![jk,L5]
section
variable{h0:H3}{cs:List Cl}{js:List J}{st:Fl.St}{g:H3}{rows:List (Int×Int)}{rest:Int}
def Rm{j c:Nat}(a:j<js.length)(b:c<cs.length):CH [.loc h0.length,.int (j:Int),.int (c:Int)] (hp h0 cs js st g)=.ok (.v (.int (st.sh j c))) (hp h0 cs js st g):=by
 have e1:=ES (n:=h0.length) a;have e2:=hp_r (h0:=h0) (cs:=cs) (js:=js) (st:=st) (g:=g) a;have d:=jA (n:=cs.length) (f:=st.sh j) b;have l:=(qi (n:=h0.length) (cs:=cs) (js:=js)).2.2.2.1;have o2:∀s,zr s (hp h0 cs js st g) (.x (.loc (h0.length+1+j))) (.x (.int (c:Int)))=some (.v (.int (st.sh j c))):=λ s=>by rw[AW e2,d];rfl
 (simp![CH,L9,ze,zD,yy,l,e1,o2])
theorem BL(f:Nat->Int):∀n:Nat,((List.range n).map f).sum=Fl.S n f
 |0=>rfl
 |n+1=>by rw[Gz,Av,List.sum_append,BL f n];simp[Fl.S]
def Rn{s:S3}{h:H3}{n:Nat}{ns:List Int}(e:h[n]? =some (.lst (ns.map .int)))(hs:jU 0 ns=true):zW s h [.x (.loc n)]=some (.v (.int ns.sum)):=by
 unfold zW;simp only[rdl,e,IK,Ab hs]
def Ro(hs:jU 0 ((List.range js.length).map st.ms)=true):jY [.loc h0.length] (hp h0 cs js st g)=.ok (.v (.int (Fl.S js.length st.ms))) (hp h0 cs js st g):=by
 have e:=hp_m (h0:=h0) (cs:=cs) (js:=js) (st:=st) (g:=g);have e2:zw js.length st.ms=((List.range js.length).map st.ms).map .int:=by rw[Bg];rfl
 rw[e2]at e;have l:=(qi (n:=h0.length) (cs:=cs) (js:=js)).2.2.2.2.1;have a:=λ s=>Rn (s:=s) e hs
 rw[BL]at a
 (simp![jY,LI,ze,zD,yy,l,a])
structure CsUp(cs:List Cl):Prop where
 one:∀c∈cs,0<=c.f/\c.f<=c.l/\c.l<=10000000000/\0<=c.m/\c.m<=16
 up:∀i k,i<k->k<cs.length->(zN cs i).l<(zN cs k).f
def Ov(cs:List Cl)(rows:List (Int×Int))(rest:Int):Prop:=∀c,c<cs.length->Cal.over rows rest 0 (zN cs c).f (zN cs c).l=(zN cs c).m*clen cs c
def aK(e:CsUp cs){c:Nat}(h:c<cs.length):(fd cs js).cap c<=200000000000:=by
 have a:=e.one _ (DU h);show (zN cs c).m*clen cs c<=_;have b:clen cs c<=10000000001:=by unfold clen;lia
 have d:0<=clen cs c:=by unfold clen;lia
 have:=Int.mul_le_mul a.2.2.2.2 b d (by lia)
 lia
def Rq(g:CsUp cs)(f:Fl.Good (fd cs js) st){c:Nat}(h:c<cs.length):jU 0 ((List.range js.length).map λ j=>st.sh j c)=true:=by
 refine IL (D2 _) (λ x i=>?_) ?_
 .obtain⟨j,k,rfl⟩:=Ak.mp i
  exact f.lo j c (Bi.mp k) h
 .rw[BL]
  have a:=f.col c h;have b:=f.sp c h;have d:=aK (js:=js) g h;have e:Fl.S (fd cs js).nJ (λ j=>st.sh j c)=Fl.S js.length (λ j=>st.sh j c):=rfl
  lia
def MG:Qo [.loc h0.length] (hp h0 cs js st g)=.ok (.m (.lst (zw js.length st.ms))) (hp h0 cs js st g):=by
 have e:=hp_m (h0:=h0) (cs:=cs) (js:=js) (st:=st) (g:=g);have l:=(qi (n:=h0.length) (cs:=cs) (js:=js)).2.2.2.2.1
 (simp![Qo,L6,ze,zD,yy,l,e,Am])
def Rr(d:Fl.Good (fd cs js) st)(f:LoadOk js){j:Nat}(h:j<js.length):jU 0 ((List.range cs.length).map (st.sh j))=true:=by
 refine IL (D2 _) (λ x g=>?_) ?_
 .obtain⟨c,i,rfl⟩:=Ak.mp g
  exact d.lo j c h (Bi.mp i)
 .rw[BL]
  have a:=d.row j h;have b:=d.ms j h;have o:=f.one _ (Ia h);have w:=o.w;have e:Fl.S (fd cs js).nC (st.sh j)=Fl.S cs.length (st.sh j):=rfl;have k:(fd cs js).w j=(zR js j).w:=rfl;lia
def aL(c:Fl.Good (fd cs js) st)(d:LoadOk js){j:Nat}(a:j<js.length):CG [.loc h0.length,.int (j:Int)] (hp h0 cs js st g)=.ok (.v (.int (Fl.S cs.length (st.sh j)))) (hp h0 cs js st g):=by
 have e1:=ES (n:=h0.length) a;have e2:=hp_r (h0:=h0) (cs:=cs) (js:=js) (st:=st) (g:=g) a;have e:zw cs.length (st.sh j)=((List.range cs.length).map (st.sh j)).map .int:=by rw[Bg];rfl
 rw[e]at e2;have l:=(qi (n:=h0.length) (cs:=cs) (js:=js)).2.2.2.1;have b:=λ s=>Rn (s:=s) e2 (Rr c d a)
 rw[BL]at b
 (simp![CG,L8,ze,zD,yy,l,e1,b])
def aM{c:Nat}(h:js.length<=12)(d:c<cs.length):Jr [some (.v (.loc h0.length)),some (.v (.int (c:Int)))] (hp h0 cs js st g)=.ok (.m (.lst (((List.range js.length).map λ j=>st.sh j c).map .int))) (hp h0 cs js st g):=by
 unfold Jr;rw[Bg];have l:=(qi (n:=h0.length) (cs:=cs) (js:=js)).2.2.2.1
 refine EN (x:= .lst ((List.range js.length).map λ k=>V3.loc (h0.length+1+k))) (enc:=λ k=>V3.loc (h0.length+1+k)) (l:=List.range js.length) (λ s=> ∃a,s=[a,some (.v (.int (c:Int)))]) _ (by (simp![ze,zD,yy,l])<;>rfl) rfl (by rw[Bq];lia) ⟨none,rfl⟩ ?_
 rintro k s b ⟨a,rfl⟩;have b:=Bi.mp b;have e2:=hp_r (h0:=h0) (cs:=cs) (js:=js) (st:=st) (g:=g) b;have e:=jA (n:=cs.length) (f:=st.sh k) d;have o2:∀s,zr s (hp h0 cs js st g) (.x (.loc (h0.length+1+k))) (.x (.int (c:Int)))=some (.v (.int (st.sh k c))):=λ s=>by rw[AW e2,e];rfl
 exact⟨_,_,by (simp![])<;>rfl,⟨_,rfl⟩,by (simp![o2])<;>rfl,rfl⟩
def aN(b:CsUp cs)(d:Fl.Good (fd cs js) st)(e:js.length<=12){c:Nat}(h:c<cs.length):CI [.loc h0.length,.int (c:Int)] (hp h0 cs js st g)=.ok (.v (.int (Fl.S js.length λ j=>st.sh j c))) (hp h0 cs js st g):=by
 have e1:=aM (h0:=h0) (cs:=cs) (st:=st) (g:=g) e h;have a:=λ s=>Md (s:=s) (h:=hp h0 cs js st g) (Rq b d h)
 rw[BL]at a
 (simp![CI,LC,e1,a])
end
section
variable{h0:H3}{cs:List Cl}{js:List J}{st:Fl.St}{g:H3}{rows:List (Int×Int)}{rest:Int}
def Rt{k:Nat}(h:k<js.length):atI (js.map J.enc) (k:Int)=some (zR js k).enc:=atL (HY h)
def aO{x f l m a b g c:Int}{i:V3}(h:H3)(j: ¬x<0)(k:CMul c (l-f+1))(out:(f<a\/b<l)->x=0)(d: ¬f<a->¬b<l->x<=c*(l-f+1)):AU [.int x,.tup [i,.int a,.int b,.int g,.int c],.tup [.int f,.int l,.int m]] h=.ok (.v (.bl true)) h:=by
 by_cases h1:f<a
 .have e:=out (.inl h1)
  subst e
  (simp![AU,HL,EW,h1])<;>rfl
 .by_cases h2:b<l
  .have e:=out (.inr h2)
   subst e
   (simp![AU,HL,EW,h1,h2])<;>rfl
  .have e:=d h1 h2
   (simp![AU,HL,EW,j,h1,h2,k,e])<;>rfl
def aP(g:LoadOk js)(i:CsUp cs)(e:Fl.Good (fd cs js) st){j c:Nat}(a:j<js.length)(d:c<cs.length)(h:H3):AU [.int (st.sh j c),(zR js j).enc,(zN cs c).enc] h=.ok (.v (.bl true)) h:=by
 have k:=g.one _ (Ia a);have b:=i.one _ (DU d);have lo:0<=st.sh j c:=e.lo j c a d;have m:=k.b
 refine aO h (by lia) (jI ⟨by lia,by lia⟩) (λ z=>?_) λ n o=>?_
 .refine e.off j c a d ?_
  show (decide ((zR js j).f<=(zN cs c).f) && decide ((zN cs c).l<=(zR js j).l))=false
  rcases z with z|z
  .rw[Bu (by lia),Dr]
  .rw[Bu (show ¬(zN cs c).l<=(zR js j).l by lia),Fd]
 .refine e.hi j c a d ?_
  show (decide ((zR js j).f<=(zN cs c).f) && decide ((zN cs c).l<=(zR js j).l))=true;rw[Cd (by lia),Cd (by lia)];rfl
def aQ(d:cs.length<=63){k:Nat}(h:k<js.length){x1 x2 x4 x5 x6:Option Vl}:HM [some (.v (.loc h0.length)),x1,x2,some (.v (.int (k:Int))),x4,x5,x6] (hp h0 cs js st g)=.ok (.m (.lst (((List.range cs.length).map (st.sh k)).map .int))) (hp h0 cs js st g):=by
 unfold HM;rw[Bg];have nm:=jg (n:=h0.length) (cs:=cs) (js:=js) (m:="share") (by decide+kernel)
 have f:=(qi (n:=h0.length) (cs:=cs) (js:=js)).1;have:=J0 (n:=1) (fr:=[3,0]) (a:=(aCons (pE (eB bLen (aCons (pE (ze [("Flow" :Str)] ("cells" :Str) (pV 0))) aNil))) aNil)) (g:=gN 0) (e:=(zM ("Flow" :Str) ("share" :Str) CH (pV 2) (aCons (pV 1) (aCons (pV 0) aNil)))) (s:=[some (.v (.loc h0.length)),x1,x2,some (.v (.int (k:Int))),x4,x5,x6]) (h:=hp h0 cs js st g) (j:=(cs.length:Int)) (λ s=> ∃y,s=[y,some (.v (.int (k:Int))),some (.v (.loc h0.length))]) (λ c=>V3.int (st.sh k c)) (by (simp![ze,zD,yy,f,Ae])<;>rfl) (by lia) ⟨none,rfl⟩ (by
  rintro c s i ⟨y,rfl⟩;have b:c<cs.length:=by rwa [Br]at i
  exact⟨_,_,by (simp![])<;>rfl,⟨_,rfl⟩,by (simp![zM,zD,nm,Rm h b])<;>rfl,rfl⟩)
 rw[Br]at this;exact this
def jrA:D3:=(sIf (tNot3 (tE (eCall AU (aCons (pE (eOp zr (pV 4) (pV 5))) (aCons (pE (eOp zr (pV 1) (pV 3))) (aCons (pE (eOp zr (pE (ze [("Flow" :Str)] ("cells" :Str) (pV 0))) (pV 5))) aNil)))))) (sRet (eC (.bl false))) sSkip)
def jrB:D3:=(sSeq (sSet 4 HM) (sSeq Jq (sSeq (sSet 6 (zM ("Flow" :Str) ("work_done" :Str) CG (pV 0) (aCons (pV 3) aNil))) (sSeq (sFz 6) (sSeq (sIf (tOr3 (tNot3 (tE (eCall jk (aCons (pV 6) aNil)))) (tOr3 (tE (eOp yq (pV 6) (pE (eB zW (aCons (pV 4) aNil))))) (tOr3 (tNot3 (tE (eCall jk (aCons (pE (eOp zr (pV 2) (pV 3))) aNil)))) (tE (eOp jq (pE (eOp zr (pV 2) (pV 3))) (kJ 0)))))) (sRet (eC (.bl false))) sSkip) (sIf (tE (eOp yq (pE (eOp zx (pV 6) (pE (eOp zr (pV 2) (pV 3))))) (pE (eOp zr (pE (eOp zr (pV 1) (pV 3))) (kJ 3))))) (sRet (eC (.bl false))) sSkip))))))
noncomputable abbrev s7(n:Nat)(ld:V3)(ms:List V3)(k:Int)(x4 x5 x6:Option Vl):S3:=[some (.v (.loc n)),some (.v ld),some (.m (.lst ms)),some (.v (.int k)),x4,x5,x6]
def jr1{H:H3}{n:Nat}{ld:List V3}{ms xs cl:List V3}{K C x:Int}{a b:V3}{fs:List (Str×V3)}(c:yS H (.x (.loc n))=some (("Flow" :Str),fs))(d:fs.lookup ("cells":Str)=some (.lst cl))(e1:atI xs C=some (.int x))(e2:atI ld K=some a)(e:atI cl C=some b)(f:AU [.int x,a,b] H=.ok (.v (.bl true)) H){x5 x6:Option Vl}:gb (gN 5) jrA (.int C) (s7 n (.lst ld) ms K (some (.m (.lst xs))) x5 x6) H=.nx (s7 n (.lst ld) ms K (some (.m (.lst xs))) (some (.v (.int C))) x6) H:=by
 unfold jrA s7
 (simp![ze,c,yy,d,HV,e1,e2,e,f,Am])<;>rfl
def qd{a b:D3}{s s1:S3}{h h1:H3}{o:O3}(c:a s h=.nx s1 h1)(d:b s1 h1=o):sSeq a b s h=o:=by unfold sSeq;rw[c];exact d
def Ru{i:Nat}{e:E3}{s:S3}{h h1:H3}{r:Vl}(a:e s h=.ok r h1)(hi:decide (i<s.length)=true):sSet i e s h=.nx (s.set i (some r)) h1:=by
 have hi:=Gi hi;unfold sSet;simp only[a,Res.bindS,Ab hi]
def aR(o:LoadOk js)(p:CsUp cs)(q:cs.length<=63)(r:Fl.Good (fd cs js) st){k:Nat}(l:k<js.length){ms:List V3}{x5 x6:Option Vl}:∃y5,Jq (s7 h0.length (.lst (js.map J.enc)) ms (k:Int) (some (.m (.lst (((List.range cs.length).map (st.sh k)).map .int)))) x5 x6) (hp h0 cs js st g)=.nx (s7 h0.length (.lst (js.map J.enc)) ms (k:Int) (some (.m (.lst (((List.range cs.length).map (st.sh k)).map .int)))) y5 x6) (hp h0 cs js st g):=by
 have t:=(qi (n:=h0.length) (cs:=cs) (js:=js)).1;obtain⟨s',e,y5,rfl⟩:=OO (a:=aCons (pE (eB bLen (aCons (pV 4) aNil))) aNil) (g:=gN 5) (b:=jrA) (s:=s7 h0.length (.lst (js.map J.enc)) ms (k:Int) (some (.m (.lst (((List.range cs.length).map (st.sh k)).map .int)))) x5 x6) (h:=hp h0 cs js st g) (j:=(cs.length:Int)) (by (simp![Ae,Bq])<;>rfl) (by lia) (λ i s=> ∃y5,s=s7 h0.length (.lst (js.map J.enc)) ms (k:Int) (some (.m (.lst (((List.range cs.length).map (st.sh k)).map .int)))) y5 x6) ⟨_,rfl⟩ (by
  rintro c s f ⟨y5,rfl⟩;have d:c<cs.length:=by rwa [Br]at f
  have e1:atI (((List.range cs.length).map (st.sh k)).map V3.int) (c:Int)=some (.int (st.sh k c)):=jK (j:=c) (by simp[d])
  exact⟨_,jr1 zD t e1 (Rt l) (Ms d) (aP o p r l d _),_,rfl⟩)
 exact⟨y5,e⟩
def jr3{H:H3}{n:Nat}{ld:V3}{ms:List V3}{K d:Int}{fs:List (Str×V3)}(a:yS H (.x (.loc n))=some (("Flow" :Str),fs))(nm:fs.lookup ("work_done":Str)=none)(e:CG [.loc n,.int K] H=.ok (.v (.int d)) H){x4 x5 x6:Option Vl}:(sSet 6 (zM ("Flow" :Str) ("work_done" :Str) CG (pV 0) (aCons (pV 3) aNil))) (s7 n ld ms K x4 x5 x6) H=.nx (s7 n ld ms K x4 x5 (some (.v (.int d)))) H:=by
 (simp![zM,a,nm,e])<;>rfl
def jr5{H:H3}{n:Nat}{ld:V3}{ms xs:List V3}{K d m:Int}(e1:∀s:S3,s[4]? =some (some (.m (.lst xs)))->zW s H [.s 4]=some (.v (.int d)))(e2:atI ms K=some (.int m))(a: ¬m<0){x5:Option Vl}:(sIf (tOr3 (tNot3 (tE (eCall jk (aCons (pV 6) aNil)))) (tOr3 (tE (eOp yq (pV 6) (pE (eB zW (aCons (pV 4) aNil))))) (tOr3 (tNot3 (tE (eCall jk (aCons (pE (eOp zr (pV 2) (pV 3))) aNil)))) (tE (eOp jq (pE (eOp zr (pV 2) (pV 3))) (kJ 0)))))) (sRet (eC (.bl false))) sSkip) (s7 n ld ms K (some (.m (.lst xs))) x5 (some (.v (.int d)))) H=.nx (s7 n ld ms K (some (.m (.lst xs))) x5 (some (.v (.int d)))) H:=by
 have e1:=e1 (s7 n ld ms K (some (.m (.lst xs))) x5 (some (.v (.int d)))) rfl;generalize hg:zW=B at*
 (simp![EW,e1,HV,e2,a,Am])<;>rfl
def jr6{H:H3}{n:Nat}{ld ms:List V3}{K d m f l b:Int}{nm:V3}(e1:atI ms K=some (.int m))(e2:atI ld K=some (.tup [nm,.int f,.int l,.int (d+m),.int b])){x4 x5:Option Vl}:(sIf (tE (eOp yq (pE (eOp zx (pV 6) (pE (eOp zr (pV 2) (pV 3))))) (pE (eOp zr (pE (eOp zr (pV 1) (pV 3))) (kJ 3))))) (sRet (eC (.bl false))) sSkip) (s7 n (.lst ld) ms K x4 x5 (some (.v (.int d)))) H=.nx (s7 n (.lst ld) ms K x4 x5 (some (.v (.int d)))) H:=by
 (simp![HV,e1,e2,Am])<;>rfl
def aS(h:LoadOk js)(o:CsUp cs)(c:cs.length<=63)(d:Fl.Good (fd cs js) st){k:Nat}(a:k<js.length){x3 x4 x5 x6:Option Vl}:∃p y5 y6,gb (gN 3) jrB (.int (k:Int)) [some (.v (.loc h0.length)),some (.v (.lst (js.map J.enc))),some (.m (.lst (zw js.length st.ms))),x3,x4,x5,x6] (hp h0 cs js st g)=.nx (s7 h0.length (.lst (js.map J.enc)) (zw js.length st.ms) (k:Int) p y5 y6) (hp h0 cs js st g):=by
 obtain⟨y5,q⟩:=aR (h0:=h0) (g:=g) h o c d a (ms:=zw js.length st.ms) (x5:=x5) (x6:=x6);have nw:=jg (n:=h0.length) (cs:=cs) (js:=js) (m:="work_done") (by decide+kernel)
 have r:=aL (h0:=h0) (g:=g) d h a;have j:=jA (n:=js.length) (f:=st.ms) a;have y:=d.ms k a;have t:Fl.S cs.length (st.sh k)+st.ms k=(zR js k).w:=d.row k a;have u:=Rt a;have i:atI (js.map J.enc) (k:Int)=some (.tup [.str (tx (zR js k).nm),.int (zR js k).f,.int (zR js k).l,.int (Fl.S cs.length (st.sh k)+st.ms k),.int (zR js k).b]):=by rw[t];exact u
 have x:=aQ (h0:=h0) (st:=st) (g:=g) c a (x1:=some (.v (.lst (js.map J.enc)))) (x2:=some (.m (.lst (zw js.length st.ms)))) (x4:=x4) (x5:=x5) (x6:=x6);have es:∀s:S3,s[4]? =some (some (.m (.lst (((List.range cs.length).map (st.sh k)).map .int))))->zW s (hp h0 cs js st g) [.s 4]=some (.v (.int (Fl.S cs.length (st.sh k)))):=λ s e=>by
  rw[<-BL];unfold zW;simp only[rdl,e,IK,Ab (Rr d h a)]
 refine⟨some (.m (.lst (((List.range cs.length).map (st.sh k)).map .int))),y5,some (.v (.int (Fl.S cs.length (st.sh k)))),?_⟩
 show jrB (s7 h0.length (.lst (js.map J.enc)) (zw js.length st.ms) (k:Int) x4 x5 x6) (hp h0 cs js st g)=_;unfold jrB
 refine qd (s1:=s7 h0.length (.lst (js.map J.enc)) (zw js.length st.ms) (k:Int) (some (.m (.lst (((List.range cs.length).map (st.sh k)).map .int)))) x5 x6) (h1:=hp h0 cs js st g) (Ru x rfl) ?_
 refine qd q ?_
 refine qd (jr3 zD nw r) ?_
 refine qd (s1:=s7 h0.length (.lst (js.map J.enc)) (zw js.length st.ms) (k:Int) (some (.m (.lst (((List.range cs.length).map (st.sh k)).map .int)))) y5 (some (.v (.int (Fl.S cs.length (st.sh k)))))) (h1:=hp h0 cs js st g) rfl ?_
 refine qd (jr5 es j (by lia)) ?_
 exact jr6 j i
def aT(c:LoadOk js)(d:CsUp cs)(a:cs.length<=63)(f:Fl.Good (fd cs js) st):DK [.loc h0.length,.lst (js.map J.enc)] (hp h0 cs js st g)=.ok (.v (.bl true)) (hp h0 cs js st g):=by
 show Is _ _ _;unfold DK LB LA
 refine qo rfl ?_
 have h:=jg (n:=h0.length) (cs:=cs) (js:=js) (m:="lacking_by") (by decide+kernel)
 have k:=MG (h0:=h0) (cs:=cs) (js:=js) (st:=st) (g:=g);have l:=c.len
 refine zF (s1:=[some (.v (.loc h0.length)),some (.v (.lst (js.map J.enc))),some (.m (.lst (zw js.length st.ms))),none,none,none,none]) (h1:=hp h0 cs js st g) (by (simp![zM,zD,h,k])<;>rfl) ?_
 refine zF (s1:=[some (.v (.loc h0.length)),some (.v (.lst (js.map J.enc))),some (.m (.lst (zw js.length st.ms))),none,none,none,none]) (h1:=hp h0 cs js st g) (by (simp![Ae,Bq])<;>rfl) ?_
 refine GK (j:=(js.length:Int)) (by (simp![Ae])<;>rfl) (by lia) (λ i s=> ∃x3 x4 x5 x6,s=[some (.v (.loc h0.length)),some (.v (.lst (js.map J.enc))),some (.m (.lst (zw js.length st.ms))),x3,x4,x5,x6]) ⟨none,none,none,none,rfl⟩ ?_ ?_
 .rintro i s hi ⟨x3,x4,x5,x6,rfl⟩
  have b:i<js.length:=by rwa [Br]at hi
  obtain⟨o,y5,y6,e⟩:=aS (h0:=h0) (g:=g) c d a f b (x3:=x3) (x4:=x4) (x5:=x5) (x6:=x6);exact⟨_,e,_,_,_,_,rfl⟩
 .rintro s ⟨x3,x4,x5,x6,rfl⟩
  unfold Is;simp![]
end
section
variable{h0:H3}{cs:List Cl}{js:List J}{st:Fl.St}{g:H3}{rows:List (Int×Int)}{rest:Int}
def aU(l:js.length<=12){c:Nat}(h:c<cs.length){b d e x6 x7 x8 x9:Option Vl}:DL [some (.v (.loc h0.length)),some (.v (.lst (js.map J.enc))),b,d,e,some (.v (.int (c:Int))),x6,x7,x8,x9] (hp h0 cs js st g)=.ok (.m (.lst (((List.range js.length).map λ j=>st.sh j c).map .int))) (hp h0 cs js st g):=by
 unfold DL;rw[Bg];have nm:=jg (n:=h0.length) (cs:=cs) (js:=js) (m:="share") (by decide+kernel)
 have:=J0 (n:=1) (fr:=[5,0]) (a:=(aCons (pE (eB bLen (aCons (pV 1) aNil))) aNil)) (g:=gN 0) (e:=(zM ("Flow" :Str) ("share" :Str) CH (pV 2) (aCons (pV 0) (aCons (pV 1) aNil)))) (s:=[some (.v (.loc h0.length)),some (.v (.lst (js.map J.enc))),b,d,e,some (.v (.int (c:Int))),x6,x7,x8,x9]) (h:=hp h0 cs js st g) (j:=(js.length:Int)) (λ s=> ∃y,s=[y,some (.v (.int (c:Int))),some (.v (.loc h0.length))]) (λ j=>V3.int (st.sh j c)) (by (simp![Ae])<;>rfl) (by lia) ⟨none,rfl⟩ (by
  rintro k s i ⟨y,rfl⟩;have f:k<js.length:=by rwa [Br]at i
  exact⟨_,_,by (simp![])<;>rfl,⟨_,rfl⟩,by (simp![zM,zD,nm,Rm f h])<;>rfl,rfl⟩)
 rw[Br]at this;exact this
def crB:D3:=(sSeq (sAsg (gT (gsCons (gN 6) (gsCons (gN 7) (gsCons (gN 8) gsNil)))) (eOp zr (pE (ze [("Flow" :Str)] ("cells" :Str) (pV 0))) (pV 5))) (sSeq (sIf (tOr3 (tE (eOp jD (pV 6) (pV 4))) (tE (eOp jq (pV 7) (pV 6)))) (sRet (eC (.bl false))) sSkip) (sSeq (sIf (tE (eOp yq (pE (eOp zO (pV 8) (pE (eOp zx (pE (eOp zV (pV 7) (pV 6))) (kJ 1))))) (pE (eCall CJ (aCons (pV 2) (aCons (pV 3) (aCons (pV 6) (aCons (pV 7) aNil)))))))) (sRet (eC (.bl false))) sSkip) (sSeq (sSet 4 (eV 7)) (sSeq (sSet 9 (zM ("Flow" :Str) ("used" :Str) CI (pV 0) (aCons (pV 5) aNil))) (sSeq (sFz 9) (sSeq (sIf (tOr3 (tNot3 (tE (eCall jk (aCons (pV 9) aNil)))) (tE (eOp yq (pV 9) (pE (eB zW (aCons (pE DL) aNil)))))) (sRet (eC (.bl false))) sSkip) (sIf (tE (eOp Qd (pV 9) (pE (eOp zO (pV 8) (pE (eOp zx (pE (eOp zV (pV 7) (pV 6))) (kJ 1))))))) (sRet (eC (.bl false))) sSkip))))))))
noncomputable abbrev qr(n:Nat)(ld rw_:V3)(rest t:Int)(x5 x6 x7 x8 x9:Option Vl):S3:=[some (.v (.loc n)),some (.v ld),some (.v rw_),some (.v (.int rest)),some (.v (.int t)),x5,x6,x7,x8,x9]
section
variable{H:H3}{n:Nat}{ld rw_:V3}{t I F L M u:Int}{xs ys:List V3}{fs:List (Str×V3)}{x5 x6 x7 x8 x9:Option Vl}
def cr1(a:yS H (.x (.loc n))=some (("Flow" :Str),fs))(b:fs.lookup ("cells":Str)=some (.lst xs))(e1:atI xs I=some (.tup [.int F,.int L,.int M])):(sAsg (gT (gsCons (gN 6) (gsCons (gN 7) (gsCons (gN 8) gsNil)))) (eOp zr (pE (ze [("Flow" :Str)] ("cells" :Str) (pV 0))) (pV 5))) (qr n ld rw_ rest t (some (.v (.int I))) x6 x7 x8 x9) H=.nx (qr n ld rw_ rest t (some (.v (.int I))) (some (.v (.int F))) (some (.v (.int L))) (some (.v (.int M))) x9) H:=by (simp![ze,a,yy,b,e1,sAsg])<;>rfl
def cr2(a: ¬F<=t)(b: ¬L<F):(sIf (tOr3 (tE (eOp jD (pV 6) (pV 4))) (tE (eOp jq (pV 7) (pV 6)))) (sRet (eC (.bl false))) sSkip) (qr n ld rw_ rest t (some (.v (.int I))) (some (.v (.int F))) (some (.v (.int L))) (some (.v (.int M))) x9) H=.nx (qr n ld rw_ rest t (some (.v (.int I))) (some (.v (.int F))) (some (.v (.int L))) (some (.v (.int M))) x9) H:=by (simp![a,b])<;>rfl
def cr3(a:CMul M (L-F+1))(e:CJ [rw_,.int rest,.int F,.int L] H=.ok (.v (.int (M*(L-F+1)))) H):(sIf (tE (eOp yq (pE (eOp zO (pV 8) (pE (eOp zx (pE (eOp zV (pV 7) (pV 6))) (kJ 1))))) (pE (eCall CJ (aCons (pV 2) (aCons (pV 3) (aCons (pV 6) (aCons (pV 7) aNil)))))))) (sRet (eC (.bl false))) sSkip) (qr n ld rw_ rest t (some (.v (.int I))) (some (.v (.int F))) (some (.v (.int L))) (some (.v (.int M))) x9) H=.nx (qr n ld rw_ rest t (some (.v (.int I))) (some (.v (.int F))) (some (.v (.int L))) (some (.v (.int M))) x9) H:=by (simp![a,e])<;>rfl
def cr5(a:yS H (.x (.loc n))=some (("Flow" :Str),fs))(nm:fs.lookup ("used":Str)=none)(e:CI [.loc n,.int I] H=.ok (.v (.int u)) H):(sSet 9 (zM ("Flow" :Str) ("used" :Str) CI (pV 0) (aCons (pV 5) aNil))) (qr n ld rw_ rest t (some (.v (.int I))) x6 x7 x8 x9) H=.nx (qr n ld rw_ rest t (some (.v (.int I))) x6 x7 x8 (some (.v (.int u)))) H:=by (simp![zM,a,nm,e])<;>rfl
def cr7(a:DL (qr n ld rw_ rest t (some (.v (.int I))) x6 x7 x8 (some (.v (.int u)))) H=.ok (.m (.lst ys)) H)(es:∀s,zW s H [.x (.lst ys)]=some (.v (.int u))):(sIf (tOr3 (tNot3 (tE (eCall jk (aCons (pV 9) aNil)))) (tE (eOp yq (pV 9) (pE (eB zW (aCons (pE DL) aNil)))))) (sRet (eC (.bl false))) sSkip) (qr n ld rw_ rest t (some (.v (.int I))) x6 x7 x8 (some (.v (.int u)))) H=.nx (qr n ld rw_ rest t (some (.v (.int I))) x6 x7 x8 (some (.v (.int u)))) H:=by
 generalize hg:zW=B at*
 (simp![EW,a,es])<;>rfl
def cr8(a:CMul M (L-F+1))(le: ¬M*(L-F+1)<u):(sIf (tE (eOp Qd (pV 9) (pE (eOp zO (pV 8) (pE (eOp zx (pE (eOp zV (pV 7) (pV 6))) (kJ 1))))))) (sRet (eC (.bl false))) sSkip) (qr n ld rw_ rest t (some (.v (.int I))) (some (.v (.int F))) (some (.v (.int L))) (some (.v (.int M))) (some (.v (.int u)))) H=.nx (qr n ld rw_ rest t (some (.v (.int I))) (some (.v (.int F))) (some (.v (.int L))) (some (.v (.int M))) (some (.v (.int u)))) H:=by (simp![a,le])<;>rfl
end
def aV(i:js.length<=12)(e:CsUp cs)(p:Ov cs rows rest)(q:RwB rows rest)(d:Fl.Good (fd cs js) st){c:Nat}(h:c<cs.length){t:Int}(A:t<(zN cs c).f){x5 x6 x7 x8 x9:Option Vl}:∃y5 y6 r u w,gb (gN 5) crB (.int (c:Int)) (qr h0.length (.lst (js.map J.enc)) (.lst (rows.map zj)) rest t x5 x6 x7 x8 x9) (hp h0 cs js st g)=.nx (qr h0.length (.lst (js.map J.enc)) (.lst (rows.map zj)) rest (zN cs c).l y5 y6 r u w) (hp h0 cs js st g):=by
 have b:=e.one _ (DU h);have x:=(qi (n:=h0.length) (cs:=cs) (js:=js)).1;have y:=jg (n:=h0.length) (cs:=cs) (js:=js) (m:="used") (by decide+kernel)
 have k:=aJ q (zN cs c).f (zN cs c).l (hp h0 cs js st g);rw[p c h]at k;have o:CMul (zN cs c).m ((zN cs c).l-(zN cs c).f+1):=jI ⟨by lia,by lia⟩
 have es:=λ s=>Md (s:=s) (h:=hp h0 cs js st g) (Rq e d h)
 rw[BL]at es;have z: ¬(zN cs c).m*((zN cs c).l-(zN cs c).f+1)<Fl.S js.length (λ j=>st.sh j c):=by
  have a:Fl.S js.length (λ j=>st.sh j c)+st.sp c=(zN cs c).m*((zN cs c).l-(zN cs c).f+1):=d.col c h
  have b:=d.sp c h;lia
 refine⟨some (.v (.int (c:Int))),some (.v (.int (zN cs c).f)),some (.v (.int (zN cs c).l)),some (.v (.int (zN cs c).m)),some (.v (.int (Fl.S js.length (λ j=>st.sh j c)))),?_⟩
 show crB (qr h0.length (.lst (js.map J.enc)) (.lst (rows.map zj)) rest t (some (.v (.int (c:Int)))) x6 x7 x8 x9) (hp h0 cs js st g)=_;unfold crB
 refine qd (cr1 zD x (Ms h)) ?_
 refine qd (cr2 (by lia) (by lia)) ?_
 refine qd (cr3 o k) ?_
 refine qd (s1:=qr h0.length (.lst (js.map J.enc)) (.lst (rows.map zj)) rest (zN cs c).l (some (.v (.int (c:Int)))) (some (.v (.int (zN cs c).f))) (some (.v (.int (zN cs c).l))) (some (.v (.int (zN cs c).m))) x9) (h1:=hp h0 cs js st g) rfl ?_
 refine qd (cr5 zD y (aN e d i h)) ?_
 refine qd (s1:=qr h0.length (.lst (js.map J.enc)) (.lst (rows.map zj)) rest (zN cs c).l (some (.v (.int (c:Int)))) (some (.v (.int (zN cs c).f))) (some (.v (.int (zN cs c).l))) (some (.v (.int (zN cs c).m))) (some (.v (.int (Fl.S js.length (λ j=>st.sh j c)))))) (h1:=hp h0 cs js st g) rfl ?_
 refine qd (cr7 (aU i h) es) ?_
 exact cr8 o z
def aW(h:js.length<=12)(l:cs.length<=63)(b:CsUp cs)(m:Ov cs rows rest)(o:RwB rows rest)(p:Fl.Good (fd cs js) st):DM [.loc h0.length,.lst (js.map J.enc),.lst (rows.map zj),.int rest] (hp h0 cs js st g)=.ok (.v (.bl true)) (hp h0 cs js st g):=by
 show Is _ _ _;unfold DM LH LG
 refine qo rfl ?_
 refine zF (s1:=qr h0.length (.lst (js.map J.enc)) (.lst (rows.map zj)) rest (-1) none none none none none) (h1:=hp h0 cs js st g) (by (simp![])<;>rfl) ?_
 have q:=(qi (n:=h0.length) (cs:=cs) (js:=js)).1
 refine GK (j:=(cs.length:Int)) (by (simp![ze,zD,yy,q,Ae])<;>rfl) (by lia) (λ i s=> ∃t x5 x6 x7 x8 x9,s=qr h0.length (.lst (js.map J.enc)) (.lst (rows.map zj)) rest t x5 x6 x7 x8 x9/\∀k,i<=k->k<cs.length->t<(zN cs k).f) ⟨-1,none,none,none,none,none,rfl,λ k _ d=>by have:=b.one _ (DU d);lia⟩ ?_ ?_
 .rintro i s hi ⟨t,x5,x6,x7,x8,x9,rfl,r⟩
  have a:i<cs.length:=by rwa [Br]at hi
  obtain⟨y5,y6,u,w,x,e⟩:=aV (h0:=h0) (g:=g) h b m o p a (r i (Ag i) a) (x5:=x5) (x6:=x6) (x7:=x7) (x8:=x8) (x9:=x9);exact⟨_,e,_,_,_,_,_,_,rfl,λ k d c=>b.up i k (by lia) c⟩
 .rintro s ⟨t,x5,x6,x7,x8,x9,rfl,_⟩
  unfold Is;simp![]
end
section
variable{js:List J}{rows R:List (Int×Int)}{rest:Int}
def aX{c:Nat}(h:c<(qu js R rest).length):∃p∈Bd.prs (Bd.srt (yz R js)),jh js p.1=true/\zN (qu js R rest) c=⟨p.1,p.2-1,Cal.at_ R rest p.1⟩:=by
 have:=DU h;unfold qu at this;obtain⟨p,hp,e⟩:=Ak.mp this;obtain⟨h1,h2⟩:=B0.mp hp;exact⟨p,h1,h2,e.symm⟩
def MH(a:LoadOk js){x:Int}(h:x∈Bd.srt (yz R js)):0<=x/\x<=10000000001:=by
 obtain⟨j,b,c,k⟩:=bdL_mem.mp ((Bd.srt_mem _ _).mp h);have o:=a.one j b;have:=o.f;have:=o.l;lia
def aY(g:LoadOk js)(j:∀t,0<=Cal.at_ R rest t/\Cal.at_ R rest t<=16):CsUp (qu js R rest) where
 one c hc:=by
  obtain⟨p,hp,rfl⟩:=Ak.mp hc;obtain⟨h1,h2⟩:=B0.mp hp;have a:=Bd.prs_up (Bd.srt_up _) p h1;have b:=MH g a.2.1;have d:=MH g a.2.2.1;have e:=j p.1
  refine⟨b.1,?_,?_,e.1,e.2⟩
  .show p.1<=p.2-1;lia
  .show p.2-1<=_;lia
 up i k hik hk:=by
  have a:(qu js R rest).Pairwise (λ x y=>x.l<y.f):=by
   unfold qu
   refine List.pairwise_map.mpr (((Bd.prs_rise (Bd.srt_up _)).sublist E5).imp λ {p q} h=>?_)
   show p.2-1<q.1;lia
  have b:=Hj.mp a i k (by lia) hk hik
  have e1:zN (qu js R rest) i=(qu js R rest)[i]:=by unfold zN;rw[Cf,zX (by lia)];rfl
  have e2:zN (qu js R rest) k=(qu js R rest)[k]:=by unfold zN;rw[Cf,zX hk];rfl
  rw[e1,e2];exact b
def aZ{t:Int}(h:jh js t=true):∃j∈js,j.f<=t/\t<=j.l:=by
 unfold jh at h;obtain⟨j,a,e⟩:=Dg.mp h;simp only[Be,Cv]at e;exact⟨j,a,e⟩
def ba{j:J}(c:j∈js)(h:j.f<=j.l):j.f∈Bd.srt (yz R js)/\j.l+1∈Bd.srt (yz R js)/\∀s∈Cal.stops R 0,j.f<s->s<=j.l->s∈Bd.srt (yz R js):=
 ⟨(Bd.srt_mem _ _).mpr (bdL_mem.mpr ⟨j,c,h,.inl rfl⟩),(Bd.srt_mem _ _).mpr (bdL_mem.mpr ⟨j,c,h,.inr (.inl rfl)⟩),λ s hs a b=>(Bd.srt_mem _ _).mpr (bdL_mem.mpr ⟨j,c,h,.inr (.inr ⟨hs,a,b⟩)⟩)⟩
def bc(g:Cal.Pos R)(h:LoadOk js):Ov (qu js R rest) R rest:=λ c i=>by
 obtain⟨p,hp,m,e⟩:=aX i;obtain⟨j,f,h1,h2⟩:=aZ m;have a:=Bd.prs_up (Bd.srt_up _) p hp;obtain⟨_,b2,b3⟩:=ba (R:=R) f (by lia)
 have b:=MH h a.2.1;have d:p.2<=j.l+1:=by have:=a.2.2.2 _ b2;lia
 unfold clen;rw[e];show Cal.over R rest 0 p.1 (p.2-1)=Cal.at_ R rest p.1*(p.2-1-p.1+1);rw[Bd.over_const R rest 0 p.1 (p.2-1) (Cal.at_ R rest p.1) g λ t _ n o=>?_]
 .congr 1;lia
 .rw[Int.sub_zero]
  refine Bd.at_same R rest 0 p.1 t g n λ s hs=>?_
  rw[Int.add_zero,Int.add_zero]
  by_cases k:s<=p.1
  .exact .inl k
  .by_cases k2:t<s
   .exact .inr k2
   .have:=a.2.2.2 s (b3 s hs (by lia) (by lia))
    lia
def bf(a:RwB rows rest){cs:List Cl}(h:Ov cs (Cal.kform rest rows) rest):Ov cs rows rest:=λ c b=>by
 have hp:Cal.Pos rows:=λ p h=>(a.one p h).1
 rw[<-h c b,Cal.over_ahead _ _ _ _ _ (Cal.kform_pos rest rows hp),Cal.over_ahead _ _ _ _ _ hp,Cal.kform_ahead _ _ _ hp,Cal.kform_ahead _ _ _ hp]
end
def bg{ok:H3->Prop}{g:G3}{b:D3}{α:Type}{enc:α->V3}{l:List α}{v:V3}{post:List V3}{x:X3}{h:H3}(hok:ok h)(I:Nat->S3->Prop)
  (step:∀(i:Nat) a s,l[i]? =some a->I i s->∃s2,gb g b (enc a) s h=.nx s2 h/\I (i+1) s2) (d:∀s,I l.length s->gb g b v s h=.ex x h):∀(n i:Nat)(s:S3),l.length-i=n->i<=l.length->I i s->zP ok g b ((l.drop i).map enc++v::post) s h=.ex x h:=by
 intro n
 induction n with
 |zero=>
  intro i s k hi f;have e:i=l.length:=by lia
  subst e;rw[Cm,Bl,Ea];have st:=d s f;unfold gb at st;unfold zP;rw[Ab hok];cases q:g v s with
  |none=>simp only[q]at st;cases st
  |some s1=>simp only[q]at st ⊢;rw[st]
 |succ n ih=>
  intro i s k hi f;have c:i<l.length:=by lia
  rw[Qr (zX c),Ah,Gv];obtain⟨s2,st,j⟩:=step i l[i] s (zX c) f;unfold gb at st;unfold zP;rw[Ab hok];cases q:g (enc l[i]) s with
  |none=>simp only[q]at st;cases st
  |some s1=>simp only[q]at st ⊢;rw[st];exact ih (i+1) s2 (by lia) c j
def bh{α:Type}{it:I3}{g:G3}{b r:D3}{s:S3}{h:H3}{its:List V3}{ok:H3->Prop}{enc:α->V3}{l:List α}{v:V3}{post:List V3}{x:X3}(d:it s h=.ok ⟨its,l.map enc++v::post,ok⟩ h)(hok:ok h)(I:Nat->S3->Prop)(h0:I 0 s)
  (step:∀(i:Nat) a s,l[i]? =some a->I i s->∃s2,gb g b (enc a) s h=.nx s2 h/\I (i+1) s2) (c:∀s,I l.length s->gb g b v s h=.ex x h):(sSeq (zA it g b) r s h).res=.ex x h:=by
 have:=bg (ok:=ok) (post:=post) hok I step c _ 0 s rfl (B5 _) h0;rw[Ex]at this;unfold sSeq zA;simp only[d,Res.bindS,this];rfl
abbrev xT:X3:=⟨"TooMany",none⟩
abbrev xW(l:List Nat):X3:=⟨"Twice",some (.str (tx l))⟩
def ckG:G3:=(gT (gsCons (gN 2) (gsCons (gN 3) (gsCons (gN 4) (gsCons (gN 5) (gsCons (gN 6) gsNil))))))
def ckB:D3:=(sSeq (sIf (tNot3 (tE (eCall EF (aCons (pV 2) aNil)))) sNever sSkip) (sSeq (sIf (tE (eOp (jW false) (pV 2) (pV 1))) (IY ("Twice" :Str) (aCons (pV 2) aNil)) sSkip) (sSeq (sIf (tNot3 (tE (eCall EG (aCons (pV 3) (aCons (pV 4) (aCons (pV 5) (aCons (pV 6) aNil))))))) sNever sSkip) (qI qN (pV 1) (aCons (pV 2) aNil)))))
abbrev ckS(x:V3)(ls:List (List Nat))(x2 x3 x4 x5 x6:Option Vl):S3:=[some (.v x),some (.m (.lst (ls.map λ l=>.str (tx l)))),x2,x3,x4,x5,x6]
def bj{j:J}(d:j.Ok){ls:List (List Nat)}(e:j.nm∉ls)(g:ls.length<=1000){x:V3}{x2 x3 x4 x5 x6:Option Vl}(h:H3):gb ckG ckB j.enc (ckS x ls x2 x3 x4 x5 x6) h=.nx (ckS x (ls++[j.nm]) (some (.v (.str (tx j.nm)))) (some (.v (.int j.f))) (some (.v (.int j.l))) (some (.v (.int j.w))) (some (.v (.int j.b)))) h:=by
 have a:∀x2 x3 x4 x5 x6,jW false (ckS x ls x2 x3 x4 x5 x6) h (.x (.str (tx j.nm))) (.s 1)=some (.v (.bl false)):=λ x2 x3 x4 x5 x6=>QS rfl e
 have c:∀y,qN (ls.map λ l=>V3.str (tx l)) [y]=some ((ls.map λ l=>V3.str (tx l))++[y],.non):=λ y=>mAppend_ok (by rw[Ae];have:=yK;lia)
 unfold ckG ckB ckS;rw[Av,Ah,Bl]
 (simp![Mn d.nm,a,QR d,c])<;>rfl
def bp{s:S3}{h:H3}{i:Nat}{ls:List (List Nat)}{l:List Nat}(e:s[i]? =some (some (.m (.lst (ls.map λ l=>.str (tx l))))))(a:l∈ls):jW false s h (.x (.str (tx l))) (.s i)=some (.v (.bl true)):=by
 have e2:zG (λ b=>zU h 8 b (.str (tx l))) (ls.map λ l=>V3.str (tx l))=some (ls.map λ m=>decide (tx m=tx l)):=DA (f:=λ b=>zU h 8 b (.str (tx l))) (g:=λ l=>V3.str (tx l)) (k:=λ m=>decide (tx m=tx l)) (λ m=>IM) ls
 have c:(ls.map λ m=>decide (tx m=tx l)).any id=true:=by
  rw[List.any_map,Dg];exact⟨l,a,by simp⟩
 unfold jW inO;simp only[rdl,e,e2,Am,c]
 first|rfl|simp
def br{n:List Nat}(d:isN n=true){f l w b:Int}{ls:List (List Nat)}(e:n∈ls){x:V3}{x2 x3 x4 x5 x6:Option Vl}(h:H3):gb ckG ckB (.tup [.str (tx n),.int f,.int l,.int w,.int b]) (ckS x ls x2 x3 x4 x5 x6) h=.ex (xW n) h:=by
 have c:∀x2 x3 x4 x5 x6,jW false (ckS x ls x2 x3 x4 x5 x6) h (.x (.str (tx n))) (.s 1)=some (.v (.bl true)):=λ x2 x3 x4 x5 x6=>bp rfl e
 have g:(tx n).length<=10000:=by rw[jJ];obtain⟨a,r,rfl,h2,_⟩:=QQ d;lia
 unfold ckG ckB
 (simp![Mn d,c,IY,g])<;>rfl
def bt{js:List J}(c:LoadOk js){v:V3}{post:List V3}(m:js.length+1+post.length<=12){x:X3}{h:H3}(d:∀g x2 x3 x4 x5 x6,gb ckG ckB v (ckS g (js.map J.nm) x2 x3 x4 x5 x6) h=.ex x h):BG [.lst (js.map J.enc++v::post)] h=.ex x h:=by
 refine qo (Q:=λ R=>R=.ex x h) rfl ?_
 unfold GR Jc;have e: ¬((12:Int)<((js.map J.enc++v::post).length:Int)):=by rw[Ar,Ae,Ax];lia
 refine zF (Q:=λ R=>R=.ex x h) (s1:=[some (.v (.lst (js.map J.enc++v::post))),none,none,none,none,none,none]) (h1:=h) (by (simp![e])<;>rfl) ?_
 refine zF (Q:=λ R=>R=.ex x h) (s1:=ckS (.lst (js.map J.enc++v::post)) [] none none none none none) (h1:=h) (by (simp![])<;>rfl) ?_
 refine bh (its:=[.lst (js.map J.enc++v::post)]) (l:=js) (enc:=J.enc) (ok:=λ _=>True) (Zk (by (simp![])<;>rfl) rfl) trivial (λ i s=> ∃x2 x3 x4 x5 x6,s=ckS (.lst (js.map J.enc++v::post)) ((js.take i).map J.nm) x2 x3 x4 x5 x6) ⟨_,_,_,_,_,rfl⟩ ?_ ?_
 .rintro i j s hi ⟨x2,x3,x4,x5,x6,rfl⟩
  have k:=c.one j (Al hi);have a:j.nm∉(js.take i).map J.nm:=by
   have h0:js.map J.nm=(js.take i).map J.nm++j.nm::(js.drop (i+1)).map J.nm:=by
    rw[<-Ah,<-Av,<-Qr hi,Ft]
   have h1:=c.nd;rw[h0,Cw]at h1;intro z;exact h1.2.2 _ z _ Aj rfl
  refine⟨_,bj k a (by rw[Ae,Ay];have:=c.len;lia) h,some (.v (.str (tx j.nm))),some (.v (.int j.f)),some (.v (.int j.l)),some (.v (.int j.w)),some (.v (.int j.b)),?_⟩
  rw[Fe,hi,Option.toList,Av,Ah,Bl]
 .rintro s ⟨x2,x3,x4,x5,x6,rfl⟩
  rw[Cj];exact d _ _ _ _ _ _
def bu{xs:List V3}(b:12<xs.length)(h:H3):BG [.lst xs] h=.ex xT h:=by
 have a:(12:Int)<(xs.length:Int):=by lia
 (simp![BG,GR,a,K5])<;>rfl
def bw:mtL mtb ("TooMany" :Str) ("TooMany" :Str)=some true:=by decide+kernel
def bx:mtL mtb ("TooMany" :Str) ("Twice" :Str)=some false:=by decide+kernel
def bz:mtL mtb ("Twice" :Str) ("Twice" :Str)=some true:=by decide+kernel
def JA{s:S3}{h:H3}{xs ys:List V3}(a:xs.length+ys.length<=sizeLine):zx s h (.x (.lst xs)) (.x (.lst ys))=some (.m (.lst (xs++ys))):=by
 unfold zx qS AE oI FV oCat;simp only[rdm,rdl,Ab a]
section
variable{xs:List V3}{c:V3}{h:H3}
def Rv{x:X3}(e:∀h,BG [.lst xs] h=.ex x h):j0 [.loc h.length,.lst xs,c] (h++[.ins "Flow" []])=.ex x (h++[.ins "Flow" []]):=by
 have e1:∀h,AS [.lst xs,c] h=.ex x h:=λ h=>by (simp![AS,Je,e])<;>rfl
 (simp![j0,Jo,qE,e1])<;>rfl
end
def b5{js:List J}(b:LoadOk js)(c:V3)(h:H3)(f:js=[]->∃t,j0 [.loc h.length,.lst [],c] (h++[.ins "Flow" []])=.ok (.v .non) (h++t)):∃t,BI [.lst (js.map J.enc),c] h=.ok (.v (.bl true)) (h++t):=by
 have p:=b.len;have hz:=yK;have sl:yY (js.map J.enc) none (some 1)=(js.map J.enc).take 1:=YZ (js.map J.enc) 1;have d:=λ s=>JA (s:=s) (h:=h) (xs:=js.map J.enc) (ys:=(js.map J.enc).take 1) (by rw[Ae,Ay,Ae];lia)
 by_cases h12:js.length=12
 .have g:12<(js.map J.enc++(js.map J.enc).take 1).length:=by rw[Ar,Ay,Ae];lia
  have e:=Rv (c:=c) (h:=h) λ h=>bu g h
  generalize js.map J.enc++(js.map J.enc).take 1=ys at*;have a:((js.length:Nat):Int)=12:=by lia
  refine⟨[.ins "Flow" []],?_⟩
  (simp![BI,HN,j8,j7,Qc,oSl,sl,d,DG,e,pick,bx,bw,noEx,Ae,a,QD,Am])<;>rfl
 .have a: ¬((js.length:Nat):Int)=12:=by lia
  have i:=λ s h=>JA (s:=s) (h:=h) (xs:=js.map J.enc) (ys:=[.tup [.non,.int 0]]) (by rw[Ae,Cc];lia)
  cases js with
  |nil=>
   obtain⟨h',e⟩:=f rfl;have s0:yY ([]:List V3) none (some 1)=[]:=rfl;have o0:∀s,zx s h (.x (.lst [])) (.x (.lst []))=some (.m (.lst [])):=λ s=>JA (xs:=[]) (ys:=[]) (by simp)
   have o1:∀s h,zx s h (.x (.lst [])) (.x (.lst [.tup [.non,.int 0]]))=some (.m (.lst [.tup [.non,.int 0]])):=λ s h=>JA (xs:=[]) (ys:=[.tup [.non,.int 0]]) (by simp;lia)
   have k: ¬((([]:List V3).length:Nat):Int)=12:=by decide
   refine⟨h',?_⟩
   rw[Bl]
   (simp![BI,HN,j8,j7,Qc,oSl,s0,o0,o1,DG,e,k,Am])<;>rfl
  |cons j r=>
   have l:=b.one j Aj;have e:=Rv (xs:=(j::r).map J.enc++j.enc::[]) (c:=c) (h:=h) λ h=>bt b (v:=j.enc) (post:=[]) (by simp only[Dy];lia) λ q x2 x3 x4 x5 x6=>br l.nm (Ak.mpr ⟨j,Aj,rfl⟩) h
   have tk:((j::r).map J.enc).take 1=[j.enc]:=by rw[Ah];rfl
   rw[tk]at d sl;have a0:atI ((j::r).map J.enc++[.tup [.non,.int 0]]) 0=some j.enc:=jK (j:=0) (by rw[Ah];rfl)
   have o:((j::r).map J.enc).length=(j::r).length:=Ae ..;generalize hL:(j::r).map J.enc=L at*;generalize (j::r).length=n at*;generalize L++[V3.tup [.non,.int 0]]=L2 at*;generalize L++[j.enc]=L1 at*
   refine⟨[.ins "Flow" []],?_⟩
   (simp![BI,HN,j8,j7,Qc,oSl,sl,d,i,DG,e,pick,bz,asN,eXn,Option.toList,o,a,a0,QD,Am,decide_true])<;>rfl
noncomputable def js2:List J:=[⟨[113,48],0,4,3,1⟩,⟨[113,49],2,2,2,1⟩]
noncomputable def qz:List Cl:=[⟨0,1,1⟩,⟨2,2,1⟩,⟨3,4,1⟩]
def srt2:Bd.srt (yz [] js2)=[0,2,3,5]:=by
 have e:z8 (yz [] js2)=[0,5,2,3]:=by kernel_rfl
 unfold Bd.srt;rw[e];exact NU ((BD _).1.trans (by decide)) (BD _).2 (by decide)
def b6:qu js2 [] 1=qz:=by
 unfold qu;rw[srt2]
 kernel_rfl
def q_0:("q0" :Str)=tx [113,48]:=by decide+kernel
def q_1:("q1" :Str)=tx [113,49]:=by decide+kernel
def Rw:LoadOk js2:=by
 refine⟨by decide,λ j a=>?_,by decide⟩
 rcases Af.mp a with rfl|a
 .exact⟨by decide,by decide,by decide,by decide,by decide⟩
 .rcases Af.mp a with rfl|a
  .exact⟨by decide,by decide,by decide,by decide,by decide⟩
  .cases a
def b7{st:Fl.St}(a:Fl.Good (fd qz js2) st)(mx:Max (fd qz js2) st):st.ms 0=0/\st.ms 1=1:=by
 have S3:∀f:Nat->Int,Fl.S 3 f=f 0+f 1+f 2:=λ f=>by simp[Fl.S]
 have d:∀f:Nat->Int,Fl.S 2 f=f 0+f 1:=λ f=>by simp[Fl.S]
 have e:Fl.S 3 (st.sh 0)+st.ms 0=3:=a.row 0 (by decide)
 have g:Fl.S 3 (st.sh 1)+st.ms 1=2:=a.row 1 (by decide)
 have h:Fl.S 2 (λ j=>st.sh j 0)+st.sp 0=2:=a.col 0 (by decide)
 have i:Fl.S 2 (λ j=>st.sh j 1)+st.sp 1=1:=a.col 1 (by decide)
 have k:Fl.S 2 (λ j=>st.sh j 2)+st.sp 2=2:=a.col 2 (by decide)
 rw[S3]at e g;rw[d]at h i k;have o0:st.sh 1 0=0:=a.off 1 0 (by decide) (by decide) (by decide+kernel)
 have o2:st.sh 1 2=0:=a.off 1 2 (by decide) (by decide) (by decide+kernel)
 have h1:st.sh 1 1<=1:=a.hi 1 1 (by decide) (by decide) (by decide+kernel)
 have l:=a.lo 0 0 (by decide) (by decide)
 have m:=a.lo 0 1 (by decide) (by decide)
 have n:=a.lo 0 2 (by decide) (by decide)
 have o:=a.lo 1 1 (by decide) (by decide)
 have s:=a.ms 0 (by decide)
 have t:=a.ms 1 (by decide)
 have b:Fl.Rch (fd qz js2) st (.inl 0)->¬st.sh 0 0<2:=λ r z=>by
  have:=mx 0 (.take r (by decide) (by decide+kernel) (show st.sh 0 0<2 from z))
  lia
 have c:Fl.Rch (fd qz js2) st (.inl 0)->¬st.sh 0 2<2:=λ r z=>by
  have:=mx 2 (.take r (by decide) (by decide+kernel) (show st.sh 0 2<2 from z))
  lia
 have p:st.ms 0=0:=by
  by_cases q:0<st.ms 0
  .have r:Fl.Rch (fd qz js2) st (.inl 0):= .lack (by decide) q
   have:=b r;have:=c r;lia
  .lia
 refine⟨p,?_⟩
 by_cases q:st.sh 1 1<1
 .have r:Fl.Rch (fd qz js2) st (.inl 1):= .lack (by decide) (by lia)
  have rc:Fl.Rch (fd qz js2) st (.inr 1):= .take r (by decide) (by decide+kernel) (show st.sh 1 1<1 from q)
  have:=mx 1 rc;have rj:Fl.Rch (fd qz js2) st (.inl 0):= .give rc (by decide) (by lia)
  have:=b rj;have:=c rj;lia
 .lia
def RowsOk.b{rows:List (Int×Int)}{rest by_:Int}(h:RowsOk rows rest by_):RwB rows rest:=
 ⟨by have:=h.len;lia,λ p hp=>by have:=h.one p hp;have:=h.by_;lia,h.rest⟩
theorem Rx(n:Nat):∀l:List (Int×Int),yX n (l.map zj)=true
 | []=>rfl
 |p::r=>by simp only[Ah,yX,low,Rx n r,Bool.and_self]
def Ry{h:H3}{n:Nat}{js:List J}:∀x∈js.map J.enc,zU h (n+1) x x=some true:=λ x b=>by
 obtain⟨j,_,rfl⟩:=Ak.mp b
 refine QC λ y a=>?_
 simp only[Af,Bt,Bn]at a
 rcases a with rfl|rfl|rfl|rfl|rfl
 .rw[IM];simp
 all_goals (rw[GJ];simp)
def b8{h:H3}{n:Nat}{cs:List Cl}:∀x∈cs.map Cl.enc,zU h (n+1) x x=some true:=λ x b=>by
 obtain⟨c,_,rfl⟩:=Ak.mp b
 refine QC λ y a=>?_
 simp only[Af,Bt,Bn]at a
 rcases a with rfl|rfl|rfl
 all_goals (rw[GJ];simp)
noncomputable abbrev s9(ns:List Int)(rw_:V3)(rest by_:Int)(x4 x5 x6 x7 x8:Option Vl):S3:=[some (.v (.scr ns)),some (.v rw_),some (.v (.int rest)),some (.v (.int by_)),x4,x5,x6,x7,x8]
section
variable{ns:List Int}{rw_:V3}{rest by_:Int}{H H2:H3}{L RL:List V3}{n m:Nat}{fs fs2:List (Str×V3)}{x4 x5 x6 x7 x8:Option Vl}
def y3:(sSet 5 (qh (eB bList (aCons (pV 4) aNil)))) (s9 ns rw_ rest by_ (some (.m (.lst L))) none none none none) []=.nx (s9 ns rw_ rest by_ (some (.m (.lst L))) (some (.v (.loc 0))) none none none) [.lst L]:=by (simp![qh])<;>rfl
def MI{rows:List (Int×Int)}(e:RwB rows rest){s:S3}{a:A3}(f:a s H=.ok [.x (.lst (rows.map zj)),.x (.int rest)] H):eObj (yO ("Calendar" :Str) BH a) s H=.ok (.m (.ins "Calendar" [("stretches",.lst ((Cal.kform rest rows).map zj)),("beyond",.int rest)])) H:=by
 have b:=Z4 e H;have d:lowF H.length [(Str.ofString "stretches",V3.lst ((Cal.kform rest rows).map zj)),(Str.ofString "beyond",V3.int rest)]=true:=by
  simp only[lowF,low,Rx,Bool.and_self]
 have g:∀c:C3,(H++[c])[H.length]? =some c:=λ c=>by simp
 (simp![eObj,yO,f,b,g,d])<;>rfl
def Rz{i:Nat}{e:E3}{x:V3}{rows:List (Int×Int)}{p:P3}{s:S3}{H2:H3}(hi:decide (i<s.length)=true)(ep:p s H=.ok (.x x) H)(a:e s H=.ok (.m (.ins "Calendar" [("stretches",.lst ((Cal.kform rest rows).map zj)),("beyond",.int rest)])) H)(b:j0 [.loc H.length,x,yP (Cal.kform rest rows) rest] (H++[.ins "Flow" []])=.ok (.v .non) H2):sSet i (yO ("Flow" :Str) j0 (aCons p (aCons (pE e) aNil))) s H=.nx (s.set i (some (.v (.loc H.length)))) H2:=by
 have hi:=Gi hi
 (simp![yO,ep,a,b,hi])<;>rfl
def y5(e:∀s,s[4]? =some (some (.m (.lst L)))->yq s H (.x (.loc 0)) (.s 4)=some (.v (.bl false))):(sIf (tE (eOp yq (pV 5) (pV 4))) (sRet (eC (.bl false))) sSkip) (s9 ns rw_ rest by_ (some (.m (.lst L))) (some (.v (.loc 0))) x6 x7 x8) H=.nx (s9 ns rw_ rest by_ (some (.m (.lst L))) (some (.v (.loc 0))) x6 x7 x8) H:=by
 have e:=e (s9 ns rw_ rest by_ (some (.m (.lst L))) (some (.v (.loc 0))) x6 x7 x8) rfl
 (simp![e])<;>rfl
def y6(e:H[0]? =some (.lst L)):qI GE (pV 5) aNil (s9 ns rw_ rest by_ x4 (some (.v (.loc 0))) x6 x7 x8) H=.nx (s9 ns rw_ rest by_ x4 (some (.v (.loc 0))) x6 x7 x8) (H.set 0 (.lst [])):=by (simp![e,GE])<;>rfl
def yA{k:Nat}(a:yS H (.x (.loc n))=some (("Flow" :Str),fs))(b:fs.lookup ("load":Str)=some (.lst L))(c:∀s,yq s H (.x (.lst L)) (.x (.lst L))=some (.v (.bl false)))(d:DK [.loc n,.lst L] H=.ok (.v (.bl true)) H)(e:DM [.loc n,.lst L,rw_,.int rest] H=.ok (.v (.bl true)) H):(sIf (tOr3 (tE (eOp yq (pE (ze [("Flow" :Str)] ("load" :Str) (pV 6))) (pV 4))) (tOr3 (tNot3 (tE (eCall DK (aCons (pV 6) (aCons (pV 4) aNil))))) (tNot3 (tE (eCall DM (aCons (pV 6) (aCons (pV 4) (aCons (pV 1) (aCons (pV 2) aNil))))))))) (sRet (eC (.bl false))) sSkip) (s9 ns rw_ rest by_ (some (.v (.lst L))) x5 (some (.v (.loc n))) x7 x8) H=.nx (s9 ns rw_ rest by_ (some (.v (.lst L))) x5 (some (.v (.loc n))) x7 x8) H:=by (simp![ze,a,yy,b,c,d,e])<;>rfl
def yB{rows:List (Int×Int)}(a:RwB rows rest):(sSet 8 (eObj (yO ("Calendar" :Str) BH (aCons (pE (eB bList (aCons (pV 1) aNil))) (aCons (pV 2) aNil))))) (s9 ns (.lst (rows.map zj)) rest by_ x4 x5 x6 x7 none) H=.nx (s9 ns (.lst (rows.map zj)) rest by_ x4 x5 x6 x7 (some (.m (.ins "Calendar" [("stretches",.lst ((Cal.kform rest rows).map zj)),("beyond",.int rest)])))) H:=by
 refine Ru (MI a ?_) rfl
 (simp![])<;>rfl
def yD{a:V3}{b:List V3}(c:yS H (.x (.loc n))=some (("Flow" :Str),fs))(d:fs.lookup ("cells":Str)=some (.lst b))(e:∀s,yq s H (.x (.lst b)) (.x (.lst b))=some (.v (.bl false)))(f:AS [.lst L,a] H=.ok (.m (.lst b)) H)(g:BI [.lst L,a] H=.ok (.v (.bl true)) H2):(sIf (tOr3 (tE (eOp yq (pE (ze [("Flow" :Str)] ("cells" :Str) (pV 6))) (pE (eCall AS (aCons (pV 4) (aCons (pV 8) aNil)))))) (tNot3 (tE (eCall BI (aCons (pV 4) (aCons (pV 8) aNil)))))) (sRet (eC (.bl false))) sSkip) (s9 ns rw_ rest by_ (some (.v (.lst L))) x5 (some (.v (.loc n))) x7 (some (.v a))) H=.nx (s9 ns rw_ rest by_ (some (.v (.lst L))) x5 (some (.v (.loc n))) x7 (some (.v a))) H2:=by (simp![ze,c,yy,d,e,f,g])<;>rfl
def yE{a b:V3}(c:yS H (.x (.loc m))=some (("Flow" :Str),fs2))(d:fs2.lookup ("lacking_by":Str)=none)(e:fs2.lookup ("lacking":Str)=none)(f:fs2.lookup ("load":Str)=some (.lst [a,b]))(e1:Qo [.loc m] H=.ok (.m (.lst [.int 0,.int 1])) H)(e2:jY [.loc m] H=.ok (.v (.int 1)) H)(g:∀s,yq s H (.x (.lst [.int 0,.int 1])) (.x (.lst [.int 0,.int 1]))=some (.v (.bl false))):(sIf (tOr3 (tE (eOp yq (pE (zM ("Flow" :Str) ("lacking_by" :Str) Qo (pV 7) aNil)) (pE (eLst (aCons (kJ 0) (aCons (kJ 1) aNil)))))) (tOr3 (tE (eOp yq (pE (zM ("Flow" :Str) ("lacking" :Str) jY (pV 7) aNil)) (kJ 1))) (tE (eOp yq (pE (eB bLen (aCons (pE (ze [("Flow" :Str)] ("load" :Str) (pV 7))) aNil))) (kJ 2))))) (sRet (eC (.bl false))) sSkip) (s9 ns rw_ rest by_ x4 x5 x6 (some (.v (.loc m))) x8) H=.nx (s9 ns rw_ rest by_ x4 x5 x6 (some (.v (.loc m))) x8) H:=by (simp![zM,ze,c,yy,d,e,f,e1,e2,g,Ax,Dy])<;>rfl
def yF{ms:List V3}{l:Int}(a:yS H (.x (.loc n))=some (("Flow" :Str),fs))(b:fs.lookup ("lacking_by":Str)=none)(c:fs.lookup ("lacking":Str)=none)(e1:Qo [.loc n] H=.ok (.m (.lst ms)) H)(e2:jY [.loc n] H=.ok (.v (.int l)) H)(es:∀s,zW s H [.x (.lst ms)]=some (.v (.int l))):((sRet (eAnd (eCall jk (aCons (pE (zM ("Flow" :Str) ("lacking" :Str) jY (pV 6) aNil)) aNil)) (eOp qq (pE (zM ("Flow" :Str) ("lacking" :Str) jY (pV 6) aNil)) (pE (eB zW (aCons (pE (zM ("Flow" :Str) ("lacking_by" :Str) Qo (pV 6) aNil)) aNil)))))) (s9 ns rw_ rest by_ x4 x5 (some (.v (.loc n))) x7 x8) H).res=.ok (.v (.bl true)) H:=by
 generalize hg:zW=B at*
 (simp![zM,a,b,c,e1,e2,es,EW])<;>rfl
end
theorem R0{α:Type}{g:α->Int}{M:Int}:∀{l:List α},(∀x∈l,0<=g x/\g x<=M)->0<=(l.map g).sum/\(l.map g).sum<=M*(l.length:Int)
 | [],_=>by simp
 |x::r,h=>by
  have h1:=h x Aj;have h2:=R0 (g:=g) (M:=M) (l:=r) λ y a=>h y (Ap _ a)
  rw[Ah,List.sum_cons,Ax];have:M*((r.length+1:Nat):Int)=M*(r.length:Int)+M:=by rw[Int.natCast_add,Int.mul_add];simp
  lia
def b9{α:Type}{g:α->Int}{l:List α}(M:Int)(h:∀x∈l,0<=g x/\g x<=M)(c:M*(l.length:Int)<2 ^ 63):jU 0 (l.map g)=true:=by
 have:=R0 h
 refine IL (D2 _) (λ x a=>?_) (by lia)
 obtain⟨y,b,rfl⟩:=Ak.1 a;exact (h y b).1
theorem R1{f:Nat->Int}:∀n:Nat,(∀k,k<n->0<=f k)->0<=Fl.S n f
 |0,_=>D2 _
 |n+1,h=>by
  have:=R1 n λ k a=>h k (by lia)
  have:=h n (by lia)
  show 0<=Fl.S n f+f n;lia
def MJ{cs:List Cl}{js:List J}{st:Fl.St}(g:LoadOk js)(e:Fl.Good (fd cs js) st):jU 0 ((List.range js.length).map st.ms)=true:=by
 refine b9 60 (λ k d=>?_) (by rw[Bq];have:=g.len;lia)
 have d:=Bi.mp d;have a:Fl.S cs.length (st.sh k)+st.ms k=(zR js k).w:=e.row k d;have b:=R1 (f:=st.sh k) cs.length λ c h=>e.lo k c d h
 have o:=(g.one _ (Ia d)).w;exact⟨e.ms k d,by lia⟩
def law_yes(ns:List Int)(_:ns.length<=63):Yes (f_law [.scr ns] []):=by
 unfold f_law LK
 refine qo rfl ?_
 obtain⟨rows,rest,by_,e1,I⟩:=Zn (cell ns (0:Int).toNat) []
 refine zF (s1:=s9 ns (.lst (rows.map zj)) rest by_ none none none none none) (h1:=[]) (by (simp![J3 ns 0 (by decide),e1])) ?_
 obtain⟨js,e2,d⟩:=Zv ns by_ I.by_ []
 refine zF (s1:=s9 ns (.lst (rows.map zj)) rest by_ (some (.m (.lst (js.map J.enc)))) none none none none) (h1:=[]) (by (simp![e2])) ?_
 have c:=I.b;have l:Cal.Pos rows:=λ p h=>(c.one p h).1
 have C:∀t,0<=Cal.at_ (Cal.kform rest rows) rest t/\Cal.at_ (Cal.kform rest rows) rest t<=16:=λ t=>by rw[Cal.kform_at _ _ _ l];exact at_b c t
 have y:(Cal.kform rest rows).length<=16:=By (Cal.kform_len rest rows) c.len
 refine zF y3 ?_
 obtain⟨st,g,z,mx,P⟩:=MF (h0:=[.lst (js.map J.enc)]) d y (MD C js) (x:= .loc 0) λ t=>.inr ⟨0,rfl,rfl⟩
 have D:=bf c (bc (rest:=rest) (Cal.kform_pos rest rows l) d);have o:=aY d C;have q:=Rl rest d y;have E:=λ h=>QV d y rest (x:= .lst (js.map J.enc)) (h:=h) (.inl rfl)
 generalize hcs:qu js (Cal.kform rest rows) rest=cs at*
 refine zF (Rz (x:= .loc 0) (rows:=rows) rfl (by (simp![])<;>rfl) (MI c (by (simp![])<;>rfl)) P) ?_
 have K:(hp [.lst (js.map J.enc)] cs js st g)[0]? =some (.lst (js.map J.enc)):=rfl
 refine zF (y5 λ s e=>J1 (Zc K) (Zb e) Ry) ?_
 refine zF (y6 K) ?_
 have Q:(hp [.lst (js.map J.enc)] cs js st g).set 0 (.lst [])=hp [.lst []] cs js st g:=rfl;rw[Q];generalize hH1:hp [.lst []] cs js st g=H1;have L:RwB [] 1:=⟨by decide,λ p h=>(by cases h),by decide⟩
 have k0:Cal.kform 1 []=[]:=rfl;obtain⟨a,f,i,r,u⟩:=MF (h0:=H1) (rows:=[]) (rest:=1) Rw (by decide) (MD (λ t=>at_b L t) js2) (x:= .lst (js2.map J.enc)) λ t=>.inl rfl
 rw[b6]at i r u
 refine zF (Rz (x:= .lst (js2.map J.enc)) (rows:=[]) (rest:=1) rfl (by
  show _=Res.ok (Rf.x (.lst [.tup [.str (tx [113,48]),.int 0,.int 4,.int 3,.int 1],.tup [.str (tx [113,49]),.int 2,.int 2,.int 2,.int 1]])) H1;rw[<-q_0,<-q_1]
  (simp![])<;>rfl) (MI L (by (simp![])<;>rfl)) u) ?_
 have A:∃G,hp H1 qz js2 a f=hp [.lst []] cs js st G:=⟨g++(.ins "Flow" (jH qz js2 H1.length)::(ju qz js2 a++f)),by
  have:hp H1 qz js2 a f=H1++(.ins "Flow" (jH qz js2 H1.length)::(ju qz js2 a++f)):=rfl;rw[this,<-hH1,DT]⟩
 obtain⟨G,A⟩:=A;generalize hN:H1.length=N;rw[A]
 refine zF (s1:=s9 ns (.lst (rows.map zj)) rest by_ (some (.v (.lst (js.map J.enc)))) (some (.v (.loc 0))) (some (.v (.loc 1))) (some (.v (.loc N))) none) (h1:=hp [.lst []] cs js st G) rfl ?_
 refine zF (s1:=s9 ns (.lst (rows.map zj)) rest by_ (some (.v (.lst (js.map J.enc)))) (some (.v (.loc 0))) (some (.v (.loc 1))) (some (.v (.loc N))) none) (h1:=hp [.lst []] cs js st G) rfl ?_
 have F:∀G,yS (hp [.lst []] cs js st G) (.x (.loc 1))=some (("Flow" :Str),jH cs js 1):=λ G=>zD (h0:=[.lst []])
 have M:=qi (n:=1) (cs:=cs) (js:=js)
 refine zF (yA (k:=0) (F G) M.2.1 (λ s=>J1 ER ER Ry) (aT (h0:=[.lst []]) d o q z) (aW (h0:=[.lst []]) d.len q o D c z)) ?_
 refine zF (yB c) ?_
 refine zF (s1:=s9 ns (.lst (rows.map zj)) rest by_ (some (.v (.lst (js.map J.enc)))) (some (.v (.loc 0))) (some (.v (.loc 1))) (some (.v (.loc N))) (some (.v (yP (Cal.kform rest rows) rest)))) (h1:=hp [.lst []] cs js st G) rfl ?_
 refine zF (s1:=s9 ns (.lst (rows.map zj)) rest by_ (some (.v (.lst (js.map J.enc)))) (some (.v (.loc 0))) (some (.v (.loc 1))) (some (.v (.loc N))) (some (.v (yP (Cal.kform rest rows) rest)))) (h1:=hp [.lst []] cs js st G) rfl ?_
 obtain⟨t,R⟩:=b5 d (yP (Cal.kform rest rows) rest) (hp [.lst []] cs js st G) λ _=>by
  obtain⟨T,g',_,_,e⟩:=MF (h0:=hp [.lst []] cs js st G) (js:=[]) ⟨by decide,λ j h=>(by cases h),List.Pairwise.nil⟩ y (MD C []) (x:= .lst []) λ t=>.inl rfl
  exact⟨_,e⟩
 refine zF (yD (F G) M.1 (λ s=>J1 ER ER b8) (E _) R) ?_
 have U:hp [.lst []] cs js st G++t=hp H1 qz js2 a (f++t):=by rw[<-A,DT]
 have B:=b7 i r;have V:zw js2.length a.ms=[.int 0,.int 1]:=by
  show [V3.int (a.ms 0),V3.int (a.ms 1)]=_;rw[B.1,B.2]
 have e1:=MG (h0:=H1) (cs:=qz) (js:=js2) (st:=a) (g:=f++t);have e2:=Ro (h0:=H1) (cs:=qz) (g:=f++t) (MJ Rw i);have W:Fl.S js2.length a.ms=1:=by
  show 0+a.ms 0+a.ms 1=1;rw[B.1,B.2];rfl
 rw[V]at e1;rw[W]at e2;have w:=zD (h0:=H1) (cs:=qz) (js:=js2) (st:=a) (g:=f++t);rw[<-U,hN]at e1 e2 w;have H:=qi (n:=N) (cs:=qz) (js:=js2)
 refine zF (yE w (jg (by decide+kernel)) (jg (by decide+kernel)) H.2.1 e1 e2 λ s=>J1 ER ER λ x O=>by
  simp only[Af,Bt,Bn]at O
  rcases O with rfl|rfl
  all_goals (rw[GJ];simp)) ?_
 rw[DT];have X:=MG (h0:=[.lst []]) (cs:=cs) (js:=js) (st:=st) (g:=G++t);have Y:=Ro (h0:=[.lst []]) (cs:=cs) (g:=G++t) (MJ d z);have es:∀s,zW s (hp [.lst []] cs js st (G++t)) [.x (.lst (zw js.length st.ms))]=some (.v (.int (Fl.S js.length st.ms))):=λ s=>by
  have:=Md (s:=s) (h:=hp [.lst []] cs js st (G++t)) (MJ d z);rw[BL,Bg]at this;exact this
 exact⟨_,yF (F (G++t)) (jg (by decide+kernel)) (jg (by decide+kernel)) X Y es⟩
end My
namespace My
open PySem PySem.Spec PyProof.Rows L2 L3
def law_true:∀ns:List Int,ns.length<=63->∃h',f_law [.scr ns] []=.ok (.v (.bl true)) h':=law_yes
def txt{K:FG}{mg:Str->Option Value}{h:Heap}(X:K.In h)(G:h.Ns mainGlobals mg)(S:L4.seenK ask K=L4.good PySem.Challenge.pw_dueyard_k22_shares ask):∃_:Txt K mg,True:=by
 obtain⟨f0,d0,a0,F0⟩:=L4.def_at S 0 rfl;obtain⟨f1,d1,a1,F1⟩:=L4.def_at S 1 rfl;obtain⟨f2,d2,a2,F2⟩:=L4.def_at S 2 rfl;obtain⟨f3,d3,a3,F3⟩:=L4.def_at S 3 rfl;obtain⟨f4,d4,a4,F4⟩:=L4.def_at S 4 rfl;obtain⟨f5,d5,a5,F5⟩:=L4.def_at S 5 rfl;obtain⟨f6,d6,a6,F6⟩:=L4.def_at S 6 rfl;obtain⟨f7,d7,a7,F7⟩:=L4.def_at S 7 rfl;obtain⟨f8,d8,a8,F8⟩:=L4.def_at S 8 rfl;obtain⟨f9,d9,a9,F9⟩:=L4.def_at S 9 rfl;obtain⟨I,J,L,m⟩:=L4.def_at S 10 rfl;obtain⟨M,N,O,n⟩:=L4.def_at S 11 rfl;obtain⟨P,Q,R,o⟩:=L4.def_at S 12 rfl;obtain⟨T,U,V,p⟩:=L4.def_at S 13 rfl;obtain⟨W,Y,Z,q⟩:=L4.def_at S 14 rfl;obtain⟨f15,d15,a15,r⟩:=L4.def_at S 15 rfl;obtain⟨f16,d16,a16,s⟩:=L4.def_at S 16 rfl;obtain⟨f17,d17,a17,t⟩:=L4.def_at S 17 rfl;obtain⟨f18,d18,a18,u⟩:=L4.def_at S 18 rfl;obtain⟨f19,d19,a19,v⟩:=L4.def_at S 19 rfl;obtain⟨f20,d20,a20,w⟩:=L4.def_at S 20 rfl;obtain⟨f21,d21,a21,x⟩:=L4.def_at S 21 rfl;obtain⟨f22,d22,a22,y⟩:=L4.def_at S 22 rfl;obtain⟨f23,d23,a23,z⟩:=L4.def_at S 23 rfl;obtain⟨f24,d24,a24,A⟩:=L4.def_at S 24 rfl;obtain⟨f25,d25,a25,B⟩:=L4.def_at S 25 rfl;obtain⟨f26,d26,a26,C⟩:=L4.def_at S 26 rfl;obtain⟨f27,d27,a27,D⟩:=L4.def_at S 27 rfl;obtain⟨f28,d28,a28,E⟩:=L4.def_at S 28 rfl;obtain⟨C0,c⟩:=L4.cls_at S 0 rfl;obtain⟨g0,e0,A0,M0,I0⟩:=c.meth 0 _ rfl;obtain⟨g1,e1,A1,M1,I1⟩:=c.meth 1 _ rfl;obtain⟨C1,a⟩:=L4.cls_at S 1 rfl;obtain⟨g2,e2,A2,M2,I2⟩:=a.meth 0 _ rfl;obtain⟨g3,e3,A3,M3,I3⟩:=a.meth 1 _ rfl;obtain⟨g4,e4,A4,M4,I4⟩:=a.meth 2 _ rfl;obtain⟨g5,e5,A5,M5,I5⟩:=a.meth 3 _ rfl;obtain⟨g6,e6,A6,M6,I6⟩:=a.meth 4 _ rfl;obtain⟨g7,e7,A7,M7,I7⟩:=a.meth 5 _ rfl;obtain⟨g8,e8,A8,M8,I8⟩:=a.meth 6 _ rfl;obtain⟨g9,e9,A9,M9,I9⟩:=a.meth 7 _ rfl;obtain⟨g10,e10,A10,d,I10⟩:=a.meth 8 _ rfl;obtain⟨g11,e11,A11,e,I11⟩:=a.meth 9 _ rfl;obtain⟨g12,e12,A12,f,I12⟩:=a.meth 10 _ rfl;obtain⟨g13,e13,A13,i,I13⟩:=a.meth 11 _ rfl;obtain⟨g14,e14,A14,j,I14⟩:=a.meth 12 _ rfl;obtain⟨C2,b⟩:=L4.cls_at S 2 rfl;obtain⟨g15,e15,A15,k,I15⟩:=b.meth 0 _ rfl;obtain⟨g16,e16,A16,l,I16⟩:=b.meth 1 _ rfl;obtain⟨g17,e17,A17,F,I17⟩:=b.meth 2 _ rfl;obtain⟨t0,v0⟩:=L4.int_at S 0 rfl;obtain⟨t1,v1⟩:=L4.str_at S 1 rfl;obtain⟨t2,v2⟩:=L4.str_at S 2 rfl;obtain⟨t3,v3⟩:=L4.int_at S 3 rfl;obtain⟨t4,v4⟩:=L4.int_at S 4 rfl;obtain⟨t5,v5⟩:=L4.int_at S 5 rfl;obtain⟨t6,v6⟩:=L4.int_at S 6 rfl;obtain⟨t7,v7⟩:=L4.int_at S 7 rfl;obtain⟨t8,v8⟩:=L4.int_at S 8 rfl;obtain⟨t9,v9⟩:=L4.int_at S 9 rfl;obtain⟨t10,v10⟩:=L4.int_at S 10 rfl;obtain⟨E0,h0,x0⟩:=L4.exc_at S 0 rfl;obtain⟨E1,h1,x1⟩:=L4.exc_at S 1 rfl;obtain⟨E2,h2,x2⟩:=L4.exc_at S 2 rfl;obtain⟨EC0,EB0,ef0,ed0,hC0,hB0,xI0,cB0,H⟩:=L4.xi_at S 0 rfl;cases (h2.symm.trans hC0);cases (h0.symm.trans hB0)
 exact⟨⟨f0,d0,⟨F0,L4.b2 F0 λ _ _ _ _ _ _ _ _=>rfl,An X G a0⟩,f1,d1,⟨F1,L4.b1 F1 λ _ _ _ _ _ _ _=>rfl,An X G a1⟩,f2,d2,⟨F2,L4.b2 F2 λ _ _ _ _ _ _ _ _=>rfl,An X G a2⟩,f3,d3,⟨F3,L4.b2 F3 λ _ _ _ _ _ _ _ _=>rfl,An X G a3⟩,f4,d4,⟨F4,L4.b2 F4 λ _ _ _ _ _ _ _ _=>rfl,An X G a4⟩,f5,d5,⟨F5,L4.b1 F5 λ _ _ _ _ _ _ _=>rfl,An X G a5⟩,f6,d6,⟨F6,L4.b1 F6 λ _ _ _ _ _ _ _=>rfl,An X G a6⟩,f7,d7,⟨F7,L4.b3 F7 λ _ _ _ _ _ _ _ _ _=>rfl,An X G a7⟩,f8,d8,⟨F8,L4.b4 F8 λ _ _ _ _ _ _ _ _ _ _=>rfl,An X G a8⟩,f9,d9,⟨F9,L4.b1 F9 λ _ _ _ _ _ _ _=>rfl,An X G a9⟩,I,J,⟨m,L4.b1 m λ _ _ _ _ _ _ _=>rfl,An X G L⟩,M,N,⟨n,L4.b2 n λ _ _ _ _ _ _ _ _=>rfl,An X G O⟩,P,Q,⟨o,L4.b2 o λ _ _ _ _ _ _ _ _=>rfl,An X G R⟩,T,U,⟨p,L4.b2 p λ _ _ _ _ _ _ _ _=>rfl,An X G V⟩,W,Y,⟨q,L4.b2 q λ _ _ _ _ _ _ _ _=>rfl,An X G Z⟩,f15,d15,⟨r,L4.b2 r λ _ _ _ _ _ _ _ _=>rfl,An X G a15⟩,f16,d16,⟨s,L4.b1 s λ _ _ _ _ _ _ _=>rfl,An X G a16⟩,f17,d17,⟨t,L4.b2 t λ _ _ _ _ _ _ _ _=>rfl,An X G a17⟩,f18,d18,⟨u,L4.b1 u λ _ _ _ _ _ _ _=>rfl,An X G a18⟩,f19,d19,⟨v,L4.b1 v λ _ _ _ _ _ _ _=>rfl,An X G a19⟩,f20,d20,⟨w,L4.b1 w λ _ _ _ _ _ _ _=>rfl,An X G a20⟩,f21,d21,⟨x,L4.b1 x λ _ _ _ _ _ _ _=>rfl,An X G a21⟩,f22,d22,⟨y,L4.b1 y λ _ _ _ _ _ _ _=>rfl,An X G a22⟩,f23,d23,⟨z,L4.b3 z λ _ _ _ _ _ _ _ _ _=>rfl,An X G a23⟩,f24,d24,⟨A,L4.b2 A λ _ _ _ _ _ _ _ _=>rfl,An X G a24⟩,f25,d25,⟨B,L4.b4 B λ _ _ _ _ _ _ _ _ _ _=>rfl,An X G a25⟩,f26,d26,⟨C,L4.b4 C λ _ _ _ _ _ _ _ _ _ _=>rfl,An X G a26⟩,f27,d27,⟨D,L4.b2 D λ _ _ _ _ _ _ _ _=>rfl,An X G a27⟩,f28,d28,⟨E,L4.b1 E λ _ _ _ _ _ _ _=>rfl,An X G a28⟩,C0,c.cls,An X G c.g,g0,e0,⟨M0,L4.b2 M0 λ _ _ _ _ _ _ _ _=>rfl⟩,g1,e1,⟨M1,L4.b2 M1 λ _ _ _ _ _ _ _ _=>rfl⟩,⟨A1,I1,M1.kp⟩,⟨c.makes,A0,I0,c.kp⟩,c.fld 0 _ rfl,c.fld 1 _ rfl,C1,a.cls,An X G a.g,g2,e2,⟨M2,L4.b2 M2 λ _ _ _ _ _ _ _ _=>rfl⟩,⟨A2,I2,M2.kp⟩,g3,e3,⟨M3,L4.b1 M3 λ _ _ _ _ _ _ _=>rfl⟩,⟨A3,I3,M3.kp⟩,g4,e4,⟨M4,L4.b2 M4 λ _ _ _ _ _ _ _ _=>rfl⟩,⟨A4,I4,M4.kp⟩,g5,e5,⟨M5,L4.b2 M5 λ _ _ _ _ _ _ _ _=>rfl⟩,⟨A5,I5,M5.kp⟩,g6,e6,⟨M6,L4.b1 M6 λ _ _ _ _ _ _ _=>rfl⟩,⟨A6,I6,M6.kp⟩,g7,e7,⟨M7,L4.b1 M7 λ _ _ _ _ _ _ _=>rfl⟩,⟨A7,I7,M7.kp⟩,g8,e8,⟨M8,L4.b1 M8 λ _ _ _ _ _ _ _=>rfl⟩,⟨A8,I8,M8.kp⟩,g9,e9,⟨M9,L4.b3 M9 λ _ _ _ _ _ _ _ _ _=>rfl⟩,g10,e10,⟨d,L4.b1 d λ _ _ _ _ _ _ _=>rfl⟩,⟨A10,I10,d.kp⟩,g11,e11,⟨e,L4.b2 e λ _ _ _ _ _ _ _ _=>rfl⟩,⟨A11,I11,e.kp⟩,g12,e12,⟨f,L4.b3 f λ _ _ _ _ _ _ _ _ _=>rfl⟩,⟨A12,I12,f.kp⟩,g13,e13,⟨i,L4.b2 i λ _ _ _ _ _ _ _ _=>rfl⟩,⟨A13,I13,i.kp⟩,g14,e14,⟨j,L4.b1 j λ _ _ _ _ _ _ _=>rfl⟩,⟨A14,I14,j.kp⟩,⟨a.makes,A9,I9,a.kp⟩,a.fld 0 _ rfl,a.fld 1 _ rfl,a.fld 2 _ rfl,a.fld 3 _ rfl,a.fld 4 _ rfl,a.fld 5 _ rfl,C2,b.cls,An X G b.g,g15,e15,⟨k,L4.b3 k λ _ _ _ _ _ _ _ _ _=>rfl⟩,⟨A15,I15,k.kp⟩,g16,e16,⟨l,L4.b2 l λ _ _ _ _ _ _ _ _=>rfl⟩,⟨A16,I16,l.kp⟩,g17,e17,⟨F,L4.b3 F λ _ _ _ _ _ _ _ _ _=>rfl⟩,⟨b.makes,A17,I17,b.kp⟩,b.fld 0 _ rfl,b.fld 1 _ rfl,E0,An X G h0,E1,An X G h1,E2,An X G h2,⟨(x1 rfl).1,An X G h1⟩,(x1 rfl).2,ef0,ed0,xI0,cB0,H,L4.b2 H λ _ _ _ _ _ _ _ _=>rfl,(L4.tab_at S 0 rfl h1 h1).1,(L4.tab_at S 0 rfl h1 h1).2,(L4.tab_at S 1 rfl h1 h2).1,(L4.tab_at S 1 rfl h1 h2).2,(L4.tab_at S 2 rfl h2 h1).1,(L4.tab_at S 2 rfl h2 h1).2,(L4.tab_at S 3 rfl h2 h2).1,(L4.tab_at S 3 rfl h2 h2).2,(L4.tab_at S 4 rfl h2 h0).1,(L4.tab_at S 4 rfl h2 h0).2,B3 X G (L4.bare_at S 0 rfl),B3 X G (L4.bare_at S 1 rfl),B3 X G (L4.bare_at S 2 rfl),B3 X G (L4.bare_at S 3 rfl),B3 X G (L4.bare_at S 4 rfl),B3 X G (L4.bare_at S 5 rfl),B3 X G (L4.bare_at S 6 rfl),B3 X G (L4.bare_at S 7 rfl),B3 X G (L4.bare_at S 8 rfl),B3 X G (L4.bare_at S 9 rfl),B3 X G (L4.bare_at S 10 rfl),B3 X G (L4.bare_at S 11 rfl),B3 X G (L4.bare_at S 12 rfl),B3 X G (L4.bare_at S 13 rfl),B3 X G (L4.bare_at S 14 rfl),B3 X G (L4.bare_at S 15 rfl),B3 X G (L4.bare_at S 16 rfl),t0,An X G v0,t1,An X G v1,t2,An X G v2,t3,An X G v3,t4,An X G v4,t5,An X G v5,t6,An X G v6,t7,An X G v7,t8,An X G v8,t9,An X G v9,t10,An X G v10⟩,trivial⟩
def d_law:PySem.DefRec:=⟨"law",FI (zY 56),BR (zY 56),zC (zY 56),⟨368,0,384,97⟩⟩
end My
open PySem PySem.W PyProof.Rows
set_option maxRecDepth 100000 in
set_option maxHeartbeats 0 in
theorem PySem.Challenge.cw_dueyard_k22_shares_holds : PySem.Challenge.rw_dueyard_k22_shares.Holds := by
 w_on;o_law
 refine PySem.W.holds_open (q:=L4.lawView My.ask PySem.Challenge.pw_dueyard_k22_shares) (loose:=L4.looseOf PySem.Challenge.pw_dueyard_k22_shares) (Xt:=λ _=>true) (XP:=λ _ _=>True) (YP:=λ _ h=> ∃K:Frag,K.In h/\L4.seenK My.ask K=L4.good PySem.Challenge.pw_dueyard_k22_shares My.ask) (d:=My.d_law) (kwd:=[]) (N:=20000) (L4.left_one (good:=L4.good PySem.Challenge.pw_dueyard_k22_shares My.ask) (by kernel_rfl) (by decide) (λ _=>rfl) My.one) (λ w s e=>L4.seen_ok w s e) (λ w h h'=>L4.seen_keeps w h h') (λ _ _=>trivial) (λ _ _ _ _ _=>trivial) (by kernel_rfl) (by kernel_rfl) rfl (λ _ _=>recFacts_nil rfl) rfl (by assumption) (by decide+kernel) ⟨rfl,rfl,rfl,rfl,rfl,by decide+kernel⟩ ?hw ?hc
 case hw=>w_witness2
 case hc=>
  refine L4.walk_one (l:=PySem.Challenge.rw_dueyard_k22_shares) (n:=63) (k:=9) (x:="_law_script") (CX:=λ w=>L2.XT PySem.Challenge.rw_dueyard_k22_shares.prog w) (sp:=L3.spL) rfl (by decide) rfl ⟨rfl,by decide,by decide⟩ ?F (λ _ _ a ns c f i=>⟨a,ns,rfl,c,i,f,λ _=>rfl⟩) λ _ _ _ _ _ z=>L3.noX z
  intro w mg m h K j G S b;obtain⟨T,_⟩:=My.txt j G S;have e:=b.symm.trans T.d_law.g;cases e;exact⟨T.fd_law,L4.binds_law T.d_law.F λ _ _ _ _ _ _ _=>rfl,λ base _ _=>(My.G_law (P:=PySem.Challenge.rw_dueyard_k22_shares.prog) (w:=w) (base:=base) T).imp (sp':=L3.spL K) λ vs H Q E h=>L3.spL_of (κ:=My.kx T) My.law_true h⟩
