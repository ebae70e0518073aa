import PyProof.Rows.All
import Wide.All
import OpenK.AllK
import Wide.FinOn
import Lean
import PyProof.EqAt
import PyProof.EqKinds
import PyProof.TupleCall
import KE.KSortTup
import KE.KUnpack
import PyProof.DictRoadsH
import PyProof.EnumFor
import PyProof.EnumStmt
import PyProof.EnumMake
import PyProof.MaxThree
import KE.KDictList
import PyProof.ExcBaseAll.ValueError
import PyProof.Rows.Catch
import PyProof.NsDelKeeps
import PyProof.NeKinds
import KE.KxText
import PyProof.WalkInts
import PyProof.SeqI3
import KE.KRevIter
import PyProof.DictIter
import PyProof.DictWalks
import PyProof.DictItems
import PyProof.DictItemsLoops
import PyProof.Calls
import PySem.Challenge.RW_dueyard_k23_whole_greatest_flow
abbrev VP:=PySem.Value->PySem.Shared->Prop
abbrev AL:=List (PySem.Addr×PySem.Obj)
abbrev AO:=List (Option PySem.Addr)
abbrev FG:=PySem.W.Frag
set_option linter.all false
def Aa:=@PySem.wpAny_bind
def Ab:=@if_neg
def Ac:=@if_pos
def Ad:=@PySem.wpAny_pure
def Ae:=@List.length_map
def Af:=@List.mem_cons
def Ag:=@List.map_cons
def Ah:=@Nat.le_refl
def Ai:=@List.mem_map
def Aj:=@PySem.Heap.lt_size
def Ak:=@List.mem_cons_self
def Al:=@List.mem_of_getElem?
def Am:=@List.size_toArray
def An:=@List.mem_cons_of_mem
def Ao:=@List.getElem?_eq_some_iff
def Ap:=@List.mem_singleton
def Aq:=@PySem.W.mg_of
def Ar:=@Option.map_some
def As:=@List.length_append
def Au:=@List.map_append
def Av:=@List.map_map
def Aw:=@Nat.ne_of_lt
def Ax:=@List.mem_append
def Ay:=@PySem.Heap.get?_push_of_some
def Az:=@List.length_cons
def Ba:=@List.getElem?_map
def Bb:=@Bool.false_ne_true
def Bc:=@List.length_take
def Be:=@Bool.and_eq_true
def Bf:=@PySem.Heap.get?_push_size
def Bg:=@List.getElem?_append_left
def Bh:=@List.mem_range
def Bi:=@List.nodup_cons
def Bj:=@List.map_nil
def Bk:=@Nat.lt_of_lt_of_le
def Bl:=@List.getElem?_append_right
def Bm:=@Array.getElem?_toList
def Bn:=@or_false
def Bo:=@Array.getElem?_eq_getElem
def Bp:=@Int.toNat_natCast
def Bq:=@decide_eq_false
def Br:=@List.mem_filter
def Bs:=@List.not_mem_nil
def Bt:=@List.length_range
def Bu:=@List.mem_append_right
def Bv:=@PySem.W.mg_none_of
def Bw:=@Nat.le_trans
def Bx:=@PySem.wpAny_holding
def By:=@if_true
def Bz:=@decide_eq_true_eq
def B0:=@if_false
def B1:=@List.getD_eq_getElem?_getD
def B2:=@Array.length_toList
def B3:=@Nat.zero_le
def B4:=@List.append_nil
def B5:=@PySem.wpAny_call_entry
def B6:=@PySem.wpAny_newObj_type
def B7:=@List.length_set
def B8:=@Option.some.injEq
def B9:=@List.getElem?_of_mem
def Ca:=@PySem.boot_len
def Cb:=@Nat.lt_irrefl
def Cc:=@Ne.symm
def Cd:=@PySem.wpAny_mono
def Ce:=@PySem.wpAny_truthy_bool
def Cf:=@PySem.Heap.size_push
def Cg:=@List.length_singleton
def Ci:=@decide_eq_true
def Cj:=@List.lookup_cons
def Ck:=@List.drop_length
def Cm:=@PySem.W.kia_one
def Cn:=@List.getElem?_take_of_lt
def Co:=@List.append_assoc
def Cp:=@List.take_length
def Cq:=@List.sum_cons
def Cr:=@List.mem_of_mem_take
def Cs:=@Option.map_eq_some_iff
def Ct:=@List.getElem?_set
def Cu:=@List.pairwise_cons
def Cv:=@List.length_filter_le
def Cw:=@Nat.ne_of_gt
def Cy:=@beq_iff_eq
def Cz:=@PySem.mem_of_lookup
def C4:=@List.getElem_mem
def C5:=@List.nodup_append
def C6:=@Nat.lt_or_ge
def C7:=@PySem.wpAny_setState_of
def C8:=@PyProof.Rows.boot_isinstance
def C9:=@PyProof.Rows.boot_max
def Da:=@List.mem_append_left
def Dd:=@PySem.sizeLine_eq
def De:=@Nat.lt_succ_self
def Df:=@Bool.false_eq_true
def Dg:=@List.any_eq_true
def Dh:=@List.map_congr_left
def Di:=@PySem.Heap.SameBut.update
def Dj:=@List.find?_cons
def Dk:=@Int.zero_add
def Dl:=@Int.le_refl
def Dm:=@PySem.F.called_set
def Dn:=@List.ext_getElem
def Do:=@PySem.F.slot_list_append
def Dp:=@PySem.F.type_list_append
def Dq:=@List.pairwise_map
def Dr:=@PySem.wpAny_passesOwn
def Ds:=@List.length_replicate
def Dt:=@PySem.wpAny_callSpecial?_slot
def Du:=@PySem.Heap.get?_update_self
def Dv:=@List.replicate_succ
def Dw:=@List.flatten_cons
def Dx:=@List.nil_append
def Dy:=@Prod.mk.injEq
def Dz:=@List.getElem?_cons_succ
def D0:=@PySem.wpAny_rule
def D1:=@List.nodup_nil
def D2:=@Int.mul_zero
def D4:=@List.filter_cons_of_neg
def D5:=@beq_eq_false_iff_ne
def D6:=@Bool.false_and
def D7:=@PySem.codeAny_mono
def D8:=@PySem.wpAny_Call_Name_kw
def D9:=@Nat.le_succ
def Ea:=@Bool.or_false
def Eb:=@PySem.call_meets
def Ec:=@List.eq_nil_of_length_eq_zero
def Ed:=@List.getElem?_cons_zero
def Ee:=@Bool.true_or
def Ef:=@List.length_nil
def Eg:=@PySem.wpAny_fieldsOf
def Eh:=@List.getElem?_eq_none
def Ei:=@PySem.codeAny_builtin
def Ej:=@PySem.wpAny_setField_rec
def Ek:=@Bool.not_true
def El:=@Bool.not_false
def Em:=@Bool.true_and
def En:=@List.set_append_right
def Eo:=@Int.max_eq_right
def Ep:=@List.filter_cons_of_pos
def Er:=@List.filter_sublist
def Es:=@Nat.le_of_lt
def Et:=@PySem.wpAny_pyIter_list
def Eu:=@PyProof.Rows.callWith_type1
def Ew:=@List.mem_filterMap
def Ex:=@List.length_drop
def Ey:=@Bool.eq_iff_iff
def Ez:=@Nat.lt_succ_of_lt
def E1:=@List.drop_eq_getElem_cons
def E2:=@List.all_cons
def E4:=@PySem.F.slot_dict_keyiterator_next
def E5:=@PySem.Around.under_plainId
def E6:=@PySem.plainId_quiet
def E7:=@PyProof.Rows.boot_min
def E8:=@PyProof.Rows.boot_list
def E9:=@Int.mul_nonneg
def Fb:=@Int.max_eq_left
def Fc:=@Int.max_comm
def Fd:=@List.filterMap_cons
def Fe:=@PySem.wpAny_execs_nil
def Ff:=@PySem.Heap.get?_update_other
def Fg:=@List.foldl_cons
def Fh:=@Bool.and_false
def Fi:=@beq_self_eq_true
def Fj:=@List.all_eq_true
def Fo:=@List.take_add_one
def Fp:=@PySem.wpAny_dictEntries
def Fq:=@PySem.wpAny_ite_split
def Fs:=@Option.bind_some
def Ft:=@PySem.PassesOwn.leaving
def Fu:=@PySem.wpAny_pyIter_slot
def Fv:=@PySem.wpAny_typeNameOfWhole_keyiter
def Fw:=@PySem.wpAny_typeNameOf_keyiter
def Fx:=@Array.getElem?_eq_none
def Fy:=@List.take_of_length_le
def Fz:=@PySem.wpAny_askSetting
def Ga:=@PyProof.Rows.boot_sum
def Gb:=@List.set_cons_succ
def Gc:=@List.drop_zero
def Gd:=@Int.emod_nonneg
def Ge:=@Int.emod_lt_of_pos
def Gf:=@List.range_succ
def Gg:=@List.isEmpty_nil
def Gh:=@List.take_append_drop
def Gi:=@List.set_append_left
def Gj:=@List.find?_cons_of_pos
def Gk:=@List.find?_cons_of_neg
def Gm:=@PySem.W.hideAll_none
def Gn:=@List.getElem?_replicate
def Gp:=@PyProof.Rows.slot_tuple_getitem
def Gq:=@Array.getElem?_eq_none_iff
def Gr:=@List.mem_iff_getElem?
def Gs:=@Classical.byContradiction
def Gu:=@PySem.F.plainAttrs_list
def Gv:=@PySem.wpAny_isOneOf_keyiter
def Gw:=@List.pairwise_iff_getElem
def Gx:=@List.pairwise_lt_range
def Gy:=@PyProof.Rows.F.plain_set_update_loop
def Gz:=@PySem.builtinLookup_eq_fast
def G0:=@PySem.F.slot_list_extend
def G1:=@PySem.F.type_list_extend
def G2:=@Int.mul_le_mul_of_nonneg_left
def G4:=@List.concat_eq_append
def G5:=@PyProof.Rows.F.entry_set_update_loop
universe u
noncomputable section
def zK {α:Type u} {l:List α} {i:Nat} (h:i<l.length):l[i]?=some l[i]:=List.getElem?_eq_getElem h
def zd {a b:Prop} (h:a) (k:b):a/\b:=⟨h,k⟩
set_option Elab.async false
set_option compiler.extract_closed false
set_option bootstrap.genMatcherCode false
set_option genSizeOfSpec false
set_option genSizeOf false
local macro_rules | `(tactic|lia)=>`(tactic|first|assumption|lia (splits:=9)|omega)
set_option linter.all false
set_option maxRecDepth 100000
namespace L2
open PySem PySem.Spec PyProof.Rows
abbrev z8:=Sum Int Str
noncomputable def BO:z8->Value->Bool
 |.inl k,v=>Value.isInt k v
 |.inr x,v=>Value.isStrOf x v
def keyH (w:World):z8->Int
 |.inl k=>hashInt k
 |.inr x=>hashStr w x
def AB:∀{k:z8} {v:Value},BO k v=true->(∃i t,k=Sum.inl i/\v=Value.int i t)\/(∃x t,k=Sum.inr x/\v=Value.str x t)
 |.inl i,v,h=>by
  obtain⟨t,e⟩:=Value.isInt_shape (k:=i) (v:=v) h;exact .inl ⟨i,t,rfl,e⟩
 |.inr x,v,h=>by
  obtain⟨t,e⟩:=Value.isStrOf_shape (x:=x) (v:=v) h;exact .inr ⟨x,t,rfl,e⟩
def LH (i:Int) (t:Tok):BO (.inl i) (.int i t)=true:=by simp[BO,Value.isInt]
def LI (x:Str) (t:Tok):BO (.inr x) (.str x t)=true:=by simp[BO,Value.isStrOf]
def Qe (a b:Int):decide ((Sum.inl a:z8)=Sum.inl b)=(a==b):=by
 by_cases e:a=b
 .subst e;simp
 .have h: ¬(Sum.inl a:z8)=Sum.inl b:=fun q=>e (Sum.inl.inj q)
  rw[Bq h];exact (D5.mpr e).symm
def Qf (a b:Str):decide ((Sum.inr a:z8)=Sum.inr b)=decide (a=b):=by
 by_cases e:a=b
 .subst e;simp
 .have h: ¬(Sum.inr a:z8)=Sum.inr b:=fun q=>e (Sum.inr.inj q)
  rw[Bq h,Bq e]
def Qg (a:Int) (b:Str):decide ((Sum.inl a:z8)=Sum.inr b)=false:=Bq (fun q=>nomatch q)
def Qh (a:Str) (b:Int):decide ((Sum.inr a:z8)=Sum.inl b)=false:=Bq (fun q=>nomatch q)
def y0 (prog:Program) (w:World):PySem.KeyKind prog w z8 where
 is:=BO
 hash:=keyH w
 inj:=fun v a b ha hb=>by
  rcases AB ha with ⟨i,t,rfl,rfl⟩|⟨x,t,rfl,rfl⟩
  .rcases AB hb with ⟨j,u,rfl,e⟩|⟨y,u,rfl,e⟩
   .injection e with e1 _;rw[e1]
   .exact nomatch e
  .rcases AB hb with ⟨j,u,rfl,e⟩|⟨y,u,rfl,e⟩
   .exact nomatch e
   .injection e with e1 _;rw[e1]
 byValue:=fun k v h=>by
  rcases AB h with ⟨i,t,rfl,rfl⟩|⟨x,t,rfl,rfl⟩<;>rfl
 pyHash:=fun hv h=>by
  rcases AB hv with ⟨i,t,rfl,rfl⟩|⟨x,t,rfl,rfl⟩
  .exact wpAny_pyHash_int h
  .exact wpAny_pyHash_str h
 eqBool:=fun hu hv h=>by
  rcases AB hu with ⟨i,t,rfl,rfl⟩|⟨x,t,rfl,rfl⟩
  .rcases AB hv with ⟨j,u,rfl,rfl⟩|⟨y,u,rfl,rfl⟩
   .rw[Qe]at h;exact wpAny_eqBool_int h
   .rw[Qg]at h;exact SeqAt.EqAt.int_str i t y u _ _ _ _ h
  .rcases AB hv with ⟨j,u,rfl,rfl⟩|⟨y,u,rfl,rfl⟩
   .rw[Qh]at h;exact SeqAt.EqAt.str_int x t j u _ _ _ _ h
   .rw[Qf]at h;exact wpAny_eqBool_str h
 «strs» :=fun k x t v h=>by
  rcases AB h with ⟨i,u,rfl,e⟩|⟨y,u,rfl,e⟩
  .exact nomatch e
  .injection e with e1 _
   subst e1;cases v<;>rfl
def Qi (prog:Program) (w:World) (i:Int) (t:Tok):(y0 prog w).is (.inl i) (.int i t)=true:=LH i t
def Qj (prog:Program) (w:World) (x:Str) (t:Tok):(y0 prog w).is (.inr x) (.str x t)=true:=LI x t
inductive V where
 |non|bl (b:Bool)|int (i:Int)|str (x:Str)|byt (b:Array UInt8)|flt (b:UInt64)|ref (a:Addr)|ty (n:String)
 deriving DecidableEq
def RelV:V->Value->Prop
 |.non,u=>u=Value.none
 |.bl b,u=>u=Value.bool b
 |.int i,u=> ∃t,u=Value.int i t
 |.str x,u=> ∃t,u=Value.str x t
 |.byt b,u=> ∃t,u=Value.bytes b t
 |.flt b,u=> ∃t,u=Value.float b t
 |.ref a,u=>u=Value.ref a
 |.ty n,u=>u=Value.type n
abbrev Vals:List V->List Value->Prop:=Paired RelV
theorem Vals.length {xs:List V} {us:List Value} (r:Vals xs us):xs.length=us.length:=Paired.length r
theorem Vals.get:∀{xs:List V} {us:List Value} {i:Nat} {x:V},Vals xs us->xs[i]? =some x->∃u,us[i]? =some u/\RelV x u
 |_,_,_,_,.nil,e=>by simp at e
 |_,_,0,_,.cons r _,e=>by simp at e;subst e;exact⟨_,rfl,r⟩
 |_,_,i+1,x,.cons _ t,e=>by
  obtain⟨u,h1,h2⟩:=Vals.get (i:=i) (x:=x) t (by simpa using e)
  exact⟨u,by simpa using h1,h2⟩
theorem Vals.set {x:V} {u:Value} (r:RelV x u):∀{xs:List V} {us:List Value} (i:Nat),Vals xs us->Vals (xs.set i x) (us.set i u)
 |_,_,_,.nil=>.nil
 |_,_,0,.cons _ t=>.cons r t
 |_,_,i+1,.cons q t=>.cons q (Vals.set r i t)
theorem Vals.append:∀{xs ys:List V} {us ws:List Value},Vals xs us->Vals ys ws->Vals (xs++ys) (us++ws)
 |_,_,_,_,.nil,s=>s
 |_,_,_,_,.cons r t,s=>.cons r (Vals.append t s)
theorem Vals.take:∀{xs:List V} {us:List Value} (n:Nat),Vals xs us->Vals (xs.take n) (us.take n)
 |_,_,0,_=>.nil
 |_,_,_+1,.nil=>.nil
 |_,_,n+1,.cons r t=>.cons r (Vals.take n t)
theorem Vals.drop:∀{xs:List V} {us:List Value} (n:Nat),Vals xs us->Vals (xs.drop n) (us.drop n)
 |_,_,0,r=>r
 |_,_,_+1,.nil=>.nil
 |_,_,n+1,.cons _ t=>Vals.drop n t
def RelO:Option V->Option Value->Prop
 |some v,some u=>RelV v u
 |none,none=>True
 |_,_=>False
def KV {κ:Type}:List (κ×V)->List (κ×Value)->Prop:=Paired fun (p:κ×V) (q:κ×Value)=>p.1=q.1/\RelV p.2 q.2
def kV:z8->V
 |.inl i=>.int i
 |.inr x=>.str x
inductive MK where
 |one (k:z8)
 deriving DecidableEq
def MK.hash (P:Program) (w:World):MK->Int
 |.one k=>(y0 P w).hash k
def yB (P:Program) (w:World) (x:MK×Value×Value):DictEntry:=⟨x.1.hash P w,x.2.1,x.2.2⟩
inductive HO where
 |lst (xs:List V)
 |tup (xs:List V)
 |dK (kvs:List (z8×V))|dT (kvs:List (MK×V))
 |set (S:Int->Bool) (n:Nat)
 |ins (C dx:Addr) (fs:List (Str×V))
 |own (x:Addr)
 |xd (fs:List (Str×V))
 |met (f x:Addr)
 |rng (lo hi:Int)
 |frz (o:Obj) (u:HO)
 |tbl (ps:Array Value)
 |ext (φ:Heap->Prop)
abbrev Hp:=Addr->Option HO
def KyV (H:Hp):MK->Value->Prop
 |.one k,u=>RelV (kV k) u
def KyV.mono {H H':Hp} (ht:∀b xs,H b=some (.tup xs)->H' b=some (.tup xs)):∀{k:MK} {u:Value},KyV H k u->KyV H' k u
 |.one _,_,h=>h
noncomputable def zr (H:Hp) (a:Addr) (o:HO):Hp:=fun b=>if b=a then some o else H b
def yR {H:Hp} {a:Addr} {o:HO}:zr H a o a=some o:=by unfold zr;rw[Ac rfl]
def zX {H:Hp} {a b:Addr} {o:HO} (h:b≠a):zr H a o b=H b:=by unfold zr;rw[Ab h]
def Qk {H:Hp} {a b:Addr} {o u:HO} (h:H a=some o) (h':H b=some u) (d:o≠u):a≠b:=by
 intro e;subst e;rw[h]at h';exact d (Option.some.inj h')
def qA {H:Hp} {a b:Addr} {o:HO} (h:H a=some o) (h':H b=none):a≠b:=by
 intro e;subst e;rw[h]at h';cases h'
section
variable (P:Program) (w:World)
def ObjOk (H:Hp) (h:Heap) (a:Addr):HO->Prop
 |.lst xs=>xs.length<=sizeLine/\∃(its:List Value) (n:Nat),Vals xs its/\h.get? a=some {cls:= .type "list",data:= .seq its.toArray n}
 |.tup xs=>xs.length<=sizeLine/\∃its:List Value,Vals xs its/\IsTup h a its.toArray
 |.dK kvs=>kvs.length<=sizeLine/\(a==sysModules)=false/\∃vs,KV kvs vs/\h.DictOf (y0 P w) a vs
 |.dT kvs=>kvs.length<=sizeLine/\(a==sysModules)=false/\∃xs:List (MK×Value×Value),Paired (fun (p:MK×V) (q:MK×Value×Value)=>p.1=q.1/\KyV H p.1 q.2.1/\RelV p.2 q.2.2) kvs xs/\
  ∃o es ep,h.get? a=some o/\o.ExactDict/\o.data=.dict es ep/\es.toList=xs.map (yB P w)/\(xs.map (·.1)).Nodup/\ep=xs.length
 |.set S n=>h.SetOf (intKind P w) a S n
 |.ins C dx fs=>H dx=some (.own a)/\fs.length<=1000/\dx≠a/\h.get? a=some (PySem.W.instObj C dx)/\
  ∃mA,h.Ns1 dx mA/\(∀f,RelO (fs.lookup f) (mA f))/\PySem.Within mA (fs.map (·.1))
 |.own _=> ∃o,h.get? a=some o
 |.xd fs=> ∃mA,h.Ns1 a mA/\∀f,RelO (fs.lookup f) (mA f)
 |.rng lo hi=> ∃t u v,h.get? a=some {cls:= .type "range",data:= .fields #[.int lo t,.int hi u,.int 1 v]}
 |.frz o u=>h.get? a=some o/\ObjOk H h a u
 |.tbl ps=>h.get? a=some {cls:= .none,data:= .fields ps}
 |.met f x=>h.get? a=some (PySem.W.methodObj (.ref f) (.ref x))
 |.ext φ=>φ h/\(∃o,h.get? a=some o)/\∀h1 h2:Heap,φ h1->(∀o,h1.get? a=some o->h2.get? a=some o)->φ h2
def HOk (H:Hp) (h:Heap):Prop:=∀a o,H a=some o->ObjOk P w H h a o
end
section
variable {P:Program} {w:World} {H H':Hp} {h h':Heap} {a:Addr} {o:HO}
theorem ObjOk.lt (x:ObjOk P w H h a o):a<h.objs.size:=by
 cases o with
 |lst xs=>obtain⟨_,_,_,_,e⟩:=x;exact Aj e
 |tup xs=>obtain⟨_,_,_,p⟩:=x;exact p.lt
 |dK kvs=>obtain⟨_,_,_,_,o,_,_,e,_⟩:=x;exact Aj e
 |dT kvs=>obtain⟨_,_,_,_,o,_,_,e,_⟩:=x;exact Aj e
 |set S n=>obtain⟨o,_,_,_,e,_⟩:=x;exact Aj e
 |ins C dx fs=>obtain⟨_,_,_,e,_⟩:=x;exact Aj e
 |own y=>obtain⟨_,e⟩:=x;exact Aj e
 |xd fs=>obtain⟨_,⟨_,_,_,e,_⟩,_⟩:=x;exact Aj e
 |rng lo hi=>obtain⟨_,_,_,e⟩:=x;exact Aj e
 |frz ob u=>obtain⟨e,_⟩:=x;exact Aj e
 |tbl ps=>exact Aj (show h.get? a=some _ from x)
 |met f y=>exact Aj (show h.get? a=some _ from x)
 |ext φ=>obtain⟨_,⟨_,e⟩,_⟩:=x;exact Aj e
theorem Paired.mapP {α β:Type} {F G:α->β->Prop}:∀{l₁:List α} {l₂:List β},Paired F l₁ l₂->(∀a b,F a b->G a b)->Paired G l₁ l₂
 |_,_,.nil,_=>.nil
 |_,_,.cons r t,f=>.cons (f _ _ r) (Paired.mapP t f)
def ObjOk.stay (x:ObjOk P w H h a o) (k:∀b u,(b=a\/H b=some (.own a))->h.get? b=some u->h'.get? b=some u)
  (ho:∀b,H b=some (.own a)->H' b=some (.own a)) (ht:∀b xs,H b=some (.tup xs)->H' b=some (.tup xs)):ObjOk P w H' h' a o:=by
 induction o with
 |lst xs=>obtain⟨z,its,n,r,e⟩:=x;exact⟨z,its,n,r,k _ _ (.inl rfl) e⟩
 |tup xs=>obtain⟨z,its,r,ob,e,c⟩:=x;exact⟨z,its,r,ob,k _ _ (.inl rfl) e,c⟩
 |dK kvs=>obtain⟨z,y,vs,r,ob,es,ep,e,c⟩:=x;exact⟨z,y,vs,r,ob,es,ep,k _ _ (.inl rfl) e,c⟩
 |dT kvs=>
  obtain⟨z,y,xs,r,ob,es,ep,e,c⟩:=x;exact⟨z,y,xs,Paired.mapP r fun p q z=>⟨z.1,z.2.1.mono ht,z.2.2⟩,ob,es,ep,k _ _ (.inl rfl) e,c⟩
 |set S n=>obtain⟨ob,es,ep,t,e,c⟩:=x;exact⟨ob,es,ep,t,k _ _ (.inl rfl) e,c⟩
 |ins C dx fs=>
  obtain⟨d,z,ne,e,mA,⟨od,es,ep,e2,c⟩,r⟩:=x;exact⟨ho _ d,z,ne,k _ _ (.inl rfl) e,mA,⟨od,es,ep,k _ _ (.inr d) e2,c⟩,r⟩
 |own y=>obtain⟨ob,e⟩:=x;exact⟨ob,k _ _ (.inl rfl) e⟩
 |xd fs=>obtain⟨mA,⟨od,es,ep,e,c⟩,r⟩:=x;exact⟨mA,⟨od,es,ep,k _ _ (.inl rfl) e,c⟩,r⟩
 |rng lo hi=>obtain⟨t,u,v,e⟩:=x;exact⟨t,u,v,k _ _ (.inl rfl) e⟩
 |frz ob u ih=>obtain⟨e,q⟩:=x;exact⟨k _ _ (.inl rfl) e,ih q⟩
 |tbl ps=>
  have e:h.get? a=some {cls:= .none,data:= .fields ps}:=x;show h'.get? a=some {cls:= .none,data:= .fields ps};exact k a _ (.inl rfl) e
 |met f y=>
  have e:h.get? a=some (PySem.W.methodObj (.ref f) (.ref y)):=x;show h'.get? a=some (PySem.W.methodObj (.ref f) (.ref y));exact k a _ (.inl rfl) e
 |ext φ=>obtain⟨p,⟨o,e⟩,st⟩:=x;exact⟨st _ _ p fun o q=>k _ _ (.inl rfl) q,⟨o,k _ _ (.inl rfl) e⟩,st⟩
theorem HOk.lt (x:HOk P w H h) (e:H a=some o):a<h.objs.size:=(x a o e).lt
def HOk.fresh (x:HOk P w H h) (e:h.objs.size<=a):H a=none:=by
 cases q:H a with
 |none=>rfl
 |some u=>exact absurd (Bk (x.lt q) e) (Cb _)
def HOk.kept (x:HOk P w H h) (k:∀b u,h.get? b=some u->h'.get? b=some u):HOk P w H h':=fun a o e=>
 (x a o e).stay (fun b u _ q=>k b u q) (fun _ q=>q) fun _ _ q=>q
def HOk.laid (x:HOk P w H h) (k:∀b u,h.get? b=some u->h'.get? b=some u) (hp:h.objs.size<=a) (new:ObjOk P w (zr H a o) h' a o):HOk P w (zr H a o) h':=fun b u e=>by
 have hn:=x.fresh hp
 by_cases hb:b=a
 .subst hb;rw[yR]at e;cases e;exact new
 .rw[zX hb]at e
  exact (x b u e).stay (fun c v _ q=>k c v q) (fun c q=>by rw[zX (qA q hn)];exact q) fun c xs q=>by rw[zX (qA q hn)];exact q
end
def Rd (H:Hp) (a:Addr) (u:HO):Prop:=H a=some u\/∃o,H a=some (.frz o u)
def Rd.ok {P:Program} {w:World} {H:Hp} {h:Heap} {a:Addr} {u:HO} (r:Rd H a u) (x:HOk P w H h):ObjOk P w H h a u:=by
 rcases r with r|⟨o,r⟩
 .exact x a u r
 .obtain⟨_,q⟩:=x a _ r
  exact q
def Mut:Option HO->Prop
 |some (.lst _)=>True
 |some (.dK _)=>True
 |some (.dT _)=>True
 |some (.set _ _)=>True
 |some (.ins _ _ _)=>True
 |some (.ext _)=>True
 |_=>False
section
variable {P:Program} {w:World} {H:Hp} {h h':Heap} {x e:Addr} {o':HO}
def HOk.write (ok:HOk P w H h) (mu:Mut (H x)) (he:e=x\/H e=some (.own x)) (k:∀b u,b≠e->h.get? b=some u->h'.get? b=some u) (heo:∃u,h'.get? e=some u)
  (new:ObjOk P w (zr H x o') h' x o'):HOk P w (zr H x o') h':=fun b u q=>by
 have nown:∀c y,H c=some (.own y)->c≠x:=fun c y r z=>by subst z;rw[r]at mu;exact mu
 have ntup:∀c xs,H c=some (.tup xs)->c≠x:=fun c xs r z=>by subst z;rw[r]at mu;exact mu
 by_cases hb:b=x
 .subst hb;rw[yR]at q;cases q;exact new
 .rw[zX hb]at q
  by_cases hbe:b=e
  .have q':H b=some (.own x):=by
    rcases he with z|z
    .exact absurd (hbe.trans z) hb
    .rw[hbe];exact z
   rw[q]at q';cases q';obtain⟨v,hv⟩:=heo;exact⟨v,by rw[hbe];exact hv⟩
  .refine (ok b u q).stay (fun c v hc r=>k c v ?_ r) (fun c r=>by rw[zX (nown c b r)];exact r) fun c xs r=>by rw[zX (ntup c xs r)];exact r
   rcases hc with rfl|hc
   .exact hbe
   .rintro rfl
    rcases he with z|z
    .exact nown c b hc z
    .rw[hc]at z;cases z;exact hb rfl
end
structure Un (fs ex:List Addr) (H H':Hp) (h h':Heap):Prop where
 keep:∀b o,h.get? b=some o->H b=none->b∉fs->b∉ex->h'.get? b=some o
 slot:∀b o,h.get? b=some o->H b=none->b∈fs->b∉ex->∃sl,h'.get? b=some {o with slots:=sl}
 free:∀b o,h.get? b=some o->H b=none->b∉ex->H' b=none
 there:∀b o,h.get? b=some o->b∉ex->∃o',h'.get? b=some o'
 tups:∀b xs,H b=some (.tup xs)->H' b=some (.tup xs)
 frzs:∀b o u,H b=some (.frz o u)->H' b=some (.frz o u)
 tbls:∀b ps,H b=some (.tbl ps)->∃more,H' b=some (.tbl (ps++more))
section
variable {fs fs' ex ex':List Addr} {H H1 H2:Hp} {h h1 h2 h':Heap} {a x e:Addr} {o:HO}
def Un.any (u:Un fs ex H H1 h h1) {b:Addr} {ob:Obj} (q:h.get? b=some ob) (n:H b=none) (hx:b∉ex):∃sl,h1.get? b=some {ob with slots:=sl}:=by
 by_cases hb:b∈fs
 .exact u.slot b ob q n hb hx
 .exact⟨ob.slots,u.keep b ob q n hb hx⟩
def Un.kept (k:∀b u,h.get? b=some u->h'.get? b=some u):Un fs ex H H h h':=
 ⟨fun b ob q _ _ _=>k b ob q,fun b ob q _ _ _=>⟨ob.slots,k b ob q⟩,fun _ _ _ n _=>n,fun b ob q _=>⟨ob,k b ob q⟩,fun _ _ q=>q,fun _ _ _ q=>q,fun _ ps q=>⟨#[],by rw[q];simp⟩⟩
def Un.refl:Un fs ex H H h h:=Un.kept fun _ _ q=>q
def Un.laid (k:∀b u,h.get? b=some u->h'.get? b=some u) (hp:h.objs.size<=a) (hn:H a=none):Un fs ex H (zr H a o) h h' where
 keep:=fun b u q _ _ _=>k b u q
 slot:=fun b u q _ _ _=>⟨u.slots,k b u q⟩
 free:=fun b u q n _=>by rw[zX (Aw (Bk (Aj q) hp))];exact n
 there:=fun b u q _=>⟨u,k b u q⟩
 tups:=fun b xs q=>by rw[zX (qA q hn)];exact q
 frzs:=fun b u xs q=>by rw[zX (qA q hn)];exact q
 tbls:=fun b ps q=>⟨#[],by rw[zX (qA q hn),q];simp⟩
def Un.write (mu:Mut (H x)) (he:e=x\/H e=some (.own x)) (k:∀b u,b≠e->h.get? b=some u->h'.get? b=some u) (heo:∃u,h'.get? e=some u):Un fs ex H (zr H x o) h h':=by
 have hx:∀b,H b=none->b≠x:=fun b n z=>by subst z;rw[n]at mu;exact mu
 have hb:∀b,H b=none->b≠e:=fun b n z=>by
  subst z
  rcases he with r|r
  .exact hx b n r
  .rw[n]at r;cases r
 have hm:∀b u,H b=some u->¬Mut (some u)->b≠x:=fun b u q nm z=>by subst z;rw[q]at mu;exact nm mu
 refine⟨fun b u q n _ _=>k b u (hb b n) q,fun b u q n _ _=>⟨u.slots,k b u (hb b n) q⟩,fun b u q n _=>by rw[zX (hx b n)];exact n,fun b u q _=>?_,
  fun b xs q=>by rw[zX (hm b _ q fun z=>z)];exact q,fun b u xs q=>by rw[zX (hm b _ q fun z=>z)];exact q,fun b ps q=>⟨#[],by rw[zX (hm b _ q fun z=>z),q];simp⟩⟩
 by_cases hbe:b=e
 .subst hbe;exact heo
 .exact⟨u,k b u hbe q⟩
end
noncomputable def trk (h:Heap) (H:Hp):List Addr:=(List.range h.objs.size).filter fun a=>(H a).isSome
def hidT (h:Heap) (H:Hp):Heap:=PySem.W.hideAll h (trk h H)
def Ql (h:Heap) (H:Hp):(hidT h H).objs.size=h.objs.size:=PySem.W.hideAll_size _ _
def Qm {h:Heap} {H:Hp} {b:Addr} {o:Obj} (e:h.get? b=some o) (n:H b=none):(hidT h H).get? b=some o:=
 PySem.W.hideAll_get _ e fun hm=>by
  have q:(H b).isSome=true:=(Br.mp hm).2;rw[n]at q;simp at q
def Qn {h:Heap} {H:Hp} {b:Addr} {o:Obj} (e:(hidT h H).get? b=some o):h.get? b=some o/\H b=none:=by
 have e':h.get? b=some o:=PySem.W.of_hideAll (trk h H) e
 refine⟨e',?_⟩
 cases q:H b with
 |none=>rfl
 |some x=>
  have hm:b∈trk h H:=Br.mpr ⟨Bh.mpr (Aj e'),by simp[q]⟩
  have z:(hidT h H).get? b=none:=Gm (trk h H) hm;rw[z]at e;cases e
structure Mod (K:FG) (mg:Str->Option Value) (base:Heap):Prop where
 kin:K.In base
 glob:base.Ns mainGlobals mg
 blt:∃mb,base.Ns builtinsNs mb/\∀x:Str,x≠"__name__" ->mb x=bootBuiltins x
 nolimit:base.NoLimit
structure Cx where
 prog:Program
 w:World
 K:FG
 mg:Str->Option Value
 base:Heap
 A:Around
 N:List Str
 s₀:Shared
 H₀:Hp
 env:Env
 outer:List Env
 stack:List Env
 ex:List Addr
 fn:Str->Bool
 calm:Bool
 pn:AL
 xe:VP
abbrev SE (X:Cx) (e:Expr) (es:List Expr):Prop:=starEach (e::es) X.env=(false,eval e X.env)::starEach es X.env
abbrev BA (X:Cx) (pos:Pos) (es:List Expr):Prop:=(backTo pos (starEach es X.env)).any (·.1)=false
def yP (l:List Env):List Addr:=l.filterMap (·.frame)
abbrev Cx.fs (X:Cx):List Addr:=yP X.outer
def Vis (sc:Scope) (x:Str):Prop:=sc.names.lookup x=some .local\/sc.names.lookup x=some .cell\/sc.names.lookup x=some .free
def jN (sc:Scope) (x:Str):Prop:=sc.names.lookup x=some .local\/sc.names.lookup x=some .cell
def Look (env:Env) (h:Heap) (m:Str->Option Value) (x:Str) (u:Value):Prop:=
 (env.kindOf x=some .local/\m x=some u)\/((env.kindOf x=some .cell\/env.kindOf x=some .free)/\∃c,env.cells.lookup x=some c/\h.IsCell c (some u))
structure Cx.Ok (X:Cx):Prop where
 mod:Mod X.K X.mg X.base
 kind:X.env.scope.kind=.function
 glob:X.env.globals=mainGlobals
 blt:X.env.builtins=builtinsNs
 above:X.s₀.heap.objs.size<=X.env.locals
 inj:∀x y c,X.env.cells.lookup x=some c->X.env.cells.lookup y=some c->x=y
 has:∀x,(X.env.kindOf x=some .cell\/X.env.kindOf x=some .free)->∃c,X.env.cells.lookup x=some c
 cab:∀x c,X.fn x=true->X.env.cells.lookup x=some c->X.s₀.heap.objs.size<=c
 hd:X.calm=true->X.A.handled=none
 frames:X.A.frames=some X.stack
 stk:X.stack=X.outer\/(X.stack=X.env::X.outer/\X.env.frame=some X.env.locals)
 exf:∀b∈X.ex,b≠X.env.locals/\∀x c,X.env.cells.lookup x=some c->c≠b
 bs:∀b o,X.base.get? b=some o->X.s₀.heap.get? b=some o/\X.H₀ b=none
 bsz:X.base.objs.size<=X.s₀.heap.objs.size
 noex:∀b o,X.base.get? b=some o->b∉X.ex
 exfs:∀b∈X.ex,b∉X.fs
 funs:X.s₀.heap.FunFrames X.base X.outer
 frf:∀b∈X.fs,X.H₀ b=none
structure Inv (X:Cx) (pins:AL) (σ:List (Option V)) (H:Hp) (s:Shared):Prop where
 ok:X.Ok
 os:s.os=X.s₀.os
 bare:AllBare s.gens
 base:Un X.fs X.ex X.H₀ H X.s₀.heap s.heap
 loc:∃m,s.heap.Ns X.env.locals m/\∀(i:Nat) (x:Str) (v:V),X.N[i]? =some x->σ[i]? =some (some v)->Vis X.env.scope x->∃u,RelV v u/\Look X.env s.heap m x u
 cell:∀x c,X.env.cells.lookup x=some c->∃v,s.heap.IsCell c v
 free:H X.env.locals=none
 freeC:∀x c,X.env.cells.lookup x=some c->H c=none
 pin:∀p∈X.pn++pins,s.heap.get? p.1=some p.2/\H p.1=none/\p.1≠X.env.locals/\p.1∉X.fs/\∀v,p.2.data≠ .cell v
 hok:HOk X.prog X.w H s.heap
 len:σ.length=X.N.length
section
variable {X:Cx} {pins:AL} {σ:List (Option V)} {H H':Hp} {s:Shared} {h':Heap}
def Cx.Ok.nofr (ok:X.Ok) {b:Addr} {o:Obj} (e:X.base.get? b=some o):b∉X.fs:=fun hb=>by
 have:=(ok.funs.mem hb).1;rw[e]at this;cases this
theorem Inv.bs (I:Inv X pins σ H s):∀b o,X.base.get? b=some o->s.heap.get? b=some o/\H b=none:=fun b o e=>
 ⟨I.base.keep b o (I.ok.bs b o e).1 (I.ok.bs b o e).2 (I.ok.nofr e) (I.ok.noex b o e),I.base.free b o (I.ok.bs b o e).1 (I.ok.bs b o e).2 (I.ok.noex b o e)⟩
def Inv.bk (I:Inv X pins σ H s):∀b o,X.base.get? b=some o->s.heap.get? b=some o:=fun b o e=>(I.bs b o e).1
theorem Inv.mod (I:Inv X pins σ H s):Mod X.K X.mg X.base:=I.ok.mod
def Inv.kIn (I:Inv X pins σ H s):X.K.In s.heap:=I.ok.mod.kin.keeps I.bk
theorem Inv.lt (I:Inv X pins σ H s):X.env.locals<s.heap.objs.size:=let ⟨_,hn,_⟩:=I.loc;hn.lt
def Inv.sz (I:Inv X pins σ H s):X.s₀.heap.objs.size<=s.heap.objs.size:=Bw I.ok.above (Es I.lt)
def Inv.nofs (I:Inv X pins σ H s) {a:Addr} (h:s.heap.objs.size<=a):a∉X.fs:=fun hb=>by
 obtain⟨_,o,ho,_⟩:=I.ok.funs.mem hb;exact absurd (Bk (Aj ho) (Bw I.sz h)) (Cb _)
def Inv.cne (I:Inv X pins σ H s):∀x c,X.env.cells.lookup x=some c->c≠X.env.locals:=fun x c e z=>by
 obtain⟨v,o,ho,hd⟩:=I.cell x c e;obtain⟨m,⟨o',es,ep,ho',hd',_⟩,_⟩:=I.loc;rw[z,ho']at ho;cases ho;rw[hd']at hd;cases hd
theorem Inv.funs (I:Inv X pins σ H s):s.heap.FunFrames X.base X.outer:=by
 have all:∀(l:List Env),(∀b∈yP l,b∈X.fs)->X.s₀.heap.FunFrames X.base l->s.heap.FunFrames X.base l:=by
  intro l
  induction l with
  |nil=>intro _ _;trivial
  |cons env r ih=>
   intro hs hl;obtain⟨hk,⟨L,o,hf,hn,ho,hd⟩,hr⟩:=hl;have hL:L∈X.fs:=hs L (by unfold yP;rw[Fd,hf];exact Ak)
   obtain⟨sl,e⟩:=I.base.slot L o ho (I.ok.frf L hL) hL fun z=>I.ok.exfs L z hL
   exact⟨hk,⟨L,_,hf,hn,e,hd⟩,ih (fun b hb=>hs b (by unfold yP;rw[Fd,hf];exact An _ hb)) hr⟩
 exact all X.outer (fun _ hb=>hb) I.ok.funs
theorem Inv.stack (I:Inv X pins σ H s):s.heap.FunFrames X.base X.stack:=by
 rcases I.ok.stk with e|⟨e,hf⟩
 .rw[e];exact I.funs
 .rw[e]
  obtain⟨m,hn,_⟩:=I.loc
  refine .cons (by rw[I.ok.kind];decide) hf hn ?_ I.funs
  exact Heap.get?_none_of_le (Bw I.ok.bsz I.ok.above)
def Inv.stkSub (I:Inv X pins σ H s):∀b∈yP X.stack,b∈X.env.locals::X.fs:=fun b hb=>by
 rcases I.ok.stk with e|⟨e,hf⟩
 .rw[e]at hb;exact An _ hb
 .rw[e]at hb
  unfold yP at hb;rw[Fd,hf]at hb;exact hb
def Inv.stkFree (I:Inv X pins σ H s):∀b∈yP X.stack,H b=none:=fun b hb=>by
 rcases Af.mp (I.stkSub b hb) with e|hb
 .rw[e];exact I.free
 .obtain⟨_,o,ho,_⟩:=I.ok.funs.mem hb
  exact I.base.free b o ho (I.ok.frf b hb) fun z=>I.ok.exfs b z hb
def Inv.step {g':Array GenState} {t':Nat} {d':Drawn} {ch:List Addr} (I:Inv X pins σ H s)
  (hch:∀b∈ch,(b∈X.ex\/X.s₀.heap.objs.size<=b)/\b≠X.env.locals/\(∀x c,X.env.cells.lookup x=some c->c≠b)/\∀p∈X.pn++pins,p.1≠b)
  (keep:∀b o,b≠X.env.locals->b∉X.fs->b∉ch->s.heap.get? b=some o->H b=none->h'.get? b=some o)
  (slot:∀b o,b≠X.env.locals->b∈X.fs->b∉ch->s.heap.get? b=some o->H b=none->∃sl,h'.get? b=some {o with slots:=sl}) (free:∀b o,b∉ch->s.heap.get? b=some o->H b=none->H' b=none)
  (there:∀b o,b∉ch->s.heap.get? b=some o->∃o',h'.get? b=some o')
  (tups:∀b xs,H b=some (.tup xs)->H' b=some (.tup xs)) (frzs:∀b o u,H b=some (.frz o u)->H' b=some (.frz o u)) (tbls:∀b ps,H b=some (.tbl ps)->∃more,H' b=some (.tbl (ps++more)))
  (ns:∀m,s.heap.Ns X.env.locals m->h'.Ns X.env.locals m) (hok:HOk X.prog X.w H' h') (hg:AllBare g'):
  Inv X pins σ H' {s with heap:=h',gens:=g',drawn:=d',toks:=t'}:=by
 have neL:∀b o,X.s₀.heap.get? b=some o->b≠X.env.locals:=fun b o e=>Aw (Bk (Aj e) I.ok.above)
 have neC:∀b o,X.s₀.heap.get? b=some o->b∉X.ex->b∉ch:=fun b o e hx hb=>by
  rcases (hch b hb).1 with z|z
  .exact hx z
  .exact absurd (Bk (Aj e) z) (Cb _)
 have cellK:∀x c,X.env.cells.lookup x=some c->∀v,s.heap.IsCell c v->h'.IsCell c v:=fun x c e v zz1 => by
  obtain ⟨o,ho,hd⟩ := zz1
  have nch:c∉ch:=fun z=>(hch c z).2.2.1 x c e rfl
  by_cases hc:c∈X.fs
  .obtain⟨sl,q⟩:=slot c o (I.cne x c e) hc nch ho (I.freeC x c e)
   exact⟨_,q,hd⟩
  .exact⟨o,keep c o (I.cne x c e) hc nch ho (I.freeC x c e),hd⟩
 refine⟨I.ok,I.os,hg,⟨fun b o e n hb hx=>?_,fun b o e n hb hx=>?_,fun b o e n hx=>?_,fun b o e hx=>?_,fun b xs e=>tups b xs (I.base.tups b xs e),fun b o xs e=>frzs b o xs (I.base.frzs b o xs e),fun b ps e=>?_⟩,?_,fun x c e=>?_,?_,fun x c e=>?_,fun p hp=>?_,hok,I.len⟩
 .exact keep b o (neL b o e) hb (neC b o e hx) (I.base.keep b o e n hb hx) (I.base.free b o e n hx)
 .obtain⟨sl,e1⟩:=I.base.slot b o e n hb hx
  obtain⟨sl',e2⟩:=slot b _ (neL b o e) hb (neC b o e hx) e1 (I.base.free b o e n hx);exact⟨sl',e2⟩
 .obtain⟨o',e1⟩:=I.base.there b o e hx
  exact free b o' (neC b o e hx) e1 (I.base.free b o e n hx)
 .obtain⟨o',e1⟩:=I.base.there b o e hx
  exact there b o' (neC b o e hx) e1
 .obtain⟨m1,e1⟩:=I.base.tbls b ps e
  obtain⟨m2,e2⟩:=tbls b _ e1;exact⟨m1++m2,by rw[e2,Array.append_assoc]⟩
 .obtain⟨m,hn,hl⟩:=I.loc
  refine⟨m,ns m hn,fun i x v e1 e2 e3=>?_⟩
  obtain⟨u,r,l⟩:=hl i x v e1 e2 e3
  refine⟨u,r,?_⟩
  rcases l with l|⟨k,c,e,z⟩
  .exact .inl l
  .exact .inr ⟨k,c,e,cellK x c e _ z⟩
 .obtain⟨v,z⟩:=I.cell x c e
  exact⟨v,cellK x c e v z⟩
 .obtain⟨m,⟨o,_,_,ho,_⟩,_⟩:=I.loc
  exact free _ o (fun z=>(hch _ z).2.1 rfl) ho I.free
 .obtain⟨v,o,ho,hd⟩:=I.cell x c e
  exact free c o (fun z=>(hch c z).2.2.1 x c e rfl) ho (I.freeC x c e)
 .obtain⟨e,n,ne,nf,d⟩:=I.pin p hp
  have nch:p.1∉ch:=fun z=>(hch p.1 z).2.2.2 p hp rfl
  exact⟨keep p.1 p.2 ne nf nch e n,free p.1 p.2 nch e n,ne,nf,d⟩
def Inv.un {t':Nat} (I:Inv X pins σ H s) (u:Un X.fs [] H H' s.heap h') (hok:HOk X.prog X.w H' h'):Inv X pins σ H' {s with heap:=h',toks:=t'}:=by
 obtain⟨m,⟨o,es,ep,ho,r⟩,_⟩:=id I.loc;obtain⟨sl,hL⟩:=u.any ho I.free (by simp)
 exact I.step (g':=s.gens) (d':=s.drawn) (ch:=[]) (fun _ z=>nomatch z) (fun b o _ hb _ e n=>u.keep b o e n hb (by simp)) (fun b o _ hb _ e n=>u.slot b o e n hb (by simp)) (fun b o _ e n=>u.free b o e n (by simp)) (fun b o _ e=>u.there b o e (by simp)) u.tups u.frzs u.tbls (fun m' hm=>by
  obtain⟨o',es',ep',ho',r'⟩:=hm;rw[ho]at ho';cases ho';exact⟨_,es',ep',hL,r'⟩) hok I.bare
def Inv.call {g':Array GenState} {t':Nat} {d':Drawn} {ch:List Addr} (I:Inv X pins σ H s) (u:Un (yP X.stack) ch H H' s.heap h') (hok:HOk X.prog X.w H' h') (hg:AllBare g')
  (hch:∀b∈ch,(b∈X.ex\/X.s₀.heap.objs.size<=b)/\b≠X.env.locals/\(∀x c,X.env.cells.lookup x=some c->c≠b)/\∀p∈X.pn++pins,p.1≠b):
  Inv X pins σ H' {s with heap:=h',gens:=g',drawn:=d',toks:=t'}:=by
 obtain⟨m,⟨o,es,ep,ho,r⟩,_⟩:=id I.loc;obtain⟨sl,hL⟩:=u.any ho I.free fun z=>(hch _ z).2.1 rfl
 exact I.step (ch:=ch) hch (fun b o hL hb hc e n=>u.keep b o e n (fun z=>(Af.mp (I.stkSub b z)).elim hL hb) hc) (fun b o _ _ hc e n=>u.any e n hc) (fun b o hc e n=>u.free b o e n hc) (fun b o hc e=>u.there b o e hc) u.tups u.frzs u.tbls (fun m' hm=>by
  obtain⟨o',es',ep',ho',r'⟩:=hm;rw[ho]at ho';cases ho';exact⟨_,es',ep',hL,r'⟩) hok hg
def Inv.turned {t':Nat} {it:Addr} (I:Inv X pins σ H s) (k:∀b o,b≠it->s.heap.get? b=some o->h'.get? b=some o) (hn:H it=none) (hL:it≠X.env.locals)
  (h1:it∈X.ex\/X.s₀.heap.objs.size<=it) (h2:∀x c,X.env.cells.lookup x=some c->c≠it) (h3:∀p∈X.pn++pins,p.1≠it):Inv X pins σ H {s with heap:=h',toks:=t'}:=by
 have nit:∀b u,H b=some u->b≠it:=fun b u e z=>by rw[z,hn]at e;cases e
 refine I.step (g':=s.gens) (d':=s.drawn) (ch:=[it]) (fun b hb=>?_) (fun b o _ _ hc e _=>k b o (fun z=>hc (by simp[z])) e) (fun b o _ _ hc e _=>⟨o.slots,k b o (fun z=>hc (by simp[z])) e⟩) (fun _ _ _ _ n=>n)
  (fun b o hc e=>⟨o,k b o (fun z=>hc (by simp[z])) e⟩) (fun _ _ e=>e) (fun _ _ _ e=>e) (fun b ps e=>⟨#[],by rw[e];simp⟩) (fun m hm=>?_) (fun b u e=>?_) I.bare
 .have e:b=it:=by simpa using hb
  subst e;exact⟨h1,hL,h2,h3⟩
 .obtain⟨o,es,ep,ho,r⟩:=hm
  exact⟨o,es,ep,k _ o (Cc hL) ho,r⟩
 .refine (I.hok b u e).stay (fun c v hc q=>k c v ?_ q) (fun _ q=>q) fun _ _ q=>q
  rcases hc with z|z
  .rw[z];exact nit b u e
  .exact nit c _ z
def Inv.tok (I:Inv X pins σ H s) (t:Nat):Inv X pins σ H {s with toks:=t}:=I.un (h':=s.heap) (t':=t) Un.refl I.hok
theorem Inv.kept {t':Nat} (I:Inv X pins σ H s) (k:∀b u,s.heap.get? b=some u->h'.get? b=some u):Inv X pins σ H {s with heap:=h',toks:=t'}:=I.un (Un.kept k) (I.hok.kept k)
theorem Inv.laid {a:Addr} {o:HO} {t':Nat} (I:Inv X pins σ H s) (k:∀b u,s.heap.get? b=some u->h'.get? b=some u) (hp:s.heap.objs.size<=a) (new:ObjOk X.prog X.w (zr H a o) h' a o):
 Inv X pins σ (zr H a o) {s with heap:=h',toks:=t'}:=I.un (Un.laid k hp (I.hok.fresh hp)) (I.hok.laid k hp new)
theorem Inv.write {x e:Addr} {o:HO} {t':Nat} (I:Inv X pins σ H s) (mu:Mut (H x)) (he:e=x\/H e=some (.own x)) (k:∀b u,b≠e->s.heap.get? b=some u->h'.get? b=some u) (heo:∃u,h'.get? e=some u)
 (new:ObjOk X.prog X.w (zr H x o) h' x o):Inv X pins σ (zr H x o) {s with heap:=h',toks:=t'}:=I.un (Un.write mu he k heo) (I.hok.write mu he k heo new)
def Inv.pins_of {pins':AL} (I:Inv X pins σ H s) (h:∀p∈pins',s.heap.get? p.1=some p.2/\H p.1=none/\p.1≠X.env.locals/\p.1∉X.fs/\∀v,p.2.data≠ .cell v):Inv X pins' σ H s:=
 ⟨I.ok,I.os,I.bare,I.base,I.loc,I.cell,I.free,I.freeC,fun p hp=>(Ax.mp hp).elim (fun z=>I.pin p (Da _ z)) (h p),I.hok,I.len⟩
def LJ {N:List Str} (hN:N.Nodup) {i j:Nat} {x:Str} (a:N[i]? =some x) (b:N[j]? =some x):i=j:=by
 obtain⟨h1,e1⟩:=Ao.mp a;obtain⟨h2,e2⟩:=Ao.mp b;exact (List.getElem_inj hN).mp (e1.trans e2.symm)
def Qo {M:Model} {A:Around} {E:VP} {i:Nat} {x:Str} {v:V} {u:Value} {Q:Unit->Shared->Prop} (I:Inv X pins σ H s) (hN:X.N.Nodup) (hi:X.N[i]? =some x) (hx:jN X.env.scope x) (r:RelV v u)
  (h:∀s',Inv X pins (σ.set i (some v)) H s'->(∃a,Heap.SameBut a s.heap s'.heap/\(a=X.env.locals\/X.env.cells.lookup x=some a))->Q () s') (hf:X.fn x=true\/X.env.scope.names.lookup x=some .local:=by first|exact .inl rfl|exact .inr rfl|assumption):wpAny M A (storeName X.env x u) Q E s:=by
 obtain⟨m,hn,hl⟩:=id I.loc;have hcls:(X.env.scope.kind== .class || (X.env.scope.kind== .module && X.env.locals !=X.env.globals))=false:=by rw[I.ok.kind];rfl
 have hiσ:i<σ.length:=by rw[I.len];exact (Ao.mp hi).1
 have cne:=I.cne;have tracked:∀{a:Addr} {h':Heap},(∃o,s.heap.get? a=some o/\H a=none)->Heap.SameBut a s.heap h'->HOk X.prog X.w H h':=fun {a h'} ha hs b ob e=>by
  obtain⟨_,_,hfree⟩:=ha
  refine (I.hok b ob e).stay (fun c w' hc q=>(hs.2 c ?_).trans q) (fun _ q=>q) fun _ _ q=>q
  rintro rfl
  rcases hc with rfl|hc
  .rw[hfree]at e;cases e
  .rw[hfree]at hc;cases hc
 rcases hx with hk|hk
 .refine wpAny_storeName_local hk hn (fun h' hn' hs=>?_) hcls
  obtain⟨oL,_,_,hoL,_⟩:=id hn
  refine h _ ⟨I.ok,I.os,I.bare,⟨fun b o e n hb hx=>?_,fun b o e n hb hx=>?_,I.base.free,fun b o e hx=>?_,I.base.tups,I.base.frzs,I.base.tbls⟩,⟨_,hn',fun j y v' e1 e2 e3=>?_⟩,fun y c e=>?_,I.free,I.freeC,fun p hp=>?_,tracked ⟨oL,hoL,I.free⟩ hs,by simpa using I.len⟩ ⟨_,hs,.inl rfl⟩
  .exact (hs.2 b (Aw (Bk (Aj e) I.ok.above))).trans (I.base.keep b o e n hb hx)
  .obtain⟨sl,e1⟩:=I.base.slot b o e n hb hx
   exact⟨sl,(hs.2 b (Aw (Bk (Aj e) I.ok.above))).trans e1⟩
  .obtain⟨o',e1⟩:=I.base.there b o e hx
   exact⟨o',(hs.2 b (Aw (Bk (Aj e) I.ok.above))).trans e1⟩
  .by_cases hj:j=i
   .subst hj
    rw[hi]at e1;cases e1;rw[List.getElem?_set_self hiσ]at e2
    cases e2;exact⟨u,r,.inl ⟨hk,by simp⟩⟩
   .rw[List.getElem?_set_ne (Cc hj)]at e2
    obtain⟨u',r',q⟩:=hl j y v' e1 e2 e3
    refine⟨u',r',?_⟩
    rcases q with ⟨k,e⟩|⟨k,c,e,z⟩
    .refine .inl ⟨k,?_⟩
     have:y≠x:=fun e=>hj (LJ hN e1 (e ▸ hi))
     simp[this,e]
    .exact .inr ⟨k,c,e,z.sameBut hs (cne y c e)⟩
  .obtain⟨w',z⟩:=I.cell y c e
   exact⟨w',z.sameBut hs (cne y c e)⟩
  .obtain⟨e,n,ne,nf,d⟩:=I.pin p hp
   exact⟨(hs.2 p.1 ne).trans e,n,ne,nf,d⟩
 .have hfn:X.fn x=true:=by
   rcases hf with z|z
   .exact z
   .rw[z]at hk;cases hk
  obtain⟨c,hc⟩:=I.ok.has x (.inl hk);obtain⟨w',z⟩:=I.cell x c hc
  refine wpAny_storeName_cell I.ok.kind hk hc z (fun h' hc' hs=>?_)
  obtain⟨oc,hoc,hocd⟩:=id z
  refine h {s with heap:=h'} ⟨I.ok,I.os,I.bare,⟨fun b o e n hb hx=>?_,fun b o e n hb hx=>?_,I.base.free,fun b o e hx=>?_,I.base.tups,I.base.frzs,I.base.tbls⟩,⟨m,hn.sameBut hs (Cc (cne x c hc)),fun j y v' e1 e2 e3=>?_⟩,fun y c' e=>?_,I.free,I.freeC,fun p hp=>?_,tracked ⟨oc,hoc,I.freeC x c hc⟩ hs,by simpa using I.len⟩ ⟨c,hs,.inr hc⟩
  .exact (hs.2 b (Aw (Bk (Aj e) (I.ok.cab x c hfn hc)))).trans (I.base.keep b o e n hb hx)
  .obtain⟨sl,e1⟩:=I.base.slot b o e n hb hx
   exact⟨sl,(hs.2 b (Aw (Bk (Aj e) (I.ok.cab x c hfn hc)))).trans e1⟩
  .obtain⟨o',e1⟩:=I.base.there b o e hx
   exact⟨o',(hs.2 b (Aw (Bk (Aj e) (I.ok.cab x c hfn hc)))).trans e1⟩
  .by_cases hj:j=i
   .subst hj
    rw[hi]at e1;cases e1;rw[List.getElem?_set_self hiσ]at e2
    cases e2;exact⟨u,r,.inr ⟨.inl hk,c,hc,hc'⟩⟩
   .rw[List.getElem?_set_ne (Cc hj)]at e2
    obtain⟨u',r',q⟩:=hl j y v' e1 e2 e3
    refine⟨u',r',?_⟩
    rcases q with q|⟨k,c',e,z'⟩
    .exact .inl q
    .refine .inr ⟨k,c',e,z'.sameBut hs ?_⟩
     rintro rfl;exact hj (LJ hN e1 (I.ok.inj _ _ _ e hc ▸ hi))
  .by_cases hcc:c'=c
   .subst hcc;exact⟨_,hc'⟩
   .obtain⟨w2,z2⟩:=I.cell y c' e
    exact⟨w2,z2.sameBut hs hcc⟩
  .obtain⟨e,n,ne,nf,d⟩:=I.pin p hp
   refine⟨(hs.2 p.1 ?_).trans e,n,ne,nf,d⟩
   intro q;rw[q,hoc]at e;have q':oc=p.2:=Option.some.inj e;exact d w' (by rw[<-q'];exact hocd)
def GX {M:Model} {A:Around} {E:VP} {i:Nat} {x:Str} {v:V} {u:Value} {Q:Unit->Shared->Prop} (I:Inv X pins σ H s) (hN:X.N.Nodup) (hi:X.N[i]? =some x) (hx:jN X.env.scope x) (r:RelV v u)
  (h:∀s',Inv X pins (σ.set i (some v)) H s'->Q () s') (hf:X.fn x=true\/X.env.scope.names.lookup x=some .local:=by first|exact .inl rfl|exact .inr rfl|assumption):wpAny M A (storeName X.env x u) Q E s:=
 Qo I hN hi hx r (fun s' I' _=>h s' I') hf
def Inv.call' {s':Shared} {ch:List Addr} (I:Inv X pins σ H s) (ho:s'.os=s.os) (u:Un (yP X.stack) ch H H' s.heap s'.heap) (hok:HOk X.prog X.w H' s'.heap) (hg:AllBare s'.gens)
  (hch:∀b∈ch,(b∈X.ex\/X.s₀.heap.objs.size<=b)/\b≠X.env.locals/\(∀x c,X.env.cells.lookup x=some c->c≠b)/\∀p∈X.pn++pins,p.1≠b):Inv X pins σ H' s':=by
 obtain⟨h',g',d',t',o'⟩:=s';have e:o'=s.os:=ho;subst e;exact I.call (g':=g') (t':=t') (d':=d') u hok hg hch
end
abbrev XK:=Value->Option Addr->Hp->Prop
abbrev St:=List (Option V)
abbrev VK:=V->Hp->Prop
abbrev TE:=St->Hp->VK->Prop
abbrev TT:=St->Hp->(Bool->Hp->Prop)->Prop
abbrev TA:=St->Hp->(List V->Hp->Prop)->Prop
structure Ends where
 nx:St->Hp->Prop
 rt:VK
 bk:St->Hp->Prop:=fun _ _=>False
 ct:St->Hp->Prop:=fun _ _=>False
abbrev TS:=Ends->St->Hp->Prop
def EP (X:Cx) (pins:AL) (σ:St) (Q:VK) (u:Value) (s':Shared):Prop:=∃v H',Inv X pins σ H' s'/\RelV v u/\Q v H'
def TP (X:Cx) (pins:AL) (σ:St) (Q:Bool->Hp->Prop) (b:Bool) (s':Shared):Prop:=∃H',Inv X pins σ H' s'/\Q b H'
def AP (X:Cx) (pins:AL) (σ:St) (Q:List V->Hp->Prop) (us:List Value) (s':Shared):Prop:=∃vs H',Inv X pins σ H' s'/\Vals vs us/\Q vs H'
def SP (X:Cx) (pins:AL) (D:Ends) (f:Flow) (s':Shared):Prop:=
 match f with
 |.next=> ∃σ' H',Inv X pins σ' H' s'/\D.nx σ' H'
 |.brk=> ∃σ' H',Inv X pins σ' H' s'/\D.bk σ' H'
 |.cont=> ∃σ' H',Inv X pins σ' H' s'/\D.ct σ' H'
 |.ret u=> ∃v σ' H',Inv X pins σ' H' s'/\RelV v u/\D.rt v H'
def PE (X:Cx) (e:Expr) (t:TE):Prop:=
 ∀(pins:AL) (s:Shared) (σ:St) (H:Hp) (Q:VK),Inv X pins σ H s->t σ H Q->wpAny (model X.prog X.w) X.A (eval e X.env) (EP X pins σ Q) X.xe s
def PT (X:Cx) (e:Expr) (t:TT):Prop:=
 ∀(pins:AL) (s:Shared) (σ:St) (H:Hp) (Q:Bool->Hp->Prop),Inv X pins σ H s->t σ H Q->wpAny (model X.prog X.w) X.A (isTrue e X.env (eval e X.env)) (TP X pins σ Q) X.xe s
def PW (X:Cx) (e:Expr) (t:TT):Prop:=
 ∀(whole:Sem Value) (pins:AL) (s:Shared) (σ:St) (H:Hp) (Q:Bool->Hp->Prop),Inv X pins σ H s->t σ H Q->wpAny (model X.prog X.w) X.A (isTrue e X.env whole) (TP X pins σ Q) X.xe s
def PW.pt {X:Cx} {e:Expr} {t:TT} (h:PW X e t):PT X e t:=h _
def PA (X:Cx) (es:List Expr) (t:TA):Prop:=
 ∀(pos:Pos) (pins:AL) (s:Shared) (σ:St) (H:Hp) (Q:List V->Hp->Prop),Inv X pins σ H s->t σ H Q->wpAny (model X.prog X.w) X.A (spliced (backTo pos (starEach es X.env))) (AP X pins σ Q) X.xe s
def PS (X:Cx) (st:Stmt) (t:TS):Prop:=
 ∀(pins:AL) (s:Shared) (σ:St) (H:Hp) (D:Ends),Inv X pins σ H s->t D σ H->wpAny (model X.prog X.w) X.A (exec st X.env) (SP X pins D) X.xe s
def yW (X:Cx) (st:List Stmt) (t:TS):Prop:=
 ∀(pins:AL) (s:Shared) (σ:St) (H:Hp) (D:Ends),Inv X pins σ H s->t D σ H->wpAny (model X.prog X.w) X.A (execs st X.env) (SP X pins D) X.xe s
def thn {α:Type} {t:Sem α} {Q Q':α->Shared->Prop} {M:Model} {A:Around} {E:VP} {s:Shared} (h:wpAny M A t Q E s) (hQ:∀a s,Q a s->Q' a s):wpAny M A t Q' E s:=Cd h hQ fun _ _ x=>x
section
variable {X:Cx}
def tVar (i:Nat):TE:=fun σ H Q=> ∃v,σ[i]? =some (some v)/\Q v H
def tC (v:V):TE:=fun _ H Q=>Q v H
def Qp {i:Nat} {x:Str} {pos:Pos} (hN:X.N[i]? =some x) (hv:Vis X.env.scope x) (hd:(x==("__debug__" :Str))=false:=by decide) (hcd:(x==("__classdict__" :Str))=false:=by decide):PE X (.Name x pos) (tVar i):=by
 intro pins s σ H Q I h;obtain⟨v,e,h⟩:=h;obtain⟨m,hn,hl⟩:=I.loc;obtain⟨u,r,l⟩:=hl i x v hN e hv;have fin:EP X pins σ Q u s:=⟨v,H,I,r,h⟩
 rcases l with ⟨hk,hm⟩|⟨hk,c,hc,hcell⟩
 .exact wpAny_Name (wpAny_loadName_local I.ok.kind hk hn hm fin) hd
 .rcases hk with hk|hk
  .exact wpAny_Name (wpAny_loadName_cell I.ok.kind hk hc hcell fin) hd
  .exact wpAny_Name (wpAny_loadName_free I.ok.kind hk hc hcell fin hcd) hd
def Qq {i j pos}:PE X (.Constant (.int i) j pos) (tC (.int i)):=fun _ _ _ H _ I h=>wpAny_Constant_int ⟨.int i,H,I.tok _,⟨_,rfl⟩,h⟩
def Qr {b j pos}:PE X (.Constant (.bool b) j pos) (tC (.bl b)):=fun _ _ _ H _ I h=>Constant_bool ⟨.bl b,H,I,rfl,h⟩
def Qs {j pos}:PE X (.Constant .none j pos) (tC .non):=fun _ _ _ H _ I h=>Constant_none ⟨.non,H,I,rfl,h⟩
def Qt {x j pos}:PE X (.Constant (.str x) j pos) (tC (.str x)):=fun _ _ _ H _ I h=>Calls.Constant_str ⟨.str x,H,I.tok _,⟨_,rfl⟩,h⟩
def Gl (X:Cx) (x:Str):Prop:=X.env.kindOf x=some .globalImplicit
def IC {E:VP} {pins:AL} {s:Shared} {σ:St} {H:Hp} {x:Str} {u:Value} {pos:Pos} {Q:VP} (I:Inv X pins σ H s) (hg:Gl X x) (hm:X.mg x=some u) (h:Q u s)
  (hd:(x==("__debug__" :Str))=false:=by decide):wpAny (model X.prog X.w) X.A (eval (.Name x pos) X.env) Q E s:=
 Calls.Name_function_global I.ok.kind hg (Calls.loadGlobal_global (by rw[I.ok.glob];exact I.mod.glob.keeps I.bk) hm h) hd
def BP {E:VP} {pins:AL} {s:Shared} {σ:St} {H:Hp} {x:Str} {u:Value} {pos:Pos} {Q:VP} (I:Inv X pins σ H s) (hg:Gl X x) (hm:X.mg x=none) (hv:bootBuiltins x=some u) (h:Q u s)
  (hn:x≠"__name__" :=by decide) (hd:(x==("__debug__" :Str))=false:=by decide):wpAny (model X.prog X.w) X.A (eval (.Name x pos) X.env) Q E s:=by
 obtain⟨mb,h1,h2⟩:=I.mod.blt;exact Calls.Name_function_global I.ok.kind hg (Calls.loadGlobal_builtin (by rw[I.ok.glob];exact I.mod.glob.keeps I.bk) hm (by rw[I.ok.blt];exact h1.keeps I.bk) ((h2 x hn).trans hv) h) hd
def jB {x:Str} {v:V} {u:Value} {pos:Pos} (hg:Gl X x) (hm:X.mg x=some u) (r:RelV v u) (hd:(x==("__debug__" :Str))=false:=by decide):PE X (.Name x pos) (tC v):=
 fun _ _ _ H _ I h=>IC I hg hm ⟨v,H,I,r,h⟩ hd
def AX {x:Str} {v:V} {u:Value} {pos:Pos} (hg:Gl X x) (hm:X.mg x=none) (hv:bootBuiltins x=some u) (r:RelV v u) (hn:x≠"__name__" :=by decide) (hd:(x==("__debug__" :Str))=false:=by decide):PE X (.Name x pos) (tC v):=
 fun _ _ _ H _ I h=>BP I hg hm hv ⟨v,H,I,r,h⟩ hn hd
variable {a b:Expr} {ta tb:TE} {pos:Pos}
def tB (t:TE):TT:=fun σ H Q=>t σ H fun x H1=> ∃c,x=.bl c/\Q c H1
def Qu {e:Expr} {t:TE} (h:PE X e t) (he:∀whole,isTrue e X.env whole=(do let v <-whole;standAt e.pos;holding [v] (truthy v)):=by intro _;rfl):PT X e (tB t):=by
 intro pins s σ H Q I hw
 refine isTrue_plain (thn (h pins s σ H _ I hw) fun v s1 ⟨x,H1,I1,r1,q1⟩=>?_) (he _)
 obtain⟨d,rfl,q⟩:=q1;cases r1;exact Ce ⟨H1,I1,q⟩
variable {tA tB':TT} {rest:List Expr}
def tAnd (t u:TT):TT:=fun σ H Q=>t σ H fun c H1=>if c=true then u σ H1 Q else Q false H1
def tOr (t u:TT):TT:=fun σ H Q=>t σ H fun c H1=>if c=true then Q true H1 else u σ H1 Q
def tNot (t:TT):TT:=fun σ H Q=>t σ H fun c H1=>Q (!c) H1
def Qv (ha:PT X a tA):PW X (.BoolOp .And [a] pos) tA:=by
 intro wh pins s σ H Q I h
 refine isTrue_and (thn (ha pins s σ H Q I h) fun c s1 e=>?_)
 cases c with
 |true=>exact isTrue_and_nil e
 |false=>exact e
def Qw (ha:PT X a tA):PW X (.BoolOp .Or [a] pos) tA:=by
 intro wh pins s σ H Q I h
 refine isTrue_or (thn (ha pins s σ H Q I h) fun c s1 e=>?_)
 cases c with
 |false=>exact isTrue_or_nil e
 |true=>exact e
def Qx (ha:PT X a tA) (hb:PW X (.BoolOp .And (b::rest) pos) tB'):PW X (.BoolOp .And (a::b::rest) pos) (tAnd tA tB'):=by
 intro wh pins s σ H Q I h
 refine isTrue_and (thn (ha pins s σ H _ I h) fun c s1 ⟨H1,I1,q1⟩=>?_)
 cases c with
 |true=>exact hb wh pins s1 σ H1 Q I1 q1
 |false=>exact⟨H1,I1,q1⟩
def Qy (ha:PT X a tA) (hb:PW X (.BoolOp .Or (b::rest) pos) tB'):PW X (.BoolOp .Or (a::b::rest) pos) (tOr tA tB'):=by
 intro wh pins s σ H Q I h
 refine isTrue_or (thn (ha pins s σ H _ I h) fun c s1 ⟨H1,I1,q1⟩=>?_)
 cases c with
 |true=>exact⟨H1,I1,q1⟩
 |false=>exact hb wh pins s1 σ H1 Q I1 q1
def Qz (ha:PT X a tA):PT X (.UnaryOp .Not a pos) (tNot tA):=by
 intro pins s σ H Q I h;exact isTrue_not (ha pins s σ H (fun c H1=>Q (!c) H1) I h)
def Q0 (ta tb:TE):TE:=fun σ H Q=>ta σ H fun x H1=> ∃c,x=.bl c/\if c=true then tb σ H1 Q else Q (.bl false) H1
def Q1 (ta:TE):TE:=fun σ H Q=>ta σ H fun x H1=> ∃c,x=.bl c/\Q (.bl (!c)) H1
def Q2 {op} {t:TE} (h:PE X a t):PE X (.BoolOp op [a] pos) t:=fun pins s σ H Q I hw=>BoolOp_one (h pins s σ H Q I hw)
def Q3 (ha:PE X a ta) (hb:PE X (.BoolOp .And (b::rest) pos) tb):PE X (.BoolOp .And (a::b::rest) pos) (Q0 ta tb):=by
 intro pins s σ H Q I h
 refine BoolOp_and (thn (ha pins s σ H _ I h) fun v s1 ⟨x,H1,I1,r1,q1⟩=>?_)
 obtain⟨c,rfl,q1⟩:=q1;cases r1
 refine Ce ?_
 cases c with
 |true=>exact hb pins s1 σ H1 Q I1 q1
 |false=>exact⟨.bl false,H1,I1,rfl,q1⟩
def Q4 (ha:PE X a ta):PE X (.UnaryOp .Not a pos) (Q1 ta):=by
 intro pins s σ H Q I h
 refine UnaryOp_ (thn (ha pins s σ H _ I h) fun v s1 ⟨x,H1,I1,r1,q1⟩=>?_)
 obtain⟨c,rfl,q1⟩:=q1;cases r1;exact not_of (Ce ⟨.bl (!c),H1,I1,rfl,q1⟩)
end
def SqL (K:FG) (H:Hp) (a:Addr) (xs:List V):Prop:=
 Rd H a (.lst xs)\/
  ∃(o:Obj) (its:Array Value) (n:Nat),K.lookup a=some o/\o.cls=.type "list" /\o.dict=none/\o.data=.seq its n/\its.size<=sizeLine/\Vals xs its.toList
def SqT (K:FG) (H:Hp) (a:Addr) (xs:List V):Prop:=
 Rd H a (.tup xs)\/
  ∃(o:Obj) (its:Array Value) (n:Nat),K.lookup a=some o/\o.cls=.type "tuple" /\o.data=.seq its n/\its.size<=sizeLine/\Vals xs its.toList
noncomputable def absV:Value->Option V
 |.none=>some .non
 |.bool b=>some (.bl b)
 |.int i _=>some (.int i)
 |.str x _=>some (.str x)
 |.bytes b _=>some (.byt b)
 |.float b _=>some (.flt b)
 |.ref a=>some (.ref a)
 |.type n=>some (.ty n)
 |_=>none
def RelV.abs {x:V} {u:Value} (r:RelV x u):absV u=some x:=by
 cases x with
 |non=>cases r;rfl
 |bl _=>cases r;rfl
 |int _=>obtain⟨t,rfl⟩:=r;rfl
 |str _=>obtain⟨t,rfl⟩:=r;rfl
 |byt _=>obtain⟨t,rfl⟩:=r;rfl
 |flt _=>obtain⟨t,rfl⟩:=r;rfl
 |ref _=>cases r;rfl
 |ty _=>cases r;rfl
theorem RelV.inj {x y:V} {u:Value} (r:RelV x u) (q:RelV y u):x=y:=Option.some.inj (r.abs.symm.trans q.abs)
theorem Vals.inj:∀{xs ys:List V} {us:List Value},Vals xs us->Vals ys us->xs=ys
 |_,_,_,.nil,.nil=>rfl
 |_,_,_,.cons r t,.cons r' t'=>by rw[r.inj r',Vals.inj t t']
section
variable {X:Cx} {pins:AL} {σ:St} {H:Hp} {s:Shared} {a:Addr} {xs ys:List V}
def SqL.of {K:FG} (h:H a=some (.lst xs)):SqL K H a xs:= .inl (.inl h)
def SqT.of {K:FG} (h:H a=some (.tup xs)):SqT K H a xs:= .inl (.inl h)
def Inv.list (I:Inv X pins σ H s) (h:SqL X.K H a xs):∃its:List Value,Vals xs its/\PlainL s.heap a its.toArray/\xs.length<=sizeLine:=by
 rcases h with h|⟨o,its,n,hk,hc,hd,hs,hz,r⟩
 .obtain⟨z,its,n,r,e⟩:=h.ok I.hok
  exact⟨its,r,⟨_,n,e,rfl,rfl,rfl⟩,z⟩
 .refine⟨its.toList,r,⟨o,n,I.kIn a o hk,hc,hd,by simpa using hs⟩,?_⟩
  have e:=r.length;simp only[B2]at e;lia
def Inv.tuple (I:Inv X pins σ H s) (h:SqT X.K H a xs):∃its:List Value,Vals xs its/\IsTup s.heap a its.toArray/\xs.length<=sizeLine:=by
 rcases h with h|⟨o,its,n,hk,hc,hs,hz,r⟩
 .obtain⟨z,its,r,p⟩:=h.ok I.hok
  exact⟨its,r,p,z⟩
 .refine⟨its.toList,r,⟨o,I.kIn a o hk,hc,n,by simpa using hs⟩,?_⟩
  have e:=r.length;simp only[B2]at e;lia
def Inv.list_inj (I:Inv X pins σ H s) (h:SqL X.K H a xs) (h':SqL X.K H a ys):xs=ys:=by
 obtain⟨its,r,⟨o,n,e,_,_,d⟩,_⟩:=I.list h;obtain⟨its',r',⟨o',n',e',_,_,d'⟩,_⟩:=I.list h';rw[e]at e';cases e';rw[d]at d';injection d' with d1 _
 have:its=its':=by simpa using congrArg Array.toList d1
 subst this;exact r.inj r'
end
section
variable {X:Cx} {st:Stmt} {rest:List Stmt} {t u:TS} {e:Expr} {te:TE} {pos:Pos}
def Q5:TS:=fun D σ H=>D.nx σ H
def tSeq (t u:TS):TS:=fun D σ H=>t {D with nx:=u D} σ H
def Q6:yW X [] Q5:=fun _ _ σ H _ I h=>Fe ⟨σ,H,I,h⟩
def Q7 (h1:PS X st t) (h2:yW X rest u):yW X (st::rest) (tSeq t u):=by
 intro pins s σ H D I h
 refine wpAny_execs_cons (thn (h1 pins s σ H {D with nx:=u D} I h) fun f s1 q=>?_)
 cases f with
 |next=>
  obtain⟨σ',H',I',q⟩:=q;exact h2 pins s1 σ' H' D I' q
 |ret v=>exact q
 |brk=>exact q
 |cont=>exact q
def Q8 (h1:PS X st t):yW X [st] t:=by
 intro pins s σ H D I h
 refine wpAny_execs_cons (thn (h1 pins s σ H D I h) fun f s1 q=>?_)
 cases f with
 |next=>exact Fe q
 |ret v=>exact q
 |brk=>exact q
 |cont=>exact q
def Inv.quiet {pins:AL} {σ:St} {H:Hp} {s:Shared} (I:Inv X pins σ H s):interactive X.env=false:=by simp[interactive,I.ok.kind]
def Q9 (te:TE):TS:=fun D σ H=>te σ H fun _ H1=>D.nx σ H1
def ID (he:PE X e te) (hs:swapsWith e none pos.line X.env=pure false:=by rfl):PS X (.Expr e pos) (Q9 te):=by
 intro pins s σ H D I h;exact wpAny_Expr_any (thn (he pins s σ H _ I h) fun v s1 zz7 => by obtain ⟨x,H1,I1,r1,q1⟩ := zz7; exact ⟨σ,H1,I1,q1⟩) I.quiet hs
def tRet (te:TE):TS:=fun D σ H=>te σ H D.rt
def LK (he:PE X e te):PS X (.Return (some e) pos) (tRet te):=by
 intro pins s σ H D I h;exact wpAny_Return_some (thn (he pins s σ H _ I h) fun v s1 zz8 => by obtain ⟨x,H1,I1,r1,q1⟩ := zz8; exact ⟨x,σ,H1,I1,r1,q1⟩)
def tIfS (c:TT) (t u:TS):TS:=fun D σ H=>c σ H fun b H1=>if b=true then t D σ H1 else u D σ H1
def QA {c:Expr} {a b:List Stmt} {tc:TT} (hc:PT X c tc) (ha:yW X a t) (hb:yW X b u):PS X (.If c a b pos) (tIfS tc t u):=by
 intro pins s σ H D I h
 refine wpAny_If (thn (hc pins s σ H _ I h) fun d s1 ⟨H1,I1,q1⟩=>?_)
 cases d with
 |true=>exact ha pins s1 σ H1 D I1 q1
 |false=>exact hb pins s1 σ H1 D I1 q1
def QB:TS:=fun _ _ _=>False
def QC:PS X st QB:=fun _ _ _ _ _ _ h=>h.elim
end
abbrev TG:=V->St->Hp->(St->Hp->Prop)->Prop
abbrev jM:=List V->St->Hp->(St->Hp->Prop)->Prop
def PG (X:Cx) (target:Expr) (t:TG):Prop:=
 ∀(pins:AL) (s:Shared) (σ:St) (H:Hp) (v:V) (u:Value) (Q:St->Hp->Prop),Inv X pins σ H s->RelV v u->t v σ H Q->
  wpAny (model X.prog X.w) X.A (assign target X.env u) (fun _ s'=> ∃σ' H',Inv X pins σ' H' s'/\Q σ' H') X.xe s
def jC (X:Cx) (ts:List Expr) (t:jM):Prop:=
 ∀(pins:AL) (s:Shared) (σ:St) (H:Hp) (vs:List V) (us:List Value) (Q:St->Hp->Prop),Inv X pins σ H s->Vals vs us->t vs σ H Q->
  wpAny (model X.prog X.w) X.A (assignInOrder ((assignEach ts X.env).map (·.2)) us) (fun _ s'=> ∃σ' H',Inv X pins σ' H' s'/\Q σ' H') X.xe s
abbrev TSet:=V->V->V->Hp->(Hp->Prop)->Prop
def PSet (X:Cx) (t:TSet):Prop:=
 ∀(pins:AL) (s:Shared) (σ:St) (H:Hp) (o i v:V) (ov iv u:Value) (Q:Hp->Prop),Inv X pins σ H s->RelV o ov->RelV i iv->RelV v u->t o i v H Q->
  wpAny (model X.prog X.w) X.A (setItem ov iv u) (fun _ s'=> ∃H',Inv X pins σ H' s'/\Q H') X.xe s
abbrev TIp:=V->V->Hp->VK->Prop
def PIp (X:Cx) (op:Operator) (t:TIp):Prop:=
 ∀(pins:AL) (s:Shared) (σ:St) (H:Hp) (x y:V) (v u:Value) (Q:VK),Inv X pins σ H s->RelV x v->RelV y u->t x y H Q->
  wpAny (model X.prog X.w) X.A (inplaceOp op v u) (EP X pins σ Q) X.xe s
section
variable {X:Cx} {pos:Pos}
def EH (i:Nat):TG:=fun v σ H Q=>Q (σ.set i (some v)) H
def IE {i:Nat} {x:Str} (hN:X.N.Nodup) (hi:X.N[i]? =some x) (hx:jN X.env.scope x) (hf:X.fn x=true\/X.env.scope.names.lookup x=some .local:=by first|exact .inl rfl|exact .inr rfl|assumption):PG X (.Name x pos) (EH i):=by
 intro pins s σ H v u Q I r h;exact wpAny_assign_Name (GX I hN hi hx r (fun s' I'=>⟨_,H,I',h⟩) hf)
def gNil:jM:=fun vs σ H Q=>vs=[]/\Q σ H
def LL (t:TG) (u:jM):jM:=fun vs σ H Q=> ∃v r,vs=v::r/\t v σ H fun σ' H'=>u r σ' H' Q
def QD:jC X [] gNil:=by
 intro pins s σ H vs us Q I r h;obtain⟨e,h⟩:=h;subst e;cases r;exact assignInOrder_nil ⟨σ,H,I,h⟩
def zR {e:Expr} {es:List Expr} {t:TG} {u:jM} (h1:PG X e t) (h2:jC X es u)
  (hs:(assignEach (e::es) X.env).map (·.2)=assign e X.env::(assignEach es X.env).map (·.2):=by rfl):jC X (e::es) (LL t u):=by
 intro pins s σ H vs us Q I r h;obtain⟨v,vr,e1,h⟩:=h;subst e1;cases r with
 |cons r rr=>
  rw[hs]
  refine assignInOrder_cons (thn (h1 pins s σ H _ _ _ I r h) fun _ s1 ⟨σ1,H1,I1,q1⟩=>?_)
  exact h2 pins s1 σ1 H1 _ _ Q I1 rr q1
def gTup (K:FG) (n:Nat) (t:jM):TG:=fun v σ H Q=> ∃a xs,v=.ref a/\SqT K H a xs/\xs.length=n/\t xs σ H Q
def qW {es:List Expr} {k:Nat} {t:jM} {n:Nat} (hc:X.calm=true) (h:jC X es t)
  (hn:(assignEach es X.env).length=n:=by rfl) (hst:(assignEach es X.env).findIdx? (·.1)=none:=by rfl):PG X (.Tuple es k pos) (gTup X.K n t):=by
 intro pins s σ H v u Q I r hw;obtain⟨a,xs,e1,hq,hl,hw⟩:=hw;subst e1;cases r;obtain⟨its,rv,ht,hz⟩:=I.tuple hq
 refine assign_Tuple_tuple (I.ok.hd hc) ht (by simp[hn,<-hl,rv.length]) hst fun h' hx=>?_
 have I1:Inv X pins σ H {s with heap:=h'}:=I.kept (t':=s.toks) fun b o e=>hx b o (Aw (Aj e)) e
 exact h pins _ σ H xs _ Q I1 (by simpa using rv) hw
def gSub (to ti:TE) (t:TSet):TG:=fun v σ H Q=>to σ H fun o H1=>ti σ H1 fun i H2=>t o i v H2 fun H3=>Q σ H3
def QE {o i:Expr} {to ti:TE} {t:TSet} (ho:PE X o to) (hi:PE X i ti) (hs:PSet X t)
  (ha:∀v,assign (.Subscript o i pos) X.env v=(do
   let ov <-holding [v] (eval o X.env)
   let iv <-holding [v,ov] (eval i X.env)
   standAt pos
   holding [v,ov,iv] (setItem ov iv v)
   release [v,ov,iv] []):=by intro _;rfl):PG X (.Subscript o i pos) (gSub to ti t):=by
 intro pins s σ H v u Q I r h;rw[ha]
 refine Aa (Bx (thn (ho pins s σ H _ I h) fun ov s1 ⟨x,H1,I1,r1,q1⟩=>?_))
 refine Aa (Bx (thn (hi pins s1 σ H1 _ I1 q1) fun iv s2 ⟨y,H2,I2,r2,q2⟩=>?_))
 refine Aa (wpAny_standAt (Aa (Bx (thn (hs pins s2 σ H2 x y v ov iv u _ I2 r1 r2 r q2) fun _ s3 ⟨H3,I3,q3⟩=>?_))))
 exact wpAny_release ⟨σ,H3,I3,q3⟩
def tAsg (te:TE) (g:TG):TS:=fun D σ H=>te σ H fun x H1=>g x σ H1 D.nx
def GY {tg e:Expr} {te:TE} {g:TG} (he:PE X e te) (hg:PG X tg g) (hs:swapsWithSole [tg] e pos.line X.env=pure false:=by rfl) (hw:swappedStores [tg] e X.env=pure none:=by rfl)
  (h1:(assignEach [tg] X.env).map (·.2)=[assign tg X.env]:=by rfl):PS X (.Assign [tg] e pos) (tAsg te g):=by
 intro pins s σ H D I h
 refine wpAny_Assign_stores (thn (he pins s σ H _ I h) fun v s1 ⟨x,H1,I1,r1,q1⟩=>?_) hs hw
 rw[h1];exact thn (hg pins s1 σ H1 x v _ I1 r1 q1) fun _ s2 q=>q
def LM {i:Nat} {x:Str} {e:Expr} {te:TE} {pos':Pos} (hN:X.N.Nodup) (hi:X.N[i]? =some x) (hx:jN X.env.scope x) (he:PE X e te) (hs:swapsWith e (some (.Name x pos')) pos.line X.env=pure false:=by rfl) (hf:X.fn x=true\/X.env.scope.names.lookup x=some .local:=by first|exact .inl rfl|exact .inr rfl|assumption):
  PS X (.Assign [.Name x pos'] e pos) (tAsg te (EH i)):=by
 intro pins s σ H D I h
 refine wpAny_Assign_Name (thn (he pins s σ H _ I h) fun v s1 ⟨y,H1,I1,r1,q1⟩=>?_) hs
 exact GX I1 hN hi hx r1 (fun s2 I2=>⟨_,H1,I2,q1⟩) hf
def tAug (i:Nat) (te:TE) (ti:TIp):TS:=fun D σ H=> ∃x,σ[i]? =some (some x)/\te σ H fun y H1=>ti x y H1 fun z H2=>D.nx (σ.set i (some z)) H2
def LN {i:Nat} {x:Str} {e:Expr} {te:TE} {op:Operator} {ti:TIp} {pos':Pos} (hN:X.N.Nodup) (hi:X.N[i]? =some x) (hx:jN X.env.scope x) (he:PE X e te) (ho:PIp X op ti) (hf:X.fn x=true\/X.env.scope.names.lookup x=some .local:=by first|exact .inl rfl|exact .inr rfl|assumption):
  PS X (.AugAssign (.Name x pos') op e pos) (tAug i te ti):=by
 intro pins s σ H D I h;obtain⟨v,e1,h⟩:=h;obtain⟨m,hn,hl⟩:=I.loc;have vis:Vis X.env.scope x:=by rcases hx with k|k;exact .inl k;exact .inr (.inl k)
 obtain⟨u,r,l⟩:=hl i x v hi e1 vis
 refine wpAny_AugAssign_Name ?_
 have go:wpAny (model X.prog X.w) X.A (eval e X.env) (fun w s₂=>wpAny (model X.prog X.w) X.A (inplaceOp op u w) (fun r s₃=>wpAny (model X.prog X.w) X.A (storeName X.env x r) (fun _=>SP X pins D .next) X.xe s₃) X.xe s₂) X.xe s:=by
  refine thn (he pins s σ H _ I h) fun w s1 zz16 => ?_
  obtain ⟨y,H1,I1,r1,q1⟩ := zz16
  refine thn (ho pins s1 σ H1 v y u w _ I1 r r1 q1) fun z s2 zz17 => ?_
  obtain ⟨zv,H2,I2,r2,q2⟩ := zz17
  exact GX I2 hN hi hx r2 (fun s3 I3=>⟨_,H2,I3,q2⟩) hf
 rcases l with ⟨hk,hm⟩|⟨hk,c,hc,hcell⟩
 .exact wpAny_loadName_local I.ok.kind hk hn hm go
 .rcases hk with hk|hk
  .exact wpAny_loadName_cell I.ok.kind hk hc hcell go
  .rcases hx with k|k
   .have:X.env.scope.names.lookup x=some .free:=hk
    rw[k]at this;cases this
   .have:X.env.scope.names.lookup x=some .free:=hk
    rw[k]at this;cases this
def LO (to ti te:TE) (tget:V->V->Hp->VK->Prop) (tip:TIp) (tset:TSet):TS:=fun D σ H=>to σ H fun o H1=>ti σ H1 fun i H2=>tget o i H2 fun x H3=>te σ H3 fun y H4=>tip x y H4 fun z H5=>tset o i z H5 fun H6=>D.nx σ H6
def PGet (X:Cx) (t:V->V->Hp->VK->Prop):Prop:=
 ∀(pins:AL) (s:Shared) (σ:St) (H:Hp) (o i:V) (ov iv:Value) (Q:VK),Inv X pins σ H s->RelV o ov->RelV i iv->t o i H Q->
  wpAny (model X.prog X.w) X.A (getItem ov iv) (EP X pins σ Q) X.xe s
def QF {o i e:Expr} {to ti te:TE} {tget:V->V->Hp->VK->Prop} {tip:TIp} {tset:TSet} {op:Operator} {tpos:Pos} (ho:PE X o to) (hi:PE X i ti) (hg:PGet X tget) (he:PE X e te) (hp:PIp X op tip) (hs:PSet X tset)
  (ha:∀ov iv new,augStore i ov iv new=(do holding [new,ov,iv] (setItem ov iv new);release [new,ov,iv] [];pure .next):=by intros;rfl):PS X (.AugAssign (.Subscript o i tpos) op e pos) (LO to ti te tget tip tset):=by
 intro pins s σ H D I h
 refine wpAny_AugAssign_SubscriptAny (thn (ho pins s σ H _ I h) fun ov s1 ⟨x1,H1,I1,r1,q1⟩=>?_) ha
 refine thn (hi pins s1 σ H1 _ I1 q1) fun iv s2 zz19 => ?_
 obtain ⟨x2,H2,I2,r2,q2⟩ := zz19
 refine thn (hg pins s2 σ H2 x1 x2 ov iv _ I2 r1 r2 q2) fun old s3 zz20 => ?_
 obtain ⟨x3,H3,I3,r3,q3⟩ := zz20
 refine thn (he pins s3 σ H3 _ I3 q3) fun v s4 zz21 => ?_
 obtain ⟨x4,H4,I4,r4,q4⟩ := zz21
 refine thn (hp pins s4 σ H4 x3 x4 old v _ I4 r3 r4 q4) fun new s5 zz22 => ?_
 obtain ⟨x5,H5,I5,r5,q5⟩ := zz22
 exact thn (hs pins s5 σ H5 x1 x2 x5 ov iv new _ I5 r1 r2 r5 q5) fun _ s6 zz23 => by obtain ⟨H6,I6,q6⟩ := zz23; exact ⟨σ,H6,I6,q6⟩
def ipI (f:Int->Int->Int):TIp:=fun x y H Q=> ∃i j,x=.int i/\y=.int j/\Q (.int (f i j)) H
def IF:PIp X .Add (ipI fun i j=>i+j):=by
 intro pins s σ H x y v u Q I r1 r2 h;obtain⟨i,j,e1,e2,q⟩:=h;subst e1;subst e2;obtain⟨t,rfl⟩:=r1;obtain⟨t',rfl⟩:=r2;exact iadd_int ⟨.int _,H,I.tok _,⟨_,rfl⟩,q⟩
def IG:PIp X .Sub (ipI fun i j=>i-j):=by
 intro pins s σ H x y v u Q I r1 r2 h;obtain⟨i,j,e1,e2,q⟩:=h;subst e1;subst e2;obtain⟨t,rfl⟩:=r1;obtain⟨t',rfl⟩:=r2;exact isub_int ⟨.int _,H,I.tok _,⟨_,rfl⟩,q⟩
end
section
variable {X:Cx} {pos:Pos}
def LP (c:TT) (tb:TS):TS:=fun D σ H=> ∃W:Nat->St->Hp->Prop,(∃m,W m σ H)/\∀m σ H,W m σ H->
 c σ H fun b H1=>if b=true then ∃N:St->Hp->Prop,(∀σ' H',N σ' H'->∃m',m' < m/\W m' σ' H')/\tb {D with nx:=N,ct:=N,bk:=D.nx} σ H1 else D.nx σ H1
def QG {c:Expr} {body:List Stmt} {tc:TT} {tb:TS} (hp:PassesOwn (model X.prog X.w) X.A X.env X.xe) (hc:PT X c tc) (hb:yW X body tb):PS X (.While c body [] pos) (LP tc tb):=by
 intro pins s σ H D I h;obtain⟨W,⟨m0,w0⟩,turn⟩:=h
 refine wpAny_While (codeAny_whileLoop (fun n s'=> ∃σ' H',Inv X pins σ' H' s'/\W n σ' H') ?_ m0 ⟨σ,H,I,w0⟩)
 rintro n s1 ⟨σ1,H1,I1,w1⟩
 refine Dr hp (thn (hc pins s1 σ1 H1 _ I1 (turn n σ1 H1 w1)) fun b s2 ⟨H2,I2,q2⟩=>?_)
 cases b with
 |true=>
  obtain⟨N,hN,q2⟩:=q2;rw[Ac rfl]
  refine Dr hp (thn (hb pins s2 σ1 H2 _ I2 q2) fun f s3 q3=>?_)
  cases f with
  |next=>
   obtain⟨σ3,H3,I3,n3⟩:=q3;obtain⟨m',hm,w3⟩:=hN σ3 H3 n3;exact⟨m',hm,σ3,H3,I3,w3⟩
  |cont=>
   obtain⟨σ3,H3,I3,n3⟩:=q3;obtain⟨m',hm,w3⟩:=hN σ3 H3 n3;exact⟨m',hm,σ3,H3,I3,w3⟩
  |brk=>exact q3
  |ret v=>exact q3
 |false=>
  rw[Ab Bb];exact Fe ⟨σ1,H2,I2,q2⟩
end
structure It where
 go:Nat->Hp->Prop
 yld:Nat->Hp->V->Hp->Prop
 stop:Nat->Hp->Prop
def yN (X:Cx) (pins:AL) (H:Hp) (b:Addr):Prop:=
 H b=none/\b≠X.env.locals/\b∉X.fs/\(b∈X.ex\/X.s₀.heap.objs.size<=b)/\(∀x c,X.env.cells.lookup x=some c->c≠b)/\∀p∈X.pn++pins,p.1≠b
def Inv.fpOk {X:Cx} {pins:AL} {σ:St} {H H':Hp} {s:Shared} {b:Addr} (I:Inv X pins σ H s) (hb:s.heap.objs.size<=b) (hn:H' b=none):yN X pins H' b:=by
 refine⟨hn,Cw (Bk I.lt hb),I.nofs hb,.inr (Bw I.sz hb),fun x c e z=>?_,fun p hp z=>?_⟩
 .obtain⟨v,q⟩:=I.cell x c e
  exact absurd (Bk q.lt (by rw[z];exact hb)) (Cb _)
 .exact absurd (Bk (Aj (I.pin p hp).1) (by rw[z];exact hb)) (Cb _)
structure Turn (P:Program) (w:World) (K:FG) (tg:Expr) (J:It) (fp:List Addr) (it:Addr) (tn:Nat->Heap->Prop):Prop where
 mem:it∈fp
 obj:∀i h,tn i h->∀b∈fp,∃o,h.get? b=some o/\∀v,o.data≠ .cell v
 keep:∀i h h',tn i h->(∀b∈fp,∀o,h.get? b=some o->h'.get? b=some o)->tn i h'
 item:∀(X:Cx),X.prog=P->X.w=w->X.K=K->X.calm=true->∀(i:Nat) (pins:AL) (s:Shared) (σ:St) (H:Hp) (E:VP),Inv X pins σ H s->(∀b∈fp,yN X pins H b)->tn i s.heap->J.go i H->
  wpAny (model P w) X.A (pyNext (.ref it)) (fun r s1=> ∃u,r=some u/\
   wpAny (model P w) X.A (letOwnedTupleGo tg (.ref it) u) (fun _ s2=> ∃x H',Inv X pins σ H' s2/\RelV x u/\J.yld i H x H'/\tn (i+1) s2.heap/\∀b∈fp,H' b=none) E s1) E s
 done:∀(X:Cx),X.prog=P->X.w=w->X.K=K->X.calm=true->∀(i:Nat) (pins:AL) (s:Shared) (σ:St) (H:Hp) (E:VP),Inv X pins σ H s->(∀b∈fp,yN X pins H b)->tn i s.heap->J.stop i H->
  wpAny (model P w) X.A (pyNext (.ref it)) (fun r s1=>r=none/\Inv X pins σ H s1) E s
 self:∀(A:Around) (i:Nat) (s:Shared) (Q:VP) (E:VP),tn i s.heap->Q (.ref it) s->wpAny (model P w) A (pyIter (.ref it)) Q E s
abbrev TI:=St->Hp->(It->Hp->Prop)->Prop
def PIE (X:Cx) (pins:AL) (σ:St) (tg:Expr) (R:It->Hp->Prop) (itv:Value) (s2:Shared):Prop:=
 ∃(it:Addr) (fp:List Addr) (tn:Nat->Heap->Prop) (J:It) (H':Hp),itv=.ref it/\Inv X pins σ H' s2/\Turn X.prog X.w X.K tg J fp it tn/\tn 0 s2.heap/\(∀b∈fp,yN X pins H' b)/\R J H'
def PI (X:Cx) (tg iter:Expr) (wi:TI):Prop:=
 ∀(pins:AL) (s:Shared) (σ:St) (H:Hp) (R:It->Hp->Prop),Inv X pins σ H s->wi σ H R->
  wpAny (model X.prog X.w) X.A (eval iter X.env) (fun v s1=>wpAny (model X.prog X.w) X.A (pyIter v) (PIE X pins σ tg R) X.xe s1) X.xe s
def EJ {M:Model} {A:Around} {E:VP} {s:Shared} {tg:Expr} {it:Addr} {u:Value} {o:Obj} {n:String} {vs:Array Value} {Q:Unit->Shared->Prop} (ho:s.heap.get? it=some o) (hc:o.cls=.type n) (hd:o.data=.fields vs)
    (hn:["enumerate","zip","dict_itemiterator","dict_reverseitemiterator","odict_iterator","itertools.zip_longest","itertools.pairwise"].contains n=false) (hQ:Q () s):wpAny M A (letOwnedTupleGo tg (.ref it) u) Q E s:=by
  unfold letOwnedTupleGo;cases tg<;>first
    |exact Ad hQ
    | (cases u<;>first
        |exact Ad hQ
        | (refine Aa (wpAny_load ho ?_)
           rw[hc,hd];show wpAny M A (if (["enumerate","zip","dict_itemiterator","dict_reverseitemiterator","odict_iterator","itertools.zip_longest","itertools.pairwise"].contains n && vs[0]? ==some (rawInt _))=true then _ else _) Q E s
           rw[Ab (by intro h;rw[hn,D6]at h;cases h)]
           exact Ad hQ))
def Itl (K:FG) (a:Addr):It:=
 ⟨fun i H=> ∃xs x,SqL K H a xs/\xs[i]? =some x,fun i H x H'=>H'=H/\∀xs,SqL K H a xs->xs[i]? =some x,fun i H=> ∃xs,SqL K H a xs/\xs.length<=i⟩
def Itr (lo:Int) (n:Nat):It:=⟨fun i _=>i<n,fun i H x H'=>H'=H/\x=.int (lo+i),fun i _=>n<=i⟩
def QH {P:Program} {w:World} {K:FG} {tg:Expr} (a it:Addr):Turn P w K tg (Itl K a) [it] it (fun i h=>h.IsListIter it a i) where
 mem:=by simp
 obj:=fun i h st b hb=>by
  have e:b=it:=by simpa using hb
  subst e;obtain⟨o,e,c,d⟩:=st;exact⟨o,e,fun v z=>by rw[d]at z;cases z⟩
 keep:=fun i h h' st k=>st.at fun o e=>k it (by simp) o e
 item:=by
  intro X hP hw hK hc i pins s σ H E I hf st hg;subst hP hw hK;obtain⟨xs,x,hq,hx⟩:=hg;obtain⟨its,rv,p,hz⟩:=I.list hq;obtain⟨u,hu,ru⟩:=rv.get hx;obtain⟨f0,f1,f2,f3,f4,f5⟩:=hf it (by simp)
  refine wpAny_pyNext_list_item st p.isList (x:=u) (by simpa using hu) fun h' st' sb=>?_
  have I1:Inv X pins σ H {s with heap:=h'}:=I.turned (t':=s.toks) (fun b o hb e=>(sb.2 b hb).trans e) f0 f1 f3 f4 f5
  obtain⟨o,e,c,d⟩:=id st';exact⟨u,rfl,EJ (s:={s with heap:=h'}) e c d (by decide) ⟨x,H,I1,ru,⟨rfl,fun ys hy=>by rw[I.list_inj hy hq];exact hx⟩,st',fun b hb=>(hf b hb).1⟩⟩
 done:=by
  intro X hP hw hK hc i pins s σ H E I hf st hg;subst hP hw hK;obtain⟨xs,hq,hx⟩:=hg;obtain⟨its,rv,p,hz⟩:=I.list hq;obtain⟨f0,f1,f2,f3,f4,f5⟩:=hf it (by simp)
  have hl:=rv.length;exact wpAny_pyNext_list_end (I.ok.hd hc) st p.isList (by simp;lia) fun h' eb=>⟨rfl,I.turned (t':=s.toks) (fun b o hb e=>eb b o hb e) f0 f1 f3 f4 f5⟩
 self:=fun _ _ _ _ _ st h=>wpAny_pyIter_listiter st h
def QI {P:Program} {w:World} {K:FG} {tg:Expr} (it:Addr) (lo:Int) (n:Nat):Turn P w K tg (Itr lo n) [it] it (fun i h=>IsRangeIter h it (lo+(i:Nat)*1) ((n:Int)-(i:Nat)) 1) where
 mem:=by simp
 obj:=fun i h st b hb=>by
  have e:b=it:=by simpa using hb
  subst e;exact⟨_,st,fun v z=>by
   have z':Data.fields _=Data.cell v:=z;cases z'⟩
 keep:=fun i h h' st k=>k it (by simp) _ st
 item:=by
  intro X hP hw hK hc i pins s σ H E I hf st hg;subst hP hw hK;obtain⟨f0,f1,f2,f3,f4,f5⟩:=hf it (by simp)
  have W:=Walks.range (prog:=X.prog) (w:=X.w) (I.ok.hd hc) it lo 1 n
  refine W.item i s _ _ hg st fun v h' tk hv st' kk=>?_
  obtain⟨t,rfl⟩:=hv;have I1:Inv X pins σ H {s with heap:=h',toks:=tk}:=I.turned (fun b o hb e=>kk b o (by simpa using hb) e) f0 f1 f3 f4 f5
  refine⟨_,rfl,EJ (s:={s with heap:=h',toks:=tk}) (n:="range_iterator") st' rfl rfl (by decide) ⟨.int (lo+i),H,I1,⟨t,?_⟩,⟨rfl,rfl⟩,st',fun b hb=>(hf b hb).1⟩⟩
  rw[Int.mul_one]
 done:=by
  intro X hP hw hK hc i pins s σ H E I hf st hg;subst hP hw hK;obtain⟨f0,f1,f2,f3,f4,f5⟩:=hf it (by simp)
  exact wpAny_pyNext_range_end (I.ok.hd hc) st (by have:n<=i:=hg;lia) fun h' eb=>⟨rfl,I.turned (t':=s.toks) (fun b o hb e=>eb b o hb e) f0 f1 f3 f4 f5⟩
 self:=fun _ _ _ _ _ st h=>wpAny_pyIter_rangeiter st h
section
variable {X:Cx} {tg:Expr}
def QJ (K:FG) (tl:TE):TI:=fun σ H R=>tl σ H fun x H1=> ∃a,x=.ref a/\(∃xs,SqL K H1 a xs)/\R (Itl K a) H1
def QK {l:Expr} {tl:TE} (hl:PE X l tl):PI X tg l (QJ X.K tl):=by
 intro pins s σ H R I h
 refine thn (hl pins s σ H _ I h) fun v s1 zz25 => ?_
 obtain ⟨x,H1,I1,r1,q1⟩ := zz25
 obtain⟨a,e,⟨xs,hq⟩,q⟩:=q1;subst e;cases r1;obtain⟨its,rv,p,hz⟩:=I1.list hq
 refine Et p.isList ?_
 refine⟨s1.heap.objs.size,[s1.heap.objs.size],_,_,H1,rfl,I1.kept (t':=s1.toks) fun b o e=>Ay _ e,QH a _,⟨_,Bf _ rfl,rfl,rfl⟩,fun b hb=>?_,q⟩
 have e:b=s1.heap.objs.size:=by simpa using hb
 subst e;exact I1.fpOk (Ah _) (I1.hok.fresh (Ah _))
def QL {pins:AL} {σ:St} {H:Hp} {s:Shared} {R:It->Hp->Prop} {E:VP} {lo hi:Int} {t u v:Tok} {tk:Nat} (I:Inv X pins σ H s) (h1: -(2 ^ 62)<=lo) (h2:lo<2 ^ 62) (h3: -(2 ^ 62)<=hi) (h4:hi<2 ^ 62)
  (q:R (Itr lo (hi-lo).toNat) H):wpAny (model X.prog X.w) X.A (pyIter (.ref s.heap.objs.size)) (PIE X pins σ tg R) E {s with heap:=s.heap.push {cls:= .type "range",data:= .fields #[.int lo t,.int hi u,.int 1 v]},toks:=tk}:=by
 refine wpAny_pyIter_range (IsRange.new ..) (small_one h1 h2 h3 h4) ?_
 have I1:Inv X pins σ H {s with heap:=s.heap.push {cls:= .type "range",data:= .fields #[.int lo t,.int hi u,.int 1 v]},toks:=tk}:=I.kept fun b o e=>Ay _ e
 refine⟨(s.heap.push {cls:= .type "range",data:= .fields #[.int lo t,.int hi u,.int 1 v]}).objs.size,[(s.heap.push {cls:= .type "range",data:= .fields #[.int lo t,.int hi u,.int 1 v]}).objs.size],_,_,H,rfl,
  I1.kept (t':=tk) fun b o e=>Ay _ e,QI _ lo (hi-lo).toNat,?_,fun b hb=>?_,q⟩
 .have e1:lo+((0:Nat):Int)*1=lo:=by simp
  have e2:(((hi-lo).toNat:Nat):Int)-((0:Nat):Int)=Builtin.Range.rangeSize lo hi 1:=by rw[rangeSize_one];split<;>lia
  show IsRangeIter _ _ (lo+((0:Nat):Int)*1) ((((hi-lo).toNat:Nat):Int)-((0:Nat):Int)) 1;rw[e1,e2];exact Bf _ rfl
 .have e:b=(s.heap.push {cls:= .type "range",data:= .fields #[.int lo t,.int hi u,.int 1 v]}).objs.size:=by simpa using hb
  subst e;exact I1.fpOk (Ah _) (I1.hok.fresh (Ah _))
def QM (ta:TA):TI:=fun σ H R=>ta σ H fun vs H1=> ∃j:Int,vs=[.int j]/\ -(2 ^ 62)<=j/\j<2 ^ 62/\R (Itr 0 j.toNat) H1
def QN {a:Expr} {ta:TA} {p pos:Pos} (hg:Gl X "range") (hm:X.mg "range" =none) (ha:PA X [a] ta) (hs:starEach [a] X.env=[(false,eval a X.env)]:=by rfl):PI X tg (.Call (.Name "range" p) [a] [] pos) (QM ta):=by
 intro pins s σ H R I h
 refine Call_ (BP I hg hm boot_range (Eu (thn (ha pos pins s σ H _ I h) fun us s1 ⟨vs,H1,I1,r1,q1⟩=>?_) hs rfl))
 obtain⟨j,e,q1,q2,q⟩:=q1;subst e;cases r1 with
 |cons r rr=>
  cases rr;obtain⟨t,rfl⟩:=r;exact call_range_1 (QL I1 (by lia) (by lia) q1 q2 (by simpa using q))
def tFor (wi:TI) (g:TG) (tb:TS):TS:=fun D σ H=>wi σ H fun J H1=> ∃W:Nat->Nat->St->Hp->Prop,(∃m,W 0 m σ H1)/\∀i m σ H,W i m σ H->
 (J.stop i H/\D.nx σ H)\/(J.go i H/\∃N:St->Hp->Prop,(∀σ' H',N σ' H'->∃m',m' < m/\W (i+1) m' σ' H')/\∀x H',J.yld i H x H'->g x σ H' fun σ2 H2=>tb {D with nx:=N,ct:=N,bk:=D.nx} σ2 H2)
def EK (fp:List Addr) (h:Heap):AL:=fp.filterMap fun b=>(h.get? b).map fun o=>(b,o)
def GZ {fp:List Addr} {h:Heap} {b:Addr} {o:Obj} (hb:b∈fp) (e:h.get? b=some o):(b,o)∈EK fp h:=Ew.mpr ⟨b,hb,by rw[e];rfl⟩
def QO {fp:List Addr} {h:Heap} {p:Addr×Obj} (hp:p∈EK fp h):p.1∈fp/\h.get? p.1=some p.2:=by
 obtain⟨b,hb,e⟩:=Ew.mp hp;cases q:h.get? b with
 |none=>rw[q]at e;cases e
 |some o=>
  rw[q]at e;have e':(b,o)=p:=Option.some.inj e;subst e';exact⟨hb,q⟩
def Inv.pinned {pins:AL} {σ:St} {H:Hp} {s:Shared} {fp:List Addr} (I:Inv X pins σ H s) (hf:∀b∈fp,yN X pins H b) (ho:∀b∈fp,∃o,s.heap.get? b=some o/\∀v,o.data≠ .cell v):Inv X (pins++EK fp s.heap) σ H s:=
 I.pins_of fun p hp=>(Ax.mp hp).elim (fun z=>I.pin p (Bu _ z)) fun z=>by
  obtain⟨hb,e⟩:=QO z;obtain⟨f0,f1,f2,_⟩:=hf p.1 hb;obtain⟨o,e',d⟩:=ho p.1 hb;rw[e]at e';cases e';exact⟨e,f0,f1,f2,d⟩
def Inv.unpinned {pins pl:AL} {σ:St} {H:Hp} {s:Shared} (I:Inv X (pins++pl) σ H s):Inv X pins σ H s:=I.pins_of fun p hp=>I.pin p (Bu _ (Da _ hp))
def QP {iter:Expr} {body:List Stmt} {wi:TI} {g:TG} {tb:TS} {pos:Pos} (hp:PassesOwn (model X.prog X.w) X.A X.env X.xe) (hc:X.calm=true) (hi:PI X tg iter wi) (hg:PG X tg g) (hb:yW X body tb)
  (hs:∀x,foldedSetIterable iter X.env x=pure x:=by intro _;rfl):PS X (.For tg iter body [] pos) (tFor wi g tb):=by
 intro pins s σ H D I h
 refine wpAny_For (thn (hi pins s σ H _ I h) fun v s1 h1=>thn h1 fun itv s2 h2=>?_) hs
 obtain⟨it,fp,tn,J,H2,e,I2,T,st2,f2,W,⟨m0,w0⟩,turn⟩:=h2;subst e;have stat:∀{H':Hp},(∀b∈fp,H' b=none)->∀b∈fp,yN X pins H' b:=fun hn b hb=>⟨hn b hb,(f2 b hb).2⟩
 refine codeAny_forLoop_any (fun n s'=> ∃i σ' H',Inv X pins σ' H' s'/\tn i s'.heap/\(∀b∈fp,H' b=none)/\W i n σ' H') ?_ m0 ⟨0,σ,H2,I2,st2,fun b hb=>(f2 b hb).1,w0⟩
 rintro n s3 ⟨i,σ3,H3,I3,st3,fr3,w3⟩
 rcases turn i n σ3 H3 w3 with ⟨stop,qn⟩|⟨go,N,hN,step⟩
 .refine Dr hp (thn (T.done X rfl rfl rfl hc i pins s3 σ3 H3 X.xe I3 (stat fr3) st3 stop) fun r s4 ⟨hr,I4⟩=>?_)
  subst hr;exact Fe ⟨σ3,H3,I4,qn⟩
 .refine Dr hp (thn (T.item X rfl rfl rfl hc i pins s3 σ3 H3 X.xe I3 (stat fr3) st3 go) fun r s4 ⟨u,hr,h4⟩=>?_)
  subst hr
  refine Dr hp (thn h4 fun _ s5 ⟨x,H5,I5,r5,y5,st5,fr5⟩=>?_)
  have I5':=I5.pinned (stat fr5) (T.obj _ _ st5)
  refine Dr hp (thn (hg _ s5 σ3 H5 x u _ I5' r5 (step x H5 y5)) fun _ s6 ⟨σ6,H6,I6,q6⟩=>?_)
  refine Dr hp (thn (hb _ s6 σ6 H6 _ I6 q6) fun f s7 q7=>?_)
  have again:∀{σ7:St} {H7:Hp},Inv X (pins++EK fp s5.heap) σ7 H7 s7->N σ7 H7->∃m,m<n/\∃i σ' H',Inv X pins σ' H' s7/\tn i s7.heap/\(∀b∈fp,H' b=none)/\W i m σ' H':=fun {σ7 H7} I7 n7=>by
   obtain⟨m',hm,w7⟩:=hN σ7 H7 n7
   refine⟨m',hm,i+1,σ7,H7,I7.unpinned,T.keep _ _ _ st5 fun b hb o e=>(I7.pin (b,o) (Bu _ (Bu _ (GZ hb e)))).1,fun b hb=>?_,w7⟩
   obtain⟨o,e,d⟩:=T.obj _ _ st5 b hb;exact (I7.pin (b,o) (Bu _ (Bu _ (GZ hb e)))).2.1
  cases f with
  |next=>obtain⟨σ7,H7,I7,n7⟩:=q7;exact again I7 n7
  |cont=>obtain⟨σ7,H7,I7,n7⟩:=q7;exact again I7 n7
  |brk=>obtain⟨σ7,H7,I7,q7⟩:=q7;exact⟨σ7,H7,I7.unpinned,q7⟩
  |ret v=>obtain⟨x7,σ7,H7,I7,r7,q7⟩:=q7;exact⟨x7,σ7,H7,I7.unpinned,r7,q7⟩
end
abbrev R2:=V->V->Hp->VK->Prop
def OpR (X:Cx) (f:Value->Value->Sem Value) (r:R2):Prop:=
 ∀(pins:AL) (s:Shared) (σ:St) (H:Hp) (x y:V) (v u:Value) (Q:VK),Inv X pins σ H s->RelV x v->RelV y u->r x y H Q->
  wpAny (model X.prog X.w) X.A (f v u) (EP X pins σ Q) X.xe s
def UnR (X:Cx) (f:Value->Sem Value) (r:V->Hp->VK->Prop):Prop:=
 ∀(pins:AL) (s:Shared) (σ:St) (H:Hp) (x:V) (v:Value) (Q:VK),Inv X pins σ H s->RelV x v->r x H Q->
  wpAny (model X.prog X.w) X.A (f v) (EP X pins σ Q) X.xe s
def qg (X:Cx) (f:Value) (r:List V->Hp->VK->Prop):Prop:=
 ∀(pins:AL) (s:Shared) (σ:St) (H:Hp) (xs:List V) (us:List Value) (Q:VK),Inv X pins σ H s->Vals xs us->r xs H Q->
  wpAny (model X.prog X.w) X.A (call f us) (EP X pins σ Q) X.xe s
def TruR (X:Cx) (r:V->Hp->(Bool->Hp->Prop)->Prop):Prop:=
 ∀(pins:AL) (s:Shared) (σ:St) (H:Hp) (x:V) (v:Value) (Q:Bool->Hp->Prop),Inv X pins σ H s->RelV x v->r x H Q->
  wpAny (model X.prog X.w) X.A (truthy v) (TP X pins σ Q) X.xe s
def tOp (r:R2) (ta tb:TE):TE:=fun σ H Q=>ta σ H fun x H1=>tb σ H1 fun y H2=>r x y H2 Q
def tUn (r:V->Hp->VK->Prop) (ta:TE):TE:=fun σ H Q=>ta σ H fun x H1=>r x H1 Q
def rI (C:Int->Int->Prop) (g:Int->Int->V):R2:=fun x y H Q=> ∃i j,x=.int i/\y=.int j/\C i j/\Q (g i j) H
def qK (g:Int->Int->V):R2:=fun x y H Q=> ∃i j,x=.int i/\y=.int j/\Q (g i j) H
def rU (g:Int->V):V->Hp->VK->Prop:=fun x H Q=> ∃i,x=.int i/\Q (g i) H
section
variable {X:Cx} {a b c:Expr} {ta tb tc:TE} {pos:Pos}
def binT (ha:PE X a ta) (hb:PE X b tb) {pins:AL} {s:Shared} {σ:St} {H:Hp} {R:V->V->Hp->Prop} (I:Inv X pins σ H s)
  (h:ta σ H fun x H1=>tb σ H1 fun y H2=>R x y H2) {Q:VP} {f:Value->Value->Sem Value}
  (hf:∀v u s2 x y H2,Inv X pins σ H2 s2->RelV x v->RelV y u->R x y H2->wpAny (model X.prog X.w) X.A (f v u) Q X.xe s2):
  wpAny (model X.prog X.w) X.A (eval a X.env) (fun v s₁=>wpAny (model X.prog X.w) X.A (eval b X.env) (fun u s₂=>wpAny (model X.prog X.w) X.A (f v u) Q X.xe s₂) X.xe s₁) X.xe s:=by
 refine thn (ha pins s σ H _ I h) fun v s1 zz31 => ?_
 obtain ⟨x,H1,I1,r1,q1⟩ := zz31
 refine thn (hb pins s1 σ H1 _ I1 q1) fun u s2 zz32 => ?_
 obtain ⟨y,H2,I2,r2,q2⟩ := zz32
 exact hf v u s2 x y H2 I2 r1 r2 q2
def QQ {op:Operator} {r:R2} (ho:OpR X (binaryOp op) r) (ha:PE X a ta) (hb:PE X b tb):PE X (.BinOp a op b pos) (tOp r ta tb):=by
 intro pins s σ H Q I h;exact wpAny_BinOp (binT ha hb I h fun v u s2 x y H2 I2 rx ry q=>ho pins s2 σ H2 x y v u Q I2 rx ry q)
def QR {op:UnaryOp} {r:V->Hp->VK->Prop} (ho:UnR X (unaryOp op) r) (ha:PE X a ta):PE X (.UnaryOp op a pos) (tUn r ta):=by
 intro pins s σ H Q I h;exact UnaryOp_ (thn (ha pins s σ H _ I h) fun v s1 zz33 => by obtain ⟨x,H1,I1,r1,q1⟩ := zz33; exact ho pins s1 σ H1 x v Q I1 r1 q1)
def opI {f:Value->Value->Sem Value} {C:Int->Int->Prop} {g:Int->Int->Int}
  (rule:∀(i j:Int) (t u:Tok) (s:Shared) (Q:VP) (E:VP),C i j->Q (.int (g i j) s.toks) {s with toks:=s.toks+1}->wpAny (model X.prog X.w) X.A (f (.int i t) (.int j u)) Q E s):
  OpR X f (rI C fun i j=>.int (g i j)):=by
 intro pins s σ H x y v u Q I rx ry h;obtain⟨i,j,rfl,rfl,hc,q⟩:=h;obtain⟨t,rfl⟩:=rx;obtain⟨t',rfl⟩:=ry;exact rule i j t t' s _ _ hc ⟨.int (g i j),H,I.tok _,⟨_,rfl⟩,q⟩
def opI0 {f:Value->Value->Sem Value} {g:Int->Int->Int}
  (rule:∀(i j:Int) (t u:Tok) (s:Shared) (Q:VP) (E:VP),Q (.int (g i j) s.toks) {s with toks:=s.toks+1}->wpAny (model X.prog X.w) X.A (f (.int i t) (.int j u)) Q E s):
  OpR X f (qK fun i j=>.int (g i j)):=by
 intro pins s σ H x y v u Q I rx ry h;obtain⟨i,j,rfl,rfl,q⟩:=h;obtain⟨t,rfl⟩:=rx;obtain⟨t',rfl⟩:=ry;exact rule i j t t' s _ _ ⟨.int (g i j),H,I.tok _,⟨_,rfl⟩,q⟩
def opB0 {f:Value->Value->Sem Value} {g:Int->Int->Bool}
  (rule:∀(i j:Int) (t u:Tok) (s:Shared) (Q:VP) (E:VP),Q (.bool (g i j)) s->wpAny (model X.prog X.w) X.A (f (.int i t) (.int j u)) Q E s):
  OpR X f (qK fun i j=>.bl (g i j)):=by
 intro pins s σ H x y v u Q I rx ry h;obtain⟨i,j,rfl,rfl,q⟩:=h;obtain⟨t,rfl⟩:=rx;obtain⟨t',rfl⟩:=ry;exact rule i j t t' s _ _ ⟨.bl (g i j),H,I,rfl,q⟩
def CDiv (i j:Int):Prop:=0<j/\j<1073741824
def CPow (i j:Int):Prop:=0<=j/\j<=1000000/\i.natAbs<2 ^ 64
def CMul (i j:Int):Prop:=(-(2 ^ 64)<i/\i<2 ^ 64)\/(-(2 ^ 64)<j/\j<2 ^ 64)
def CMul.ok {i j:Int} (h:CMul i j):IntMulOk i j:=by
 rcases h with ⟨h1,h2⟩|⟨h1,h2⟩
 .exact .of_left (intBits_le_64 h1 h2)
 .exact .of_right (intBits_le_64 h1 h2)
def QS (k:Nat):(0:Int)<=2 ^ k:=by
 rw[two_pow_cast];exact Int.natCast_nonneg _
def op_add:OpR X (binaryOp .Add) (qK fun i j=>.int (i+j)):=opI0 fun _ _ _ _ _ _ _ q=>add_int q
def qL:OpR X (binaryOp .Sub) (qK fun i j=>.int (i-j)):=opI0 fun _ _ _ _ _ _ _ q=>sub_int q
def op_mul:OpR X (binaryOp .Mult) (rI CMul fun i j=>.int (i*j)):=opI fun _ _ _ _ _ _ _ hc q=>mul_int q hc.ok
def qy:OpR X (binaryOp .FloorDiv) (rI CDiv fun i j=>.int (i / j)):=opI fun i j _ _ _ _ _ hc q=>by
 have h1:(0:Int)<j:=hc.1;have h2:j<1073741824:=hc.2;exact floordiv_int (by lia) (by rw[Int.fdiv_eq_ediv_of_nonneg i (by lia)];exact q) (.inl (PyProof.noPylong_small (by lia)))
def yF:OpR X (binaryOp .Mod) (rI (fun _ j=>0<j) fun i j=>.int (i%j)):=opI fun i j _ _ _ _ _ hc q=>by
 have h1:(0:Int)<j:=hc;exact mod_int' (by lia) (by rw[Int.fmod_eq_emod_of_nonneg i (by lia)];exact q)
def QT:OpR X (binaryOp .Pow) (rI CPow fun i j=>.int (i ^ j.toNat)):=opI fun _ _ _ _ _ _ _ hc q=>pow_int_small hc.1 hc.2.1 hc.2.2 q
def QU:OpR X (binaryOp .RShift) (rI (fun _ j=>0<=j) fun i j=>.int (i / 2 ^ j.toNat)):=opI fun i j _ _ _ _ _ hc q=>
 rshift_int hc (by rw[Int.fdiv_eq_ediv_of_nonneg i (QS _)];exact q)
def QV:OpR X (binaryOp .BitAnd) (qK fun i j=>.int (Builtin.bitAnd i j)):=opI0 fun _ _ _ _ _ _ _ q=>and_int q
def unI {f:Value->Sem Value} {g:Int->Int}
  (rule:∀(i:Int) (t:Tok) (s:Shared) (Q:VP) (E:VP),Q (.int (g i) s.toks) {s with toks:=s.toks+1}->wpAny (model X.prog X.w) X.A (f (.int i t)) Q E s):
  UnR X f (rU fun i=>.int (g i)):=by
 intro pins s σ H x v Q I rx h;obtain⟨i,rfl,q⟩:=h;obtain⟨t,rfl⟩:=rx;exact rule i t s _ _ ⟨.int (g i),H,I.tok _,⟨_,rfl⟩,q⟩
def QW:UnR X (unaryOp .USub) (rU fun i=>.int (-i)):=unI fun _ _ _ _ _ q=>neg_int q
end
section
variable {X:Cx} {a b c:Expr} {ta tb tc:TE} {pos:Pos}
def IH {pins:AL} {σ:St} {H:Hp} {s:Shared} {Q:VK} {k k':Bool} (I:Inv X pins σ H s) (q:Q (.bl k) H) (e:k=k'):EP X pins σ Q (.bool k') s:=by
 subst e;exact⟨.bl k,H,I,rfl,q⟩
def AC:OpR X (compareOp .Lt) (qK fun i j=>.bl (decide (i<j))):=opB0 fun _ _ _ _ _ _ _ q=>lt_int q
def AD:OpR X (compareOp .LtE) (qK fun i j=>.bl (decide (i<=j))):=opB0 fun _ _ _ _ _ _ _ q=>le_int q
def jH:OpR X (compareOp .Gt) (qK fun i j=>.bl (decide (j<i))):=opB0 fun _ _ _ _ _ _ _ q=>gt_int q
def LQ:OpR X (compareOp .In) (fun x y H Q=> ∃i j,x=.str i/\y=.str j/\Q (.bl (!(Builtin.Str.occurrences j i 0 j.length 1).isEmpty)) H):=by
 intro pins s σ H x y v u Q I rx ry h;obtain⟨i,j,rfl,rfl,q⟩:=h;obtain⟨t,rfl⟩:=rx;obtain⟨t',rfl⟩:=ry;exact in_str (IH I q rfl)
def QX:OpR X (compareOp .Is) (fun x y H Q=>y=.non/\Q (.bl (decide (x=.non))) H):=by
 intro pins s σ H x y v u Q I rx ry h;obtain⟨rfl,q⟩:=h;cases ry
 refine is_none_gen (IH I q ?_)
 cases x<;>first
  | (cases rx;rfl)
  | (obtain⟨t,rfl⟩:=rx;rfl)
def II:OpR X (compareOp .IsNot) (fun x y H Q=>y=.non/\Q (.bl (!decide (x=.non))) H):=by
 intro pins s σ H x y v u Q I rx ry h;obtain⟨rfl,q⟩:=h;cases ry
 refine isnot_none_gen (IH I q ?_)
 cases x<;>first
  | (cases rx;rfl)
  | (obtain⟨t,rfl⟩:=rx;rfl)
def OpR.or {f:Value->Value->Sem Value} {r r':R2} (h:OpR X f r) (h':OpR X f r'):OpR X f (fun x y H Q=>r x y H Q\/r' x y H Q):=by
 intro pins s σ H x y v u Q I rx ry q
 rcases q with q|q
 .exact h pins s σ H x y v u Q I rx ry q
 .exact h' pins s σ H x y v u Q I rx ry q
def yh (b:Expr) {op:CmpOp} (h:op≠ .In:=by decide) (h2:op≠ .NotIn:=by decide):behindInMarks op b=false:=by
 have e1:(op==CmpOp.In)=false:=by cases op<;>first|rfl|exact absurd rfl h
 have e2:(op==CmpOp.NotIn)=false:=by cases op<;>first|rfl|exact absurd rfl h2
 cases b<;>simp[behindInMarks,e1,e2]
def QY {op:CmpOp} {r:R2} (ho:OpR X (compareOp op) r) (ha:PE X a ta) (hb:PE X b tb) (hm:behindInMarks op b=false):PE X (.Compare a [op] [b] pos) (tOp r ta tb):=by
 intro pins s σ H Q I h;exact wpAny_Compare1 (binT ha hb I h fun v u s2 x y H2 I2 rx ry q=>ho pins s2 σ H2 x y v u Q I2 rx ry q) hm
def LR (t:TE):TT:=fun σ H Q=>t σ H fun x H'=> ∃k,x=.bl k/\Q k H'
def QZ {op:CmpOp} {r:R2} (ho:OpR X (compareOp op) r) (ha:PE X a ta) (hb:PE X b tb) (hm:behindInMarks op b=false):PT X (.Compare a [op] [b] pos) (LR (tOp r ta tb)):=by
 intro pins s σ H Q I h
 refine wpAny_isTrue_Compare1 (thn (ha pins s σ H _ I h) fun v s1 ⟨x,H1,I1,r1,q1⟩=>thn (hb pins s1 σ H1 _ I1 q1) fun u s2 ⟨y,H2,I2,r2,q2⟩=>
  thn (ho pins s2 σ H2 x y v u _ I2 r1 r2 q2) fun c s3 ⟨z,H3,I3,r3,k,e,q3⟩=>?_) hm
 subst e;cases r3;exact Ce ⟨H3,I3,q3⟩
def IJ (r r':R2) (ta tb tc:TE):TE:=fun σ H Q=>ta σ H fun x H1=>tb σ H1 fun y H2=>r x y H2 fun z H3=> ∃k,z=.bl k/\
 (if k=true then tc σ H3 fun w' H4=>r' y w' H4 Q else Q (.bl false) H3)
def Ra {op op':CmpOp} {r r':R2} (ho:OpR X (compareOp op) r) (ho':OpR X (compareOp op') r') (ha:PE X a ta) (hb:PE X b tb) (hc:PE X c tc)
  (hm:lastMarks [op,op'] [b,c]=false:=by with_unfolding_all rfl):PE X (.Compare a [op,op'] [b,c] pos) (IJ r r' ta tb tc):=by
 intro pins s σ H Q I h
 refine Compare_chain (thn (ha pins s σ H _ I h) fun v s1 ⟨x,H1,I1,r1,q1⟩=>chain_link (thn (hb pins s1 σ H1 _ I1 q1) fun u s2 ⟨y,H2,I2,r2,q2⟩=>
  thn (ho pins s2 σ H2 x y v u _ I2 r1 r2 q2) fun d s3 ⟨z,H3,I3,r3,k,e,q3⟩=>?_)) hm
 subst e;cases r3
 refine Ce ?_
 cases k with
 |false=>exact ite_ff ⟨.bl false,H3,I3,rfl,q3⟩
 |true=>exact ite_tt (chain_last (thn (hc pins s3 σ H3 _ I3 q3) fun w' s4 zz40 => by obtain ⟨z',H4,I4,r4,q4⟩ := zz40; exact ho' pins s4 σ H4 y z' u w' Q I4 r2 r4 q4))
def Rb {op op':CmpOp} {r r':R2} (ho:OpR X (compareOp op) r) (ho':OpR X (compareOp op') r') (ha:PE X a ta) (hb:PE X b tb) (hc:PE X c tc)
  (hm:lastMarks [op,op'] [b,c]=false:=by with_unfolding_all rfl):PT X (.Compare a [op,op'] [b,c] pos) (LR (IJ r r' ta tb tc)):=by
 intro pins s σ H Q I h
 refine isTrue_chain (thn (ha pins s σ H _ I h) fun v s1 ⟨x,H1,I1,r1,q1⟩=>test_link (thn (hb pins s1 σ H1 _ I1 q1) fun u s2 ⟨y,H2,I2,r2,q2⟩=>
  thn (ho pins s2 σ H2 x y v u _ I2 r1 r2 q2) fun d s3 ⟨z,H3,I3,r3,k,e,q3⟩=>?_)) hm
 subst e;cases r3
 refine Ce ?_
 cases k with
 |false=>
  obtain⟨k',e',q'⟩:=q3;cases e';exact ite_ff ⟨H3,I3,q'⟩
 |true=>
  refine ite_tt (test_last (thn (hc pins s3 σ H3 _ I3 q3) fun w' s4 ⟨z',H4,I4,r4,q4⟩=>thn (ho' pins s4 σ H4 y z' u w' _ I4 r2 r4 q4) fun d' s5 ⟨z2,H5,I5,r5,k2,e2,q5⟩=>?_))
  subst e2;cases r5;exact Ce ⟨H5,I5,q5⟩
def TruV (K:FG) (x:V) (H:Hp) (k:Bool):Prop:=
 match x with
 |.non=>k=false
 |.bl b=>k=b
 |.int i=>k=(i !=0)
 |.str y=>y.length<=sizeLine/\k=((y.length:Int) !=0)
 |.byt y=>y.size<=sizeLine/\k=((y.size:Int) !=0)
 |.ref p=>(∃xs,SqL K H p xs/\k= !xs.isEmpty)\/(∃xs,SqT K H p xs/\k= !xs.isEmpty)\/∃kvs,H p=some (.dK kvs)/\k= !kvs.isEmpty
 |_=>False
def Rc {κ:Type} {kvs:List (κ×V)} {vs:List (κ×Value)} (r:KV kvs vs):(!vs.isEmpty)= !kvs.isEmpty:=by
 cases r<;>rfl
def LS {xs:List V} {its:List Value} (r:Vals xs its):(!its.toArray.isEmpty)= !xs.isEmpty:=by
 cases r<;>simp
def CJ:(sizeLine:Nat)<2 ^ 63:=by rw[Dd];decide
def Re:TruR X (fun x H Q=> ∃k,TruV X.K x H k/\Q k H):=by
 intro pins s σ H x v Q I rx h;obtain⟨k,e,q⟩:=h;have hl:=CJ;have hs:sizeLine=16777216:=Dd;cases x with
 |non=>
  cases rx;have e':k=false:=e;subst e';exact truthy_none ⟨H,I,q⟩
 |bl b=>
  cases rx;have e':k=b:=e;subst e';exact Ce ⟨H,I,q⟩
 |int i=>
  obtain⟨t,rfl⟩:=rx;have e':k=(i !=0):=e;subst e';exact PySem.P.truthy_int ⟨H,I,q⟩
 |str y=>
  obtain⟨t,rfl⟩:=rx;obtain⟨hy,e'⟩:y.length<=sizeLine/\k=((y.length:Int) !=0):=e;subst e';exact PySem.P.truthy_str (by lia) ⟨H,I.tok _,q⟩
 |byt y=>
  obtain⟨t,rfl⟩:=rx;obtain⟨hy,e'⟩:y.size<=sizeLine/\k=((y.size:Int) !=0):=e;subst e';exact PySem.W.truthy_bytes (by lia) ⟨H,I.tok _,q⟩
 |ref p=>
  cases rx;have e':(∃xs,SqL X.K H p xs/\k= !xs.isEmpty)\/(∃xs,SqT X.K H p xs/\k= !xs.isEmpty)\/∃kvs,H p=some (.dK kvs)/\k= !kvs.isEmpty:=e
  rcases e' with ⟨xs,hx,e'⟩|⟨xs,hx,e'⟩|⟨kvs,hx,e'⟩
  .subst e'
   obtain⟨its,r,pl,hz⟩:=I.list hx;have hlen:=r.length;exact wpAny_truthy_list pl.isList (by simp only[Am];lia) ⟨H,I.tok _,by rw[LS r];exact q⟩
  .subst e'
   obtain⟨its,r,pl,hz⟩:=I.tuple hx;have hlen:=r.length;exact truthy_tuple pl (by simp only[Am];lia) ⟨H,I.tok _,by rw[LS r];exact q⟩
  .subst e'
   obtain⟨hz,hS,vs,r,m⟩:kvs.length<=sizeLine/\(p==sysModules)=false/\∃vs,KV kvs vs/\s.heap.DictOf (y0 X.prog X.w) p vs:=I.hok p _ hx;have hlen:kvs.length=vs.length:=Paired.length r;exact wpAny_truthy_dict hS m (by lia) ⟨H,I.tok _,by rw[Rc r];exact q⟩
 |_=>exact (show False from e).elim
def Rg (ha:PE X a ta) (he:∀whole,isTrue a X.env whole=(do let v <-whole;standAt a.pos;holding [v] (truthy v))):
  PT X a (fun σ H Q=>ta σ H fun x H'=> ∃k,TruV X.K x H' k/\Q k H'):=by
 intro pins s σ H Q I h;exact isTrue_plain (thn (ha pins s σ H _ I h) fun v s1 zz46 => by obtain ⟨x,H1,I1,r1,q1⟩ := zz46; exact Re pins s1 σ H1 x v Q I1 r1 q1) (he _)
def op_add_str:OpR X (binaryOp .Add) (fun x y H Q=> ∃i j,x=.str i/\y=.str j/\i.length+j.length<=sizeLine/\Q (.str (i++j)) H):=by
 intro pins s σ H x y v u Q I rx ry h;obtain⟨i,j,rfl,rfl,hz,q⟩:=h;obtain⟨t,rfl⟩:=rx;obtain⟨t',rfl⟩:=ry;exact add_str (fun t' tk=>⟨.str (i++j),H,I.tok _,⟨_,rfl⟩,q⟩) hz
def AY {x:V} {us:List Value} (r:Vals [x] us):∃u,us=[u]/\RelV x u:=by
 cases r with
 |cons r1 r2=>cases r2;exact⟨_,rfl,r1⟩
def Ha {x y:V} {us:List Value} (r:Vals [x,y] us):∃u w',us=[u,w']/\RelV x u/\RelV y w':=by
 cases r with
 |cons r1 r2=>
  cases r2 with
  |cons r3 r4=>cases r4;exact⟨_,_,rfl,r1,r3⟩
def AZ (hc:X.calm=true):qg X (.builtin "max") (fun xs H Q=> ∃i j,xs=[.int i,.int j]/\Q (.int (if j > i then j else i)) H):=by
 intro pins s σ H xs us Q I r h;obtain⟨i,j,rfl,q⟩:=h;obtain⟨u,w',rfl,⟨t,rfl⟩,⟨t',rfl⟩⟩:=Ha r
 refine max_two_ints (I.ok.hd hc) fun h' tk k=>⟨_,H,I.kept k,?_,q⟩
 by_cases hj:j > i
 .rw[Ac hj,Ac hj];exact⟨_,rfl⟩
 .rw[Ab hj,Ab hj];exact⟨_,rfl⟩
def EL (hc:X.calm=true):qg X (.builtin "min") (fun xs H Q=> ∃i j,xs=[.int i,.int j]/\Q (.int (if j<i then j else i)) H):=by
 intro pins s σ H xs us Q I r h;obtain⟨i,j,rfl,q⟩:=h;obtain⟨u,w',rfl,⟨t,rfl⟩,⟨t',rfl⟩⟩:=Ha r
 refine min_two_ints (I.ok.hd hc) fun h' tk k=>⟨_,H,I.kept k,?_,q⟩
 by_cases hj:j<i
 .rw[Ac hj,Ac hj];exact⟨_,rfl⟩
 .rw[Ab hj,Ab hj];exact⟨_,rfl⟩
def LenV (K:FG) (x:V) (H:Hp) (n:Nat):Prop:=
 match x with
 |.str y=>y.length<=sizeLine/\n=y.length
 |.byt y=>y.size<=sizeLine/\n=y.size
 |.ref p=>(∃xs,SqL K H p xs/\n=xs.length)\/∃xs,SqT K H p xs/\n=xs.length
 |_=>False
def Rh:qg X (.builtin "len") (fun xs H Q=> ∃x n,xs=[x]/\LenV X.K x H n/\Q (.int n) H):=by
 intro pins s σ H xs us Q I r h;obtain⟨x,n,rfl,e,q⟩:=h;obtain⟨u,rfl,rx⟩:=AY r;have hl:=CJ;have hs:sizeLine=16777216:=Dd;cases x with
 |str y=>
  obtain⟨t,rfl⟩:=rx;obtain⟨hy,e'⟩:y.length<=sizeLine/\n=y.length:=e;subst e';exact len_str (by lia) ⟨.int _,H,I.tok _,⟨_,rfl⟩,q⟩
 |byt y=>
  obtain⟨t,rfl⟩:=rx;obtain⟨hy,e'⟩:y.size<=sizeLine/\n=y.size:=e;subst e';exact PySem.W.len_bytes (by lia) ⟨.int _,H,I.tok _,⟨_,rfl⟩,q⟩
 |ref p=>
  cases rx;have e':(∃xs,SqL X.K H p xs/\n=xs.length)\/∃xs,SqT X.K H p xs/\n=xs.length:=e
  rcases e' with ⟨xs,hx,e'⟩|⟨xs,hx,e'⟩
  .subst e'
   obtain⟨its,r',pl,hz⟩:=I.list hx;have hlen:=r'.length;exact Calls.call_len_list pl.isList (by simp only[Am];lia) ⟨.int xs.length,H,I.tok _,⟨_,by simp only[Am];rw[hlen]⟩,q⟩
  .subst e'
   obtain⟨its,r',pl,hz⟩:=I.tuple hx;have hlen:=r'.length;exact len_tuple pl (by simp only[Am];lia) ⟨.int xs.length,H,I.tok _,⟨_,by simp only[Am];rw[hlen]⟩,q⟩
 |_=>exact (show False from e).elim
end
structure ObjM (h:Heap) (x dx C:Addr) (mA:Str->Option Value):Prop where
 obj:h.get? x=some (PySem.W.instObj C dx)
 ns:h.Ns1 dx mA
 ne:dx≠x
def Ri {h:Heap} {dx:Addr} {mA:Str->Option Value} (n:h.Ns1 dx mA):∃od,h.get? dx=some od/\∀name,PySem.W.lookIn name od=some (mA name):=by
 obtain⟨o,es,ep,ho,hd,hk,_,hm⟩:=n
 refine⟨o,ho,fun name=>?_⟩
 have e:=hm name;unfold nsFind findBy at e;rw[<-Array.find?_toList]at e
 unfold PySem.W.lookIn;rw[hd];dsimp only
 split
 .rename_i y q
  rw[q]at e;exact congrArg some e
 .rename_i q
  rw[q]at e;have a:es.toList.any (·.refKey)=false:=by
   rw[List.any_eq_false];intro y hy;obtain⟨z,t,hkey⟩:=hk y (Array.mem_toList_iff.mp hy);simp[DictEntry.refKey,hkey]
  have a': ¬es.toList.any (·.refKey)=true:=by rw[a];exact Bb
  rw[Ab a'];exact congrArg some e
def ObjM.look {h:Heap} {x dx C:Addr} {mA:Str->Option Value} (I:ObjM h x dx C mA):∃od,PySem.W.InstAt h x (PySem.W.instObj C dx) C (some od)/\∀name,PySem.W.lookIn name od=some (mA name):=
 let ⟨od,ho,hl⟩:=Ri I.ns
 ⟨od,⟨I.obj,rfl,rfl,ho⟩,hl⟩
section
variable {prog:Program} {w:World} {A:Around} {E:VP} {s:Shared} {K:FG} {x dx C f:Addr} {mA:Str->Option Value} {name:Str} {v:Value}
def Rj {expr:Bool} {Q:VP} (X:K.In s.heap) (I:ObjM s.heap x dx C mA) (hg:PySem.W.plainGet K C name=true) (hh:PySem.W.hasDictIn K C=true)
  (ha:PySem.W.findIn K (.ref C) name=some none) (hv:mA name=some v) (hv':PySem.W.handedIn v=true) (h:Q v {s with toks:=s.toks+1}):
  wpAny (model prog w) A (getAttr (.ref x) name expr) Q E s:=by
 obtain⟨od,J,hl⟩:=I.look;exact PySem.W.get_value X J (PySem.W.plainGet_of hg).1 (PySem.W.findObj_own hh ha rfl (by rw[hl,hv])) hv' h
def Rk {pl:Sem Bool} {Q:Value×List Value->Shared->Prop} (X:K.In s.heap) (I:ObjM s.heap x dx C mA) (hg:PySem.W.plainGet K C name=true)
  (hf:PySem.W.findIn K (.ref C) name=some (some (.ref f))) (ht:PySem.W.isFn K (.ref f)=true) (hv:mA name=none) (h:Q (.ref f,[.ref x]) s):
  wpAny (model prog w) A (getMethod (.ref x) name pl) Q E s:=by
 obtain⟨od,J,hl⟩:=I.look;exact PySem.W.method_fn X J (PySem.W.plainGet_of hg).1 (PySem.W.plainGet_of hg).2 hf (Cy.mp ht) (by show (PySem.W.lookIn name od).map (·.isSome)=some false;rw[hl,hv];rfl) h
def Rl {ns:List Str} {Q:Unit->Shared->Prop} (X:K.In s.heap) (I:ObjM s.heap x dx C mA)
  (hs:PySem.W.findIn K (.ref C) "__setattr__" =some (some (.builtin "object.__setattr__"))) (hp:PySem.W.plainOver K C=true) (ht:PySem.W.takerIn K C name=some none) (hh:PySem.W.hasDictIn K C=true)
  (hw:PySem.Within mA ns) (hsz:ns.length<=sizeLine)
  (h:∀h',ObjM h' x dx C (fun y=>if y=name then some v else mA y)->Heap.SameBut dx s.heap h'->Q () {s with heap:=h',toks:=s.toks+2}):
  wpAny (model prog w) A (setAttr (.ref x) name v) Q E s:=by
 obtain⟨od,J,hl⟩:=I.look
 refine PySem.W.set_plain X J hs (PySem.W.osa_open (s:={s with toks:=s.toks+1}) (r:=none) X J hp ht fun b=>?_)
 obtain⟨cd,hc,hd'⟩:=PySem.W.any_some hh;have hx:s.heap.get? x=some ⟨.ref C,some dx,.plain,#[]⟩:=I.obj
 refine Aa (Ad (Aa (Aa (wpAny_loadPart hx (Aa (PySem.W.Looks.here (s:={s with toks:=s.toks+1}) (PySem.W.looks_clsIn X hc) ?_))))))
 rw[hd']
 refine Ad (a:=some dx) (Aa (Ad (Aa ?_)))
 refine wpAny_nsSet1 (s:={s with toks:=s.toks+1}) I.ns fun h' hn2 hs2=>?_
 obtain⟨oD,esD,epD,hoD,hdD,hcD⟩:=hn2.count (PySem.Within.cons name v hw)
 refine Aa (wpAny_lookBehind hoD (by rw[hdD];exact pastItsLine_dict (Bw hcD (by rw[Az];lia))) ?_)
 exact Ad (h _ ⟨(hs2.2 _ (Cc I.ne)).trans I.obj,hn2,I.ne⟩ hs2)
def Rm {R:Result->Shared->Prop} {vs:List Value} {kw:List (Str×Value)} (X:K.In s.heap) (hm:PySem.W.makesIn K C=true)
  (hi:PySem.W.findIn K (.ref C) "__init__" =some (some (.ref f))) (hf:PySem.W.typeIn K (.ref f)=some (.type "function"))
  (h:codeAny (model prog w) (A.under (.builtin "type.__call__" ⟨.ref C::vs,kw⟩)) (.call (.ref f) ⟨.ref (s.heap.objs.size+1)::vs,kw⟩) (PySem.W.InitBack (s.heap.objs.size+1) R)
   {s with heap:=(s.heap.push PySem.W.emptyDict).push (PySem.W.instObj C s.heap.objs.size)}):
  codeAny (model prog w) A (.call (.ref C) ⟨vs,kw⟩) R s:=by
 obtain⟨hh,g,d,t,os⟩:=s;exact PySem.W.make_core (PySem.W.makes_of X hm) (PySem.W.looks_findIn X hi) (fun self=>PySem.W.bind_fn X self hf) (.inl rfl) h
end
noncomputable def putF (f:Str) (v:V):List (Str×V)->List (Str×V)
 | []=>[(f,v)]
 | (g,x)::r=>if g=f then (g,v)::r else (g,x)::putF f v r
theorem LU (f g:Str) (v:V):∀fs:List (Str×V),(putF f v fs).lookup g=if g=f then some v else fs.lookup g
 | []=>by
  show List.lookup g [(f,v)]=_
  by_cases h:g=f
  .have hb:(g==f)=true:=Cy.mpr h
   simp only[List.lookup,hb,Ac h]
  .have hb:(g==f)=false:=D5.mpr h
   simp only[List.lookup,hb,Ab h]
 | (k,x)::r=>by
  have ih:=LU f g v r;rw[show putF f v ((k,x)::r)=(if k=f then (k,v)::r else (k,x)::putF f v r) from rfl]
  by_cases hk:k=f
  .rw[Ac hk]
   by_cases h:g=k
   .have hb:(g==k)=true:=Cy.mpr h
    simp only[List.lookup,hb,Ac (h.trans hk)]
   .have hb:(g==k)=false:=D5.mpr h
    simp only[List.lookup,hb,Ab (fun e:g=f=>h (e.trans hk.symm))]
  .rw[Ab hk]
   by_cases h:g=k
   .have hb:(g==k)=true:=Cy.mpr h
    simp only[List.lookup,hb,Ab (fun e:g=f=>hk (h.symm.trans e))]
   .have hb:(g==k)=false:=D5.mpr h
    simp only[List.lookup,hb];exact ih
theorem IK (f:Str) (v:V):∀fs:List (Str×V),f∈(putF f v fs).map (·.1)/\∀g,g∈fs.map (·.1)->g∈(putF f v fs).map (·.1)
 | []=>⟨by simp[putF],fun g h=>by simp at h⟩
 | (k,x)::r=>by
  obtain⟨i1,i2⟩:=IK f v r;rw[show putF f v ((k,x)::r)=(if k=f then (k,v)::r else (k,x)::putF f v r) from rfl]
  by_cases hk:k=f
  .rw[Ac hk]
   subst hk;exact⟨by simp,fun g h=>by simpa using h⟩
  .rw[Ab hk]
   refine⟨?_,fun g h=>?_⟩
   .rw[Ag]
    exact An _ i1
   .rw[Ag]at h ⊢
    rcases Af.mp h with e|e
    .exact Af.mpr (.inl e)
    .exact An _ (i2 g e)
theorem LV (f:Str) (v:V):∀fs:List (Str×V),(putF f v fs).length<=fs.length+1
 | []=>by simp[putF]
 | (k,x)::r=>by
  have ih:=LV f v r;rw[show putF f v ((k,x)::r)=(if k=f then (k,v)::r else (k,x)::putF f v r) from rfl]
  by_cases hk:k=f
  .rw[Ac hk,Az,Az];lia
  .rw[Ab hk,Az,Az];lia
def RelO.some_of {v:V} {o:Option Value} (r:RelO (some v) o):∃u,o=some u/\RelV v u:=by
 cases o with
 |none=>exact (show False from r).elim
 |some u=>exact⟨u,rfl,r⟩
def RelO.none_of {o:Option Value} (r:RelO none o):o=none:=by
 cases o with
 |none=>rfl
 |some u=>exact (show False from r).elim
def Rn {v:V} {u:Value} (r:RelV v u):PySem.W.handedIn u=true:=by
 cases v with
 |non=>cases (show u=Value.none from r);rfl
 |bl b=>cases (show u=Value.bool b from r);rfl
 |int i=>obtain⟨t,e⟩:=(show ∃t,u=Value.int i t from r);cases e;rfl
 |str x=>obtain⟨t,e⟩:=(show ∃t,u=Value.str x t from r);cases e;rfl
 |byt b=>obtain⟨t,e⟩:=(show ∃t,u=Value.bytes b t from r);cases e;rfl
 |flt b=>obtain⟨t,e⟩:=(show ∃t,u=Value.float b t from r);cases e;rfl
 |ref a=>cases (show u=Value.ref a from r);rfl
 |ty n=>cases (show u=Value.type n from r);rfl
section
variable {P:Program} {w:World} {H H':Hp} {h h':Heap} {a C dx:Addr} {fs fs':List (Str×V)}
def Hb (hok:HOk P w H h) (e:H a=some (.ins C dx fs)):∃mA,ObjM h a dx C mA/\(∀f,RelO (fs.lookup f) (mA f))/\PySem.Within mA (fs.map (·.1))/\fs.length<=1000/\H dx=some (.own a):=by
 obtain⟨d,z,ne,ob,mA,n,r,q⟩:=(show ObjOk P w H h a (.ins C dx fs) from hok a _ e)
 exact⟨mA,⟨ob,n,ne⟩,r,q,z,d⟩
end
structure Cls (K:FG) (C:Addr):Prop where
 pg:PySem.W.plainGet K C Str.empty=true
 hd:PySem.W.hasDictIn K C=true
 po:PySem.W.plainOver K C=true
 sa:PySem.W.findIn K (.ref C) "__setattr__" =some (some (.builtin "object.__setattr__"))
def Cls.get {K:FG} {C:Addr} (c:Cls K C) (f:Str):PySem.W.plainGet K C f=true:=c.pg
def NoAttr (K:FG) (C:Addr) (f:Str):Prop:=PySem.W.findIn K (.ref C) f=some none
def NoAttr.taker {K:FG} {C:Addr} {f:Str} (n:NoAttr K C f):PySem.W.takerIn K C f=some none:=by
 unfold PySem.W.takerIn;rw[show PySem.W.findIn K (.ref C) f=some none from n]
 rfl
structure Meth (K:FG) (C:Addr) (m:Str) (f:Addr):Prop where
 at_:PySem.W.findIn K (.ref C) m=some (some (.ref f))
 fn:PySem.W.isFn K (.ref f)=true
 kp:PySem.W.keepIn K (.ref f)=true
section
variable {X:Cx} {pins:AL} {σ:St} {H:Hp} {s:Shared} {a C dx:Addr} {fs:List (Str×V)} {f:Str} {v:V} {A:Around} {E:VP}
def Ro {b:Bool} {Q:VP} (I:Inv X pins σ H s) (e:H a=some (.ins C dx fs)) (c:Cls X.K C) (n:NoAttr X.K C f) (l:fs.lookup f=some v)
  (h:∀u s',Inv X pins σ H s'->RelV v u->Q u s'):wpAny (model X.prog X.w) A (getAttr (.ref a) f b) Q E s:=by
 obtain⟨mA,O,r,_,_,_⟩:=Hb I.hok e;obtain⟨u,hu,ru⟩:=RelO.some_of (v:=v) (o:=mA f) (by rw[<-l];exact r f)
 exact Rj I.kIn O (c.get f) c.hd n hu (Rn ru) (h u _ (I.tok _) ru)
def LW {m:Str} {g:Addr} {pl:Sem Bool} {Q:Value×List Value->Shared->Prop} (I:Inv X pins σ H s) (e:H a=some (.ins C dx fs)) (c:Cls X.K C) (k:Meth X.K C m g) (l:fs.lookup m=none)
  (h:Q (.ref g,[.ref a]) s):wpAny (model X.prog X.w) A (getMethod (.ref a) m pl) Q E s:=by
 obtain⟨mA,O,r,_,_,_⟩:=Hb I.hok e;have hn:mA m=none:=RelO.none_of (by rw[<-l];exact r m)
 exact Rk I.kIn O (c.get m) k.at_ k.fn hn h
def Rq {y:V} {u:Value} {Q:Unit->Shared->Prop} (I:Inv X pins σ H s) (e:H a=some (.ins C dx fs)) (c:Cls X.K C) (n:NoAttr X.K C f) (hl:fs.length<1000) (ry:RelV y u)
  (h:∀s',Inv X pins σ (zr H a (.ins C dx (putF f y fs))) s'->Q () s'):wpAny (model X.prog X.w) A (setAttr (.ref a) f u) Q E s:=by
 obtain⟨mA,O,r,wi,_,ho⟩:=Hb I.hok e;have hz:(fs.map (·.1)).length<=sizeLine:=by rw[Ae,Dd];lia
 refine Rl I.kIn O c.sa c.po n.taker c.hd wi hz fun h' O' sb=>h _ ?_
 have hd:∃o,h'.get? dx=some o:=let ⟨o,_,_,e',_⟩:=O'.ns;⟨o,e'⟩
 refine I.write (x:=a) (e:=dx) (by rw[e];exact True.intro) (.inr ho) (fun b q hb z=>(sb.2 b hb).trans z) hd ?_
 refine⟨by rw[zX O.ne];exact ho,?_,O.ne,O'.obj,_,O'.ns,fun g=>?_,fun g hg=>?_⟩
 .have:=LV f y fs;lia
 .show RelO ((putF f y fs).lookup g) (if g=f then some u else mA g)
  rw[LU]
  by_cases q:g=f
  .rw[Ac q,Ac q];exact ry
  .rw[Ab q,Ab q];exact r g
 .by_cases q:g=f
  .rw[q];exact (IK f y fs).1
  .refine (IK f y fs).2 g (wi g fun z=>hg ?_)
   show (if g=f then some u else mA g)=none
   rw[Ab q];exact z
def Inv.made (I:Inv X pins σ H s):Inv X pins σ (zr (zr H s.heap.objs.size (.own (s.heap.objs.size+1))) (s.heap.objs.size+1) (.ins C s.heap.objs.size []))
  {s with heap:=(s.heap.push PySem.W.emptyDict).push (PySem.W.instObj C s.heap.objs.size)}:=by
 have e1:(s.heap.push PySem.W.emptyDict).get? s.heap.objs.size=some PySem.W.emptyDict:=Bf s.heap rfl;have e2:((s.heap.push PySem.W.emptyDict).push (PySem.W.instObj C s.heap.objs.size)).get? (s.heap.objs.size+1)=some (PySem.W.instObj C s.heap.objs.size):=by
  have:=Bf (s.heap.push PySem.W.emptyDict) (o:=PySem.W.instObj C s.heap.objs.size) rfl
  rwa [Cf]at this
 have e3:(s.heap.push PySem.W.emptyDict).Ns s.heap.objs.size (fun _=>none):=⟨PySem.W.emptyDict,#[],_,e1,rfl,(fun e he=>absurd he (by simp)),fun _=>rfl⟩
 have I1:=I.laid (a:=s.heap.objs.size) (o:= .own (s.heap.objs.size+1)) (h':=s.heap.push PySem.W.emptyDict) (t':=s.toks) (fun b u q=>Ay _ q) (Ah _) ⟨_,e1⟩
 refine I1.laid (a:=s.heap.objs.size+1) (o:= .ins C s.heap.objs.size []) (t':=s.toks) (fun b u q=>Ay _ q) (Nat.le_of_eq (Cf _ _)) ?_
 have ne:s.heap.objs.size≠s.heap.objs.size+1:=Aw (De _)
 refine⟨by rw[zX ne,yR],B3 _,ne,e2,fun _=>none,(Heap.Ns1.of_empty e3).at fun o q=>Ay _ q,fun _=>True.intro,fun y hy=>absurd rfl hy⟩
def Rr {prog:Program} {w:World} {env:Env} {e:Expr} {f:Str} {pos:Pos} {s:Shared} {Q:VP} (hb:attributeBase e f env (eval e env)=eval e env)
  (h:wpAny (model prog w) A (eval e env) (fun o s₁=>wpAny (model prog w) A (getAttr o f true) Q E s₁) E s):wpAny (model prog w) A (eval (.Attribute e f pos) env) Q E s:=
 Attribute_any_ h (by rw[arm_eval_Attribute,hb])
end
def tFld (K:FG) (ta:TE) (f:Str):TE:=fun σ H Q=>ta σ H fun x H1=> ∃a C dx fs v,x=.ref a/\H1 a=some (.ins C dx fs)/\Cls K C/\NoAttr K C f/\fs.lookup f=some v/\Q v H1
def sFld (K:FG) (ta tv:TE) (f:Str):TS:=fun D σ H=>tv σ H fun y H1=>ta σ H1 fun x H2=> ∃a C dx fs,x=.ref a/\H2 a=some (.ins C dx fs)/\Cls K C/\NoAttr K C f/\fs.length<1000/\
 D.nx σ (zr H2 a (.ins C dx (putF f y fs)))
section
variable {X:Cx} {o e value:Expr} {f:Str} {pos pos' tpos:Pos} {ta tv:TE}
def Rt (he:PE X e ta) (hb:attributeBase e f X.env (eval e X.env)=eval e X.env):PE X (.Attribute e f pos) (tFld X.K ta f):=by
 intro pins s σ H Q I h
 refine Rr hb (thn (he pins s σ H _ I h) fun u s1 ⟨x,H1,I1,rx,a,C,dx,fs,v,ex,ea,c,n,l,q⟩=>?_)
 subst ex;obtain rfl:u=Value.ref a:=rx;exact Ro I1 ea c n l fun u' s2 I2 ru=>⟨v,H1,I2,ru,q⟩
def Ru (ha:PE X o ta) (hv:PE X value tv) (hs:swapsWith value (some (.Attribute o f pos')) pos.line X.env=pure false):PS X (.Assign [.Attribute o f pos'] value pos) (sFld X.K ta tv f):=by
 intro pins s σ H D I h
 refine plainObj_wpAny_Assign_Attribute (thn (hv pins s σ H _ I h) fun u s1 ⟨y,H1,I1,ry,q⟩=>thn (ha pins s1 σ H1 _ I1 q) fun ov s2 ⟨x,H2,I2,rx,a,C,dx,fs,ex,ea,c,n,l,q2⟩=>?_) hs
 subst ex;obtain rfl:ov=Value.ref a:=rx;exact Rq I2 ea c n l ry fun s3 I3=>⟨σ,_,I3,q2⟩
end
section
variable {X:Cx} {pins:AL} {σ:St} {H:Hp} {s:Shared} {A:Around} {E:VP} {Q:VP} {c:Value} {b:Bool}
inductive TyOf (K:FG) (H:Hp):V->Value->Prop where
 |non:TyOf K H .non (.type "NoneType")
 |bl (x:Bool):TyOf K H (.bl x) (.type "bool")
 |int (i:Int):TyOf K H (.int i) (.type "int")
 |str (x:Str):TyOf K H (.str x) (.type "str")
 |flt (x:UInt64):TyOf K H (.flt x) (.type "float")
 |lst {a:Addr} {xs:List V} (e:H a=some (.lst xs)):TyOf K H (.ref a) (.type "list")
 |frz {a:Addr} {o:Obj} {xs:List V} (e:H a=some (.frz o (.lst xs))):TyOf K H (.ref a) (.type "list")
 |tup {a:Addr} {xs:List V} (e:H a=some (.tup xs)):TyOf K H (.ref a) (.type "tuple")
 |dK {a:Addr} {kvs:List (z8×V)} (e:H a=some (.dK kvs)):TyOf K H (.ref a) (.type "dict")
 |dT {a:Addr} {kvs:List (MK×V)} (e:H a=some (.dT kvs)):TyOf K H (.ref a) (.type "dict")
 |ins {a C dx:Addr} {fs:List (Str×V)} (e:H a=some (.ins C dx fs)) (cl:Cls K C) (ha:PySem.W.findIn K (.ref C) "__class__" =some (some (.builtin "object.__class__")))
  (hn:PySem.W.specialIn K (.builtin "object.__class__") "__get__" =some (some (.builtin "getset_descriptor.__get__"))) (htk:PySem.W.takesIn K (.builtin "object.__class__")=some true)
  (hm:PySem.W.mroIn K C (.type "object")=some true):TyOf K H (.ref a) (.ref C)
def Rv {x:V} {u t:Value} (I:Inv X pins σ H s) (rx:RelV x u) (ty:TyOf X.K H x t) (e:PySem.W.kitOne X.K t c=some b) (h:∀tk,Q (.bool b) {s with toks:=tk}):
  wpAny (model X.prog X.w) A (call (.builtin "isinstance") [u,c]) Q E s:=by
 cases ty with
 |non=>cases (show u=Value.none from rx);exact Cm PySem.W.kitx_none I.kIn True.intro e (fun z=>nomatch z) h
 |bl y=>cases (show u=Value.bool y from rx);exact Cm PySem.W.kitx_bool I.kIn True.intro e (fun z=>nomatch z) h
 |int i=>obtain⟨t,q⟩:=(show ∃t,u=Value.int i t from rx);cases q;exact Cm PySem.W.kitx_int I.kIn True.intro e (fun z=>nomatch z) h
 |str y=>obtain⟨t,q⟩:=(show ∃t,u=Value.str y t from rx);cases q;exact Cm PySem.W.kitx_str I.kIn True.intro e (fun z=>nomatch z) h
 |flt y=>obtain⟨t,q⟩:=(show ∃t,u=Value.float y t from rx);cases q;exact Cm PySem.W.kitx_float I.kIn True.intro e (fun z=>nomatch z) h
 | @lst a xs ea=>
  cases (show u=Value.ref a from rx)
  obtain⟨_,_,n,_,h1⟩:=(show ObjOk X.prog X.w H s.heap a (.lst xs) from I.hok a _ ea)
  exact Cm PySem.W.kitx_list I.kIn ⟨_,h1,rfl⟩ e (fun z=>nomatch z) h
 | @frz a ob xs ea=>
  cases (show u=Value.ref a from rx)
  obtain⟨_,_,_,n,_,h1⟩:=(show ObjOk X.prog X.w H s.heap a (.frz ob (.lst xs)) from I.hok a _ ea)
  exact Cm PySem.W.kitx_list I.kIn ⟨_,h1,rfl⟩ e (fun z=>nomatch z) h
 | @tup a xs ea=>
  cases (show u=Value.ref a from rx)
  obtain⟨_,_,_,p⟩:=(show ObjOk X.prog X.w H s.heap a (.tup xs) from I.hok a _ ea)
  obtain⟨o,h1,h2,_⟩:=p;exact Cm PySem.W.kitx_tuple I.kIn ⟨o,h1,h2⟩ e (fun z=>nomatch z) h
 | @dK a kvs ea=>
  cases (show u=Value.ref a from rx)
  obtain⟨_,_,vs,_,p⟩:=(show ObjOk X.prog X.w H s.heap a (.dK kvs) from I.hok a _ ea)
  obtain⟨o,es,ep,h1,h2,_⟩:=p;exact Cm PySem.W.kitx_dict I.kIn ⟨o,h1,h2.1⟩ e (fun z=>nomatch z) h
 | @dT a kvs ea=>
  cases (show u=Value.ref a from rx)
  obtain⟨_,_,xs,_,o,es,ep,h1,h2,_⟩:=(show ObjOk X.prog X.w H s.heap a (.dT kvs) from I.hok a _ ea)
  exact Cm PySem.W.kitx_dict I.kIn ⟨o,h1,h2.1⟩ e (fun z=>nomatch z) h
 | @ins a C dx fs ea cl ha hn htk hm=>
  cases (show u=Value.ref a from rx)
  obtain⟨mA,O,_⟩:=Hb I.hok ea;obtain⟨od,J,_⟩:=O.look;exact Cm (PySem.W.kitx_own (cl.get _) cl.hd ha hn htk hm) I.kIn J e (fun z=>nomatch z) h
end
structure Room (k:Nat) (A:Around):Prop where
 hd:A.handled=none
 dp:A.depth+3*k+5<recursionLimit
 un:A.units+16*k+200<cLine
def Room.mono {j k:Nat} {A:Around} (r:Room k A) (h:j<=k):Room j A:=⟨r.hd,by have:=r.dp;lia,by have:=r.un;lia⟩
theorem Room.deeper {k:Nat} {A:Around} (r:Room (k+1) A) (env:Env):Room k (A.deeper env):=
 ⟨r.hd,by have:=r.dp;show A.depth+1+3*k+5<_;lia,by have:=r.un;show A.units+3+16*k+200<_;lia⟩
def Rw {A:Around} {C:Addr} {us:List Value} {kw:List (Str×Value)}:(A.under (.builtin "type.__call__" ⟨.ref C::us,kw⟩)).depth=A.depth+1:=by
 first|rfl|simp[Around.under,Code.weight,Code.isCreation,Code.isGuard,Code.isCaller,Code.frames,Code.isFrame,guardIds]
def Rx {A:Around} {C:Addr} {us:List Value} {kw:List (Str×Value)}:(A.under (.builtin "type.__call__" ⟨.ref C::us,kw⟩)).units=A.units+1:=by
 first|rfl|simp[Around.under,Code.cUnits,Code.frames,Code.isFrame]
def Room.make {k:Nat} {A:Around} (r:Room (k+1) A) (C:Addr) (us:List Value) (kw:List (Str×Value)):Room k (A.under (.builtin "type.__call__" ⟨.ref C::us,kw⟩)):=
 ⟨r.hd,by have:=r.dp;rw[Rw];lia,by have:=r.un;rw[Rx];lia⟩
theorem Room.depth {k:Nat} {A:Around} (r:Room k A):A.depth<recursionLimit:=by have:=r.dp;lia
theorem Room.units {k:Nat} {A:Around} (r:Room k A):A.units+64<cLine:=by have:=r.un;lia
def tNil:TA:=fun _ H Q=>Q [] H
def Ry (ta:TE) (tr:TA):TA:=fun σ H Q=>ta σ H fun x H1=>tr σ H1 fun xs H2=>Q (x::xs) H2
section
variable {X:Cx} {e:Expr} {es:List Expr} {te:TE} {t:TA} {pos:Pos}
def Rz:PA X [] tNil:=fun _ _ _ _ H Q I h=>Calls.spliced_nil ⟨[],H,I,.nil,h⟩
def R0 (ha:PE X e te) (hr:PA X es t) (hs:SE X e es:=by rfl):PA X (e::es) (Ry te t):=by
 intro pos pins s σ H Q I h;rw[hs];show wpAny _ _ (spliced ((false,eval e X.env)::backTo pos (starEach es X.env))) _ _ s
 refine Calls.spliced_cons (thn (ha pins s σ H _ I h) fun u s1 ⟨x,H1,I1,r1,q1⟩=>?_)
 exact thn (hr pos pins s1 σ H1 _ I1 q1) fun us s2 zz51 => by obtain ⟨xs,H2,I2,r2,q2⟩ := zz51; exact ⟨x::xs,H2,I2,.cons r1 r2,q2⟩
def tTup (t:TA):TE:=fun σ H Q=>t σ H fun xs H1=>xs.length<=sizeLine/\∀p,H1 p=none->Q (.ref p) (zr H1 p (.tup xs))
def tLst (t:TA):TE:=fun σ H Q=>t σ H fun xs H1=>xs.length<=sizeLine/\∀p,H1 p=none->Q (.ref p) (zr H1 p (.lst xs))
def R1 {x1} (h:PA X es t):PE X (.Tuple es x1 pos) (tTup t):=by
 intro pins s σ H Q I hq
 refine wpAny_Tuple_spliced (thn (h pos pins s σ H _ I hq) fun us s1 ⟨xs,H1,I1,r,z,q⟩=>⟨by rw[<-r.length];exact z,?_⟩)
 have hf:H1 s1.heap.objs.size=none:=I1.hok.fresh (Ah _)
 refine⟨.ref s1.heap.objs.size,zr H1 s1.heap.objs.size (.tup xs),I1.laid (t':=s1.toks) (fun b u e=>Ay _ e) (Ah _) ?_,rfl,q _ hf⟩
 exact⟨z,us,r,⟨_,Bf _ rfl,rfl,_,rfl⟩⟩
def R3 (h:PA X es t):PE X (.List es pos) (tLst t):=by
 intro pins s σ H Q I hq
 refine wpAny_List_spliced (thn (h pos pins s σ H _ I hq) fun us s1 ⟨xs,H1,I1,r,z,q⟩=>⟨by rw[<-r.length];exact z,?_⟩)
 have hf:H1 s1.heap.objs.size=none:=I1.hok.fresh (Ah _)
 refine⟨.ref s1.heap.objs.size,zr H1 s1.heap.objs.size (.lst xs),I1.laid (t':=s1.toks) (fun b u e=>Ay _ e) (Ah _) ?_,rfl,q _ hf⟩
 exact⟨z,us,0,r,Bf _ rfl⟩
end
abbrev Sp:=List V->Hp->VK->XK->Prop
abbrev jR:=List Env->Hp->Shared->XK->VP
structure Env0 (P:Program) (w:World) (K:FG) (mg:Str->Option Value) (base:Heap) (A:Around) (outer:List Env) (s:Shared) (H:Hp):Prop where
 frames:A.frames=some outer
 mod:Mod K mg base
 bs:∀b o,base.get? b=some o->s.heap.get? b=some o/\H b=none
 bsz:base.objs.size<=s.heap.objs.size
 funs:s.heap.FunFrames base outer
 frf:∀b∈yP outer,H b=none
 hok:HOk P w H s.heap
 bare:AllBare s.gens
def CE (outer:List Env) (P:Program) (w:World) (H:Hp) (s:Shared) (Q:VK) (u:Value) (s':Shared):Prop:=
 ∃v H',s'.os=s.os/\AllBare s'.gens/\Un (yP outer) [] H H' s.heap s'.heap/\HOk P w H' s'.heap/\RelV v u/\Q v H'
def CR (CX:jR) (outer:List Env) (P:Program) (w:World) (H:Hp) (s:Shared) (Q:VK) (E:XK) (r:Result) (s':Shared):Prop:=
 match r with
 |.ok (.ret u)=>CE outer P w H s Q u s'
 |.ok _=>False
 |.error e=>CX outer H s E e s'
structure FnOk (P:Program) (w:World) (K:FG) (mg:Str->Option Value) (base:Heap) (CX:jR) (k:Nat) (f:Addr) (fd:FuncData) (ps:List Str) (sp:Sp):Prop where
 len:∀vs H Q E,sp vs H Q E->vs.length=ps.length
 run:∀(A:Around) (outer:List Env) (s:Shared) (H:Hp) (args:Args) (us:List Value) (vs:List V) (Q:VK) (E:XK),Room k A->Env0 P w K mg base A outer s H->BindsTo s fd args (ps.zip us)->Vals vs us->sp vs H Q E->
  codeAny (model P w) A (.call (.ref f) args) (CR CX outer P w H s Q E) s
def FnOk.imp {P:Program} {w:World} {K:FG} {mg:Str->Option Value} {base:Heap} {CX:jR} {k:Nat} {f:Addr} {fd:FuncData} {ps:List Str} {sp sp':Sp} (F:FnOk P w K mg base CX k f fd ps sp)
  (h:∀vs H Q E,sp' vs H Q E->sp vs H Q E):FnOk P w K mg base CX k f fd ps sp':=
 ⟨fun vs H Q E q=>F.len vs H Q E (h _ _ _ _ q),fun A outer s H args us vs Q E hr he hb hv hs=>F.run A outer s H args us vs Q E hr he hb hv (h _ _ _ _ hs)⟩
def Env0.make {P:Program} {w:World} {K:FG} {mg:Str->Option Value} {base:Heap} {A:Around} {outer:List Env} {s:Shared} {H:Hp} (e:Env0 P w K mg base A outer s H) (C:Addr) (us:List Value) (kw:List (Str×Value)):
 Env0 P w K mg base (A.under (.builtin "type.__call__" ⟨.ref C::us,kw⟩)) outer s H:=⟨by first|exact e.frames|(simpa[Around.under,Code.envs,Code.isFrame,pushEnvs] using e.frames),e.mod,e.bs,e.bsz,e.funs,e.frf,e.hok,e.bare⟩
section
variable {X:Cx} {pins:AL} {σ:St} {H:Hp} {s s':Shared}
def Inv.env0 (I:Inv X pins σ H s):Env0 X.prog X.w X.K X.mg X.base X.A X.stack s H:=
 ⟨I.ok.frames,I.ok.mod,I.bs,Bw I.ok.bsz I.sz,I.stack,I.stkFree,I.hok,I.bare⟩
def Inv.after {Q:VK} {u:Value} (I:Inv X pins σ H s) (h:CE X.stack X.prog X.w H s Q u s'):EP X pins σ Q u s':=by
 obtain⟨v,H',os,bare,un,hok,r,q⟩:=h;obtain⟨hh,g,d,t,os'⟩:=s';obtain rfl:os'=s.os:=os;exact⟨v,H',I.call (h':=hh) (g':=g) (d':=d) (t':=t) (ch:=[]) un hok bare (fun b z=>absurd z (by simp)),r,q⟩
end
def LX (sp:Sp) (dvs:List V) (E:XK) (t:TA):TE:=fun σ H Q=>t σ H fun vs H1=>sp (vs++dvs) H1 Q E
def IL (C:Addr) (m:Str) (sp:Sp) (dvs:List V) (E:XK) (ta:TE) (t:TA):TE:=fun σ H Q=>ta σ H fun x H1=> ∃a dx fs,x=.ref a/\H1 a=some (.ins C dx fs)/\fs.lookup m=none/\
 t σ H1 fun vs H2=>sp (x::(vs++dvs)) H2 Q E
def LY (C:Addr) (sp:Sp) (dvs:List V) (E:XK) (t:TA):TE:=fun σ H Q=>t σ H fun vs H1=> ∀x dx,H1 x=none->H1 dx=none->dx≠x->
 sp (.ref x::(vs++dvs)) (zr (zr H1 dx (.own x)) x (.ins C dx [])) (fun v H2=>v=.non/\Q (.ref x) H2) E
def Binds (K:FG) (fd:FuncData) (ps:List Str) (ds:List Value):Prop:=
 ∀(s:Shared) (us:List Value),K.In s.heap->(us++ds).length=ps.length->BindsTo s fd ⟨us,[]⟩ (ps.zip (us++ds))
def Binds.all {K:FG} {fd:FuncData} {ps:List Str} (h:∀us:List Value,us.length=ps.length->bindArgs fd ⟨us,[]⟩=pure (ps.zip us)):Binds K fd ps []:=fun s us _ hl=>by
 rw[B4]at hl ⊢;exact .of_eq (h us hl)
def qV (CX:jR) (X:Cx) (E:XK):Prop:=∀(pins:AL) (σ:St) (H:Hp) (s:Shared) (e:Value) (s':Shared),Inv X pins σ H s->CX X.stack H s E e s'->X.xe e s'
section
variable {X:Cx} {CX:jR} {k:Nat} {f C:Addr} {fd:FuncData} {ps:List Str} {sp:Sp} {dvs:List V} {ds:List Value} {E:XK} {x m:Str} {p pos apos:Pos} {e o:Expr} {es:List Expr} {ta:TE} {t:TA}
def IM {pins:AL} {σ:St} {H:Hp} {s:Shared} {Q:VK} {us:List Value} {vs:List V} (F:FnOk X.prog X.w X.K X.mg X.base CX k f fd ps sp) (hr:Room k X.A) (hb:Binds X.K fd ps ds) (hd:Vals dvs ds) (hx:qV CX X E)
  (I:Inv X pins σ H s) (r:Vals vs us) (h:sp (vs++dvs) H Q E):wpAny (model X.prog X.w) X.A (call (.ref f) us) (EP X pins σ Q) X.xe s:=by
 have r2:Vals (vs++dvs) (us++ds):=r.append hd;have hl:(us++ds).length=ps.length:=by rw[<-r2.length];exact F.len _ _ _ _ h
 refine wpAny_call (D7 (F.run X.A X.stack s H ⟨us,[]⟩ (us++ds) (vs++dvs) Q E hr I.env0 (hb s us I.kIn hl) r2 h) fun r s' hq=>?_)
 cases r with
 |error e=>exact hx pins σ H s e s' I hq
 |ok fl=>
  cases fl with
  |ret u=>exact I.after hq
  |next=>exact False.elim hq
  |brk=>exact False.elim hq
  |cont=>exact False.elim hq
def R4 (F:FnOk X.prog X.w X.K X.mg X.base CX k f fd ps sp) (hr:Room k X.A) (hg:Gl X x) (hm:X.mg x=some (.ref f)) (hk:PySem.W.keepIn X.K (.ref f)=true) (hb:Binds X.K fd ps ds) (hd:Vals dvs ds) (hx:qV CX X E)
  (ha:PA X (e::es) t) (hdb:(x==("__debug__" :Str))=false:=by decide) (he:SE X e es:=by rfl) (hpl:BA X pos es:=by rfl):
  PE X (.Call (.Name x p) (e::es) [] pos) (LX sp dvs E t):=by
 intro pins s σ H Q I h
 refine D8 (IC I hg hm ?_ hdb)
 refine PySem.W.callWith_K (h₀:=X.base) I.ok.mod.kin hk (thn (ha pos pins s σ H _ I h) fun us s1 ⟨vs,H1,I1,r,q⟩=>⟨I1.kIn,?_⟩) he hpl
 exact IM F hr hb hd hx I1 r q
def R5 {pl:Sem Bool} (he:PE X o ta) (c:Cls X.K C) (hm:Meth X.K C m f) (F:FnOk X.prog X.w X.K X.mg X.base CX k f fd ps sp) (hr:Room k X.A) (hb:Binds X.K fd ps ds) (hd:Vals dvs ds) (hx:qV CX X E) (ha:PA X (e::es) t)
  (hst:SE X e es:=by rfl) (hpl:BA X pos es:=by rfl)
  (ht:eval (.Call (.Attribute o m apos) (e::es) [] pos) X.env=(do
   let ov <-eval o X.env
   standAt apos.atName
   let (f,first) <-holding [ov] (getMethod ov m pl)
   callWith pos f first (backTo pos (starEach (e::es) X.env)) (backToKw pos (keywordEach [] X.env))):=by rfl):
  PE X (.Call (.Attribute o m apos) (e::es) [] pos) (IL C m sp dvs E ta t):=by
 intro pins s σ H Q I h
 refine PySem.W.methodCall_KW (pl:=pl) (thn (he pins s σ H _ I h) fun u s1 ⟨x,H1,I1,rx,a,dx,fs,ex,ea,l,q⟩=>?_) ht
 subst ex;obtain rfl:u=Value.ref a:=rx
 refine LW I1 ea c hm l ?_
 refine PySem.W.callWith_K (first:=[.ref a]) (h₀:=X.base) I.ok.mod.kin hm.kp (thn (ha pos pins s1 σ H1 _ I1 q) fun us s2 ⟨vs,H2,I2,r,q2⟩=>⟨I2.kIn,?_⟩) hst hpl
 exact IM (us:= .ref a::us) (vs:= .ref a::vs) F hr hb hd hx I2 (.cons rfl r) q2
def R6 {pl:Sem Bool} (he:PE X o ta) (c:Cls X.K C) (hm:Meth X.K C m f) (F:FnOk X.prog X.w X.K X.mg X.base CX k f fd ps sp) (hr:Room k X.A) (hb:Binds X.K fd ps ds) (hd:Vals dvs ds) (hx:qV CX X E)
  (ht:eval (.Call (.Attribute o m apos) [] [] pos) X.env=(do
   let ov <-eval o X.env
   standAt apos.atName
   let (f,first) <-holding [ov] (getMethod ov m pl)
   callWith pos f first (backTo pos (starEach [] X.env)) (backToKw pos (keywordEach [] X.env))):=by rfl):
  PE X (.Call (.Attribute o m apos) [] [] pos) (IL C m sp dvs E ta tNil):=by
 intro pins s σ H Q I h
 refine PySem.W.methodCall_KW (pl:=pl) (thn (he pins s σ H _ I h) fun u s1 ⟨x,H1,I1,rx,a,dx,fs,ex,ea,l,q⟩=>?_) ht
 subst ex;obtain rfl:u=Value.ref a:=rx
 refine LW I1 ea c hm l ?_
 exact PySem.W.callWith_K0 (first:=[.ref a]) I1.kIn hm.kp (IM (us:=[.ref a]) (vs:=[.ref a]) F hr hb hd hx I1 (.cons rfl .nil) q)
structure Mk (K:FG) (C f:Addr):Prop where
 makes:PySem.W.makesIn K C=true
 init:PySem.W.findIn K (.ref C) "__init__" =some (some (.ref f))
 fn:PySem.W.isFn K (.ref f)=true
 kp:PySem.W.keepIn K (.ref C)=true
def R7 {pins:AL} {σ:St} {H:Hp} {s:Shared} {Q:VK} {us:List Value} {vs:List V} (M:Mk X.K C f) (F:FnOk X.prog X.w X.K X.mg X.base CX k f fd ps sp) (hr:Room (k+1) X.A) (hb:Binds X.K fd ps ds) (hd:Vals dvs ds)
  (hx:qV CX X E) (I:Inv X pins σ H s) (r:Vals vs us)
  (h:∀x dx,H x=none->H dx=none->dx≠x->sp (.ref x::(vs++dvs)) (zr (zr H dx (.own x)) x (.ins C dx [])) (fun v H2=>v=.non/\Q (.ref x) H2) E):
  wpAny (model X.prog X.w) X.A (call (.ref C) us) (EP X pins σ Q) X.xe s:=by
 have hq:=h (s.heap.objs.size+1) s.heap.objs.size (I.hok.fresh (D9 _)) (I.hok.fresh (Ah _)) (Aw (De _));have I2:=Inv.made (C:=C) I;have r2:Vals (V.ref (s.heap.objs.size+1)::(vs++dvs)) (Value.ref (s.heap.objs.size+1)::(us++ds)):= .cons rfl (r.append hd);have hl:(Value.ref (s.heap.objs.size+1)::us++ds).length=ps.length:=by
  have e:=r2.length;rw[F.len _ _ _ _ hq]at e;exact e.symm
 refine wpAny_call (Rm (f:=f) I.kIn M.makes M.init (Cy.mp M.fn) (D7 (F.run _ X.stack _ _ ⟨Value.ref (s.heap.objs.size+1)::us,[]⟩ (Value.ref (s.heap.objs.size+1)::(us++ds)) _ _ E (hr.make C us [])
  (I2.env0.make C us []) (hb _ (Value.ref (s.heap.objs.size+1)::us) I2.kIn hl) r2 hq) fun r s' hq'=>?_))
 cases r with
 |error e=>exact hx pins σ _ _ e s' I2 hq'
 |ok fl=>
  cases fl with
  |ret u=>
   obtain⟨v,H',I3,rv,ev,q3⟩:=I2.after hq';subst ev;exact⟨rv,⟨V.ref (s.heap.objs.size+1),H',I3,rfl,q3⟩⟩
  |next=>exact False.elim hq'
  |brk=>exact False.elim hq'
  |cont=>exact False.elim hq'
def R8 (M:Mk X.K C f) (F:FnOk X.prog X.w X.K X.mg X.base CX k f fd ps sp) (hr:Room (k+1) X.A) (hg:Gl X x) (hm:X.mg x=some (.ref C)) (hb:Binds X.K fd ps ds) (hd:Vals dvs ds) (hx:qV CX X E)
  (ha:PA X (e::es) t) (hdb:(x==("__debug__" :Str))=false:=by decide) (he:SE X e es:=by rfl) (hpl:BA X pos es:=by rfl):
  PE X (.Call (.Name x p) (e::es) [] pos) (LY C sp dvs E t):=by
 intro pins s σ H Q I h
 refine D8 (IC I hg hm ?_ hdb)
 refine PySem.W.callWith_K (h₀:=X.base) I.ok.mod.kin M.kp (thn (ha pos pins s σ H _ I h) fun us s1 ⟨vs,H1,I1,r,q⟩=>⟨I1.kIn,?_⟩) he hpl
 exact R7 M F hr hb hd hx I1 r q
end
structure FnScope (N P:List Str) (sc:Scope):Prop where
 kind:sc.kind=.function
 co:sc.isCoroutine=false
 gen:sc.isGenerator=false
 nd:N.Nodup
 pre:N.take P.length=P
 par:∀x∈P,sc.names.lookup x=some .local\/sc.names.lookup x=some .cell
 nofree:∀y∈sc.names,y.2≠ .free
theorem LZ {kindOf:Str->Option NameKind} {x:Str}:∀{binds:List (Str×Value)} {m:Str->Option Value},(∀v,(x,v)∉binds)->bindL kindOf binds m x=m x
 | [],_,_=>rfl
 | (n,v)::r,m,h=>by
  unfold bindL;rw[LZ fun w hw=>h w (An _ hw)]
  split
  .have:x≠n:=by rintro rfl;exact h v Ak
   simp[this]
  .rfl
theorem Ma {kindOf:Str->Option NameKind} {x:Str}:∀{binds:List (Str×Value)} {m:Str->Option Value},(∀v,(x,v)∉binds)->bindC kindOf binds m x=m x
 | [],_,_=>rfl
 | (n,v)::r,m,h=>by
  unfold bindC;rw[Ma fun w hw=>h w (An _ hw)]
  split
  .rfl
  .have:x≠n:=by rintro rfl;exact h v Ak
   simp[this]
theorem Mb {kindOf:Str->Option NameKind} {x:Str} {v:Value}:∀{P:List Str} {vs:List Value} {i:Nat} {m:Str->Option Value},P.Nodup->P[i]? =some x->vs[i]? =some v->kindOf x=some .local->
  bindL kindOf (P.zip vs) m x=some v
 | [],_,_,_,_,h,_,_=>by simp at h
 |_::_,[],_,_,_,_,h,_=>by simp at h
 |p::P,w::vs,0,m,nd,h1,h2,hk=>by
  simp at h1 h2;subst h1;subst h2;show bindL kindOf ((p,w)::P.zip vs) m p=_;unfold bindL;rw[LZ fun v hv=>(Bi.mp nd).1 (List.of_mem_zip hv).1,Ac hk]
  simp
 |p::P,w::vs,i+1,m,nd,h1,h2,hk=>by
  show bindL kindOf ((p,w)::P.zip vs) m x=_;unfold bindL;exact Mb (i:=i) (Bi.mp nd).2 (by simpa using h1) (by simpa using h2) hk
theorem Mc {kindOf:Str->Option NameKind} {x:Str} {v:Value}:∀{P:List Str} {vs:List Value} {i:Nat} {m:Str->Option Value},P.Nodup->P[i]? =some x->vs[i]? =some v->kindOf x≠some .local->
  bindC kindOf (P.zip vs) m x=some v
 | [],_,_,_,_,h,_,_=>by simp at h
 |_::_,[],_,_,_,_,h,_=>by simp at h
 |p::P,w::vs,0,m,nd,h1,h2,hk=>by
  simp at h1 h2;subst h1;subst h2;show bindC kindOf ((p,w)::P.zip vs) m p=_;unfold bindC;rw[Ma fun v hv=>(Bi.mp nd).1 (List.of_mem_zip hv).1,Ab hk]
  simp
 |p::P,w::vs,i+1,m,nd,h1,h2,hk=>by
  show bindC kindOf ((p,w)::P.zip vs) m x=_;unfold bindC;exact Mc (i:=i) (Bi.mp nd).2 (by simpa using h1) (by simpa using h2) hk
noncomputable def start (N:List Str) (vs:List V):St:=vs.map some++List.replicate (N.length-vs.length) none
noncomputable def cxOf (CX:jR) (P:Program) (w:World) (K:FG) (mg:Str->Option Value) (base:Heap) (N:List Str) (qual:Str) (scope:Scope) (f:Addr) (cd:Value) (A:Around) (outer:List Env) (s:Shared) (H:Hp) (E:XK):Cx where
 prog:=P
 w:=w
 K:=K
 mg:=mg
 base:=base
 A:=A.deeper (envOfC qual scope s.heap.objs.size f cd)
 N:=N
 s₀:=s
 H₀:=H
 env:=envOfC qual scope s.heap.objs.size f cd
 outer:=outer
 stack:=envOfC qual scope s.heap.objs.size f cd::outer
 ex:=[]
 calm:=true
 fn:=fun _=>true
 pn:=[]
 xe:=fun e s'=>wpAny (model P w) (A.deeper (envOfC qual scope s.heap.objs.size f cd)) (leaving (envOfC qual scope s.heap.objs.size f cd) e) (fun _ s''=>CX outer H s E e s'') (fun e' s''=>CX outer H s E e' s'') s'
def Md {sc:Scope} {n:Nat} {x:Str} (h:sc.names.lookup x=some .cell):∃c,(cellsFrom n sc.names []).lookup x=some c:=by
 have q:=PySem.W.cellsFrom_some sc.names n [] (.inl h);exact Option.isSome_iff_exists.mp q
def R9 {CX:jR} {P:Program} {w:World} {K:FG} {mg:Str->Option Value} {base:Heap} {N ps:List Str} {qual:Str} {scope:Scope} {f:Addr} {cd:Value} {A:Around} {outer:List Env} {s s1:Shared} {H:Hp} {E:XK} {us:List Value} {vs:List V}
  (S:FnScope N ps scope) (hd:A.handled=none) (e0:Env0 P w K mg base A outer s H) (hl:vs.length=ps.length) (r:Vals vs us)
  (x:InCallC s s.heap.objs.size (bindL (envOfC qual scope s.heap.objs.size f cd).kindOf (ps.zip us) fun _=>none) (cellsFrom (s.heap.objs.size+1) scope.names []) (bindC (envOfC qual scope s.heap.objs.size f cd).kindOf (ps.zip us) fun _=>none) s1):
  Inv (cxOf CX P w K mg base N qual scope f cd A outer s H E) [] (start N vs) H s1:=by
 have hpl:ps.length<=N.length:=by have:=congrArg List.length S.pre;rw[Bc]at this;lia
 obtain⟨h1,tk,rfl,hk⟩:=x.done;have noA:∀b:Addr,b∉(cxOf CX P w K mg base N qual scope f cd A outer s H E).ex:=fun b z=>absurd (show b∈([]:List Addr) from z) (by simp)
 refine⟨⟨e0.mod,S.kind,rfl,rfl,Ah _,fun y z c h1 h2=>?_,fun y hy=>?_,fun y c _ h=>?_,fun _=>hd,Around.frames_deeper e0.frames,.inr ⟨rfl,rfl⟩,fun b z=>absurd z (noA b),e0.bs,e0.bsz,fun b _ _=>noA b,fun b z=>absurd z (noA b),e0.funs,e0.frf⟩,
  rfl,e0.bare,Un.kept hk,⟨_,x.toInCall.ns,fun i y v h1 h2 h3=>?_⟩,fun y c h=>⟨_,x.cell y c h⟩,e0.hok.fresh (Ah _),fun y c h=>?_,fun p hp=>absurd (show p∈([]:AL) from hp) (by simp),e0.hok.kept hk,?_⟩
 .exact name_of_addr x.apart (Cz h1) (Cz h2)
 .have hy:scope.names.lookup y=some .cell\/scope.names.lookup y=some .free:=hy
  rcases hy with hy|hy
  .exact Md hy
  .exact absurd rfl (S.nofree _ (Cz hy))
 .exact Es (x.above y c (Cz h))
 .have hi:i<vs.length:=by
   unfold start at h2
   by_cases hi:i<vs.length
   .exact hi
   .rw[Bl (by simpa using hi)]at h2
    rw[Gn]at h2
    split at h2<;>cases h2
  have ha:vs[i]? =some v:=by
   unfold start at h2;rw[Bg (by simpa using hi),Ba]at h2
   cases e:vs[i]? with
   |none=>rw[e]at h2;cases h2
   |some a=>rw[e]at h2;cases h2;rfl
  obtain⟨u,hu,rv⟩:=r.get ha;have hp:ps[i]? =some y:=by
   rw[<-S.pre,Cn (by lia)];exact h1
  have ndP:ps.Nodup:=by rw[<-S.pre];exact S.nd.sublist (List.take_sublist _ _)
  refine⟨u,rv,?_⟩
  rcases S.par y (Al hp) with k|k
  .exact .inl ⟨k,Mb ndP hp hu k⟩
  .obtain⟨c,e⟩:=Md (n:=s.heap.objs.size+1) k
   refine .inr ⟨.inl k,c,e,?_⟩
   have q:=x.cell y c e;rw[Mc ndP hp hu (by show scope.names.lookup y≠_;rw[k];decide)]at q
   exact q
 .exact e0.hok.fresh (Es (x.above y c (Cz h)))
 .unfold start
  show _=N.length;rw[As,Ae,Ds];lia
def RA {CX:jR} {P:Program} {w:World} {K:FG} {mg:Str->Option Value} {base:Heap} {k:Nat} {f:Addr} {name qual:Str} {params:Arguments} {body:List Stmt} {scope:Scope} {dV kV doc pm cdv ct oc:Value} {an od:Option Addr}
  {osl:Array (Option Value)} {N ps:List Str} {sp:Sp} (lk:K.lookup f=some ⟨oc,od,.func (PySem.W.fnOf name qual params body scope dV kV doc pm an cdv ct),osl⟩) (hcd:PySem.W.codeIn K cdv qual=true) (S:FnScope N ps scope)
  (len:∀vs H Q E,sp vs H Q E->vs.length=ps.length)
  (hbody:∀(A:Around) (outer:List Env) (s:Shared) (H:Hp) (vs:List V) (Q:VK) (E:XK),Room k (A.deeper (envOfC qual scope s.heap.objs.size f cdv))->sp vs H Q E->
   ∃t,yW (cxOf CX P w K mg base N qual scope f cdv A outer s H E) body t/\t {nx:=fun _ H'=>Q .non H',rt:=Q} (start N vs) H):
  FnOk P w K mg base CX (k+1) f (PySem.W.fnOf name qual params body scope dV kV doc pm an cdv ct) ps sp:=by
 refine⟨len,fun A outer s H args us vs Q E hr e0 hb r hsp=>?_⟩
 have hl:=len _ _ _ _ hsp;have KX:K.In s.heap:=e0.mod.kin.keeps fun b o e=>(e0.bs b o e).1
 have lim:s.heap.NoLimit:=e0.mod.nolimit.keeps fun b o e=>(e0.bs b o e).1
 have hkind:∀y∈ps.zip us,scope.names.lookup y.1=some .local\/(scope.names.lookup y.1=some .cell/\((cellsFrom (s.heap.objs.size+1) scope.names []).lookup y.1).isSome=true):=fun zz59 hy => by
  obtain ⟨n,v⟩ := zz59
  rcases S.par n (List.of_mem_zip hy).1 with q|q
  .exact .inl q
  .exact .inr ⟨q,PySem.W.cellsFrom_some _ _ _ (.inl q)⟩
 refine codeAny_call_function hr.depth (KX _ _ lk) rfl S.co S.gen rfl (PySem.W.codeRec_of KX hcd) (hb _ _ _ _ ?_)
 refine wpAny_newFunctionEnv_cells S.kind hkind fun env he s1 x=>?_
 subst he
 refine⟨lim.keeps x.toInCall.keep,codeAny_func ?_⟩
 obtain⟨t,ht,hq⟩:=hbody A outer s H vs Q E (hr.deeper _) hsp;have I:Inv (cxOf CX P w K mg base N qual scope f cdv A outer s H E) [] (start N vs) H s1:=R9 S hr.hd e0 hl r x
 refine Cd (ht [] s1 (start N vs) H _ I hq) (fun fl s' hs=>?_) fun e s' hs=>hs
 have fin:∀{σ':St} {H':Hp} {v:V} {u:Value},Inv (cxOf CX P w K mg base N qual scope f cdv A outer s H E) [] σ' H' s'->RelV v u->Q v H'->CE outer P w H s Q u s':=
  fun {σ' H' v u} J rv q=>⟨v,H',J.os,J.bare,J.base,J.hok,rv,q⟩
 cases fl with
 |ret u=>
  obtain⟨v,σ',H',J,rv,q⟩:=hs;exact fin J rv q
 |next=>
  obtain⟨σ',H',J,q⟩:=hs;exact fin (v:=V.non) (u:=Value.none) J rfl q
 |brk=>
  obtain⟨_,_,_,q⟩:=hs;exact False.elim q
 |cont=>
  obtain⟨_,_,_,q⟩:=hs;exact False.elim q
section
variable {X:Cx} {x:Str} {p pos:Pos} {e:Expr} {es:List Expr} {t:TA} {id T:String} {r:List V->Hp->VK->Prop}
def tCB (r:List V->Hp->VK->Prop) (t:TA):TE:=fun σ H Q=>t σ H fun vs H1=>r vs H1 Q
def RB (hc:qg X (.builtin id) r) (hg:Gl X x) (hm:X.mg x=none) (hv:bootBuiltins x=some (.builtin id)) (ha:PA X (e::es) t) (hn:x≠"__name__" :=by decide) (hdb:(x==("__debug__" :Str))=false:=by decide)
  (he:SE X e es:=by rfl) (hpl:BA X pos es:=by rfl):PE X (.Call (.Name x p) (e::es) [] pos) (tCB r t):=by
 intro pins s σ H Q I h
 refine D8 (BP I hg hm hv ?_ hn hdb)
 exact PyProof.Rows.callWith_builtin1 (thn (ha pos pins s σ H _ I h) fun us s1 zz60 => by obtain ⟨vs,H1,I1,r1,q1⟩ := zz60; exact hc pins s1 σ H1 vs us Q I1 r1 q1) he hpl
def RC (hc:qg X (.type T) r) (hg:Gl X x) (hm:X.mg x=none) (hv:bootBuiltins x=some (.type T)) (ha:PA X (e::es) t) (hn:x≠"__name__" :=by decide) (hdb:(x==("__debug__" :Str))=false:=by decide)
  (he:SE X e es:=by rfl) (hpl:BA X pos es:=by rfl):PE X (.Call (.Name x p) (e::es) [] pos) (tCB r t):=by
 intro pins s σ H Q I h
 refine D8 (BP I hg hm hv ?_ hn hdb)
 exact Eu (thn (ha pos pins s σ H _ I h) fun us s1 zz61 => by obtain ⟨vs,H1,I1,r1,q1⟩ := zz61; exact hc pins s1 σ H1 vs us Q I1 r1 q1) he hpl
end
end L2
namespace HT
open PySem PyProof.Rows
section
variable {prog:Program} {w:World} {A:Around} {E:VP} {s:Shared}
noncomputable def sIx (n d:Nat):Option Int->Nat
 |none=>d
 |some v=>if v<0 then (v+(n:Int)).toNat else min v.toNat n
def RD (n d:Nat) (hd:d<=n) (o:Option Int):sIx n d o<=n:=by
 cases o with
 |none=>exact hd
 |some v=>
  show (if v<0 then (v+(n:Int)).toNat else min v.toNat n)<=n
  by_cases hv:v<0
  .rw[Ac hv];lia
  .rw[Ab hv];exact Nat.min_le_right _ _
def Me (v:Int) (n d:Nat):(if v<0 then max (v+(n:Int)) 0 else min v (n:Int))=((sIx n d (some v):Nat):Int):=by
 show (if v<0 then max (v+(n:Int)) 0 else min v (n:Int))=(((if v<0 then (v+(n:Int)).toNat else min v.toNat n):Nat):Int)
 by_cases hv:v<0
 .simp only[Ac hv];lia
 .simp only[Ab hv];lia
def RE (lo hi:Option Int) (n:Nat):Builtin.Slice.sliceAdjust lo hi 1 (n:Int)=(((sIx n 0 lo:Nat):Int),((sIx n n hi:Nat):Int)):=by
 have h1: ¬((1:Int)<0):=by lia
 unfold Builtin.Slice.sliceAdjust;simp only[h1,B0]
 refine Prod.ext ?_ ?_
 .cases lo with
  |none=>rfl
  |some v=>exact Me v n 0
 .cases hi with
  |none=>rfl
  |some v=>exact Me v n n
def RF (i j:Nat):Builtin.Slice.slicePlaces (i:Int) (j:Int) 1=j-i:=by
 unfold Builtin.Slice.slicePlaces;have h1:(1:Int) > 0:=by lia
 simp only[h1,By,Int.ediv_one]
 split<;>lia
def Mf {v:Value} {o:Option Int} {Q:Option Int->Shared->Prop} (p:IsPart v o) (h:Q o s):wpAny (model prog w) A (Builtin.Slice.slicePartIndex v) Q E s:=by
 cases p with
 |none=>exact slicePart_none h
 |int i t=>exact slicePart_int h
def RG {sl:Addr} {vl vu:Value} {lo hi:Option Int} {n:Nat} {Q:Int×Int×Nat->Shared->Prop} (hs:s.heap.IsSliceOf sl vl vu .none) (pl:IsPart vl lo) (pu:IsPart vu hi)
  (h:Q (((sIx n 0 lo:Nat):Int),1,sIx n n hi-sIx n 0 lo) s):wpAny (model prog w) A (Builtin.Slice.sliceApplied (.ref sl) (pure (n:Int))) Q E s:=by
 obtain⟨os,hos,hcs,hds⟩:=id hs;unfold Builtin.Slice.sliceApplied Builtin.Slice.sliceFields
 refine Aa (Aa (wpAny_field hos hds (x:=vl) rfl (Aa (wpAny_field hos hds (x:=vu) rfl (Aa (wpAny_field hos hds (x:= .none) rfl (Ad ?_)))))))
 refine Aa (slicePart_none ?_)
 show wpAny _ _ (if ((1:Int)==0)=true then _ else _) _ _ s
 rw[Ab (by decide)]
 refine Aa (Mf pl (Aa (Mf pu (Aa (Ad ?_)))))
 show wpAny _ _ (match Builtin.Slice.sliceAdjust lo hi 1 (n:Int) with|(lo,hi)=>pure (lo,(1:Int),Builtin.Slice.slicePlaces lo hi 1)) _ _ s
 rw[RE lo hi n];show wpAny _ _ (pure (((sIx n 0 lo:Nat):Int),(1:Int),Builtin.Slice.slicePlaces ((sIx n 0 lo:Nat):Int) ((sIx n n hi:Nat):Int) 1)) _ _ s;rw[RF];exact Ad h
def RH (xs:Array Value) (i k:Nat):((List.range k).filterMap fun (m:Nat)=>xs[((i:Int)+(m:Int)*1).toNat]?).toArray=((xs.toList.drop i).take k).toArray:=by
 have e:(fun (m:Nat)=>xs[((i:Int)+(m:Int)*1).toNat]?)=fun m=>xs[i+m]? :=by
  funext m
  have:((i:Int)+(m:Int)*1).toNat=i+m:=by lia
  rw[this]
 rw[e];have:=pick_run xs i k;rw[List.filterMap_map]at this;have e2:((fun x=>xs[x]?)∘fun x=>i+x)=fun m=>xs[i+m]? :=rfl
 rw[e2]at this;rw[this]
def getItem_tuple_cut {t sl:Addr} {items:Array Value} {vl vu:Value} {lo hi:Option Int} {Q:VP} (ht:IsTup s.heap t items) (hs:s.heap.IsSliceOf sl vl vu .none) (pl:IsPart vl lo) (pu:IsPart vu hi)
  (hw: ¬(sIx items.size 0 lo=0/\sIx items.size items.size hi=items.size))
  (h:Q (.ref s.heap.objs.size) {s with heap:=s.heap.push {cls:= .type "tuple",data:= .seq ((items.toList.drop (sIx items.size 0 lo)).take (sIx items.size items.size hi-sIx items.size 0 lo)).toArray}})
  (hsz:items.size<=sizeLine):wpAny (model prog w) A (getItem (.ref t) (.ref sl)) Q E s:=by
 have htake:sizeOk (.seq ((items.toList.drop (sIx items.size 0 lo)).take (sIx items.size items.size hi-sIx items.size 0 lo)).toArray):=by
  show ((items.toList.drop (sIx items.size 0 lo)).take (sIx items.size items.size hi-sIx items.size 0 lo)).toArray.size<=sizeLine;rw[Am,Bc,Ex,B2];lia
 have hj:sIx items.size items.size hi<=items.size:=RD _ _ (Ah _) hi;obtain⟨os,hos,hcs,hds⟩:=id hs;have hTs:s.TypeIs (.ref sl) "slice" :=⟨os,hos,hcs⟩;unfold getItem
 try with_reducible refine Bx ?_
 first|refine Aa (Ad ?_)|skip
 refine Aa (wpAny_sequenceKey ht.typeIs (by decide) ?_)
 refine Aa (Dt (name:=Str.ofString "__getitem__") ht.typeIs Gp
  (B5 Gp ht.typeIs entry_tuple_getitem ?_ (args_tuple_getitem _ _)))
 show wpAny _ _ (Builtin.Tuple.tupleItemsOf (.ref t) >>=_) _ _ s
 refine Aa (tupleItemsOf_ ht ?_)
 refine Aa (wpAny_typeOf hTs ?_)
 rw[Ac (by decide)]
 refine Aa (RG hs pl pu ?_)
 have hno: ¬((((sIx items.size 0 lo:Nat):Int)==0 && (1:Int)==1 && (sIx items.size items.size hi-sIx items.size 0 lo)==items.size)=true):=by
  intro q;rw[Be,Be]at q;have q1:((sIx items.size 0 lo:Nat):Int)=0:=eq_of_beq q.1.1;have q2:sIx items.size items.size hi-sIx items.size 0 lo=items.size:=eq_of_beq q.2;exact hw ⟨by lia,by lia⟩
 show wpAny _ _ (if (((sIx items.size 0 lo:Nat):Int)==0 && (1:Int)==1 && (sIx items.size items.size hi-sIx items.size 0 lo)==items.size)=true then _ else _) _ _ s
 rw[Ab hno,RH]
 first
  |exact Aa (m:=Builtin.Tuple.tupleExact _) (B6 (Ad ⟨_,rfl,Ad h⟩) htake)
  |exact Aa (m:=Builtin.Tuple.tupleExact _) (B6 (Aa (Ad (Ad ⟨_,rfl,Ad h⟩))) htake)
  |exact Aa (Aa (m:=Builtin.Tuple.tupleExact _) (B6 (Ad (Ad ⟨_,rfl,Ad h⟩)) htake))
  |exact Aa (Aa (m:=Builtin.Tuple.tupleExact _) (B6 (Ad ⟨_,rfl,Ad h⟩) htake))
end
end HT
namespace L2
open PySem PySem.Spec PyProof.Rows
abbrev TO:=St->Hp->(Option Int->Hp->Prop)->Prop
def PO (X:Cx) (e:Option Expr) (t:TO):Prop:=
 ∀(pins:AL) (s:Shared) (σ:St) (H:Hp) (Q:Option Int->Hp->Prop),Inv X pins σ H s->t σ H Q->
  wpAny (model X.prog X.w) X.A (evalPart e X.env) (fun u s'=> ∃o H',Inv X pins σ H' s'/\IsPart u o/\Q o H') X.xe s
def RI:TO:=fun _ H Q=>Q none H
def RJ (t:TE):TO:=fun σ H Q=>t σ H fun x H1=> ∃i,x=.int i/\Q (some i) H1
section
variable {X:Cx} {e:Expr} {te:TE} {lo hi:Option Expr} {tl th:TO} {pos p2:Pos}
def RK:PO X none RI:=by
 intro pins s σ H Q I h;rw[evalPart_none];exact Ad ⟨none,H,I,.none,h⟩
def RL (h:PE X e te):PO X (some e) (RJ te):=by
 intro pins s σ H Q I hw;rw[evalPart_some]
 refine thn (h pins s σ H _ I hw) fun u s1 zz62 => ?_
 obtain ⟨x,H1,I1,r1,q1⟩ := zz62
 obtain⟨i,rfl,q⟩:=q1;obtain⟨t,rfl⟩:=r1;exact⟨some i,H1,I1,.int i t,q⟩
def SlR (X:Cx) (r:V->Option Int->Option Int->Hp->VK->Prop):Prop:=
 ∀(pins:AL) (s:Shared) (σ:St) (H:Hp) (x:V) (v vl vu:Value) (lo hi:Option Int) (sl:Addr) (Q:VK),Inv X pins σ H s->RelV x v->s.heap.IsSliceOf sl vl vu .none->IsPart vl lo->IsPart vu hi->r x lo hi H Q->
  ∃T id,typeLookup (.type T) "__getitem__" =pure (some (.builtin id))/\s.TypeIs v T/\wpAny (model X.prog X.w) X.A (getItem v (.ref sl)) (EP X pins σ Q) X.xe s
def SlR.or {r r':V->Option Int->Option Int->Hp->VK->Prop} (h:SlR X r) (h':SlR X r'):SlR X (fun x lo hi H Q=>r x lo hi H Q\/r' x lo hi H Q):=by
 intro pins s σ H x v vl vu lo hi sl Q I rx hs pl pu q
 rcases q with q|q
 .exact h pins s σ H x v vl vu lo hi sl Q I rx hs pl pu q
 .exact h' pins s σ H x v vl vu lo hi sl Q I rx hs pl pu q
def tSl (r:V->Option Int->Option Int->Hp->VK->Prop) (te:TE) (tl th:TO):TE:=fun σ H Q=>te σ H fun x H1=>tl σ H1 fun l H2=>th σ H2 fun u H3=>r x l u H3 Q
theorem RM {r:V->Option Int->Option Int->Hp->VK->Prop} (hr:SlR X r) (he:PE X e te) (hl:PO X lo tl) (hu:PO X hi th):PE X (.Subscript e (.Slice lo hi none p2) pos) (tSl r te tl th):=by
 intro pins s σ H Q I h
 refine Subscript_ (thn (he pins s σ H _ I h) fun v s1 ⟨x,H1,I1,r1,q1⟩=>?_)
 refine wpAny_Slice (thn (hl pins s1 σ H1 _ I1 q1) fun vl s2 ⟨l,H2,I2,pl,q2⟩=>thn (hu pins s2 σ H2 _ I2 q2) fun vu s3 ⟨u,H3,I3,pu,q3⟩=>?_)
 rw[evalPart_none]
 refine Ad ?_
 have I4:Inv X pins σ H3 {s3 with heap:=s3.heap.push {cls:= .type "slice",data:= .fields #[vl,vu,.none]}}:=I3.kept (t':=s3.toks) fun b ob q=>Ay _ q
 obtain⟨T,id,hT,ht,hg⟩:=hr pins {s3 with heap:=s3.heap.push {cls:= .type "slice",data:= .fields #[vl,vu,.none]}} σ H3 x v vl vu l u s3.heap.objs.size Q I4 r1 (Heap.IsSliceOf.new ..) pl pu q3
 show wpAny (model X.prog X.w) X.A (subscriptTail e (.Slice lo hi none p2) v (.ref s3.heap.objs.size)) (EP X pins σ Q) X.xe {s3 with heap:=s3.heap.push {cls:= .type "slice",data:= .fields #[vl,vu,.none]}}
 exact tail_any (ops:=[.ref s3.heap.objs.size,v]) ht hT hg (by with_unfolding_all rfl)
def cutV (xs:List V) (lo hi:Option Int):List V:=(xs.drop (HT.sIx xs.length 0 lo)).take (HT.sIx xs.length xs.length hi-HT.sIx xs.length 0 lo)
def Mg (xs:List V) (lo hi:Option Int):(cutV xs lo hi).length<=xs.length:=by
 unfold cutV;rw[Bc,Ex];lia
def rSlT (K:FG):V->Option Int->Option Int->Hp->VK->Prop:=fun x lo hi H Q=> ∃a xs,x=.ref a/\SqT K H a xs/\
 ¬(HT.sIx xs.length 0 lo=0/\HT.sIx xs.length xs.length hi=xs.length)/\∀p,H p=none->Q (.ref p) (zr H p (.tup (cutV xs lo hi)))
def sl_tup:SlR X (rSlT X.K):=by
 intro pins s σ H x v vl vu lo hi sl Q I rx hs pl pu h;obtain⟨a,xs,rfl,hx,hw,q⟩:=h;cases rx;obtain⟨its,r,ht,hz⟩:=I.tuple hx;have hlen:its.toArray.size=xs.length:=by rw[Am];exact r.length.symm
 refine⟨"tuple",_,Gp.lookup,ht.typeIs,?_⟩
 refine HT.getItem_tuple_cut ht hs pl pu (by rw[hlen];exact hw) ?_ (by rw[hlen];exact hz)
 rw[hlen]
 refine⟨.ref s.heap.objs.size,_,I.laid (t':=s.toks) (o:= .tup (cutV xs lo hi)) (fun b ob q=>Ay _ q) (Ah _) ?_,rfl,q _ (I.hok.fresh (Ah _))⟩
 exact⟨Bw (Mg xs lo hi) hz,_,(r.drop (HT.sIx xs.length 0 lo)).take (HT.sIx xs.length xs.length hi-HT.sIx xs.length 0 lo),IsTup.new _ _⟩
end
noncomputable def qp (n:Nat) (i:Int):Option Nat:=if 0<=i then (if i<n then some i.toNat else none) else if -(n:Int)<=i then some (i+n).toNat else none
def atI {α:Type} (xs:List α) (i:Int):Option α:=(qp xs.length i).bind fun j=>xs[j]?
def Mh {n:Nat} {i:Int} {j:Nat} (h:qp n i=some j):seqIndex? i n=some j/\j<n/\ -(n:Int)<=i/\i<n:=by
 unfold qp at h
 by_cases h0:0<=i
 .rw[Ac h0]at h
  by_cases h1:i<n
  .rw[Ac h1]at h
   have e:i.toNat=j:=Option.some.inj h;exact⟨by rw[seqIndex_of h0 h1,e],by lia,by lia,h1⟩
  .rw[Ab h1]at h;cases h
 .rw[Ab h0]at h
  by_cases h1: -(n:Int)<=i
  .rw[Ac h1]at h
   have e:(i+n).toNat=j:=Option.some.inj h;exact⟨by rw[seqIndex_neg (by lia) h1,e],by lia,h1,by lia⟩
  .rw[Ab h1]at h;cases h
def Hc {α:Type} {xs:List α} {i:Int} {v:α} (h:atI xs i=some v):∃j,seqIndex? i xs.length=some j/\xs[j]? =some v/\j<xs.length/\ -(xs.length:Int)<=i/\i<xs.length:=by
 unfold atI at h;cases e:qp xs.length i with
 |none=>rw[e]at h;cases h
 |some j=>
  rw[e]at h;obtain⟨h1,h2,h3,h4⟩:=Mh e;exact⟨j,h1,h,h2,h3,h4⟩
def jA {α:Type} {xs:List α} {j:Nat} {v:α} (h:xs[j]? =some v):atI xs (j:Int)=some v:=by
 have hj:j<xs.length:=(Ao.mp h).1;have e:qp xs.length (j:Int)=some j:=by
  unfold qp;rw[Ac (by lia),Ac (by lia)];simp
 unfold atI;rw[e];exact h
def RN {α:Type} (xs:List α) (v:α):atI (xs++[v]) (-1)=some v:=by
 have hl:(xs++[v]).length=xs.length+1:=by simp
 have e:qp (xs++[v]).length (-1)=some xs.length:=by
  unfold qp;rw[hl,Ab (by decide),Ac (by lia)]
  congr 1
  lia
 unfold atI;rw[e];show (xs++[v])[xs.length]? =some v;simp
def Hd (b:Expr):Prop:=∀o i,subscripted b false o i=operate [o,i] (getItem o i)
def IxR (X:Cx) (r:R2):Prop:=
 ∀(value slice:Expr) (pins:AL) (s:Shared) (σ:St) (H:Hp) (x y:V) (v u:Value) (Q:VK),Inv X pins σ H s->RelV x v->RelV y u->r x y H Q->
  subscripted slice false v u=operate [v,u] (getItem v u)->wpAny (model X.prog X.w) X.A (subscriptTail value slice v u) (EP X pins σ Q) X.xe s
def MtR (X:Cx) (id:String) (r:V->List V->Hp->VK->Prop):Prop:=
 ∀(pins:AL) (s:Shared) (σ:St) (H:Hp) (x:V) (xs:List V) (v:Value) (us:List Value) (Q:VK),Inv X pins σ H s->RelV x v->Vals xs us->r x xs H Q->
  wpAny (model X.prog X.w) X.A (call (.builtin id) (v::us)) (EP X pins σ Q) X.xe s
section
variable {X:Cx} {a b:Expr} {ta tb:TE} {pos:Pos}
def IxR.or {r r':R2} (h:IxR X r) (h':IxR X r'):IxR X (fun x y H Q=>r x y H Q\/r' x y H Q):=by
 intro value slice pins s σ H x y v u Q I rx ry q hs
 rcases q with q|q
 .exact h value slice pins s σ H x y v u Q I rx ry q hs
 .exact h' value slice pins s σ H x y v u Q I rx ry q hs
def RO {r:R2} (hr:IxR X r) (ha:PE X a ta) (hb:PE X b tb) (hs:Hd b):PE X (.Subscript a b pos) (tOp r ta tb):=by
 intro pins s σ H Q I h;exact Subscript_ (binT ha hb I h fun v u s2 x y H2 I2 rx ry q=>hr a b pins s2 σ H2 x y v u Q I2 rx ry q (hs _ _))
def rIxL (K:FG):R2:=fun x y H Q=> ∃p xs i v,x=.ref p/\y=.int i/\SqL K H p xs/\atI xs i=some v/\Q v H
def rIxT (K:FG):R2:=fun x y H Q=> ∃p xs i v,x=.ref p/\y=.int i/\SqT K H p xs/\atI xs i=some v/\Q v H
def rIxS:R2:=fun x y H Q=> ∃z i c,x=.str z/\y=.int i/\z.length<=sizeLine/\atI z.cps.toList i=some c/\Q (.str ⟨#[c]⟩) H
def ix_list:IxR X (rIxL X.K):=by
 intro value slice pins s σ H x y v u Q I rx ry h hs;obtain⟨p,xs,i,z,rfl,rfl,hq,he,q⟩:=h;cases rx;obtain⟨t,rfl⟩:=ry;obtain⟨its,r,pl,hz⟩:=I.list hq;obtain⟨j,h1,h2,h3,h4,h5⟩:=Hc he;obtain⟨w,ew,rw'⟩:=r.get h2;have hl:=r.length;have hn:=CJ;have fin:EP X pins σ Q w s:=⟨z,H,I,rw',q⟩
 by_cases h0:0<=i
 .have hj:i.toNat=j:=by
   rw[seqIndex_of h0 h5]at h1;exact Option.some.inj h1
  exact item_listR pl.isList h0 (by lia) (by rw[hj];simpa using ew) fin hs
 .have hj:(i+(its.toArray.size:Int)).toNat=j:=by
   rw[seqIndex_neg (by lia) h4]at h1
   rw[Am,<-hl];exact Option.some.inj h1
  exact subscriptTail_builtinR (x:=w) pl.isList.typeIs slot_list_getitem.lookup
   (wpAny_getItem_list_neg (Q:=fun r s'=>r=w/\EP X pins σ Q r s') pl.isList (by lia) (by rw[Am]<;>lia) (by lia) (by rw[hj];simpa using ew) ⟨rfl,fin⟩) hs
def ix_tup:IxR X (rIxT X.K):=by
 intro value slice pins s σ H x y v u Q I rx ry h hs;obtain⟨p,xs,i,z,rfl,rfl,hq,he,q⟩:=h;cases rx;obtain⟨t,rfl⟩:=ry;obtain⟨its,r,pl,hz⟩:=I.tuple hq;obtain⟨j,h1,h2,h3,h4,h5⟩:=Hc he;obtain⟨w,ew,rw'⟩:=r.get h2;have hl:=r.length;have hn:=CJ;have fin:EP X pins σ Q w s:=⟨z,H,I,rw',q⟩;exact subscriptTail_builtinR (x:=w) pl.typeIs slot_tuple_getitem.lookup
  (getItem_tuple (j:=j) (Q:=fun r s'=>r=w/\EP X pins σ Q r s') pl (by lia) (by lia) (by rw[Am,<-hl];exact h1) (by simpa using ew) ⟨rfl,fin⟩) hs
def RP:IxR X rIxS:=by
 intro value slice pins s σ H x y v u Q I rx ry h hs;obtain⟨z,i,c,rfl,rfl,hz,he,q⟩:=h;obtain⟨t,rfl⟩:=rx;obtain⟨t',rfl⟩:=ry;obtain⟨j,h1,h2,h3,h4,h5⟩:=Hc he;have hl:z.cps.toList.length=z.length:=by simp[Str.length]
 rw[hl]at h1 h4 h5;have hn:=CJ;exact tail_any (typeIs_str s z t) slot_str_getitem.lookup (getItem_str (c:=c) (by
  have e1:decide (i < -(2 ^ 63:Int))=false:=Bq (by lia)
  have e2:decide (i≥2 ^ 63)=false:=Bq (by lia)
  rw[e1,e2,Ea]) (by rw[h1];simpa using h2) ⟨.str ⟨#[c]⟩,H,I.tok _,⟨_,rfl⟩,q⟩) hs
def RQ (its:List Value) (n j:Nat) (u:Value):Obj.mapSeq (·.setIfInBounds j u) {cls:= .type "list",data:= .seq its.toArray n}={cls:= .type "list",data:= .seq (its.set j u).toArray n}:=by
 simp[Obj.mapSeq]
theorem Inv.lst {pins:AL} {σ:St} {H:Hp} {s:Shared} {p:Addr} {xs:List V} (I:Inv X pins σ H s) (h:H p=some (.lst xs)):
  ∃(its:List Value) (n:Nat),Vals xs its/\s.heap.get? p=some {cls:= .type "list",data:= .seq its.toArray n}/\xs.length<=sizeLine:=by
 obtain⟨z,its,n,r,e⟩:=I.hok p _ h;exact⟨its,n,r,e,z⟩
def Inv.lstUpd {pins:AL} {σ:St} {H:Hp} {s:Shared} {p:Addr} {xs ys:List V} {its its':List Value} {n n':Nat} {f:Obj->Obj} (I:Inv X pins σ H s) (h:H p=some (.lst xs))
  (ho:s.heap.get? p=some {cls:= .type "list",data:= .seq its.toArray n}) (hf:f {cls:= .type "list",data:= .seq its.toArray n}={cls:= .type "list",data:= .seq its'.toArray n'}) (r:Vals ys its') (hz:ys.length<=sizeLine) (t:Nat):
  Inv X pins σ (zr H p (.lst ys)) {s with heap:=s.heap.update p f,toks:=t}:=by
 have e:(s.heap.update p f).get? p=some {cls:= .type "list",data:= .seq its'.toArray n'}:=by
  rw[Du f ho (by rw[hf]<;>rfl),hf]
 refine I.write (x:=p) (e:=p) (by rw[h];trivial) (.inl rfl) (fun b u hb q=>(Ff _ _ (Cc hb)).trans q) ⟨_,e⟩ ?_
 exact⟨hz,its',n',r,e⟩
def He:V->V->V->Hp->(Hp->Prop)->Prop:=fun o i v H Q=> ∃p xs k j,o=.ref p/\i=.int k/\H p=some (.lst xs)/\qp xs.length k=some j/\Q (zr H p (.lst (xs.set j v)))
def Mi:PSet X He:=by
 intro pins s σ H o i v ov iv u Q I ro ri rv h;obtain⟨p,xs,k,j,rfl,rfl,hp,hj,q⟩:=h;cases ro;obtain⟨t,rfl⟩:=ri;obtain⟨its,n,r,ho,hz⟩:=I.lst hp;obtain⟨h1,h2,h3,h4⟩:=Mh hj;have hl:=r.length;have hn:=CJ;have I':Inv X pins σ (zr H p (.lst (xs.set j v))) {s with heap:=s.heap.update p (Obj.mapSeq (·.setIfInBounds j u))}:=
  I.lstUpd hp ho (RQ its n j u) (r.set rv j) (by rw[B7];exact hz) s.toks
 by_cases h0:0<=k
 .have hk:k.toNat=j:=by
   rw[seqIndex_of h0 h4]at h1;exact Option.some.inj h1
  exact PySem.W.ki_setAt ho h0 (by lia) (by rw[Am,<-hl];exact h4) (by rw[hk];exact⟨_,I',q⟩)
 .have hk:(k+(its.toArray.size:Int)).toNat=j:=by
   rw[seqIndex_neg (by lia) h3]at h1
   rw[Am,<-hl];exact Option.some.inj h1
  exact PySem.W.ki_setBack ho (by lia) (by rw[Am,<-hl];exact h3) (by lia) (by rw[hk];exact⟨_,I',q⟩)
def RS (lo hi:Option Int) (n:Nat):(sliceBounds lo hi none n).1=((HT.sIx n 0 lo:Nat):Int)/\(sliceBounds lo hi none n).2.1=((HT.sIx n n hi:Nat):Int)/\(sliceBounds lo hi none n).2.2=1:=by
 refine⟨?_,?_,rfl⟩
 .cases lo with
  |none=>simp[sliceBounds,HT.sIx]
  |some i=>
   simp only[sliceBounds,HT.sIx,Option.getD_none,show (1:Int) > 0 by decide,By]
   by_cases h:i<0
   .simp only[h,By]<;>lia
   .simp only[h,B0]<;>lia
 .cases hi with
  |none=>simp[sliceBounds,HT.sIx]
  |some i=>
   simp only[sliceBounds,HT.sIx,Option.getD_none,show (1:Int) > 0 by decide,By]
   by_cases h:i<0
   .simp only[h,By]<;>lia
   .simp only[h,B0]<;>lia
def RT (its:List Value) (lo hi:Option Int):slicePick its.toArray lo hi none=((its.drop (HT.sIx its.length 0 lo)).take (HT.sIx its.length its.length hi-HT.sIx its.length 0 lo)).toArray:=by
 obtain⟨h1,h2,h3⟩:=RS lo hi its.toArray.size;unfold slicePick;rw[h1,h2,h3];simp only[sliceRange_one,pick_run,Am]<;>rfl
def rSlL (K:FG):V->Option Int->Option Int->Hp->VK->Prop:=fun x lo hi H Q=> ∃a xs,x=.ref a/\SqL K H a xs/\∀p,H p=none->Q (.ref p) (zr H p (.lst (cutV xs lo hi)))
def sl_list:SlR X (rSlL X.K):=by
 intro pins s σ H x v vl vu lo hi sl Q I rx hs pl pu h;obtain⟨a,xs,rfl,hx,q⟩:=h;cases rx;obtain⟨its,r,ht,hz⟩:=I.list hx;have hlen:=r.length
 refine⟨"list",_,slot_list_getitem.lookup,ht.isList.typeIs,?_⟩
 refine wpAny_getItem_list_slice ht.isList hs pl pu .none (by simp) ?_ (by rw[Am]<;>lia)
 rw[RT,<-hlen]
 refine⟨.ref s.heap.objs.size,_,I.laid (t':=s.toks) (o:= .lst (cutV xs lo hi)) (fun b ob q=>Ay _ q) (Ah _) ?_,rfl,q _ (I.hok.fresh (Ah _))⟩
 exact⟨Bw (Mg xs lo hi) hz,_,0,(r.drop (HT.sIx xs.length 0 lo)).take (HT.sIx xs.length xs.length hi-HT.sIx xs.length 0 lo),Bf _ rfl⟩
def BB:V->Bool
 |.non=>true
 |.bl _=>true
 |.int _=>true
 |.str _=>true
 |_=>false
noncomputable def eqV:V->V->Bool
 |.non,.non=>true
 |.bl a,.bl b=>a==b
 |.bl a,.int b=>(if a then 1 else 0)==b
 |.int a,.bl b=>a==(if b then 1 else 0)
 |.int a,.int b=>a==b
 |.str a,.str b=>a==b
 |_,_=>false
def Mj {A:Around} {s:Shared} {y x:V} {u v:Value} (ry:RelV y u) (rx:RelV x v) (fy:BB y=true) (fx:BB x=true):SeqAt.EqAt A s u v (eqV y x):=by
 cases y with
 |non=>
  cases ry;cases x with
  |non=>cases rx;exact SeqAt.EqAt.same _
  |bl b=>cases rx;exact SeqAt.EqAt.none_bool b
  |int b=>obtain⟨t,rfl⟩:=rx;exact SeqAt.EqAt.none_int b t
  |str b=>obtain⟨t,rfl⟩:=rx;exact SeqAt.EqAt.none_str b t
  |_=>exact absurd (show false=true from fx) Bb
 |bl a=>
  cases ry;cases x with
  |non=>cases rx;exact SeqAt.EqAt.bool_none a
  |bl b=>cases rx;exact SeqAt.EqAt.bool_bool a b
  |int b=>obtain⟨t,rfl⟩:=rx;exact SeqAt.EqAt.bool_int a b t
  |str b=>obtain⟨t,rfl⟩:=rx;exact SeqAt.EqAt.bool_str a b t
  |_=>exact absurd (show false=true from fx) Bb
 |int a=>
  obtain⟨t',rfl⟩:=ry;cases x with
  |non=>cases rx;exact SeqAt.EqAt.int_none a t'
  |bl b=>cases rx;exact SeqAt.EqAt.int_bool a t' b
  |int b=>obtain⟨t,rfl⟩:=rx;exact SeqAt.EqAt.int_int a t' b t
  |str b=>obtain⟨t,rfl⟩:=rx;exact SeqAt.EqAt.int_str a t' b t
  |_=>exact absurd (show false=true from fx) Bb
 |str a=>
  obtain⟨t',rfl⟩:=ry;cases x with
  |non=>cases rx;exact SeqAt.EqAt.str_none a t'
  |bl b=>cases rx;exact SeqAt.EqAt.str_bool a t' b
  |int b=>obtain⟨t,rfl⟩:=rx;exact SeqAt.EqAt.str_int a t' b t
  |str b=>obtain⟨t,rfl⟩:=rx;exact SeqAt.EqAt.str_str a t' b t
  |_=>exact absurd (show false=true from fx) Bb
 |_=>exact absurd (show false=true from fy) Bb
def RU:qg X (.type "list") (fun xs H Q=> ∃p ys,xs=[.ref p]/\(SqL X.K H p ys\/SqT X.K H p ys)/\∀l,H l=none->Q (.ref l) (zr H l (.lst ys))):=by
 intro pins s σ H xs us Q I r h;obtain⟨p,ys,rfl,hq,q⟩:=h;obtain⟨u,rfl,rx⟩:=AY r;cases rx;have fin:∀(its:List Value),Vals ys its->ys.length<=sizeLine->∀(h':Heap) (c':Nat),(∀b o',s.heap.get? b=some o'->h'.get? b=some o')->
   h'.get? s.heap.objs.size=some {cls:= .type "list",dict:=none,data:= .seq its.toArray c',slots:= #[]}->EP X pins σ Q (.ref s.heap.objs.size) {s with heap:=h'}:=fun its r' hz h' c' kp e=>
  ⟨.ref s.heap.objs.size,_,I.laid (t':=s.toks) kp (Ah _) (show ObjOk X.prog X.w _ h' _ (.lst ys) from ⟨hz,its,c',r',e⟩),rfl,q _ (I.hok.fresh (Ah _))⟩
 rcases hq with hq|hq
 .obtain⟨its,r',pl,hz⟩:=I.list hq
  have hlen:=r'.length;obtain⟨o,ho,hc,n,hd⟩:=pl.isList;exact call_list_seq p (.inl rfl) ho hc hd (fun h' c' kp e=>fin its r' hz h' c' kp e) (by simp only[Am]<;>lia)
 .obtain⟨its,r',pl,hz⟩:=I.tuple hq
  have hlen:=r'.length;obtain⟨o,ho,hc,n,hd⟩:=pl;exact call_list_seq p (.inr rfl) ho hc hd (fun h' c' kp e=>fin its r' hz h' c' kp e) (by simp only[Am]<;>lia)
def tyV (K:FG) (T:String) (x:V) (H:Hp):Prop:=match x with
 |.str _=>T="str"
 |.int _=>T="int"
 |.ref p=>(T="list" /\∃xs,SqL K H p xs)\/(T="tuple" /\∃o,K.lookup p=some o/\o.cls=.type "tuple" /\o.dict=none)\/
  (T="dict" /\((∃kvs,H p=some (.dK kvs))\/∃kvs,H p=some (.dT kvs)))\/(T="set" /\∃S n,H p=some (.set S n))
 |_=>False
def Ml {pins:AL} {σ:St} {H:Hp} {s:Shared} {T:String} {x:V} {v:Value} (I:Inv X pins σ H s) (r:RelV x v) (ty:tyV X.K T x H):
  s.TypeIs v T/\∀a,v=.ref a->∃ob,s.heap.get? a=some ob/\ob.dict=none:=by
 cases x with
 |str z=>
  obtain⟨t,rfl⟩:=r;cases (show T="str" from ty)
  exact⟨typeIs_str s z t,fun _ e=>nomatch e⟩
 |int i=>
  obtain⟨t,rfl⟩:=r;cases (show T="int" from ty)
  exact⟨typeIs_int s i t,fun _ e=>nomatch e⟩
 |ref p=>
  cases r
  rcases ty with ⟨rfl,xs,hq⟩|⟨rfl,o,hk,hc,hd⟩|⟨rfl,hk⟩|⟨rfl,S,n,hk⟩
  .obtain⟨its,_,pl,_⟩:=I.list hq
   refine⟨pl.isList.typeIs,fun a e=>?_⟩
   cases e;obtain⟨o,n,e,c,hd,_⟩:=pl;exact⟨o,e,hd⟩
  .refine⟨⟨o,I.kIn p o hk,hc⟩,fun a e=>?_⟩
   cases e;exact⟨o,I.kIn _ o hk,hd⟩
  .have z:∃o,s.heap.get? p=some o/\o.ExactDict:=by
    rcases hk with ⟨kvs,hk⟩|⟨kvs,hk⟩
    .obtain⟨_,_,_,_,o,_,_,e,ex,_⟩:=I.hok p _ hk
     exact⟨o,e,ex⟩
    .obtain⟨_,_,_,_,o,_,_,e,ex,_⟩:=I.hok p _ hk
     exact⟨o,e,ex⟩
   obtain⟨o,e,ex⟩:=z
   refine⟨⟨o,e,ex.1⟩,fun a e2=>?_⟩
   cases e2;exact⟨o,e,ex.2.1⟩
  .obtain⟨o,_,_,_,e,ex,_⟩:=I.hok p _ hk
   refine⟨⟨o,e,ex.1⟩,fun a e2=>?_⟩
   cases e2;exact⟨o,e,ex.2.1⟩
 |_=>exact False.elim ty
def tBM0 (K:FG) (T:String) (r:V->List V->Hp->VK->Prop) (to:TE):TE:=fun σ H Q=>to σ H fun x H1=>tyV K T x H1/\r x [] H1 Q
def tBM (K:FG) (T:String) (r:V->List V->Hp->VK->Prop) (to:TE) (t:TA):TE:=fun σ H Q=>to σ H fun x H1=>tyV K T x H1/\t σ H1 fun xs H2=>r x xs H2 Q
variable {o e:Expr} {es:List Expr} {to:TE} {t:TA} {name:Str} {apos cpos:Pos} {T id:String} {r:V->List V->Hp->VK->Prop}
def RV (pa:PlainAttrs T) (slot:Slot T name id) (hty:typeOf (.builtin id)=pure (.type "method_descriptor")) (hm:MtR X id r) (ho:PE X o to)
  (hbase:attributeBase o name X.env (eval o X.env)=eval o X.env:=by rfl) (hline:(apos.endLine==cpos.line)=true:=by rfl):PE X (.Call (.Attribute o name apos) [] [] cpos) (tBM0 X.K T r to):=by
 intro pins s σ H Q I h
 refine wpAny_Call_method0_late hbase hline (thn (ho pins s σ H _ I h) fun v s1 ⟨x,H1,I1,r1,ty,q1⟩=>?_)
 obtain⟨h1,h2⟩:=Ml I1 r1 ty;exact⟨T,id,pa,slot,hty,h1,h2,Calls.callWith_builtin rfl (PySem.evalArgs_none (hm pins s1 σ H1 x [] v [] Q I1 r1 .nil q1))⟩
def IQ (pa:PlainAttrs T) (slot:Slot T name id) (hty:typeOf (.builtin id)=pure (.type "method_descriptor")) (hm:MtR X id r) (ho:PE X o to) (ha:PA X (e::es) t)
  (hbase:attributeBase o name X.env (eval o X.env)=eval o X.env:=by rfl)
  (hfew:((backTo cpos (starEach (e::es) X.env)).all (fun x=> !x.1) && (backToKw cpos (keywordEach [] X.env)).all (fun x=>x.1.isSome)
   && decide ((e::es).length+([]:List Keyword).length+(if ([]:List Keyword).isEmpty then 0 else 1)<30))=true:=by rfl)
  (hline:(apos.endLine==cpos.line)=true:=by rfl) (hs:SE X e es:=by rfl) (hplain:(backTo cpos (starEach es X.env)).any (·.1)=false:=by rfl):
  PE X (.Call (.Attribute o name apos) (e::es) [] cpos) (tBM X.K T r to t):=by
 intro pins s σ H Q I h
 refine wpAny_Call_method_late hbase hfew hline rfl (thn (ho pins s σ H _ I h) fun v s1 ⟨x,H1,I1,r1,ty,q1⟩=>?_)
 obtain⟨h1,h2⟩:=Ml I1 r1 ty
 refine⟨T,id,pa,slot,hty,h1,h2,?_⟩
 have hA:=ha cpos pins s1 σ H1 _ I1 q1;rw[hs]at hA ⊢
 refine Calls.callWith_builtin (by show (false || (backTo cpos (starEach es X.env)).any (·.1))=false;rw[hplain]<;>rfl) (Calls.evalArgs_plain ?_)
 exact thn hA fun us s2 zz68 => by obtain ⟨vs,H2,I2,r2,q2⟩ := zz68; exact hm pins s2 σ H2 x vs v us Q I2 r1 r2 q2
end
def MtM (X:Cx) (id:String) (r:V->List V->Hp->VK->Prop):Prop:=
 ∀(pins:AL) (s:Shared) (σ:St) (H:Hp) (x:V) (xs:List V) (v:Value) (us:List Value) (Q:VK),Inv X pins σ H s->RelV x v->Vals xs us->r x xs H Q->
  wpAny (model X.prog X.w) X.A (call (.builtin id) (v::us)) (EP X pins σ Q) X.xe s
def Vals.one:∀{x:V} {us:List Value},Vals [x] us->∃u,us=[u]/\RelV x u
 |_,_,.cons r .nil=>⟨_,rfl,r⟩
def Vals.zero:∀{us:List Value},Vals [] us->us=[]
 |_,.nil=>rfl
theorem Vals.dropLast {xs:List V} {us:List Value} (h:Vals xs us):Vals xs.dropLast us.dropLast:=by
 induction h with
 |nil=>exact .nil
 |cons r t ih=>
  cases t with
  |nil=>exact .nil
  |cons q t'=>exact .cons r ih
theorem Vals.eraseIdx:∀{xs:List V} {us:List Value} (i:Nat),Vals xs us->Vals (xs.eraseIdx i) (us.eraseIdx i)
 |_,_,_,.nil=>.nil
 |_,_,0,.cons _ t=>t
 |_,_,i+1,.cons r t=>.cons r (Vals.eraseIdx i t)
theorem Vals.rep {xs:List V} {us:List Value} (h:Vals xs us):∀k:Nat,Vals (List.replicate k xs).flatten (List.replicate k us).flatten
 |0=>.nil
 |k+1=>by
  rw[Dv,Dv,Dw,Dw];exact Vals.append h (Vals.rep h k)
def RW {α:Type} (l:List α):l.eraseIdx (l.length-1)=l.dropLast:=by
 induction l with
 |nil=>rfl
 |cons a r ih=>
  cases r with
  |nil=>rfl
  |cons b r=>
   have e:(a::b::r).length-1=((b::r).length-1)+1:=by
    have h1:(a::b::r).length=r.length+2:=rfl;have h2:(b::r).length=r.length+1:=rfl;lia
   rw[e,List.eraseIdx_cons_succ,ih]
   all_goals rfl
theorem Mm {α:Type}:∀(l:List α) (i:Nat),(l.eraseIdx i).length<=l.length
 | [],_=>Ah _
 |_::_,0=>D9 _
 |_::r,i+1=>Nat.succ_le_succ (Mm r i)
theorem Mn (its:List Value):∀(k:Nat) (acc:List Value),
  List.foldl (fun x1 x2=>x1++x2) acc.toArray (List.replicate k its.toArray)=(acc++(List.replicate k its).flatten).toArray
 |0,acc=>by simp
 |k+1,acc=>by
  have e:acc.toArray++its.toArray=(acc++its).toArray:=by simp
  have e2:(acc++its)++(List.replicate k its).flatten=acc++(List.replicate (k+1) its).flatten:=by
   rw[Dv,Dw,Co]
  rw[<-e2,<-Mn its k (acc++its),<-e,Dv,Fg]
section
variable {X:Cx} {pins:AL} {σ:St} {H:Hp} {s:Shared} {l b:Addr} {xs ys zs:List V}
def Inv.lset {its its':List Value} {n:Nat} {f:Array Value->Array Value} {t':Nat} (I:Inv X pins σ H s) (hH:H l=some (.lst xs))
  (e:s.heap.get? l=some {cls:= .type "list",data:= .seq its.toArray n}) (hf:f its.toArray=its'.toArray) (hv:Vals ys its') (hz:ys.length<=sizeLine):
  Inv X pins σ (zr H l (.lst ys)) {s with heap:=s.heap.update l (Obj.mapSeq f),toks:=t'}:=by
 have q:=PySem.IsL.update e f;rw[hf]at q
 refine I.write (x:=l) (e:=l) (by rw[hH];exact trivial) (.inl rfl) (fun b' u hb hu=>(Ff s.heap (Obj.mapSeq f) (Cc hb)).trans hu) ⟨_,q⟩ ?_
 exact⟨hz,its',_,hv,q⟩
def Inv.lnew {its:List Value} {t':Nat} (I:Inv X pins σ H s) (hv:Vals ys its) (hz:ys.length<=sizeLine):
  Inv X pins σ (zr H s.heap.objs.size (.lst ys)) {s with heap:=s.heap.push {cls:= .type "list",data:= .seq its.toArray},toks:=t'}:=
 I.laid (fun _ _ q=>Ay _ q) (Ah _) ⟨hz,its,0,hv,Bf _ rfl⟩
theorem Inv.fresh (I:Inv X pins σ H s):H s.heap.objs.size=none:=I.hok.fresh (Ah _)
def Inv.lstM (I:Inv X pins σ H s) (hH:H l=some (.lst xs)):xs.length<=sizeLine/\∃(its:List Value) (n:Nat),Vals xs its/\xs.length=its.length/\s.heap.get? l=some {cls:= .type "list",data:= .seq its.toArray n}:=by
 obtain⟨z,its,n,r,e⟩:=I.hok l _ hH;exact⟨z,its,n,r,r.length,e⟩
def Mo {n:Nat} (h:n<=sizeLine):Builtin.List.listTooLong n=false:=by
 unfold Builtin.List.listTooLong;exact Bq (by lia)
end
section
variable {X:Cx}
def Mp:V->List V->Hp->VK->Prop:=fun x vs H Q=> ∃l xs y,x=.ref l/\vs=[y]/\H l=some (.lst xs)/\xs.length<sizeLine/\Q .non (zr H l (.lst (xs++[y])))
def BC:MtM X "list.append" Mp:=by
 intro pins s σ H x vs v us Q I rx rv h;obtain⟨l,xs,y,rfl,rfl,hH,hz,q⟩:=h;cases rx;obtain⟨u,rfl,ru⟩:=rv.one;obtain⟨z,its,n,r,hl,e⟩:=I.lstM hH
 refine Eb F.slot_list_append ⟨_,e,rfl⟩ F.entry_list_append (F.args_list_append_2 _ _) (PySem.list_append l its.toArray n u (by rw[Am];lia)) ⟨e,?_⟩
 refine⟨.non,_,I.lset (its':=its++[u]) hH e (by simp) (r.append (.cons ru .nil)) ?_,rfl,q⟩
 rw[As,Cg];lia
def Mq:V->List V->Hp->VK->Prop:=fun x vs H Q=> ∃l b xs zs,x=.ref l/\vs=[.ref b]/\H l=some (.lst xs)/\H b=some (.lst zs)/\xs.length+zs.length<=sizeLine/\Q .non (zr H l (.lst (xs++zs)))
def IT:MtM X "list.extend" Mq:=by
 intro pins s σ H x vs v us Q I rx rv h;obtain⟨l,b,xs,zs,rfl,rfl,hH,hB,hz,q⟩:=h;cases rx;obtain⟨u,rfl,ru⟩:=rv.one;cases ru;obtain⟨z,its,n,r,hl,e⟩:=I.lstM hH;obtain⟨z2,its2,n2,r2,hl2,e2⟩:=I.lstM hB;have hsz:its.toArray.size+its2.toArray.size<=sizeLine:=by rw[Am,Am];lia
 have hlong: ¬(!its.toArray.isEmpty && Builtin.List.listTooLong (its.toArray.size+its2.toArray.size))=true:=by
  rw[Mo hsz,Fh];exact Bb
 refine Eb F.slot_list_extend ⟨_,e,rfl⟩ F.entry_list_extend (F.args_list_extend_2 _ _)
  (AutoSeq1.list_extend_list_list_0 l its.toArray n b its2.toArray n2 hlong (by rw[Am];lia) (by lia)) ⟨e,e2,?_⟩
 refine⟨.non,_,I.lset (its':=its++its2) hH e (by simp) (r.append r2) ?_,rfl,q⟩
 rw[As];lia
def rPop:V->List V->Hp->VK->Prop:=fun x vs H Q=> ∃l xs y,x=.ref l/\vs=[]/\H l=some (.lst xs)/\xs[xs.length-1]? =some y/\Q y (zr H l (.lst xs.dropLast))
def RX:MtM X "list.pop" rPop:=by
 intro pins s σ H x vs v us Q I rx rv h;obtain⟨l,xs,y,rfl,rfl,hH,hy,q⟩:=h;cases rx;have hus:=rv.zero;subst hus;obtain⟨z,its,n,r,hl,e⟩:=I.lstM hH;obtain⟨u,hu,ru⟩:=r.get hy;have hy':its.toArray[its.toArray.size-1]? =some u:=by
  show its.toArray[its.length-1]? =some u;rw[<-Bm,<-hl];exact hu
 refine Eb F.slot_list_pop ⟨_,e,rfl⟩ F.entry_list_pop (F.args_list_pop_1 _) (MeetsSeq.list_pop_last l its.toArray n u hy' (by rw[Am];lia)) ⟨e,?_⟩
 refine⟨y,_,I.lset (its':=its.dropLast) hH e ?_ r.dropLast ?_,ru,q⟩
 .show its.toArray.eraseIdxIfInBounds (its.toArray.size-1)=its.dropLast.toArray
  rw[Am,List.eraseIdxIfInBounds_toArray,RW]
 .rw[List.length_dropLast]
  lia
def Mr:V->List V->Hp->VK->Prop:=fun x vs H Q=> ∃l xs i k y,x=.ref l/\vs=[.int i]/\H l=some (.lst xs)/\ -(2 ^ 63)<=i/\i<2 ^ 63/\seqIndex? i xs.length=some k/\xs[k]? =some y/\Q y (zr H l (.lst (xs.eraseIdx k)))
def RY:MtM X "list.pop" Mr:=by
 intro pins s σ H x vs v us Q I rx rv h;obtain⟨l,xs,i,k,y,rfl,rfl,hH,h1,h2,hk,hy,q⟩:=h;cases rx;obtain⟨u,rfl,ru⟩:=rv.one;obtain⟨t,rfl⟩:=ru;obtain⟨z,its,n,r,hl,e⟩:=I.lstM hH;obtain⟨w,hw,rw'⟩:=r.get hy
 refine Eb F.slot_list_pop ⟨_,e,rfl⟩ F.entry_list_pop (F.args_list_pop_2 _ _)
  (MeetsSeq.list_pop_at l its.toArray n i t k w (fitsIndex_both h1 h2) (by rw[Am,<-hl];exact hk) (by rw[<-Bm];exact hw) (by rw[Am];lia)) ⟨e,?_⟩
 refine⟨y,_,I.lset (its':=its.eraseIdx k) hH e ?_ (r.eraseIdx k) ?_,rw',q⟩
 .show its.toArray.eraseIdxIfInBounds k=(its.eraseIdx k).toArray
  rw[List.eraseIdxIfInBounds_toArray]
 .have:=Mm xs k
  lia
def rCat:R2:=fun x y H Q=> ∃l b xs zs,x=.ref l/\y=.ref b/\H l=some (.lst xs)/\H b=some (.lst zs)/\xs.length+zs.length<=sizeLine/\∀p,H p=none->Q (.ref p) (zr H p (.lst (xs++zs)))
def RZ:OpR X (binaryOp .Add) rCat:=by
 intro pins s σ H x y v u Q I rx ry h;obtain⟨l,b,xs,zs,rfl,rfl,hH,hB,hz,q⟩:=h;cases rx;cases ry;obtain⟨z,its,n,r,hl,e⟩:=I.lstM hH;obtain⟨z2,its2,n2,r2,hl2,e2⟩:=I.lstM hB
 refine PySem.P.add_list e e2 ?_ (by rw[Am,Am];lia)
 have ea:its.toArray++its2.toArray=(its++its2).toArray:=by simp
 rw[ea];exact⟨.ref _,_,I.lnew (t':=s.toks) (r.append r2) (by rw[As];lia),rfl,q _ I.fresh⟩
def rRep:R2:=fun x y H Q=> ∃l k xs,x=.ref l/\y=.int k/\H l=some (.lst xs)/\ -(2 ^ 63)<=k/\k<2 ^ 63/\xs.length*k.toNat<=sizeLine/\
 ∀p,H p=none->Q (.ref p) (zr H p (.lst (List.replicate k.toNat xs).flatten))
def Sa {α:Type} (xs:List α) (k:Nat):(List.replicate k xs).flatten.length=k*xs.length:=by
 induction k with
 |zero=>simp
 |succ k ih=>rw[Dv,Dw,As,ih,Nat.succ_mul,Nat.add_comm]
def Sb:OpR X (binaryOp .Mult) rRep:=by
 intro pins s σ H x y v u Q I rx ry h;obtain⟨l,k,xs,rfl,rfl,hH,h1,h2,hz,q⟩:=h;cases rx;obtain⟨t,rfl⟩:=ry;obtain⟨z,its,n,r,hl,e⟩:=I.lstM hH;have hlen:its.toArray.size*k.toNat<=sizeLine:=by rw[Am,<-hl];exact hz
 have hcap: ¬its.toArray.size*k.toNat > (2 ^ 63-1) / 8:=by
  have:(sizeLine:Nat)<=(2 ^ 63-1) / 8:=by decide
  lia
 have hfit: ¬(!Builtin.List.listFitsIndex k)=true:=by
  rw[fitsIndex_both h1 h2];exact Bb
 have hlong: ¬Builtin.List.listTooLong (its.toArray.size*k.toNat)=true:=by
  rw[Mo hlen];exact Bb
 have hnew:List.foldl (fun x1 x2=>x1++x2) #[] (List.replicate (if its.toArray.isEmpty=true then 0 else k.toNat) its.toArray)=(List.replicate k.toNat its).flatten.toArray:=by
  have f0:∀m:Nat,List.foldl (fun x1 x2=>x1++x2) #[] (List.replicate m its.toArray)=(List.replicate m its).flatten.toArray:=fun m=>by
   have:=Mn its m [];rw[Dx]at this;exact this
  rw[f0];cases its with
  |nil=>simp
  |cons a r'=>rw[Ab (by simp)]
 refine wpAny_binaryOp_repeat_ref (T:="list") (U:="int") (by decide) ⟨_,e,rfl⟩ (fun s'=>typeIs_int s' k t) noFill_list_mul F.fills_int_mul F.slot_int_rmul repeat_list F.slot_int_index.lookup
  (Eb F.slot_int_rmul (typeIs_int s k t) F.entry_int_rmul (F.args_int_rmul_2 _ _) (int___rmul___int_list k t l its.toArray n)
   ⟨e,rfl,⟨_,e,rfl⟩,Eb F.slot_list_mul ⟨_,e,rfl⟩ F.entry_list_mul (F.args_list_mul_2 _ _) (AutoListH.list___mul___list_int_3 l its.toArray n k t hfit hcap hlong) ⟨e,?_⟩⟩)
 rw[hnew];exact⟨.ref _,_,I.lnew (t':=s.toks) (r.rep k.toNat) (by rw[Sa,Nat.mul_comm];exact hz),rfl,q _ I.fresh⟩
end
section
variable {prog:Program} {w:World} {A:Around} {E:VP} {s:Shared}
set_option maxRecDepth 100000 in
end
end L2
namespace Att
open PySem PySem.W PySem.Calls PyProof.Rows
def Sd {P:Params} {h:Heap}:∀(ns:List Int) (vs:List Value),WellAll P h vs (ns.map WData.int)->IntsAre vs ns:=by
 intro ns
 induction ns with
 |nil=>
  intro vs w;rw[Bj]at w;cases w;exact .nil
 |cons n ns ih=>
  intro vs w;rw[Ag]at w;cases w with
  |cons a b=>
   cases a;exact .cons _ _ (ih _ b)
def Sf {l:OpenLaw} {n:Nat} (hn:l.most=some n) {P:Params} {h:Heap} {args:List WData} {vals:List Value}
  (hpre:l.row.toRowW.claim.pre args=true) (hwl:WellAll P h vals args):
  ∃a vs ns,vals=[Value.ref a]/\args=[WData.list (ns.map WData.int)]/\h.get? a=some {cls:= .type "list",data:= .seq vs.toArray}/\IntsAre vs ns/\ns.length<=n:=by
 have hsh:WShape.hasAll [] args [.list .int]=true:=(pre_splitW hpre).1;have hc:l.pre.holds [] {args:=args}=true:=(pre_splitW hpre).2;obtain⟨d,r,rfl,h1,h2⟩:=hasAllW_cons hsh;obtain rfl:=hasAllW_nil h2;obtain⟨xs,rfl,h3⟩:=hasW_list h1;obtain⟨ns,rfl⟩:=items_int h3;have hlen:ns.length<=n:=by
  unfold OpenLaw.pre at hc;have h4:(WTm.not (.lt (.lit (.int (n:Int))) (.len (.arg 0)))).holds [] {args:=[.list (ns.map .int)]}=true:=by
   have h4:=(holds_andW hc).1;rw[hn]at h4;exact h4
  have h5:=condW_of h4 (w_not (w_lt w_lit (w_len_list (w_arg rfl))));rw[Ae]at h5
  refine Nat.le_of_not_lt fun q=>?_
  have q':(n:Int)<((ns.length:Nat):Int):=by lia
  first
   | (rw[Ci q']at h5;exact absurd h5 (by decide))
   | (simp at h5;lia)
 cases hwl with
 |cons w1 w2=>
  cases w2;cases w1 with
  |list ho hall=>exact⟨_,_,ns,rfl,rfl,ho,Sd ns _ hall,hlen⟩
def Sg (l:OpenLaw) (args:List WData):l.row.toRowW.claim.post args (.bool true) args=true:=
 postW_of (r:=l.row.toRowW) (X:=(true==true))
  (show WShape.has [] (.bool true) .bool=true by first|rfl|decide|simp[WShape.has,WShape.arms,WShape.armsAll])
  (show (WTm.eq .res (.lit (.bool true))).value [] {args:=args,res:=some (.bool true),after:=args}=some (.bool (true==true)) from w_eq_bool (w_res rfl) w_lit) rfl
def attach_call {l:OpenLaw} {n:Nat} {q:Program} {loose:List Str} {XP:(Str->Option Value)->Heap->Prop} {YP:World->Heap->Prop} {d:DefRec}
  (hn:l.most=some n) (hdf:d.params.defaults=[])
  (call:∀(w:World) (s₀ s₁:Shared) (mg mb:Str->Option Value) (fa:Addr) (o:Obj) (pm cd doc:Value) (a:Addr) (vs:List Value) (ns:List Int),
   Ground q loose [] XP w s₀ mg mb s₁.heap->YP w s₁.heap->
   s₁.heap.get? fa=some o->o.data=.func (docDef d.name d.params d.body d.scope pm cd doc)->s₁.heap.CodeRec cd d.name->mg d.name=some (.ref fa)->
   s₁.heap.get? a=some {cls:= .type "list",data:= .seq vs.toArray}->IntsAre vs ns->ns.length<=n->s₁.gens= #[]->
   codeAny (model l.prog w) callerA (.call (.ref fa) ⟨[.ref a],[]⟩) (fun r s'=>r=.ok (.ret (.bool true))/\OldK s₁.heap s'.heap/\s'.os=s₁.os/\AllBare s'.gens) s₁):
  WalkO q loose XP YP l.row.toRowW d [] (fun f vs=>PySem.call f vs):=by
 intro w s₀ s₁ mg mb G Y fa o pm cd doc dV kV ho hd hcd hD hmg hg args vals as hpre hlay hrd hwl hlo;obtain rfl:dV=.none:=Dflts.none hD hdf;obtain rfl:kV=.none:=Dflts.noKw hD;obtain⟨a,vs,ns,rfl,rfl,hobj,hints,hlen⟩:=Sf hn hpre hwl
 refine enter_call (D7 (call w s₀ s₁ mg mb fa o pm cd doc a vs ns G Y ho (fd_plain hd) hcd hmg hobj hints hlen hg) fun r s' hq=>?_)
 obtain⟨rfl,h2,h3,h4⟩:=hq;exact⟨.inl ⟨.bool true,.bool true,[],rfl,fun _=>rfl,.bool true,Sg l _,fun _=>⟨List.Pairwise.nil,fun _ hm=>(nomatch hm)⟩⟩,h2,h3,h4⟩
end Att
namespace L2
open PySem PySem.Spec PyProof.Rows
theorem Ms:∀{vs:List Value} {ns:List Int},IntsAre vs ns->Vals (ns.map V.int) vs
 |_,_,.nil=>.nil
 |_,_,.cons n t h=>.cons ⟨t,rfl⟩ (Ms h)
def Only (H:Hp):Prop:=∀b,H b=none\/∃o xs,H b=some (.frz o (.lst xs))
def Sh {P:Program} {w:World} {K:FG} {mg mb:Str->Option Value} {CX:jR} {k:Nat} {fa a:Addr} {fd:FuncData} {x:Str} {sp:Sp} {s₁:Shared} {vs:List Value} {ns:List Int}
  (KX:K.In s₁.heap) (hns:s₁.heap.Ns mainGlobals mg) (hb:s₁.heap.Ns builtinsNs mb) (hbb:∀x:Str,x≠"__name__" ->mb x=bootBuiltins x) (hlim:s₁.heap.NoLimit) (hg:s₁.gens= #[])
  (ha:s₁.heap.get? a=some {cls:= .type "list",data:= .seq vs.toArray}) (hi:IntsAre vs ns) (hl:ns.length<=sizeLine) (hr:Room k callerA)
  (F:∀base:Heap,K.In base->base.Ns mainGlobals mg->FnOk P w K mg base CX k fa fd [x] sp) (hbind:∀(s:Shared) (u:Value),BindsTo s fd ⟨[u],[]⟩ [(x,u)])
  (hsp:∀H:Hp,Only H->SqL K H a (ns.map V.int)->sp [.ref a] H (fun v _=>v=.bl true) fun _ _ _=>False)
  (hCX:∀H e s',CX [] H s₁ (fun _ _ _=>False) e s'->False):
  codeAny (model P w) callerA (.call (.ref fa) ⟨[.ref a],[]⟩) (fun r s'=>r=.ok (.ret (.bool true))/\OldK s₁.heap s'.heap/\s'.os=s₁.os/\AllBare s'.gens) s₁:=by
 have rv:=Ms hi;have lenV:=hi.length;have core:∀H:Hp,Only H->SqL K H a (ns.map V.int)->HOk P w H s₁.heap->(∀b,H b≠none->b=a)->(H a≠none->K.lookup a=none)->
   codeAny (model P w) callerA (.call (.ref fa) ⟨[.ref a],[]⟩) (fun r s'=>r=.ok (.ret (.bool true))/\OldK s₁.heap s'.heap/\s'.os=s₁.os/\AllBare s'.gens) s₁:=by
  intro H hO hS hok hA hK;have base_of:∀{b:Addr} {o:Obj},s₁.heap.get? b=some o->H b=none->(hidT s₁.heap H).get? b=some o:=fun e n=>Qm e n
  have noA:∀{b:Addr} {o:Obj} {es:Array DictEntry} {ep:Nat},s₁.heap.get? b=some o->o.data=.dict es ep->H b=none:=fun {b o es ep} e d=>by
   cases q:H b with
   |none=>rfl
   |some u=>
    have e':b=a:=hA b (by rw[q];simp)
    subst e';rw[ha]at e;cases e;have d':Data.seq vs.toArray _=Data.dict es ep:=d;cases d'
  have nsK:∀{b:Addr} {m:Str->Option Value},s₁.heap.Ns b m->(hidT s₁.heap H).Ns b m:=fun {b m} zz69 => by obtain ⟨o,es,ep,e,d,r⟩ := zz69; exact ⟨o,es,ep,base_of e (noA e d),d,r⟩
  have hKb:K.In (hidT s₁.heap H):=fun b o e=>base_of (KX b o e) (by
   cases q:H b with
   |none=>rfl
   |some u=>
    have e':b=a:=hA b (by rw[q];simp)
    subst e';rw[hK (by rw[q];simp)]at e;cases e)
  have hM:Mod K mg (hidT s₁.heap H):=⟨hKb,nsK hns,⟨mb,nsK hb,hbb⟩,let ⟨mc,h1,h2⟩:=hlim;⟨mc,nsK h1,h2⟩⟩;have e0:Env0 P w K mg (hidT s₁.heap H) callerA [] s₁ H:=⟨rfl,hM,fun b o e=>Qn e,Nat.le_of_eq (Ql _ _),trivial,fun b hb=>absurd (show b∈([]:List Addr) from hb) (by simp),hok,.of_eq hg⟩
  refine D7 ((F _ hKb (nsK hns)).run callerA [] s₁ H ⟨[.ref a],[]⟩ [.ref a] [.ref a] _ _ hr e0 (hbind s₁ (.ref a)) (.cons rfl .nil) (hsp H hO hS)) fun r s' h=>?_
  cases r with
  |error e=>exact (hCX H e s' h).elim
  |ok fl=>
   cases fl with
   |next=>exact False.elim h
   |brk=>exact False.elim h
   |cont=>exact False.elim h
   |ret u=>
    obtain⟨v,H',os,bare,un,hok',r',q⟩:=h;have q':v=.bl true:=q;subst q';obtain rfl:u=Value.bool true:=r'
    refine⟨rfl,OldK.of_keep fun b o e=>?_,os,bare⟩
    cases q:H b with
    |none=>exact un.keep b o e q (by intro z;exact absurd (show b∈([]:List Addr) from z) (by simp)) (by simp)
    |some u=>
     rcases hO b with z|⟨ob,xs,z⟩
     .rw[q]at z;cases z
     .have z2:=un.frzs b ob _ z
      obtain⟨e1,_⟩:=hok b _ z;obtain⟨e2,_⟩:=hok' b _ z2;rw[e]at e1;cases e1;exact e2
 cases hk:K.lookup a with
 |some o=>
  have e:=KX a o hk;rw[ha]at e;cases e
  refine core (fun _=>none) (fun _=>.inl rfl) (.inr ⟨_,vs.toArray,_,hk,rfl,rfl,rfl,by rw[Am,lenV];exact hl,by simpa using rv⟩) (fun b u z=>by have z':(none:Option HO)=some u:=z;cases z') (fun b z=>absurd rfl z) fun z=>absurd rfl z
 |none=>
  refine core (fun b=>if b=a then some (.frz {cls:= .type "list",data:= .seq vs.toArray} (.lst (ns.map V.int))) else none) (fun b=>?_) (.inl (.inr ⟨{cls:= .type "list",data:= .seq vs.toArray},Ac rfl⟩)) (fun b u z=>?_) (fun b z=>?_) fun _=>hk
  .by_cases hb:b=a
   .exact .inr ⟨_,_,Ac hb⟩
   .exact .inl (Ab hb)
  .by_cases hb:b=a
   .have z':=(Ac hb).symm.trans z
    cases z';subst hb;exact⟨ha,by rw[Ae];exact hl,vs,_,rv,ha⟩
   .have z':=(Ab hb).symm.trans z
    cases z'
  .by_cases hb:b=a
   .exact hb
   .exact absurd (Ab hb) z
noncomputable def qB (s:Stmt) (j:Nat):Stmt:=match s with
 |.ClassDef _ _ _ body _ _ _ _ _ _ _=>body.getD j (.Pass ⟨0,0,0,0⟩)
 |_=> .Pass ⟨0,0,0,0⟩
noncomputable def EM (s:Stmt):Arguments:=match s with
 |.FunctionDef _ a _ _ _ _ _ _ _ _=>a
 |_=>{posonlyargs:=[],args:=[],vararg:=none,kwonlyargs:=[],kw_defaults:=[],kwarg:=none,defaults:=[]}
noncomputable def CK (s:Stmt):List Stmt:=match s with
 |.FunctionDef _ _ b _ _ _ _ _ _ _=>b
 |_=>[]
noncomputable def zA (s:Stmt):Scope:=match s with
 |.FunctionDef _ _ _ _ _ _ sc _ _ _=>sc
 |_=>{kind:= .function,names:=[],isGenerator:=false,isCoroutine:=false}
abbrev E0:XK:=fun _ _ _=>False
structure Fun (K:FG) (x qual:Str) (st:Stmt) (f:Addr) (fd:FuncData):Prop where
 ex:∃(oc:Value) (od:Option Addr) (kV doc pm:Value) (an:Option Addr) (cdv ct:Value) (osl:Array (Option Value)),
  fd=PySem.W.fnOf x qual (EM st) (CK st) (zA st) .none kV doc pm an cdv ct/\K.lookup f=some ⟨oc,od,.func fd,osl⟩/\PySem.W.codeIn K cdv qual=true
 kp:PySem.W.keepIn K (.ref f)=true
section
variable {P:Program} {w:World} {K:FG} {mg:Str->Option Value} {base:Heap}
def Fun.binds {x qual:Str} {st:Stmt} {f:Addr} {fd:FuncData} {ps:List Str} (F:Fun K x qual st f fd)
  (h:∀(kV doc pm:Value) (an:Option Addr) (cdv ct:Value) (us:List Value),us.length=ps.length->bindArgs (PySem.W.fnOf x qual (EM st) (CK st) (zA st) .none kV doc pm an cdv ct) ⟨us,[]⟩=pure (ps.zip us)):Binds K fd ps []:=by
 obtain⟨oc,od,kV,doc,pm,an,cdv,ct,osl,rfl,lk,hcd⟩:=F.ex;exact .all (h kV doc pm an cdv ct)
end
section
variable {X:Cx}
def pv (i:Nat) {x:Str} {pos:Pos} (hN:X.N[i]? =some x:=by rfl) (hv:Vis X.env.scope x:=by first|exact Or.inl rfl|exact Or.inr (Or.inl rfl)|exact Or.inr (Or.inr rfl)) (hd:(x==("__debug__" :Str))=false:=by decide)
 (hcd:(x==("__classdict__" :Str))=false:=by decide):PE X (.Name x pos) (tVar i):=Qp hN hv hd hcd
end
end L2
set_option maxHeartbeats 0
namespace L4
open PySem PySem.W PyProof.Rows L2
noncomputable def Hf (tb:String->Option Builtin) (p:Program) (w:World) (m:Nat) (ann:Option Value):Nat->SharedT->Thread->Option SharedT
 |0,_,_=>none
 |n+1,s,t=>match through t with
  |true=>some s
  |false=>match stepOk m ann t with
   |false=>none
   |true=>match stepT (denote tb) p w s t with
    |some (s',t')=>Hf tb p w m ann n s' t'
    |none=>none
theorem Mt {tb:String->Option Builtin} {p:Program} {w:World} {m:Nat} {ann:Option Value}:∀{n:Nat} {s s':SharedT} {t:Thread},Hf tb p w m ann n s t=some s'->topRun tb p w m ann n s.abs t=some s'.abs
 |0,_,_,_,h=>by cases h
 |n+1,s,s',t,h=>by
  unfold Hf at h;unfold topRun;cases he:through t with
  |true=>rw[he]at h;cases h;rfl
  |false=>
   rw[he]at h;cases hk:stepOk m ann t with
   |false=>rw[hk]at h;cases h
   |true=>
    rw[hk]at h;cases hs:stepT (denote tb) p w s t with
    |none=>rw[hs]at h;cases h
    |some r=>
     obtain⟨s2,t2⟩:=r;rw[hs]at h;rw[stepT_spec hs];exact Mt h
def Mu:List Obj->Nat->BT->BT
 | [],_,t=>t
 |o::r,n,t=>Mu r (n+1) (t.ins n o)
def boot (P:Params) (os:OsState):SharedT:=⟨Mu (boot_heap P).objs.toList 0 .nil,11,(boot_heap P).life,Array.mk [],boot_drawn,boot_toks,os⟩
def Si (P:Params) (os:OsState):(boot P os).abs=⟨boot_heap P,Array.mk [],boot_drawn,boot_toks,os⟩:=by kernel_rfl
def Sj (P:Params):((boot_heap P).isNs mainGlobals,(boot_heap P).objs.size,(boot_heap P).nsMap mainGlobals "__annotations__")=(true,11,some (.ref 6)):=by kernel_rfl
section
variable (p q:Program) (loose:List Str) {β:Type} (obs:Heap->β)
def Mv (P:Params) (s:Shared):=
 ((staticsOk (importedModules p.main.body) (boot_heap P) s.heap && namesBound p s.heap && gensDone s && laidKept (boot_heap P) s.heap),openSeen q loose (importedModules p.main.body) (fun _=>true) true s,obs s.heap)
def Mw (N:Nat) (w:World) (os:OsState):=(Hf treeTable p w 11 (some (.ref 6)) N (boot w.params os) (topStub p)).map fun s=>Mv p q loose obs w.params s.abs
end
def left_one {p q:Program} {loose:List Str} {β:Type} {obs:Heap->β} {good:β} {N:Nat} (e:opening p=plainProg p.main.scope.names) (hN:Nat.ble 600 N=true) (f:∀s,fenceModules? p s=some s)
  (h:∀w os,Mw p q loose obs N w os=some (true,openGood q loose,good)):LeftO p q loose (fun _=>true) (fun s=>obs s.heap) (fun _=>good) N:=fun w=>by
 obtain⟨⟨h0,gs,d,k,os⟩,e1,e2⟩:=Cs.mp (boot_open e hN f w);obtain⟨rfl,rfl,rfl,rfl⟩:h0=boot_heap w.params/\gs=Array.mk []/\d=boot_drawn/\k=boot_toks:=by simpa using e2
 obtain⟨s1,r1,r2⟩:=Cs.mp (h w os);have r3:=Mt r1;rw[Si]at r3;obtain⟨z1,z2,z3⟩:_/\_/\_:=by simpa only[Dy] using Sj w.params
 obtain⟨l1,l2,l3⟩:_/\_/\_:=by simpa only[Mv,Dy] using r2
 have t:topFrom treeTable p w N ⟨boot_heap w.params,Array.mk [],boot_drawn,boot_toks,os⟩=some s1.abs:=by
  unfold topFrom;dsimp only;rw[z1,z2,z3,r3];show (match staticsOk (importedModules p.main.body) (boot_heap w.params) s1.abs.heap && namesBound p s1.abs.heap && gensDone s1.abs && laidKept (boot_heap w.params) s1.abs.heap with|true=>_|false=>_)=_
  rw[l1]
 unfold openEnds;rw[e1];show (topFrom treeTable p w N _).map _=_;rw[t];exact congrArg some (Prod.ext l2 l3)
def frag (as:List Addr) (h:Heap):Frag:=as.filterMap fun a=>(h.get? a).map fun o=>(a,o)
def Sk {as:List Addr} {h:Heap}:(frag as h).In h:=by
 intro a o e
 induction as with
 |nil=>cases e
 |cons b r ih=>
  unfold frag at e;rw[Fd]at e;cases hb:h.get? b with
  |none=>rw[hb]at e;exact ih e
  |some ob=>
   rw[hb]at e;simp only[Ar,List.lookup]at e
   split at e
   .rename_i q;cases e;rw[Cy.mp q];exact hb
   .exact ih e
noncomputable def Mx:Value->Bool
 |.none=>true
 |_=>false
def Sl {v:Value} (h:Mx v=true):v=.none:=by cases v<;>first|rfl|cases h
def Hg (K:Frag) (qual:Str):Option (Option Value)->Option (Str×Str×Arguments×FuncBody×Scope×Bool)
 |some (some (.ref f))=>match K.lookup f with
  |some ⟨_,_,.func fd,_⟩=>some (fd.name,fd.qualname,fd.params,fd.body,fd.scope,(Nat.beq fd.globals mainGlobals && fd.closure.isEmpty && Mx fd.defaults && Nat.beq fd.builtins builtinsNs && codeIn K fd.code qual && isFn K (.ref f)))
  |_=>none
 |_=>none
def Hh (x qual:Str) (st:Stmt):Option (Str×Str×Arguments×FuncBody×Scope×Bool):=some (x,qual,EM st,.stmts (CK st),zA st,true)
def Mz {K:Frag} {x qual:Str} {st:Stmt} {v:Option (Option Value)} (e:Hg K qual v=Hh x qual st):
  ∃f fd,v=some (some (.ref f))/\Fun K x qual st f fd/\isFn K (.ref f)=true:=by
 unfold Hg at e
 split at e
 .rename_i f
  split at e
  .rename_i oc od fd sl hl
   unfold Hh at e;simp only[B8,Dy,Be]at e;obtain⟨e1,e2,e3,e4,e5,⟨⟨⟨⟨h1,h2⟩,h3⟩,h4⟩,h5⟩,h6⟩:=e
   refine⟨f,fd,rfl,⟨⟨oc,od,fd.kwdefaults,fd.doc,fd.pyModule,fd.annotations,fd.code,fd.closureTuple,sl,?_,hl,h5⟩,?_⟩,h6⟩
   .obtain⟨a1,a2,a3,a4,a5,a6,a7,a8,a9,a10,a11,a12,a13,a14,a15⟩:=fd
    simp only at e1 e2 e3 e4 e5 h1 h2 h3 h4;have h1:=Nat.eq_of_beq_eq_true h1;have h2:=List.isEmpty_iff.mp h2;have h3:=Sl h3;have h4:=Nat.eq_of_beq_eq_true h4;subst e1 e2 e3 e4 e5 h1 h2 h3 h4;rfl
   .unfold keepIn
    simp only[hl]
  .cases e
 .cases e
inductive KV where
 |int (i:Int)
 |str (s:Str)
noncomputable def EN:Option (Option Value)->Option KV
 |some (some (.int i _))=>some (.int i)
 |some (some (.str s _))=>some (.str s)
 |_=>none
def Sm {v:Option (Option Value)} {i:Int} (e:EN v=some (.int i)):∃t,v=some (some (.int i t)):=by
 unfold EN at e
 split at e
 .simp only[B8,KV.int.injEq]at e;subst e;exact⟨_,rfl⟩
 .simp at e
 .cases e
def Sn {v:Option (Option Value)} {i:Str} (e:EN v=some (.str i)):∃t,v=some (some (.str i t)):=by
 unfold EN at e
 split at e
 .simp at e
 .simp only[B8,KV.str.injEq]at e;subst e;exact⟨_,rfl⟩
 .cases e
def Hi:Option (Option Value)->Bool
 |some none=>true
 |_=>false
def MA {v:Option (Option Value)} (e:Hi v=true):v=some none:=by
 unfold Hi at e
 split at e
 .rfl
 .cases e
noncomputable def EO (p:Program) (i:Nat):Stmt:=p.main.body.getD i (.Pass ⟨0,0,0,0⟩)
structure Ask where
 law:Nat
 at_:List Addr
 defs:List (Str×Nat)
 cls:List (Str×Nat×List (Str×Str×Nat)×List Str)
 bare:List Str
 con:List (Str×KV)
noncomputable def MB (K:Frag) (C:Addr):Bool:=
 plainGet K C Str.empty && hasDictIn K C && plainOver K C && (findIn K (.ref C) "__setattr__" ==some (some (.builtin "object.__setattr__"))) && makesIn K C && keepIn K (.ref C)
def MC (K:Frag) (c:Str×Nat×List (Str×Str×Nat)×List Str):Option Value->Option (List (Option (Str×Str×Arguments×FuncBody×Scope×Bool))×Bool×List Bool)
 |some (.ref C)=>some (c.2.2.1.map (fun m=>Hg K m.2.1 (findIn K (.ref C) m.1)),MB K C,c.2.2.2.map fun a=>Hi (findIn K (.ref C) a))
 |_=>none
def seenK (A:Ask) (K:Frag):=
 (A.defs.map (fun d=>Hg K d.1 (nsIn K mainGlobals d.1)),A.cls.map (fun c=>MC K c (nsIn K mainGlobals c.1).join),A.bare.map (fun b=>Hi (nsIn K mainGlobals b)),A.con.map fun c=>EN (nsIn K mainGlobals c.1))
def seen (A:Ask) (h:Heap):=seenK A (frag A.at_ h)
def good (p:Program) (A:Ask):=
 (A.defs.map (fun d=>Hh d.1 d.1 (EO p d.2)),
  A.cls.map (fun c=>some (c.2.2.1.map (fun m=>Hh m.1 m.2.1 (qB (EO p c.2.1) m.2.2)),true,c.2.2.2.map fun _=>true)),
  A.bare.map (fun _=>true),A.con.map fun c=>some c.2)
def lawView (A:Ask) (p:Program):Program:={p with main:={p.main with body:=[EO p A.law]}}
def looseOf (p:Program):List Str:=(p.main.scope.names.map (·.1)).filter fun x=> !(x=="law")
def claim (A:Ask) (N:Nat) (p:Program) (w:World) (os:OsState):=Mw p (lawView A p) (looseOf p) (seen A) N w os
def goal (A:Ask) (p:Program):=some (true,openGood (lawView A p) (looseOf p),good p A)
section
variable {p:Program} {A:Ask} {K:Frag}
def CL {α β:Type} {f g:α->β} {l:List α} {i:Nat} {a:α} (e:l.map f=l.map g) (h:l[i]? =some a):f a=g a:=by
 have:=congrArg (fun z=>z[i]?) e
 simp only[Ba,h,Ar,B8]at this;exact this
def def_at (S:seenK A K=good p A) (i:Nat) {d:Str×Nat} (h:A.defs[i]? =some d):∃f fd,nsIn K mainGlobals d.1=some (some (.ref f))/\Fun K d.1 d.1 (EO p d.2) f fd:=by
 obtain⟨f,fd,e,F,_⟩:=Mz (CL (congrArg (fun z=>z.1) S) h)
 exact⟨f,fd,e,F⟩
def bare_at (S:seenK A K=good p A) (i:Nat) {b:Str} (h:A.bare[i]? =some b):nsIn K mainGlobals b=some none:=MA (CL (congrArg (fun z=>z.2.2.1) S) h)
def int_at (S:seenK A K=good p A) (i:Nat) {x:Str} {n:Int} (h:A.con[i]? =some (x,.int n)):∃t,nsIn K mainGlobals x=some (some (.int n t)):=Sm (CL (congrArg (fun z=>z.2.2.2) S) h)
def str_at (S:seenK A K=good p A) (i:Nat) {x:Str} {n:Str} (h:A.con[i]? =some (x,.str n)):∃t,nsIn K mainGlobals x=some (some (.str n t)):=Sn (CL (congrArg (fun z=>z.2.2.2) S) h)
structure ClsAt (p:Program) (K:Frag) (c:Str×Nat×List (Str×Str×Nat)×List Str) (C:Addr):Prop where
 g:nsIn K mainGlobals c.1=some (some (.ref C))
 cls:Cls K C
 makes:makesIn K C=true
 kp:keepIn K (.ref C)=true
 meth:∀(j:Nat) (m:Str×Str×Nat),c.2.2.1[j]? =some m->∃f fd,findIn K (.ref C) m.1=some (some (.ref f))/\Fun K m.1 m.2.1 (qB (EO p c.2.1) m.2.2) f fd/\isFn K (.ref f)=true
 fld:∀(j:Nat) (a:Str),c.2.2.2[j]? =some a->NoAttr K C a
def So {v:Option (Option Value)} {x:Value} (h:v.join=some x):v=some (some x):=by
 cases v with
 |none=>cases h
 |some v=>cases h;rfl
def cls_at (S:seenK A K=good p A) (i:Nat) {c:Str×Nat×List (Str×Str×Nat)×List Str} (h:A.cls[i]? =some c):∃C,ClsAt p K c C:=by
 have e:=CL (congrArg (fun z=>z.2.1) S) h
 unfold MC at e
 split at e
 .rename_i C hC
  simp only[B8,Dy]at e;obtain⟨e1,e2,e3⟩:=e;unfold MB at e2;simp only[Be]at e2;obtain⟨⟨⟨⟨⟨h1,h2⟩,h3⟩,h4⟩,h5⟩,h6⟩:=e2
  refine⟨C,So hC,⟨h1,h2,h3,?_⟩,h5,h6,fun j m hm=>?_,fun j a ha=>?_⟩
  .exact Cy.mp h4
  .exact Mz (CL e1 hm)
  .exact MA (CL e3 ha)
 .cases e
end
section
variable {K:Frag} {x qual:Str} {st:Stmt} {f:Addr} {fd:FuncData} {p1 p2 p3 p4 p5 p6 p7 p8:Str}
abbrev Bd (x qual:Str) (st:Stmt) (us:List Value) (r:List (Str×Value)):Prop:=∀(kV doc pm:Value) (an:Option Addr) (cdv ct:Value),bindArgs (fnOf x qual (EM st) (CK st) (zA st) .none kV doc pm an cdv ct) ⟨us,[]⟩=pure r
def AE {us:List Value} {n:Nat} (h:us.length=n+1):∃a r,us=a::r/\r.length=n:=by
 cases us with
 |nil=>cases h
 |cons a r=>exact⟨a,r,rfl,by simpa using h⟩
theorem b1 (F:Fun K x qual st f fd) (h:∀a,Bd x qual st [a] [(p1,a)]):Binds K fd [p1] []:=F.binds fun _ _ _ _ _ _ us h0=>by
 obtain⟨a,u1,rfl,h1⟩:=AE h0;obtain rfl:u1=[]:=Ec h1;exact h _ _ _ _ _ _ _
theorem b2 (F:Fun K x qual st f fd) (h:∀a b,Bd x qual st [a,b] [(p1,a),(p2,b)]):Binds K fd [p1,p2] []:=F.binds fun _ _ _ _ _ _ us h0=>by
 obtain⟨a,u1,rfl,h1⟩:=AE h0;obtain⟨b,u2,rfl,h2⟩:=AE h1;obtain rfl:u2=[]:=Ec h2;exact h _ _ _ _ _ _ _ _
theorem b3 (F:Fun K x qual st f fd) (h:∀a b c,Bd x qual st [a,b,c] [(p1,a),(p2,b),(p3,c)]):Binds K fd [p1,p2,p3] []:=F.binds fun _ _ _ _ _ _ us h0=>by
 obtain⟨a,u1,rfl,h1⟩:=AE h0;obtain⟨b,u2,rfl,h2⟩:=AE h1;obtain⟨c,u3,rfl,h3⟩:=AE h2;obtain rfl:u3=[]:=Ec h3;exact h _ _ _ _ _ _ _ _ _
theorem b4 (F:Fun K x qual st f fd) (h:∀a b c d,Bd x qual st [a,b,c,d] [(p1,a),(p2,b),(p3,c),(p4,d)]):Binds K fd [p1,p2,p3,p4] []:=F.binds fun _ _ _ _ _ _ us h0=>by
 obtain⟨a,u1,rfl,h1⟩:=AE h0;obtain⟨b,u2,rfl,h2⟩:=AE h1;obtain⟨c,u3,rfl,h3⟩:=AE h2;obtain⟨d,u4,rfl,h4⟩:=AE h3;obtain rfl:u4=[]:=Ec h4;exact h _ _ _ _ _ _ _ _ _ _
theorem binds_law (F:Fun K x qual st f fd) (h:∀a,Bd x qual st [a] [(p1,a)]) (s:Shared) (u:Value):BindsTo s fd ⟨[u],[]⟩ [(p1,u)]:=by
 obtain⟨oc,od,kV,doc,pm,an,cdv,ct,osl,rfl,lk,hcd⟩:=F.ex;exact .of_eq (h u _ _ _ _ _ _)
end
def walk_one {l:OpenLaw} {n k:Nat} {q:Program} {loose:List Str} {XP:(Str->Option Value)->Heap->Prop} {A:Ask} {d:DefRec} {CX:World->jR} {sp:Frag->Sp} {x:Str}
  (hn:l.most=some n) (hn2:n<=sizeLine) (hdf:d.params.defaults=[]) (hr:Room k callerA)
  (F:∀(w:World) (mg:Str->Option Value) (fa:Addr) (h:Heap) (K:Frag),K.In h->h.Ns mainGlobals mg->seenK A K=good l.prog A->mg d.name=some (.ref fa)->
   ∃fd:FuncData,(∀(s:Shared) (u:Value),BindsTo s fd ⟨[u],[]⟩ [(x,u)])/\∀base:Heap,K.In base->base.Ns mainGlobals mg->FnOk l.prog w K mg base (CX w) k fa fd [x] (sp K))
  (hsp:∀(K:Frag) (H:Hp) (a:Addr) (ns:List Int),ns.length<=n->Only H->SqL K H a (ns.map V.int)->sp K [.ref a] H (fun v _=>v=.bl true) fun _ _ _=>False)
  (hCX:∀(w:World) (H:Hp) (s:Shared) (e:Value) (s':Shared),CX w [] H s (fun _ _ _=>False) e s'->False):
  WalkO q loose XP (fun _ h=> ∃K:Frag,K.In h/\seenK A K=good l.prog A) l.row.toRowW d [] (fun f vs=>PySem.call f vs):=by
 refine Att.attach_call hn hdf fun w s0 s1 mg mb fa o pm cd doc a vs ns G Y ho hd hcd hmg hobj hints hlen hg=>?_
 obtain⟨K,KX,S⟩:=Y;obtain⟨fd,hb,hF⟩:=F w mg fa _ K KX G.T.g S hmg;exact Sh KX G.T.g G.T.b G.T.builtins G.T.nolimit hg hobj hints (Bw hlen hn2) hr hF hb (fun H hO hS=>hsp K H a ns hlen hO hS) fun H e s'=>hCX w H s1 e s'
def seen_ok {A:Ask} {p:Program} (w:World) (s:Shared) (e:seen A s.heap=good p A):∃K:Frag,K.In s.heap/\seenK A K=good p A:=⟨_,Sk,e⟩
def seen_keeps {A:Ask} {p:Program} (w:World) (h h':Heap) (y:∃K:Frag,K.In h/\seenK A K=good p A) (k:∀b o,h.get? b=some o->h'.get? b=some o):∃K:Frag,K.In h'/\seenK A K=good p A:=
 let ⟨K,a,b⟩:=y
 ⟨K,a.keeps k,b⟩
end L4
namespace L2
open PySem PySem.Spec PyProof.Rows
noncomputable def qj (X:Cx) (N:List Str) (scope:Scope) (cl:List (Str×Addr)) (C:Addr) (s:Shared) (H:Hp) (ex:List Addr):Cx where
 prog:=X.prog
 w:=X.w
 K:=X.K
 mg:=X.mg
 base:=X.base
 A:=X.A
 N:=N
 s₀:=s
 H₀:=H
 env:=compEnvC scope cl C X.env
 outer:=X.stack
 stack:=X.stack
 ex:=ex
 fn:=fun _=>false
 calm:=X.calm
 pn:=[]
 xe:=fun _ _=>False
theorem IU {env:Env}:∀(names:List (Str×NameKind)) (acc:List (Str×Addr)),(∀y∈names,y.2=.free->∃c,env.cells.lookup y.1=some c)->
  ∃cl,(forIn names acc (fun x cs=>match x with|(name,kind)=>if (kind==NameKind.free)=true then (do let a <-cellOf env name;pure (ForInStep.yield ((name,a)::cs))) else pure (ForInStep.yield cs)):Sem (List (Str×Addr)))=pure cl/\
   (∀p∈cl,p∈acc\/env.cells.lookup p.1=some p.2)/\(∀y∈names,y.2=.free->∃c,(y.1,c)∈cl)/\∀p∈acc,p∈cl
 | [],acc,_=>⟨acc,by rw[List.forIn_nil],fun p hp=>.inl hp,fun _ h=>(nomatch h),fun _ h=>h⟩
 | (n,k)::r,acc,h=>by
  rw[List.forIn_cons]
  by_cases hk:k=.free
  .subst hk
   obtain⟨c,hc⟩:=h (n,.free) Ak rfl;obtain⟨cl,e,h1,h2,h3⟩:=IU r ((n,c)::acc) fun y hy=>h y (An _ hy)
   have ec:cellOf env n=pure c:=by unfold cellOf;rw[hc]
   refine⟨cl,?_,fun p hp=>?_,fun y hy hf=>?_,fun p hp=>h3 p (An _ hp)⟩
   .simp only[Fi,By,ec,pure_bind]
    exact e
   .rcases h1 p hp with q|q
    .rcases Af.mp q with rfl|q
     .exact .inr hc
     .exact .inl q
    .exact .inr q
   .rcases Af.mp hy with rfl|hy
    .exact⟨c,h3 _ Ak⟩
    .exact h2 y hy hf
  .obtain⟨cl,e,h1,h2,h3⟩:=IU r acc fun y hy=>h y (An _ hy)
   have hb:(k==NameKind.free)=false:=by simpa using hk
   refine⟨cl,?_,h1,fun y hy hf=>?_,h3⟩
   .simp only[hb,Df,B0,pure_bind]
    exact e
   .rcases Af.mp hy with rfl|hy
    .exact absurd hf hk
    .exact h2 y hy hf
theorem MD {α:Type}:∀{l:List (Str×α)} {x:Str} {c:α},(x,c)∈l->∃d,l.lookup x=some d
 | (y,e)::r,x,c,h=>by
  rw[Cj];cases hb:x==y with
  |true=>exact⟨e,rfl⟩
  |false=>
   rcases Af.mp h with q|q
   .cases q;simp at hb
   .exact MD q
def ME {scope:Scope} {env:Env} (h:∀y∈scope.names,y.2=.free->∃c,env.cells.lookup y.1=some c):
  ∃cl,closureFor scope env=pure cl/\(∀x c,cl.lookup x=some c->env.cells.lookup x=some c)/\∀y∈scope.names,y.2=.free->∃c,cl.lookup y.1=some c:=by
 obtain⟨cl,e,h1,h2,_⟩:=IU (env:=env) scope.names [] h
 refine⟨cl,?_,fun x c q=>?_,fun y hy hf=>?_⟩
 .simp only[closureFor]
  rw[e];rfl
 .rcases h1 _ (Cz q) with z|z
  .cases z
  .exact z
 .obtain⟨c,hc⟩:=h2 y hy hf
  exact MD hc
section
variable {prog:Program} {w:World} {A:Around} {R:Result->Shared->Prop} {s:Shared}
def Sq {elt target iter:Expr} {ifs:List Expr} {scope:Scope} {pos:Pos} {it acc:Value} {env:Env} (I:Nat->Shared->Prop)
  (turn:∀n s,I n s->wpAny (model prog w) A (pyNext it) (fun r s₁=>match r with
   |none=>R (.ok .next) s₁
   |some v=>wpAny (model prog w) A (letOwnedTupleGo target it v) (fun _ s₁'=>wpAny (model prog w) A (assign target env v) (fun _ s₂=>
    wpAny (model prog w) A (forIn ifs true fun c r=>if r=true then do let ok <-isTrue c env (eval c env);pure (ForInStep.yield ok) else pure (ForInStep.yield r)) (fun ok s₃=>
     if ok=true then wpAny (model prog w) A (eval elt env) (fun x s₄=>
      wpAny (model prog w) A (call (.builtin "list.append") [acc,x]) (fun _ s₅=> ∃m,m<n/\I m s₅) (fun _ _=>False) s₄) (fun _ _=>False) s₃
     else ∃m,m<n/\I m s₃) (fun _ _=>False) s₂) (fun _ _=>False) s₁') (fun _ _=>False) s₁) (fun _ _=>False) s)
  (n:Nat) (h:I n s):codeAny (model prog w) A (.compLoop (.ListComp elt [⟨target,iter,ifs,0⟩] scope pos) 0 it acc env) R s:=by
 refine codeAny_loop rfl I (fun n s hI=>?_) n h
 show wpAny _ A ((compTurn (.ListComp elt [⟨target,iter,ifs,0⟩] scope pos) 0 it acc env).onRaise (fun x=>do noteFrame x env;theTreesLotGoes x)) _ _ s
 refine wpAny_noted ?_
 rw[compTurn_list]
 refine Aa (wpAny_standAt (Aa (Cd (turn n s hI) (fun r s₁ h₁=>?_) fun _ _ f=>f.elim)))
 cases r with
 |none=>exact Ad h₁
 |some v=>
  refine Aa (Cd h₁ (fun _ s₁' h₁'=>?_) fun _ _ f=>f.elim)
  refine Aa (Cd h₁' (fun _ s₂ h₂=>Aa (Cd h₂ (fun ok s₃ h₃=>?_) fun _ _ f=>f.elim)) fun _ _ f=>f.elim)
  cases ok with
  |false=>exact Ad ⟨rfl,h₃⟩
  |true=>
   exact Aa (Aa (Cd h₃ (fun x s₄ h₄=>Aa (Cd h₄ (fun _ s₅ h₅=>Ad (Ad ⟨rfl,h₅⟩)) fun _ _ f=>f.elim)) fun _ _ f=>f.elim))
end
def cst (k:Nat) (fr:List Nat) (σ:St):St:=List.replicate k none++fr.map fun j=>(σ[j]?).join
structure CompScope (X:Cx) (loc free:List Str) (fr:List Nat) (scope:Scope):Prop where
 kind:scope.kind=.function
 cell:∀y∈scope.names,y.2≠ .cell
 names:∀y∈scope.names,y.2=.local->scope.names.lookup y.1=some .local
 frees:∀y∈scope.names,y.2=.free->X.env.kindOf y.1=some .cell\/X.env.kindOf y.1=some .free
 at_:∀(i j:Nat) (x:Str),fr[i]? =some j->free[i]? =some x->X.N[j]? =some x/\scope.names.lookup x=some .free
 len:fr.length=free.length
theorem MF {env:Env}:∀{names:List (Str×NameKind)} {x:Str},(∀y∈names,y.2≠ .cell)->
    ((names.map fun (n,k)=>if (k==NameKind.free && env.scope.kind== .function && env.kindOf n==some .cell) then (n,NameKind.cell) else (n,k)).lookup x=some .cell\/
     (names.map fun (n,k)=>if (k==NameKind.free && env.scope.kind== .function && env.kindOf n==some .cell) then (n,NameKind.cell) else (n,k)).lookup x=some .free)->names.lookup x=some .free
  | [],_,_,h=>by simp at h
  | (n,k)::r,x,hc,h=>by
    have ih:= @MF env r x fun y hy=>hc y (An _ hy)
    rw[Ag]at h;rw[Cj];cases hx:x==n with
    |true=>
      have hk:k≠ .cell:=hc (n,k) Ak;dsimp only at h ⊢
      by_cases hb:(k==NameKind.free && env.scope.kind== .function && env.kindOf n==some .cell)=true
      · have:k=.free:=by
          rw[Be,Be]at hb;simpa using hb.1.1
        rw[this]
      · rw[Ab hb,Cj,hx]at h
        rcases h with h|h
        · have:k=.cell:=Option.some.inj h
          exact absurd this hk
        · exact h
    |false=>
      dsimp only at h ⊢
      refine ih ?_
      by_cases hb:(k==NameKind.free && env.scope.kind== .function && env.kindOf n==some .cell)=true
      · rw[Ac hb,Cj,hx]at h;exact h
      · rw[Ab hb,Cj,hx]at h;exact h
theorem MG {env:Env}:∀{names:List (Str×NameKind)} {x:Str},names.lookup x=some .free->
    ((names.map fun (n,k)=>if (k==NameKind.free && env.scope.kind== .function && env.kindOf n==some .cell) then (n,NameKind.cell) else (n,k)).lookup x=some .cell\/
     (names.map fun (n,k)=>if (k==NameKind.free && env.scope.kind== .function && env.kindOf n==some .cell) then (n,NameKind.cell) else (n,k)).lookup x=some .free)
  | [],_,h=>by simp at h
  | (n,k)::r,x,h=>by
    have ih:= @MG env r x;rw[Ag];rw[Cj]at h;cases hx:x==n with
    |true=>
      rw[hx]at h;have hk:k=.free:=Option.some.inj h;subst hk;dsimp only
      by_cases hb:(NameKind.free==NameKind.free && env.scope.kind== .function && env.kindOf n==some .cell)=true
      · rw[Ac hb,Cj,hx];exact .inl rfl
      · rw[Ab hb,Cj,hx];exact .inr rfl
    |false=>
      rw[hx]at h;have:=ih h;dsimp only
      by_cases hb:(k==NameKind.free && env.scope.kind== .function && env.kindOf n==some .cell)=true
      · rw[Ac hb,Cj,hx];exact this
      · rw[Ab hb,Cj,hx];exact this
section
variable {X:Cx} {pins:AL} {σ:St} {H:Hp} {s:Shared}
def Sr {loc free:List Str} {fr:List Nat} {scope:Scope} {cl:List (Str×Addr)} {h1:Heap} {t1:Nat} {fp:List Addr} (S:CompScope X loc free fr scope) (I:Inv X pins σ H s)
  (hc1:∀x c,cl.lookup x=some c->X.env.cells.lookup x=some c) (hc2:∀y∈scope.names,y.2=.free->∃c,cl.lookup y.1=some c)
  (hns:h1.Ns s.heap.objs.size (fun _=>none)) (hk:∀b o,s.heap.get? b=some o->h1.get? b=some o)
  (hfp:∀b∈fp,yN X pins H b) (hfo:∀b∈fp,∃o,s.heap.get? b=some o):
  Inv (qj X (loc++free) scope cl s.heap.objs.size s H fp) [] (cst loc.length fr σ) H {s with heap:=h1,toks:=t1}:=by
 have fpb:∀b∈fp,b<s.heap.objs.size:=fun b hb=>let ⟨o,e⟩:=hfo b hb;Aj e
 refine⟨⟨I.ok.mod,S.kind,I.ok.glob,I.ok.blt,Ah _,fun x y c e1 e2=>I.ok.inj x y c (hc1 _ _ e1) (hc1 _ _ e2),fun x hx=>?_,fun x c f=>(nomatch f),I.ok.hd,I.ok.frames,.inl rfl,fun b hb=>?_,I.bs,Bw I.ok.bsz I.sz,fun b o e hb=>?_,fun b hb z=>?_,I.stack,I.stkFree⟩,
  rfl,I.bare,Un.kept hk,⟨_,hns,fun i x v e1 e2 e3=>?_⟩,fun x c e=>?_,I.hok.fresh (Ah _),fun x c e=>I.freeC x c (hc1 x c e),fun p hp=>absurd (show p∈([]:AL) from hp) (by simp),I.hok.kept hk,?_⟩
 .have q:scope.names.lookup x=some .free:=MF S.cell hx
  exact hc2 (x,.free) (Cz q) rfl
 .exact⟨Aw (fpb b hb),fun x c e=>(hfp b hb).2.2.2.2.1 x c (hc1 x c e)⟩
 .rcases (hfp b hb).2.2.2.1 with z|z
  .exact I.ok.noex b o e z
  .exact absurd (Bk (Aj e) (Bw I.ok.bsz z)) (Cb _)
 .rcases Af.mp (I.stkSub b z) with e|e
  .exact (hfp b hb).2.1 e
  .exact (hfp b hb).2.2.1 e
 .have e1':(loc++free)[i]? =some x:=e1
  unfold cst at e2
  by_cases hi:i<loc.length
  .rw[Bg (by simpa using hi),Gn]at e2
   rw[Ac hi]at e2;cases e2
  .have hi':loc.length<=i:=Nat.le_of_not_lt hi
   rw[Bl (by simpa using hi'),Ds,Ba]at e2
   rw[Bl hi']at e1';cases hj:fr[i-loc.length]? with
   |none=>rw[hj]at e2;cases e2
   |some j=>
    rw[hj]at e2;have e2':(σ[j]?).join=some v:=Option.some.inj e2;obtain⟨n1,n2⟩:=S.at_ _ j x hj e1';have e4:σ[j]? =some (some v):=by
     cases q:σ[j]? with
     |none=>rw[q]at e2';cases e2'
     |some z=>rw[q]at e2';exact congrArg some e2'
    have kf:=S.frees (x,.free) (Cz n2) rfl;obtain⟨m,hn,hl⟩:=I.loc;obtain⟨u,r,l⟩:=hl j x v n1 e4 (kf.elim (fun z=>.inr (.inl z)) fun z=>.inr (.inr z))
    refine⟨u,r,.inr ⟨MG n2,?_⟩⟩
    obtain⟨c,hc⟩:=hc2 (x,.free) (Cz n2) rfl;have hcx:=hc1 x c hc
    rcases l with ⟨hk',_⟩|⟨_,c',hc',hcell⟩
    .rcases kf with z|z<;>(rw[hk']at z;cases z)
    .rw[hcx]at hc'
     cases hc';obtain⟨o,ho,hd⟩:=hcell;exact⟨c,hc,o,hk _ _ ho,hd⟩
 .obtain⟨v,o,ho,hd⟩:=I.cell x c (hc1 x c e)
  exact⟨v,o,hk _ _ ho,hd⟩
 .show (cst loc.length fr σ).length=(loc++free).length
  unfold cst;rw[As,Ds,Ae,As,S.len]
abbrev Ss (J:It) (g:TG) (tc:TT) (te:TE) (σ0:St) (H:Hp) (Q:VK) (D:Addr):Prop:=
 ∃W:Nat->Nat->List V->St->Hp->Prop,(∃m,W 0 m [] σ0 (zr H D (.lst [])))/\∀i m acc σ' H',W i m acc σ' H'->H' D=some (.lst acc)/\
  ((J.stop i H'/\Q (.ref D) H')\/(J.go i H'/\∃N:List V->St->Hp->Prop,(∀acc' σ3 H5,N acc' σ3 H5->∃m',m' < m/\W (i+1) m' acc' σ3 H5)/\∀x H2,J.yld i H' x H2->g x σ' H2 fun σ3 H3=>tc σ3 H3 fun b H4=>
   if b=true then te σ3 H4 fun v H5=>H5 D=some (.lst acc)/\acc.length<sizeLine/\N (acc++[v]) σ3 (zr H5 D (.lst (acc++[v])))
   else N acc σ3 H4))
def Hj (wi:TI) (k:Nat) (fr:List Nat) (g:TG) (tc:TT) (te:TE):TE:=fun σ H Q=>wi σ H fun J H1=> ∀D,H1 D=none->Ss J g tc te (cst k fr σ) H1 Q D
def Su:TT:=fun _ H Q=>Q true H
def PTs (X:Cx) (ifs:List Expr) (t:TT):Prop:=
 ∀(pins:AL) (s:Shared) (σ:St) (H:Hp) (Q:Bool->Hp->Prop),Inv X pins σ H s->t σ H Q->
  wpAny (model X.prog X.w) X.A (forIn ifs true fun c r=>if r=true then do let ok <-isTrue c X.env (eval c X.env);pure (ForInStep.yield ok) else pure (ForInStep.yield r)) (TP X pins σ Q) X.xe s
def Sv:PTs X [] Su:=fun pins s σ H Q I h=>wpAny_tests_nil ⟨H,I,h⟩
def Sw {c:Expr} {t:TT} (h:PT X c t):PTs X [c] t:=fun pins s σ H Q I q=>wpAny_tests_one (h pins s σ H Q I q)
structure CompEnd (X:Cx) (pins:AL) (σ:St) (Q:VK) (D C:Addr) (s6:Shared):Prop where
 inv:∃H5,Inv X pins σ H5 s6/\H5 C=none/\Q (.ref D) H5
 ns:∃m,s6.heap.Ns C m
 neL:C≠X.env.locals
 nfs:C∉X.fs
 new:X.s₀.heap.objs.size<=C
 cel:∀x c,X.env.cells.lookup x=some c->c≠C
 pin:∀p∈X.pn++pins,p.1≠C
def MH {elt tg iter:Expr} {ifs:List Expr} {loc free:List Str} {fr:List Nat} {scope:Scope} {pos:Pos} {wi:TI} {g:TG} {tc:TT} {te:TE} (hc:X.calm=true) (S:CompScope X loc free fr scope) (hi:PI X tg iter wi)
  (hg:∀cl C s H ex,PG (qj X (loc++free) scope cl C s H ex) tg g) (ht:∀cl C s H ex,PTs (qj X (loc++free) scope cl C s H ex) ifs tc) (he:∀cl C s H ex,PE (qj X (loc++free) scope cl C s H ex) elt te)
  (I:Inv X pins σ H s) {Q:VK} (h:Hj wi loc.length fr g tc te σ H Q) {cl:List (Str×Addr)} (hc1:∀x c,cl.lookup x=some c->X.env.cells.lookup x=some c) (hc2:∀y∈scope.names,y.2=.free->∃c,cl.lookup y.1=some c)
  {RR:Value->Addr->Result->Shared->Prop} (hRR:∀D C s6,CompEnd X pins σ Q D C s6->RR (.ref D) C (.ok .next) s6):
  wpAny (model X.prog X.w) X.A (eval iter X.env) (fun x s1=>wpAny (model X.prog X.w) X.A (pyIter x) (fun it s2=>wpAny (model X.prog X.w) X.A (newList []) (fun acc s3=>
   wpAny (model X.prog X.w) X.A (newFunctionEnv scope X.env.globals cl [] X.env.qual none .none (some X.env)) (fun cenv s4=>
    codeAny (model X.prog X.w) X.A (.compStart (.ListComp elt [⟨tg,iter,ifs,0⟩] scope pos) 0 it acc {cenv with scope:=relabel scope X.env}) (RR acc cenv.locals) s4) X.xe s3) X.xe s2) X.xe s1) X.xe s:=by
 refine thn (hi pins s σ H _ I h) fun v s1 h1=>thn h1 fun itv s2 h2=>?_
 obtain⟨it,fp,tn,J,H2,e,I2,T,st2,f2,q2⟩:=h2;subst e;have hD:H2 s2.heap.objs.size=none:=I2.hok.fresh (Ah _);obtain⟨W,⟨m0,w0⟩,turn⟩:=q2 s2.heap.objs.size hD
 refine B6 ?_
 generalize hs3:({s2 with heap:=s2.heap.push {cls:= .type "list",dict:=none,data:= .seq ([]:List Value).toArray}}:Shared)=s3
 have I3:Inv X pins σ (zr H2 s2.heap.objs.size (.lst [])) s3:=by
  rw[<-hs3];exact I2.lnew (its:=[]) (t':=s2.toks) .nil (B3 _)
 have k23:∀b o,s2.heap.get? b=some o->s3.heap.get? b=some o:=fun b o q=>by rw[<-hs3];exact Ay _ q
 have f3:∀b∈fp,yN X pins (zr H2 s2.heap.objs.size (.lst [])) b:=fun b hb=>by
  obtain⟨o,e,_⟩:=T.obj _ _ st2 b hb;exact⟨by rw[zX (Aw (Aj e))];exact (f2 b hb).1,(f2 b hb).2⟩
 have o3:∀b∈fp,∃o,s3.heap.get? b=some o:=fun b hb=>let ⟨o,e,_⟩:=T.obj _ _ st2 b hb;⟨o,k23 b o e⟩
 have st3:tn 0 s3.heap:=T.keep _ _ _ st2 fun b _ o e=>k23 b o e
 refine wpAny_newFunctionEnv S.cell (by intro y hy;simp at hy) (fun h4 hns hsb=>?_) S.kind
 try dsimp only at hns hsb ⊢
 have k34:∀b o,s3.heap.get? b=some o->h4.get? b=some o:=fun b o q=>hsb.extBut b o (Aw (Aj q)) (Ay _ q)
 have I4:=Sr (t1:=s3.toks+([]:List (Str×Value)).length) S I3 hc1 hc2 hns k34 f3 o3;have hgC:=hg cl s3.heap.objs.size s3 (zr H2 s2.heap.objs.size (.lst [])) fp;have htC:=ht cl s3.heap.objs.size s3 (zr H2 s2.heap.objs.size (.lst [])) fp;have heC:=he cl s3.heap.objs.size s3 (zr H2 s2.heap.objs.size (.lst [])) fp;have st4:tn 0 h4:=T.keep _ _ _ st3 fun b _ o e=>k34 b o e
 generalize hY:qj X (loc++free) scope cl s3.heap.objs.size s3 (zr H2 s2.heap.objs.size (.lst [])) fp=Y at I4 hgC htC heC;have fY:∀{H':Hp},(∀b∈fp,H' b=none)->∀b∈fp,yN Y [] H' b:=fun hn b hb=>by
  subst hY
  refine⟨hn b hb,?_,fun z=>?_,.inl hb,fun x c e=>(f3 b hb).2.2.2.2.1 x c (hc1 x c e),fun p hp=>absurd (show p∈([]:AL) from hp) (by simp)⟩
  .obtain⟨o,e⟩:=o3 b hb
   exact Aw (Aj e)
  .rcases Af.mp (I3.stkSub b z) with e|e
   .exact (f3 b hb).2.1 e
   .exact (f3 b hb).2.2.1 e
 have hYp:Y.prog=X.prog:=by rw[<-hY];rfl
 have hYw:Y.w=X.w:=by rw[<-hY];rfl
 have hYK:Y.K=X.K:=by rw[<-hY];rfl
 have hYA:Y.A=X.A:=by rw[<-hY];rfl
 have hYe:Y.env=compEnvC scope cl s3.heap.objs.size X.env:=by rw[<-hY];rfl
 have hYx:Y.xe=fun _ _=>False:=by rw[<-hY];rfl
 have hYc:Y.calm=true:=by rw[<-hY];exact hc
 have loop:codeAny (model X.prog X.w) X.A (.compLoop (.ListComp elt [⟨tg,iter,ifs,0⟩] scope pos) 0 (.ref it) (.ref s2.heap.objs.size) (compEnvC scope cl s3.heap.objs.size X.env))
   (RR (.ref s2.heap.objs.size) s3.heap.objs.size) {s3 with heap:=h4,toks:=s3.toks+([]:List (Str×Value)).length}:=by
  refine Sq (fun n s'=> ∃i acc σ' H',Inv Y [] σ' H' s'/\tn i s'.heap/\(∀b∈fp,H' b=none)/\W i n acc σ' H') ?_ m0 ⟨0,[],_,_,I4,st4,fun b hb=>(f3 b hb).1,w0⟩
  rintro n s5 ⟨i,acc,σ5,H5,I5,st5,fr5,w5⟩;obtain⟨hacc,turn5⟩:=turn i n acc σ5 H5 w5
  rcases turn5 with ⟨stop,qn⟩|⟨go,N,hN,step⟩
  .have d:=T.done Y hYp hYw hYK hYc i [] s5 σ5 H5 (fun _ _=>False) I5 (fY fr5) st5 stop
   rw[hYA]at d
   refine thn d fun r s6 zz70 => ?_
   obtain ⟨hr,I6⟩ := zz70
   subst hr;obtain⟨m,hn,_⟩:=id I6.loc;rw[hYe]at hn;have fC:H5 s3.heap.objs.size=none:=by
    have:=I6.free;rw[hYe]at this;exact this
   have hok6:HOk X.prog X.w H5 s6.heap:=by
    have:=I6.hok;rw[hYp,hYw]at this;exact this
   have un6:Un (yP X.stack) fp (zr H2 s2.heap.objs.size (.lst [])) H5 s3.heap s6.heap:=by
    have:=I6.base;subst hY;exact this
   have os6:s6.os=s3.os:=by
    have:=I6.os;subst hY;exact this
   have IX:Inv X pins σ H5 s6:=I3.call' (ch:=fp) os6 un6 hok6 I6.bare fun b hb=>⟨(f3 b hb).2.2.2.1,(f3 b hb).2.1,(f3 b hb).2.2.2.2.1,(f3 b hb).2.2.2.2.2⟩
   refine hRR _ _ s6 ⟨⟨H5,IX,fC,qn⟩,⟨m,hn⟩,Cw I3.lt,I3.nofs (Ah _),I3.sz,fun x c e z=>?_,fun p hp z=>?_⟩
   .obtain⟨v,q⟩:=I3.cell x c e
    exact absurd q.lt (by rw[z];exact Cb _)
   .exact absurd (Aj (I3.pin p hp).1) (by rw[z];exact Cb _)
  .have d:=T.item Y hYp hYw hYK hYc i [] s5 σ5 H5 (fun _ _=>False) I5 (fY fr5) st5 go
   rw[hYA]at d
   refine thn d fun r s6 zz71 => ?_
   obtain ⟨u,hr,h6⟩ := zz71
   subst hr
   refine thn h6 fun _ s7 zz72 => ?_
   obtain ⟨x,H7,I7,r7,y7,st7,fr7⟩ := zz72
   have I7':=I7.pinned (fY fr7) (T.obj _ _ st7);have g7:=hgC _ s7 σ5 H7 x u _ I7' r7 (step x H7 y7);rw[hYp,hYw,hYA,hYe,hYx]at g7
   refine thn g7 fun _ s8 zz73 => ?_
   obtain ⟨σ8,H8,I8,q8⟩ := zz73
   have t8:=htC _ s8 σ8 H8 _ I8 q8;rw[hYp,hYw,hYA,hYe,hYx]at t8;have back:∀{σ9:St} {H9:Hp} {s9:Shared} {acc':List V},Inv Y ([]++EK fp s7.heap) σ9 H9 s9->N acc' σ9 H9->∃m,m<n/\∃i acc σ' H',Inv Y [] σ' H' s9/\tn i s9.heap/\(∀b∈fp,H' b=none)/\W i m acc σ' H':=fun {σ9 H9 s9 acc'} I9 w9=>by
    obtain⟨m',hm,w9⟩:=hN _ _ _ w9
    refine⟨m',hm,i+1,acc',σ9,H9,I9.unpinned,T.keep _ _ _ st7 fun b hb o e=>(I9.pin (b,o) (Bu _ (Bu _ (GZ hb e)))).1,fun b hb=>?_,w9⟩
    obtain⟨o,e,d⟩:=T.obj _ _ st7 b hb;exact (I9.pin (b,o) (Bu _ (Bu _ (GZ hb e)))).2.1
   refine thn t8 fun ok s9 zz74 => ?_
   obtain ⟨H9,I9,q9⟩ := zz74
   cases ok with
   |false=>
    rw[Ab (by simp)]at q9 ⊢
    exact back I9 q9
   |true=>
    rw[Ac rfl]at q9 ⊢;have e9:=heC _ s9 σ8 H9 _ I9 q9;rw[hYp,hYw,hYA,hYe,hYx]at e9
    refine thn e9 fun y s10 zz75 => ?_
    obtain ⟨z,H10,I10,r10,hacc10,hlen,w10⟩ := zz75
    have a10:=BC (X:=Y) _ s10 σ8 H10 (.ref s2.heap.objs.size) [z] (.ref s2.heap.objs.size) [y] (fun _ H'=>N (acc++[z]) σ8 H') I10 rfl (.cons r10 .nil) ⟨_,_,z,rfl,rfl,hacc10,hlen,w10⟩
    rw[hYp,hYw,hYA,hYx]at a10;exact thn a10 fun _ s11 zz76 => by obtain ⟨_,H11,I11,_,w11⟩ := zz76; exact back I11 w11
 exact codeAny_compStart_list loop (T.self X.A 0 _ _ _ st4 loop)
def Sx {elt tg iter:Expr} {ifs:List Expr} {loc free:List Str} {fr:List Nat} {scope:Scope} {pos:Pos} {wi:TI} {g:TG} {tc:TT} {te:TE} (hc:X.calm=true) (S:CompScope X loc free fr scope) (hi:PI X tg iter wi)
  (hg:∀cl C s H ex,PG (qj X (loc++free) scope cl C s H ex) tg g) (ht:∀cl C s H ex,PTs (qj X (loc++free) scope cl C s H ex) ifs tc) (he:∀cl C s H ex,PE (qj X (loc++free) scope cl C s H ex) elt te)
  (hs:∀x,foldedSetIterable iter X.env x=pure x:=by intro _;rfl):PE X (.ListComp elt [⟨tg,iter,ifs,0⟩] scope pos) (Hj wi loc.length fr g tc te):=by
 intro pins s σ H Q I h;rw[eval_ListComp];obtain⟨cl,hcl,hc1,hc2⟩:=ME (scope:=scope) (env:=X.env) fun y hy hf=>I.ok.has y.1 (S.frees y hy hf)
 refine wpAny_comprehension_free (use:=none) rfl hs hcl S.kind S.names ?_
 refine MH (RR:=fun acc C=>compPost (model X.prog X.w) X.A X.xe none (EP X pins σ Q) acc C) hc S hi hg ht he I h hc1 hc2 fun D C s6 ce=>?_
 obtain⟨H5,IX,fC,q⟩:=ce.inv;obtain⟨m,hn⟩:=ce.ns;exact⟨m,hn,fun h7 hs7=>⟨.ref D,H5,IX.turned (t':=s6.toks) (fun b o hb e=>hs7.extBut b o hb e) fC ce.neL (.inr ce.new) ce.cel ce.pin,rfl,q⟩⟩
def MI {i:Nat} {y:Str} {py:Pos} {spos:Pos} {elt tg iter:Expr} {ifs:List Expr} {loc free:List Str} {fr:List Nat} {scope:Scope} {pos:Pos} {wi:TI} {g:TG} {tc:TT} {te:TE} (hN:X.N.Nodup) (hi':X.N[i]? =some y) (hx:X.env.scope.names.lookup y=some .local)
  (hc:X.calm=true) (S:CompScope X loc free fr scope) (hi:PI X tg iter wi)
  (hg:∀cl C s H ex,PG (qj X (loc++free) scope cl C s H ex) tg g) (ht:∀cl C s H ex,PTs (qj X (loc++free) scope cl C s H ex) ifs tc) (he:∀cl C s H ex,PE (qj X (loc++free) scope cl C s H ex) elt te)
  (hs:∀x,foldedSetIterable iter X.env x=pure x:=by intro _;rfl)
  (hsw:swapsWith (.ListComp elt [⟨tg,iter,ifs,0⟩] scope pos) (some (.Name y py)) spos.line X.env=pure true:=by rfl):
  PS X (.Assign [.Name y py] (.ListComp elt [⟨tg,iter,ifs,0⟩] scope pos) spos) (tAsg (Hj wi loc.length fr g tc te) (EH i)):=by
 intro pins s σ H D I h;obtain⟨cl,hcl,hc1,hc2⟩:=ME (scope:=scope) (env:=X.env) fun y hy hf=>I.ok.has y.1 (S.frees y hy hf)
 rw[exec_Assign_Name_used _ _ _ _ hsw]
 refine Aa (wpAny_standAt (Aa ?_))
 show wpAny _ X.A (do let _ <-comprehension (.ListComp elt [⟨tg,iter,ifs,0⟩] scope pos) scope X.env _ (newList []) false (eval iter X.env) (some (assign (.Name y py) X.env))) _ _ s
 refine Aa (Cd (wpAny_comprehension_free (use:=some (assign (.Name y py) X.env)) (Q:=fun _ s'=>SP X pins D .next s') rfl hs hcl S.kind S.names ?_) (fun _ s' hq=>Ad (Ad hq)) fun _ _ e=>e)
 refine MH (RR:=fun acc C=>compPost (model X.prog X.w) X.A X.xe (some (assign (.Name y py) X.env)) (fun _ s'=>SP X pins D .next s') acc C) hc S hi hg ht he I h hc1 hc2 fun L C s6 ce=>?_
 obtain⟨H5,IX,fC,q⟩:=ce.inv;obtain⟨m,oC,es,ep,ho,hd,hk⟩:=ce.ns;show wpAny _ X.A (assign (.Name y py) X.env (.ref L)) _ _ s6;have IP:Inv X (pins++[(C,oC)]) σ H5 s6:=IX.pins_of fun p hp=>(Ax.mp hp).elim (fun z=>IX.pin p (Bu _ z)) fun z=>by
  rw[Ap.mp z];exact⟨ho,fC,ce.neL,ce.nfs,fun v e=>by rw[hd]at e;cases e⟩
 refine wpAny_assign_Name (GX IP hN hi' (.inl hx) (v:= .ref L) rfl (fun s' I'=>?_) (.inr hx))
 have pc:=I'.pin (C,oC) (Bu _ (Bu _ Ak))
 refine⟨m,⟨oC,es,ep,pc.1,hd,hk⟩,fun h7 hs7=>?_⟩
 exact⟨_,H5,I'.unpinned.turned (t':=s'.toks) (fun b o hb e=>hs7.extBut b o hb e) fC ce.neL (.inr ce.new) ce.cel ce.pin,q⟩
end
section
variable {X:Cx} {pins:AL} {σ:St} {H:Hp} {s:Shared} {h':Heap}
def Inv.turnLay {ch:List Addr} {a:Addr} {o:HO} {t':Nat} (I:Inv X pins σ H s) (k:∀b u,b∉ch->s.heap.get? b=some u->h'.get? b=some u) (hch:∀b∈ch,yN X pins H b)
  (hp:s.heap.objs.size<=a) (new:ObjOk X.prog X.w (zr H a o) h' a o):Inv X pins σ (zr H a o) {s with heap:=h',toks:=t'}:=by
 have hn:H a=none:=I.hok.fresh hp;have ne:∀b u,s.heap.get? b=some u->b≠a:=fun b u e=>Aw (Bk (Aj e) hp)
 have nc:∀b u,H b=some u->b∉ch:=fun b u e hb=>by have:=(hch b hb).1;rw[e]at this;cases this
 refine I.step (g':=s.gens) (d':=s.drawn) (ch:=ch) (fun b hb=>⟨(hch b hb).2.2.2.1,(hch b hb).2.1,(hch b hb).2.2.2.2.1,(hch b hb).2.2.2.2.2⟩) (fun b u _ _ hc e _=>k b u hc e) (fun b u _ _ hc e _=>⟨u.slots,k b u hc e⟩)
  (fun b u _ e n=>by rw[zX (ne b u e)];exact n) (fun b u hc e=>⟨u,k b u hc e⟩) (fun b xs e=>by rw[zX (qA e hn)];exact e) (fun b u v e=>by rw[zX (qA e hn)];exact e)
  (fun b ps e=>⟨#[],by rw[zX (qA e hn)];rw[e];simp⟩) (fun m hm=>?_) (fun b u e=>?_) I.bare
 .obtain⟨ob,es,ep,ho,r⟩:=hm
  refine⟨ob,es,ep,k _ ob (fun hb=>(hch _ hb).2.1 rfl) ho,r⟩
 .by_cases hb:b=a
  .subst hb;rw[yR]at e;cases e;exact new
  .rw[zX hb]at e
   refine (I.hok b u e).stay (fun c v hc q=>k c v ?_ q) (fun c q=>by rw[zX (qA q hn)];exact q) fun c xs q=>by rw[zX (qA q hn)];exact q
   rcases hc with z|z
   .rw[z];exact nc b u e
   .exact nc c _ z
def Inv.turnedL {ch:List Addr} {t':Nat} (I:Inv X pins σ H s) (k:∀b u,b∉ch->s.heap.get? b=some u->h'.get? b=some u) (hch:∀b∈ch,yN X pins H b):Inv X pins σ H {s with heap:=h',toks:=t'}:=by
 have nc:∀b u,H b=some u->b∉ch:=fun b u e hb=>by have:=(hch b hb).1;rw[e]at this;cases this
 refine I.step (g':=s.gens) (d':=s.drawn) (ch:=ch) (fun b hb=>⟨(hch b hb).2.2.2.1,(hch b hb).2.1,(hch b hb).2.2.2.2.1,(hch b hb).2.2.2.2.2⟩) (fun b u _ _ hc e _=>k b u hc e) (fun b u _ _ hc e _=>⟨u.slots,k b u hc e⟩)
  (fun b u _ e n=>n) (fun b u hc e=>⟨u,k b u hc e⟩) (fun b xs e=>e) (fun b u v e=>e) (fun b ps e=>⟨#[],by rw[e];simp⟩) (fun m hm=>?_) (fun b u e=>?_) I.bare
 .obtain⟨ob,es,ep,ho,r⟩:=hm
  refine⟨ob,es,ep,k _ ob (fun hb=>(hch _ hb).2.1 rfl) ho,r⟩
 .refine (I.hok b u e).stay (fun c v hc q=>k c v ?_ q) (fun c q=>q) fun c xs q=>q
  rcases hc with z|z
  .rw[z];exact nc b u e
  .exact nc c _ z
end
section
variable {X:Cx}
def Sy:qg X (.builtin "isinstance") (fun xs H Q=> ∃x T t b,xs=[x,.ty T]/\TyOf X.K H x t/\PySem.W.kitOne X.K t (.type T)=some b/\Q (.bl b) H):=by
 intro pins s σ H xs us Q I r h;obtain⟨x,T,t,b,rfl,ty,e,q⟩:=h;obtain⟨u,v,rfl,rx,ry⟩:=Ha r;cases ry;exact Rv I rx ty e fun tk=>⟨.bl b,H,I.tok tk,rfl,q⟩
def IV {A:Around} (h:A.handled=none):A.in1.handled=none:=h
def Sz (hc:X.calm=true):qg X (.builtin "all") (fun xs H Q=> ∃(p:Addr) (bs:List Bool),xs=[.ref p]/\SqL X.K H p (bs.map V.bl)/\Q (.bl (bs.all id)) H):=by
 intro pins s σ H xs us Q I r h;obtain⟨p,bs,rfl,hq,q⟩:=h;obtain⟨u,rfl,rx⟩:=AY r;cases rx;obtain⟨its,rv,pl,hz⟩:=I.list hq
 refine call_all_walk (Et pl.isList ?_)
 have hp:p<s.heap.objs.size:=by obtain⟨o,n,e,_⟩:=pl;exact Aj e
 have hlen:its.length=bs.length:=by rw[<-rv.length,Ae]
 refine⟨s.heap.objs.size,_,_,_,_,_,fun i=>bs.getD i true,rfl,Walks.list (IV (I.ok.hd hc)) _ p (Aw hp) its.toArray,⟨⟨_,Bf _ rfl,rfl,rfl⟩,pl.isList.push _⟩,?_,fun h' tk k=>?_⟩
 .intro i v s' Q' E' hv hQ
  have hv':its[i]? =some v:=by simpa using hv
  have hi:i<bs.length:=by rw[<-hlen];exact (Ao.mp hv').1
  obtain⟨u,hu,ru⟩:=rv.get (i:=i) (x:= .bl bs[i]) (by simp[hi])
  rw[hv']at hu;cases hu;cases ru
  refine Ce ?_
  have e:bs.getD i true=bs[i]:=by simp[hi]
  dsimp only at hQ;rw[e]at hQ;exact hQ
 .refine⟨.bl _,H,I.kept (t':=tk) (fun b o e=>k b o (by simpa using Aw (Aj e)) (Ay _ e)),?_,q⟩
  show Value.bool _=Value.bool _
  congr 1
  rw[Am,hlen];have:∀(bs:List Bool) (n:Nat),n=bs.length->(List.range n).all (fun i=>bs.getD i true)=bs.all id:=by
   intro bs n hn;rw[Ey,Fj,Fj]
   constructor
   .intro h x hx
    obtain⟨i,hi,rfl⟩:=List.mem_iff_getElem.mp hx;have:=h i (Bh.mpr (by lia))
    simpa[hi] using this
   .intro h i hi
    have hi':i<bs.length:=by have:=Bh.mp hi;lia
    have:=h bs[i] (C4 hi');simpa[hi'] using this
  exact this bs _ rfl
def S2 (hc:X.calm=true):qg X (.builtin "any") (fun xs H Q=> ∃(p:Addr) (bs:List Bool),xs=[.ref p]/\SqL X.K H p (bs.map V.bl)/\Q (.bl (bs.any id)) H):=by
 intro pins s σ H xs us Q I r h;obtain⟨p,bs,rfl,hq,q⟩:=h;obtain⟨u,rfl,rx⟩:=AY r;cases rx;obtain⟨its,rv,pl,hz⟩:=I.list hq
 refine call_any_walk (Et pl.isList ?_)
 have hp:p<s.heap.objs.size:=by obtain⟨o,n,e,_⟩:=pl;exact Aj e
 have hlen:its.length=bs.length:=by rw[<-rv.length,Ae]
 refine⟨s.heap.objs.size,_,_,_,_,_,fun i=>bs.getD i false,rfl,Walks.list (IV (I.ok.hd hc)) _ p (Aw hp) its.toArray,⟨⟨_,Bf _ rfl,rfl,rfl⟩,pl.isList.push _⟩,?_,fun h' tk k=>?_⟩
 .intro i v s' Q' E' hv hQ
  have hv':its[i]? =some v:=by simpa using hv
  have hi:i<bs.length:=by rw[<-hlen];exact (Ao.mp hv').1
  obtain⟨u,hu,ru⟩:=rv.get (i:=i) (x:= .bl bs[i]) (by simp[hi])
  rw[hv']at hu;cases hu;cases ru
  refine Ce ?_
  have e:bs.getD i false=bs[i]:=by simp[hi]
  dsimp only at hQ;rw[e]at hQ;exact hQ
 .refine⟨.bl _,H,I.kept (t':=tk) (fun b o e=>k b o (by simpa using Aw (Aj e)) (Ay _ e)),?_,q⟩
  show Value.bool _=Value.bool _
  congr 1
  rw[Am,hlen];have:∀(bs:List Bool) (n:Nat),n=bs.length->(List.range n).any (fun i=>bs.getD i false)=bs.any id:=by
   intro bs n hn;rw[Ey,Dg,Dg]
   constructor
   .rintro⟨i,hi,h⟩
    have hi':i<bs.length:=by have:=Bh.mp hi;lia
    exact⟨bs[i],C4 hi',by simpa[hi'] using h⟩
   .rintro⟨x,hx,h⟩
    obtain⟨i,hi,rfl⟩:=List.mem_iff_getElem.mp hx;exact⟨i,Bh.mpr (by lia),by simpa[hi] using h⟩
  exact this bs _ rfl
theorem IW (ns:List Int):∀k,k<=ns.length->preSum (fun i=>ns.getD i 0) k=(ns.take k).sum
 |0,_=>by simp[preSum]
 |k+1,h=>by
  have hk:k<ns.length:=h;have e:ns.take (k+1)=ns.take k++[ns[k]]:=by rw[Fo];simp[hk]
  rw[preSum,IW ns k (by lia),e,List.sum_append]
  simp[hk]
def IY (ns:List Int):Prop:=∀j,j<ns.length->InLong (ns.getD j 0)/\InLong ((ns.take (j+1)).sum)
def S4 (hc:X.calm=true):qg X (.builtin "sum") (fun xs H Q=> ∃(p:Addr) (ns:List Int),xs=[.ref p]/\SqL X.K H p (ns.map V.int)/\IY ns/\Q (.int ns.sum) H):=by
 intro pins s σ H xs us Q I r h;obtain⟨p,ns,rfl,hq,ok,q⟩:=h;obtain⟨u,rfl,rx⟩:=AY r;cases rx;obtain⟨its,rv,pl,hz⟩:=I.list hq
 refine call_sum_walk (Et pl.isList ?_)
 have hp:p<s.heap.objs.size:=by obtain⟨o,n,e,_⟩:=pl;exact Aj e
 have hlen:its.length=ns.length:=by rw[<-rv.length,Ae]
 refine⟨s.heap.objs.size,_,_,_,_,_,fun i=>ns.getD i 0,rfl,Walks.list (IV (I.ok.hd hc)) _ p (Aw hp) its.toArray,⟨⟨_,Bf _ rfl,rfl,rfl⟩,pl.isList.push _⟩,?_,?_,?_,fun h' tk t' k=>?_⟩
 .intro b hb
  have hs:(s.heap.push {cls:= .type "list_iterator",data:= .fields #[.ref p,.int 0 0]}).objs.size=s.heap.objs.size+1:=Cf ..;show b<(s.heap.push {cls:= .type "list_iterator",data:= .fields #[.ref p,.int 0 0]}).objs.size;rw[hs]
  rcases Af.mp hb with rfl|hb
  .exact De _
  .have:b=p:=by simpa using hb
   subst this;exact Ez hp
 .intro i v hv
  have hv':its[i]? =some v:=by simpa using hv
  have hi:i<ns.length:=by rw[<-hlen];exact (Ao.mp hv').1
  obtain⟨u,hu,ru⟩:=rv.get (i:=i) (x:= .int ns[i]) (by simp[hi])
  rw[hv']at hu;cases hu;obtain⟨t,e⟩:=ru;exact⟨t,by rw[e];simp[hi]⟩
 .intro j hj
  have hj':j<ns.length:=by rw[<-hlen];simpa using hj
  rw[IW ns (j+1) hj'];exact ok j hj'
 .refine⟨.int _,H,I.kept (t':=tk) (fun b o e=>k b o (by simpa using Aw (Aj e)) (Ay _ e)),⟨t',?_⟩,q⟩
  show Value.int _ _=Value.int _ _
  congr 1
  rw[Am,hlen,IW ns _ (Ah _),Cp]
end
end L2
namespace L2
open PySem PySem.W PySem.Spec PyProof.Rows
def Itz (K:FG) (a b:Addr):It:=
 ⟨fun i H=> ∃(xs ys:List V) (x y:V),SqL K H a xs/\SqL K H b ys/\xs[i]? =some x/\ys[i]? =some y,
  fun i H v H'=> ∃(T:Addr) (x y:V),v=.ref T/\H T=none/\H'=zr H T (.tup [x,y])/\(∀xs,SqL K H a xs->xs[i]? =some x)/\∀ys,SqL K H b ys->ys[i]? =some y,
  fun i H=> ∃xs ys,SqL K H a xs/\SqL K H b ys/\(xs.length<=i\/ys.length<=i)⟩
def S5 (z TI TO i1 i2 a b:Addr) (i:Nat) (h:Heap):Prop:=
 IsZip h z TI TO .none/\IsPair h TI (.ref i1) (.ref i2)/\(∃u v,IsPair h TO u v)/\h.IsListIter i1 a i/\h.IsListIter i2 b i
def S6 {P:Program} {w:World} {K:FG} {elts:List Expr} {x1} {tp:Pos} {z TI TO i1 i2 a b:Addr} (D:ZipApart z TI TO i1 i2 a b):
  Turn P w K (.Tuple elts x1 tp) (Itz K a b) [z,TI,TO,i1,i2] z (S5 z TI TO i1 i2 a b) where
 mem:=by simp
 obj:=fun i h st c hc=>by
  obtain⟨hz,hTI,⟨u,v,hTO⟩,⟨o1,e1,_,d1⟩,⟨o2,e2,_,d2⟩⟩:=st;simp only[Af,Bs,Bn]at hc
  rcases hc with rfl|rfl|rfl|rfl|rfl
  .exact⟨_,hz,fun v e=>by cases e⟩
  .exact⟨_,hTI,fun v e=>by cases e⟩
  .exact⟨_,hTO,fun v e=>by cases e⟩
  .exact⟨_,e1,fun v e=>by rw[d1]at e;cases e⟩
  .exact⟨_,e2,fun v e=>by rw[d2]at e;cases e⟩
 keep:=fun i h h' st k=>by
  obtain⟨hz,hTI,⟨u,v,hTO⟩,h1,h2⟩:=st;exact⟨k z (by simp) _ hz,k TI (by simp) _ hTI,⟨u,v,k TO (by simp) _ hTO⟩,h1.at fun o e=>k i1 (by simp) o e,h2.at fun o e=>k i2 (by simp) o e⟩
 item:=fun X hp hw hK hc i pins s σ H E I fp st go=>by
  subst hp hw hK;obtain⟨hz,hTI,⟨u,v,hTO⟩,h1,h2⟩:=st;obtain⟨xs,ys,x,y,qa,qb,ex,ey⟩:=go;obtain⟨vs,rv,pv,_⟩:=I.list qa;obtain⟨us,ru,pu,_⟩:=I.list qb;obtain⟨vx,evx,rvx⟩:=rv.get ex;obtain⟨uy,euy,ruy⟩:=ru.get ey
  refine wpAny_pyNext_zip_item D hz hTI hTO h1 h2 pv.isList pu.isList (x:=vx) (y:=uy) (by simpa using evx) (by simpa using euy) fun h' a1 a2 a3 a4 a5 a6 hk=>?_
  refine⟨_,rfl,wpAny_letOwnedTupleGo_zip a1 fun h'' b1 b2=>?_⟩
  have nz:s.heap.objs.size≠z:=Cw (Aj hz);have k2:∀c o,c∉[z,TO,i1,i2]->s.heap.get? c=some o->h''.get? c=some o:=fun c o hcn e=>by
   simp only[Af,Bs,Bn,not_or]at hcn;exact b2.extBut _ _ hcn.1 (hk c o hcn.1 hcn.2.1 hcn.2.2.1 hcn.2.2.2 e)
  have I':Inv X pins σ (zr H s.heap.objs.size (.tup [x,y])) {s with heap:=h'',toks:=s.toks}:=
   I.turnLay (ch:=[z,TO,i1,i2]) k2 (fun c hcn=>fp c (by simp only[Af,Bs,Bn]at hcn ⊢;rcases hcn with h|h|h|h<;>simp[h])) (Ah _)
    ⟨by show 2<=sizeLine;decide,[vx,uy],.cons rvx (.cons ruy .nil),⟨_,b2.extBut _ _ nz a5,rfl,_,rfl⟩⟩
  have nf:H s.heap.objs.size=none:=I.hok.fresh (Ah _)
  refine⟨.ref s.heap.objs.size,_,I',rfl,⟨_,x,y,rfl,nf,rfl,fun xs' q=>?_,fun ys' q=>?_⟩,⟨b1,b2.extBut _ _ D.TIz (hk _ _ D.TIz D.TITO D.TIi1 D.TIi2 hTI),⟨_,_,b2.extBut _ _ D.TOz a2⟩,a3.extBut b2.extBut D.i1z,a4.extBut b2.extBut D.i2z⟩,fun c hcn=>?_⟩
  .rw[I.list_inj q qa];exact ex
  .rw[I.list_inj q qb];exact ey
  .have hc1:=fp c hcn
   have:c≠s.heap.objs.size:=by
    have hlt:c<s.heap.objs.size:=by
     simp only[Af,Bs,Bn]at hcn
     rcases hcn with rfl|rfl|rfl|rfl|rfl
     .exact Aj hz
     .exact Aj hTI
     .exact Aj hTO
     .obtain⟨_,e,_⟩:=h1;exact Aj e
     .obtain⟨_,e,_⟩:=h2;exact Aj e
    exact Aw hlt
   rw[zX this];exact hc1.1
 done:=fun X hp hw hK hc i pins s σ H E I fp st stop=>by
  subst hp hw hK;obtain⟨hz,hTI,⟨u,v,hTO⟩,h1,h2⟩:=st;obtain⟨xs,ys,qa,qb,hend⟩:=stop;obtain⟨vs,rv,pv,_⟩:=I.list qa;obtain⟨us,ru,pu,_⟩:=I.list qb;have l1:=rv.length;have l2:=ru.length
  refine wpAny_pyNext_zip_end (I.ok.hd hc) D hz hTI hTO h1 h2 pv.isList pu.isList ?_ fun h' hk=>⟨rfl,?_⟩
  .rcases hend with h|h
   .exact .inl (by rw[Gq,Am];lia)
   .exact .inr (by rw[Gq,Am];lia)
  .refine I.turnedL (ch:=[z,TO,i1,i2]) (t':=s.toks) (fun c o hcn e=>?_) (fun c hcn=>fp c (by simp only[Af,Bs,Bn]at hcn ⊢;rcases hcn with h|h|h|h<;>simp[h]))
   simp only[Af,Bs,Bn,not_or]at hcn;exact hk c o hcn.1 hcn.2.1 hcn.2.2.1 hcn.2.2.2 e
 self:=fun A i s Q E st h=>wpAny_pyIter_zip st.1 h
def iZip (K:FG) (ta:TA):TI:=fun σ H R=>ta σ H fun vs H1=> ∃(a b:Addr) (xs ys:List V),vs=[.ref a,.ref b]/\SqL K H1 a xs/\SqL K H1 b ys/\R (Itz K a b) H1
def S7 {X:Cx} {elts:List Expr} {x1} {tp:Pos} {e1 e2:Expr} {ta:TA} {p pos:Pos} (hg:Gl X "zip") (hm:X.mg "zip" =none) (ha:PA X [e1,e2] ta) (hs:starEach [e1,e2] X.env=[(false,eval e1 X.env),(false,eval e2 X.env)]:=by rfl) (hs2:starEach [e2] X.env=[(false,eval e2 X.env)]:=by rfl):
  PI X (.Tuple elts x1 tp) (.Call (.Name "zip" p) [e1,e2] [] pos) (iZip X.K ta):=by
 intro pins s σ H R I h
 refine Call_ (BP I hg hm (by rfl) (Eu (thn (ha pos pins s σ H _ I h) fun us s1 ⟨vs,H1,I1,r1,q1⟩=>?_) (by rw[hs,hs2]) (by rw[hs2];rfl)))
 obtain⟨a,b,xs,ys,rfl,qa,qb,q⟩:=q1;obtain⟨u,v,rfl,ru,rv⟩:=Ha r1;cases ru;cases rv;obtain⟨vs,rva,pa,_⟩:=I1.list qa;obtain⟨us,rvb,pb,_⟩:=I1.list qb;have la:a<s1.heap.objs.size:=by obtain⟨o,n,e,_⟩:=pa;exact Aj e
 have lb:b<s1.heap.objs.size:=by obtain⟨o,n,e,_⟩:=pb;exact Aj e
 refine call_zip_2 pa.isList pb.isList fun h' hz hTI hTO hi1 hi2 hsz hk=>?_
 refine wpAny_pyIter_zip hz ?_
 have I2:Inv X pins σ H1 {s1 with heap:=h'}:=I1.kept (t':=s1.toks) hk
 refine⟨_,[s1.heap.objs.size+4,s1.heap.objs.size+2,s1.heap.objs.size+3,s1.heap.objs.size,s1.heap.objs.size+1],_,_,H1,rfl,I2,S6 (zipApart_new la lb),⟨hz,hTI,⟨_,_,hTO⟩,hi1,hi2⟩,fun c hc=>?_,q⟩
 have hge:s1.heap.objs.size<=c:=by
  simp only[Af,Bs,Bn]at hc
  rcases hc with rfl|rfl|rfl|rfl|rfl
  all_goals first|exact Ah _|exact Nat.le_add_right _ _
 exact I1.fpOk hge (I1.hok.fresh hge)
noncomputable def MJ (sc:Scope) (N loc free:List Str) (fr:List Nat) (scope:Scope):Bool:=
 decide (scope.kind=.function) && scope.names.all (fun y=>decide (y.2≠ .cell)) && scope.names.all (fun y=>decide (y.2≠ .local) || decide (scope.names.lookup y.1=some .local)) &&
 scope.names.all (fun y=>decide (y.2≠ .free) || (decide (sc.names.lookup y.1=some .cell) || decide (sc.names.lookup y.1=some .free))) && decide (fr.length=free.length) &&
 (List.range fr.length).all fun i=>match fr[i]?,free[i]? with
  |some j,some x=>decide (N[j]? =some x) && decide (scope.names.lookup x=some .free)
  |_,_=>true
def qo {X:Cx} {sc:Scope} {N loc free:List Str} {fr:List Nat} {scope:Scope} (e1:X.env.scope=sc) (e2:X.N=N) (h:MJ sc N loc free fr scope=true):CompScope X loc free fr scope:=by
 unfold MJ at h;simp only[Be,Fj,Bool.or_eq_true,Bz]at h;obtain⟨⟨⟨⟨⟨h1,h2⟩,h3⟩,h4⟩,h5⟩,h6⟩:=h
 refine⟨h1,fun y hy=>h2 y hy,fun y hy hl=>(h3 y hy).elim (fun z=>absurd hl z) id,fun y hy hf=>?_,fun i j x a b=>?_,h5⟩
 .show X.env.scope.names.lookup y.1=some .cell\/X.env.scope.names.lookup y.1=some .free
  rw[e1];exact (h4 y hy).elim (fun z=>absurd hf z) id
 .have hi:i<fr.length:=(Ao.mp a).1
  have:=h6 i (Bh.mpr hi);rw[a,b]at this;simp only[Be,Bz]at this;rw[e2];exact this
def pgc {X:Cx} {x:Str} {pos:Pos} (i:Nat) (N:List Str) (nd:N.Nodup) (eN:X.N=N) (hi:N[i]? =some x) (hx:jN X.env.scope x) (hl:X.env.scope.names.lookup x=some .local):PG X (.Name x pos) (EH i):=
 IE (eN ▸ nd) (by rw[eN];exact hi) hx (.inr hl)
structure Dfn (K:FG) (mg:Str->Option Value) (x:Str) (st:Stmt) (ps:List Str) (f:Addr) (fd:FuncData):Prop where
 F:Fun K x x st f fd
 b:Binds K fd ps []
 g:mg x=some (.ref f)
structure DfnM (K:FG) (x qual:Str) (st:Stmt) (ps:List Str) (f:Addr) (fd:FuncData):Prop where
 F:Fun K x qual st f fd
 b:Binds K fd ps []
section
variable {X:Cx} {K:FG}
def pgT {pos:Pos} {es:List Expr} {k:Nat} {t:jM} (n:Nat) (hK:X.K=K) (hc:X.calm=true) (h:jC X es t) (hn:(assignEach es X.env).length=n:=by rfl) (hst:(assignEach es X.env).findIdx? (·.1)=none:=by rfl):PG X (.Tuple es k pos) (gTup K n t):=by
 subst hK;exact qW hc h hn hst
end
end L2
namespace L2
open PySem PySem.Spec PyProof.Rows
section
variable {P:Program} {w:World} {h h':Heap}
def qz (P:Program) (w:World) (h:Heap):MK->Value->Prop
 |.one k,u=>(y0 P w).is k u=true
def S8:∀{x y:MK} {u:Value},qz P w h x u->qz P w h y u->x=y
 |.one a,.one b,_,p,q=>by rw[(y0 P w).inj _ _ _ p q]
def IZ {d:Addr} {o:Obj} {es ep} (ho:h.get? d=some o) (hd:o.data=.dict es ep) (hs:Heap.SameBut d h h'):∀{k:MK} {u:Value},qz P w h k u->qz P w h' k u
 |.one _,_,q=>q
end
section
variable {P:Program} {w:World} {A:Around} {E:VP} {s:Shared}
def ML {u:Value} {Q:Int->Shared->Prop} (hu:A.units<cLine):∀{k:MK},qz P w s.heap k u->(∀t,Q (k.hash P w) {s with toks:=t})->wpAny (model P w) A (pyHash u) Q E s
 |.one k,q,f=>(y0 P w).pyHash q (f _)
end
abbrev Tr:=List (MK×Value×Value)
noncomputable def yi (xs:Tr) (k:MK):Option Value:=(xs.find? fun x=>decide (x.1=k)).map (·.2.2)
def BQ (xs:Tr) (k:MK) (u v:Value):Tr:=if (yi xs k).isSome then xs.map fun x=>if x.1=k then (x.1,x.2.1,v) else x else xs++[(k,u,v)]
def DictM (P:Program) (w:World) (h:Heap) (d:Addr) (xs:Tr):Prop:=
 ∃o es ep,h.get? d=some o/\o.ExactDict/\o.data=.dict es ep/\es.toList=xs.map (yB P w)/\((xs.map (·.1)).Nodup/\ep=xs.length)/\∀x∈xs,qz P w h x.1 x.2.1
def S9 {xs:Tr} (hn:(xs.map (·.1)).Nodup) {i j:Nat} {k:MK} {p q:Value×Value} (hi:xs[i]? =some (k,p)) (hj:xs[j]? =some (k,q)):i=j:=by
 have a:(xs.map (·.1))[i]? =some k:=by rw[Ba,hi];rfl
 have b:(xs.map (·.1))[j]? =some k:=by rw[Ba,hj];rfl
 exact (List.getElem?_inj (Ao.mp a).1 hn).mp (a.trans b.symm)
def MM {xs:Tr} (hn:(xs.map (·.1)).Nodup) {i:Nat} {k:MK} {p:Value×Value} (hi:xs[i]? =some (k,p)):yi xs k=some p.2:=by
 unfold yi;cases e:xs.find? (fun x=>decide (x.1=k)) with
 |none=>have:=List.find?_eq_none.mp e _ (Al hi);simp at this
 |some y=>
  have hk:=List.find?_some e
  have hk:y.1=k:=by simpa using hk
  obtain⟨j,hj⟩:=Gr.mp (List.mem_of_find?_eq_some e)
  obtain⟨y1,y2⟩:=y;have hk:y1=k:=hk;subst hk;have:=S9 hn hi hj;subst this;rw[hi]at hj;cases hj;rfl
def MN {xs:Tr} {k:MK} (hi:∀(i:Nat) (p:Value×Value),xs[i]? ≠some (k,p)):yi xs k=none:=by
 unfold yi;cases e:xs.find? (fun x=>decide (x.1=k)) with
 |none=>rfl
 |some y=>
  have hk:=List.find?_some e
  have hk:y.1=k:=by simpa using hk
  obtain⟨j,hj⟩:=Gr.mp (List.mem_of_find?_eq_some e)
  obtain⟨y1,y2⟩:=y;have hk:y1=k:=hk;subst hk;exact absurd hj (hi j y2)
section
variable {P:Program} {w:World} {A:Around} {E:VP} {s:Shared} {d:Addr} {o:Obj} {es:Array DictEntry} {ep:Nat} {xs:Tr} {k:MK} {u:Value}
def Ja (he:es.toList=xs.map (yB P w)) (j:Nat):es[j]? =(xs[j]?).map (yB P w):=by rw[<-Bm,he,Ba]
def Jb (he:es.toList=xs.map (yB P w)):es.size=xs.length:=by rw[<-B2,he,Ae]
def MO {Q:Option Nat->Shared->Prop} (hu:A.units<cLine) (hk:qz P w s.heap k u) (ho:s.heap.get? d=some o) (hd:o.data=.dict es ep) (he:es.toList=xs.map (yB P w)) (hn:(xs.map (·.1)).Nodup) (hx:∀x∈xs,qz P w s.heap x.1 x.2.1)
  (h0:(∀(j:Nat) (p:Value×Value),xs[j]? ≠some (k,p))->Q none s) (h1:∀(j:Nat) (p:Value×Value),xs[j]? =some (k,p)->Q (some j) s):
  wpAny (model P w) A (dictFind d u (k.hash P w)) Q E s:=by
 have at_:∀i,i<es.size->∃k' u' v',xs[i]? =some (k',u',v')/\es[i]? =some ⟨k'.hash P w,u',v'⟩/\qz P w s.heap k' u':=fun i hi=>by
  have hi':i<xs.length:=by rw[<-Jb he];exact hi
  refine⟨xs[i].1,xs[i].2.1,xs[i].2.2,by rw[zK hi'],?_,hx _ (C4 hi')⟩
  rw[Ja he,zK hi'];rfl
 have flat:(∀x∈xs,∃k',x.1=.one k')/\∃k',k=.one k':=⟨fun zz78 _ => by obtain ⟨⟨k⟩,_⟩ := zz78; exact ⟨k,rfl⟩,by cases k;exact⟨_,rfl⟩⟩
 ·
  obtain⟨fl,k',rfl⟩:=flat;have hks:KeysOf (y0 P w) es:=fun e hin=>by
   obtain⟨i,hi,e1⟩:=Array.mem_iff_getElem.mp hin;obtain⟨k2,u2,v2,e2,e3,e4⟩:=at_ i hi;obtain⟨k3,e5⟩:=fl _ (Al e2);have e5:k2=.one k3:=e5;subst e5;rw[Bo hi,e1]at e3;cases e3;exact⟨k3,e4,rfl⟩
  refine wpAny_dictFind_of (knd:=y0 P w) (k:=k') hk ho hd hks ?_
  cases e:es.findIdx? (fun e=>(y0 P w).is k' e.key) with
  |none=>
   refine h0 fun j p hj=>?_
   have hj':j<es.size:=by rw[Jb he];exact (Ao.mp hj).1
   have:=Array.findIdx?_eq_none_iff.mp e (es[j]) (Array.getElem_mem hj')
   have e6:=Ja he j;rw[hj,Bo hj']at e6;rw[Option.some.inj e6]at this;have q:=hx _ (Al hj);have q:(y0 P w).is k' p.1=true:=q;have this:(y0 P w).is k' p.1=false:=by simpa[yB] using this
   rw[q]at this;cases this
  |some j=>
   obtain⟨hj,e7,_⟩:=Array.findIdx?_eq_some_iff_getElem.mp e
   obtain⟨k2,u2,v2,e2,e3,e4⟩:=at_ j hj;rw[Bo hj]at e3;rw[Option.some.inj e3]at e7;have e8:qz P w s.heap (.one k') u2:=e7;have:=S8 e4 e8;subst this;exact h1 j _ e2
def MP {Q:Option Value->Shared->Prop} (hu:A.units<cLine) (hk:qz P w s.heap k u) (hm:DictM P w s.heap d xs) (f:∀t,Q (yi xs k) {s with toks:=t}):wpAny (model P w) A (dictGet d u) Q E s:=by
 obtain⟨o,es,ep,ho,_,hd,he,⟨hn,_⟩,hx⟩:=hm;unfold dictGet
 refine Bx (Aa (ML hu hk fun t=>Aa (MO (s:={s with toks:=t}) hu hk ho hd he hn hx (fun hz=>?_) fun j p hj=>?_)))
 .have f:=f t
  rw[MN hz]at f;exact Ad f
 .have f:=f t
  rw[MM hn hj]at f
  refine Aa (Fp (s:={s with toks:=t}) ho hd ?_)
  rw[Ja he j,hj];exact Ad f
theorem MQ {k:MK} {v:Value}:∀{xs:Tr} {j:Nat} {p:Value×Value},(xs.map (·.1)).Nodup->xs[j]? =some (k,p)->(xs.map (yB P w)).modify j (fun e=>{e with val:=v})=(xs.map fun x=>if x.1=k then (x.1,x.2.1,v) else x).map (yB P w)
 | [],_,_,_,hj=>by simp at hj
 |x::r,0,p,hn,hj=>by
  simp only[Ed,B8]at hj;subst hj;have hn:(k∉r.map (·.1))/\(r.map (·.1)).Nodup:=by simpa using hn
  have e:(r.map fun x=>if x.1=k then (x.1,x.2.1,v) else x)=r:=by
   conv=>rhs;rw[<-List.map_id r]
   refine Dh fun y hy=>?_
   rw[Ab (fun z=>hn.1 (Ai.mpr ⟨y,hy,z⟩))]
   rfl
  simp[e,yB]
 |x::r,j+1,p,hn,hj=>by
  simp only[Dz]at hj;have hn:(x.1∉r.map (·.1))/\(r.map (·.1)).Nodup:=by rw[Ag,Bi]at hn;exact hn
  have ne: ¬x.1=k:=fun z=>hn.1 (Ai.mpr ⟨(k,p),Al hj,z.symm⟩)
  simp only[Ag,List.modify_succ_cons,Ab ne,MQ hn.2 hj]
def SA {v:Value} {Q:Unit->Shared->Prop} (hu:A.units<cLine) (hk:qz P w s.heap k u) (hm:DictM P w s.heap d xs) (hz:xs.length<=sizeLine)
  (f:∀h' t,DictM P w h' d (BQ xs k u v)->Heap.SameBut d s.heap h'->Q () {s with heap:=h',toks:=t}):wpAny (model P w) A (dictSet d u v) Q E s:=by
 obtain⟨o,es,ep,ho,hc,hd,he,⟨hn,hep⟩,hx⟩:=hm;unfold dictSet
 refine Bx (Aa (ML hu hk fun t=>?_))
 unfold dictSetHashed
 refine Bx (Aa (MO (s:={s with toks:=t}) hu hk ho hd he hn hx (fun hz'=>?_) fun j p hj=>?_))
 .have e0:BQ xs k u v=xs++[(k,u,v)]:=by unfold BQ;rw[MN hz'];rfl
  have f:=fun h'=>f h' t
  rw[e0]at f
  refine Aa (D0 (wpAny_updateDictKeys (hz:=by have:=Jb he;lia) (s:={s with toks:=t}) ho hd (f _ ⟨_,_,ep+1,Du _ ho (Obj.isFreed_of_dict (Obj.data_mapDictKeys hd _)),hc.mapDictKeys _,Obj.data_mapDictKeys hd _,?_,?_,?_⟩ (Di ..))))
  .simp[he,yB]
  .refine⟨?_,by rw[As,hep];rfl⟩
   rw[Au,C5]
   refine⟨hn,by simp,fun x hx y hy=>?_⟩
   have hy:y=k:=by simpa using hy
   subst hy;intro z;subst z;obtain⟨q,hq,e⟩:=Ai.mp hx;obtain⟨i,hi⟩:=Gr.mp hq;obtain⟨q1,q2⟩:=q;have e:q1=x:=e;subst e;exact hz' i q2 hi
  .intro x hx'
   rcases Ax.mp hx' with hx' | hx'
   .exact IZ ho hd (Di ..) (hx x hx')
   .rw[Ap.mp hx']
    exact IZ ho hd (Di ..) hk
 .have e0:BQ xs k u v=xs.map fun x=>if x.1=k then (x.1,x.2.1,v) else x:=by unfold BQ;rw[MM hn hj];rfl
  have f:=fun h'=>f h' t
  rw[e0]at f
  refine Aa (D0 (Aa (wpAny_updateDict (s:={s with toks:=t}) ho hd (wpAny_point (f _ ⟨_,_,ep,Du _ ho (Obj.isFreed_of_dict (Obj.data_mapDict hd _)),hc.mapDict _,Obj.data_mapDict hd _,?_,?_,?_⟩ (Di ..))))))
  .have q:=MQ (P:=P) (w:=w) (v:=v) hn hj
   rw[<-he]at q;obtain⟨l⟩:=es;simpa using q
  .have e1:(xs.map fun x=>if x.1=k then (x.1,x.2.1,v) else x).map (·.1)=xs.map (·.1):=by
    rw[Av]
    refine Dh fun y _=>?_
    simp only[Function.comp]
    split<;>rfl
   rw[e1];exact⟨hn,by rw[Ae];exact hep⟩
  .intro x hx'
   obtain⟨y,hy,rfl⟩:=Ai.mp hx'
   split<;>exact IZ ho hd (Di ..) (hx y hy)
def DictM.typeIs (hm:DictM P w s.heap d xs):s.TypeIs (.ref d) "dict" :=let ⟨o,_,_,ho,hc,_⟩:=hm;⟨o,ho,hc.1⟩
def SB {Q:Bool->Shared->Prop} (hu:A.units+1<cLine) (hk:qz P w s.heap k u) (lo:(d==sysModules)=false) (hm:DictM P w s.heap d xs) (f:∀t,Q (yi xs k).isSome {s with toks:=t}):
  wpAny (model P w) A (contains (.ref d) u) Q E s:=by
 have hT:=hm.typeIs;unfold contains
 refine Bx (Aa (wpAny_specialOf hT slot_dict_contains.lookup ?_))
 refine Fq (fun z=>absurd z (by rw[beq_builtin_none];exact Bb)) fun _=>?_
 refine Aa (wpAny_callSpecialUnlessNone?_slot (name:=Str.ofString "__contains__") hT slot_dict_contains (B5 slot_dict_contains hT entry_dict_contains ?_ (args_dict_contains _ _)))
 show wpAny _ _ (dictGet d u >>=_) _ _ s
 refine Aa (MP (A:=A.in1) hu hk hm fun t=>?_)
 have f:=f t;cases hf:yi xs k with
 |some v=>
  rw[hf]at f;show wpAny _ _ (ret (.bool true)) _ _ _;exact Ad ⟨_,rfl,Ce f⟩
 |none=>
  rw[hf]at f;show wpAny _ _ (Builtin.Dict.pendingKey? d u >>=_) _ _ _;exact Aa (wpAny_pendingKey_other lo (Ad ⟨_,rfl,Ce f⟩))
def SC {Q:VP} (hu:A.units+1<cLine) (hk:qz P w s.heap k u) (lo:(d==sysModules)=false) (hm:DictM P w s.heap d xs) (f:∀t,Q (.bool (!(yi xs k).isSome)) {s with toks:=t}):
  wpAny (model P w) A (compareOp .NotIn u (.ref d)) Q E s:=by
 show wpAny _ _ (do return .bool (!(<-contains (.ref d) u))) Q E s
 exact Aa (SB hu hk lo hm fun t=>Ad (f t))
def SF {v:Value} {Q:VP} (hu:A.units+1<cLine) (hk:qz P w s.heap k u) (hm:DictM P w s.heap d xs) (hv:yi xs k=some v) (f:∀t,Q v {s with toks:=t}):wpAny (model P w) A (getItem (.ref d) u) Q E s:=by
 have hT:=hm.typeIs;unfold getItem
 refine Bx (Aa (wpAny_sequenceKey hT (by decide) ?_))
 refine Aa (Dt (name:=Str.ofString "__getitem__") hT slot_dict_getitem (B5 slot_dict_getitem hT entry_dict_getitem ?_ (args_dict_getitem _ _)))
 show wpAny _ _ (dictGet d u >>=_) _ _ s
 refine Aa (MP (A:=A.in1) hu hk hm fun t=>?_)
 rw[hv];exact Ad ⟨v,rfl,Ad (f t)⟩
def SH {v:Value} {Q:Unit->Shared->Prop} (hu:A.units+1<cLine) (hk:qz P w s.heap k u) (hm:DictM P w s.heap d xs) (hz:xs.length<=sizeLine)
  (f:∀h' t,DictM P w h' d (BQ xs k u v)->Heap.SameBut d s.heap h'->Q () {s with heap:=h',toks:=t}):wpAny (model P w) A (setItem (.ref d) u v) Q E s:=by
 have hT:=hm.typeIs;unfold setItem
 refine Bx (Aa (wpAny_sequenceKey hT (by decide) ?_))
 refine Aa (Dt (name:=Str.ofString "__setitem__") hT slot_dict_setitem (B5 slot_dict_setitem hT entry_dict_setitem ?_ (args_dict_setitem _ _ _)))
 show wpAny _ _ (Builtin.Dict.notOrdered "__setitem__" ⟨[.ref d,u,v],[]⟩ >>=_) _ _ s
 refine Aa (wpAny_notOrdered_dict hT ?_)
 show wpAny _ _ (dictSet d u v >>=_) _ _ s;exact Aa (SA (A:=A.in1) hu hk hm hz fun h' t a b=>Ad ⟨.none,rfl,Ad (f h' t a b)⟩)
end
section
variable {κ:Type} [DecidableEq κ]
noncomputable def yn (kvs:List (κ×V)) (k:κ):Option V:=(kvs.find? fun kv=>decide (kv.1=k)).map (·.2)
noncomputable def yu (kvs:List (κ×V)) (k:κ) (v:V):List (κ×V):=
 if (kvs.any fun kv=>decide (kv.1=k))=true then kvs.map (fun kv=>if kv.1=k then (kv.1,v) else kv) else kvs++[(k,v)]
def Jc {p:κ×V} {r:List (κ×V)} {k:κ} (e:p.1=k):yn (p::r) k=some p.2:=by simp[yn,Dj,e]
def Jd {p:κ×V} {r:List (κ×V)} {k:κ} (e: ¬p.1=k):yn (p::r) k=yn r k:=by simp[yn,Dj,e]
theorem MR (k:κ):∀kvs:List (κ×V),(kvs.any fun kv=>decide (kv.1=k))=(yn kvs k).isSome
 | []=>rfl
 |p::r=>by
  rw[List.any_cons]
  by_cases e:p.1=k
  .simp only[Jc e,Ci e,Ee,Option.isSome_some]
  .rw[Jd e,Bq e,Bool.false_or];exact MR k r
def MS (kvs:List (κ×V)) (k:κ) (v:V):(yu kvs k v).length<=kvs.length+1:=by
 unfold yu
 split
 .rw[Ae];lia
 .rw[As,Az,Ef];lia
def RelO.isSome_eq {o:Option V} {u:Option Value} (r:RelO o u):o.isSome=u.isSome:=by
 cases o with
 |none=>cases u with
  |none=>rfl
  |some _=>exact (show False from r).elim
 |some _=>cases u with
  |none=>exact (show False from r).elim
  |some _=>rfl
def KV.val {kvs:List (κ×V)} {vs:List (κ×Value)} (r:KV kvs vs) (k:κ):RelO (yn kvs k) (valueAt vs k):=by
 unfold KV at r
 induction r with
 |nil=>exact True.intro
 | @cons p q ps qs h t ih=>
  obtain⟨h1,h2⟩:=h
  by_cases e:p.1=k
  .have e':q.1=k:=h1.symm.trans e
   have b:valueAt (q::qs) k=some q.2:=by simp[valueAt,Dj,e']
   rw[Jc e,b];exact h2
  .have e': ¬q.1=k:=fun z=>e (h1.trans z)
   have b:valueAt (q::qs) k=valueAt qs k:=by simp[valueAt,Dj,e']
   rw[Jd e,b];exact ih
theorem KV.any {kvs:List (κ×V)} {vs:List (κ×Value)} (r:KV kvs vs) (k:κ):(kvs.any fun kv=>decide (kv.1=k))=vs.any fun kv=>decide (kv.1=k):=by
 unfold KV at r
 induction r with
 |nil=>rfl
 |cons h t ih=>rw[List.any_cons,List.any_cons,ih,h.1]
def KV.repl {kvs:List (κ×V)} {vs:List (κ×Value)} (r:KV kvs vs) (k:κ) {y:V} {u:Value} (ry:RelV y u):
  KV (kvs.map fun kv=>if kv.1=k then (kv.1,y) else kv) (vs.map fun kv=>if kv.1=k then (kv.1,u) else kv):=by
 unfold KV at r ⊢
 induction r with
 |nil=>exact .nil
 | @cons p q ps qs h t ih=>
  rw[Ag,Ag]
  refine .cons ?_ ih
  obtain⟨h1,h2⟩:=h
  by_cases e:p.1=k
  .rw[Ac e,Ac (h1.symm.trans e)];exact⟨h1,ry⟩
  .rw[Ab e,Ab (fun z=>e (h1.trans z))];exact⟨h1,h2⟩
def KV.put {kvs:List (κ×V)} {vs:List (κ×Value)} (r:KV kvs vs) (k:κ) {y:V} {u:Value} (ry:RelV y u):KV (yu kvs k y) (stored vs k u):=by
 unfold yu stored;rw[r.any k]
 by_cases e:(vs.any fun kv=>decide (kv.1=k))=true
 .rw[Ac e,Ac e];exact r.repl k ry
 .rw[Ab e,Ab e];exact Paired.snoc r ⟨rfl,ry⟩
theorem KV.length {kvs:List (κ×V)} {vs:List (κ×Value)} (r:KV kvs vs):kvs.length=vs.length:=Paired.length r
end
def Hk {P:Program} {w:World} {k:z8} {u:Value} (r:RelV (kV k) u):(y0 P w).is k u=true:=by
 cases k with
 |inl i=>obtain⟨t,e⟩:=(show ∃t,u=Value.int i t from r);subst e;exact Qi P w i t
 |inr x=>obtain⟨t,e⟩:=(show ∃t,u=Value.str x t from r);subst e;exact Qj P w x t
abbrev KT (H:Hp):List (MK×V)->Tr->Prop:=Paired fun p q=>p.1=q.1/\KyV H p.1 q.2.1/\RelV p.2 q.2.2
def KT.val {H:Hp} {l:List (MK×V)} {m:Tr} (r:KT H l m) (k:MK):RelO (yn l k) (yi m k):=by
 induction r with
 |nil=>exact True.intro
 | @cons p q ps qs z _ ih=>
  obtain⟨z1,_,z2⟩:=z
  by_cases e:p.1=k
  .rw[Jc e,show yi (q::qs) k=some q.2.2 by simp[yi,Dj,<-z1,e]];exact z2
  .rw[Jd e,show yi (q::qs) k=yi qs k by simp[yi,Dj,<-z1,e]];exact ih
def KT.put {H:Hp} {l:List (MK×V)} {m:Tr} (r:KT H l m) {k:MK} {u v:Value} {y:V} (hk:KyV H k u) (ry:RelV y v):KT H (yu l k y) (BQ m k u v):=by
 have e:(l.any fun kv=>decide (kv.1=k))=(yi m k).isSome:=by rw[MR,(r.val k).isSome_eq]
 unfold yu BQ;rw[e]
 by_cases c:(yi m k).isSome=true
 .rw[Ac c,Ac c]
  clear e c
  induction r with
  |nil=>exact .nil
  | @cons p q ps qs z _ ih=>
   refine .cons ?_ ih
   obtain⟨z1,z2,z3⟩:=z;dsimp only
   by_cases g:p.1=k
   .rw[Ac g,Ac (z1.symm.trans g)];exact⟨z1,z2,ry⟩
   .rw[Ab g,Ab fun x=>g (z1.trans x)];exact⟨z1,z2,z3⟩
 .rw[Ab c,Ab c];exact Paired.snoc r ⟨rfl,hk,ry⟩
def KT.keeps {H H':Hp} {l:List (MK×V)} {m:Tr} (r:KT H l m) (ht:∀b ys,H b=some (.tup ys)->H' b=some (.tup ys)):KT H' l m:=Paired.mapP r fun _ _ z=>⟨z.1,z.2.1.mono ht,z.2.2⟩
section
variable {P:Program} {w:World} {H:Hp} {h:Heap} {a:Addr}
def MT {u:HO} (ok:HOk P w H h) (e:Rd H a u):ObjOk P w H h a u:=e.ok ok
def Hl {kvs:List (z8×V)} (ok:HOk P w H h) (e:Rd H a (.dK kvs)):kvs.length<=sizeLine/\(a==sysModules)=false/\∃vs,KV kvs vs/\h.DictOf (y0 P w) a vs:=
 show ObjOk P w H h a (.dK kvs) from MT ok e
def SJ {kvs:List (z8×V)} (ok:HOk P w H h) (e:H a=some (.dK kvs)):kvs.length<=sizeLine/\(a==sysModules)=false/\∃vs,KV kvs vs/\h.DictOf (y0 P w) a vs:=Hl ok (.inl e)
def Hn (ok:HOk P w H h):∀{k:MK} {u:Value},KyV H k u->qz P w h k u
 |.one _,_,r=>Hk r
def Ho {kvs:List (MK×V)} (ok:HOk P w H h) (e:Rd H a (.dT kvs)):kvs.length<=sizeLine/\(a==sysModules)=false/\∃xs,KT H kvs xs/\DictM P w h a xs:=by
 obtain⟨z,y,xs,r,o,es,ep,g1,g2,g3,g4,g5,g6⟩:=(show ObjOk P w H h a (.dT kvs) from MT ok e)
 refine⟨z,y,xs,r,o,es,ep,g1,g2,g3,g4,⟨g5,g6⟩,?_⟩
 have all:∀{l:List (MK×V)} {m:Tr},KT H l m->∀x∈m,qz P w h x.1 x.2.1:=fun {l m} q=>by
  induction q with
  |nil=>intro x hx;exact nomatch hx
  |cons hq _ ih=>
   intro x hx
   rcases Af.mp hx with e|hx
   .rw[e,<-hq.1];exact Hn ok hq.2.1
   .exact ih x hx
 exact all r
def DD {kvs:List (MK×V)} (ok:HOk P w H h) (e:H a=some (.dT kvs)):kvs.length<=sizeLine/\(a==sysModules)=false/\∃xs,KT H kvs xs/\DictM P w h a xs:=Ho ok (.inl e)
end
def KyT (H:Hp):MK->V->Prop
 |.one k,y=>y=kV k
def KyT.val {H:Hp}:∀{k:MK} {y:V} {u:Value},KyT H k y->RelV y u->KyV H k u
 |.one k,y,u,e,r=>by have e:y=kV k:=e;subst e;exact r
def DGet (H:Hp) (a:Addr) (y:V) (r:Option V):Prop:=(∃kvs k,Rd H a (.dK kvs)/\y=kV k/\r=yn kvs k)\/∃kvs k,Rd H a (.dT kvs)/\KyT H k y/\r=yn kvs k
def DPut (H:Hp) (a:Addr) (y v:V) (H':Hp):Prop:=(∃kvs k,H a=some (.dK kvs)/\y=kV k/\kvs.length<sizeLine/\H'=zr H a (.dK (yu kvs k v)))\/
 ∃kvs k,H a=some (.dT kvs)/\KyT H k y/\kvs.length<sizeLine/\H'=zr H a (.dT (yu kvs k v))
theorem DGet.k {H:Hp} {a:Addr} {kvs:List (z8×V)} {k:z8} (e:H a=some (.dK kvs)):DGet H a (kV k) (yn kvs k):= .inl ⟨kvs,k,.inl e,rfl,rfl⟩
def DGet.t {H:Hp} {a:Addr} {y:V} {l:List (MK×V)} {k:MK} (e:H a=some (.dT l)) (hk:KyT H k y):DGet H a y (yn l k):= .inr ⟨l,k,.inl e,hk,rfl⟩
theorem DPut.k {H:Hp} {a:Addr} {kvs:List (z8×V)} {k:z8} {v:V} (e:H a=some (.dK kvs)) (hl:kvs.length<sizeLine):DPut H a (kV k) v (zr H a (.dK (yu kvs k v))):= .inl ⟨kvs,k,e,rfl,hl,rfl⟩
def DPut.t {H:Hp} {a:Addr} {y v:V} {l:List (MK×V)} {k:MK} (e:H a=some (.dT l)) (hk:KyT H k y) (hl:l.length<sizeLine):DPut H a y v (zr H a (.dT (yu l k v))):= .inr ⟨l,k,e,hk,hl,rfl⟩
section
variable {X:Cx} {pins:AL} {σ:St} {H:Hp} {s:Shared} {a:Addr} {y v:V} {u r:Value} {o:Option V} {A:Around} {E:VP}
def Inv.big (I:Inv X pins σ H s):sysModules<s.heap.objs.size:=by
 have h:mainGlobals<s.heap.objs.size:=(I.mod.glob.keeps I.bk).lt;exact Nat.lt_trans (by decide) h
def SK {Q:VP} (hu:A.units+1<cLine) (I:Inv X pins σ H s) (g:DGet H a y (some v)) (ry:RelV y u) (h:∀w' s',Inv X pins σ H s'->RelV v w'->Q w' s'):
  wpAny (model X.prog X.w) A (getItem (.ref a) u) Q E s:=by
 rcases g with ⟨kvs,k,e,ey,l⟩|⟨kvs,k,e,ek,l⟩
 .subst ey
  obtain⟨z,hd,vs,rel,dd⟩:=Hl I.hok e;obtain⟨w',hw,rw'⟩:=RelO.some_of (v:=v) (o:=valueAt vs k) (by rw[l];exact rel.val k)
  exact wpAny_getItem_of (Hk ry) dd.mapOf hw (h w' _ (I.tok _) rw')
 .obtain⟨z,hd,xs,rel,dd⟩:=Ho I.hok e
  obtain⟨x,hx,rx⟩:=RelO.some_of (v:=v) (o:=yi xs k) (by rw[l];exact rel.val k)
  exact SF hu (Hn I.hok (ek.val ry)) dd hx fun t=>h x _ (I.tok _) rx
def SL {Q:VP} (hu:A.units+1<cLine) (I:Inv X pins σ H s) (g:DGet H a y o) (ry:RelV y u) (h:∀s',Inv X pins σ H s'->Q (.bool (!o.isSome)) s'):
  wpAny (model X.prog X.w) A (compareOp .NotIn u (.ref a)) Q E s:=by
 rcases g with ⟨kvs,k,e,ey,l⟩|⟨kvs,k,e,ek,l⟩
 .subst ey
  obtain⟨z,hd,vs,rel,dd⟩:=Hl I.hok e
  refine wpAny_notIn_of (Hk ry) hd dd.mapOf ?_
  rw[<-(rel.val k).isSome_eq,<-l];exact h _ (I.tok _)
 .obtain⟨z,hd,xs,rel,dd⟩:=Ho I.hok e
  refine SC hu (Hn I.hok (ek.val ry)) hd dd fun t=>?_
  rw[<-(rel.val k).isSome_eq,<-l];exact h _ (I.tok _)
def MU {h':Heap} {t':Nat} {ob:HO} (I:Inv X pins σ H s) (mu:Mut (H a)) (hs:Heap.SameBut a s.heap h') (he:∃q,h'.get? a=some q) (new:ObjOk X.prog X.w (zr H a ob) h' a ob):
  Inv X pins σ (zr H a ob) {s with heap:=h',toks:=t'}:=
 I.write (x:=a) (e:=a) mu (.inl rfl) (fun b q hb z=>(hs.2 b hb).trans z) he new
def SM {P:Program} {w:World} {H':Hp} {h':Heap} {kvs:List (z8×V)} {vs:List (z8×Value)} (z:kvs.length<=sizeLine) (hd:(a==sysModules)=false) (rel:KV kvs vs) (dd:h'.DictOf (y0 P w) a vs):
 ObjOk P w H' h' a (.dK kvs):=⟨z,hd,vs,rel,dd⟩
def SN {H':Hp} {Q:Unit->Shared->Prop} (hu:A.units+1<cLine) (I:Inv X pins σ H s) (g:DPut H a y v H') (ry:RelV y u) (rv:RelV v r) (h:∀s',Inv X pins σ H' s'->Q () s'):
  wpAny (model X.prog X.w) A (setItem (.ref a) u r) Q E s:=by
 rcases g with ⟨kvs,k,e,ey,l,eH⟩|⟨kvs,k,e,ek,l,eH⟩
 .subst ey eH
  obtain⟨z,hd,vs,rel,dd⟩:=SJ I.hok e;have hz:vs.length<=sizeLine:=by rw[<-rel.length];exact z
  have hl:(yu kvs k v).length<=sizeLine:=by have:=MS kvs k v;lia
  refine wpAny_setItem_pairs (hsz:=hz) (Hk ry) dd fun h' dd' hs=>h _ ?_
  have he:∃q,h'.get? a=some q:=let ⟨q,_,_,hq,_⟩:=dd';⟨q,hq⟩;exact MU I (by rw[e];exact True.intro) hs he (SM hl hd (rel.put k rv) dd')
 .subst eH
  obtain⟨z,hd,xs,rel,dd⟩:=DD I.hok e;have hl:(yu kvs k v).length<=sizeLine:=by have:=MS kvs k v;lia
  refine SH hu (Hn I.hok (ek.val ry)) dd (by rw[<-Paired.length rel];exact z) fun h' t dd' hs=>h _ ?_
  obtain⟨q,es,ep,q1,q2,q3,q4,q5,_⟩:=dd'
  refine MU I (by rw[e];exact True.intro) hs ⟨q,q1⟩ ⟨hl,hd,_,(rel.put (ek.val ry) rv).keeps fun c ys ec=>?_,q,es,ep,q1,q2,q3,q4,q5⟩
  rw[zX (Qk ec e (fun z=>nomatch z))];exact ec
end
def NoSl (i:Expr):Prop:=∀ov iv,subscripted i false ov iv=operate [ov,iv] (getItem ov iv)
def SO {prog:Program} {w:World} {A:Around} {E:VP} {s:Shared} {env:Env} {value slice:Expr} {pos:Pos} {T id:String} {Q:VP}
  (hl:typeLookup (.type T) "__getitem__" =pure (some (.builtin id))) (hs:NoSl slice)
  (h:wpAny (model prog w) A (eval value env) (fun o s₁=>wpAny (model prog w) A (eval slice env) (fun i s₂=>s₂.TypeIs o T/\wpAny (model prog w) A (getItem o i) Q E s₂) E s₁) E s):
  wpAny (model prog w) A (eval (.Subscript value slice pos) env) Q E s:=by
 refine Subscript_ (Cd h (fun o s₁ h₁=>Cd h₁ (fun i s₂ h₂=>?_) fun _ _ x=>x) fun _ _ x=>x)
 obtain⟨hT,h₂⟩:=h₂;unfold subscriptTail
 refine Aa ?_
 rw[getitemInPython_of_ne hT.not_modules]
 refine Aa (wpAny_specialOf hT hl ?_)
 have fin:wpAny (model prog w) A (subscripted slice false o i) (fun r s₃=>wpAny (model prog w) A (letTemporaryGo value o r >>=fun _=>pure r) Q E s₃) E s₂:=by
  rw[hs o i];exact wpAny_operating (Cd h₂ (fun r s₃ h₃=>Aa (wpAny_letTemporaryGo (Ad h₃))) fun _ _ x=>x)
 first
  |exact Ad (Aa fin)
  |exact Aa (Ad (Aa fin))
  |exact Aa fin
def SQ {X:Cx} {pins:AL} {σ:St} {H:Hp} {s:Shared} {a:Addr} {y:V} {o:Option V} (I:Inv X pins σ H s) (g:DGet H a y o):s.TypeIs (.ref a) "dict" :=by
 rcases g with ⟨kvs,k,e,_,_⟩|⟨kvs,k,e,_,_⟩
 .obtain⟨_,_,vs,_,dd⟩:=Hl I.hok e
  exact dd.typeIs
 .obtain⟨_,_,xs,_,dd⟩:=Ho I.hok e;exact dd.typeIs
def SR (td ty:TE):TE:=fun σ H Q=>td σ H fun x H1=>ty σ H1 fun y H2=> ∃a v,x=.ref a/\DGet H2 a y (some v)/\Q v H2
def MV (td ty tv:TE):TS:=fun D σ H=>tv σ H fun v H1=>td σ H1 fun x H2=>ty σ H2 fun y H3=> ∃a H4,x=.ref a/\DPut H3 a y v H4/\D.nx σ H4
section
variable {X:Cx} {o i e value:Expr} {pos pos' tpos:Pos} {td ty tv:TE}
def SS (hu:X.A.units+1<cLine) (ho:PE X o td) (hi:PE X i ty) (hs:NoSl i):PE X (.Subscript o i pos) (SR td ty):=by
 intro pins s σ H Q I h
 refine SO PySem.F.slot_dict_getitem.lookup hs (thn (ho pins s σ H _ I h) fun u s1 ⟨x,H1,I1,rx,q1⟩=>thn (hi pins s1 σ H1 _ I1 q1) fun iv s2 ⟨y,H2,I2,ry,a,v,ex,g,q2⟩=>?_)
 subst ex;obtain rfl:u=Value.ref a:=rx;exact⟨SQ I2 g,SK hu I2 g ry fun w' s3 I3 rw'=>⟨v,H2,I3,rw',q2⟩⟩
def SU (hu:X.A.units+1<cLine) (ho:PE X o td) (hi:PE X i ty) (hv:PE X value tv) (hs:swapsWith value (some (.Subscript o i pos')) pos.line X.env=pure false):
  PS X (.Assign [.Subscript o i pos'] value pos) (MV td ty tv):=by
 intro pins s σ H D I h
 refine wpAny_Assign_Subscript (thn (hv pins s σ H _ I h) fun r s1 ⟨v,H1,I1,rv,q1⟩=>thn (ho pins s1 σ H1 _ I1 q1) fun u s2 ⟨x,H2,I2,rx,q2⟩=>thn (hi pins s2 σ H2 _ I2 q2) fun iv s3 ⟨y,H3,I3,ry,a,H4,ex,g,q3⟩=>?_) hs
 subst ex;obtain rfl:u=Value.ref a:=rx;exact SN hu I3 g ry rv fun s4 I4=>⟨σ,H4,I4,q3⟩
end
def SV {P:Program} {w:World} {H:Hp} (h:Heap) (hb:sysModules<h.objs.size):ObjOk P w H (h.push {cls:= .type "dict",data:= .dict #[]}) h.objs.size (.dT []):=
 ⟨B3 _,D5.mpr (Cc (Aw hb)),[],.nil,_,#[],0,Bf _ rfl,⟨rfl,rfl,rfl⟩,rfl,rfl,D1,rfl⟩
def SW:TE:=fun _ H Q=> ∀p,H p=none->Q (.ref p) (zr H p (.dT []))
section
variable {X:Cx} {pos:Pos}
def SX:PE X (.Dict [] [] pos) SW:=fun pins s σ H Q I h=>
 wpAny_Dict_empty ⟨.ref s.heap.objs.size,_,I.laid (a:=s.heap.objs.size) (o:= .dT []) (t':=s.toks) (fun _ _ q=>Ay _ q) (Ah _) (SV s.heap I.big),rfl,h _ (I.hok.fresh (Ah _))⟩
end
structure M2 (X:Cx) (o:Expr) (m:Str) (apos:Pos) (e f:Expr) (cpos:Pos):Prop where
 base:attributeBase o m X.env (eval o X.env)=eval o X.env
 few:((backTo cpos (starEach [e,f] X.env)).all (fun x=> !x.1) && (backToKw cpos (keywordEach [] X.env)).all (fun x=>x.1.isSome)
  && decide (([e,f]:List Expr).length+([]:List Keyword).length+(if ([]:List Keyword).isEmpty then 0 else 1)<30))=true
 line:(apos.endLine==cpos.line)=true
 trees:backTo cpos (starEach [e,f] X.env)=[(false,eval e X.env),(false,eval f X.env)]
def Its (z:Str):It:=⟨fun i _=>i<z.length,fun i H x H'=>H'=H/\∃c,z.cps[i]? =some c/\x=.str ⟨#[c]⟩,fun i _=>z.length<=i⟩
def SY {P:Program} {w:World} {K:FG} {tg:Expr} (it:Addr) (z:Str) (t:Tok):Turn P w K tg (Its z) [it] it (fun i h=>h.IsStrIter it "str_ascii_iterator" z t i) where
 mem:=by simp
 obj:=fun i h st b hb=>by
  have e:b=it:=by simpa using hb
  subst e;obtain⟨o,e,c,d⟩:=st;exact⟨o,e,fun v y=>by rw[d]at y;cases y⟩
 keep:=fun i h h' st k=>by
  obtain⟨o,e,r⟩:=st;exact⟨o,k it (by simp) o e,r⟩
 item:=by
  intro X hP hw hK hc i pins s σ H E I hf st hg;subst hP hw hK;have hi:i<z.cps.size:=hg;obtain⟨f0,f1,f2,f3,f4,f5⟩:=hf it (by simp)
  refine wpAny_pyNext_ascii_item st (c:=z.cps[i]) (by simp[hi]) fun h' st' sb=>?_
  have I1:Inv X pins σ H {s with heap:=h',toks:=s.toks+1}:=I.turned (fun b o hb e=>(sb.2 b hb).trans e) f0 f1 f3 f4 f5
  obtain⟨o,e,c,d⟩:=id st';exact⟨_,rfl,EJ (s:={s with heap:=h',toks:=s.toks+1}) e c d (by decide) ⟨.str ⟨#[z.cps[i]]⟩,H,I1,⟨_,rfl⟩,⟨rfl,_,by simp[hi],rfl⟩,st',fun b hb=>(hf b hb).1⟩⟩
 done:=by
  intro X hP hw hK hc i pins s σ H E I hf st hg;subst hP hw hK;have hi:z.cps.size<=i:=hg;obtain⟨f0,f1,f2,f3,f4,f5⟩:=hf it (by simp)
  exact wpAny_pyNext_ascii_end (I.ok.hd hc) st (by simp[hi]) fun h' eb=>⟨rfl,I.turned (t':=s.toks) (fun b o hb e=>eb b o hb e) f0 f1 f3 f4 f5⟩
 self:=fun _ _ _ _ _ st h=>wpAny_pyIter_striter_ascii st h
def SZ {P:Program} {w:World} {K:FG} {tg:Expr} (it:Addr) (z:Str) (t:Tok):Turn P w K tg (Its z) [it] it (fun i h=>h.IsStrIter it "str_iterator" z t i) where
 mem:=by simp
 obj:=fun i h st b hb=>by
  have e:b=it:=by simpa using hb
  subst e;obtain⟨o,e,c,d⟩:=st;exact⟨o,e,fun v y=>by rw[d]at y;cases y⟩
 keep:=fun i h h' st k=>by
  obtain⟨o,e,r⟩:=st;exact⟨o,k it (by simp) o e,r⟩
 item:=by
  intro X hP hw hK hc i pins s σ H E I hf st hg;subst hP hw hK;have hi:i<z.cps.size:=hg;obtain⟨f0,f1,f2,f3,f4,f5⟩:=hf it (by simp)
  refine wpAny_pyNext_wide_item st (c:=z.cps[i]) (by simp[hi]) fun h' st' sb=>?_
  have I1:Inv X pins σ H {s with heap:=h',toks:=s.toks+1}:=I.turned (fun b o hb e=>(sb.2 b hb).trans e) f0 f1 f3 f4 f5
  obtain⟨o,e,c,d⟩:=id st';exact⟨_,rfl,EJ (s:={s with heap:=h',toks:=s.toks+1}) e c d (by decide) ⟨.str ⟨#[z.cps[i]]⟩,H,I1,⟨_,rfl⟩,⟨rfl,_,by simp[hi],rfl⟩,st',fun b hb=>(hf b hb).1⟩⟩
 done:=by
  intro X hP hw hK hc i pins s σ H E I hf st hg;subst hP hw hK;have hi:z.cps.size<=i:=hg;obtain⟨f0,f1,f2,f3,f4,f5⟩:=hf it (by simp)
  exact wpAny_pyNext_wide_end (I.ok.hd hc) st (by simp[hi]) fun h' eb=>⟨rfl,I.turned (t':=s.toks) (fun b o hb e=>eb b o hb e) f0 f1 f3 f4 f5⟩
 self:=fun _ _ _ _ _ st h=>wpAny_pyIter_striter_wide st h
section
variable {X:Cx} {tg:Expr}
def iStr (tl:TE):TI:=fun σ H R=>tl σ H fun x H1=> ∃z,x=.str z/\R (Its z) H1
def Ta {l:Expr} {tl:TE} (hl:PE X l tl):PI X tg l (iStr tl):=by
 intro pins s σ H R I h
 refine thn (hl pins s σ H _ I h) fun v s1 zz84 => ?_
 obtain ⟨x,H1,I1,r1,q1⟩ := zz84
 obtain⟨z,e,q⟩:=q1;subst e;obtain⟨t,rfl⟩:=r1;have fp:∀b∈[s1.heap.objs.size],yN X pins H1 b:=fun b hb=>by
  have e:b=s1.heap.objs.size:=by simpa using hb
  subst e;exact I1.fpOk (Ah _) (I1.hok.fresh (Ah _))
 cases ha:z.cps.all (· < 128)
 .exact wpAny_pyIter_wide ha ⟨s1.heap.objs.size,[s1.heap.objs.size],_,_,H1,rfl,I1.kept (t':=s1.toks) fun b o e=>Ay _ e,SZ _ z t,⟨_,Bf _ rfl,rfl,rfl⟩,fp,q⟩
 .exact wpAny_pyIter_ascii ha ⟨s1.heap.objs.size,[s1.heap.objs.size],_,_,H1,rfl,I1.kept (t':=s1.toks) fun b o e=>Ay _ e,SY _ z t,⟨_,Bf _ rfl,rfl,rfl⟩,fp,q⟩
def rSlS:V->Option Int->Option Int->Hp->VK->Prop:=fun x lo hi H Q=> ∃z,x=.str z/\z.length<=sizeLine/\Q (.str (Txt.slice z lo hi)) H
def MW {v:Value} {o:Option Int} (h:IsPart v o):∃p:Option (Int×Tok),v=partValue p/\p.map (·.1)=o:=by
 cases h with
 |none=>exact⟨none,rfl,rfl⟩
 |int i t=>exact⟨some (i,t),rfl,rfl⟩
def Tb:SlR X rSlS:=by
 intro pins s σ H x v vl vu lo hi sl Q I rx hs pl pu h;obtain⟨z,rfl,hz,q⟩:=h;obtain⟨t,rfl⟩:=rx;obtain⟨p,rfl,rfl⟩:=MW pl;obtain⟨p',rfl,rfl⟩:=MW pu
 refine⟨"str",_,slot_str_getitem.lookup,typeIs_str _ _ _,?_⟩
 refine wpAny_getItem_str_slice (l:=p) (u:=p') (st:=none) hs rfl ?_
 exact post_val_or_str ⟨Bw (Txt.slice_le z _ _) hz,fun t' k=>⟨.str (Txt.slice z (p.map (·.1)) (p'.map (·.1))),H,I.tok k,⟨t',rfl⟩,q⟩⟩
end
def Tc (z:Str) (c:Nat):(!(Builtin.Str.occurrences z ⟨#[c]⟩ 0 z.length 1).isEmpty)=decide (c∈z.cps.toList):=StrLaws.found_one z c
end L2
namespace L2
open PySem PySem.Spec PySem.W PyProof.Rows
def Ite (K:FG) (a:Addr):It:=
 ⟨fun i H=> ∃(xs:List V) (x:V),SqL K H a xs/\xs[i]? =some x,
  fun i H v H'=> ∃(T:Addr) (x:V),v=.ref T/\H T=none/\H'=zr H T (.tup [.int i,x])/\∀xs,SqL K H a xs->xs[i]? =some x,
  fun i H=> ∃xs,SqL K H a xs/\xs.length<=i⟩
def EnSt (z i1 a:Addr) (i:Nat) (h:Heap):Prop:=(∃old,IsEnum h z i1 (i:Int) old)/\h.IsListIter i1 a i
def Td {P:Program} {w:World} {K:FG} {elts:List Expr} {x1} {tp:Pos} {z i1 a:Addr} (hne:z≠i1):Turn P w K (.Tuple elts x1 tp) (Ite K a) [z,i1] z (EnSt z i1 a) where
 mem:=by simp
 obj:=fun i h st c hc=>by
  obtain⟨⟨old,hz⟩,⟨o1,e1,_,d1⟩⟩:=st;simp only[Af,Bs,Bn]at hc
  rcases hc with rfl|rfl
  .exact⟨_,hz,fun v e=>by cases e⟩
  .exact⟨_,e1,fun v e=>by rw[d1]at e;cases e⟩
 keep:=fun i h h' st k=>by
  obtain⟨⟨old,hz⟩,h1⟩:=st;exact⟨⟨old,k z (by simp) _ hz⟩,h1.at fun o e=>k i1 (by simp) o e⟩
 item:=fun X hp hw hK hc i pins s σ H E I fp st go=>by
  subst hp hw hK;obtain⟨⟨old,hz⟩,h1⟩:=st;obtain⟨xs,x,qa,ex⟩:=go;obtain⟨vs,rv,pv,_⟩:=I.list qa;obtain⟨vx,evx,rvx⟩:=rv.get ex
  refine wpAny_pyNext_enum_item hz h1 pv.isList (x:=vx) (by simpa using evx) hne fun h' a1 a2 a3 a4 hk=>?_
  refine⟨_,rfl,wpAny_letOwnedTupleGo_enum a1 fun h'' b1 b2=>?_⟩
  have nz:s.heap.objs.size≠z:=Cw (Aj hz);have k2:∀c o,c∉[z,i1]->s.heap.get? c=some o->h''.get? c=some o:=fun c o hcn e=>by
   simp only[Af,Bs,Bn,not_or]at hcn;exact b2.extBut _ _ hcn.1 (hk c o hcn.1 hcn.2 e)
  have I':Inv X pins σ (zr H s.heap.objs.size (.tup [.int i,x])) {s with heap:=h'',toks:=s.toks+1}:=
   I.turnLay (ch:=[z,i1]) k2 (fun c hcn=>fp c hcn) (Ah _)
    ⟨by show 2<=sizeLine;decide,[.int i s.toks,vx],.cons ⟨_,rfl⟩ (.cons rvx .nil),⟨_,b2.extBut _ _ nz a3,rfl,_,rfl⟩⟩
  have nf:H s.heap.objs.size=none:=I.hok.fresh (Ah _)
  refine⟨.ref s.heap.objs.size,_,I',rfl,⟨_,x,rfl,nf,rfl,fun xs' q=>?_⟩,⟨⟨_,b1⟩,a2.extBut b2.extBut hne.symm⟩,fun c hcn=>?_⟩
  .rw[I.list_inj q qa];exact ex
  .have hc1:=fp c hcn
   have:c≠s.heap.objs.size:=by
    have hlt:c<s.heap.objs.size:=by
     simp only[Af,Bs,Bn]at hcn
     rcases hcn with rfl|rfl
     .exact Aj hz
     .obtain⟨_,e,_⟩:=h1;exact Aj e
    exact Aw hlt
   rw[zX this];exact hc1.1
 done:=fun X hp hw hK hc i pins s σ H E I fp st stop=>by
  subst hp hw hK;obtain⟨⟨old,hz⟩,h1⟩:=st;obtain⟨xs,qa,hend⟩:=stop;obtain⟨vs,rv,pv,_⟩:=I.list qa;have l1:=rv.length
  refine wpAny_pyNext_enum_end (I.ok.hd hc) hz h1 pv.isList (by rw[Gq,Am];lia) fun h' hk=>⟨rfl,?_⟩
  refine I.turnedL (ch:=[z,i1]) (t':=s.toks) (fun c o hcn e=>?_) (fun c hcn=>fp c hcn)
  simp only[Af,Bs,Bn,not_or]at hcn;exact hk c o hcn.2 e
 self:=fun A i s Q E st h=>by
  obtain⟨⟨old,hz⟩,_⟩:=st;exact wpAny_pyIter_enum hz h
def Te (K:FG) (ta:TA):TI:=fun σ H R=>ta σ H fun vs H1=> ∃(a:Addr) (xs:List V),vs=[.ref a]/\SqL K H1 a xs/\R (Ite K a) H1
def Tf {X:Cx} {elts:List Expr} {x1} {tp:Pos} {e1:Expr} {ta:TA} {p pos:Pos} (hg:Gl X "enumerate") (hm:X.mg "enumerate" =none) (ha:PA X [e1] ta) (hs:starEach [e1] X.env=[(false,eval e1 X.env)]:=by rfl):
  PI X (.Tuple elts x1 tp) (.Call (.Name "enumerate" p) [e1] [] pos) (Te X.K ta):=by
 intro pins s σ H R I h
 refine Call_ (BP I hg hm (by rfl) (Eu (thn (ha pos pins s σ H _ I h) fun us s1 ⟨vs,H1,I1,r1,q1⟩=>?_) hs rfl))
 obtain⟨a,xs,rfl,qa,q⟩:=q1;obtain⟨u,rfl,ru⟩:=AY r1;cases ru;obtain⟨vs,rva,pa,_⟩:=I1.list qa
 refine call_enumerate_list pa.isList fun h' hz hi1 hsz hk=>?_
 refine wpAny_pyIter_enum hz ?_
 have I2:Inv X pins σ H1 {s1 with heap:=h'}:=I1.kept (t':=s1.toks) hk
 refine⟨_,[s1.heap.objs.size+1,s1.heap.objs.size],_,_,H1,rfl,I2,Td (a:=a) (Cw (De _)),⟨⟨_,hz⟩,hi1⟩,fun c hc=>?_,q⟩
 have hge:s1.heap.objs.size<=c:=by
  simp only[Af,Bs,Bn]at hc
  rcases hc with rfl|rfl
  all_goals first|exact Ah _|exact Nat.le_add_right _ _
 exact I1.fpOk hge (I1.hok.fresh hge)
def MX {a b:List Int} (p:a.Perm b) (ha:a.Pairwise (fun x y=>x<=y)) (hb:b.Pairwise (fun x y=>x<=y)):a=b:=
 p.eq_of_pairwise (fun x y _ _ h1 h2=>by lia) ha hb
end L2
namespace L3
open PySem L2
inductive V3 where
 |non|bl (b:Bool)|int (i:Int)|str (x:Str)|ty (n:String)
 |tup (xs:List V3)|lst (xs:List V3)|scr (ns:List Int)
 |dK (kvs:List (z8×V3))|dT (kvs:List (MK×V3))
 |obj (c:Str) (fs:List (Str×V3))|cls (c:Str)|fn (n:Str) (env:List V3)
 |loc (n:Nat)
inductive C3 where
 |lst (xs:List V3)|dK (kvs:List (z8×V3))|dT (kvs:List (MK×V3))|ins (c:Str) (fs:List (Str×V3))|dead
inductive Vl where
 |v (x:V3)|m (c:C3)
structure X3 where
 c:Str
 nm:Option V3
abbrev S3:=List (Option Vl)
abbrev H3:=List C3
inductive Res (α:Type) where
 |ok (r:α) (h:H3)|ex (x:X3) (h:H3)|no
abbrev E3:=S3->H3->Res Vl
noncomputable def C3.fz:C3->Option V3
 |.lst xs=>some (.lst xs)
 |.dK kvs=>some (.dK kvs)
 |.dT kvs=>some (.dT kvs)
 |.ins c fs=>some (.obj c fs)
 |.dead=>none
def Vl.fz:Vl->Option V3
 |.v x=>some x
 |.m c=>c.fz
noncomputable def Res.bind {α β:Type} (r:Res α) (k:α->H3->Res β):Res β:=match r with
 |.ok r h=>k r h
 |.ex x h=>.ex x h
 |.no=>.no
structure Kx where
 K:FG
 cl:Str->Option Addr
def KnL (K:FG) (a:Addr) (ns:List Int):Prop:=
 ∃(o:Obj) (its:Array Value) (n:Nat),K.lookup a=some o/\o.cls=.type "list" /\o.dict=none/\o.data=.seq its n/\its.size<=sizeLine/\Vals (ns.map V.int) its.toList
mutual
inductive Rep (κ:Kx) (β:AO) (O:Addr->Prop) (H:Hp):V3->V->Prop
 |non:Rep κ β O H .non .non
 |bl (b:Bool):Rep κ β O H (.bl b) (.bl b)
 |int (i:Int):Rep κ β O H (.int i) (.int i)
 |str (x:Str):Rep κ β O H (.str x) (.str x)
 |ty (n:String):Rep κ β O H (.ty n) (.ty n)
 |tup {xs:List V3} {ys:List V} {a:Addr}:H a=some (.tup ys)->some a∉β->¬O a->Reps κ β O H xs ys->Rep κ β O H (.tup xs) (.ref a)
 |lst {xs:List V3} {ys:List V} {a:Addr}:H a=some (.lst ys)->some a∉β->¬O a->Reps κ β O H xs ys->Rep κ β O H (.lst xs) (.ref a)
 |scr {ns:List Int} {a:Addr} {o:Obj}:H a=some (.frz o (.lst (ns.map V.int)))->some a∉β->¬O a->Rep κ β O H (.scr ns) (.ref a)
 |scrK {ns:List Int} {a:Addr}:KnL κ.K a ns->Rep κ β O H (.scr ns) (.ref a)
 |dK {kvs:List (z8×V3)} {ws:List (z8×V)} {a:Addr}:H a=some (.dK ws)->some a∉β->¬O a->RepP κ β O H kvs ws->Rep κ β O H (.dK kvs) (.ref a)
 |dT {kvs:List (MK×V3)} {ws:List (MK×V)} {a:Addr}:H a=some (.dT ws)->some a∉β->¬O a->RepP κ β O H kvs ws->Rep κ β O H (.dT kvs) (.ref a)
 |obj {c:Str} {C:Addr} {fs:List (Str×V3)} {gs:List (Str×V)} {a dx:Addr}:κ.cl c=some C->H a=some (.ins C dx gs)->some a∉β->¬O a->RepP κ β O H fs gs->Rep κ β O H (.obj c fs) (.ref a)
 |cls {c:Str} {C:Addr}:κ.cl c=some C->Rep κ β O H (.cls c) (.ref C)
 |loc {n:Nat} {v:V}:n<β.length->(∀a,β[n]? =some (some a)->v=.ref a)->Rep κ β O H (.loc n) v
inductive Reps (κ:Kx) (β:AO) (O:Addr->Prop) (H:Hp):List V3->List V->Prop
 |nil:Reps κ β O H [] []
 |cons {x:V3} {y:V} {xs:List V3} {ys:List V}:Rep κ β O H x y->Reps κ β O H xs ys->Reps κ β O H (x::xs) (y::ys)
inductive RepP (κ:Kx) (β:AO) (O:Addr->Prop) (H:Hp):{α:Type}->List (α×V3)->List (α×V)->Prop
 |nil {α:Type}:RepP κ β O H (α:=α) [] []
 |cons {α:Type} {k:α} {x:V3} {y:V} {xs:List (α×V3)} {ys:List (α×V)}:Rep κ β O H x y->RepP κ β O H xs ys->RepP κ β O H ((k,x)::xs) ((k,y)::ys)
end
structure Ext (M:Addr->Prop) (β:AO) (H:Hp) (β':AO) (H':Hp):Prop where
 keep:∀a o,H a=some o->some a∉β->¬M a->H' a=some o/\some a∉β'
 len:β.length<=β'.length
 bet:∀i a,i<β.length->β'[i]? =some (some a)->β[i]? =some (some a)
 there:∀a o,H a=some o->∃o',H' a=some o'
 nwb:∀(i:Nat) a,β.length<=i->β'[i]? =some (some a)->H a=none
def nwb0 {β:AO} {H:Hp}:∀(i:Nat) a,β.length<=i->β[i]? =some (some a)->H a=none:=fun i a h e=>by
 have:=(Ao.mp e).1;lia
abbrev No:Addr->Prop:=fun _=>False
def Ext.refl {M:Addr->Prop} {β:AO} {H:Hp}:Ext M β H β H:=⟨fun _ _ h n _=>⟨h,n⟩,Ah _,fun _ _ _ h=>h,fun _ o h=>⟨o,h⟩,nwb0⟩
def MY {β β1 β2:AO} {H H1:Hp} (t:∀a o,H a=some o->∃o',H1 a=some o') (bet:∀i a,i<β1.length->β2[i]? =some (some a)->β1[i]? =some (some a)) (n1:∀(i:Nat) a,β.length<=i->β1[i]? =some (some a)->H a=none)
  (n2:∀(i:Nat) a,β1.length<=i->β2[i]? =some (some a)->H1 a=none):∀(i:Nat) a,β.length<=i->β2[i]? =some (some a)->H a=none:=fun i a hi h=>by
 by_cases h1:i<β1.length
 .exact n1 i a hi (bet i a h1 h)
 .cases w:H a with
  |none=>rfl
  |some o=>
   obtain⟨o',z⟩:=t a o w;rw[n2 i a (by lia) h]at z;cases z
def Ext.trans0 {β β1 β2:AO} {H H1 H2:Hp} (a:Ext No β H β1 H1) (b:Ext No β1 H1 β2 H2):Ext No β H β2 H2:=
 ⟨fun x o h n m=>let ⟨h1,n1⟩:=a.keep x o h n m;b.keep x o h1 n1 m,Bw a.len b.len,fun i x hi h=>a.bet i x hi (b.bet i x (Bk hi a.len) h),fun x o h=>let ⟨o1,h1⟩:=a.there x o h;b.there x o1 h1,MY a.there (fun i x hi h=>b.bet i x hi h) a.nwb b.nwb⟩
section
variable {κ:Kx} {β β':AO} {O O':Addr->Prop} {H H':Hp} {M:Addr->Prop}
mutual
theorem Rep.ext (e:Ext M β H β' H') (hM:∀a,M a->O a) (hO:∀a o,H a=some o->¬O a->¬O' a):∀{x:V3} {y:V},Rep κ β O H x y->Rep κ β' O' H' x y
 |_,_,.non=>.non
 |_,_,.bl b=>.bl b
 |_,_,.int i=>.int i
 |_,_,.str x=>.str x
 |_,_,.ty n=>.ty n
 |_,_,.tup h n o r=>let ⟨h1,n1⟩:=e.keep _ _ h n fun m=>o (hM _ m);.tup h1 n1 (hO _ _ h o) (Reps.ext e hM hO r)
 |_,_,.lst h n o r=>let ⟨h1,n1⟩:=e.keep _ _ h n fun m=>o (hM _ m);.lst h1 n1 (hO _ _ h o) (Reps.ext e hM hO r)
 |_,_,.scr h n o=>let ⟨h1,n1⟩:=e.keep _ _ h n fun m=>o (hM _ m);.scr h1 n1 (hO _ _ h o)
 |_,_,.scrK h=>.scrK h
 |_,_,.dK h n o r=>let ⟨h1,n1⟩:=e.keep _ _ h n fun m=>o (hM _ m);.dK h1 n1 (hO _ _ h o) (RepP.ext e hM hO r)
 |_,_,.dT h n o r=>let ⟨h1,n1⟩:=e.keep _ _ h n fun m=>o (hM _ m);.dT h1 n1 (hO _ _ h o) (RepP.ext e hM hO r)
 |_,_,.obj k h n o r=>let ⟨h1,n1⟩:=e.keep _ _ h n fun m=>o (hM _ m);.obj k h1 n1 (hO _ _ h o) (RepP.ext e hM hO r)
 |_,_,.cls k=>.cls k
 |_,_,.loc l h=>.loc (Bk l e.len) fun a q=>h a (e.bet _ _ l q)
theorem Reps.ext (e:Ext M β H β' H') (hM:∀a,M a->O a) (hO:∀a o,H a=some o->¬O a->¬O' a):∀{x:List V3} {y:List V},Reps κ β O H x y->Reps κ β' O' H' x y
 |_,_,.nil=>.nil
 |_,_,.cons a r=>.cons (Rep.ext e hM hO a) (Reps.ext e hM hO r)
theorem RepP.ext (e:Ext M β H β' H') (hM:∀a,M a->O a) (hO:∀a o,H a=some o->¬O a->¬O' a):∀{α:Type} {x:List (α×V3)} {y:List (α×V)},RepP κ β O H x y->RepP κ β' O' H' x y
 |_,_,_,.nil=>.nil
 |_,_,_,.cons a r=>.cons (Rep.ext e hM hO a) (RepP.ext e hM hO r)
end
end
section
variable {κ:Kx} {β β':AO} {O O':Addr->Prop} {H H':Hp} {M:Addr->Prop}
def Rep.sub (h:∀a,O' a->O a) {x:V3} {y:V} (r:Rep κ β O H x y):Rep κ β O' H x y:=r.ext (M:=No) Ext.refl (fun _ z=>z.elim) fun a _ _ n m=>n (h a m)
def Reps.sub (h:∀a,O' a->O a) {x:List V3} {y:List V} (r:Reps κ β O H x y):Reps κ β O' H x y:=r.ext (M:=No) Ext.refl (fun _ z=>z.elim) fun a _ _ n m=>n (h a m)
def RepP.sub (h:∀a,O' a->O a) {α:Type} {x:List (α×V3)} {y:List (α×V)} (r:RepP κ β O H x y):RepP κ β O' H x y:=r.ext (M:=No) Ext.refl (fun _ z=>z.elim) fun a _ _ n m=>n (h a m)
def Rep.ext0 (e:Ext No β H β' H') {x:V3} {y:V} (r:Rep κ β O H x y):Rep κ β' O H' x y:=r.ext e (fun _ z=>z.elim) fun _ _ _ n=>n
def Reps.ext0 (e:Ext No β H β' H') {x:List V3} {y:List V} (r:Reps κ β O H x y):Reps κ β' O H' x y:=r.ext e (fun _ z=>z.elim) fun _ _ _ n=>n
def RepP.ext0 (e:Ext No β H β' H') {α:Type} {x:List (α×V3)} {y:List (α×V)} (r:RepP κ β O H x y):RepP κ β' O H' x y:=r.ext e (fun _ z=>z.elim) fun _ _ _ n=>n
theorem Reps.length:∀{x:List V3} {y:List V},Reps κ β O H x y->x.length=y.length
 |_,_,.nil=>rfl
 |_,_,.cons _ r=>congrArg (· +1) r.length
theorem RepP.length {α:Type}:∀{x:List (α×V3)} {y:List (α×V)},RepP κ β O H x y->x.length=y.length
 |_,_,.nil=>rfl
 |_,_,.cons _ r=>congrArg (· +1) r.length
theorem Reps.get:∀{xs:List V3} {ys:List V} {i:Nat} {x:V3},Reps κ β O H xs ys->xs[i]? =some x->∃y,ys[i]? =some y/\Rep κ β O H x y
 |_,_,_,_,.nil,e=>by simp at e
 |_,_,0,_,.cons r _,e=>by simp at e;subst e;exact⟨_,rfl,r⟩
 |_,_,i+1,x,.cons _ t,e=>by
  obtain⟨u,h1,h2⟩:=Reps.get (i:=i) (x:=x) t (by simpa using e)
  exact⟨u,by simpa using h1,h2⟩
theorem Reps.get':∀{xs:List V3} {ys:List V} {i:Nat} {y:V},Reps κ β O H xs ys->ys[i]? =some y->∃x,xs[i]? =some x/\Rep κ β O H x y
 |_,_,_,_,.nil,e=>by simp at e
 |_,_,0,_,.cons r _,e=>by simp at e;subst e;exact⟨_,rfl,r⟩
 |_,_,i+1,x,.cons _ t,e=>by
  obtain⟨u,h1,h2⟩:=Reps.get' (i:=i) (y:=x) t (by simpa using e)
  exact⟨u,by simpa using h1,h2⟩
theorem Reps.append:∀{xs:List V3} {ys:List V} {xs':List V3} {ys':List V},Reps κ β O H xs ys->Reps κ β O H xs' ys'->Reps κ β O H (xs++xs') (ys++ys')
 |_,_,_,_,.nil,s=>s
 |_,_,_,_,.cons r t,s=>.cons r (Reps.append t s)
theorem Reps.set {x:V3} {u:V} (r:Rep κ β O H x u):∀{xs:List V3} {us:List V} (i:Nat),Reps κ β O H xs us->Reps κ β O H (xs.set i x) (us.set i u)
 |_,_,_,.nil=>.nil
 |_,_,0,.cons _ t=>.cons r t
 |_,_,i+1,.cons q t=>.cons q (Reps.set r i t)
theorem Reps.take:∀{xs:List V3} {us:List V} (n:Nat),Reps κ β O H xs us->Reps κ β O H (xs.take n) (us.take n)
 |_,_,0,_=>.nil
 |_,_,_+1,.nil=>.nil
 |_,_,n+1,.cons r t=>.cons r (Reps.take n t)
theorem Reps.drop:∀{xs:List V3} {us:List V} (n:Nat),Reps κ β O H xs us->Reps κ β O H (xs.drop n) (us.drop n)
 |_,_,0,r=>r
 |_,_,_+1,.nil=>.nil
 |_,_,n+1,.cons _ t=>Reps.drop n t
theorem Reps.eraseIdx:∀{xs:List V3} {us:List V} (i:Nat),Reps κ β O H xs us->Reps κ β O H (xs.eraseIdx i) (us.eraseIdx i)
 |_,_,_,.nil=>.nil
 |_,_,0,.cons _ t=>t
 |_,_,i+1,.cons q t=>.cons q (Reps.eraseIdx i t)
theorem Reps.dropLast {xs:List V3} {us:List V} (h:Reps κ β O H xs us):Reps κ β O H xs.dropLast us.dropLast:=by
 rw[List.dropLast_eq_take,List.dropLast_eq_take,h.length];exact h.take _
theorem Reps.rep {xs:List V3} {us:List V} (h:Reps κ β O H xs us):∀k:Nat,Reps κ β O H (List.replicate k xs).flatten (List.replicate k us).flatten
 |0=>.nil
 |k+1=>by
  rw[Dv,Dv,Dw,Dw];exact h.append (Reps.rep h k)
theorem RepP.lookup {α:Type} [BEq α] {f:α} {x:V3}:∀{xs:List (α×V3)} {ys:List (α×V)},RepP κ β O H xs ys->xs.lookup f=some x->∃y,ys.lookup f=some y/\Rep κ β O H x y
 |_,_,.nil,e=>by cases e
 |_,_,.cons (k:=k) r t,e=>by
  rw[Cj]at e ⊢;cases q:f==k with
  |true=>rw[q]at e;cases e;exact⟨_,rfl,r⟩
  |false=>rw[q]at e;exact RepP.lookup t e
theorem RepP.lookup_none {α:Type} [BEq α] {f:α}:∀{xs:List (α×V3)} {ys:List (α×V)},RepP κ β O H xs ys->xs.lookup f=none->ys.lookup f=none
 |_,_,.nil,_=>rfl
 |_,_,.cons (k:=k) r t,e=>by
  rw[Cj]at e ⊢;cases q:f==k with
  |true=>rw[q]at e;cases e
  |false=>rw[q]at e;exact RepP.lookup_none t e
end
def CellR (κ:Kx) (β:AO) (O:Addr->Prop) (H:Hp):C3->Addr->Prop
 |.lst xs,a=> ∃ys,H a=some (.lst ys)/\Reps κ β O H xs ys
 |.dK kvs,a=> ∃ws,H a=some (.dK ws)/\RepP κ β O H kvs ws
 |.dT kvs,a=> ∃ws,H a=some (.dT ws)/\RepP κ β O H kvs ws
 |.ins c fs,a=> ∃C dx gs,κ.cl c=some C/\H a=some (.ins C dx gs)/\RepP κ β O H fs gs
 |.dead,_=>False
structure RelH (κ:Kx) (O:Addr->Prop) (β:AO) (h:H3) (H:Hp):Prop where
 len:β.length=h.length
 inj:∀(i j:Nat) a,β[i]? =some (some a)->β[j]? =some (some a)->i=j
 off:∀a,O a->some a∉β
 trk:∀a,O a->∃o,H a=some o/\∀ys,o≠HO.tup ys
 btr:∀(i:Nat) a,β[i]? =some (some a)->∃o,H a=some o/\∀ys,o≠HO.tup ys
 cell:∀(i:Nat) c,h[i]? =some c->c=.dead\/∃a,β[i]? =some (some a)/\CellR κ β O H c a
structure Fr where
 Oi:Addr->Prop
 T:List Addr
 β:AO
 l:AO
 s:S3
 h:H3
def Fr.O (F:Fr):Addr->Prop:=fun a=>a∈F.T\/some a∈F.l\/F.Oi a
def SlotR (κ:Kx) (F:Fr) (H:Hp) (i:Nat):Vl->V->Prop
 |.v x,v=>Rep κ F.β F.O H x v
 |.m c,v=> ∃a,F.l[i]? =some (some a)/\v=.ref a/\CellR κ F.β F.O H c a
structure Rel (κ:Kx) (F:Fr) (σ:St) (H:Hp):Prop where
 heap:RelH κ F.O F.β F.h H
 slen:F.s.length=σ.length
 llen:F.l.length=F.s.length
 linj:∀(i j:Nat) a,F.l[i]? =some (some a)->F.l[j]? =some (some a)->i=j
 lt:∀a,some a∈F.l->a∉F.T
 lo:∀a,some a∈F.l->¬F.Oi a
 to:∀a∈F.T,¬F.Oi a
 tn:F.T.Nodup
 slot:∀(i:Nat) x,F.s[i]? =some (some x)->∃v,σ[i]? =some (some v)/\SlotR κ F H i x v
section
variable {κ:Kx} {β β':AO} {O O':Addr->Prop} {H H':Hp} {M:Addr->Prop} {c:C3} {a:Addr} {h:H3}
theorem CellR.sub (hs:∀a,O' a->O a) (r:CellR κ β O H c a):CellR κ β O' H c a:=by
 cases c with
 |lst xs=>obtain⟨_,q,r⟩:=r;exact⟨_,q,r.sub hs⟩
 |dK xs=>obtain⟨_,q,r⟩:=r;exact⟨_,q,r.sub hs⟩
 |dT xs=>obtain⟨_,q,r⟩:=r;exact⟨_,q,r.sub hs⟩
 |ins c fs=>obtain⟨_,_,_,k,q,r⟩:=r;exact⟨_,_,_,k,q,r.sub hs⟩
 |dead=>exact r
theorem CellR.ext (e:Ext M β H β' H') (hM:∀a,M a->O a) (hO:∀a o,H a=some o->¬O a->¬O' a) (hb:∀o,H a=some o->H' a=some o) (r:CellR κ β O H c a):CellR κ β' O' H' c a:=by
 cases c with
 |lst xs=>obtain⟨_,q,r⟩:=r;exact⟨_,hb _ q,r.ext e hM hO⟩
 |dK xs=>obtain⟨_,q,r⟩:=r;exact⟨_,hb _ q,r.ext e hM hO⟩
 |dT xs=>obtain⟨_,q,r⟩:=r;exact⟨_,hb _ q,r.ext e hM hO⟩
 |ins c fs=>obtain⟨_,_,_,k,q,r⟩:=r;exact⟨_,_,_,k,hb _ q,r.ext e hM hO⟩
 |dead=>exact r
theorem CellR.fz {x:V3} (hc:c.fz=some x) (hn:some a∉β) (ho: ¬O a) (r:CellR κ β O H c a):Rep κ β O H x (.ref a):=by
 cases c with
 |lst xs=>cases hc;obtain⟨_,q,r⟩:=r;exact .lst q hn ho r
 |dK xs=>cases hc;obtain⟨_,q,r⟩:=r;exact .dK q hn ho r
 |dT xs=>cases hc;obtain⟨_,q,r⟩:=r;exact .dT q hn ho r
 |ins c fs=>cases hc;obtain⟨_,_,_,k,q,r⟩:=r;exact .obj k q hn ho r
 |dead=>exact r.elim
theorem RelH.sub (hs:∀a,O' a->O a) (r:RelH κ O β h H):RelH κ O' β h H:=
 ⟨r.len,r.inj,fun a ha=>r.off a (hs a ha),fun a ha=>r.trk a (hs a ha),r.btr,fun i c hc=>(r.cell i c hc).imp id fun zz86 => by obtain ⟨a,ha,q⟩ := zz86; exact ⟨a,ha,q.sub hs⟩⟩
end
abbrev Fr.with (F:Fr) (p:Addr):Fr:={F with T:=p::F.T}
abbrev Fr.to (F:Fr) (β:AO) (h:H3):Fr:={F with β:=β,h:=h}
abbrev Nw (H:Hp):Addr->Prop:=fun p=>H p=none
def Post (κ:Kx) (N:Addr->Prop) (F:Fr) (σ:St) (H:Hp):Vl->V->Prop
 |.v x,v=>Rel κ F σ H/\Rep κ F.β F.O H x v
 |.m c,v=> ∃p,v=.ref p/\Rel κ (F.with p) σ H/\CellR κ F.β (F.with p).O H c p/\N p
def XOk (κ:Kx) (E:XK) (x:X3) (H:Hp):Prop:=∀C,κ.cl x.c=some C->E (.ref C) none H
abbrev Kd (α ω:Type):=Hp->Fr->St->Hp->α->ω->Prop
def BR {α ω:Type} (K:Kd α ω):Prop:=∀(M:Addr->Prop) β H β1 H1 F σ H' a w,Ext M β H β1 H1->K H1 F σ H' a w->K H F σ H' a w
def Out {α ω:Type} (κ:Kx) (E:XK) (K:Kd α ω) (F:Fr) (σ:St) (H:Hp) (Q:ω->Hp->Prop):Res α->Prop
 |.ok a h'=> ∀β' w H',Ext No F.β H β' H'->K H (F.to β' h') σ H' a w->Q w H'
 |.ex x h'=> ∀β' H',Ext No F.β H β' H'->RelH κ F.Oi β' h' H'->XOk κ E x H'
 |.no=>False
def tOf {α ω:Type} (κ:Kx) (E:XK) (K:Kd α ω) (d:S3->H3->Res α) (σ:St) (H:Hp) (Q:ω->Hp->Prop):Prop:=∃F,Rel κ F σ H/\Out κ E K F σ H Q (d F.s F.h)
def kE (κ:Kx):Kd Vl V:=fun H F σ H' r v=>Post κ (Nw H) F σ H' r v
abbrev zk (κ:Kx) (E:XK) (d:E3):TE:=tOf κ E (kE κ) d
section
variable {κ:Kx} {E:XK} {F:Fr} {σ:St} {H H':Hp} {Q:VK} {p:Addr}
def Fr.O_with {a:Addr} (h:F.O a):(F.with p).O a:=h.imp (fun z=>An _ z) id
theorem SlotR.sub {F F':Fr} {i:Nat} {x:Vl} {v:V} (hb:F'.β=F.β) (hl:F'.l=F.l) (hs:∀a,F'.O a->F.O a) (h:SlotR κ F H i x v):SlotR κ F' H i x v:=by
 cases x with
 |v x=>show Rep κ F'.β F'.O H x v;rw[hb];exact Rep.sub hs h
 |m c=>obtain⟨a,h1,h2,h3⟩:=h;refine⟨a,by rw[hl];exact h1,h2,?_⟩;rw[hb];exact h3.sub hs
def Rel.drop (h:Rel κ (F.with p) σ H):Rel κ F σ H where
 heap:=h.heap.sub fun a ha=>Fr.O_with ha
 slen:=h.slen
 llen:=h.llen
 linj:=h.linj
 lt:=fun a ha z=>h.lt a ha (An _ z)
 lo:=h.lo
 to:=fun a ha=>h.to a (An _ ha)
 tn:=(Bi.mp h.tn).2
 slot:=fun i x e=>let ⟨v,a,b⟩:=h.slot i x e;⟨v,a,SlotR.sub (F:=F.with p) (F':=F) rfl rfl (fun a ha=>Fr.O_with ha) b⟩
def Rel.apart (h:Rel κ (F.with p) σ H): ¬F.O p:=fun z=>by
 rcases z with z|z|z
 .exact (Bi.mp h.tn).1 z
 .exact h.lt p z Ak
 .exact h.to p Ak z
def Rel.offp (h:Rel κ (F.with p) σ H):some p∉F.β:=h.heap.off p (.inl Ak)
theorem Post.fz {N:Addr->Prop} {x:Vl} {y:V3} {v:V} (h:Post κ N F σ H x v) (e:x.fz=some y):Rel κ F σ H/\Rep κ F.β F.O H y v:=by
 cases x with
 |v x=>cases e;exact h
 |m c=>
  obtain⟨p,rfl,r,q,_⟩:=h;exact⟨r.drop,(q.sub (O':=F.O) fun a ha=>Fr.O_with ha).fz e r.offp r.apart⟩
def Post.imp {N N':Addr->Prop} {x:Vl} {v:V} (h:Post κ N F σ H x v) (k:∀p,N p->N' p):Post κ N' F σ H x v:=by
 cases x with
 |v x=>exact h
 |m c=>obtain⟨p,h1,h2,h3,h4⟩:=h;exact⟨p,h1,h2,h3,k p h4⟩
def Ext.nw {M:Addr->Prop} {β β':AO} {H0 H1:Hp} (e:Ext M β H0 β' H1):∀p,Nw H1 p->Nw H0 p:=fun p h=>by
 cases w:H0 p with
 |none=>exact w
 |some o=>obtain⟨o',z⟩:=e.there p o w;rw[h]at z;cases z
def Rel.slotExt {β':AO} {h':H3} (r:Rel κ F σ H) (e:Ext No F.β H β' H') {i:Nat} {x:Vl} {v:V} (q:SlotR κ F H i x v):SlotR κ (F.to β' h') H' i x v:=by
 cases x with
 |v x=>exact Rep.ext0 e q
 |m c=>
  obtain⟨a,h1,h2,h3⟩:=q;have ha:F.O a:= .inr (.inl (Al h1));exact⟨a,h1,h2,h3.ext e (fun _ z=>z.elim) (fun _ _ _ n=>n) fun o ho=>(e.keep a o ho (r.heap.off a ha) fun z=>z).1⟩
def Rel.next {β':AO} {h':H3} (r:Rel κ F σ H) (e:Ext No F.β H β' H') (rh:RelH κ F.O β' h' H'):Rel κ (F.to β' h') σ H' where
 heap:=rh
 slen:=r.slen
 llen:=r.llen
 linj:=r.linj
 lt:=r.lt
 lo:=r.lo
 to:=r.to
 tn:=r.tn
 slot:=fun i x hx=>let ⟨v,a,b⟩:=r.slot i x hx;⟨v,a,r.slotExt e b⟩
def Out.move {α ω:Type} {K:Kd α ω} {Q:ω->Hp->Prop} {r:Res α} {β':AO} {h':H3} (hK:BR K) (e:Ext No F.β H β' H') (o:Out κ E K F σ H Q r):Out κ E K (F.to β' h') σ H' Q r:=by
 cases r with
 |ok x h2=>exact fun β2 v H2 e2 p=>o β2 v H2 (e.trans0 e2) (hK _ _ _ _ _ _ _ _ _ _ e p)
 |ex x h2=>exact fun β2 H2 e2 p=>o β2 H2 (e.trans0 e2) p
 |no=>exact o
def z6:BR (kE κ):=fun M β H β1 H1 F σ H' a w e h=>Post.imp h e.nw
def tOf.mono {α ω:Type} {K:Kd α ω} {Q Q':ω->Hp->Prop} {d:S3->H3->Res α} (h:tOf κ E K d σ H Q) (k:∀v H,Q v H->Q' v H):tOf κ E K d σ H Q':=by
 obtain⟨F,rel,o⟩:=h
 refine⟨F,rel,?_⟩
 cases q:d F.s F.h with
 |ok r h1=>rw[q]at o;exact fun β v H' e p=>k _ _ (o β v H' e p)
 |ex x h1=>rw[q]at o;exact o
 |no=>rw[q]at o;exact o
def ym {α ω α' ω':Type} {K:Kd α ω} {K':Kd α' ω'} {Q:ω'->Hp->Prop} {a:S3->H3->Res α} {k:α->H3->Res α'} (hK:BR K') (rel:Rel κ F σ H) (h:Out κ E K' F σ H Q ((a F.s F.h).bind k)):
  tOf κ E K a σ H (fun w H1=> ∃β1 h1 x,Ext No F.β H β1 H1/\K H (F.to β1 h1) σ H1 x w/\Out κ E K' (F.to β1 h1) σ H1 Q (k x h1)):=by
 refine⟨F,rel,?_⟩
 cases q:a F.s F.h with
 |no=>rw[q]at h;exact h
 |ex x h1=>rw[q]at h;exact h
 |ok r h1=>rw[q]at h;exact fun β1 v H1 e p=>⟨β1,h1,r,e,p,Out.move hK e h⟩
def qd {β:AO} {o:HO} (hp:H p=none):Ext No β H β (zr H p o):=
 ⟨fun a u ha hn _=>⟨by rw[zX (qA ha hp)];exact ha,hn⟩,Ah _,fun _ _ _ h=>h,fun a u ha=>⟨u,by rw[zX (qA ha hp)];exact ha⟩,nwb0⟩
def RelH.trk' {O:Addr->Prop} {β:AO} {h:H3} (r:RelH κ O β h H) (a:Addr) (ha:O a):∃o,H a=some o:=let ⟨u,q,_⟩:=r.trk a ha;⟨u,q⟩
def RelH.btr' {O:Addr->Prop} {β:AO} {h:H3} (r:RelH κ O β h H) (i:Nat) (a:Addr) (e:β[i]? =some (some a)):∃o,H a=some o:=let ⟨u,q,_⟩:=r.btr i a e;⟨u,q⟩
def CellR.nt {β:AO} {O:Addr->Prop} {c:C3} {u:HO} {l:Addr} (h:CellR κ β O (zr H l u) c l):∀ys,u≠HO.tup ys:=by
 intro ys z;subst z;cases c with
 |lst xs=>obtain⟨_,e,_⟩:=h;rw[yR]at e;cases e
 |dK xs=>obtain⟨_,e,_⟩:=h;rw[yR]at e;cases e
 |dT xs=>obtain⟨_,e,_⟩:=h;rw[yR]at e;cases e
 |ins c fs=>obtain⟨_,_,_,_,e,_⟩:=h;rw[yR]at e;cases e
 |dead=>exact h
def RelH.off_new {O:Addr->Prop} {β:AO} {h:H3} (r:RelH κ O β h H) (hp:H p=none):some p∉β/\¬O p:=by
 refine⟨fun z=>?_,fun z=>?_⟩
 .obtain⟨i,hi⟩:=B9 z
  obtain⟨o,ho,_⟩:=r.btr i p hi;rw[hp]at ho;cases ho
 .obtain⟨o,ho,_⟩:=r.trk p z
  rw[hp]at ho;cases ho
def RelH.laid {O:Addr->Prop} {β:AO} {h:H3} {o:HO} (r:RelH κ O β h H) (hp:H p=none):RelH κ O β h (zr H p o):=by
 have k:∀a u,H a=some u->zr H p o a=some u:=fun a u ha=>by rw[zX (qA ha hp)];exact ha
 exact⟨r.len,r.inj,r.off,fun a ha=>let ⟨u,q,n⟩:=r.trk a ha;⟨u,k a u q,n⟩,fun i a e=>let ⟨u,q,n⟩:=r.btr i a e;⟨u,k a u q,n⟩,
  fun i c hc=>(r.cell i c hc).imp id fun zz87 => by obtain ⟨a,ha,q⟩ := zz87; exact ⟨a,ha,q.ext (qd hp) (fun _ z=>z.elim) (fun _ _ _ n=>n) fun u hu=>k a u hu⟩⟩
theorem Rel.laid {o:HO} (r:Rel κ F σ H) (hp:H p=none):Rel κ F σ (zr H p o):=r.next (qd hp) (r.heap.laid hp)
def O_ne {a:Addr} (h:(F.with p).O a) (hne:a≠p):F.O a:=by
 rcases h with h|h
 .rcases Af.mp h with h|h
  .exact absurd h hne
  .exact .inl h
 .exact .inr h
def Rel.new {o:HO} (r:Rel κ F σ H) (hp:H p=none) (ho:∀ys,o≠HO.tup ys:=by intro _ z;cases z):Rel κ (F.with p) σ (zr H p o)/\∀{x:V3} {y:V},Rep κ F.β F.O H x y->Rep κ F.β (F.with p).O (zr H p o) x y:=by
 obtain⟨n1,n2⟩:=r.heap.off_new hp;have e:Ext No F.β H F.β (zr H p o):=qd hp;have hM:∀a,No a->F.O a:=fun _ z=>z.elim
 have hO:∀a u,H a=some u->¬F.O a->¬(F.with p).O a:=fun a u ha n z=>n (O_ne z (qA ha hp))
 have k:∀a u,H a=some u->zr H p o a=some u:=fun a u ha=>by rw[zX (qA ha hp)];exact ha
 refine⟨⟨⟨r.heap.len,r.heap.inj,fun a ha=>?_,fun a ha=>?_,fun i a q=>let ⟨u,z,n⟩:=r.heap.btr i a q;⟨u,k a u z,n⟩,fun i c hc=>(r.heap.cell i c hc).imp id fun ⟨a,ha,q⟩=>⟨a,ha,q.ext e hM hO fun u hu=>k a u hu⟩⟩,
  r.slen,r.llen,r.linj,?_,r.lo,?_,Bi.mpr ⟨fun z=>n2 (.inl z),r.tn⟩,fun i x q=>?_⟩,fun h=>h.ext e hM hO⟩
 .by_cases z:a=p
  .subst z;exact n1
  .exact r.heap.off a (O_ne ha z)
 .by_cases z:a=p
  .subst z;exact⟨o,yR,ho⟩
  .obtain⟨u,q,n⟩:=r.heap.trk a (O_ne ha z);exact⟨u,k a u q,n⟩
 .intro a ha z
  rcases Af.mp z with z|z
  .subst z;exact n2 (.inr (.inl ha))
  .exact r.lt a ha z
 .intro a ha z
  rcases Af.mp ha with h|h
  .subst h;exact n2 (.inr (.inr z))
  .exact r.to a h z
 .obtain⟨v,h1,h2⟩:=r.slot i x q
  refine⟨v,h1,?_⟩
  cases x with
  |v x=>exact Rep.ext e hM hO h2
  |m c=>
   obtain⟨a,a1,a2,a3⟩:=h2;exact⟨a,a1,a2,a3.ext e hM hO fun u hu=>k a u hu⟩
def Out.val {x:V3} {v:V} (o:Out κ E (kE κ) F σ H Q (.ok (.v x) F.h)) (rel:Rel κ F σ H) (r:Rep κ F.β F.O H x v):Q v H:=o F.β v H Ext.refl ⟨rel,r⟩
inductive Rf where
 |x (v:V3)|s (i:Nat)
abbrev P3:=S3->H3->Res Rf
noncomputable def pV (i:Nat):P3:=fun s h=>match s[i]? with
 |some (some (.v x))=>.ok (.x x) h
 |some (some (.m _))=>.ok (.s i) h
 |_=>.no
def pE (e:E3):P3:=fun s h=>(e s h).bind fun r h1=>match r.fz with
 |some x=>.ok (.x x) h1
 |none=>.no
def RfR (κ:Kx) (F:Fr) (H:Hp):Rf->V->Prop
 |.x y,v=>Rep κ F.β F.O H y v
 |.s i,v=> ∃a c,F.l[i]? =some (some a)/\v=.ref a/\F.s[i]? =some (some (.m c))/\CellR κ F.β F.O H c a
def kP (κ:Kx):Kd Rf V:=fun _ F σ H' f v=>Rel κ F σ H'/\RfR κ F H' f v
abbrev zj (κ:Kx) (E:XK) (d:P3):TE:=tOf κ E (kP κ) d
def km_P:BR (kP κ):=fun _ _ _ _ _ _ _ _ _ _ _ h=>h
theorem RfR.ext {β':AO} {h':H3} {f:Rf} {v:V} (rel:Rel κ F σ H) (e:Ext No F.β H β' H') (r:RfR κ F H f v):RfR κ (F.to β' h') H' f v:=by
 cases f with
 |x y=>exact Rep.ext0 e r
 |s i=>
  obtain⟨a,c,h1,h2,h3,h4⟩:=r;have ha:F.O a:= .inr (.inl (Al h1));exact⟨a,c,h1,h2,h3,h4.ext e (fun _ z=>z.elim) (fun _ _ _ n=>n) fun o ho=>(e.keep a o ho (rel.heap.off a ha) fun z=>z).1⟩
noncomputable def rdl (s:S3) (h:H3):Rf->Option (List V3)
 |.x (.lst xs)=>some xs
 |.x (.scr ns)=>some (ns.map .int)
 |.x (.loc n)=>match h[n]? with
  |some (.lst xs)=>some xs
  |_=>none
 |.s i=>match s[i]? with
  |some (some (.m (.lst xs)))=>some xs
  |_=>none
 |_=>none
def jT {f:Rf} {v:V} {xs:List V3} (rel:Rel κ F σ H) (r:RfR κ F H f v) (e:rdl F.s F.h f=some xs):∃a ys,v=.ref a/\SqL κ.K H a ys/\Reps κ F.β F.O H xs ys:=by
 cases f with
 |s i=>
  obtain⟨a,c,h1,h2,h3,h4⟩:=r;simp only[rdl,h3]at e;cases c<;>simp at e
  subst e;obtain⟨ys,h5,h6⟩:=h4;exact⟨a,ys,h2,.of h5,h6⟩
 |x y=>
  cases y<;>simp[rdl]at e
  case lst zs=>
   subst e;cases r with
   |lst h1 h2 h3 h4=>exact⟨_,_,rfl,.of h1,h4⟩
  case scr ns=>
   subst e;have g:∀l:List Int,Reps κ F.β F.O H (l.map V3.int) (l.map V.int):=fun l=>by
    induction l with
    |nil=>exact .nil
    |cons x r ih=>exact .cons (.int x) ih
   cases r with
   |scr h1 h2 h3=>exact⟨_,_,rfl,.inl (.inr ⟨_,h1⟩),g ns⟩
   |scrK h=>exact⟨_,_,rfl,.inr h,g ns⟩
  case loc n=>
   cases r with
   |loc h1 h2=>
    cases q:F.h[n]? with
    |none=>rw[q]at e;cases e
    |some c=>
     rw[q]at e;cases c<;>simp at e
     subst e
     rcases rel.heap.cell n _ q with z|⟨a,ha,ys,h5,h6⟩
     .cases z
     .exact⟨a,ys,h2 a ha,.of h5,h6⟩
end
abbrev A3:=S3->H3->Res (List Rf)
def aNil:A3:=fun _ h=>.ok [] h
def aCons (p:P3) (a:A3):A3:=fun s h=>(p s h).bind fun f h1=>(a s h1).bind fun fs h2=>.ok (f::fs) h2
def kA (κ:Kx):Kd (List Rf) (List V):=fun _ F σ H' fs vs=>Rel κ F σ H'/\Paired (RfR κ F H') fs vs
abbrev zP (κ:Kx) (E:XK) (d:A3):TA:=tOf κ E (kA κ) d
noncomputable def vals3:List Rf->Option (List V3)
 | []=>some []
 |.x v::r=>(vals3 r).map (v:: ·)
 |.s _::_=>none
abbrev T3:=S3->H3->Res Bool
def kT (κ:Kx):Kd Bool Bool:=fun _ F σ H' b b'=>b'=b/\Rel κ F σ H'
abbrev zO (κ:Kx) (E:XK) (d:T3):TT:=tOf κ E (kT κ) d
section
variable {X:Cx} {κ:Kx} {E:XK} {F:Fr} {σ:St} {H H':Hp} {Q:VK} {p:Addr} {e a b:Expr} {pos:Pos} {i:Nat}
def km_A:BR (kA κ):=fun _ _ _ _ _ _ _ _ _ _ _ h=>h
def km_T:BR (kT κ):=fun _ _ _ _ _ _ _ _ _ _ _ h=>h
def yK {t t':TE} (h:PE X e t) (w:∀σ H Q,t' σ H Q->t σ H Q):PE X e t':=fun pins s σ H Q I q=>h pins s σ H Q I (w σ H Q q)
def PTw {t t':TT} (h:PT X e t) (w:∀σ H Q,t' σ H Q->t σ H Q):PT X e t':=fun pins s σ H Q I q=>h pins s σ H Q I (w σ H Q q)
def PWw {t t':TT} (h:PW X e t) (w:∀σ H Q,t' σ H Q->t σ H Q):PW X e t':=fun wh pins s σ H Q I q=>h wh pins s σ H Q I (w σ H Q q)
def PAw {es:List Expr} {t t':TA} (h:PA X es t) (w:∀σ H Q,t' σ H Q->t σ H Q):PA X es t':=fun pos pins s σ H Q I q=>h pos pins s σ H Q I (w σ H Q q)
noncomputable def eV (i:Nat):E3:=fun s h=>match s[i]? with
 |some (some (.v x))=>.ok (.v x) h
 |_=>.no
def eC (x:V3):E3:=fun _ h=>.ok (.v x) h
abbrev kJ (n:Int):P3:=pE (eC (.int n))
def r_v (hv:PE X e (tVar i)):PE X e (zk κ E (eV i)):=yK hv fun σ H Q zz89 => by
 obtain ⟨F,rel,o⟩ := zz89
 unfold eV at o;cases q:F.s[i]? with
 |none=>rw[q]at o;exact o.elim
 |some z=>
  rw[q]at o
  match z,q,o with
  |none,q,o=>exact o.elim
  |some (.m c),q,o=>exact o.elim
  |some (.v x),q,o=>
   obtain⟨v,h1,h2⟩:=rel.slot i _ q;exact⟨v,h1,o.val rel h2⟩
def rp_v (hv:PE X e (tVar i)):PE X e (zj κ E (pV i)):=yK hv fun σ H Q zz90 => by
 obtain ⟨F,rel,o⟩ := zz90
 unfold pV at o;cases q:F.s[i]? with
 |none=>rw[q]at o;exact o.elim
 |some z=>
  rw[q]at o
  match z,q,o with
  |none,q,o=>exact o.elim
  |some (.m c),q,o=>
   obtain⟨v,h1,a,h2,h3,h4⟩:=rel.slot i _ q;exact⟨v,h1,o F.β v H Ext.refl ⟨rel,a,c,h2,h3,q,h4⟩⟩
  |some (.v x),q,o=>
   obtain⟨v,h1,h2⟩:=rel.slot i _ q;exact⟨v,h1,o F.β v H Ext.refl ⟨rel,h2⟩⟩
def zb {d:E3} (h:PE X e (zk κ E d)):PE X e (zj κ E (pE d)):=yK h fun σ H Q zz91 => by
  obtain ⟨F,rel,o⟩ := zz91
  exact (ym (K:=kE κ) km_P rel o).mono fun v H1 zz92 => by
    obtain ⟨β1,h1,x,e1,p1,o1⟩ := zz92
    cases z:x.fz with
    |none=>simp only[z]at o1;exact o1.elim
    |some y=>
     simp only[z]at o1;obtain⟨r1,r2⟩:=Post.fz p1 z;exact o1 β1 v H1 Ext.refl ⟨r1,r2⟩
def yQ {x:V3} {v:V} (hc:PE X e (tC v)) (r:∀β O H,Rep κ β O H x v):PE X e (zk κ E (eC x)):=yK hc fun σ H Q zz93 => by obtain ⟨F,rel,o⟩ := zz93; exact o.val rel (r _ _ _)
def jS {i j pos}:PE X (.Constant (.int i) j pos) (zk κ E (eC (.int i))):=yQ Qq fun _ _ _=>.int i
def yz {b j pos}:PE X (.Constant (.bool b) j pos) (zk κ E (eC (.bl b))):=yQ Qr fun _ _ _=>.bl b
def BS {j pos}:PE X (.Constant .none j pos) (zk κ E (eC .non)):=yQ Qs fun _ _ _=>.non
def MZ {x j pos}:PE X (.Constant (.str x) j pos) (zk κ E (eC (.str x))):=yQ Qt fun _ _ _=>.str x
def zi:PA X [] (zP κ E aNil):=PAw Rz fun σ H Q zz94 => by obtain ⟨F,rel,o⟩ := zz94; exact o F.β [] H Ext.refl ⟨rel,.nil⟩
def zc {es:List Expr} {d:P3} {t:A3} (ha:PE X e (zj κ E d)) (hr:PA X es (zP κ E t)) (hs:SE X e es:=by rfl):PA X (e::es) (zP κ E (aCons d t)):=
 PAw (R0 ha hr hs) fun σ H Q zz95 => by
   obtain ⟨F,rel,o⟩ := zz95
   exact (ym (K:=kP κ) km_A rel o).mono fun v H1 zz96 => by
      obtain ⟨β1,h1,x,e1,⟨r1,rf1⟩,o1⟩ := zz96
      exact (ym (F:=F.to β1 h1) (K:=kA κ) km_A r1 o1).mono fun vs H2 zz97 => by obtain ⟨β2,h2,fs,e2,⟨r2,rf2⟩,o2⟩ := zz97; exact o2 β2 (v::vs) H2 Ext.refl ⟨r2,.cons (RfR.ext (F:=F.to β1 h1) (β':=β2) (h':=h2) r1 e2 rf1) rf2⟩
theorem CM:∀{fs:List Rf} {vs:List V} {xs:List V3},Paired (RfR κ F H) fs vs->vals3 fs=some xs->Reps κ F.β F.O H xs vs
 |_,_,_,.nil,e=>by cases e;exact .nil
 |f::fs,v::vs,xs,.cons q t,e=>by
  cases f with
  |s i=>cases e
  |x y=>
   unfold vals3 at e;cases z:vals3 fs with
   |none=>rw[z]at e;cases e
   |some l=>rw[z]at e;cases e;exact .cons q (CM t z)
abbrev F2:=S3->H3->Rf->Rf->Option Vl
def opt (h:H3):Option Vl->Res Vl
 |some z=>.ok z h
 |none=>.no
def eOp (f:F2) (a b:P3):E3:=fun s h=>(a s h).bind fun x h1=>(b s h1).bind fun y h2=>opt h2 (f s h2 x y)
def OpSim (κ:Kx) (r:R2) (f:F2):Prop:=∀(F:Fr) (σ:St) (H:Hp) (x y:Rf) (z:Vl) (v w:V) (Q:VK),Rel κ F σ H->RfR κ F H x v->RfR κ F H y w->f F.s F.h x y=some z->
 (∀u H',Ext No F.β H F.β H'->Post κ (Nw H) F σ H' z u->Q u H')->r v w H Q
theorem Out.opt {o:Option Vl} {h:H3} (h0:F.h=h) (q:Out κ E (kE κ) F σ H Q (opt h o)):∃z,o=some z/\∀u H',Ext No F.β H F.β H'->Post κ (Nw H) F σ H' z u->Q u H':=by
 cases o with
 |none=>exact q.elim
 |some z=>subst h0;exact⟨z,rfl,fun u H' e p=>q F.β u H' e p⟩
def ER {r:R2} {f:F2} {a b:P3} (hs:OpSim κ r f) (h:zk κ E (eOp f a b) σ H Q):tOp r (zj κ E a) (zj κ E b) σ H Q:=by
 obtain⟨F,rel,o⟩:=h
 refine (ym (K:=kP κ) z6 rel o).mono fun v H1 zz98 => ?_
 obtain ⟨β1,h1,f1,e1,⟨r1,rf1⟩,o1⟩ := zz98
 refine (ym (F:=F.to β1 h1) (K:=kP κ) z6 r1 o1).mono fun w H2 zz99 => ?_
 obtain ⟨β2,h2,f2,e2,⟨r2,rf2⟩,o2⟩ := zz99
 obtain⟨z,q,k⟩:=Out.opt (F:=F.to β2 h2) rfl o2;exact hs (F.to β2 h2) σ H2 f1 f2 z v w Q r2 (RfR.ext (F:=F.to β1 h1) (β':=β2) (h':=h2) r1 e2 rf1) rf2 q k
def zm {op:Operator} {r:R2} {f:F2} {da db:P3} (hs:OpSim κ r f) (ho:OpR X (binaryOp op) r) (ha:PE X a (zj κ E da)) (hb:PE X b (zj κ E db)):PE X (.BinOp a op b pos) (zk κ E (eOp f da db)):=yK (QQ ho ha hb) fun _ _ _ h=>ER hs h
def Hq {op:CmpOp} {r:R2} {f:F2} {da db:P3} (hs:OpSim κ r f) (ho:OpR X (compareOp op) r) (hm:behindInMarks op b=false) (ha:PE X a (zj κ E da)) (hb:PE X b (zj κ E db)):PE X (.Compare a [op] [b] pos) (zk κ E (eOp f da db)):=yK (QY ho ha hb hm) fun _ _ _ h=>ER hs h
def r_ix {r:R2} {f:F2} {da db:P3} (hs:OpSim κ r f) (ho:IxR X r) (hm:Hd b) (ha:PE X a (zj κ E da)) (hb:PE X b (zj κ E db)):PE X (.Subscript a b pos) (zk κ E (eOp f da db)):=yK (RO ho ha hb hm) fun _ _ _ h=>ER hs h
abbrev FB:=S3->H3->List Rf->Option Vl
def eB (f:FB) (a:A3):E3:=fun s h=>(a s h).bind fun fs h1=>opt h1 (f s h1 fs)
def ju (κ:Kx) (r:List V->Hp->VK->Prop) (f:FB):Prop:=∀(F:Fr) (σ:St) (H:Hp) (fs:List Rf) (z:Vl) (vs:List V) (Q:VK),Rel κ F σ H->Paired (RfR κ F H) fs vs->f F.s F.h fs=some z->
 (∀u H',Ext No F.β H F.β H'->Post κ (Nw H) F σ H' z u->Q u H')->r vs H Q
def te_b {r:List V->Hp->VK->Prop} {f:FB} {a:A3} (hs:ju κ r f) (h:zk κ E (eB f a) σ H Q):tCB r (zP κ E a) σ H Q:=by
 obtain⟨F,rel,o⟩:=h
 refine (ym (K:=kA κ) z6 rel o).mono fun vs H1 zz100 => ?_
 obtain ⟨β1,h1,fs,e1,⟨r1,rf1⟩,o1⟩ := zz100
 obtain⟨z,q,k⟩:=Out.opt (F:=F.to β1 h1) rfl o1;exact hs (F.to β1 h1) σ H1 fs z vs Q r1 rf1 q k
def Na {a:Addr} {u:HO} (hp:H p=none) (ha:H a=some u) (n: ¬F.O a): ¬(F.with p).O a:=fun z=>n (O_ne z (qA ha hp))
theorem Post.lst {xs:List V3} {ys:List V} (rel:Rel κ F σ H) (hp:H p=none) (r:Reps κ F.β F.O H xs ys):Post κ (Nw H) F σ (zr H p (.lst ys)) (.m (.lst xs)) (.ref p):=by
 obtain⟨r1,r2⟩:=rel.new (o:= .lst ys) hp;exact⟨p,rfl,r1,⟨ys,yR,r.ext (qd hp) (fun _ z=>z.elim) fun a u ha n=>Na hp ha n⟩,hp⟩
theorem Post.dT {xs:List (MK×V3)} {ys:List (MK×V)} (rel:Rel κ F σ H) (hp:H p=none) (r:RepP κ F.β F.O H xs ys):Post κ (Nw H) F σ (zr H p (.dT ys)) (.m (.dT xs)) (.ref p):=by
 obtain⟨r1,r2⟩:=rel.new (o:= .dT ys) hp;exact⟨p,rfl,r1,⟨ys,yR,r.ext (qd hp) (fun _ z=>z.elim) fun a u ha n=>Na hp ha n⟩,hp⟩
theorem Post.tup {xs:List V3} {ys:List V} {N:Addr->Prop} (rel:Rel κ F σ H) (hp:H p=none) (r:Reps κ F.β F.O H xs ys):Post κ N F σ (zr H p (.tup ys)) (.v (.tup xs)) (.ref p):=by
 obtain⟨n1,n2⟩:=rel.heap.off_new hp;exact⟨rel.laid hp,.tup yR n1 n2 (r.ext0 (qd hp))⟩
def eTup (a:A3):E3:=fun s h=>(a s h).bind fun fs h1=>match vals3 fs with
 |some xs=>if xs.length<=sizeLine then .ok (.v (.tup xs)) h1 else .no
 |none=>.no
def eLst (a:A3):E3:=fun s h=>(a s h).bind fun fs h1=>match vals3 fs with
 |some xs=>if xs.length<=sizeLine then .ok (.m (.lst xs)) h1 else .no
 |none=>.no
def jL {es:List Expr} {x1} {t:A3} (h:PA X es (zP κ E t)):PE X (.Tuple es x1 pos) (zk κ E (eTup t)):=yK (R1 h) fun σ H Q zz101 => by
  obtain ⟨F,rel,o⟩ := zz101
  exact (ym (K:=kA κ) z6 rel o).mono fun vs H1 zz102 => by
    obtain ⟨β1,h1,fs,e1,⟨r1,rf1⟩,o1⟩ := zz102
    cases q:vals3 fs with
    |none=>simp only[q]at o1;exact o1.elim
    |some xs=>
     simp only[q]at o1;have hr:=CM rf1 q
     by_cases hz:xs.length<=sizeLine
     .rw[Ac hz]at o1
      exact⟨by rw[<-hr.length];exact hz,fun p hp=>o1 β1 (.ref p) _ (qd hp) (Post.tup r1 hp hr)⟩
     .rw[Ab hz]at o1;exact o1.elim
def qH {es:List Expr} {t:A3} (h:PA X es (zP κ E t)):PE X (.List es pos) (zk κ E (eLst t)):=yK (R3 h) fun σ H Q zz103 => by
  obtain ⟨F,rel,o⟩ := zz103
  exact (ym (K:=kA κ) z6 rel o).mono fun vs H1 zz104 => by
    obtain ⟨β1,h1,fs,e1,⟨r1,rf1⟩,o1⟩ := zz104
    cases q:vals3 fs with
    |none=>simp only[q]at o1;exact o1.elim
    |some xs=>
     simp only[q]at o1;have hr:=CM rf1 q
     by_cases hz:xs.length<=sizeLine
     .rw[Ac hz]at o1
      exact⟨by rw[<-hr.length];exact hz,fun p hp=>o1 β1 (.ref p) _ (qd hp) (Post.lst r1 hp hr)⟩
     .rw[Ab hz]at o1;exact o1.elim
def tE (e:E3):T3:=fun s h=>(e s h).bind fun r h1=>match r with
 |.v (.bl b)=>.ok b h1
 |_=>.no
def ES {d:E3} {Q:Bool->Hp->Prop} (h:zO κ E (tE d) σ H Q):zk κ E d σ H (fun x H'=> ∃k,x=.bl k/\Q k H'):=by
 obtain⟨F,rel,o⟩:=h
 refine (ym (K:=kE κ) km_T rel o).mono fun v H1 zz105 => ?_
 obtain ⟨β1,h1,x,e1,p1,o1⟩ := zz105
 match x,p1,o1 with
 |.v (.bl b),p1,o1=>
  obtain⟨r1,r2⟩:=p1;cases r2;exact⟨b,rfl,o1 β1 b H1 Ext.refl ⟨rfl,r1⟩⟩
def yf {op:CmpOp} {r:R2} {f:F2} {da db:P3} (hs:OpSim κ r f) (ho:OpR X (compareOp op) r) (hm:behindInMarks op b=false) (ha:PE X a (zj κ E da)) (hb:PE X b (zj κ E db)):PT X (.Compare a [op] [b] pos) (zO κ E (tE (eOp f da db))):=PTw (QZ ho ha hb hm) fun _ _ _ h=>ER hs (ES h)
def qF {d:E3} (h:PE X e (zk κ E d)) (he:∀whole,isTrue e X.env whole=(do let v <-whole;standAt e.pos;holding [v] (truthy v)):=by intro _;rfl):PT X e (zO κ E (tE d)):=PTw (Qu h he) fun _ _ _ q=>ES q
def tAnd3 (a b:T3):T3:=fun s h=>(a s h).bind fun c h1=>if c=true then b s h1 else .ok false h1
def tOr3 (a b:T3):T3:=fun s h=>(a s h).bind fun c h1=>if c=true then .ok true h1 else b s h1
def tNot3 (a:T3):T3:=fun s h=>(a s h).bind fun c h1=>.ok (!c) h1
def ET {t:T3} (ha:PT X a (zO κ E t)):PW X (.BoolOp .And [a] pos) (zO κ E t):=Qv ha
def jy {t:T3} (ha:PT X a (zO κ E t)):PW X (.BoolOp .Or [a] pos) (zO κ E t):=Qw ha
def EU {t u:T3} {rest:List Expr} (ha:PT X a (zO κ E t)) (hb:PW X (.BoolOp .And (b::rest) pos) (zO κ E u)):PW X (.BoolOp .And (a::b::rest) pos) (zO κ E (tAnd3 t u)):=PWw (Qx ha hb) fun σ H Q zz106 => by
  obtain ⟨F,rel,o⟩ := zz106
  exact (ym (K:=kT κ) km_T rel o).mono fun c H1 zz107 => by
    obtain ⟨β1,h1,x,e1,⟨ec,r1⟩,o1⟩ := zz107
    subst ec;cases c with
    |true=>rw[Ac rfl]at o1 ⊢;exact⟨F.to β1 h1,r1,o1⟩
    |false=>rw[Ab Bb]at o1 ⊢;exact o1 β1 false H1 Ext.refl ⟨rfl,r1⟩
def qU {t u:T3} {rest:List Expr} (ha:PT X a (zO κ E t)) (hb:PW X (.BoolOp .Or (b::rest) pos) (zO κ E u)):PW X (.BoolOp .Or (a::b::rest) pos) (zO κ E (tOr3 t u)):=PWw (Qy ha hb) fun σ H Q zz108 => by
  obtain ⟨F,rel,o⟩ := zz108
  exact (ym (K:=kT κ) km_T rel o).mono fun c H1 zz109 => by
    obtain ⟨β1,h1,x,e1,⟨ec,r1⟩,o1⟩ := zz109
    subst ec;cases c with
    |true=>rw[Ac rfl]at o1 ⊢;exact o1 β1 true H1 Ext.refl ⟨rfl,r1⟩
    |false=>rw[Ab Bb]at o1 ⊢;exact⟨F.to β1 h1,r1,o1⟩
def qD {t:T3} (ha:PT X a (zO κ E t)):PT X (.UnaryOp .Not a pos) (zO κ E (tNot3 t)):=PTw (Qz ha) fun σ H Q zz110 => by
  obtain ⟨F,rel,o⟩ := zz110
  exact (ym (K:=kT κ) km_T rel o).mono fun c H1 zz111 => by
    obtain ⟨β1,h1,x,e1,⟨ec,r1⟩,o1⟩ := zz111
    subst ec;exact o1 β1 _ H1 Ext.refl ⟨rfl,r1⟩
def eAnd (a b:E3):E3:=fun s h=>(tE a s h).bind fun c h1=>if c=true then b s h1 else .ok (.v (.bl false)) h1
def eOr (a b:E3):E3:=fun s h=>(tE a s h).bind fun c h1=>if c=true then .ok (.v (.bl true)) h1 else b s h1
def eNot (a:E3):E3:=fun s h=>(tE a s h).bind fun c h1=>.ok (.v (.bl !c)) h1
def DF {d u:E3} {rest:List Expr} (ha:PE X a (zk κ E d)) (hb:PE X (.BoolOp .And (b::rest) pos) (zk κ E u)):PE X (.BoolOp .And (a::b::rest) pos) (zk κ E (eAnd d u)):=yK (Q3 ha hb) fun σ H Q ⟨F,rel,o⟩=>by
 refine tOf.mono (ES (ym (a:=tE d) (K:=kT κ) z6 rel o)) fun x H1 ⟨k,ex,β1,h1,c,e1,⟨ec,r1⟩,o1⟩=>⟨k,ex,?_⟩
 subst ec;cases k with
 |true=>rw[Ac rfl]at o1 ⊢;exact⟨F.to β1 h1,r1,o1⟩
 |false=>rw[Ab Bb]at o1 ⊢;exact o1 β1 _ H1 Ext.refl ⟨r1,.bl false⟩
def Nb {d:E3} (ha:PE X a (zk κ E d)):PE X (.UnaryOp .Not a pos) (zk κ E (eNot d)):=yK (Q4 ha) fun σ H Q ⟨F,rel,o⟩=>by
 refine tOf.mono (ES (ym (a:=tE d) (K:=kT κ) z6 rel o)) fun x H1 ⟨k,ex,β1,h1,c,e1,⟨ec,r1⟩,o1⟩=>⟨k,ex,?_⟩
 subst ec;exact o1 β1 _ H1 Ext.refl ⟨r1,.bl _⟩
def DG {op} {d:E3} (h:PE X a (zk κ E d)):PE X (.BoolOp op [a] pos) (zk κ E d):=Q2 h
def eIf (t:T3) (a b:E3):E3:=fun s h=>(t s h).bind fun c h1=>if c=true then a s h1 else b s h1
end
inductive O3 where
 |nx (s:S3) (h:H3)|rt (r:Vl) (h:H3)|bk (s:S3) (h:H3)|ct (s:S3) (h:H3)|ex (x:X3) (h:H3)|no
abbrev D3:=S3->H3->O3
structure SExt (F:Fr) (H:Hp) (F':Fr) (H':Hp):Prop where
 ext:Ext (fun a=>some a∈F.l) F.β H F'.β H'
 lam:∀a,some a∈F'.l->some a∈F.l\/H a=none
 oi:F'.Oi=F.Oi
 tt:F'.T=[]
abbrev NwS (F:Fr) (H:Hp):Addr->Prop:=fun p=>some p∈F.l\/H p=none
def SOut (κ:Kx) (E:XK) (F:Fr) (H:Hp) (D:Ends):O3->Prop
 |.nx s' h'=> ∀F' σ' H',SExt F H F' H'->F'.s=s'->F'.h=h'->Rel κ F' σ' H'->D.nx σ' H'
 |.bk s' h'=> ∀F' σ' H',SExt F H F' H'->F'.s=s'->F'.h=h'->Rel κ F' σ' H'->D.bk σ' H'
 |.ct s' h'=> ∀F' σ' H',SExt F H F' H'->F'.s=s'->F'.h=h'->Rel κ F' σ' H'->D.ct σ' H'
 |.rt r h'=> ∀F' σ' v H',SExt F H F' H'->F'.h=h'->Post κ (NwS F H) F' σ' H' r v->D.rt v H'
 |.ex x h'=> ∀F' H',SExt F H F' H'->RelH κ F'.Oi F'.β h' H'->XOk κ E x H'
 |.no=>False
def zt (κ:Kx) (E:XK) (d:D3):TS:=fun D σ H=> ∃F,Rel κ F σ H/\F.T=[]/\SOut κ E F H D (d F.s F.h)
section
variable {X:Cx} {κ:Kx} {E:XK} {F F1 F2:Fr} {σ σ':St} {H H1 H2 H':Hp} {Q:VK} {r:R} {p:Addr} {e a b:Expr} {pos:Pos} {i:Nat} {D:Ends}
theorem SExt.refl (ht:F.T=[]):SExt F H F H:=⟨Ext.refl,fun _ h=>.inl h,rfl,ht⟩
theorem SExt.trans (a:SExt F H F1 H1) (b:SExt F1 H1 F2 H2):SExt F H F2 H2 where
 ext:=⟨fun x o h n m=>(by
   obtain⟨h1,n1⟩:=a.ext.keep x o h n m
   refine b.ext.keep x o h1 n1 fun z=>?_
   rcases a.lam x z with q|q
   .exact m q
   .rw[h]at q;cases q),Bw a.ext.len b.ext.len,fun i x hi h=>a.ext.bet i x hi (b.ext.bet i x (Bk hi a.ext.len) h),fun x o h=>let ⟨o1,h1⟩:=a.ext.there x o h;b.ext.there x o1 h1,MY a.ext.there (fun i x hi h=>b.ext.bet i x hi h) a.ext.nwb b.ext.nwb⟩
 lam:=fun x h=>by
  rcases b.lam x h with q|q
  .exact a.lam x q
  .cases w:H x with
   |none=>exact .inr rfl
   |some o=>
    obtain⟨o',z⟩:=a.ext.there x o w;rw[q]at z;cases z
 oi:=b.oi.trans a.oi
 tt:=b.tt
def SExt.of0 {β':AO} {h':H3} (ht:F.T=[]) (e:Ext No F.β H β' H'):SExt F H (F.to β' h') H':=
 ⟨⟨fun x o h n _=>e.keep x o h n fun z=>z,e.len,e.bet,e.there,e.nwb⟩,fun _ h=>.inl h,rfl,ht⟩
theorem SOut.move {o:O3} (e:SExt F H F1 H1) (h:SOut κ E F H D o):SOut κ E F1 H1 D o:=by
 cases o with
 |nx s h'=>exact fun F2 σ2 H2 e2=>h F2 σ2 H2 (e.trans e2)
 |bk s h'=>exact fun F2 σ2 H2 e2=>h F2 σ2 H2 (e.trans e2)
 |ct s h'=>exact fun F2 σ2 H2 e2=>h F2 σ2 H2 (e.trans e2)
 |rt r h'=>exact fun F2 σ2 v H2 e2 eh q=>h F2 σ2 v H2 (e.trans e2) eh (q.imp fun p hp=>hp.elim (e.lam p) fun z=>.inr (e.ext.nw p z))
 |ex x h'=>exact fun F2 H2 e2=>h F2 H2 (e.trans e2)
 |no=>exact h
def ql {st:Stmt} {t t':TS} (h:PS X st t) (w:∀D σ H,t' D σ H->t D σ H):PS X st t':=fun pins s σ H D I q=>h pins s σ H D I (w D σ H q)
def PSsw {st:List Stmt} {t t':TS} (h:yW X st t) (w:∀D σ H,t' D σ H->t D σ H):yW X st t':=fun pins s σ H D I q=>h pins s σ H D I (w D σ H q)
def sSkip:D3:=fun s h=>.nx s h
def sSeq (a b:D3):D3:=fun s h=>match a s h with
 |.nx s1 h1=>b s1 h1
 |o=>o
def yk:yW X [] (zt κ E sSkip):=PSsw Q6 fun D σ H zz116 => by obtain ⟨F,rel,ht,o⟩ := zz116; exact o F σ H (.refl ht) rfl rfl rel
def zl {st:Stmt} {rest:List Stmt} {da db:D3} (h1:PS X st (zt κ E da)) (h2:yW X rest (zt κ E db)):yW X (st::rest) (zt κ E (sSeq da db)):=PSsw (Q7 h1 h2) fun D σ H ⟨F,rel,ht,o⟩=>by
 refine⟨F,rel,ht,?_⟩
 unfold sSeq at o;cases q:da F.s F.h with
 |nx s1 h1=>
  rw[q]at o;intro F' σ' H' e es eh r'
  refine⟨F',r',e.tt,?_⟩
  rw[es,eh];exact SOut.move e o
 |rt r h=>rw[q]at o;exact o
 |bk s h=>rw[q]at o;exact o
 |ct s h=>rw[q]at o;exact o
 |ex x h=>rw[q]at o;exact o
 |no=>rw[q]at o;exact o
def zp {st:Stmt} {da:D3} (h1:PS X st (zt κ E da)):yW X [st] (zt κ E da):=Q8 h1
def jV {α:Type} {l:List α} {i j:Nat} {x y:α} (h:(l.set i x)[j]? =some y):(i=j/\y=x)\/(i≠j/\l[j]? =some y):=by
 rw[Ct]at h
 by_cases e:i=j
 .rw[Ac e]at h
  by_cases e2:i<l.length
  .rw[Ac e2]at h;exact .inl ⟨e,(Option.some.inj h).symm⟩
  .rw[Ab e2]at h;cases h
 .rw[Ab e]at h;exact .inr ⟨e,h⟩
def jW {l:AO} {i:Nat} {x:Option Addr} {a:Addr} (h:some a∈l.set i x):(x=some a)\/(some a∈l/\∃j,j≠i/\l[j]? =some (some a)):=by
 obtain⟨j,hj⟩:=B9 h
 rcases jV hj with ⟨_,e⟩|⟨n,e⟩
 .exact .inl e.symm
 .exact .inr ⟨Al e,j,fun z=>n z.symm,e⟩
noncomputable abbrev Fr.setV (F:Fr) (i:Nat) (x:V3):Fr:={F with s:=F.s.set i (some (.v x)),l:=F.l.set i none}
noncomputable abbrev Fr.setM (F:Fr) (i:Nat) (c:C3) (p:Addr):Fr:={F with s:=F.s.set i (some (.m c)),l:=F.l.set i (some p)}
noncomputable abbrev Fr.setN (F:Fr) (i:Nat):Fr:={F with s:=F.s.set i none,l:=F.l.set i none}
def EV {F:Fr} {i:Nat} {s:S3} {a:Addr} (h:({F with s:=s,l:=F.l.set i none}:Fr).O a):F.O a:=by
 rcases h with h|h|h
 .exact .inl h
 .rcases jW h with z|z
  .cases z
  .exact .inr (.inl z.1)
 .exact .inr (.inr h)
def Rel.setGen {F:Fr} {i:Nat} {s:S3} {σ':St} (rel:Rel κ F σ H) (hsl:s.length=F.s.length) (hσ:σ'.length=σ.length)
  (hslot:∀(j:Nat) x,s[j]? =some (some x)->(∃v,σ'[j]? =some (some v)/\SlotR κ ({F with s:=s,l:=F.l.set i none}:Fr) H j x v)):Rel κ {F with s:=s,l:=F.l.set i none} σ' H where
 heap:=rel.heap.sub fun a ha=>EV ha
 slen:=by show s.length=_;rw[hsl,hσ];exact rel.slen
 llen:=by show (F.l.set i none).length=s.length;rw[B7,hsl];exact rel.llen
 linj:=fun j k a h1 h2=>by
  rcases jV h1 with ⟨_,z⟩|⟨_,z1⟩
  .cases z
  .rcases jV h2 with ⟨_,z⟩|⟨_,z2⟩
   .cases z
   .exact rel.linj j k a z1 z2
 lt:=fun a ha=>by
  rcases jW ha with z|z
  .cases z
  .exact rel.lt a z.1
 lo:=fun a ha=>by
  rcases jW ha with z|z
  .cases z
  .exact rel.lo a z.1
 to:=rel.to
 tn:=rel.tn
 slot:=hslot
def Rel.slotNe {F:Fr} {i j:Nat} {s:S3} {x:Vl} {v:V} (hn:i≠j) (q:SlotR κ F H j x v):SlotR κ ({F with s:=s,l:=F.l.set i none}:Fr) H j x v:=by
 cases x with
 |v x=>exact Rep.sub (fun a ha=>EV ha) q
 |m c=>
  obtain⟨a,h1,h2,h3⟩:=q
  refine⟨a,?_,h2,h3.sub fun a ha=>EV ha⟩
  show (F.l.set i none)[j]? =_;rw[Ct,Ab hn];exact h1
theorem Rel.setV {x:V3} {v:V} (rel:Rel κ F σ H) (hr:Rep κ F.β F.O H x v) (hi:i<F.s.length):Rel κ (F.setV i x) (σ.set i (some v)) H:=by
 refine rel.setGen (by rw[B7]) (by rw[B7]) fun j y hj=>?_
 rcases jV hj with ⟨e,z⟩|⟨n,z⟩
 .subst e;cases z
  refine⟨v,?_,Rep.sub (fun a ha=>EV ha) hr⟩
  rw[Ct,Ac rfl,Ac (by rw[<-rel.slen];exact hi)]
 .obtain⟨w,h1,h2⟩:=rel.slot j y z
  exact⟨w,by rw[Ct,Ab n];exact h1,Rel.slotNe n h2⟩
theorem Rel.setN {i:Nat} (rel:Rel κ F σ H):Rel κ (F.setN i) σ H:=by
 refine rel.setGen (by rw[B7]) rfl fun j y hj=>?_
 rcases jV hj with ⟨e,z⟩|⟨n,z⟩
 .cases z
 .obtain⟨w,h1,h2⟩:=rel.slot j y z
  exact⟨w,h1,Rel.slotNe n h2⟩
def Hr {F:Fr} {i:Nat} {s:S3} {a p:Addr} (h:({F with s:=s,l:=F.l.set i (some p)}:Fr).O a):(F.with p).O a:=by
 rcases h with h|h|h
 .exact .inl (An _ h)
 .rcases jW h with z|z
  .cases z;exact .inl Ak
  .exact .inr (.inl z.1)
 .exact .inr (.inr h)
theorem Rel.setM {c:C3} (rel:Rel κ (F.with p) σ H) (hr:CellR κ F.β (F.with p).O H c p) (hi:i<F.s.length):Rel κ (F.setM i c p) (σ.set i (some (.ref p))) H where
 heap:=rel.heap.sub fun a ha=>Hr ha
 slen:=by show (F.s.set i _).length=_;rw[B7,B7];exact rel.slen
 llen:=by show (F.l.set i _).length=(F.s.set i _).length;rw[B7,B7];exact rel.llen
 linj:=fun j k a h1 h2=>by
  rcases jV h1 with ⟨e1,z1⟩|⟨n1,z1⟩<;>rcases jV h2 with ⟨e2,z2⟩|⟨n2,z2⟩
  .lia
  .cases z1;exact absurd Ak (rel.lt p (Al z2))
  .cases z2;exact absurd Ak (rel.lt p (Al z1))
  .exact rel.linj j k a z1 z2
 lt:=fun a ha z=>by
  rcases jW ha with q|q
  .cases q;exact (Bi.mp rel.tn).1 z
  .exact rel.lt a q.1 (An _ z)
 lo:=fun a ha=>by
  rcases jW ha with q|q
  .cases q;exact rel.to p Ak
  .exact rel.lo a q.1
 to:=fun a ha=>rel.to a (An _ ha)
 tn:=(Bi.mp rel.tn).2
 slot:=fun j y hj=>by
  rcases jV hj with ⟨e,z⟩|⟨n,z⟩
  .subst e;cases z
   refine⟨.ref p,?_,p,?_,rfl,hr.sub fun a ha=>Hr ha⟩
   .rw[Ct,Ac rfl,Ac (by rw[<-rel.slen];exact hi)]
   .show (F.l.set i _)[i]? =_
    rw[Ct,Ac rfl,Ac (by have h:=rel.llen;show i<F.l.length;rw[show F.l.length=F.s.length from h];exact hi)]
  .obtain⟨w,h1,h2⟩:=rel.slot j y z
   refine⟨w,by rw[Ct,Ab n];exact h1,?_⟩
   cases y with
   |v x=>exact Rep.sub (fun a ha=>Hr ha) h2
   |m c=>
    obtain⟨a,q1,q2,q3⟩:=h2
    refine⟨a,?_,q2,q3.sub fun a ha=>Hr ha⟩
    show (F.l.set i _)[j]? =_;rw[Ct,Ab n];exact q1
def SExt.setN {s:S3} (ht:F.T=[]):SExt F H ({F with s:=s,l:=F.l.set i none}:Fr) H:=
 ⟨Ext.refl,fun a h=>by
  rcases jW h with z|z
  .cases z
  .exact .inl z.1,rfl,ht⟩
noncomputable def Res.bindS {α:Type} (r:Res α) (k:α->H3->O3):O3:=match r with
 |.ok r h=>k r h
 |.ex x h=>.ex x h
 |.no=>.no
theorem bindS {α ω:Type} {K:Kd α ω} {a:S3->H3->Res α} {k:α->H3->O3} (rel:Rel κ F σ H) (ht:F.T=[]) (o:SOut κ E F H D ((a F.s F.h).bindS k)):
  tOf κ E K a σ H (fun w H1=> ∃β1 h1 x,Ext No F.β H β1 H1/\K H (F.to β1 h1) σ H1 x w/\SOut κ E F H D (k x h1)):=by
 refine⟨F,rel,?_⟩
 cases q:a F.s F.h with
 |no=>rw[q]at o;exact o
 |ex x h1=>rw[q]at o;exact fun β' H' e r=>o (F.to β' h1) H' (SExt.of0 ht e) r
 |ok r h1=>rw[q]at o;exact fun β1 v H1 e p=>⟨β1,h1,r,e,p,o⟩
def sSet (i:Nat) (e:E3):D3:=fun s h=>(e s h).bindS fun r h1=>if i<s.length then .nx (s.set i (some r)) h1 else .no
def Je {d:E3} (h:zt κ E (sSet i d) D σ H):zk κ E d σ H (fun v H1=>D.nx (σ.set i (some v)) H1):=by
 obtain⟨F,rel,ht,o⟩:=h
 refine (bindS (K:=kE κ) rel ht o).mono fun v H1 zz118 => ?_
 obtain ⟨β1,h1,r,e1,p1,o⟩ := zz118
 by_cases hi:i<F.s.length
 .rw[Ac hi]at o
  cases r with
  |v x=>
   obtain⟨r1,r2⟩:=p1;exact o ((F.to β1 h1).setV i x) _ H1 ((SExt.of0 (h':=h1) ht e1).trans (SExt.setN ht)) rfl rfl (r1.setV r2 hi)
  |m c=>
   obtain⟨p,rfl,r1,r2,hp⟩:=p1
   refine o ((F.to β1 h1).setM i c p) _ H1 ?_ rfl rfl (r1.setM r2 hi)
   exact⟨(SExt.of0 (h':=h1) ht e1).ext,fun a ha=>by
    rcases jW ha with z|z
    .cases z;exact .inr hp
    .exact .inl z.1,rfl,ht⟩
 .rw[Ab hi]at o;exact o.elim
def DH {x:Str} {pos':Pos} {d:E3} (hN:X.N.Nodup) (hi:X.N[i]? =some x) (hx:jN X.env.scope x) (he:PE X e (zk κ E d)) (hs:swapsWith e (some (.Name x pos')) pos.line X.env=pure false:=by rfl)
 (hf:X.fn x=true\/X.env.scope.names.lookup x=some .local:=by first|exact .inl rfl|exact .inr rfl|assumption):PS X (.Assign [.Name x pos'] e pos) (zt κ E (sSet i d)):=ql (LM hN hi hx he hs hf) fun D σ H h=>Je h
def sExp (e:E3):D3:=fun s h=>(e s h).bindS fun _ h1=>.nx s h1
def EW {d:E3} (he:PE X e (zk κ E d)) (hs:swapsWith e none pos.line X.env=pure false:=by rfl):PS X (.Expr e pos) (zt κ E (sExp d)):=ql (ID he hs) fun D σ H zz119 => by
  obtain ⟨F,rel,ht,o⟩ := zz119
  exact (bindS (K:=kE κ) rel ht o).mono fun v H1 zz120 => by
    obtain ⟨β1,h1,r,e1,p1,o⟩ := zz120
    have r1:Rel κ (F.to β1 h1) σ H1:=by
     cases r with
     |v x=>exact p1.1
     |m c=>obtain⟨p,_,r1,_⟩:=p1;exact Rel.drop r1
    exact o (F.to β1 h1) σ H1 (SExt.of0 ht e1) rfl rfl r1
def sRet (e:E3):D3:=fun s h=>(e s h).bindS fun r h1=>.rt r h1
def zY {d:E3} (he:PE X e (zk κ E d)):PS X (.Return (some e) pos) (zt κ E (sRet d)):=ql (LK he) fun D σ H zz121 => by
  obtain ⟨F,rel,ht,o⟩ := zz121
  exact (bindS (K:=kE κ) rel ht o).mono fun v H1 zz122 => by obtain ⟨β1,h1,r,e1,p1,o⟩ := zz122; exact o (F.to β1 h1) σ v H1 (SExt.of0 ht e1) rfl (p1.imp fun p hp=>.inr hp)
def sRetN:D3:=fun _ h=>.rt (.v .non) h
def Rel.take {c:C3} (rel:Rel κ F σ H) (hl:F.l[i]? =some (some p)):Rel κ ((F.setN i).with p) σ H:=by
 have r1:=rel.setN (i:=i);have ho:∀a,((F.setN i).with p).O a->F.O a:=fun a ha=>by
  rcases ha with z|z
  .rcases Af.mp z with z|z
   .subst z;exact .inr (.inl (Al hl))
   .exact .inl z
  .rcases z with z|z
   .rcases jW z with w|w
    .cases w
    .exact .inr (.inl w.1)
   .exact .inr (.inr z)
 have hb:∀a,some a∈F.l.set i none->a≠p:=fun a ha z=>by
  subst z
  rcases jW ha with w|⟨_,j,hj,w⟩
  .cases w
  .exact hj (rel.linj j i a w hl)
 refine⟨rel.heap.sub ho,r1.slen,r1.llen,r1.linj,fun a ha z=>?_,r1.lo,fun a ha z=>?_,Bi.mpr ⟨fun z=>rel.lt p (Al hl) z,rel.tn⟩,fun j y hj=>?_⟩
 .rcases Af.mp z with z|z
  .exact hb a ha z
  .exact r1.lt a ha z
 .rcases Af.mp ha with h|h
  .subst h;exact rel.lo a (Al hl) z
  .exact rel.to a h z
 .rcases jV hj with ⟨_,z⟩|⟨n,z⟩
  .cases z
  .obtain⟨w,h1,h2⟩:=rel.slot j y z
   refine⟨w,h1,?_⟩
   cases y with
   |v x=>exact Rep.sub ho h2
   |m c=>
    obtain⟨a,q1,q2,q3⟩:=h2
    refine⟨a,?_,q2,q3.sub ho⟩
    show (F.l.set i none)[j]? =_;rw[Ct,Ab n];exact q1
def Tg {a:Addr} (hl:F.l[i]? =some (some p)) (ha:((F.setN i).with p).O a):F.O a:=by
 rcases ha with z|z
 .rcases Af.mp z with z|z
  .subst z;exact .inr (.inl (Al hl))
  .exact .inl z
 .rcases z with z|z
  .rcases jW z with w|w
   .cases w
   .exact .inr (.inl w.1)
  .exact .inr (.inr z)
noncomputable def sRetS (i:Nat):D3:=fun s h=>match s[i]? with
 |some (some r)=>.rt r h
 |_=>.no
def jG (hv:PE X e (tVar i)):PS X (.Return (some e) pos) (zt κ E (sRetS i)):=ql (LK hv) fun D σ H zz123 => by
 obtain ⟨F,rel,ht,o⟩ := zz123
 unfold sRetS at o;cases q:F.s[i]? with
 |none=>rw[q]at o;exact o.elim
 |some z=>
  rw[q]at o
  match z,q,o with
  |none,q,o=>exact o.elim
  |some (.v x),q,o=>
   obtain⟨v,h1,h2⟩:=rel.slot i _ q;exact⟨v,h1,o F σ v H (.refl ht) rfl ⟨rel,h2⟩⟩
  |some (.m c),q,o=>
   obtain⟨v,h1,a,h2,h3,h4⟩:=rel.slot i _ q;subst h3;exact⟨_,h1,o (F.setN i) σ (.ref a) H (SExt.setN ht) rfl ⟨a,rfl,Rel.take (c:=c) rel h2,h4.sub fun b hb=>Tg h2 hb,.inl (Al h2)⟩⟩
def sFz (i:Nat):D3:=fun s h=>match s[i]? with
 |some (some (.m c))=>match c.fz with
  |some x=>.nx (s.set i (some (.v x))) h
  |none=>.no
 |_=>.nx s h
def Th {d:D3} (h:zt κ E (sSeq (sFz i) d) D σ H):zt κ E d D σ H:=by
 obtain⟨F,rel,ht,o⟩:=h;unfold sSeq sFz at o;have same:(match (F.s[i]? :Option (Option Vl)) with|some (some (.m c))=>False|_=>True)->SOut κ E F H D (d F.s F.h)->zt κ E d D σ H:=fun _ o=>⟨F,rel,ht,o⟩
 cases q:F.s[i]? with
 |none=>rw[q]at o same;exact same trivial o
 |some z=>
  rw[q]at o same
  match z,q,o,same with
  |none,q,o,same=>exact same trivial o
  |some (.v x),q,o,same=>exact same trivial o
  |some (.m c),q,o,same=>
   cases z:c.fz with
   |none=>simp only[z]at o;exact o.elim
   |some x=>
    simp only[z]at o;obtain⟨v,h1,a,h2,h3,h4⟩:=rel.slot i _ q;subst h3;have hi:i<F.s.length:=(Ao.mp q).1;have rt:=Rel.take (c:=c) rel h2;have rep:Rep κ F.β (F.setN i).O H x (.ref a):=(h4.sub (O':=(F.setN i).O) fun b hb=>EV hb).fz z rt.offp rt.apart
    have r2:=(rel.setN (i:=i)).setV (i:=i) (x:=x) (v:= .ref a) rep (by show i<(F.s.set i none).length;rw[B7];exact hi)
    have e1:(F.setN i).setV i x=F.setV i x:=by
     show ({F with s:=(F.s.set i none).set i _,l:=(F.l.set i none).set i none}:Fr)={F with s:=F.s.set i _,l:=F.l.set i none}
     rw[List.set_set,List.set_set]
    have e2:σ.set i (some (.ref a))=σ:=by
     apply List.ext_getElem?;intro j
     rw[Ct]
     by_cases hj:i=j
     .subst hj;rw[Ac rfl,Ac (by rw[<-rel.slen];exact hi),h1]
     .rw[Ab hj]
    rw[e1,e2]at r2;exact⟨F.setV i x,r2,ht,SOut.move (SExt.setN ht) o⟩
def yL {sts:List Stmt} {d:D3} (i:Nat) (h:yW X sts (zt κ E d)):yW X sts (zt κ E (sSeq (sFz i) d)):=PSsw h fun D σ H q=>Th q
def sIf (t:T3) (a b:D3):D3:=fun s h=>(t s h).bindS fun c h1=>if c=true then a s h1 else b s h1
def yj {c:Expr} {sa sb:List Stmt} {t:T3} {da db:D3} (hc:PT X c (zO κ E t)) (ha:yW X sa (zt κ E da)) (hb:yW X sb (zt κ E db)):PS X (.If c sa sb pos) (zt κ E (sIf t da db)):=ql (QA hc ha hb) fun D σ H zz124 => by
  obtain ⟨F,rel,ht,o⟩ := zz124
  exact (bindS (K:=kT κ) rel ht o).mono fun c H1 zz125 => by
    obtain ⟨β1,h1,x,e1,⟨ec,r1⟩,o1⟩ := zz125
    subst ec;have mv:=SExt.of0 (h':=h1) ht e1;cases c with
    |true=>rw[Ac rfl]at o1 ⊢;exact⟨F.to β1 h1,r1,ht,SOut.move mv o1⟩
    |false=>rw[Ab Bb]at o1 ⊢;exact⟨F.to β1 h1,r1,ht,SOut.move mv o1⟩
def sNever:D3:=fun _ _=>.no
def EX {st:Stmt}:PS X st (zt κ E sNever):=ql QC fun D σ H zz126 => by obtain ⟨F,rel,ht,o⟩ := zz126; exact o
abbrev G3:=V3->S3->Option S3
abbrev Gs3:=List V3->S3->Option S3
noncomputable def gN (i:Nat):G3:=fun x s=>if i<s.length then some (s.set i (some (.v x))) else none
def gsNil:Gs3:=fun xs s=>match xs with
 | []=>some s
 |_=>none
noncomputable def gsCons (g:G3) (gs:Gs3):Gs3:=fun xs s=>match xs with
 |x::r=>(g x s).bind fun s1=>gs r s1
 | []=>none
def gT (gs:Gs3):G3:=fun x s=>match x with
 |.tup xs=>gs xs s
 |_=>none
def gL (gs:Gs3):G3:=fun x s=>match x with
 |.lst xs=>gs xs s
 |_=>none
def yD (κ:Kx) (g:G3):TG:=fun v σ H Q=> ∃F x s',Rel κ F σ H/\F.T=[]/\Rep κ F.β F.O H x v/\g x F.s=some s'/\∀F' σ',SExt F H F' H->F'.β=F.β->F'.s=s'->F'.h=F.h->Rel κ F' σ' H->Q σ' H
def Hs (κ:Kx) (g:Gs3):jM:=fun vs σ H Q=> ∃F xs s',Rel κ F σ H/\F.T=[]/\Reps κ F.β F.O H xs vs/\g xs F.s=some s'/\∀F' σ',SExt F H F' H->F'.β=F.β->F'.s=s'->F'.h=F.h->Rel κ F' σ' H->Q σ' H
def PGw {tg:Expr} {t t':TG} (h:PG X tg t) (w:∀v σ H Q,t' v σ H Q->t v σ H Q):PG X tg t':=fun pins s σ H v u Q I r q=>h pins s σ H v u Q I r (w v σ H Q q)
def PGsw {tg:List Expr} {t t':jM} (h:jC X tg t) (w:∀v σ H Q,t' v σ H Q->t v σ H Q):jC X tg t':=fun pins s σ H v u Q I r q=>h pins s σ H v u Q I r (w v σ H Q q)
def Nc {a:Addr} {o:HO} (e:SExt F H F' H') (ha:H a=some o) (n: ¬F.O a): ¬F'.O a:=fun z=>by
 rcases z with z|z|z
 .rw[e.tt]at z;cases z
 .rcases e.lam a z with w|w
  .exact n (.inr (.inl w))
  .rw[ha]at w;cases w
 .rw[e.oi]at z;exact n (.inr (.inr z))
def Rep.sext {x:V3} {v:V} (e:SExt F H F' H') (r:Rep κ F.β F.O H x v):Rep κ F'.β F'.O H' x v:=r.ext e.ext (fun a h=>.inr (.inl h)) fun a o ha n=>Nc e ha n
def Reps.sext {x:List V3} {v:List V} (e:SExt F H F' H') (r:Reps κ F.β F.O H x v):Reps κ F'.β F'.O H' x v:=r.ext e.ext (fun a h=>.inr (.inl h)) fun a o ha n=>Nc e ha n
def Jf {tg:Expr} (h:PG X tg (EH i)):PG X tg (yD κ (gN i)):=PGw h fun v σ H Q zz127 => by
 obtain ⟨F,x,s',rel,ht,r,e,k⟩ := zz127
 unfold gN at e
 by_cases hi:i<F.s.length
 .rw[Ac hi]at e;cases e
  exact k (F.setV i x) _ (SExt.setN ht) rfl rfl rfl (rel.setV r hi)
 .rw[Ab hi]at e;cases e
def qh:jC X [] (Hs κ gsNil):=PGsw QD fun v σ H Q zz128 => by
 obtain ⟨F,xs,s',rel,ht,r,e,k⟩ := zz128
 cases r with
 |nil=>cases e;exact⟨rfl,k F σ (.refl ht) rfl rfl rfl rel⟩
 |cons _ _=>cases e
theorem zS {es:List Expr} {g:G3} {gs:Gs3} (h1:PG X e (yD κ g)) (h2:jC X es (Hs κ gs)) (hh:∀{t:TG} {u:jM},PG X e t->jC X es u->jC X (e::es) (LL t u)):jC X (e::es) (Hs κ (gsCons g gs)):=PGsw (hh h1 h2) fun v σ H Q ⟨F,xs,s',rel,ht,r,e,k⟩=>by
 cases r with
 |nil=>cases e
 | @cons x y xs ys a b=>
  cases q:g x F.s with
  |none=>simp only[gsCons,q]at e;cases e
  |some s1=>
   simp only[gsCons,q]at e
   refine⟨y,ys,rfl,F,x,s1,rel,ht,a,q,fun F1 σ1 e1 b1 s1' h1 r1=>?_⟩
   have e:gs xs s1=some s':=e
   refine⟨F1,xs,s',r1,e1.tt,b.sext e1,by rw[s1'];exact e,fun F2 σ2 e2 b2 s2' h2 r2=>?_⟩
   exact k F2 σ2 (e1.trans e2) (b2.trans b1) s2' (h2.trans h1) r2
def qk {tg:Expr} {gs:Gs3} {n:Nat} (h:PG X tg (gTup X.K n (Hs κ gs))) (hn:∀xs s s',gs xs s=some s'->xs.length=n):PG X tg (yD κ (gT gs)):=PGw h fun v σ H Q zz130 => by
 obtain ⟨F,x,s',rel,ht,r,e,k⟩ := zz130
 unfold gT at e;cases x<;>first|cases e|skip
 cases r with
 |tup h1 h2 h3 h4=>exact⟨_,_,rfl,.of h1,by rw[<-h4.length];exact hn _ _ _ e,F,_,s',rel,ht,h4,e,k⟩
def sAsg (g:G3) (e:E3):D3:=fun s h=>(e s h).bindS fun r h1=>match r.fz with
 |some x=>match g x s with
  |some s1=>.nx s1 h1
  |none=>.no
 |none=>.no
def Ti {d:E3} {g:G3} (h:zt κ E (sAsg g d) D σ H):tAsg (zk κ E d) (yD κ g) D σ H:=by
 obtain⟨F,rel,ht,o⟩:=h
 refine (bindS (K:=kE κ) rel ht o).mono fun v H1 zz131 => ?_
 obtain ⟨β1,h1,r,e1,p1,o⟩ := zz131
 cases z:r.fz with
 |none=>simp only[z]at o;exact o.elim
 |some x=>
  simp only[z]at o;cases w:g x F.s with
  |none=>rw[w]at o;exact o.elim
  |some s1=>
   rw[w]at o;obtain⟨r1,r2⟩:=Post.fz p1 z;exact⟨F.to β1 h1,x,s1,r1,ht,r2,w,fun F' σ' e' b' s' h' r'=>o F' σ' H1 ((SExt.of0 (h':=h1) ht e1).trans e') s' h' r'⟩
def Jg {tg:Expr} {d:E3} {g:G3} (he:PE X e (zk κ E d)) (hg:PG X tg (yD κ g)) (hh:∀{te:TE} {g:TG},PE X e te->PG X tg g->PS X (.Assign [tg] e pos) (tAsg te g)):PS X (.Assign [tg] e pos) (zt κ E (sAsg g d)):=ql (hh he hg) fun D σ H h=>Ti h
end
structure It3 where
 its:List V3
 xs:List V3
 ok:H3->Prop
def IR (κ:Kx) (it:It3) (vs:List V) (J:It):Prop:=∀(F:Fr) (σ:St) (H:Hp),Rel κ F σ H->Reps κ F.β F.O H it.its vs->it.ok F.h->∀i:Nat,
 (i<it.xs.length->J.go i H/\∀x H',J.yld i H x H'->∃x3,it.xs[i]? =some x3/\Ext No F.β H F.β H'/\Rel κ F σ H'/\Rep κ F.β F.O H' x3 x)/\(it.xs.length<=i->J.stop i H)
abbrev I3:=S3->H3->Res It3
def kI (κ:Kx):Kd It3 It:=fun _ F σ H' it J=>Rel κ F σ H'/\∃vs,Reps κ F.β F.O H' it.its vs/\IR κ it vs J
abbrev yA (κ:Kx) (E:XK) (d:I3):TI:=tOf κ E (kI κ) d
open Classical in
def zU (ok:H3->Prop) (g:G3) (b:D3):List V3->S3->H3->O3
 | [],s,h=>if ok h then .nx s h else .no
 |x::r,s,h=>if ok h then match g x s with
  |none=>.no
  |some s1=>match b s1 h with
   |.nx s2 h2=>zU ok g b r s2 h2
   |.ct s2 h2=>zU ok g b r s2 h2
   |.bk s2 h2=>.nx s2 h2
   |o=>o
  else .no
def zw (it:I3) (g:G3) (b:D3):D3:=fun s h=>(it s h).bindS fun I h1=>zU I.ok g b I.xs s h1
noncomputable def qQ (t:T3) (b:D3):Nat->S3->H3->Option O3
 |0,_,_=>none
 |n+1,s,h=>match t s h with
  |.no=>some .no
  |.ex x h1=>some (.ex x h1)
  |.ok false h1=>some (.nx s h1)
  |.ok true h1=>match b s h1 with
   |.nx s2 h2=>qQ t b n s2 h2
   |.ct s2 h2=>qQ t b n s2 h2
   |.bk s2 h2=>some (.nx s2 h2)
   |o=>some o
open Classical in
def AF (t:T3) (b:D3):D3:=fun s h=>if hh:∃o n,qQ t b n s h=some o then Classical.choose hh else .no
section
variable {X:Cx} {κ:Kx} {E:XK} {F F1 F2 F':Fr} {σ σ':St} {H H1 H2 H':Hp} {Q:VK} {p:Addr} {e a b:Expr} {pos:Pos} {i:Nat} {D:Ends}
def km_I:BR (kI κ):=fun _ _ _ _ _ _ _ _ _ _ _ h=>h
theorem Tj {it:I3} {g:G3} {b:D3} (h:zt κ E (zw it g b) D σ H):tFor (yA κ E it) (yD κ g) (zt κ E b) D σ H:=by
 obtain⟨F,rel,ht,o⟩:=h
 refine (bindS (K:=kI κ) rel ht o).mono fun J H1 zz132 => ?_
 obtain ⟨β1,h1,I,e1,⟨r1,vs,rv,ir⟩,o1⟩ := zz132
 refine⟨fun i m σ H=>m=I.xs.length-i/\i<=I.xs.length/\∃Fk,Rel κ Fk σ H/\Fk.T=[]/\Reps κ Fk.β Fk.O H I.its vs/\SOut κ E Fk H D (zU I.ok g b (I.xs.drop i) Fk.s Fk.h),⟨_,rfl,B3 _,F.to β1 h1,r1,ht,rv,SOut.move (SExt.of0 (h':=h1) ht e1) o1⟩,?_⟩
 rintro i m σ' H' ⟨rfl,hi,Fk,rk,tk,vk,ok⟩
 by_cases hok:I.ok Fk.h
 case neg=>
  exfalso
  cases q:I.xs.drop i with
  |nil=>rw[q]at ok;unfold zU at ok;rw[Ab hok]at ok;exact ok
  |cons x r=>rw[q]at ok;unfold zU at ok;rw[Ab hok]at ok;exact ok
 obtain⟨i1,i2⟩:=ir Fk σ' H' rk vk hok i
 by_cases hlt:i<I.xs.length
 .obtain⟨go,yl⟩:=i1 hlt
  refine .inr ⟨go,fun σ2 H2=> ∃F2,Rel κ F2 σ2 H2/\F2.T=[]/\Reps κ F2.β F2.O H2 I.its vs/\SOut κ E F2 H2 D (zU I.ok g b (I.xs.drop (i+1)) F2.s F2.h),fun σ2 H2 n2=>⟨_,by lia,rfl,hlt,n2⟩,fun x H'' y=>?_⟩
  obtain⟨x3,ex,ey,ry,rp⟩:=yl x H'' y;have hd:I.xs.drop i=x3::I.xs.drop (i+1):=by
   rw[E1 hlt]
   congr 1
   rw[zK hlt]at ex;exact Option.some.inj ex
  rw[hd]at ok;have ok:=SOut.move (SExt.of0 (h':=Fk.h) tk ey) ok;unfold zU at ok;rw[Ac hok]at ok;cases w:g x3 Fk.s with
  |none=>simp only[w]at ok;exact ok.elim
  |some s1=>
   simp only[w]at ok
   refine⟨Fk,x3,s1,ry,tk,rp,w,fun F3 σ3 e3 b3 s3 h3 r3=>?_⟩
   refine⟨F3,r3,e3.tt,?_⟩
   rw[s3,h3];have ok:=SOut.move e3 ok;have ev:Reps κ F3.β F3.O H'' I.its vs:=(vk.ext0 ey).sext e3;cases q:b s1 Fk.h with
   |nx s2 h2=>simp only[q]at ok;exact fun F4 σ4 H4 e4 s4 h4 r4=>⟨F4,r4,e4.tt,ev.sext e4,by rw[s4,h4];exact SOut.move e4 ok⟩
   |ct s2 h2=>simp only[q]at ok;exact fun F4 σ4 H4 e4 s4 h4 r4=>⟨F4,r4,e4.tt,ev.sext e4,by rw[s4,h4];exact SOut.move e4 ok⟩
   |bk s2 h2=>simp only[q]at ok;exact ok
   |rt r h2=>simp only[q]at ok;exact ok
   |ex x h2=>simp only[q]at ok;exact ok
   |no=>simp only[q]at ok;exact ok
 .have hi:i=I.xs.length:=by lia
  subst hi;rw[Ck]at ok;unfold zU at ok;rw[Ac hok]at ok;exact .inl ⟨i2 (Ah _),ok Fk σ' H' (.refl tk) rfl rfl rk⟩
def Tn {tg iter:Expr} {body:List Stmt} {it:I3} {g:G3} {b:D3} (hp:PassesOwn (model X.prog X.w) X.A X.env X.xe) (hc:X.calm=true) (hi:PI X tg iter (yA κ E it)) (hg:PG X tg (yD κ g)) (hb:yW X body (zt κ E b))
 (hs:∀x,foldedSetIterable iter X.env x=pure x:=by intro _;rfl):PS X (.For tg iter body [] pos) (zt κ E (zw it g b)):=ql (QP hp hc hi hg hb hs) fun D σ H h=>Tj h
theorem Ht {t:T3} {b:D3}:∀{n k:Nat} {s:S3} {h:H3} {o:O3},n<=k->qQ t b n s h=some o->qQ t b k s h=some o
 |0,_,_,_,_,_,e=>by cases e
 |n+1,0,_,_,_,l,_=>by lia
 |n+1,k+1,s,h,o,l,e=>by
  unfold qQ at e ⊢;cases q:t s h with
  |no=>rw[q]at e;exact e
  |ex x h1=>rw[q]at e;exact e
  |ok c h1=>
   rw[q]at e;cases c with
   |false=>exact e
   |true=>
    cases z:b s h1 with
    |nx s2 h2=>simp only[z]at e ⊢;exact Ht (by lia) e
    |ct s2 h2=>simp only[z]at e ⊢;exact Ht (by lia) e
    |bk s2 h2=>simp only[z]at e ⊢;exact e
    |rt r h2=>simp only[z]at e ⊢;exact e
    |ex x h2=>simp only[z]at e ⊢;exact e
    |no=>simp only[z]at e ⊢;exact e
def To {t:T3} {b:D3} {n:Nat} {s:S3} {h:H3} {o:O3} (e:qQ t b n s h=some o):AF t b s h=o:=by
 unfold AF;have hh:∃o n,qQ t b n s h=some o:=⟨o,n,e⟩;rw[dif_pos hh];obtain⟨k,hk⟩:=Classical.choose_spec hh;have h1:=Ht (Nat.le_max_left n k) e;have h2:=Ht (Nat.le_max_right n k) hk;exact Option.some.inj (h2.symm.trans h1)
def Tp {t:T3} {b:D3} (h:zt κ E (AF t b) D σ H):LP (zO κ E t) (zt κ E b) D σ H:=by
 obtain⟨F,rel,ht,o⟩:=h;unfold AF at o
 by_cases hh:∃o n,qQ t b n F.s F.h=some o
 .rw[dif_pos hh]at o
  obtain⟨n,hn⟩:=Classical.choose_spec hh;generalize Classical.choose hh=w at o hn
  refine⟨fun m σ H=> ∃F,Rel κ F σ H/\F.T=[]/\∃w,qQ t b m F.s F.h=some w/\SOut κ E F H D w,⟨n,F,rel,ht,w,hn,o⟩,?_⟩
  rintro m σ1 H1 ⟨F1,r1,t1,w1,hw,o1⟩;cases m with
  |zero=>cases hw
  |succ m=>
   unfold qQ at hw
   refine⟨F1,r1,?_⟩
   cases q:t F1.s F1.h with
   |no=>rw[q]at hw;cases hw;exact o1
   |ex x h1=>rw[q]at hw;cases hw;exact fun β' H' e r=>o1 (F1.to β' h1) H' (SExt.of0 t1 e) r
   |ok c h2=>
    rw[q]at hw;rintro β2 c' H2 e2 ⟨rfl,r2⟩;have mv:=SExt.of0 (h':=h2) t1 e2;cases c' with
    |false=>rw[Ab Bb];cases hw;exact o1 (F1.to β2 h2) σ1 H2 mv rfl rfl r2
    |true=>
     rw[Ac rfl]
     refine⟨fun σ3 H3=> ∃F3,Rel κ F3 σ3 H3/\F3.T=[]/\∃w,qQ t b m F3.s F3.h=some w/\SOut κ E F3 H3 D w,fun σ3 H3 n3=>⟨m,De _,n3⟩,F1.to β2 h2,r2,t1,?_⟩
     have o2:=SOut.move mv o1;show SOut κ E (F1.to β2 h2) H2 _ (b F1.s h2);cases z:b F1.s h2 with
     |nx s3 h3=>simp only[z]at hw;exact fun F4 σ4 H4 e4 s4 h4 r4=>⟨F4,r4,e4.tt,w1,by rw[s4,h4];exact hw,SOut.move e4 o2⟩
     |ct s3 h3=>simp only[z]at hw;exact fun F4 σ4 H4 e4 s4 h4 r4=>⟨F4,r4,e4.tt,w1,by rw[s4,h4];exact hw,SOut.move e4 o2⟩
     |bk s3 h3=>simp only[z]at hw;cases hw;exact o2
     |rt r h3=>simp only[z]at hw;cases hw;exact o2
     |ex x h3=>simp only[z]at hw;cases hw;exact o2
     |no=>simp only[z]at hw;cases hw;exact o2
 .rw[dif_neg hh]at o;exact o.elim
def Jh {c:Expr} {body:List Stmt} {t:T3} {b:D3} (hp:PassesOwn (model X.prog X.w) X.A X.env X.xe) (hc:PT X c (zO κ E t)) (hb:yW X body (zt κ E b)):PS X (.While c body [] pos) (zt κ E (AF t b)):=ql (QG hp hc hb) fun D σ H h=>Tp h
noncomputable def yH (h:H3):V3->Option (List V3×(H3->Prop))
 |.lst xs=>some (xs,fun _=>True)
 |.scr ns=>some (ns.map .int,fun _=>True)
 |.loc n=>match h[n]? with
  |some (.lst xs)=>some (xs,fun h=>h[n]? =some (.lst xs))
  |_=>none
 |_=>none
def Tq {F:Fr} {σ:St} {H:Hp} {x:V3} {xs:List V3} {v:V} (rel:Rel κ F σ H) (r:Rep κ F.β F.O H x v) (e:rdl F.s F.h (.x x)=some xs):∃a ys,v=.ref a/\SqL κ.K H a ys/\Reps κ F.β F.O H xs ys:=jT (f:= .x x) rel r e
def CN {h:H3} {x:V3} {xs:List V3} {ok:H3->Prop} (e:yH h x=some (xs,ok)):ok h/\∀s h',ok h'->rdl s h' (.x x)=some xs:=by
 cases x<;>simp[yH]at e
 case lst zs=>obtain⟨rfl,rfl⟩:=e;exact⟨trivial,fun _ _ _=>rfl⟩
 case scr ns=>obtain⟨rfl,rfl⟩:=e;exact⟨trivial,fun _ _ _=>rfl⟩
 case loc n=>
  cases q:h[n]? with
  |none=>rw[q]at e;cases e
  |some c=>
   rw[q]at e;cases c<;>simp at e
   obtain⟨rfl,rfl⟩:=e;exact⟨q,fun s h' hh=>by simp only[rdl,hh]⟩
def BU {F:Fr} {σ:St} {H:Hp} {h:H3} {x:V3} {xs:List V3} {ok:H3->Prop} {v:V} (e:yH h x=some (xs,ok)) (rel:Rel κ F σ H) (r:Rep κ F.β F.O H x v) (hk:ok F.h):∃a ys,v=.ref a/\SqL κ.K H a ys/\Reps κ F.β F.O H xs ys:=Tq rel r ((CN e).2 _ _ hk)
def PIw {tg iter:Expr} {t t':TI} (h:PI X tg iter t) (w:∀σ H R,t' σ H R->t σ H R):PI X tg iter t':=fun pins s σ H R I q=>h pins s σ H R I (w σ H R q)
def iL (p:P3):I3:=fun s h=>(p s h).bind fun f h1=>match f with
 |.x x=>match yH h1 x with
  |some (xs,ok)=>.ok ⟨[x],xs,ok⟩ h1
  |none=>.no
 |_=>.no
def Ts {tg l:Expr} {d:P3} (hK:X.K=κ.K) (hl:PE X l (zj κ E d)):PI X tg l (yA κ E (iL d)):=PIw (QK hl) fun σ H R ⟨F,rel,o⟩=>
 (ym (K:=kP κ) km_I rel o).mono fun v H1 ⟨β1,h1,f,e1,⟨r1,rf⟩,o1⟩=>by
  rw[hK]
  match f,rf,o1 with
  |.s _,rf,o1=>exact o1.elim
  |.x x,rf,o1=>
   cases q:yH h1 x with
   |none=>simp only[q]at o1;exact o1.elim
   |some w=>
    obtain⟨xs,ok⟩:=w;simp only[q]at o1;have rf:Rep κ β1 F.O H1 x v:=rf;obtain⟨a,ys,ev,sq,rs⟩:=BU (F:=F.to β1 h1) q r1 rf (CN q).1;subst ev
    refine⟨a,rfl,⟨ys,sq⟩,o1 β1 _ H1 Ext.refl ⟨r1,[.ref a],.cons rf .nil,fun F' σ' H' rel' r' hk i=>?_⟩⟩
    cases r' with
    |cons r'' _=>
     obtain⟨a',ys',ev',sq',rs'⟩:=BU q rel' r'' hk;cases ev'
     refine⟨fun hi=>⟨?_,fun y H' ⟨e,yl⟩=>?_⟩,fun hi=>⟨ys',sq',by rw[<-rs'.length];exact hi⟩⟩
     .obtain⟨y,hy,_⟩:=rs'.get (i:=i) (zK hi)
      exact⟨ys',y,sq',hy⟩
     .subst e
      obtain⟨x3,h1,h2⟩:=rs'.get' (yl ys' sq');exact⟨x3,h1,Ext.refl,rel',h2⟩
end
end L3
namespace L2
open PySem PySem.Spec PyProof.Rows
def Trc (h:Heap) (a T:Addr) (cls a0:Value):Prop:=
 ∃oe vs oT ts,h.get? a=some oe/\(oe.cls=cls/\vs[0]? =some a0)/\oe.data=.fields vs/\vs[1]? =some (.ref T)/\T≠a/\h.get? T=some oT/\oT.data=.fields ts/\ts[3]? =some .none
structure Left (l:List Env) (hid:List Addr) (a T':Addr) (cls a0:Value) (h h':Heap):Prop where
 keep:∀b o,h.get? b=some o->b∉hid->h'.get? b=some o
 slot:∀b o,h.get? b=some o->b∈yP l->∃sl,h'.get? b=some {o with slots:=sl}
 trc:Trc h' a T' cls a0
 new:∀b o,h.get? b=some o->b∉hid->b≠T'
 nfr:T'∉yP l
section
variable {M:Model} {A:Around} {E:VP} {s:Shared} {base:Heap} {env:Env} {outer:List Env} {L a T:Addr} {cls a0:Value} {Q:Unit->Shared->Prop}
def Tt {l:List Env}:∀env∈l,∀b,env.frame=some b->b∈yP l:=fun env he b hb=>Ew.mpr ⟨env,he,hb⟩
theorem Tu {l:List Env} {hid:List Addr} {h h':Heap} (hf:∀b∈yP l,b∈hid) (hl:h.FunFrames base l) (x:Heap.LeftW (PySem.W.hideAll h hid) l a cls a0 h h'):∃T',Left l hid a T' cls a0 h h':=by
 obtain⟨x1,x2,x3,x4⟩:=x;obtain⟨oe,vs,T',oT,ts,t1,t2,t3,t4,t5,t6,t7,t8,t9⟩:=x3;have kp:∀b o,h.get? b=some o->b∉hid->(PySem.W.hideAll h hid).get? b=some o:=fun b o e n=>PySem.W.hideAll_get hid e n
 refine⟨T',fun b o e n=>x1 b o (kp b o e n),fun b o e hb=>?_,⟨oe,vs,oT,ts,t1,t2,t3,t4,t6,t7,t8,t9⟩,fun b o e n z=>?_,fun hb=>?_⟩
 .refine x4 b o e fun vs hv=>?_
  obtain⟨_,o',ho',hn⟩:=hl.mem hb;rw[e]at ho';cases ho';exact hn vs hv
 .have:=kp b o e n
  rw[z,t5]at this;cases this
 .obtain⟨_,o',ho',hn⟩:=x2.mem hb
  rw[t7]at ho';cases ho';exact hn ts t8
theorem Tv (hfr:A.frames=some (env::outer)) (hl:s.heap.FunFrames base (env::outer)) (hf:env.frame=some L) (tr:Trc s.heap a T cls a0)
  (hQ:∀h' T',Left (env::outer) (a::T::yP (env::outer)) a T' cls a0 s.heap h'->Q () {s with heap:=h'}):wpAny M A (leaving env (.ref a)) Q E s:=by
 obtain⟨oe,vs,oT,ts,t1,t2,t3,t4,t6,t7,t8,t9⟩:=tr;have hid:∀b∈yP (env::outer),b∈a::T::yP (env::outer):=fun b hb=>.tail _ (.tail _ hb)
 refine wpAny_leaving_nextW (base:=PySem.W.hideAll s.heap (a::T::yP (env::outer))) (cls:=cls) (a0:=a0) hfr (PySem.W.funFrames_hide hl fun e he b hb=>hid b (Tt e he b hb)) hf
  ⟨oe,vs,T,oT,ts,t1,t2,t3,t4,Gm _ (.tail _ (.head _)),t6,t7,t8,t9⟩ (fun b o q=>PySem.W.of_hideAll _ q) (Gm _ (.head _)) fun h' x=>?_
 obtain⟨T',y⟩:=Tu hid hl x;exact hQ h' T' y
end
def HOk.there {P:Program} {w:World} {H:Hp} {h:Heap} {a:Addr} {o:HO} (x:HOk P w H h) (q:H a=some o):∃ob,h.get? a=some ob:=by
 have this:=x a o q;cases e:h.get? a with
 |some ob=>exact⟨ob,rfl⟩
 |none=>
  exfalso
  cases o with
  |lst xs=>obtain⟨_,_,_,_,z⟩:=this;rw[e]at z;cases z
  |tup xs=>obtain⟨_,_,_,o1,z,_⟩:=this;rw[e]at z;cases z
  |dK kvs=>obtain⟨_,_,_,_,o,_,_,z,_⟩:=this;rw[e]at z;cases z
  |dT kvs=>obtain⟨_,_,_,_,o,_,_,z,_⟩:=this;rw[e]at z;cases z
  |set S n=>obtain⟨o,_,_,_,z,_⟩:=this;rw[e]at z;cases z
  |ins C dx fs=>obtain⟨_,_,_,z,_⟩:=this;rw[e]at z;cases z
  |own y=>obtain⟨_,z⟩:=this;rw[e]at z;cases z
  |xd fs=>obtain⟨_,⟨_,_,_,z,_⟩,_⟩:=this;rw[e]at z;cases z
  |rng lo hi=>obtain⟨_,_,_,z⟩:=this;rw[e]at z;cases z
  |frz ob u=>obtain⟨z,_⟩:=this;rw[e]at z;cases z
  |tbl ps=>have z:h.get? a=some _:=this;rw[e]at z;cases z
  |met f y=>have z:h.get? a=some _:=this;rw[e]at z;cases z
  |ext φ=>obtain⟨_,⟨_,z⟩,_⟩:=this;rw[e]at z;cases z
def XT (P:Program) (w:World):jR:=fun outer H s E e s'=> ∃(a T:Addr) (cls a0:Value) (H':Hp),e=.ref a/\s'.os=s.os/\AllBare s'.gens/\Un (yP outer) [] H H' s.heap s'.heap/\HOk P w H' s'.heap/\
 s.heap.get? a=none/\s.heap.get? T=none/\H' a=none/\H' T=none/\Trc s'.heap a T cls a0/\E cls none H'
section
variable {P:Program} {w:World} {K:FG} {mg:Str->Option Value} {base:Heap} {N:List Str} {qual:Str} {scope:Scope} {f:Addr} {cd:Value} {A:Around} {outer:List Env} {s0:Shared} {H0:Hp} {E:XK}
def Inv.left {X:Cx} {pins:AL} {σ:St} {H:Hp} {s:Shared} {hid:List Addr} {a T':Addr} {cls a0:Value} {h':Heap} (hst:X.stack=X.env::X.outer) (hex:X.ex=[]) (I:Inv X pins σ H s) (y:Left X.stack hid a T' cls a0 s.heap h')
  (hh:∀b∈hid,(b∈yP X.stack\/X.s₀.heap.get? b=none)/\H b=none):
  Un X.fs [] X.H₀ H X.s₀.heap h'/\HOk X.prog X.w H h'/\X.s₀.heap.get? T'=none/\H T'=none:=by
 have hfo:∀b o,X.s₀.heap.get? b=some o->b∉X.fs->b∉yP X.stack:=fun b o e n hb=>by
  rcases Af.mp (I.stkSub b hb) with z|z
  .have h1:=Aj e
   have h2:=I.ok.above;rw[z]at h1;exact absurd (Bk h1 h2) (Cb _)
  .exact n z
 have nh:∀b o,X.s₀.heap.get? b=some o->b∉X.fs->b∉hid:=fun b o e n hb=>by
  rcases (hh b hb).1 with z|z
  .exact hfo b o e n z
  .rw[e]at z;cases z
 have fsub:∀b∈X.fs,b∈yP X.stack:=fun b hb=>by
  rw[hst];obtain⟨v,hv,e⟩:=Ew.mp hb;exact Ew.mpr ⟨v,.tail _ hv,e⟩
 have U:=I.base;rw[hex]at U;have no:∀b:Addr,b∉([]:List Addr):=fun b z=>nomatch z
 have anyway:∀b o,s.heap.get? b=some o->(b∉hid\/b∈yP X.stack)->∃o',h'.get? b=some o':=fun b o e d=>by
  rcases d with d|d
  .exact⟨o,y.keep b o e d⟩
  .obtain⟨sl,q⟩:=y.slot b o e d
   exact⟨_,q⟩
 refine⟨⟨fun b o e n hb _=>y.keep b o (U.keep b o e n hb (no b)) (nh b o e hb),fun b o e n hb _=>?_,U.free,fun b o e _=>?_,U.tups,U.frzs,U.tbls⟩,fun b o e=>?_,?_,?_⟩
 .obtain⟨sl,q⟩:=U.slot b o e n hb (no b)
  obtain⟨sl',q'⟩:=y.slot b _ q (fsub b hb);exact⟨sl',q'⟩
 .obtain⟨o',q⟩:=U.there b o e (no b)
  refine anyway b o' q ?_
  by_cases z:b∈X.fs
  .exact .inr (fsub b z)
  .exact .inl (nh b o e z)
 .refine (I.hok b o e).stay (fun c u hc ec=>y.keep c u ec fun hm=>?_) (fun _ z=>z) fun _ _ z=>z
  have:=(hh c hm).2
  rcases hc with z|z
  .rw[z,e]at this;cases this
  .rw[z]at this;cases this
 .cases q:X.s₀.heap.get? T' with
  |none=>rfl
  |some o=>
   exfalso
   obtain⟨o',q'⟩:=U.there T' o q (no T')
   by_cases z:T'∈X.fs
   .exact y.nfr (fsub _ z)
   .exact y.new T' o' q' (nh T' o q z) rfl
 .cases q:H T' with
  |none=>rfl
  |some o=>
   exfalso
   obtain⟨ob,hob⟩:=I.hok.there q
   refine y.new T' ob hob (fun hm=>?_) rfl
   have:=(hh T' hm).2;rw[q]at this;cases this
theorem ji:qV (XT P w) (cxOf (XT P w) P w K mg base N qual scope f cd A outer s0 H0 E) E:=by
 intro pins σ H s e s' I hx;obtain⟨a,T,cls,a0,H',rfl,os,bare,un,hok,na,nT,ha,hT,tr,q⟩:=hx;have I':Inv (cxOf (XT P w) P w K mg base N qual scope f cd A outer s0 H0 E) pins σ H' s':=I.call' os un hok bare fun b z=>nomatch z
 have old:∀b,s.heap.get? b=none->s0.heap.get? b=none:=fun b e=>by
  cases z:s0.heap.get? b with
  |none=>rfl
  |some o=>
   obtain⟨o',q'⟩:=I.base.there b o z fun y=>nomatch y
   rw[e]at q';cases q'
 refine Tv (base:=base) (L:=s0.heap.objs.size) I'.ok.frames I'.stack rfl tr fun h' T' y=>?_
 obtain⟨u,hk,n1,n2⟩:=I'.left rfl rfl y fun b hb=>by
  rcases Af.mp hb with z|hb
  .rw[z];exact⟨.inr (old a na),ha⟩
  .rcases Af.mp hb with z|hb
   .rw[z];exact⟨.inr (old T nT),hT⟩
   .exact⟨.inl hb,I'.stkFree b hb⟩
 exact⟨a,T',cls,a0,H',rfl,I'.os,I'.bare,u,hk,old a na,n1,ha,n2,y.trc,q⟩
end
def Fun.okX {P:Program} {w:World} {K:FG} {mg:Str->Option Value} {base:Heap} {x qual:Str} {st:Stmt} {f:Addr} {fd:FuncData} {N ps:List Str} {k:Nat} {sp:Sp} (F:Fun K x qual st f fd) (S:FnScope N ps (zA st)) (len:∀vs H Q E,sp vs H Q E->vs.length=ps.length)
  (hbody:∀(cdv:Value) (A:Around) (outer:List Env) (s:Shared) (H:Hp) (vs:List V) (Q:VK) (E:XK),Room k (A.deeper (envOfC qual (zA st) s.heap.objs.size f cdv))->sp vs H Q E->
   ∃t,yW (cxOf (XT P w) P w K mg base N qual (zA st) f cdv A outer s H E) (CK st) t/\t {nx:=fun _ H'=>Q .non H',rt:=Q} (start N vs) H):FnOk P w K mg base (XT P w) (k+1) f fd ps sp:=by
 obtain⟨oc,od,kV,doc,pm,an,cdv,ct,osl,rfl,lk,hcd⟩:=F.ex;exact RA lk hcd S len fun A outer s H vs Q E hr hsp=>hbody cdv A outer s H vs Q E hr hsp
end L2
namespace L3
open PySem PySem.Spec PyProof.Rows L2
abbrev F3:=List V3->H3->Res Vl
noncomputable def start3 (n:Nat) (vs:List V3):S3:=vs.map (fun x=>some (.v x))++List.replicate (n-vs.length) none
noncomputable def O3.res:O3->Res Vl
 |.nx _ h=>.ok (.v .non) h
 |.rt r h=>.ok r h
 |.ex x h=>.ex x h
 |_=>.no
def fun3 (k n:Nat) (b:D3):F3:=fun vs h=>if vs.length=k then (b (start3 n vs) h).res else .no
def Tw (κ:Kx) (N:Addr->Prop) (O:Addr->Prop) (β:AO) (h:H3) (H:Hp):Vl->V->Prop
 |.v x,v=>RelH κ O β h H/\Rep κ β O H x v
 |.m c,v=> ∃p,v=.ref p/\RelH κ (fun a=>a=p\/O a) β h H/\CellR κ β (fun a=>a=p\/O a) H c p/\N p/\¬O p
def FOut (κ:Kx) (E:XK) (O:Addr->Prop) (β:AO) (H:Hp) (Q:VK):Res Vl->Prop
 |.ok r h'=> ∀β' v H',Ext No β H β' H'->Tw κ (Nw H) O β' h' H' r v->Q v H'
 |.ex x h'=> ∀β' H',Ext No β H β' H'->RelH κ O β' h' H'->XOk κ E x H'
 |.no=>False
def zo (κ:Kx) (k:Nat) (f:F3):Sp:=fun vs H Q E=> ∃O β vs3 h3,vs.length=k/\RelH κ O β h3 H/\Reps κ β O H vs3 vs/\FOut κ E O β H Q (f vs3 h3)
section
variable {X:Cx} {κ:Kx} {E:XK} {F F1 F2 F':Fr} {σ σ':L2.St} {H H1 H2 H':Hp} {Q:VK} {p:Addr} {e a b o:Expr} {pos apos np:Pos} {i:Nat} {D:Ends}
def jK {a:Addr} {n:Nat}:some a∉List.replicate n (none:Option Addr):=fun h=>by cases (List.mem_replicate.mp h).2
def Tx {n:Nat} {vs3:List V3} {i:Nat} {x:Vl} (h:(start3 n vs3)[i]? =some (some x)):∃y,vs3[i]? =some y/\x=.v y:=by
 unfold start3 at h
 by_cases hi:i<vs3.length
 .rw[Bg (by simpa using hi),Ba]at h
  cases q:vs3[i]? with
  |none=>rw[q]at h;cases h
  |some y=>rw[q]at h;cases h;exact⟨y,rfl,rfl⟩
 .rw[Bl (by simpa using hi)]at h
  have:=List.mem_replicate.mp (Al h);cases this.2
def Tz {O:Addr->Prop} {β:AO} {vs3:List V3} {vs:List V} {h3:H3} {N:List Str} (rh:RelH κ O β h3 H) (rv:Reps κ β O H vs3 vs) (hN:vs.length<=N.length):
  Rel κ ⟨O,[],β,List.replicate N.length none,start3 N.length vs3,h3⟩ (L2.start N vs) H:=by
 have hO:∀a,(⟨O,[],β,List.replicate N.length none,start3 N.length vs3,h3⟩:Fr).O a->O a:=fun a ha=>by
  rcases ha with z|z|z
  .cases z
  .exact absurd z jK
  .exact z
 have hl:=rv.length
 refine⟨rh.sub hO,?_,?_,fun i j a h=>?_,fun a ha=>absurd ha jK,fun a ha=>absurd ha jK,fun a ha=>(by cases ha),D1,fun i x hx=>?_⟩
 .show (start3 N.length vs3).length=_
  unfold start3 L2.start;simp only[As,Ae,Ds];lia
 .show (List.replicate N.length (none:Option Addr)).length=(start3 N.length vs3).length
  unfold start3;simp only[As,Ae,Ds];lia
 .exact absurd (Al h) jK
 .obtain⟨y,hy,rfl⟩:=Tx hx
  obtain⟨v,hv,r⟩:=rv.get hy
  refine⟨v,?_,Rep.sub hO r⟩
  unfold L2.start;have hi:i<vs.length:=(Ao.mp hv).1;rw[Bg (by simpa using hi),Ba,hv];rfl
def z7 {P:Program} {w:World} {K:FG} {mg:Str->Option Value} {base:Heap} {x qual:Str} {st:Stmt} {f:Addr} {fd:FuncData} {N ps:List Str} {k:Nat} {b:D3} (Fn:Fun K x qual st f fd) (S:FnScope N ps (zA st))
  (hb:∀(cdv:Value) (A:Around) (outer:List Env) (s:Shared) (H:Hp) (E:XK),Room k (A.deeper (envOfC qual (zA st) s.heap.objs.size f cdv))->
   yW (cxOf (XT P w) P w K mg base N qual (zA st) f cdv A outer s H E) (CK st) (zt κ E b)):FnOk P w K mg base (XT P w) (k+1) f fd ps (zo κ ps.length (fun3 ps.length N.length b)):=by
 refine Fn.okX S (fun vs H Q E h=>?_) fun cdv A outer s H vs Q E hr h=>?_
 .obtain⟨_,_,_,_,h,_⟩:=h;exact h
 .obtain⟨O,β,vs3,h3,hl,rh,rv,o⟩:=h
  have hpl:ps.length<=N.length:=by have:=congrArg List.length S.pre;rw[Bc]at this;lia
  have rel:=Tz (N:=N) rh rv (by lia)
  refine⟨zt κ E b,hb cdv A outer s H E hr,_,rel,rfl,?_⟩
  unfold fun3 at o;rw[Ac (by rw[rv.length];exact hl)]at o
  generalize hF:(⟨O,[],β,List.replicate N.length none,start3 N.length vs3,h3⟩:Fr)=F0 at rel;have e0:F0.s=start3 N.length vs3/\F0.h=h3/\F0.β=β/\F0.Oi=O/\∀a,some a∉F0.l:=by subst hF;exact⟨rfl,rfl,rfl,rfl,fun a=>jK⟩
  obtain⟨es,eh,eb,eo,el⟩:=e0;rw[es,eh];have ext:∀{F':Fr} {H':Hp},SExt F0 H F' H'->Ext No β H F'.β H':=fun {F' H'} se=>⟨fun a u h n _=>se.ext.keep a u h (by rw[eb];exact n) (el a),by rw[<-eb];exact se.ext.len,fun i a hi h=>by
   have:=se.ext.bet i a (by rw[eb];exact hi) h
   rw[eb]at this;exact this,se.ext.there,fun i a hi h=>se.ext.nwb i a (by rw[eb];exact hi) h⟩
  have hO:∀{F':Fr} {H':Hp},SExt F0 H F' H'->∀a,O a->F'.O a:=fun {F' H'} se a ha=>.inr (.inr (by rw[se.oi,eo];exact ha))
  cases q:b (start3 N.length vs3) h3 with
  |nx s1 h1=>
   rw[q]at o;exact fun F' σ' H' se _ h' r'=>o F'.β .non H' (ext se) ⟨by rw[<-h'];exact r'.heap.sub (hO se),.non⟩
  |rt r h1=>
   rw[q]at o;intro F' σ' v H' se h' p
   refine o F'.β v H' (ext se) ?_
   cases r with
   |v x=>exact⟨by rw[<-h'];exact p.1.heap.sub (hO se),Rep.sub (hO se) p.2⟩
   |m c=>
    obtain⟨p,h1,h2,h3',h4⟩:=p;have hs:∀a,a=p\/O a->(F'.with p).O a:=fun a ha=>ha.elim (fun z=>.inl (by rw[z];exact Ak)) fun z=>Fr.O_with (hO se a z)
    refine⟨p,h1,by rw[<-h'];exact h2.heap.sub hs,h3'.sub hs,h4.elim (fun z=>absurd z (el p)) id,fun z=>h2.apart (hO se p z)⟩
  |bk s1 h1=>rw[q]at o;exact (show False from o).elim
  |ct s1 h1=>rw[q]at o;exact (show False from o).elim
  |no=>rw[q]at o;exact o
  |ex x h1=>
   rw[q]at o;intro F' H' se r';exact o F'.β H' (ext se) (by rw[se.oi,eo]at r';exact r')
def Rel.nextNew {β':AO} {h':H3} (r:Rel κ F σ H) (e:Ext No F.β H β' H') (rh:RelH κ (fun a=>a=p\/F.O a) β' h' H') (hp:H p=none):Rel κ ((F.to β' h').with p) σ H':=by
 have n2: ¬F.O p:=(r.heap.off_new hp).2;have ho:∀a,((F.to β' h').with p).O a->a=p\/F.O a:=fun a ha=>by
  rcases ha with z|z
  .rcases Af.mp z with z|z
   .exact .inl z
   .exact .inr (.inl z)
  .exact .inr (.inr z)
 have hO:∀a u,H a=some u->¬F.O a->¬((F.to β' h').with p).O a:=fun a u ha n z=>(ho a z).elim (fun w=>by subst w;rw[hp]at ha;cases ha) n
 refine⟨rh.sub ho,r.slen,r.llen,r.linj,fun a ha z=>?_,r.lo,fun a ha z=>?_,Bi.mpr ⟨fun z=>n2 (.inl z),r.tn⟩,fun i x q=>?_⟩
 .rcases Af.mp z with z|z
  .subst z;exact n2 (.inr (.inl ha))
  .exact r.lt a ha z
 .rcases Af.mp ha with h|h
  .subst h;exact n2 (.inr (.inr z))
  .exact r.to a h z
 .obtain⟨v,h1,h2⟩:=r.slot i x q
  refine⟨v,h1,?_⟩
  cases x with
  |v x=>exact Rep.ext e (fun _ z=>z.elim) hO h2
  |m c=>
   obtain⟨a,a1,a2,a3⟩:=h2;have ha:F.O a:= .inr (.inl (Al a1));exact⟨a,a1,a2,a3.ext e (fun _ z=>z.elim) hO fun u hu=>(e.keep a u hu (r.heap.off a ha) fun z=>z).1⟩
def FOut.of {r:Res Vl} (rel:Rel κ F σ H) (o:Out κ E (kE κ) F σ H Q r):FOut κ E F.O F.β H Q r:=by
 cases r with
 |no=>exact o
 |ex x h'=>exact fun β' H' e r'=>o β' H' e (r'.sub fun a ha=>.inr (.inr ha))
 |ok r h'=>
  intro β' v H' e q
  refine o β' v H' e ?_
  cases r with
  |v x=>exact⟨rel.next e q.1,q.2⟩
  |m c=>
   obtain⟨p,h1,h2,h3,h4,h5⟩:=q;have ho:∀a,((F.to β' h').with p).O a->a=p\/F.O a:=fun a ha=>by
    rcases ha with z|z
    .rcases Af.mp z with z|z
     .exact .inl z
     .exact .inr (.inl z)
    .exact .inr (.inr z)
   exact⟨p,h1,rel.nextNew e h2 h4,h3.sub ho,h4⟩
def eCall (f:F3) (a:A3):E3:=fun s h=>(a s h).bind fun fs h1=>match vals3 fs with
 |some vs=>f vs h1
 |none=>.no
def zq (f:F3) (k:Nat):Prop:=∀vs h,vs.length≠k->f vs h=.no
def zx {k n:Nat} {b:D3}:zq (fun3 k n b) k:=fun vs h e=>Ab e
def T1 {f:F3} {t:A3} {k:Nat} (hf:zq f k) (h:zk κ E (eCall f t) σ H Q):LX (zo κ k f) [] E (zP κ E t) σ H Q:=by
 obtain⟨F,rel,o⟩:=h
 refine (ym (K:=kA κ) z6 rel o).mono fun vs H1 zz136 => ?_
 obtain ⟨β1,h1,fs,e1,⟨r1,rf1⟩,o1⟩ := zz136
 cases q:vals3 fs with
 |none=>simp only[q]at o1;exact o1.elim
 |some xs=>
  simp only[q]at o1;have hr:=CM rf1 q;rw[B4]
  refine⟨F.O,β1,xs,h1,?_,r1.heap,hr,FOut.of r1 o1⟩
  refine Gs fun n=>?_
  rw[hf xs h1 (by rw[hr.length];exact n)]at o1
  exact o1
def EY {x:Str} {es:List Expr} {f:F3} {t:A3} {k:Nat} {fa:Addr} {fd:FuncData} {ps:List Str} {n:Nat} (hf:zq f n) (Fk:FnOk X.prog X.w X.K X.mg X.base (XT X.prog X.w) k fa fd ps (zo κ n f)) (hr:Room k X.A) (hg:Gl X x) (hm:X.mg x=some (.ref fa)) (hk:PySem.W.keepIn X.K (.ref fa)=true) (hb:Binds X.K fd ps []) (hx:qV (XT X.prog X.w) X E)
 (ha:PA X (e::es) (zP κ E t)) (hdb:(x==("__debug__" :Str))=false:=by decide) (he:SE X e es:=by rfl) (hpl:BA X pos es:=by rfl):
 PE X (.Call (.Name x np) (e::es) [] pos) (zk κ E (eCall f t)):=yK (R4 Fk hr hg hm hk hb .nil hx ha hdb he hpl) fun _ _ _ h=>T1 hf h
def EZ:qV (XT X.prog X.w) X E0:=fun pins σ H s e s' I h=>by
 obtain⟨_,_,_,_,_,_,_,_,_,_,_,_,_,_,_,q⟩:=h;exact q.elim
end
section
variable {X:Cx} {κ:Kx} {E:XK} {F:Fr} {σ:L2.St} {H H':Hp} {Q:VK} {p:Addr} {pos:Pos} {i:Nat}
noncomputable def oI (g:Int->Int->Option V3):F2:=fun _ _ x y=>match x,y with
 |.x (.int i),.x (.int j)=>(g i j).map .v
 |_,_=>none
def Nd {g:Int->Int->Option V3} {s:S3} {h:H3} {x y:Rf} {z:Vl} (e:oI g s h x y=some z):∃i j w,x=.x (.int i)/\y=.x (.int j)/\g i j=some w/\z=.v w:=by
 unfold oI at e
 split at e
 .rename_i i j
  cases q:g i j with
  |none=>rw[q]at e;cases e
  |some w=>rw[q]at e;cases e;exact⟨i,j,w,rfl,rfl,q,rfl⟩
 .cases e
def DI {gv:Int->Int->V} {g:Int->Int->Option V3} (hg:∀i j z,g i j=some z->∀β O H,Rep κ β O H z (gv i j)):OpSim κ (qK gv) (oI g):=fun F σ H x y z v w Q rel rx ry e k=>by
 obtain⟨i,j,u,rfl,rfl,q,rfl⟩:=Nd e;cases (show Rep κ F.β F.O H (.int i) v from rx)
 cases (show Rep κ F.β F.O H (.int j) w from ry)
 exact⟨i,j,rfl,rfl,k _ H Ext.refl ⟨rel,hg i j u q _ _ _⟩⟩
def FA {C:Int->Int->Prop} {gv:Int->Int->V} {g:Int->Int->Option V3} (hg:∀i j z,g i j=some z->C i j/\∀β O H,Rep κ β O H z (gv i j)):OpSim κ (rI C gv) (oI g):=fun F σ H x y z v w Q rel rx ry e k=>by
 obtain⟨i,j,u,rfl,rfl,q,rfl⟩:=Nd e;cases (show Rep κ F.β F.O H (.int i) v from rx)
 cases (show Rep κ F.β F.O H (.int j) w from ry)
 exact⟨i,j,rfl,rfl,(hg i j u q).1,k _ H Ext.refl ⟨rel,(hg i j u q).2 _ _ _⟩⟩
instance {i j:Int}:Decidable (CMul i j):=inferInstanceAs (Decidable (_\/_))
instance {i j:Int}:Decidable (CDiv i j):=inferInstanceAs (Decidable (_/\_))
instance {i j:Int}:Decidable (CPow i j):=inferInstanceAs (Decidable (_/\_))
def BD:F2:=oI fun i j=>some (.int (i+j))
def zL:F2:=oI fun i j=>some (.int (i-j))
def Hu:F2:=oI fun i j=>if CMul i j then some (.int (i*j)) else none
def yc:F2:=oI fun i j=>if CDiv i j then some (.int (i / j)) else none
def zE:F2:=oI fun i j=>if 0<j then some (.int (i%j)) else none
def oPow:F2:=oI fun i j=>if CPow i j then some (.int (i ^ j.toNat)) else none
def oShr:F2:=oI fun i j=>if 0<=j then some (.int (i / 2 ^ j.toNat)) else none
def Ji:F2:=oI fun i j=>some (.int (Builtin.bitAnd i j))
def qN:F2:=oI fun i j=>some (.bl (decide (i<j)))
def je:F2:=oI fun i j=>some (.bl (decide (i<=j)))
def qx:F2:=oI fun i j=>some (.bl (decide (j<i)))
def oGe:F2:=oI fun i j=>some (.bl (decide (j<=i)))
def sim_addI:OpSim κ (qK fun i j=>.int (i+j)) BD:=DI fun i j z e=>by cases e;exact fun _ _ _=>.int _
def qu:OpSim κ (qK fun i j=>.int (i-j)) zL:=DI fun i j z e=>by cases e;exact fun _ _ _=>.int _
def T2:OpSim κ (qK fun i j=>.int (Builtin.bitAnd i j)) Ji:=DI fun i j z e=>by cases e;exact fun _ _ _=>.int _
def AG:OpSim κ (qK fun i j=>.bl (decide (i<j))) qN:=DI fun i j z e=>by cases e;exact fun _ _ _=>.bl _
def AH:OpSim κ (qK fun i j=>.bl (decide (i<=j))) je:=DI fun i j z e=>by cases e;exact fun _ _ _=>.bl _
def jP:OpSim κ (qK fun i j=>.bl (decide (j<i))) qx:=DI fun i j z e=>by cases e;exact fun _ _ _=>.bl _
def qO {c:Prop} [Decidable c] {α:Type} {x z:α} (e:(if c then some x else none)=some z):c/\x=z:=by
 by_cases h:c
 .rw[Ac h]at e;exact⟨h,Option.some.inj e⟩
 .rw[Ab h]at e;cases e
def sim_mulI:OpSim κ (rI CMul fun i j=>.int (i*j)) Hu:=FA fun i j z e=>by obtain⟨h,rfl⟩:=qO e;exact⟨h,fun _ _ _=>.int _⟩
def qq:OpSim κ (rI CDiv fun i j=>.int (i / j)) yc:=FA fun i j z e=>by obtain⟨h,rfl⟩:=qO e;exact⟨h,fun _ _ _=>.int _⟩
def yC:OpSim κ (rI (fun _ j=>0<j) fun i j=>.int (i%j)) zE:=FA fun i j z e=>by obtain⟨h,rfl⟩:=qO e;exact⟨h,fun _ _ _=>.int _⟩
def T4:OpSim κ (rI CPow fun i j=>.int (i ^ j.toNat)) oPow:=FA fun i j z e=>by obtain⟨h,rfl⟩:=qO e;exact⟨h,fun _ _ _=>.int _⟩
def T5:OpSim κ (rI (fun _ j=>0<=j) fun i j=>.int (i / 2 ^ j.toNat)) oShr:=FA fun i j z e=>by obtain⟨h,rfl⟩:=qO e;exact⟨h,fun _ _ _=>.int _⟩
def qG (f g:F2):F2:=fun s h x y=>match f s h x y with
 |some z=>some z
 |none=>g s h x y
def OpSim.or {r r':R2} {f g:F2} (hf:OpSim κ r f) (hg:OpSim κ r' g):OpSim κ (fun x y H Q=>r x y H Q\/r' x y H Q) (qG f g):=fun F σ H x y z v w Q rel rx ry e k=>by
 unfold qG at e;cases q:f F.s F.h x y with
 |some u=>rw[q]at e;cases e;exact .inl (hf F σ H x y _ v w Q rel rx ry q k)
 |none=>rw[q]at e;exact .inr (hg F σ H x y z v w Q rel rx ry e k)
noncomputable def Hv:F2:=fun _ _ x y=>match x,y with
 |.x (.str i),.x (.str j)=>if i.length+j.length<=sizeLine then some (.v (.str (i++j))) else none
 |_,_=>none
def sim_addS:OpSim κ (fun x y H Q=> ∃i j,x=.str i/\y=.str j/\i.length+j.length<=sizeLine/\Q (.str (i++j)) H) Hv:=fun F σ H x y z v w Q rel rx ry e k=>by
 unfold Hv at e
 split at e
 .rename_i i j
  obtain⟨h,rfl⟩:=qO e;cases (show Rep κ F.β F.O H (.str i) v from rx)
  cases (show Rep κ F.β F.O H (.str j) w from ry)
  exact⟨i,j,rfl,rfl,h,k _ H Ext.refl ⟨rel,.str _⟩⟩
 .cases e
def rdm (s:S3) (h:H3):Rf->Option (List V3)
 |.x (.scr _)=>none
 |f=>rdl s h f
def CO {f:Rf} {v:V} {xs:List V3} (rel:Rel κ F σ H) (r:RfR κ F H f v) (e:rdm F.s F.h f=some xs):∃a ys,v=.ref a/\H a=some (.lst ys)/\Reps κ F.β F.O H xs ys:=by
 cases f with
 |s i=>
  have e:rdl F.s F.h (.s i)=some xs:=e;obtain⟨a,c,h1,h2,h3,h4⟩:=r;simp only[rdl,h3]at e;cases c<;>simp at e
  subst e;obtain⟨ys,h5,h6⟩:=h4;exact⟨a,ys,h2,h5,h6⟩
 |x y=>
  cases y<;>simp[rdm,rdl]at e
  case lst zs=>
   subst e;cases r with
   |lst h1 h2 h3 h4=>exact⟨_,_,rfl,h1,h4⟩
  case loc n=>
   cases r with
   |loc h1 h2=>
    cases q:F.h[n]? with
    |none=>rw[q]at e;cases e
    |some c=>
     rw[q]at e;cases c<;>simp at e
     subst e
     rcases rel.heap.cell n _ q with z|⟨a,ha,ys,h5,h6⟩
     .cases z
     .exact⟨a,ys,h2 a ha,h5,h6⟩
def oCat:F2:=fun s h x y=>match rdm s h x,rdm s h y with
 |some xs,some ys=>if xs.length+ys.length<=sizeLine then some (.m (.lst (xs++ys))) else none
 |_,_=>none
def T6:OpSim κ rCat oCat:=fun F σ H x y z v w Q rel rx ry e k=>by
 unfold oCat at e;cases q1:rdm F.s F.h x with
 |none=>rw[q1]at e;cases e
 |some xs=>
  cases q2:rdm F.s F.h y with
  |none=>rw[q1,q2]at e;cases e
  |some ys=>
   rw[q1,q2]at e;obtain⟨h,rfl⟩:=qO e;obtain⟨a,us,rfl,ha,ra⟩:=CO rel rx q1;obtain⟨b,ws,rfl,hb,rb⟩:=CO rel ry q2;exact⟨a,b,us,ws,rfl,rfl,ha,hb,by rw[<-ra.length,<-rb.length];exact h,fun p hp=>k _ _ (qd hp) (Post.lst rel hp (ra.append rb))⟩
def zy:F2:=qG BD (qG Hv oCat)
def yq:OpR X (binaryOp .Add) (fun x y H Q=>(qK fun i j=>.int (i+j)) x y H Q\/((fun x y H Q=> ∃i j,x=.str i/\y=.str j/\i.length+j.length<=sizeLine/\Q (.str (i++j)) H) x y H Q\/rCat x y H Q)):=op_add.or (op_add_str.or RZ)
def yp:OpSim κ (fun x y H Q=>(qK fun i j=>.int (i+j)) x y H Q\/((fun x y H Q=> ∃i j,x=.str i/\y=.str j/\i.length+j.length<=sizeLine/\Q (.str (i++j)) H) x y H Q\/rCat x y H Q)) zy:=sim_addI.or (sim_addS.or T6)
def oRep:F2:=fun s h x y=>match rdm s h x,y with
 |some xs,.x (.int k)=>if -(2 ^ 63)<=k/\k<2 ^ 63/\xs.length*k.toNat<=sizeLine then some (.m (.lst (List.replicate k.toNat xs).flatten)) else none
 |_,_=>none
def T7:OpSim κ rRep oRep:=fun F σ H x y z v w Q rel rx ry e k=>by
 unfold oRep at e
 split at e
 .rename_i xs n q
  obtain⟨⟨h1,h2,h3⟩,rfl⟩:=qO e;obtain⟨a,us,rfl,ha,ra⟩:=CO rel rx q;cases (show Rep κ F.β F.O H (.int n) w from ry)
  exact⟨a,n,us,rfl,rfl,ha,h1,h2,by rw[<-ra.length];exact h3,fun p hp=>k _ _ (qd hp) (Post.lst rel hp (ra.rep _))⟩
 .cases e
def zW:F2:=qG Hu oRep
def qC:OpR X (binaryOp .Mult) (fun x y H Q=>(rI CMul fun i j=>.int (i*j)) x y H Q\/rRep x y H Q):=op_mul.or Sb
def qr:OpSim κ (fun x y H Q=>(rI CMul fun i j=>.int (i*j)) x y H Q\/rRep x y H Q) zW:=sim_mulI.or T7
theorem Reps.atI {xs:List V3} {ys:List V} {i:Int} {x:V3} (r:Reps κ F.β F.O H xs ys) (e:atI xs i=some x):∃y,L2.atI ys i=some y/\Rep κ F.β F.O H x y:=by
 unfold L2.atI at e ⊢;rw[<-r.length];cases q:qp xs.length i with
 |none=>rw[q]at e;cases e
 |some j=>
  rw[q]at e;exact r.get e
def yT:F2:=fun s h x y=>match y with
 |.x (.int i)=>match rdl s h x with
  |some xs=>(atI xs i).map .v
  |none=>none
 |_=>none
def oIxT:F2:=fun _ _ x y=>match x,y with
 |.x (.tup xs),.x (.int i)=>(atI xs i).map .v
 |_,_=>none
def oIxS:F2:=fun _ _ x y=>match x,y with
 |.x (.str z),.x (.int i)=>if z.length<=sizeLine then (atI z.cps.toList i).map fun c=>.v (.str ⟨#[c]⟩) else none
 |_,_=>none
def sim_ixL:OpSim κ (rIxL κ.K) yT:=fun F σ H x y z v w Q rel rx ry e k=>by
 unfold yT at e
 split at e
 .rename_i i
  cases (show Rep κ F.β F.O H (.int i) w from ry)
  cases q:rdl F.s F.h x with
  |none=>rw[q]at e;cases e
  |some xs=>
   rw[q]at e;cases q2:atI xs i with
   |none=>simp only[q2]at e;cases e
   |some u=>
    simp only[q2]at e;cases e;obtain⟨a,us,rfl,sq,ra⟩:=jT rel rx q;obtain⟨y,hy,ry'⟩:=Reps.atI ra q2;exact⟨a,us,i,y,rfl,rfl,sq,hy,k _ H Ext.refl ⟨rel,ry'⟩⟩
 .cases e
def sim_ixT:OpSim κ (rIxT κ.K) oIxT:=fun F σ H x y z v w Q rel rx ry e k=>by
 unfold oIxT at e
 split at e
 .rename_i xs i
  cases (show Rep κ F.β F.O H (.int i) w from ry)
  cases q2:atI xs i with
  |none=>rw[q2]at e;cases e
  |some u=>
   rw[q2]at e;cases e;cases (show Rep κ F.β F.O H (.tup xs) v from rx) with
   |tup h1 h2 h3 h4=>
    obtain⟨y,hy,ry'⟩:=Reps.atI h4 q2;exact⟨_,_,i,y,rfl,rfl,.of h1,hy,k _ H Ext.refl ⟨rel,ry'⟩⟩
 .cases e
def T8:OpSim κ rIxS oIxS:=fun F σ H x y z v w Q rel rx ry e k=>by
 unfold oIxS at e
 split at e
 .rename_i zz i
  cases (show Rep κ F.β F.O H (.int i) w from ry)
  cases (show Rep κ F.β F.O H (.str zz) v from rx)
  obtain⟨h,e⟩:zz.length<=sizeLine/\((atI zz.cps.toList i).map fun c=>Vl.v (.str ⟨#[c]⟩))=some z:=by
   by_cases h:zz.length<=sizeLine
   .rw[Ac h]at e;exact⟨h,e⟩
   .rw[Ab h]at e;cases e
  cases q2:atI zz.cps.toList i with
  |none=>rw[q2]at e;cases e
  |some c=>
   rw[q2]at e;cases e;exact⟨zz,i,c,rfl,rfl,h,q2,k _ H Ext.refl ⟨rel,.str _⟩⟩
 .cases e
def zn:F2:=qG oIxT (qG yT oIxS)
def Nf (hK:X.K=κ.K):IxR X (fun x y H Q=>rIxT κ.K x y H Q\/(fun x y H Q=>rIxL κ.K x y H Q\/rIxS x y H Q) x y H Q):=by
 rw[<-hK];exact ix_tup.or (ix_list.or RP)
def Ng:OpSim κ (fun x y H Q=>rIxT κ.K x y H Q\/(fun x y H Q=>rIxL κ.K x y H Q\/rIxS x y H Q) x y H Q) zn:=sim_ixT.or (sim_ixL.or T8)
noncomputable def oIsN (neg:Bool):F2:=fun _ _ x y=>match x,y with
 |.x .non,.x .non=>some (.v (.bl (!neg)))
 |.x (.loc _),_=>none
 |.x _,.x .non=>some (.v (.bl neg))
 |.s _,.x .non=>some (.v (.bl neg))
 |_,_=>none
def T9 {x:V3} {v:V} (r:Rep κ F.β F.O H x v) (h:x≠ .non) (h2:∀n,x≠ .loc n):v≠ .non:=by
 cases r<;>first|(intro z;cases z;done)|(exact absurd rfl h)|(exact absurd rfl (h2 _))
def Nh {neg:Bool} {s:S3} {h:H3} {x y:Rf} {z:Vl} {v w:V} (e:oIsN neg s h x y=some z) (rx:RfR κ F H x v) (ry:RfR κ F H y w):w=.non/\z=.v (.bl (if neg then !decide (v=.non) else decide (v=.non))):=by
 unfold oIsN at e
 split at e
 .cases e
  cases (show Rep κ F.β F.O H .non v from rx)
  cases (show Rep κ F.β F.O H .non w from ry)
  exact⟨rfl,by cases neg<;>simp⟩
 .cases e
 .rename_i x h1 h2
  cases e;cases (show Rep κ F.β F.O H .non w from ry)
  have hv:v≠ .non:=T9 (show Rep κ F.β F.O H x v from rx) (fun z=>by subst z;exact h1 rfl) (fun n z=>by subst z;exact h2 n rfl)
  exact⟨rfl,by cases neg<;>simp[hv]⟩
 .cases e
  cases (show Rep κ F.β F.O H .non w from ry)
  obtain⟨a,c,_,h2,_⟩:=rx;have hv:v≠ .non:=by rw[h2];intro z;cases z
  exact⟨rfl,by cases neg<;>simp[hv]⟩
 .cases e
def TB:OpSim κ (fun x y H Q=>y=.non/\Q (.bl (decide (x=.non))) H) (oIsN false):=fun F σ H x y z v w Q rel rx ry e k=>by
 obtain⟨h1,rfl⟩:=Nh e rx ry;exact⟨h1,k _ H Ext.refl ⟨rel,.bl _⟩⟩
def Jj:OpSim κ (fun x y H Q=>y=.non/\Q (.bl (!decide (x=.non))) H) (oIsN true):=fun F σ H x y z v w Q rel rx ry e k=>by
 obtain⟨h1,rfl⟩:=Nh e rx ry;exact⟨h1,k _ H Ext.refl ⟨rel,.bl _⟩⟩
end
inductive K3 where
 |f (a:V)|l (xs:List V3)|t (xs:List V3)|o
noncomputable def yw (h:H3):V3->K3
 |.non=>.f .non
 |.bl b=>.f (.bl b)
 |.int i=>.f (.int i)
 |.str x=>.f (.str x)
 |.lst xs=>.l xs
 |.tup xs=>.t xs
 |.loc n=>match h[n]? with
  |some (.lst xs)=>.l xs
  |_=>.o
 |_=>.o
noncomputable def yI (f:V3->V3->Option Bool):List V3->List V3->Option Bool
 |x::xs,y::ys=>match f x y,yI f xs ys with
  |some a,some b=>some (a && b)
  |_,_=>none
 |_,_=>some true
noncomputable def zQ (h:H3):Nat->V3->V3->Option Bool
 |0,x,y=>match yw h x,yw h y with
  |.f a,.f b=>some (eqV a b)
  |_,_=>none
 |n+1,x,y=>match yw h x,yw h y with
  |.f a,.f b=>some (eqV a b)
  |.l xs,.l ys=>if xs.length=ys.length then yI (zQ h n) xs ys else some false
  |.t xs,.t ys=>(yI (zQ h n) xs ys).map (· && xs.length==ys.length)
  |.o,_=>none
  |_,.o=>none
  |_,_=>some false
section
variable {X:Cx} {κ:Kx} {E:XK} {F:Fr} {σ:L2.St} {H H':Hp} {Q:VK} {p:Addr} {pos:Pos} {i:Nat}
theorem DJ {f:V3->V3->Option Bool}:∀{xs ys:List V3} {b:Bool},yI f xs ys=some b->(∀(j:Nat) (x y:V3),xs[j]? =some x->ys[j]? =some y->∃c,f x y=some c)/\b=(List.range (min xs.length ys.length)).all fun j=>((xs[j]?).bind fun x=>(ys[j]?).bind fun y=>f x y).getD false
 | [],ys,b,e=>by
  unfold yI at e;cases e;exact⟨fun j x y h=>by simp at h,by simp⟩
 |x::xs,[],b,e=>by
  unfold yI at e;cases e;exact⟨fun j x y _ h=>by simp at h,by simp⟩
 |x::xs,y::ys,b,e=>by
  unfold yI at e;cases q1:f x y with
  |none=>simp only[q1]at e;cases e
  |some a=>
   cases q2:yI f xs ys with
   |none=>simp only[q1,q2]at e;cases e
   |some c=>
    simp only[q1,q2]at e;cases e;obtain⟨h1,h2⟩:=DJ q2
    refine⟨fun j x' y' hx hy=>?_,?_⟩
    .cases j with
     |zero=>simp at hx hy;subst hx;subst hy;exact⟨a,q1⟩
     |succ j=>exact h1 j x' y' (by simpa using hx) (by simpa using hy)
    .rw[Az,Az,Nat.add_min_add_right,List.range_succ_eq_map,E2,List.all_map]
     simp only[Ed,Fs,q1,Option.getD_some,h2,Function.comp_def,Dz]
def jD {x:V3} {v:V} (rel:RelH κ F.O F.β F.h H) (r:Rep κ F.β F.O H x v):match yw F.h x with
  |.f a=>v=a/\BB a=true
  |.l xs=> ∃a ys,v=.ref a/\H a=some (.lst ys)/\Reps κ F.β F.O H xs ys
  |.t xs=> ∃a ys,v=.ref a/\H a=some (.tup ys)/\Reps κ F.β F.O H xs ys
  |.o=>True:=by
 cases r with
 |lst h1 h2 h3 h4=>exact⟨_,_,rfl,h1,h4⟩
 |tup h1 h2 h3 h4=>exact⟨_,_,rfl,h1,h4⟩
 | @loc n v h1 h2=>
  simp only[yw];cases q:F.h[n]? with
  |none=>trivial
  |some c=>
   cases c with
   |lst xs=>
    rcases rel.cell n _ q with z|⟨a,ha,ys,h5,h6⟩
    .cases z
    .exact⟨a,ys,h2 a ha,h5,h6⟩
   |_=>trivial
 |_=>first|exact⟨rfl,rfl⟩|trivial
def Vals.at {ys:List V} {us:List Value} {j:Nat} {y:V} (r:Vals ys us) (h:j<us.toArray.size) (e:ys[j]? =some y):RelV y us.toArray[j]:=by
 obtain⟨u,h1,h2⟩:=r.get e;have:=(Ao.mp h1).2;have e1:us.toArray[j]=u:=by simpa using this
 rw[e1];exact h2
def Ni {n:Nat} (ih:∀{x y:V3} {v:V} {b:Bool},Rep κ F.β F.O H x v->Rep κ F.β F.O H y v->zQ F.h n x y=some b->b=true):∀{xs ys:List V3} {vs:List V} {b:Bool},Reps κ F.β F.O H xs vs->Reps κ F.β F.O H ys vs->yI (zQ F.h n) xs ys=some b->b=true:=by
 intro xs
 induction xs with
 |nil=>intro ys vs b _ _ e;unfold yI at e;cases e;rfl
 |cons x xs ihx=>
  intro ys vs b r1 r2 e;cases r1 with
  |cons a1 t1=>
   cases r2 with
   | @cons y _ ys _ a2 t2=>
    unfold yI at e;cases q1:zQ F.h n x y with
    |none=>simp only[q1]at e;cases e
    |some a=>
     cases q2:yI (zQ F.h n) xs ys with
     |none=>simp only[q1,q2]at e;cases e
     |some c=>
      simp only[q1,q2]at e;cases e;rw[ih a1 a2 q1,ihx t1 t2 q2];rfl
def Nj {a:V} (h:BB a=true):eqV a a=true:=by cases a<;>simp[BB]at h<;>simp[eqV]
theorem Jk (rel:RelH κ F.O F.β F.h H):∀(n:Nat) {x y:V3} {v:V} {b:Bool},Rep κ F.β F.O H x v->Rep κ F.β F.O H y v->zQ F.h n x y=some b->b=true
 |0,x,y,v,b,rx,ry,e=>by
  have kx:=jD rel rx;have ky:=jD rel ry;unfold zQ at e;cases h1:yw F.h x<;>cases h2:yw F.h y<;>simp only[h1,h2]at e kx ky<;>try cases e
  obtain⟨e1,e2⟩:=kx;obtain⟨e3,_⟩:=ky;rw[<-e1,<-e3];rw[<-e1]at e2;exact Nj e2
 |n+1,x,y,v,b,rx,ry,e=>by
  have kx:=jD rel rx;have ky:=jD rel ry;unfold zQ at e;cases h1:yw F.h x<;>cases h2:yw F.h y<;>simp only[h1,h2]at e kx ky<;>try cases e
  case f.f=>
   obtain⟨e1,e2⟩:=kx;obtain⟨e3,_⟩:=ky;rw[<-e1,<-e3];rw[<-e1]at e2;exact Nj e2
  case f.l=>obtain⟨e1,e2⟩:=kx;obtain⟨a,ys,e3,_⟩:=ky;rw[<-e1,e3]at e2;cases e2
  case f.t=>obtain⟨e1,e2⟩:=kx;obtain⟨a,ys,e3,_⟩:=ky;rw[<-e1,e3]at e2;cases e2
  case l.f=>obtain⟨e1,e2⟩:=ky;obtain⟨a,ys,e3,_⟩:=kx;rw[<-e1,e3]at e2;cases e2
  case t.f=>obtain⟨e1,e2⟩:=ky;obtain⟨a,ys,e3,_⟩:=kx;rw[<-e1,e3]at e2;cases e2
  case l.t=>obtain⟨a,ys,e3,h5,_⟩:=kx;obtain⟨a',ys',e4,h6,_⟩:=ky;rw[e3]at e4;cases e4;rw[h5]at h6;cases h6
  case t.l=>obtain⟨a,ys,e3,h5,_⟩:=kx;obtain⟨a',ys',e4,h6,_⟩:=ky;rw[e3]at e4;cases e4;rw[h5]at h6;cases h6
  case l.l xs ys=>
   obtain⟨a,us,e3,h5,r5⟩:=kx;obtain⟨a',us',e4,h6,r6⟩:=ky;rw[e3]at e4;cases e4;rw[h5]at h6;cases h6;rw[Ac (by rw[r5.length,r6.length])]at e
   exact Ni (fun a b c=>Jk rel n a b c) r5 r6 e
  case t.t xs ys=>
   obtain⟨a,us,e3,h5,r5⟩:=kx;obtain⟨a',us',e4,h6,r6⟩:=ky;rw[e3]at e4;cases e4;rw[h5]at h6;cases h6;cases q:yI (zQ F.h n) xs ys with
   |none=>rw[q]at e;cases e
   |some c=>
    rw[q]at e;cases e;rw[Ni (fun a b c=>Jk rel n a b c) r5 r6 q,r5.length,r6.length]
    simp
def Nk {s:Shared} {a c:V} {v u:Value} {A:Around} (r1:RelV a v) (r2:RelV c u) (f1:BB a=true) (f2:BB c=true):SeqAt.RcAt A s v u (eqV a c)/\SeqAt.RcNeAt A s v u (!eqV a c):=by
 cases a with
 |non=>
  cases r1;cases c with
  |non=>cases r2;exact⟨.none_none,.none_none⟩
  |bl c=>cases r2;exact⟨.none_bool _,.none_bool _⟩
  |int c=>obtain⟨tr2,rfl⟩:=r2;exact⟨.none_int _ _,.none_int _ _⟩
  |str c=>obtain⟨tr2,rfl⟩:=r2;exact⟨.none_str _ _,.none_str _ _⟩
  |_=>exact absurd (show false=true from f2) Bb
 |bl a=>
  cases r1;cases c with
  |non=>cases r2;exact⟨.bool_none _,.bool_none _⟩
  |bl c=>cases r2;exact⟨.bool_bool _ _,.bool_bool _ _⟩
  |int c=>obtain⟨tr2,rfl⟩:=r2;exact⟨.bool_int _ _ _,.bool_int _ _ _⟩
  |str c=>obtain⟨tr2,rfl⟩:=r2;exact⟨.bool_str _ _ _,.bool_str _ _ _⟩
  |_=>exact absurd (show false=true from f2) Bb
 |int a=>
  obtain⟨tr1,rfl⟩:=r1;cases c with
  |non=>cases r2;exact⟨.int_none _ _,.int_none _ _⟩
  |bl c=>cases r2;exact⟨.int_bool _ _ _,.int_bool _ _ _⟩
  |int c=>obtain⟨tr2,rfl⟩:=r2;exact⟨.int_int _ _ _ _,.int_int _ _ _ _⟩
  |str c=>obtain⟨tr2,rfl⟩:=r2;exact⟨.int_str _ _ _ _,.int_str _ _ _ _⟩
  |_=>exact absurd (show false=true from f2) Bb
 |str a=>
  obtain⟨tr1,rfl⟩:=r1;cases c with
  |non=>cases r2;exact⟨.str_none _ _,.str_none _ _⟩
  |bl c=>cases r2;exact⟨.str_bool _ _ _,.str_bool _ _ _⟩
  |int c=>obtain⟨tr2,rfl⟩:=r2;exact⟨.str_int _ _ _ _,.str_int _ _ _ _⟩
  |str c=>obtain⟨tr2,rfl⟩:=r2;exact⟨.str_str _ _ _ _,.str_str _ _ _ _⟩
  |_=>exact absurd (show false=true from f2) Bb
 |_=>exact absurd (show false=true from f1) Bb
def ans (h:H3) (n:Nat) (xs ys:List V3) (j:Nat):Bool:=((xs[j]?).bind fun x=>(ys[j]?).bind fun y=>zQ h n x y).getD false
def Jl (rel:RelH κ F.O F.β F.h H):∀(n:Nat) {pins:AL} {s:Shared} {x y:V3} {v' u':V} {v u:Value} {b:Bool} {A:Around},Inv X pins σ H s->Rep κ F.β F.O H x v'->Rep κ F.β F.O H y u'->RelV v' v->RelV u' u->zQ F.h n x y=some b->A.units+n<cLine->
  (SeqAt.RcAt A s v u b/\SeqAt.RcNeAt A s v u (!b))/\SeqAt.EqAt A s v u b:=by
 intro n
 induction n with
 |zero=>
  intro pins s x y v' u' v u b A I rx ry rv ru e hu;have kx:=jD rel rx;have ky:=jD rel ry;unfold zQ at e;cases h1:yw F.h x<;>cases h2:yw F.h y<;>simp only[h1,h2]at e kx ky<;>try cases e
  obtain⟨e1,e2⟩:=kx;obtain⟨e3,e4⟩:=ky;subst e1;subst e3;exact⟨Nk rv ru e2 e4,Mj rv ru e2 e4⟩
 |succ n ih=>
  intro pins s x y v' u' v u b A I rx ry rv ru e hu;have kx:=jD rel rx;have ky:=jD rel ry;have e0:=e;unfold zQ at e;have items:∀{xs ys:List V3} {us ws:List V} {vs zs:List Value} {c:Bool},Reps κ F.β F.O H xs us->Reps κ F.β F.O H ys ws->Vals us vs->Vals ws zs->yI (zQ F.h n) xs ys=some c->∀j (h1:j<vs.toArray.size) (h2:j<zs.toArray.size),SeqAt.EqAt A.in1 s vs.toArray[j] zs.toArray[j] (ans F.h n xs ys j):=by
   intro xs ys us ws vs zs c r1 r2 v1 v2 q j h1 h2;have l1:=r1.length;have l2:=r2.length;have l3:=v1.length;have l4:=v2.length;have h1':j<xs.length:=by rw[l1,l3];simpa using h1
   have h2':j<ys.length:=by rw[l2,l4];simpa using h2
   obtain⟨y1,hy1,ry1⟩:=r1.get (zK h1');obtain⟨y2,hy2,ry2⟩:=r2.get (zK h2');obtain⟨d,hd⟩:=(DJ q).1 j _ _ (zK h1') (zK h2');have ea:ans F.h n xs ys j=d:=by unfold ans;rw[zK h1',zK h2'];simp[hd]
   rw[ea];exact (ih I ry1 ry2 (Vals.at v1 h1 hy1) (Vals.at v2 h2 hy2) hd (by show A.units+1+n<cLine;lia)).2
  have wrap:∀{a a':Addr},v'=.ref a->u'=.ref a'->(SeqAt.RcAt A s v u b/\SeqAt.RcNeAt A s v u (!b))->(SeqAt.RcAt A s v u b/\SeqAt.RcNeAt A s v u (!b))/\SeqAt.EqAt A s v u b:=by
   intro a a' ea ea' h
   refine⟨h,?_⟩
   subst ea;subst ea';cases rv;cases ru
   by_cases z:a=a'
   .subst z
    rw[Jk rel (n+1) rx ry e0];exact SeqAt.EqAt.same _
   .exact SeqAt.EqAt.of_refs z h.1
  cases h1:yw F.h x<;>cases h2:yw F.h y<;>simp only[h1,h2]at e kx ky<;>try cases e
  case succ.f.f.refl=>
   obtain⟨e1,e2⟩:=kx;obtain⟨e3,e4⟩:=ky;subst e1;subst e3;exact⟨Nk rv ru e2 e4,Mj rv ru e2 e4⟩
  case succ.l.l xs ys=>
   obtain⟨a,us,rfl,h5,r5⟩:=kx;obtain⟨a',us',rfl,h6,r6⟩:=ky
   refine wrap rfl rfl ?_
   cases rv;cases ru;obtain⟨vs,rv,pl,_⟩:=I.list (SqL.of (K:=X.K) h5);obtain⟨zs,rz,pz,_⟩:=I.list (SqL.of (K:=X.K) h6);have l1:=r5.length;have l2:=r6.length;have l3:=rv.length;have l4:=rz.length
   by_cases hl:xs.length=ys.length
   .rw[Ac hl]at e
    have hsz:vs.toArray.size=zs.toArray.size:=by rw[Am,Am];lia
    have eb:b=(List.range vs.toArray.size).all (ans F.h n xs ys):=by
     rw[(DJ e).2,<-hl,Nat.min_self,Am,<-l3,<-l1];rfl
    rw[eb];exact⟨.lists pl.isList pz.isList hsz (by lia) (items r5 r6 rv rz e),.lists pl.isList pz.isList hsz (by lia) (items r5 r6 rv rz e)⟩
   .rw[Ab hl]at e;cases e
    have hsz:(vs.toArray.size !=zs.toArray.size)=true:=by rw[Am,Am];simp;lia
    exact⟨.lists_lengths pl.isList pz.isList hsz (by lia),.lists_lengths pl.isList pz.isList hsz (by lia)⟩
  case succ.t.t xs ys=>
   obtain⟨a,us,rfl,h5,r5⟩:=kx;obtain⟨a',us',rfl,h6,r6⟩:=ky
   refine wrap rfl rfl ?_
   cases rv;cases ru;obtain⟨vs,rv,pl,_⟩:=I.tuple (SqT.of (K:=X.K) h5);obtain⟨zs,rz,pz,_⟩:=I.tuple (SqT.of (K:=X.K) h6);have l1:=r5.length;have l2:=r6.length;have l3:=rv.length;have l4:=rz.length;cases q:yI (zQ F.h n) xs ys with
   |none=>rw[q]at e;cases e
   |some c=>
    rw[q]at e;have eb:b=((List.range (min vs.toArray.size zs.toArray.size)).all (ans F.h n xs ys) && vs.toArray.size==zs.toArray.size):=by
     cases e;rw[(DJ q).2,Am,Am,<-l3,<-l4,<-l1,<-l2];rfl
    rw[eb];exact⟨.tuples (show s.heap.IsTuple a vs.toArray from pl) (show s.heap.IsTuple a' zs.toArray from pz) (by lia) (items r5 r6 rv rz q),.tuples (show s.heap.IsTuple a vs.toArray from pl) (show s.heap.IsTuple a' zs.toArray from pz) (by lia) (items r5 r6 rv rz q)⟩
  case succ.l.t.refl xs ys=>
   obtain⟨a,us,rfl,h5,r5⟩:=kx;obtain⟨a',us',rfl,h6,r6⟩:=ky
   refine wrap rfl rfl ?_
   cases rv;cases ru;obtain⟨vs,rv,pl,_⟩:=I.list (SqL.of (K:=X.K) h5);obtain⟨zs,rz,pz,_⟩:=I.tuple (SqT.of (K:=X.K) h6);exact⟨.list_tuple pl.isList (show s.heap.IsTuple a' zs.toArray from pz) (by lia),.list_tuple pl.isList (show s.heap.IsTuple a' zs.toArray from pz) (by lia)⟩
  case succ.t.l.refl xs ys=>
   obtain⟨a,us,rfl,h5,r5⟩:=kx;obtain⟨a',us',rfl,h6,r6⟩:=ky
   refine wrap rfl rfl ?_
   cases rv;cases ru;obtain⟨vs,rv,pl,_⟩:=I.tuple (SqT.of (K:=X.K) h5);obtain⟨zs,rz,pz,_⟩:=I.list (SqL.of (K:=X.K) h6);exact⟨.tuple_list (show s.heap.IsTuple a vs.toArray from pl) pz.isList (by lia),.tuple_list (show s.heap.IsTuple a vs.toArray from pl) pz.isList (by lia)⟩
  case succ.l.f.refl xs a0=>
   obtain⟨a,us,rfl,h5,r5⟩:=kx;obtain⟨e3,e4⟩:=ky;subst e3;cases rv;obtain⟨vs,rv,pl,_⟩:=I.list (SqL.of (K:=X.K) h5);have hu':A.units<cLine:=by lia
   cases u' with
   |non=>cases ru;exact⟨⟨.list_none pl.isList hu',.list_none pl.isList hu'⟩,.list_none pl.isList hu'⟩
   |bl b=>cases ru;exact⟨⟨.list_bool b pl.isList hu',.list_bool b pl.isList hu'⟩,.list_bool b pl.isList hu'⟩
   |int b=>obtain⟨t,rfl⟩:=ru;exact⟨⟨.list_int b t pl.isList hu',.list_int b t pl.isList hu'⟩,.list_int b t pl.isList hu'⟩
   |str b=>obtain⟨t,rfl⟩:=ru;exact⟨⟨.list_str b t pl.isList hu',.list_str b t pl.isList hu'⟩,.list_str b t pl.isList hu'⟩
   |_=>exact absurd (show false=true from e4) Bb
  case succ.t.f.refl xs a0=>
   obtain⟨a,us,rfl,h5,r5⟩:=kx;obtain⟨e3,e4⟩:=ky;subst e3;cases rv;obtain⟨vs,rv,pl,_⟩:=I.tuple (SqT.of (K:=X.K) h5);have pl:s.heap.IsTuple a vs.toArray:=pl;have hu':A.units<cLine:=by lia
   cases u' with
   |non=>cases ru;exact⟨⟨.tuple_none pl hu',.tuple_none pl hu'⟩,.tuple_none pl hu'⟩
   |bl b=>cases ru;exact⟨⟨.tuple_bool b pl hu',.tuple_bool b pl hu'⟩,.tuple_bool b pl hu'⟩
   |int b=>obtain⟨t,rfl⟩:=ru;exact⟨⟨.tuple_int b t pl hu',.tuple_int b t pl hu'⟩,.tuple_int b t pl hu'⟩
   |str b=>obtain⟨t,rfl⟩:=ru;exact⟨⟨.tuple_str b t pl hu',.tuple_str b t pl hu'⟩,.tuple_str b t pl hu'⟩
   |_=>exact absurd (show false=true from e4) Bb
  case succ.f.l.refl a0 xs=>
   obtain⟨a,us,rfl,h5,r5⟩:=ky;obtain⟨e3,e4⟩:=kx;subst e3;cases ru;obtain⟨vs,ru,pl,_⟩:=I.list (SqL.of (K:=X.K) h5);have hu':A.units<cLine:=by lia
   cases v' with
   |non=>cases rv;exact⟨⟨.none_list pl.isList hu',.none_list pl.isList hu'⟩,.none_list pl.isList hu'⟩
   |bl b=>cases rv;exact⟨⟨.bool_list b pl.isList hu',.bool_list b pl.isList hu'⟩,.bool_list b pl.isList hu'⟩
   |int b=>obtain⟨t,rfl⟩:=rv;exact⟨⟨.int_list b t pl.isList hu',.int_list b t pl.isList hu'⟩,.int_list b t pl.isList hu'⟩
   |str b=>obtain⟨t,rfl⟩:=rv;exact⟨⟨.str_list b t pl.isList hu',.str_list b t pl.isList hu'⟩,.str_list b t pl.isList hu'⟩
   |_=>exact absurd (show false=true from e4) Bb
  case succ.f.t.refl a0 xs=>
   obtain⟨a,us,rfl,h5,r5⟩:=ky;obtain⟨e3,e4⟩:=kx;subst e3;cases ru;obtain⟨vs,ru,pl,_⟩:=I.tuple (SqT.of (K:=X.K) h5);have pl:s.heap.IsTuple a vs.toArray:=pl;have hu':A.units<cLine:=by lia
   cases v' with
   |non=>cases rv;exact⟨⟨.none_tuple pl hu',.none_tuple pl hu'⟩,.none_tuple pl hu'⟩
   |bl b=>cases rv;exact⟨⟨.bool_tuple b pl hu',.bool_tuple b pl hu'⟩,.bool_tuple b pl hu'⟩
   |int b=>obtain⟨t,rfl⟩:=rv;exact⟨⟨.int_tuple b t pl hu',.int_tuple b t pl hu'⟩,.int_tuple b t pl hu'⟩
   |str b=>obtain⟨t,rfl⟩:=rv;exact⟨⟨.str_tuple b t pl hu',.str_tuple b t pl hu'⟩,.str_tuple b t pl hu'⟩
   |_=>exact absurd (show false=true from e4) Bb
def eqO (s:S3) (h:H3) (x y:Rf):Option Bool:=match rdm s h x,rdm s h y with
 |some xs,some ys=>if xs.length=ys.length then yI (zQ h 8) xs ys else some false
 |_,_=>match x,y with
  |.x a,.x b=>zQ h 9 a b
  |_,_=>none
def y8:F2:=fun s h x y=>(eqO s h x y).map fun b=>.v (.bl b)
def oNe:F2:=fun s h x y=>(eqO s h x y).map fun b=>.v (.bl !b)
def rEqT (κ:Kx) (neg:Bool):R2:=fun v w H Q=> ∃F σ x y b,Rel κ F σ H/\RfR κ F H x v/\RfR κ F H y w/\eqO F.s F.h x y=some b/\Q (.bl (if neg then !b else b)) H
def Nl {pins:AL} {s:Shared} {σ':L2.St} {x y:Rf} {v' u':V} {v u:Value} {b:Bool} {A:Around} (I:Inv X pins σ' H s) (rel:Rel κ F σ H) (rx:RfR κ F H x v') (ry:RfR κ F H y u') (rv:RelV v' v) (ru:RelV u' u) (e:eqO F.s F.h x y=some b) (hu:A.units+9<cLine):
  SeqAt.RcAt A s v u b/\SeqAt.RcNeAt A s v u (!b):=by
 unfold eqO at e
 split at e
 .rename_i xs ys q1 q2
  obtain⟨a,us,rfl,h5,r5⟩:=CO rel rx q1;obtain⟨a',us',rfl,h6,r6⟩:=CO rel ry q2;cases rv;cases ru;obtain⟨vs,rv,pl,_⟩:=I.list (SqL.of (K:=X.K) h5);obtain⟨zs,rz,pz,_⟩:=I.list (SqL.of (K:=X.K) h6);have l1:=r5.length;have l2:=r6.length;have l3:=rv.length;have l4:=rz.length
  by_cases hl:xs.length=ys.length
  .rw[Ac hl]at e
   have hsz:vs.toArray.size=zs.toArray.size:=by rw[Am,Am];lia
   have eb:b=(List.range vs.toArray.size).all (ans F.h 8 xs ys):=by
    rw[(DJ e).2,<-hl,Nat.min_self,Am,<-l3,<-l1];rfl
   have items:∀j (h1:j<vs.toArray.size) (h2:j<zs.toArray.size),SeqAt.EqAt A.in1 s vs.toArray[j] zs.toArray[j] (ans F.h 8 xs ys j):=by
    intro j h1 h2;have h1':j<xs.length:=by rw[l1,l3];simpa using h1
    have h2':j<ys.length:=by rw[l2,l4];simpa using h2
    obtain⟨y1,hy1,ry1⟩:=r5.get (zK h1');obtain⟨y2,hy2,ry2⟩:=r6.get (zK h2');obtain⟨d,hd⟩:=(DJ e).1 j _ _ (zK h1') (zK h2');have ea:ans F.h 8 xs ys j=d:=by unfold ans;rw[zK h1',zK h2'];simp[hd]
    rw[ea];exact (Jl rel.heap 8 I ry1 ry2 (Vals.at rv h1 hy1) (Vals.at rz h2 hy2) hd (by show A.units+1+8<cLine;lia)).2
   rw[eb];exact⟨.lists pl.isList pz.isList hsz (by lia) items,.lists pl.isList pz.isList hsz (by lia) items⟩
  .rw[Ab hl]at e;cases e
   have hsz:(vs.toArray.size !=zs.toArray.size)=true:=by rw[Am,Am];simp;lia
   exact⟨.lists_lengths pl.isList pz.isList hsz (by lia),.lists_lengths pl.isList pz.isList hsz (by lia)⟩
 .split at e
  .exact (Jl rel.heap 9 I (show Rep κ F.β F.O H _ v' from rx) (show Rep κ F.β F.O H _ u' from ry) rv ru e hu).1
  .cases e
def qZ (hu:X.A.units+9<cLine):OpR X (compareOp .Eq) (rEqT κ false):=by
 intro pins s σ H x y v u Q I rx ry h;obtain⟨F,σ',x3,y3,b,rel,r1,r2,e,q⟩:=h;exact (Nl I rel r1 r2 rx ry e hu).1 X.prog X.w X.xe _ ⟨.bl b,H,I,rfl,q⟩
def Jm (hu:X.A.units+9<cLine):OpR X (compareOp .NotEq) (rEqT κ true):=by
 intro pins s σ H x y v u Q I rx ry h;obtain⟨F,σ',x3,y3,b,rel,r1,r2,e,q⟩:=h;exact (Nl I rel r1 r2 rx ry e hu).2 X.prog X.w X.xe _ ⟨.bl !b,H,I,rfl,q⟩
def jq:OpSim κ (rEqT κ false) y8:=fun F σ H x y z v w Q rel rx ry e k=>by
 unfold y8 at e;cases q:eqO F.s F.h x y with
 |none=>rw[q]at e;cases e
 |some b=>rw[q]at e;cases e;exact⟨F,σ,x,y,b,rel,rx,ry,q,k _ H Ext.refl ⟨rel,.bl _⟩⟩
def Jn:OpSim κ (rEqT κ true) oNe:=fun F σ H x y z v w Q rel rx ry e k=>by
 unfold oNe at e;cases q:eqO F.s F.h x y with
 |none=>rw[q]at e;cases e
 |some b=>rw[q]at e;cases e;exact⟨F,σ,x,y,b,rel,rx,ry,q,k _ H Ext.refl ⟨rel,.bl _⟩⟩
end
section
variable {X:Cx} {κ:Kx} {E:XK} {F:Fr} {σ:L2.St} {H H':Hp} {Q:VK} {p:Addr} {pos np:Pos} {i:Nat} {x:Str} {e:Expr} {es:List Expr} {t:A3}
def r_b {id:String} {r:List V->Hp->VK->Prop} {f:FB} (hs:ju κ r f) (hc:qg X (.builtin id) r) (hg:Gl X x) (hm:X.mg x=none) (hv:bootBuiltins x=some (.builtin id)) (ha:PA X (e::es) (zP κ E t)) (hn:x≠"__name__" :=by decide) (hdb:(x==("__debug__" :Str))=false:=by decide)
 (he:SE X e es:=by rfl) (hpl:BA X pos es:=by rfl):PE X (.Call (.Name x np) (e::es) [] pos) (zk κ E (eB f t)):=yK (RB hc hg hm hv ha hn hdb he hpl) fun _ _ _ h=>te_b hs h
def r_ty {T:String} {r:List V->Hp->VK->Prop} {f:FB} (hs:ju κ r f) (hc:qg X (.type T) r) (hg:Gl X x) (hm:X.mg x=none) (hv:bootBuiltins x=some (.type T)) (ha:PA X (e::es) (zP κ E t)) (hn:x≠"__name__" :=by decide) (hdb:(x==("__debug__" :Str))=false:=by decide)
 (he:SE X e es:=by rfl) (hpl:BA X pos es:=by rfl):PE X (.Call (.Name x np) (e::es) [] pos) (zk κ E (eB f t)):=yK (RC hc hg hm hv ha hn hdb he hpl) fun _ _ _ h=>te_b hs h
def p1 {f:Rf} {vs:List V} (r:Paired (RfR κ F H) [f] vs):∃v,vs=[v]/\RfR κ F H f v:=by
 cases r with|cons a t=>cases t;exact⟨_,rfl,a⟩
def p2 {f g:Rf} {vs:List V} (r:Paired (RfR κ F H) [f,g] vs):∃v w,vs=[v,w]/\RfR κ F H f v/\RfR κ F H g w:=by
 cases r with|cons a t=>cases t with|cons b t=>cases t;exact⟨_,_,rfl,a,b⟩
def bLen:FB:=fun s h fs=>match fs with
 | [.x (.str y)]=>if y.length<=sizeLine then some (.v (.int y.length)) else none
 | [.x (.tup xs)]=>some (.v (.int xs.length))
 | [f]=>(rdl s h f).map fun xs=>.v (.int xs.length)
 |_=>none
def jg:ju κ (fun xs H Q=> ∃x n,xs=[x]/\LenV κ.K x H n/\Q (.int n) H) bLen:=fun F σ H fs z vs Q rel r e k=>by
 unfold bLen at e
 split at e
 .rename_i y
  obtain⟨v,rfl,rv⟩:=p1 r;cases (show Rep κ F.β F.O H (.str y) v from rv)
  obtain⟨h,rfl⟩:=qO e;exact⟨_,_,rfl,⟨h,rfl⟩,k _ H Ext.refl ⟨rel,.int _⟩⟩
 .rename_i xs
  obtain⟨v,rfl,rv⟩:=p1 r;cases e;cases (show Rep κ F.β F.O H (.tup xs) v from rv) with
  |tup h1 h2 h3 h4=>exact⟨_,_,rfl,.inr ⟨_,.of h1,rfl⟩,k _ H Ext.refl ⟨rel,by rw[h4.length];exact .int _⟩⟩
 .rename_i f _ _
  obtain⟨v,rfl,rv⟩:=p1 r;cases q:rdl F.s F.h f with
  |none=>rw[q]at e;cases e
  |some xs=>
   rw[q]at e;cases e;obtain⟨a,ys,rfl,sq,rs⟩:=jT rel rv q;exact⟨_,_,rfl,.inl ⟨_,sq,rfl⟩,k _ H Ext.refl ⟨rel,by rw[rs.length];exact .int _⟩⟩
 .cases e
def qX (hK:X.K=κ.K):qg X (.builtin "len") (fun xs H Q=> ∃x n,xs=[x]/\LenV κ.K x H n/\Q (.int n) H):=by rw[<-hK];exact Rh
noncomputable def bMax:FB:=fun _ _ fs=>match fs with
 | [.x (.int i),.x (.int j)]=>some (.v (.int (max i j)))
 |_=>none
noncomputable def bMin:FB:=fun _ _ fs=>match fs with
 | [.x (.int i),.x (.int j)]=>some (.v (.int (min i j)))
 |_=>none
noncomputable def bMin3:FB:=fun _ _ fs=>match fs with
 | [.x (.int i),.x (.int j),.x (.int k)]=>some (.v (.int (min i (min j k))))
 |_=>none
def BE:ju κ (fun xs H Q=> ∃i j,xs=[.int i,.int j]/\Q (.int (if j > i then j else i)) H) bMax:=fun F σ H fs z vs Q rel r e k=>by
 unfold bMax at e
 split at e
 .rename_i i j
  cases e;obtain⟨v,w,rfl,rv,rw'⟩:=p2 r;cases (show Rep κ F.β F.O H (.int i) v from rv)
  cases (show Rep κ F.β F.O H (.int j) w from rw')
  refine⟨i,j,rfl,k _ H Ext.refl ⟨rel,?_⟩⟩
  have:(if j > i then j else i)=max i j:=by split<;>lia
  rw[this];exact .int _
 .cases e
def FC:ju κ (fun xs H Q=> ∃i j,xs=[.int i,.int j]/\Q (.int (if j<i then j else i)) H) bMin:=fun F σ H fs z vs Q rel r e k=>by
 unfold bMin at e
 split at e
 .rename_i i j
  cases e;obtain⟨v,w,rfl,rv,rw'⟩:=p2 r;cases (show Rep κ F.β F.O H (.int i) v from rv)
  cases (show Rep κ F.β F.O H (.int j) w from rw')
  refine⟨i,j,rfl,k _ H Ext.refl ⟨rel,?_⟩⟩
  have:(if j<i then j else i)=min i j:=by split<;>lia
  rw[this];exact .int _
 .cases e
noncomputable def bInt:FB:=fun _ _ fs=>match fs with
 | [.x (.int i)]=>some (.v (.int i))
 | [.x (.bl b)]=>some (.v (.int (if b then 1 else 0)))
 |_=>none
def bList:FB:=fun s h fs=>match fs with
 | [.x (.tup xs)]=>some (.m (.lst xs))
 | [f]=>(rdl s h f).map fun xs=>.m (.lst xs)
 |_=>none
def Jo:ju κ (fun xs H Q=> ∃p ys,xs=[.ref p]/\(SqL κ.K H p ys\/SqT κ.K H p ys)/\∀l,H l=none->Q (.ref l) (zr H l (.lst ys))) bList:=fun F σ H fs z vs Q rel r e k=>by
 unfold bList at e
 split at e
 .rename_i xs
  cases e;obtain⟨v,rfl,rv⟩:=p1 r;cases (show Rep κ F.β F.O H (.tup xs) v from rv) with
  |tup h1 h2 h3 h4=>exact⟨_,_,rfl,.inr (.of h1),fun l hl=>k _ _ (qd hl) (Post.lst rel hl h4)⟩
 .rename_i f _
  obtain⟨v,rfl,rv⟩:=p1 r;cases q:rdl F.s F.h f with
  |none=>rw[q]at e;cases e
  |some xs=>
   rw[q]at e;cases e;obtain⟨a,ys,rfl,sq,rs⟩:=jT rel rv q;exact⟨_,_,rfl,.inl sq,fun l hl=>k _ _ (qd hl) (Post.lst rel hl rs)⟩
 .cases e
noncomputable def zB {α β:Type} (f:α->Option β):List α->Option (List β)
 | []=>some []
 |x::r=>match f x,zB f r with
  |some y,some l=>some (y::l)
  |_,_=>none
theorem DK {α β γ:Type} {f:α->Option β} {g:γ->α} {k:γ->β} (h:∀c,f (g c)=some (k c)):∀l:List γ,zB f (l.map g)=some (l.map k)
 | []=>rfl
 |x::r=>by simp only[Ag,zB,h x,DK h r]
def DL {α β:Type} {f:α->Option β} {x:α} {r:List α} {l:List β} (e:zB f (x::r)=some l):∃y l',f x=some y/\zB f r=some l'/\l=y::l':=by
 unfold zB at e;cases q1:f x with
 |none=>simp only[q1]at e;cases e
 |some y=>
  cases q2:zB f r with
  |none=>simp only[q1,q2]at e;cases e
  |some l'=>simp only[q1,q2]at e;cases e;exact⟨y,l',rfl,rfl,rfl⟩
def bl3:V3->Option Bool
 |.bl b=>some b
 |_=>none
def int3:V3->Option Int
 |.int i=>some i
 |_=>none
theorem Nm:∀{xs:List V3} {ys:List V} {bs:List Bool},Reps κ F.β F.O H xs ys->zB bl3 xs=some bs->ys=bs.map V.bl
 |_,_,_,.nil,e=>by cases e;rfl
 |x::xs,y::ys,bs,.cons a r,e=>by
  obtain⟨b,l,h1,h2,rfl⟩:=DL e;cases x<;>simp[bl3]at h1
  subst h1;cases a;rw[Ag,Nm r h2]
theorem Jp:∀{xs:List V3} {ys:List V} {bs:List Int},Reps κ F.β F.O H xs ys->zB int3 xs=some bs->ys=bs.map V.int
 |_,_,_,.nil,e=>by cases e;rfl
 |x::xs,y::ys,bs,.cons a r,e=>by
  obtain⟨b,l,h1,h2,rfl⟩:=DL e;cases x<;>simp[int3]at h1
  subst h1;cases a;rw[Ag,Jp r h2]
def bAll (q:List Bool->Bool):FB:=fun s h fs=>match fs with
 | [f]=>match rdl s h f with
  |some xs=>(zB bl3 xs).map fun bs=>.v (.bl (q bs))
  |none=>none
 |_=>none
def Jq {q:List Bool->Bool}:ju κ (fun xs H Q=> ∃(p:Addr) (bs:List Bool),xs=[.ref p]/\SqL κ.K H p (bs.map V.bl)/\Q (.bl (q bs)) H) (bAll q):=fun F σ H fs z vs Q rel r e k=>by
 unfold bAll at e
 split at e
 .rename_i f
  obtain⟨v,rfl,rv⟩:=p1 r;cases q1:rdl F.s F.h f with
  |none=>rw[q1]at e;cases e
  |some xs=>
   rw[q1]at e;cases q2:zB bl3 xs with
   |none=>simp only[q2]at e;cases e
   |some bs=>
    simp only[q2]at e;cases e;obtain⟨a,ys,rfl,sq,rs⟩:=jT rel rv q1;exact⟨a,bs,rfl,by rw[<-Nm rs q2];exact sq,k _ H Ext.refl ⟨rel,.bl _⟩⟩
 .cases e
def Nn (hK:X.K=κ.K) (hc:X.calm=true):qg X (.builtin "all") (fun xs H Q=> ∃(p:Addr) (bs:List Bool),xs=[.ref p]/\SqL κ.K H p (bs.map V.bl)/\Q (.bl (bs.all id)) H):=by rw[<-hK];exact Sz hc
def TC (hK:X.K=κ.K) (hc:X.calm=true):qg X (.builtin "any") (fun xs H Q=> ∃(p:Addr) (bs:List Bool),xs=[.ref p]/\SqL κ.K H p (bs.map V.bl)/\Q (.bl (bs.any id)) H):=by rw[<-hK];exact S2 hc
def Jr (hK:X.K=κ.K):qg X (.type "list") (fun xs H Q=> ∃p ys,xs=[.ref p]/\(SqL κ.K H p ys\/SqT κ.K H p ys)/\∀l,H l=none->Q (.ref l) (zr H l (.lst ys))):=by rw[<-hK];exact RU
instance {x:Int}:Decidable (InLong x):=inferInstanceAs (Decidable (_/\_))
noncomputable def qT:Int->List Int->Bool
 |_,[]=>true
 |a,x::r=>decide (InLong x) && decide (InLong (a+x)) && qT (a+x) r
theorem Np:∀{ns:List Int} {a:Int},qT a ns=true->∀j,j<ns.length->InLong (ns.getD j 0)/\InLong (a+(ns.take (j+1)).sum)
 | [],_,_,j,h=>by simp at h
 |x::r,a,e,j,h=>by
  simp only[qT,Be,Bz]at e;cases j with
  |zero=>simpa using e.1
  |succ j=>
   have:=Np (a:=a+x) e.2 j (by simpa using h)
   rw[List.take_succ_cons,Cq,<-Int.add_assoc];simpa using this
def yS:FB:=fun s h fs=>match fs with
 | [f]=>match rdl s h f with
  |some xs=>match zB int3 xs with
   |some ns=>if qT 0 ns=true then some (.v (.int ns.sum)) else none
   |none=>none
  |none=>none
 |_=>none
def Hw:ju κ (fun xs H Q=> ∃(p:Addr) (ns:List Int),xs=[.ref p]/\SqL κ.K H p (ns.map V.int)/\IY ns/\Q (.int ns.sum) H) yS:=fun F σ H fs z vs Q rel r e k=>by
 unfold yS at e
 split at e
 .rename_i f
  obtain⟨v,rfl,rv⟩:=p1 r;cases q1:rdl F.s F.h f with
  |none=>rw[q1]at e;cases e
  |some xs=>
   rw[q1]at e;cases q2:zB int3 xs with
   |none=>simp only[q2]at e;cases e
   |some bs=>
    simp only[q2]at e;obtain⟨h,rfl⟩:=qO e;obtain⟨a,ys,rfl,sq,rs⟩:=jT rel rv q1;exact⟨a,bs,rfl,by rw[<-Jp rs q2];exact sq,fun j hj=>by have:=Np h j hj;rw[Dk]at this;exact this,k _ H Ext.refl ⟨rel,.int _⟩⟩
 .cases e
def Hx (hK:X.K=κ.K) (hc:X.calm=true):qg X (.builtin "sum") (fun xs H Q=> ∃(p:Addr) (ns:List Int),xs=[.ref p]/\SqL κ.K H p (ns.map V.int)/\IY ns/\Q (.int ns.sum) H):=by rw[<-hK];exact S4 hc
def ty3 (s:S3) (h:H3):Rf->Option String
 |.x .non=>some "NoneType"
 |.x (.bl _)=>some "bool"
 |.x (.int _)=>some "int"
 |.x (.str _)=>some "str"
 |.x (.tup _)=>some "tuple"
 |.x (.scr _)=>none
 |f=>(rdl s h f).map fun _=>"list"
noncomputable def isa (t T:String):Option Bool:=
 if T="int" then some (t=="int" || t=="bool") else if T="bool" \/T="str" \/T="list" \/T="tuple" then some (t==T) else none
def bIsT:FB:=fun s h fs=>match fs with
 | [f,.x (.ty T)]=>match ty3 s h f with
  |some t=>(isa t T).map fun b=>.v (.bl b)
  |none=>none
 |_=>none
def TF {K:FG} {t T:String} {b:Bool} (ht:t∈["NoneType","bool","int","str","tuple","list"]) (e:isa t T=some b):PySem.W.kitOne K (.type t) (.type T)=some b:=by
 unfold isa at e;have hT:T∈["int","bool","str","list","tuple"]:=by
  by_cases h:T="int"
  .simp[h]
  .rw[Ab h]at e
   by_cases h2:T="bool" \/T="str" \/T="list" \/T="tuple"
   .simp only[Af,Bs,Bn];exact .inr h2
   .rw[Ab h2]at e;cases e
 simp only[Af,Bs,Bn]at ht hT
 rcases ht with rfl|rfl|rfl|rfl|rfl|rfl<;>rcases hT with rfl|rfl|rfl|rfl|rfl<;>(simp at e;subst e;rfl)
def TH {f:Rf} {v:V} {t:String} (rel:Rel κ F σ H) (r:RfR κ F H f v) (e:ty3 F.s F.h f=some t):t∈["NoneType","bool","int","str","tuple","list"]/\TyOf κ.K H v (.type t):=by
 have lists:∀{f:Rf} {v:V} {t:String},RfR κ F H f v->(∀ns,f≠ .x (.scr ns))->((rdl F.s F.h f).map fun _=>"list")=some t->t∈["NoneType","bool","int","str","tuple","list"]/\TyOf κ.K H v (.type t):=by
  intro f v t r hf e;cases q:rdl F.s F.h f with
  |none=>rw[q]at e;cases e
  |some xs=>
   rw[q]at e;cases e;have q2:rdm F.s F.h f=some xs:=by
    unfold rdm
    split
    .rename_i ns;exact absurd rfl (hf ns)
    .exact q
   obtain⟨a,ys,rfl,ha,_⟩:=CO rel r q2;exact⟨by simp,.lst ha⟩
 cases f with
 |s i=>exact lists r (fun _ z=>nomatch z) e
 |x y=>
  cases y with
  |non=>cases e;cases (show Rep κ F.β F.O H .non v from r);exact⟨by simp,.non⟩
  |bl b=>cases e;cases (show Rep κ F.β F.O H (.bl b) v from r);exact⟨by simp,.bl b⟩
  |int b=>cases e;cases (show Rep κ F.β F.O H (.int b) v from r);exact⟨by simp,.int b⟩
  |str b=>cases e;cases (show Rep κ F.β F.O H (.str b) v from r);exact⟨by simp,.str b⟩
  |tup xs=>cases e;cases (show Rep κ F.β F.O H (.tup xs) v from r) with|tup h1 _ _ _=>exact⟨by simp,.tup h1⟩
  |scr ns=>cases e
  |lst xs=>exact lists r (fun _ z=>nomatch z) e
  |loc n=>exact lists r (fun _ z=>nomatch z) e
  |_=>cases e
def BF:ju κ (fun xs H Q=> ∃x T t b,xs=[x,.ty T]/\TyOf κ.K H x t/\PySem.W.kitOne κ.K t (.type T)=some b/\Q (.bl b) H) bIsT:=fun F σ H fs z vs Q rel r e k=>by
 unfold bIsT at e
 split at e
 .rename_i f T
  obtain⟨v,w,rfl,rv,rw'⟩:=p2 r;cases (show Rep κ F.β F.O H (.ty T) w from rw')
  cases q1:ty3 F.s F.h f with
  |none=>rw[q1]at e;cases e
  |some t=>
   rw[q1]at e;cases q2:isa t T with
   |none=>simp only[q2]at e;cases e
   |some b=>
    simp only[q2]at e;cases e;obtain⟨h1,h2⟩:=TH rel rv q1;exact⟨v,T,_,b,rfl,h2,TF h1 q2,k _ H Ext.refl ⟨rel,.bl _⟩⟩
 .cases e
def BG (hK:X.K=κ.K):qg X (.builtin "isinstance") (fun xs H Q=> ∃x T t b,xs=[x,.ty T]/\TyOf κ.K H x t/\PySem.W.kitOne κ.K t (.type T)=some b/\Q (.bl b) H):=by rw[<-hK];exact Sy
def tru3 (s:S3) (h:H3):Rf->Option Bool
 |.x .non=>some false
 |.x (.bl b)=>some b
 |.x (.int i)=>some (i !=0)
 |.x (.str y)=>if y.length<=sizeLine then some ((y.length:Int) !=0) else none
 |.x (.tup xs)=>some (!xs.isEmpty)
 |f=>(rdl s h f).map fun xs=> !xs.isEmpty
def tP (p:P3):T3:=fun s h=>(p s h).bind fun f h1=>match tru3 s h1 f with
 |some b=>.ok b h1
 |none=>.no
def Nq {xs:List V3} {ys:List V} (r:Reps κ F.β F.O H xs ys):xs.isEmpty=ys.isEmpty:=by cases r<;>rfl
def TJ {f:Rf} {v:V} {b:Bool} (rel:Rel κ F σ H) (r:RfR κ F H f v) (e:tru3 F.s F.h f=some b):TruV κ.K v H b:=by
 have lists:∀{f:Rf} {v:V} {b:Bool},RfR κ F H f v->((rdl F.s F.h f).map fun xs=> !xs.isEmpty)=some b->TruV κ.K v H b:=by
  intro f v b r e;cases q:rdl F.s F.h f with
  |none=>rw[q]at e;cases e
  |some xs=>
   rw[q]at e;cases e;obtain⟨a,ys,rfl,sq,rs⟩:=jT rel r q;exact .inl ⟨ys,sq,by show (!xs.isEmpty)=_;rw[Nq rs]⟩
 cases f with
 |s i=>exact lists r e
 |x y=>
  cases y with
  |non=>cases e;cases (show Rep κ F.β F.O H .non v from r);rfl
  |bl b=>cases e;cases (show Rep κ F.β F.O H (.bl b) v from r);rfl
  |int b=>cases e;cases (show Rep κ F.β F.O H (.int b) v from r);rfl
  |str b=>cases (show Rep κ F.β F.O H (.str b) v from r);obtain⟨h,rfl⟩:=qO e;exact⟨h,rfl⟩
  |tup xs=>cases e;cases (show Rep κ F.β F.O H (.tup xs) v from r) with|tup h1 _ _ h4=>exact .inr (.inl ⟨_,.of h1,by rw[Nq h4]⟩)
  |scr ns=>exact lists r e
  |lst xs=>exact lists r e
  |loc n=>exact lists r e
  |_=>cases e
def Hy {a:Expr} {d:P3} (hK:X.K=κ.K) (ha:PE X a (zj κ E d)) (he:∀whole,isTrue a X.env whole=(do let v <-whole;standAt a.pos;holding [v] (truthy v)):=by intro _;rfl):PT X a (zO κ E (tP d)):=PTw (Rg ha he) fun σ H Q zz137 => by
  obtain ⟨F,rel,o⟩ := zz137
  exact (ym (K:=kP κ) km_T rel o).mono fun v H1 zz138 => by
    obtain ⟨β1,h1,f,e1,⟨r1,rf⟩,o1⟩ := zz138
    cases q:tru3 F.s h1 f with
    |none=>simp only[q]at o1;exact o1.elim
    |some b=>
     simp only[q]at o1;exact⟨b,by rw[hK];exact TJ (F:=F.to β1 h1) r1 rf q,o1 β1 b H1 Ext.refl ⟨rfl,r1⟩⟩
def AI (ns:List Int):List Int:=ns.mergeSort (fun a b=>decide (a<=b))
def AJ (ns:List Int):(AI ns).Perm ns/\(AI ns).Pairwise (fun a b=>a<=b):=by
 refine⟨List.mergeSort_perm _ _,?_⟩
 have:=List.pairwise_mergeSort (le:=fun a b:Int=>decide (a<=b)) (fun a b c h1 h2=>by simp at*;lia) (fun a b=>by simp;lia) ns
 exact this.imp fun h=>by simpa using h
theorem Js:∀l:List Int,Reps κ F.β F.O H (l.map V3.int) (l.map V.int)
 | []=>.nil
 |x::r=>.cons (.int x) (Js r)
end
section
variable {X:Cx} {κ:Kx} {E:XK} {F F1 F2 F':Fr} {σ σ':L2.St} {H H1 H2 H':Hp} {Q:VK} {p:Addr} {e a b o:Expr} {pos apos np:Pos} {i:Nat} {D:Ends}
def qJ (a:A3):I3:=fun s h=>(a s h).bind fun fs h1=>match fs with
 | [.x (.int j)]=>if -(2 ^ 62)<=j/\j<2 ^ 62 then .ok ⟨[],(List.range j.toNat).map fun k=>.int (0+(k:Nat)),fun _=>True⟩ h1 else .no
 |_=>.no
def TK {lo:Int} {n:Nat}:IR κ ⟨[],(List.range n).map fun k=>.int (lo+(k:Nat)),fun _=>True⟩ [] (Itr lo n):=fun F σ H rel _ _ i=>by
 have el:((List.range n).map fun k=>V3.int (lo+(k:Nat))).length=n:=by simp
 refine⟨fun hi=>⟨show i<n by rw[el]at hi;exact hi,fun x H' ⟨e1,e2⟩=>?_⟩,fun hi=>show n<=i by rw[el]at hi;exact hi⟩
 subst e1;subst e2;have hi:i<n:=by simpa using hi
 exact⟨.int (lo+i),by simp[hi],Ext.refl,rel,.int _⟩
def BH {tg:Expr} {t:A3} (hg:Gl X "range") (hm:X.mg "range" =none) (ha:PA X [a] (zP κ E t)) (hs:starEach [a] X.env=[(false,eval a X.env)]:=by rfl):PI X tg (.Call (.Name "range" np) [a] [] pos) (yA κ E (qJ t)):=PIw (QN hg hm ha hs) fun σ H R zz140 => by
  obtain ⟨F,rel,o⟩ := zz140
  exact (ym (K:=kA κ) km_I rel o).mono fun vs H1 zz141 => by
    obtain ⟨β1,h1,fs,e1,⟨r1,rf⟩,o1⟩ := zz141
    match fs,rf,o1 with
    | [.x (.int j)],rf,o1=>
     obtain⟨v,rfl,rv⟩:=p1 rf;cases (show Rep κ β1 F.O H1 (.int j) v from rv)
     by_cases hj: -(2 ^ 62)<=j/\j<2 ^ 62
     .simp only[Ac hj]at o1
      exact⟨j,rfl,hj.1,hj.2,o1 β1 _ H1 Ext.refl ⟨r1,[],.nil,TK⟩⟩
     .simp only[Ab hj]at o1;exact o1.elim
def AK (a:A3):I3:=fun s h=>(a s h).bind fun fs h1=>match fs with
 | [.x x]=>match yH h1 x with
  |some (xs,ok)=>.ok ⟨[x],(List.range xs.length).map fun k=>.tup [.int (k:Nat),xs.getD k .non],ok⟩ h1
  |none=>.no
 |_=>.no
def Jt (a:A3):I3:=fun s h=>(a s h).bind fun fs h1=>match fs with
 | [.x x,.x y]=>match yH h1 x,yH h1 y with
  |some (xs,ok),some (ys,ok')=>.ok ⟨[x,y],(xs.zip ys).map fun q=>.tup [q.1,q.2],fun h=>ok h/\ok' h⟩ h1
  |_,_=>.no
 |_=>.no
def Rel.tup2 {x y:V3} {v w:V} {T:Addr} (rel:Rel κ F σ H) (hT:H T=none) (rx:Rep κ F.β F.O H x v) (ry:Rep κ F.β F.O H y w):Ext No F.β H F.β (zr H T (.tup [v,w]))/\Rel κ F σ (zr H T (.tup [v,w]))/\Rep κ F.β F.O (zr H T (.tup [v,w])) (.tup [x,y]) (.ref T):=by
 have q:=Post.tup (N:=No) rel hT (.cons rx (.cons ry .nil));exact⟨qd hT,q.1,q.2⟩
def Hz {elts:List Expr} {x1} {tp:Pos} {t:A3} (hK:X.K=κ.K) (hg:Gl X "enumerate") (hm:X.mg "enumerate" =none) (ha:PA X [a] (zP κ E t)) (hs:starEach [a] X.env=[(false,eval a X.env)]:=by rfl):PI X (.Tuple elts x1 tp) (.Call (.Name "enumerate" np) [a] [] pos) (yA κ E (AK t)):=PIw (Tf hg hm ha hs) fun σ H R ⟨F,rel,o⟩=>
 (ym (K:=kA κ) km_I rel o).mono fun vs H1 ⟨β1,h1,fs,e1,⟨r1,rf⟩,o1⟩=>by
  match fs,rf,o1 with
  | [.x x],rf,o1=>
   obtain⟨v,rfl,rv⟩:=p1 rf;have rv:Rep κ β1 F.O H1 x v:=rv;cases q:yH h1 x with
   |none=>simp only[q]at o1;exact o1.elim
   |some w=>
    obtain⟨xs,ok⟩:=w;simp only[q]at o1;obtain⟨c,ys,rfl,sq,rs⟩:=BU (F:=F.to β1 h1) q r1 rv (CN q).1;rw[hK]
    refine⟨c,ys,rfl,sq,o1 β1 _ H1 Ext.refl ⟨r1,[.ref c],.cons rv .nil,fun F' σ' H' rel' r' hk i=>?_⟩⟩
    cases r' with
    |cons r'' _=>
     obtain⟨c',ys',ec,sq',rs'⟩:=BU q rel' r'' hk;cases ec;have hl:=rs'.length;have el:(((List.range xs.length).map fun k=>V3.tup [.int (k:Nat),xs.getD k .non])).length=xs.length:=by simp
     refine⟨fun hi=>?_,fun hi=>⟨ys',sq',by rw[<-hl];rw[el]at hi;exact hi⟩⟩
     rw[el]at hi;obtain⟨y,hy,ry⟩:=rs'.get (zK hi)
     refine⟨⟨ys',y,sq',hy⟩,fun x' H'' yl=>?_⟩
     obtain⟨T,z,rfl,hT,rfl,hz⟩:=yl;have:=hz ys' sq';rw[hy]at this;cases this;obtain⟨q1,q2,q3⟩:=Rel.tup2 (x:= .int (i:Nat)) (v:= .int (i:Nat)) rel' hT (.int _) ry
     refine⟨.tup [.int (i:Nat),xs[i]],?_,q1,q2,q3⟩
     simp[hi]
def TL {elts:List Expr} {x1} {tp:Pos} {t:A3} (hK:X.K=κ.K) (hg:Gl X "zip") (hm:X.mg "zip" =none) (ha:PA X [a,b] (zP κ E t)) (hs:starEach [a,b] X.env=[(false,eval a X.env),(false,eval b X.env)]:=by rfl) (hs2:starEach [b] X.env=[(false,eval b X.env)]:=by rfl):PI X (.Tuple elts x1 tp) (.Call (.Name "zip" np) [a,b] [] pos) (yA κ E (Jt t)):=PIw (S7 hg hm ha hs hs2) fun σ H R ⟨F,rel,o⟩=>
 (ym (K:=kA κ) km_I rel o).mono fun vs H1 ⟨β1,h1,fs,e1,⟨r1,rf⟩,o1⟩=>by
  match fs,rf,o1 with
  | [.x x,.x y],rf,o1=>
   obtain⟨v,w,rfl,rv,rw'⟩:=p2 rf;have rv:Rep κ β1 F.O H1 x v:=rv;have rw':Rep κ β1 F.O H1 y w:=rw';cases q:yH h1 x with
   |none=>simp only[q]at o1;exact o1.elim
   |some w=>
    obtain⟨xs,ok⟩:=w;cases q2:yH h1 y with
    |none=>simp only[q,q2]at o1;exact o1.elim
    |some w'=>
     obtain⟨ys,ok'⟩:=w';simp only[q,q2]at o1;obtain⟨c,us,rfl,sq,rs⟩:=BU (F:=F.to β1 h1) q r1 rv (CN q).1;obtain⟨d,ws,rfl,sq2,rs2⟩:=BU (F:=F.to β1 h1) q2 r1 rw' (CN q2).1;rw[hK]
     refine⟨c,d,us,ws,rfl,sq,sq2,o1 β1 _ H1 Ext.refl ⟨r1,[.ref c,.ref d],.cons rv (.cons rw' .nil),fun F' σ' H' rel' r' hk i=>?_⟩⟩
     cases r' with
     |cons ra r''=>
      cases r'' with
      |cons rb _=>
       obtain⟨c',us',ec,sq',rs'⟩:=BU q rel' ra hk.1;cases ec;obtain⟨d',ws',ed,sq2',rs2'⟩:=BU q2 rel' rb hk.2;cases ed;have hl:=rs'.length;have hl2:=rs2'.length;have el:((xs.zip ys).map fun q=>V3.tup [q.1,q.2]).length=min xs.length ys.length:=by simp
       refine⟨fun hi=>?_,fun hi=>⟨us',ws',sq',sq2',by rw[<-hl,<-hl2];rw[el]at hi;lia⟩⟩
       rw[el]at hi;have h1:i<xs.length:=by lia
       have h2:i<ys.length:=by lia
       obtain⟨y1,hy1,ry1⟩:=rs'.get (zK h1);obtain⟨y2,hy2,ry2⟩:=rs2'.get (zK h2)
       refine⟨⟨us',ws',y1,y2,sq',sq2',hy1,hy2⟩,fun x' H'' yl=>?_⟩
       obtain⟨T,z1,z2,rfl,hT,rfl,hz1,hz2⟩:=yl;have t1:=hz1 us' sq';have t2:=hz2 ws' sq2';rw[hy1]at t1;cases t1;rw[hy2]at t2;cases t2;obtain⟨q1,q2,q3⟩:=Rel.tup2 rel' hT ry1 ry2
       refine⟨.tup [xs[i],ys[i]],?_,q1,q2,q3⟩
       rw[Ba,(List.getElem?_zip_eq_some (z:=(xs[i],ys[i]))).mpr ⟨zK h1,zK h2⟩];rfl
def yo (n:Nat) (fr:List Nat) (s:S3):S3:=List.replicate n none++fr.map fun j=>match s[j]? with
 |some (some (.v x))=>some (.v x)
 |_=>none
open Classical in
def yZ (ok:H3->Prop) (g:G3) (c:T3) (e:E3):List V3->List V3->S3->H3->Res (List V3)
 | [],acc,_,h=>if ok h then .ok acc h else .no
 |x::r,acc,s,h=>if ok h then match g x s with
  |none=>.no
  |some s1=>match c s1 h with
   |.ok true h1=>match e s1 h1 with
    |.ok v h2=>match v.fz with
     |some y=>if acc.length<sizeLine then yZ ok g c e r (acc++[y]) s1 h2 else .no
     |none=>.no
    |_=>.no
   |.ok false h1=>yZ ok g c e r acc s1 h1
   |_=>.no
  else .no
def yy (n:Nat) (fr:List Nat) (it:I3) (g:G3) (c:T3) (e:E3):E3:=fun s h=>(it s h).bind fun I h1=>(yZ I.ok g c e I.xs [] (yo n fr s) h1).bind fun vs h2=>.ok (.m (.lst vs)) h2
def tTru:T3:=fun _ h=>.ok true h
def jh:PTs X [] (zO κ E tTru):=fun pins s σ H Q I zz146 => by obtain ⟨F,rel,o⟩ := zz146; exact Sv pins s σ H Q I (o F.β true H Ext.refl ⟨rfl,rel⟩)
def FD {c:Expr} {t:T3} (h:PT X c (zO κ E t)):PTs X [c] (zO κ E t):=Sw h
def BV {β:AO} {d:Addr} {o:HO} (ho:∃u,H d=some u):Ext (fun a=>a=d) β H β (zr H d o):=
 ⟨fun a u ha hn m=>⟨by rw[zX m];exact ha,hn⟩,Ah _,fun _ _ _ h=>h,fun a u ha=>by
  by_cases z:a=d
  .subst z;exact⟨o,yR⟩
  .exact⟨u,by rw[zX z];exact ha⟩,nwb0⟩
def RelH.wrO {O:Addr->Prop} {β:AO} {h:H3} {d:Addr} {u:HO} (r:RelH κ O β h H) (hd:O d) (hu:∀ys,u≠HO.tup ys:=by intro _ z;cases z):RelH κ O β h (zr H d u):=by
 have ex:=BV (β:=β) (o:=u) (r.trk' d hd);have th:∀a w,H a=some w->(∀ys,w≠HO.tup ys)->∃w,zr H d u a=some w/\∀ys,w≠HO.tup ys:=fun a w q n=>by
  by_cases z:a=d
  .subst z;exact⟨u,yR,hu⟩
  .exact⟨w,by rw[zX z];exact q,n⟩
 refine⟨r.len,r.inj,r.off,fun a ha=>let ⟨w,q,n⟩:=r.trk a ha;th a w q n,fun i a q=>let ⟨w,z,n⟩:=r.btr i a q;th a w z n,fun i c hc=>(r.cell i c hc).imp id fun ⟨a,ha,q⟩=>⟨a,ha,q.ext ex (fun b hb=>by rw[hb];exact hd) (fun _ _ _ n=>n) fun w hw=>?_⟩⟩
 rw[zX (fun z=>by subst z;exact r.off a hd (Al ha))];exact hw
def Rel.wrOi {d:Addr} {u:HO} (r:Rel κ F σ H) (hd:F.Oi d) (hu:∀ys,u≠HO.tup ys:=by intro _ z;cases z):Rel κ F σ (zr H d u) where
 heap:=r.heap.wrO (.inr (.inr hd)) hu
 slen:=r.slen
 llen:=r.llen
 linj:=r.linj
 lt:=r.lt
 lo:=r.lo
 to:=r.to
 tn:=r.tn
 slot:=fun i x q=>by
  have hO:F.O d:= .inr (.inr hd);have ex:=BV (β:=F.β) (o:=u) (r.heap.trk' d hO);obtain⟨v,h1,h2⟩:=r.slot i x q
  refine⟨v,h1,?_⟩
  cases x with
  |v x=>exact Rep.ext ex (fun b hb=>by rw[hb];exact hO) (fun _ _ _ n=>n) h2
  |m c=>
   obtain⟨a,a1,a2,a3⟩:=h2
   refine⟨a,a1,a2,a3.ext ex (fun b hb=>by rw[hb];exact hO) (fun _ _ _ n=>n) fun w hw=>?_⟩
   rw[zX (fun z=>by subst z;exact r.lo a (Al a1) hd)];exact hw
def TM {n:Nat} {fr:List Nat} {s:S3} {i:Nat} {x:Vl} (h:(yo n fr s)[i]? =some (some x)):∃j y,fr[i-n]? =some j/\n<=i/\s[j]? =some (some (.v y))/\x=.v y:=by
 unfold yo at h
 by_cases hi:i<n
 .rw[Bg (by simpa using hi),Gn]at h
  split at h<;>cases h
 .rw[Bl (by simpa using hi),Ds,Ba]at h
  cases q:fr[i-n]? with
  |none=>rw[q]at h;cases h
  |some j=>
   rw[q]at h;simp only[Ar,B8]at h
   split at h
   .rename_i y hy;cases h;exact⟨j,y,rfl,by lia,hy,rfl⟩
   .cases h
def Ju {n:Nat} {fr:List Nat} {it:I3} {g:G3} {c:T3} {d:E3} (h:zk κ E (yy n fr it g c d) σ H Q):Hj (yA κ E it) n fr (yD κ g) (zO κ E0 c) (zk κ E0 d) σ H Q:=by
 obtain⟨F,rel,o⟩:=h
 refine (ym (K:=kI κ) z6 rel o).mono fun J H1 ⟨β1,h1,I,e1,⟨r1,vs,rv,ir⟩,o1⟩=>fun D hD=>?_
 have hDH:H D=none:=e1.nw D hD
 let Oi:Addr->Prop:=fun a=>a=D\/F.O a
 have rn:=(r1.new (o:= .lst []) hD);have rh1:RelH κ Oi β1 h1 (zr H1 D (.lst [])):=rn.1.heap.sub fun a ha=>ha.elim (fun z=>.inl (by rw[z];exact Ak)) fun z=>Fr.O_with z
 have hO1:∀a u,H1 a=some u->¬F.O a->¬Oi a:=fun a u ha n z=>z.elim (fun w=>by subst w;rw[hD]at ha;cases ha) n
 let F0:Fr:=⟨Oi,[],β1,List.replicate (yo n fr F.s).length none,yo n fr F.s,h1⟩
 have sub0:∀(F':Fr),F'.T=[]->(∀a,some a∉F'.l)->F'.Oi=Oi->∀a,F'.O a->Oi a:=fun F' t l oi a ha=>by
  rcases ha with z|z|z
  .rw[t]at z;cases z
  .exact absurd z (l a)
  .rw[oi]at z;exact z
 have hlen:(yo n fr F.s).length=(cst n fr σ).length:=by unfold yo cst;simp
 have rel0:Rel κ F0 (cst n fr σ) (zr H1 D (.lst [])):=by
  refine⟨rh1.sub (sub0 F0 rfl (fun a=>jK) rfl),hlen,?_,fun i j a h=>absurd (Al h) jK,fun a ha=>absurd ha jK,fun a ha=>absurd ha jK,fun a ha=>(by cases ha),D1,fun i x hx=>?_⟩
  .show (List.replicate (yo n fr F.s).length (none:Option Addr)).length=(yo n fr F.s).length
   simp
  .obtain⟨j,y,hj,hi,hy,rfl⟩:=TM hx
   obtain⟨v,hv,rv⟩:=r1.slot j _ hy
   refine⟨v,?_,Rep.sub (sub0 F0 rfl (fun a=>jK) rfl) (Rep.ext (qd hD) (fun _ z=>z.elim) hO1 (show Rep κ β1 F.O H1 y v from rv))⟩
   unfold cst;rw[Bl (by simpa using hi),Ds,Ba,hj]
   simp[hv]
 have rv0:Reps κ β1 Oi (zr H1 D (.lst [])) I.its vs:=rv.ext (qd hD) (fun _ z=>z.elim) hO1
 refine⟨fun i m acc σ' H'=>m=I.xs.length-i/\i<=I.xs.length/\H' D=some (.lst acc)/\∃(F':Fr) (acc3:List V3),Rel κ F' σ' H'/\F'.T=[]/\(∀a,some a∉F'.l)/\F'.Oi=Oi/\Reps κ F'.β Oi H' I.its vs/\Reps κ F'.β Oi H' acc3 acc/\Ext No β1 H1 F'.β H'/\
   Out κ E (kE κ) (F.to β1 h1) σ H1 Q ((yZ I.ok g c d (I.xs.drop i) acc3 F'.s F'.h).bind fun vs h2=>.ok (.m (.lst vs)) h2),
  ⟨_,rfl,B3 _,yR,F0,[],rel0,rfl,fun a=>jK,rfl,rv0,.nil,qd hD,o1⟩,?_⟩
 rintro i m acc σ' H' ⟨rfl,hi,hacc,F',acc3,rel',ht,hl,hoi,rits,racc,ex,out⟩
 refine⟨hacc,?_⟩
 have hO:∀a,F'.O a↔Oi a:=fun a=>⟨sub0 F' ht hl hoi a,fun z=>.inr (.inr (by rw[hoi];exact z))⟩
 have eO:F'.O=Oi:=funext fun a=>propext (hO a)
 by_cases hok:I.ok F'.h
 case neg=>
  exfalso
  cases q:I.xs.drop i with
  |nil=>rw[q]at out;unfold yZ at out;rw[Ab hok]at out;exact out
  |cons x r=>rw[q]at out;unfold yZ at out;rw[Ab hok]at out;exact out
 obtain⟨i1,i2⟩:=ir F' σ' H' rel' (by rw[eO];exact rits) hok i
 by_cases hlt:i<I.xs.length
 .obtain⟨go,yl⟩:=i1 hlt
  refine .inr ⟨go,fun acc' σ3 H5=>H5 D=some (.lst acc')/\∃(F':Fr) (acc3:List V3),Rel κ F' σ3 H5/\F'.T=[]/\(∀a,some a∉F'.l)/\F'.Oi=Oi/\Reps κ F'.β Oi H5 I.its vs/\Reps κ F'.β Oi H5 acc3 acc'/\Ext No β1 H1 F'.β H5/\
   Out κ E (kE κ) (F.to β1 h1) σ H1 Q ((yZ I.ok g c d (I.xs.drop (i+1)) acc3 F'.s F'.h).bind fun vs h2=>.ok (.m (.lst vs)) h2),fun acc' σ3 H5 n5=>⟨_,by lia,rfl,hlt,n5⟩,fun x H2 y=>?_⟩
  obtain⟨x3,ex3,ey,ry,rp⟩:=yl x H2 y;have hd:I.xs.drop i=x3::I.xs.drop (i+1):=by
   rw[E1 hlt]
   congr 1
   rw[zK hlt]at ex3;exact Option.some.inj ex3
  rw[hd]at out;unfold yZ at out;rw[Ac hok]at out;cases w:g x3 F'.s with
  |none=>simp only[w]at out;exact out.elim
  |some s1=>
   simp only[w]at out
   refine⟨F',x3,s1,ry,ht,rp,w,fun F3 σ3 e3 b3 s3 h3 r3=>?_⟩
   have hl3:∀a,some a∉F3.l:=fun a ha=>by
    rcases e3.lam a ha with z|z
    .exact hl a z
    .obtain⟨k,hk⟩:=B9 ha
     obtain⟨u,hu,_⟩:=r3.heap.trk a (.inr (.inl ha));rw[z]at hu;cases hu
   have hoi3:F3.Oi=Oi:=e3.oi.trans hoi;have eO3:F3.O=Oi:=funext fun a=>propext ⟨sub0 F3 e3.tt hl3 hoi3 a,fun z=>.inr (.inr (by rw[hoi3];exact z))⟩
   refine⟨F3,r3,?_⟩
   rw[s3,h3];cases q:c s1 F'.h with
   |no=>simp only[q]at out;exact out.elim
   |ex x h2=>simp only[q]at out;exact out.elim
   |ok cb h2=>
    simp only[q]at out;rintro β4 cb' H4 e4 ⟨rfl,r4⟩;have ex4:Ext No β1 H1 β4 H4:=(ex.trans0 ey).trans0 (by rw[b3]at e4;exact e4)
    have k4:∀{x:List V3} {v:List V},Reps κ F'.β Oi H' x v->Reps κ β4 Oi H4 x v:=fun r=>(r.ext0 ey).ext0 (by rw[b3]at e4;exact e4)
    have hD2:H2 D=some (.lst acc):=(ey.keep D _ hacc (rel'.heap.off D ((hO D).mpr (.inl rfl))) fun z=>z).1
    have hD4:H4 D=some (.lst acc):=(e4.keep D _ hD2 (r3.heap.off D (by rw[eO3];exact .inl rfl)) fun z=>z).1
    cases cb' with
    |false=>rw[Ab Bb];exact⟨hD4,F3.to β4 h2,acc3,r4,e3.tt,hl3,hoi3,k4 rits,k4 racc,ex4,by show Out _ _ _ _ _ _ _ ((yZ I.ok g c d (I.xs.drop (i+1)) acc3 F3.s h2).bind _);rw[s3];exact out⟩
    |true=>
     rw[Ac rfl]
     refine⟨F3.to β4 h2,r4,?_⟩
     show Out κ E0 (kE κ) (F3.to β4 h2) σ3 H4 _ (d F3.s h2);rw[s3];cases q5:d s1 h2 with
     |no=>simp only[q5]at out;exact out.elim
     |ex x h5=>simp only[q5]at out;exact out.elim
     |ok r5 h5=>
      simp only[q5]at out;intro β5 v5 H5 e5 p5;cases z:r5.fz with
      |none=>simp only[z]at out;exact out.elim
      |some y5=>
       simp only[z]at out
       by_cases hsz:acc3.length<sizeLine
       .rw[Ac hsz]at out
        obtain⟨r6,rep6⟩:=Post.fz p5 z;have hD5:H5 D=some (.lst acc):=(e5.keep D _ hD4 (r4.heap.off D (.inr (.inr (by show F3.Oi D;rw[hoi3];exact .inl rfl)))) fun z=>z).1
        have ex6:Ext (fun a=>a=D) β5 H5 β5 (zr H5 D (.lst (acc++[v5]))):=BV ⟨_,hD5⟩
        have k6:∀{x:List V3} {v:List V},Reps κ β5 Oi H5 x v->Reps κ β5 Oi (zr H5 D (.lst (acc++[v5]))) x v:=fun r=>r.ext ex6 (fun b hb=>by rw[hb];exact .inl rfl) fun _ _ _ n=>n
        have rep6:Rep κ β5 Oi H5 y5 v5:=by
         have e:((F3.to β4 h2).to β5 h5).O=Oi:=eO3;have q:Rep κ β5 ((F3.to β4 h2).to β5 h5).O H5 y5 v5:=rep6;rw[e]at q;exact q
        have k45:∀{x:List V3} {v:List V},Reps κ β4 Oi H4 x v->Reps κ β5 Oi H5 x v:=fun r=>r.ext0 e5
        refine⟨hD5,by rw[<-racc.length];exact hsz,yR,(F3.to β4 h2).to β5 h5,acc3++[y5],Rel.wrOi r6 (by show F3.Oi D;rw[hoi3];exact .inl rfl),e3.tt,hl3,hoi3,k6 (k45 (k4 rits)),k6 ((k45 (k4 racc)).append (.cons rep6 .nil)),?_,?_⟩
        .have e45:=ex4.trans0 e5
         refine⟨fun a u ha hn _=>?_,e45.len,e45.bet,fun a u ha=>?_,e45.nwb⟩
         .obtain⟨q1,q2⟩:=e45.keep a u ha hn fun z=>z
          exact⟨by rw[zX (fun z=>by subst z;rw[hD]at ha;cases ha)];exact q1,q2⟩
         .obtain⟨u',hu'⟩:=e45.there a u ha
          exact ex6.there a u' hu'
        .show Out _ _ _ _ _ _ _ ((yZ I.ok g c d (I.xs.drop (i+1)) (acc3++[y5]) F3.s h5).bind _)
         rw[s3];exact out
       .rw[Ab hsz]at out;exact out.elim
 .have hi:i=I.xs.length:=by lia
  subst hi;rw[Ck]at out;unfold yZ at out;rw[Ac hok]at out
  refine .inl ⟨i2 (Ah _),out F'.β (.ref D) H' ex ?_⟩
  have rh:RelH κ (fun a=>a=D\/(F.to β1 h1).O a) F'.β F'.h H':=rel'.heap.sub fun a ha=>(hO a).mpr ha
  refine⟨D,rfl,Rel.nextNew (F:=F.to β1 h1) r1 ex rh hD,⟨acc,hacc,racc.sub fun a ha=>?_⟩,hD⟩
  rcases ha with z|z
  .rcases Af.mp z with z|z
   .exact .inl z
   .exact .inr (.inl z)
  .exact .inr (.inr z)
def qP {elt tg iter:Expr} {ifs:List Expr} {loc free:List Str} {fr:List Nat} {scope:Scope} {it:I3} {g:G3} {c:T3} {d:E3} (hc:X.calm=true) (S:CompScope X loc free fr scope) (hi:PI X tg iter (yA κ E it))
 (hg:∀cl C s H ex,PG (qj X (loc++free) scope cl C s H ex) tg (yD κ g)) (ht:∀cl C s H ex,PTs (qj X (loc++free) scope cl C s H ex) ifs (zO κ E0 c)) (he:∀cl C s H ex,PE (qj X (loc++free) scope cl C s H ex) elt (zk κ E0 d))
 (hs:∀x,foldedSetIterable iter X.env x=pure x:=by intro _;rfl):PE X (.ListComp elt [⟨tg,iter,ifs,0⟩] scope pos) (zk κ E (yy loc.length fr it g c d)):=yK (Sx hc S hi hg ht he hs) fun _ _ _ h=>Ju h
def Nr {y:Str} {py spos:Pos} {elt tg iter:Expr} {ifs:List Expr} {loc free:List Str} {fr:List Nat} {scope:Scope} {it:I3} {g:G3} {c:T3} {d:E3} (hN:X.N.Nodup) (hi':X.N[i]? =some y) (hx:X.env.scope.names.lookup y=some .local) (hc:X.calm=true) (S:CompScope X loc free fr scope) (hi:PI X tg iter (yA κ E it))
 (hg:∀cl C s H ex,PG (qj X (loc++free) scope cl C s H ex) tg (yD κ g)) (ht:∀cl C s H ex,PTs (qj X (loc++free) scope cl C s H ex) ifs (zO κ E0 c)) (he:∀cl C s H ex,PE (qj X (loc++free) scope cl C s H ex) elt (zk κ E0 d))
 (hs:∀x,foldedSetIterable iter X.env x=pure x:=by intro _;rfl) (hsw:swapsWith (.ListComp elt [⟨tg,iter,ifs,0⟩] scope pos) (some (.Name y py)) spos.line X.env=pure true:=by rfl):
 PS X (.Assign [.Name y py] (.ListComp elt [⟨tg,iter,ifs,0⟩] scope pos) spos) (zt κ E (sSet i (yy loc.length fr it g c d))):=ql (MI hN hi' hx hc S hi hg ht he hs hsw) fun D σ H h=>Ju (Je h)
end
section
variable {X:Cx} {κ:Kx} {E:XK} {F F':Fr} {σ σ':L2.St} {H H1 H':Hp} {Q:VK} {p:Addr} {e a b c o:Expr} {pos apos np cpos:Pos} {i:Nat} {D:Ends}
def eNeg (p:P3):E3:=fun s h=>(p s h).bind fun f h1=>match f with
 |.x (.int i)=>.ok (.v (.int (-i))) h1
 |_=>.no
def BI {d:P3} (ha:PE X a (zj κ E d)):PE X (.UnaryOp .USub a pos) (zk κ E (eNeg d)):=yK (QR QW ha) fun σ H Q zz149 => by
  obtain ⟨F,rel,o⟩ := zz149
  exact (ym (K:=kP κ) z6 rel o).mono fun v H1 zz150 => by
    obtain ⟨β1,h1,f,e1,⟨r1,rf⟩,o1⟩ := zz150
    match f,rf,o1 with
    |.x (.int i),rf,o1=>
     cases (show Rep κ β1 F.O H1 (.int i) v from rf)
     exact⟨i,rfl,o1 β1 _ H1 Ext.refl ⟨r1,.int _⟩⟩
def eChain (f g:F2) (a b c:P3):E3:=fun s h=>(a s h).bind fun x h1=>(b s h1).bind fun y h2=>match f s h2 x y with
 |some (.v (.bl true))=>(c s h2).bind fun z h3=>opt h3 (g s h3 y z)
 |some (.v (.bl false))=>.ok (.v (.bl false)) h2
 |_=>.no
def Nt {r r':R2} {f g:F2} {da db dc:P3} (hs:OpSim κ r f) (hs':OpSim κ r' g) (h:zk κ E (eChain f g da db dc) σ H Q):IJ r r' (zj κ E da) (zj κ E db) (zj κ E dc) σ H Q:=by
 obtain⟨F,rel,o⟩:=h
 refine (ym (K:=kP κ) z6 rel o).mono fun v H1 zz151 => ?_
 obtain ⟨β1,h1,f1,e1,⟨r1,rf1⟩,o1⟩ := zz151
 refine (ym (F:=F.to β1 h1) (K:=kP κ) z6 r1 o1).mono fun w H2 zz152 => ?_
 obtain ⟨β2,h2,f2,e2,⟨r2,rf2⟩,o2⟩ := zz152
 have rf1':=RfR.ext (F:=F.to β1 h1) (β':=β2) (h':=h2) r1 e2 rf1;cases q:f F.s h2 f1 f2 with
 |none=>simp only[q]at o2;exact o2.elim
 |some z=>
  refine hs (F.to β2 h2) σ H2 f1 f2 z v w _ r2 rf1' rf2 q fun u H' e p=>?_
  match z,q,p with
  |.v (.bl true),q,p=>
   simp only[q]at o2;cases (show Rep κ β2 F.O H' (.bl true) u from p.2)
   refine⟨true,rfl,?_⟩
   rw[Ac rfl];have o3:=Out.move (F:=F.to β2 h2) (h':=h2) z6 e o2
   refine (ym (F:=F.to β2 h2) (K:=kP κ) z6 p.1 o3).mono fun w3 H3 zz153 => ?_
   obtain ⟨β3,h3,f3,e3,⟨r3,rf3⟩,o4⟩ := zz153
   obtain⟨z',q',k⟩:=Out.opt (F:=F.to β3 h3) rfl o4;exact hs' (F.to β3 h3) σ H3 f2 f3 z' w w3 Q r3 (RfR.ext (F:=F.to β2 h2) (β':=β3) (h':=h3) p.1 e3 (RfR.ext (F:=F.to β2 h2) (β':=β2) (h':=h2) r2 e rf2)) rf3 q' k
  |.v (.bl false),q,p=>
   simp only[q]at o2;cases (show Rep κ β2 F.O H' (.bl false) u from p.2)
   refine⟨false,rfl,?_⟩
   rw[Ab Bb];exact o2 β2 _ H' e ⟨p.1,.bl _⟩
  |.v .non,q,p=>simp only[q]at o2;exact o2.elim
  |.v (.int _),q,p=>simp only[q]at o2;exact o2.elim
  |.v (.str _),q,p=>simp only[q]at o2;exact o2.elim
  |.v (.ty _),q,p=>simp only[q]at o2;exact o2.elim
  |.v (.tup _),q,p=>simp only[q]at o2;exact o2.elim
  |.v (.lst _),q,p=>simp only[q]at o2;exact o2.elim
  |.v (.scr _),q,p=>simp only[q]at o2;exact o2.elim
  |.v (.dK _),q,p=>simp only[q]at o2;exact o2.elim
  |.v (.dT _),q,p=>simp only[q]at o2;exact o2.elim
  |.v (.obj _ _),q,p=>simp only[q]at o2;exact o2.elim
  |.v (.cls _),q,p=>simp only[q]at o2;exact o2.elim
  |.v (.fn _ _),q,p=>simp only[q]at o2;exact o2.elim
  |.v (.loc _),q,p=>simp only[q]at o2;exact o2.elim
  |.m _,q,p=>simp only[q]at o2;exact o2.elim
def Nu {op op':CmpOp} {r r':R2} {f g:F2} {da db dc:P3} (hs:OpSim κ r f) (hs':OpSim κ r' g) (ho:OpR X (compareOp op) r) (ho':OpR X (compareOp op') r') (ha:PE X a (zj κ E da)) (hb:PE X b (zj κ E db)) (hc:PE X c (zj κ E dc))
 (hm:lastMarks [op,op'] [b,c]=false:=by with_unfolding_all rfl):PE X (.Compare a [op,op'] [b,c] pos) (zk κ E (eChain f g da db dc)):=yK (Ra ho ho' ha hb hc hm) fun _ _ _ h=>Nt hs hs' h
def Jv {op op':CmpOp} {r r':R2} {f g:F2} {da db dc:P3} (hs:OpSim κ r f) (hs':OpSim κ r' g) (ho:OpR X (compareOp op) r) (ho':OpR X (compareOp op') r') (ha:PE X a (zj κ E da)) (hb:PE X b (zj κ E db)) (hc:PE X c (zj κ E dc))
 (hm:lastMarks [op,op'] [b,c]=false:=by with_unfolding_all rfl):PT X (.Compare a [op,op'] [b,c] pos) (zO κ E (tE (eChain f g da db dc))):=PTw (Rb ho ho' ha hb hc hm) fun _ _ _ h=>Nt hs hs' (ES h)
abbrev Po3:=S3->H3->Res (Option Int)
def kO (κ:Kx):Kd (Option Int) (Option Int):=fun _ F σ H' i j=>j=i/\Rel κ F σ H'
def km_O:BR (kO κ):=fun _ _ _ _ _ _ _ _ _ _ _ h=>h
abbrev toOf (κ:Kx) (E:XK) (d:Po3):TO:=tOf κ E (kO κ) d
def poN:Po3:=fun _ h=>.ok none h
def poS (p:P3):Po3:=fun s h=>(p s h).bind fun f h1=>match f with
 |.x (.int i)=>.ok (some i) h1
 |_=>.no
def POw {e:Option Expr} {t t':TO} (h:PO X e t) (w:∀σ H Q,t' σ H Q->t σ H Q):PO X e t':=fun pins s σ H Q I q=>h pins s σ H Q I (w σ H Q q)
def HA:PO X none (toOf κ E poN):=POw RK fun σ H Q zz154 => by obtain ⟨F,rel,o⟩ := zz154; exact o F.β none H Ext.refl ⟨rfl,rel⟩
def HB {d:P3} (ha:PE X a (zj κ E d)):PO X (some a) (toOf κ E (poS d)):=POw (RL ha) fun σ H Q zz155 => by
  obtain ⟨F,rel,o⟩ := zz155
  exact (ym (K:=kP κ) km_O rel o).mono fun v H1 zz156 => by
    obtain ⟨β1,h1,f,e1,⟨r1,rf⟩,o1⟩ := zz156
    match f,rf,o1 with
    |.x (.int i),rf,o1=>
     cases (show Rep κ β1 F.O H1 (.int i) v from rf)
     exact⟨i,rfl,o1 β1 _ H1 Ext.refl ⟨rfl,r1⟩⟩
def cutL {α:Type} (xs:List α) (lo hi:Option Int):List α:=(xs.drop (HT.sIx xs.length 0 lo)).take (HT.sIx xs.length xs.length hi-HT.sIx xs.length 0 lo)
def oSl (s:S3) (h:H3) (lo hi:Option Int):Rf->Option Vl
 |.x (.tup xs)=>if HT.sIx xs.length 0 lo=0/\HT.sIx xs.length xs.length hi=xs.length then none else some (.v (.tup (cutL xs lo hi)))
 |.x (.str z)=>if z.length<=sizeLine then some (.v (.str (Txt.slice z lo hi))) else none
 |f=>(rdl s h f).map fun xs=>.m (.lst (cutL xs lo hi))
def eSl (p:P3) (lo hi:Po3):E3:=fun s h=>(p s h).bind fun f h1=>(lo s h1).bind fun l h2=>(hi s h2).bind fun u h3=>opt h3 (oSl s h3 l u f)
def Nv {xs:List V3} {ys:List V} {lo hi:Option Int} (r:Reps κ F.β F.O H xs ys):Reps κ F.β F.O H (cutL xs lo hi) (cutV ys lo hi):=by
 unfold cutL cutV;rw[r.length];exact (r.drop _).take _
def r_sl {lo hi:Option Expr} {p2:Pos} {d:P3} {dl dh:Po3} (hK:X.K=κ.K) (he:PE X a (zj κ E d)) (hl:PO X lo (toOf κ E dl)) (hu:PO X hi (toOf κ E dh)):PE X (.Subscript a (.Slice lo hi none p2) pos) (zk κ E (eSl d dl dh)):=
 yK (RM (sl_tup.or (sl_list.or Tb)) he hl hu) fun σ H Q ⟨F,rel,o⟩=>
 (ym (K:=kP κ) z6 rel o).mono fun v H1 ⟨β1,h1,f,e1,⟨r1,rf⟩,o1⟩=>
 (ym (F:=F.to β1 h1) (K:=kO κ) z6 r1 o1).mono fun l H2 ⟨β2,h2,l',e2,⟨el,r2⟩,o2⟩=>
 (ym (F:=F.to β2 h2) (K:=kO κ) z6 r2 o2).mono fun u H3 zz160 => by
  obtain ⟨β3,h3,u',e3,⟨eu,r3⟩,o3⟩ := zz160
  subst el;subst eu;obtain⟨z,q,k⟩:=Out.opt (F:=F.to β3 h3) rfl o3;have rf3:RfR κ (F.to β3 h3) H3 f v:=RfR.ext (F:=F.to β2 h2) (β':=β3) (h':=h3) r2 e3 (RfR.ext (F:=F.to β1 h1) (β':=β2) (h':=h2) r1 e2 rf);rw[hK];have lists:(rdl F.s h3 f).map (fun xs=>Vl.m (.lst (cutL xs l u)))=some z->rSlL κ.K v l u H3 Q:=fun q=>by
   cases q1:rdl F.s h3 f with
   |none=>rw[q1]at q;cases q
   |some xs=>
    rw[q1]at q;cases q;obtain⟨c,ys,rfl,sq,rs⟩:=jT (F:=F.to β3 h3) r3 rf3 q1;exact⟨c,ys,rfl,sq,fun p hp=>k _ _ (qd hp) (Post.lst r3 hp (Nv rs))⟩
  match f,rf3,q,lists with
  |.s i,rf3,q,lists=>exact .inr (.inl (lists q))
  |.x (.lst _),rf3,q,lists=>exact .inr (.inl (lists q))
  |.x (.scr _),rf3,q,lists=>exact .inr (.inl (lists q))
  |.x (.loc _),rf3,q,lists=>exact .inr (.inl (lists q))
  |.x (.tup xs),rf3,q,lists=>
   have q:(if HT.sIx xs.length 0 l=0/\HT.sIx xs.length xs.length u=xs.length then none else some (Vl.v (.tup (cutL xs l u))))=some z:=q
   by_cases hw:HT.sIx xs.length 0 l=0/\HT.sIx xs.length xs.length u=xs.length
   .rw[Ac hw]at q;cases q
   .rw[Ab hw]at q;cases q
    cases (show Rep κ β3 F.O H3 (.tup xs) v from rf3) with
    |tup h1 h2 h3' h4=>exact .inl ⟨_,_,rfl,.of h1,by rw[<-h4.length];exact hw,fun p hp=>k _ _ (qd hp) (Post.tup r3 hp (Nv (F:=F.to β3 h3) h4))⟩
  |.x (.str zz),rf3,q,lists=>
   obtain⟨hz,rfl⟩:=qO q;cases (show Rep κ β3 F.O H3 (.str zz) v from rf3)
   exact .inr (.inr ⟨zz,rfl,hz,k _ H3 Ext.refl ⟨r3,.str _⟩⟩)
noncomputable def wr3 (s:S3) (h:H3) (c:C3):Rf->Option (S3×H3)
 |.s i=>some (s.set i (some (.m c)),h)
 |.x (.loc n)=>some (s,h.set n c)
 |_=>none
def Rel.wrSlot {l:Addr} {c0 c':C3} {u:HO} (rel:Rel κ F σ H) (hl:F.l[i]? =some (some l)) (hs:F.s[i]? =some (some (.m c0))) (hc:CellR κ F.β F.O (zr H l u) c' l):
  Rel κ {F with s:=F.s.set i (some (.m c'))} σ (zr H l u):=by
 have hO:F.O l:= .inr (.inl (Al hl));have ex:=BV (β:=F.β) (o:=u) (rel.heap.trk' l hO)
 refine⟨rel.heap.wrO hO hc.nt,?_,?_,rel.linj,rel.lt,rel.lo,rel.to,rel.tn,fun j y hj=>?_⟩
 .show (F.s.set i _).length=_;rw[B7];exact rel.slen
 .show F.l.length=(F.s.set i _).length;rw[B7];exact rel.llen
 .rcases jV hj with ⟨e1,e2⟩|⟨n,z⟩
  .subst e1;cases e2
   obtain⟨v,h1,a,h2,h3,_⟩:=rel.slot i _ hs;rw[hl]at h2;cases h2;exact⟨v,h1,l,hl,h3,hc⟩
  .obtain⟨v,h1,h2⟩:=rel.slot j y z
   refine⟨v,h1,?_⟩
   cases y with
   |v x=>exact Rep.ext ex (fun b hb=>by rw[hb];exact hO) (fun _ _ _ n=>n) h2
   |m c=>
    obtain⟨a,a1,a2,a3⟩:=h2
    refine⟨a,a1,a2,a3.ext ex (fun b hb=>by rw[hb];exact hO) (fun _ _ _ n=>n) fun w hw=>?_⟩
    rw[zX (fun z=>by subst z;exact n (rel.linj i j a hl a1))];exact hw
def HC {β:AO} {l:Addr} {o:HO} {n:Nat} (hb:β[n]? =some (some l)) (ho:∃u,H l=some u):Ext No β H β (zr H l o):=
 ⟨fun a u ha hn _=>⟨by rw[zX (fun z=>by subst z;exact hn (Al hb))];exact ha,hn⟩,Ah _,fun _ _ _ h=>h,fun a u ha=>by
  by_cases z:a=l
  .subst z;exact⟨o,yR⟩
  .exact⟨u,by rw[zX z];exact ha⟩,nwb0⟩
def RelH.wrLoc {O:Addr->Prop} {β:AO} {h:H3} {l:Addr} {n:Nat} {c':C3} {u:HO} (r:RelH κ O β h H) (hb:β[n]? =some (some l)) (hc:CellR κ β O (zr H l u) c' l):RelH κ O β (h.set n c') (zr H l u):=by
 have ex:=HC (o:=u) hb (r.btr' n l hb);have th:∀a w,H a=some w->(∀ys,w≠HO.tup ys)->∃w,zr H l u a=some w/\∀ys,w≠HO.tup ys:=fun a w q n=>by
  by_cases z:a=l
  .subst z;exact⟨u,yR,hc.nt⟩
  .exact⟨w,by rw[zX z];exact q,n⟩
 refine⟨by rw[B7];exact r.len,r.inj,r.off,fun a ha=>let ⟨w,q,n⟩:=r.trk a ha;th a w q n,fun i a q=>let ⟨w,z,n⟩:=r.btr i a q;th a w z n,fun i c hi=>?_⟩
 rcases jV hi with ⟨e1,e2⟩|⟨ne,z⟩
 .subst e1;subst e2;exact .inr ⟨l,hb,hc⟩
 .refine (r.cell i c z).imp id fun ⟨a,ha,q⟩=>⟨a,ha,q.ext ex (fun _ z=>z.elim) (fun _ _ _ n=>n) fun w hw=>?_⟩
  rw[zX (fun z=>by subst z;exact ne (r.inj n i a hb ha))];exact hw
def Jw {f:Rf} {v:V} {xs ys:List V3} {s':S3} {h':H3} (ht:F.T=[]) (rel:Rel κ F σ H) (r:RfR κ F H f v) (e:rdm F.s F.h f=some xs) (hw:wr3 F.s F.h (.lst ys) f=some (s',h')):
  ∃l us,v=.ref l/\H l=some (.lst us)/\Reps κ F.β F.O H xs us/\∀ws,Reps κ F.β F.O H ys ws->∃F',SExt F H F' (zr H l (.lst ws))/\F'.s=s'/\F'.h=h'/\Rel κ F' σ (zr H l (.lst ws)):=by
 cases f with
 |s i=>
  cases hw;obtain⟨a,c,h1,h2,h3,h4⟩:=r;have e:rdl F.s F.h (.s i)=some xs:=e;simp only[rdl,h3]at e;cases c<;>simp at e
  subst e;obtain⟨us,h5,h6⟩:=h4;have hO:F.O a:= .inr (.inl (Al h1))
  refine⟨a,us,h2,h5,h6,fun ws hr=>⟨{F with s:=F.s.set i (some (.m (.lst ys)))},⟨⟨fun b u hb hn m=>⟨by rw[zX (fun z=>by subst z;exact m (Al h1))];exact hb,hn⟩,Ah _,fun _ _ _ h=>h,(BV (β:=F.β) ⟨_,h5⟩).there,nwb0⟩,fun _ h=>.inl h,rfl,ht⟩,rfl,rfl,rel.wrSlot h1 h3 ⟨ws,yR,hr.ext (BV (β:=F.β) ⟨_,h5⟩) (fun b hb=>by rw[hb];exact hO) fun _ _ _ n=>n⟩⟩⟩
 |x y=>
  cases y<;>simp[wr3]at hw
  case loc n=>
   obtain⟨rfl,rfl⟩:=hw;cases r with
   |loc h1 h2=>
    have e:rdl F.s F.h (.x (.loc n))=some xs:=e;simp only[rdl]at e;cases q:F.h[n]? with
    |none=>rw[q]at e;cases e
    |some c=>
     rw[q]at e;cases c<;>simp at e
     subst e
     rcases rel.heap.cell n _ q with z|⟨a,ha,us,h5,h6⟩
     .cases z
     .have ex:=fun o=>HC (o:=o) ha ⟨_,h5⟩
      refine⟨a,us,h2 a ha,h5,h6,fun ws hr=>⟨F.to F.β (F.h.set n (.lst ys)),SExt.of0 ht (ex _),rfl,rfl,rel.next (ex _) (rel.heap.wrLoc ha ⟨ws,yR,hr.ext0 (ex _)⟩)⟩⟩
abbrev FM:=List V3->List V3->Option (List V3×V3)
def mtO (op:FM) (p:P3) (a:A3) (k:S3->H3->V3->O3):D3:=fun s h=>(p s h).bindS fun f h1=>match rdm s h1 f with
 |none=>.no
 |some _=>(a s h1).bindS fun fs h2=>match vals3 fs,rdm s h2 f with
  |some vs,some xs=>match op xs vs with
   |some (ys,r)=>match wr3 s h2 (.lst ys) f with
    |some (s3,h3)=>k s3 h3 r
    |none=>.no
   |none=>.no
  |_,_=>.no
def qM (op:FM) (p:P3) (a:A3):D3:=mtO op p a fun s h _=>.nx s h
def HD (j:Nat) (op:FM) (p:P3) (a:A3):D3:=mtO op p a fun s h r=>if j<s.length then .nx (s.set j (some (.v r))) h else .no
def BJ (κ:Kx) (r:V->List V->Hp->VK->Prop) (op:FM):Prop:=∀(β:AO) (O:Addr->Prop) (H:Hp) (l:Addr) (xs ys vs:List V3) (us ws:List V) (rt:V3) (Q:VK),H l=some (.lst us)->Reps κ β O H xs us->Reps κ β O H vs ws->op xs vs=some (ys,rt)->
 (∀us' rt',Reps κ β O H ys us'->Rep κ β O H rt rt'->Q rt' (zr H l (.lst us')))->r (.ref l) ws H Q
def Jx {r:V->List V->Hp->VK->Prop} {op:FM} {dp:P3} {da:A3} {k:S3->H3->V3->O3} (hs:BJ κ r op) (rel:Rel κ F σ H) (ht:F.T=[]) (o:SOut κ E F H D (mtO op dp da k F.s F.h)) {Q:VK}
  (hQ:∀F' rt Fm Hm v H3,SExt Fm Hm F' H3->F'.s.length=F.s.length->Rel κ F' σ H3->Rep κ F'.β F'.O H3 rt v->SOut κ E Fm Hm D (k F'.s F'.h rt)->Q v H3):
  tBM κ.K "list" r (zj κ E dp) (zP κ E da) σ H Q:=by
 refine (bindS (K:=kP κ) rel ht o).mono fun v H1 zz162 => ?_
 obtain ⟨β1,h1,f,e1,⟨r1,rf⟩,o1⟩ := zz162
 cases q:rdm F.s h1 f with
 |none=>simp only[q]at o1;exact o1.elim
 |some xs0=>
  simp only[q]at o1;obtain⟨a,ys,rfl,ha,_⟩:=CO (F:=F.to β1 h1) r1 rf q
  refine⟨.inl ⟨rfl,ys,.of ha⟩,?_⟩
  have s1:SExt F H (F.to β1 h1) H1:=SExt.of0 ht e1
  refine (bindS (F:=F.to β1 h1) (K:=kA κ) r1 ht (SOut.move s1 o1)).mono fun ws H2 zz163 => ?_
  obtain ⟨β2,h2,fs,e2,⟨r2,rfs⟩,o2⟩ := zz163
  have rf2:=RfR.ext (F:=F.to β1 h1) (β':=β2) (h':=h2) r1 e2 rf;have s2:SExt (F.to β1 h1) H1 (F.to β2 h2) H2:=SExt.of0 (F:=F.to β1 h1) ht e2;cases q1:vals3 fs with
  |none=>simp only[q1]at o2;exact o2.elim
  |some vs=>
   cases q2:rdm F.s h2 f with
   |none=>simp only[q1,q2]at o2;exact o2.elim
   |some xs=>
    simp only[q1,q2]at o2;cases q3:op xs vs with
    |none=>simp only[q3]at o2;exact o2.elim
    |some w=>
     obtain⟨zs,rt⟩:=w;simp only[q3]at o2;cases q4:wr3 F.s h2 (.lst zs) f with
     |none=>simp only[q4]at o2;exact o2.elim
     |some w=>
      obtain⟨s3,h3⟩:=w;simp only[q4]at o2;obtain⟨l,us,ev,hl,rs,wk⟩:=Jw (F:=F.to β2 h2) ht r2 rf2 q2 q4;cases ev
      refine hs β2 F.O H2 a xs zs vs us ws rt _ hl rs (CM rfs q1) q3 fun us' rt' r1' r2'=>?_
      obtain⟨F',e',es,eh,rel'⟩:=wk us' r1'
      refine hQ F' rt (F.to β2 h2) H2 _ _ e' (by rw[rel'.slen,<-rel.slen]) rel' (Rep.sext (F:=F.to β2 h2) e' r2') ?_
      rw[es,eh];exact SOut.move s2 o2
def jI {es:List Expr} {name:Str} {id:String} {r:V->List V->Hp->VK->Prop} {op:FM} {dp:P3} {da:A3} (hs:BJ κ r op) (hK:X.K=κ.K) (slot:Slot "list" name id) (hty:typeOf (.builtin id)=pure (.type "method_descriptor")) (hm:MtR X id r) (ho:PE X o (zj κ E dp)) (ha:PA X (e::es) (zP κ E da))
  (hbase:attributeBase o name X.env (eval o X.env)=eval o X.env:=by rfl)
  (hfew:((backTo cpos (starEach (e::es) X.env)).all (fun x=> !x.1) && (backToKw cpos (keywordEach [] X.env)).all (fun x=>x.1.isSome)
   && decide ((e::es).length+([]:List Keyword).length+(if ([]:List Keyword).isEmpty then 0 else 1)<30))=true:=by rfl)
  (hline:(apos.endLine==cpos.line)=true:=by rfl) (hst:SE X e es:=by rfl) (hplain:(backTo cpos (starEach es X.env)).any (·.1)=false:=by rfl)
  (hsw:swapsWith (.Call (.Attribute o name apos) (e::es) [] cpos) none pos.line X.env=pure false:=by rfl):
  PS X (.Expr (.Call (.Attribute o name apos) (e::es) [] cpos) pos) (zt κ E (qM op dp da)):=ql (ID (IQ Gu slot hty hm ho ha hbase hfew hline hst hplain) hsw) fun D σ H zz164 => by
 obtain ⟨F,rel,ht,o⟩ := zz164
 rw[hK];exact Jx hs rel ht o fun F' rt Fm Hm v H3 e' _ rel' _ o'=>o' F' σ H3 e' rfl rfl rel'
def TN {name:Str} {id:String} {r:V->List V->Hp->VK->Prop} {op:FM} {dp:P3} (hs:BJ κ r op) (hK:X.K=κ.K) (slot:Slot "list" name id) (hty:typeOf (.builtin id)=pure (.type "method_descriptor")) (hm:MtR X id r) (ho:PE X o (zj κ E dp))
  (hbase:attributeBase o name X.env (eval o X.env)=eval o X.env:=by rfl) (hline:(apos.endLine==cpos.line)=true:=by rfl) (hsw:swapsWith (.Call (.Attribute o name apos) [] [] cpos) none pos.line X.env=pure false:=by rfl):
  PS X (.Expr (.Call (.Attribute o name apos) [] [] cpos) pos) (zt κ E (qM op dp aNil)):=ql (ID (RV Gu slot hty hm ho hbase hline) hsw) fun D σ H zz165 => by
 obtain ⟨F,rel,ht,o⟩ := zz165
 rw[hK]
 refine tOf.mono (Jx (Q:=fun _ H1=>D.nx σ H1) hs rel ht o fun F' rt Fm Hm v H3 e' _ rel' _ o'=>o' F' σ H3 e' rfl rfl rel') fun x H1 zz166 => by obtain ⟨h1,F1,r1,h2⟩ := zz166; exact ⟨h1,h2 F1.β [] H1 Ext.refl ⟨r1,.nil⟩⟩
def TQ {r:V->List V->Hp->VK->Prop} {op:FM} {dp:P3} {da:A3} {j:Nat} (hs:BJ κ r op) (h:zt κ E (HD j op dp da) D σ H):tBM κ.K "list" r (zj κ E dp) (zP κ E da) σ H (fun v H1=>D.nx (σ.set j (some v)) H1):=by
 obtain⟨F,rel,ht,o⟩:=h
 refine Jx hs rel ht o fun F' rt Fm Hm v H3 e' hl rel' rp o'=>?_
 by_cases hj:j<F'.s.length
 .rw[Ac hj]at o'
  exact o' (F'.setV j rt) _ H3 (e'.trans (SExt.setN e'.tt)) rfl rfl (rel'.setV rp hj)
 .rw[Ab hj]at o';exact o'.elim
def TR {j:Nat} {x:Str} {px:Pos} {es:List Expr} {name:Str} {id:String} {r:V->List V->Hp->VK->Prop} {op:FM} {dp:P3} {da:A3} (hs:BJ κ r op) (hK:X.K=κ.K) (slot:Slot "list" name id) (hty:typeOf (.builtin id)=pure (.type "method_descriptor")) (hm:MtR X id r) (hN:X.N.Nodup) (hi:X.N[j]? =some x) (hx:jN X.env.scope x) (ho:PE X o (zj κ E dp)) (ha:PA X (e::es) (zP κ E da))
  (hbase:attributeBase o name X.env (eval o X.env)=eval o X.env:=by rfl)
  (hfew:((backTo cpos (starEach (e::es) X.env)).all (fun x=> !x.1) && (backToKw cpos (keywordEach [] X.env)).all (fun x=>x.1.isSome)
   && decide ((e::es).length+([]:List Keyword).length+(if ([]:List Keyword).isEmpty then 0 else 1)<30))=true:=by rfl)
  (hline:(apos.endLine==cpos.line)=true:=by rfl) (hst:SE X e es:=by rfl) (hplain:(backTo cpos (starEach es X.env)).any (·.1)=false:=by rfl)
  (hsw:swapsWith (.Call (.Attribute o name apos) (e::es) [] cpos) (some (.Name x px)) pos.line X.env=pure false:=by rfl)
  (hf:X.fn x=true\/X.env.scope.names.lookup x=some .local:=by first|exact .inl rfl|exact .inr rfl|assumption):
  PS X (.Assign [.Name x px] (.Call (.Attribute o name apos) (e::es) [] cpos) pos) (zt κ E (HD j op dp da)):=ql (LM hN hi hx (IQ Gu slot hty hm ho ha hbase hfew hline hst hplain) hsw hf) fun D σ H h=>by
 rw[hK];exact TQ hs h
noncomputable def qI:FM:=fun xs vs=>match vs with
 | [y]=>if xs.length<sizeLine then some (xs++[y],.non) else none
 |_=>none
def BW:BJ κ Mp qI:=fun β O H l xs ys vs us ws rt Q hl rx rv e k=>by
 unfold qI at e
 split at e
 .obtain⟨h,e⟩:=qO e
  cases e;cases rv with
  |cons a t=>cases t;exact⟨l,us,_,rfl,rfl,hl,by rw[<-rx.length];exact h,k _ _ (rx.append (.cons a .nil)) .non⟩
 .cases e
noncomputable def mPop:FM:=fun xs vs=>match vs with
 | []=>match xs[xs.length-1]? with
  |some y=>some (xs.dropLast,y)
  |none=>none
 |_=>none
def TU:BJ κ rPop mPop:=fun β O H l xs ys vs us ws rt Q hl rx rv e k=>by
 unfold mPop at e
 split at e
 .cases rv
  cases q:xs[xs.length-1]? with
  |none=>rw[q]at e;cases e
  |some y=>
   rw[q]at e;cases e;obtain⟨u,hu,ru⟩:=rx.get q;exact⟨l,us,u,rfl,rfl,hl,by rw[<-rx.length];exact hu,k _ _ rx.dropLast ru⟩
 .cases e
noncomputable def DM:FM:=fun xs vs=>match vs with
 | [.int i]=>if -(2 ^ 63)<=i/\i<2 ^ 63 then match seqIndex? i xs.length with
   |some k=>match xs[k]? with
    |some y=>some (xs.eraseIdx k,y)
    |none=>none
   |none=>none
  else none
 |_=>none
def TV:BJ κ Mr DM:=fun β O H l xs ys vs us ws rt Q hl rx rv e k=>by
 unfold DM at e
 split at e
 .rename_i i
  by_cases hi: -(2 ^ 63)<=i/\i<2 ^ 63
  .rw[Ac hi]at e
   cases q:seqIndex? i xs.length with
   |none=>rw[q]at e;cases e
   |some j=>
    simp only[q]at e;cases q2:xs[j]? with
    |none=>rw[q2]at e;cases e
    |some y=>
     rw[q2]at e;cases e;obtain⟨u,hu,ru⟩:=rx.get q2;cases rv with
     |cons a t=>
      cases t;cases a;exact⟨l,us,i,j,u,rfl,rfl,hl,hi.1,hi.2,by rw[<-rx.length];exact q,hu,k _ _ (rx.eraseIdx j) ru⟩
  .rw[Ab hi]at e;cases e
 .cases e
end
section
variable {X:Cx} {κ:Kx} {E:XK} {F F':Fr} {σ σ':L2.St} {H H1 H':Hp} {Q:VK} {p:Addr} {e a b c o:Expr} {pos apos np cpos:Pos} {i:Nat} {D:Ends}
noncomputable def jU:FM:=fun xs vs=>match vs with
 | [.lst zs]=>if xs.length+zs.length<=sizeLine then some (xs++zs,.non) else none
 |_=>none
def Jy:BJ κ Mq jU:=fun β O H l xs ys vs us ws rt Q hl rx rv e k=>by
 unfold jU at e
 split at e
 .obtain⟨h,e⟩:=qO e
  cases e;cases rv with
  |cons a t=>
   cases t;cases a with
   |lst h1 h2 h3 h4=>exact⟨l,_,us,_,rfl,rfl,hl,h1,by rw[<-rx.length,<-h4.length];exact h,k _ _ (rx.append h4) .non⟩
 .cases e
def HE (p i:P3) (e:E3):D3:=fun s h=>(e s h).bindS fun r h1=>match r.fz with
 |none=>.no
 |some y=>(p s h1).bindS fun f h2=>(i s h2).bindS fun j h3=>match j,rdm s h3 f with
  |.x (.int k),some xs=>match qp xs.length k with
   |some n=>match wr3 s h3 (.lst (xs.set n y)) f with
    |some (s',h')=>.nx s' h'
    |none=>.no
   |none=>.no
  |_,_=>.no
def TX {dp di:P3} {d:E3} (h:zt κ E (HE dp di d) D σ H):tAsg (zk κ E d) (gSub (zj κ E dp) (zj κ E di) He) D σ H:=by
 obtain⟨F,rel,ht,o⟩:=h
 refine (bindS (K:=kE κ) rel ht o).mono fun v H1 zz167 => ?_
 obtain ⟨β1,h1,r,e1,p1,o1⟩ := zz167
 cases z:r.fz with
 |none=>simp only[z]at o1;exact o1.elim
 |some y=>
  simp only[z]at o1;obtain⟨r1,ry⟩:=Post.fz p1 z;have s1:SExt F H (F.to β1 h1) H1:=SExt.of0 ht e1
  refine (bindS (F:=F.to β1 h1) (K:=kP κ) r1 ht (SOut.move s1 o1)).mono fun ov H2 zz168 => ?_
  obtain ⟨β2,h2,f,e2,⟨r2,rf⟩,o2⟩ := zz168
  have s2:SExt (F.to β1 h1) H1 (F.to β2 h2) H2:=SExt.of0 (F:=F.to β1 h1) ht e2
  refine (bindS (F:=F.to β2 h2) (K:=kP κ) r2 ht (SOut.move s2 o2)).mono fun iv H3 zz169 => ?_
  obtain ⟨β3,h3,j,e3,⟨r3,rj⟩,o3⟩ := zz169
  have s3:SExt (F.to β2 h2) H2 (F.to β3 h3) H3:=SExt.of0 (F:=F.to β2 h2) ht e3;have rf3:=RfR.ext (F:=F.to β2 h2) (β':=β3) (h':=h3) r2 e3 rf;have ry3:Rep κ β3 F.O H3 y v:=(Rep.ext0 e3 (Rep.ext0 e2 ry))
  match j,rj,o3 with
  |.s _,rj,o3=>exact o3.elim
  |.x (.int k),rj,o3=>
   cases q:rdm F.s h3 f with
   |none=>simp only[q]at o3;exact o3.elim
   |some xs=>
    simp only[q]at o3;cases q2:qp xs.length k with
    |none=>simp only[q2]at o3;exact o3.elim
    |some n=>
     simp only[q2]at o3;cases q3:wr3 F.s h3 (.lst (xs.set n y)) f with
     |none=>simp only[q3]at o3;exact o3.elim
     |some w=>
      obtain⟨s',h'⟩:=w;simp only[q3]at o3;obtain⟨l,us,ev,hl,rs,wk⟩:=Jw (F:=F.to β3 h3) ht r3 rf3 q q3;subst ev;cases (show Rep κ β3 F.O H3 (.int k) iv from rj)
      obtain⟨F',e',es,eh,rel'⟩:=wk (us.set n v) (rs.set ry3 n);exact⟨l,us,k,n,rfl,rfl,hl,by rw[<-rs.length];exact q2,SOut.move s3 o3 F' σ _ e' es eh rel'⟩
def TY {tp:Pos} {ii:Expr} {dp di:P3} {d:E3} (he:PE X e (zk κ E d)) (ho:PE X o (zj κ E dp)) (hi:PE X ii (zj κ E di))
 (hh:∀{te to ti:TE},PE X e te->PE X o to->PE X ii ti->PS X (.Assign [.Subscript o ii tp] e pos) (tAsg te (gSub to ti He))):PS X (.Assign [.Subscript o ii tp] e pos) (zt κ E (HE dp di d)):=ql (hh he ho hi) fun D σ H h=>TX h
noncomputable def y9 (h:H3):Rf->Option (Str×List (Str×V3))
 |.x (.obj c fs)=>some (c,fs)
 |.x (.loc n)=>match h[n]? with
  |some (.ins c fs)=>some (c,fs)
  |_=>none
 |_=>none
def Nx {f:Rf} {v:V} {c:Str} {fs:List (Str×V3)} (rel:Rel κ F σ H) (r:RfR κ F H f v) (e:y9 F.h f=some (c,fs)):∃a C dx gs,v=.ref a/\κ.cl c=some C/\H a=some (.ins C dx gs)/\RepP κ F.β F.O H fs gs:=by
 cases f with
 |s i=>cases e
 |x y=>
  cases y<;>simp[y9]at e
  case obj c' fs'=>
   obtain⟨rfl,rfl⟩:=e;cases (show Rep κ F.β F.O H (.obj c' fs') v from r) with
   |obj h1 h2 h3 h4 h5=>exact⟨_,_,_,_,rfl,h1,h2,h5⟩
  case loc n=>
   cases (show Rep κ F.β F.O H (.loc n) v from r) with
   |loc h1 h2=>
    cases q:F.h[n]? with
    |none=>rw[q]at e;cases e
    |some c0=>
     rw[q]at e;cases c0<;>simp at e
     obtain⟨rfl,rfl⟩:=e
     rcases rel.heap.cell n _ q with z|⟨a,ha,C,dx,gs,k1,k2,k3⟩
     .cases z
     .exact⟨a,C,dx,gs,h2 a ha,k1,k2,k3⟩
def Flds (X:Cx) (κ:Kx) (cs:List Str) (f:Str):Prop:=∀c∈cs,∀C,κ.cl c=some C->Cls X.K C/\NoAttr X.K C f
def Flds.nil {f:Str}:Flds X κ [] f:=fun c hc=>by cases hc
def ze (cs:List Str) (fl:Str) (p:P3):E3:=fun s h=>(p s h).bind fun f h1=>match y9 h1 f with
 |some (c,fs)=>if c∈cs then match fs.lookup fl with
   |some x=>.ok (.v x) h1
   |none=>.no
  else .no
 |none=>.no
def Ny {fl:Str} {cs:List Str} {d:P3} (hf:Flds X κ cs fl) (he:PE X e (zj κ E d)) (hb:attributeBase e fl X.env (eval e X.env)=eval e X.env:=by rfl):PE X (.Attribute e fl pos) (zk κ E (ze cs fl d)):=yK (Rt he hb) fun σ H Q zz170 => by
  obtain ⟨F,rel,o⟩ := zz170
  exact (ym (K:=kP κ) z6 rel o).mono fun v H1 zz171 => by
    obtain ⟨β1,h1,f,e1,⟨r1,rf⟩,o1⟩ := zz171
    cases q:y9 h1 f with
    |none=>simp only[q]at o1;exact o1.elim
    |some w=>
     obtain⟨c,fs⟩:=w;simp only[q]at o1
     by_cases hc:c∈cs
     .rw[Ac hc]at o1
      cases q2:fs.lookup fl with
      |none=>simp only[q2]at o1;exact o1.elim
      |some x=>
       simp only[q2]at o1;obtain⟨a,C,dx,gs,rfl,k1,k2,k3⟩:=Nx (F:=F.to β1 h1) r1 rf q;obtain⟨y,hy,ry⟩:=k3.lookup q2;exact⟨a,C,dx,gs,y,rfl,k2,(hf c hc C k1).1,(hf c hc C k1).2,hy,o1 β1 y H1 Ext.refl ⟨r1,ry⟩⟩
     .rw[Ab hc]at o1;exact o1.elim
noncomputable def AM (f:Str) (v:V3):List (Str×V3)->List (Str×V3)
 | []=>[(f,v)]
 | (g,x)::r=>if g=f then (g,v)::r else (g,x)::AM f v r
theorem RepP.putF {β:AO} {O:Addr->Prop} {f:Str} {x:V3} {y:V} (r:Rep κ β O H x y):∀{fs:List (Str×V3)} {gs:List (Str×V)},RepP κ β O H fs gs->RepP κ β O H (AM f x fs) (L2.putF f y gs)
 |_,_,.nil=>.cons r .nil
 |_,_,.cons (k:=k) q t=>by
  unfold AM L2.putF
  by_cases h:k=f
  .rw[Ac h,Ac h];exact .cons r t
  .rw[Ab h,Ab h];exact .cons q (RepP.putF r t)
def qm (cs:List Str) (fl:Str) (p:P3) (e:E3):D3:=fun s h=>(e s h).bindS fun r h1=>match r.fz with
 |none=>.no
 |some y=>(p s h1).bindS fun f h2=>match f with
  |.x (.loc n)=>match h2[n]? with
   |some (.ins c fs)=>if c∈cs/\fs.length<1000 then .nx s (h2.set n (.ins c (AM fl y fs))) else .no
   |_=>.no
  |_=>.no
def AN {fl:Str} {pos':Pos} {cs:List Str} {dp:P3} {d:E3} {value:Expr} (hf:Flds X κ cs fl) (ha:PE X o (zj κ E dp)) (hv:PE X value (zk κ E d)) (hs:swapsWith value (some (.Attribute o fl pos')) pos.line X.env=pure false:=by rfl):PS X (.Assign [.Attribute o fl pos'] value pos) (zt κ E (qm cs fl dp d)):=ql (Ru ha hv hs) fun D σ H ⟨F,rel,ht,o⟩=>by
 refine (bindS (K:=kE κ) rel ht o).mono fun v H1 zz173 => ?_
 obtain ⟨β1,h1,r,e1,p1,o1⟩ := zz173
 cases z:r.fz with
 |none=>simp only[z]at o1;exact o1.elim
 |some y=>
  simp only[z]at o1;obtain⟨r1,ry⟩:=Post.fz p1 z;have s1:SExt F H (F.to β1 h1) H1:=SExt.of0 ht e1
  refine (bindS (F:=F.to β1 h1) (K:=kP κ) r1 ht (SOut.move s1 o1)).mono fun ov H2 zz174 => ?_
  obtain ⟨β2,h2,f,e2,⟨r2,rf⟩,o2⟩ := zz174
  have s2:SExt (F.to β1 h1) H1 (F.to β2 h2) H2:=SExt.of0 (F:=F.to β1 h1) ht e2;have ry2:Rep κ β2 F.O H2 y v:=Rep.ext0 e2 ry
  match f,rf,o2 with
  |.x (.loc n),rf,o2=>
   cases q:h2[n]? with
   |none=>simp only[q]at o2;exact o2.elim
   |some c0=>
    match c0,q,o2 with
    |.ins c fs,q,o2=>
     simp only[q]at o2
     by_cases hc:c∈cs/\fs.length<1000
     .rw[Ac hc]at o2
      cases (show Rep κ β2 F.O H2 (.loc n) ov from rf) with
      |loc l1 l2=>
       rcases r2.heap.cell n _ q with w|⟨a,ha,C,dx,gs,k1,k2,k3⟩
       .cases w
       .have ev:=l2 a ha
        subst ev;have ex:=fun o=>HC (H:=H2) (β:=β2) (o:=o) ha ⟨_,k2⟩
        refine⟨a,C,dx,gs,rfl,k2,(hf c hc.1 C k1).1,(hf c hc.1 C k1).2,by rw[<-k3.length];exact hc.2,?_⟩
        refine SOut.move s2 o2 (F.to β2 (h2.set n (.ins c (AM fl y fs)))) σ _ (SExt.of0 (F:=F.to β2 h2) ht (ex _)) rfl rfl ?_
        exact Rel.next (F:=F.to β2 h2) r2 (ex _) (r2.heap.wrLoc ha ⟨C,dx,_,k1,yR,(RepP.putF ry2 k3).ext0 (ex _)⟩)
     .rw[Ab hc]at o2;exact o2.elim
    |.lst _,q,o2=>simp only[q]at o2;exact o2.elim
    |.dK _,q,o2=>simp only[q]at o2;exact o2.elim
    |.dT _,q,o2=>simp only[q]at o2;exact o2.elim
    |.dead,q,o2=>simp only[q]at o2;exact o2.elim
def z9 (c m:Str) (f:F3) (p:P3) (a:A3):E3:=fun s h=>(p s h).bind fun g h1=>match g,y9 h1 g with
 |.x x,some (c',fs)=>if c'=c/\fs.lookup m=none then (a s h1).bind fun gs h2=>match vals3 gs with
   |some vs=>f (x::vs) h2
   |none=>.no
  else .no
 |_,_=>.no
def Nz {C:Addr} {c m:Str} {f:F3} {dp:P3} {t:A3} {k:Nat} (hC:κ.cl c=some C) (hf:zq f k) (h:zk κ E (z9 c m f dp t) σ H Q):IL C m (zo κ k f) [] E (zj κ E dp) (zP κ E t) σ H Q:=by
 obtain⟨F,rel,o⟩:=h
 refine (ym (K:=kP κ) z6 rel o).mono fun v H1 zz175 => ?_
 obtain ⟨β1,h1,g,e1,⟨r1,rf⟩,o1⟩ := zz175
 match g,rf,o1 with
 |.s i,rf,o1=>exact o1.elim
 |.x x,rf,o1=>
  cases q:y9 h1 (.x x) with
  |none=>simp only[q]at o1;exact o1.elim
  |some w=>
   obtain⟨c',fs⟩:=w;simp only[q]at o1
   by_cases hc:c'=c/\fs.lookup m=none
   .rw[Ac hc]at o1
    obtain⟨a,C',dx,gs,rfl,k1,k2,k3⟩:=Nx (F:=F.to β1 h1) r1 rf q;rw[hc.1,hC]at k1;cases k1
    refine⟨a,dx,gs,rfl,k2,k3.lookup_none hc.2,?_⟩
    refine (ym (F:=F.to β1 h1) (K:=kA κ) z6 r1 o1).mono fun vs H2 zz176 => ?_
    obtain ⟨β2,h2,fs2,e2,⟨r2,rf2⟩,o2⟩ := zz176
    cases q2:vals3 fs2 with
    |none=>simp only[q2]at o2;exact o2.elim
    |some xs=>
     simp only[q2]at o2;have hr:=CM rf2 q2;have rx:Rep κ β2 F.O H2 x (.ref a):=Rep.ext0 e2 rf;rw[B4]
     refine⟨F.O,β2,x::xs,h2,?_,r2.heap,.cons rx hr,FOut.of (F:=F.to β2 h2) r2 o2⟩
     refine Gs fun n=>?_
     rw[hf (x::xs) h2 (by rw[Az,hr.length];exact n)]at o2
     exact o2
   .rw[Ab hc]at o1;exact o1.elim
def N0 {C fa:Addr} {c m:Str} {es:List Expr} {f:F3} {dp:P3} {t:A3} {k:Nat} {fd:FuncData} {ps:List Str} {n:Nat} {pl:Sem Bool} (hC:κ.cl c=some C) (hf:zq f n) (he:PE X o (zj κ E dp)) (cl:Cls X.K C) (hm:Meth X.K C m fa) (Fk:FnOk X.prog X.w X.K X.mg X.base (XT X.prog X.w) k fa fd ps (zo κ n f)) (hr:Room k X.A) (hb:Binds X.K fd ps []) (hx:qV (XT X.prog X.w) X E)
 (ha:PA X (e::es) (zP κ E t)) (hst:SE X e es:=by rfl) (hpl:BA X pos es:=by rfl)
 (ht:eval (.Call (.Attribute o m apos) (e::es) [] pos) X.env=(do
  let ov <-eval o X.env
  standAt apos.atName
  let (f,first) <-holding [ov] (getMethod ov m pl)
  callWith pos f first (backTo pos (starEach (e::es) X.env)) (backToKw pos (keywordEach [] X.env))):=by rfl):
 PE X (.Call (.Attribute o m apos) (e::es) [] pos) (zk κ E (z9 c m f dp t)):=yK (R5 he cl hm Fk hr hb .nil hx ha hst hpl ht) fun _ _ _ h=>Nz hC hf h
def BX {C fa:Addr} {c m:Str} {f:F3} {dp:P3} {k:Nat} {fd:FuncData} {ps:List Str} {n:Nat} {pl:Sem Bool} (hC:κ.cl c=some C) (hf:zq f n) (he:PE X o (zj κ E dp)) (cl:Cls X.K C) (hm:Meth X.K C m fa) (Fk:FnOk X.prog X.w X.K X.mg X.base (XT X.prog X.w) k fa fd ps (zo κ n f)) (hr:Room k X.A) (hb:Binds X.K fd ps []) (hx:qV (XT X.prog X.w) X E)
  (ht:eval (.Call (.Attribute o m apos) [] [] pos) X.env=(do
   let ov <-eval o X.env
   standAt apos.atName
   let (f,first) <-holding [ov] (getMethod ov m pl)
   callWith pos f first (backTo pos (starEach [] X.env)) (backToKw pos (keywordEach [] X.env))):=by rfl):
  PE X (.Call (.Attribute o m apos) [] [] pos) (zk κ E (z9 c m f dp aNil)):=yK (R6 he cl hm Fk hr hb .nil hx ht) fun σ H Q h=>by
 refine tOf.mono (Nz hC hf h) fun x H1 ⟨a,dx,fs,h1,h2,h3,h4⟩=>⟨a,dx,fs,h1,h2,h3,?_⟩
 obtain⟨F1,r1,h5⟩:=h4;exact h5 F1.β [] H1 Ext.refl ⟨r1,.nil⟩
def eNew (c:Str) (f:F3) (a:A3):E3:=fun s h=>(a s h).bind fun fs h1=>match vals3 fs with
 |some vs=>match f (.loc h1.length::vs) (h1++[.ins c []]) with
  |.ok (.v .non) h2=>.ok (.v (.loc h1.length)) h2
  |.ex x h2=>.ex x h2
  |_=>.no
 |none=>.no
def TZ {C:Addr} {c:Str} {f:F3} {t:A3} {k:Nat} (hC:κ.cl c=some C) (hf:zq f k) (h:zk κ E (eNew c f t) σ H Q):LY C (zo κ k f) [] E (zP κ E t) σ H Q:=by
 obtain⟨F,rel,o⟩:=h
 refine (ym (K:=kA κ) z6 rel o).mono fun vs H1 ⟨β1,h1,fs,e1,⟨r1,rf1⟩,o1⟩=>fun x dx hx hdx hne=>?_
 cases q:vals3 fs with
 |none=>simp only[q]at o1;exact o1.elim
 |some xs=>
  simp only[q]at o1;have hr:Reps κ β1 F.O H1 xs vs:=CM (F:=F.to β1 h1) rf1 q;have hl:β1.length=h1.length:=r1.heap.len;have hdx2:(zr H1 dx (.own x)) x=none:=by rw[zX (Cc hne)];exact hx
  have kp:∀a u,H1 a=some u->(zr (zr H1 dx (.own x)) x (.ins C dx [])) a=some u:=fun a u ha=>by rw[zX (qA ha hx),zX (qA ha hdx)];exact ha
  obtain⟨nx,nO⟩:=r1.heap.off_new hx;have ex:Ext No β1 H1 (β1++[some x]) (zr (zr H1 dx (.own x)) x (.ins C dx [])):=⟨fun a u ha hn _=>⟨kp a u ha,fun z=>by
    rcases Ax.mp z with z|z
    .exact hn z
    .have:=Ap.mp z
     cases this;rw[hx]at ha;cases ha⟩,by simp,fun i a hi h=>by rw[Bg hi]at h;exact h,fun a u ha=>⟨u,kp a u ha⟩,fun i a hi h=>by
    rw[Bl hi]at h;have:a=x:=by have:=Al h;simp at this;exact this
    rw[this];exact hx⟩
  have rh:RelH κ F.O (β1++[some x]) (h1++[.ins c []]) (zr (zr H1 dx (.own x)) x (.ins C dx [])):=by
   refine⟨by simp[hl],fun i j a h1' h2'=>?_,fun a ha z=>?_,fun a ha=>let ⟨u,q,n⟩:=r1.heap.trk a ha;⟨u,kp a u q,n⟩,fun i a q=>?_,fun i c' hc=>?_⟩
   .rcases C6 i β1.length with hi|hi<;>rcases C6 j β1.length with hj|hj
    .rw[Bg hi]at h1';rw[Bg hj]at h2';exact r1.heap.inj i j a h1' h2'
    .rw[Bg hi]at h1';rw[Bl hj]at h2'
     have:a=x:=by
      have:=Al h2';simp at this;exact this
     subst this;exact absurd (Al h1') nx
    .rw[Bl hi]at h1';rw[Bg hj]at h2'
     have:a=x:=by
      have:=Al h1';simp at this;exact this
     subst this;exact absurd (Al h2') nx
    .have hi2:i<(β1++[some x]).length:=(Ao.mp h1').1
     have hj2:j<(β1++[some x]).length:=(Ao.mp h2').1;simp at hi2 hj2;lia
   .rcases Ax.mp z with z|z
    .exact r1.heap.off a ha z
    .have:=Ap.mp z
     cases this;exact nO ha
   .rcases C6 i β1.length with hi|hi
    .rw[Bg hi]at q
     obtain⟨u,hu,n⟩:=r1.heap.btr i a q;exact⟨u,kp a u hu,n⟩
    .rw[Bl hi]at q
     have:a=x:=by have:=Al q;simp at this;exact this
     subst this;exact⟨_,yR,by intro _ z;cases z⟩
   .rcases C6 i h1.length with hi|hi
    .rw[Bg hi]at hc
     refine (r1.heap.cell i c' hc).imp id fun zz179 => by obtain ⟨a,ha,q⟩ := zz179; exact ⟨a,by rw[Bg (by rw[hl];exact hi)];exact ha,q.ext ex (fun _ z=>z.elim) (fun _ _ _ n=>n) fun u hu=>kp a u hu⟩
    .rw[Bl hi]at hc
     have hi2:i-h1.length=0:=by
      have:=(Ao.mp hc).1;simp at this;exact this
     rw[hi2]at hc;cases hc;have ei:i=h1.length:=by lia
     subst ei;exact .inr ⟨x,by rw[<-hl];simp,C,dx,[],hC,yR,.nil⟩
  have rloc:Rep κ (β1++[some x]) F.O (zr (zr H1 dx (.own x)) x (.ins C dx [])) (.loc h1.length) (.ref x):= .loc (by simp[hl]) fun a ha=>by rw[<-hl]at ha;simp at ha;rw[ha]
  rw[B4]
  refine⟨F.O,β1++[some x],.loc h1.length::xs,h1++[.ins c []],?_,rh,.cons rloc (hr.ext0 ex),?_⟩
  .refine Gs fun n=>?_
   rw[hf (.loc h1.length::xs) _ (by rw[Az,hr.length];exact n)]at o1
   exact o1
  .cases q2:f (.loc h1.length::xs) (h1++[.ins c []]) with
   |no=>simp only[q2]at o1;exact o1
   |ex x' h2=>simp only[q2]at o1;exact fun β' H' e' r'=>o1 β' H' (ex.trans0 e') (r'.sub fun a ha=>.inr (.inr ha))
   |ok r h2=>
    match r,q2 with
    |.v .non,q2=>
     simp only[q2]at o1;intro β' v H' e' pf;obtain⟨rh',rn⟩:=pf;cases rn
     refine⟨rfl,o1 β' (.ref x) H' (ex.trans0 e') ⟨Rel.next (F:=F.to β1 h1) r1 (ex.trans0 e') rh',.loc ?_ fun a ha=>?_⟩⟩
     .show h1.length<β'.length;have:=e'.len;simp at this;lia
     .have:=e'.bet h1.length a (by simp[hl]) ha
      rw[<-hl]at this;simp at this;rw[this]
    |.m _,q2=>simp only[q2]at o1;exact o1.elim
    |.v (.bl _),q2=>simp only[q2]at o1;exact o1.elim
    |.v (.int _),q2=>simp only[q2]at o1;exact o1.elim
    |.v (.str _),q2=>simp only[q2]at o1;exact o1.elim
    |.v (.ty _),q2=>simp only[q2]at o1;exact o1.elim
    |.v (.tup _),q2=>simp only[q2]at o1;exact o1.elim
    |.v (.lst _),q2=>simp only[q2]at o1;exact o1.elim
    |.v (.scr _),q2=>simp only[q2]at o1;exact o1.elim
    |.v (.dK _),q2=>simp only[q2]at o1;exact o1.elim
    |.v (.dT _),q2=>simp only[q2]at o1;exact o1.elim
    |.v (.obj _ _),q2=>simp only[q2]at o1;exact o1.elim
    |.v (.cls _),q2=>simp only[q2]at o1;exact o1.elim
    |.v (.fn _ _),q2=>simp only[q2]at o1;exact o1.elim
    |.v (.loc _),q2=>simp only[q2]at o1;exact o1.elim
def Jz {C fI:Addr} {c x:Str} {es:List Expr} {f:F3} {t:A3} {k:Nat} {fd:FuncData} {ps:List Str} {n:Nat} (hC:κ.cl c=some C) (hf:zq f n) (M:Mk X.K C fI) (Fk:FnOk X.prog X.w X.K X.mg X.base (XT X.prog X.w) k fI fd ps (zo κ n f)) (hr:Room (k+1) X.A) (hg:Gl X x) (hm:X.mg x=some (.ref C)) (hb:Binds X.K fd ps []) (hx:qV (XT X.prog X.w) X E)
 (ha:PA X (e::es) (zP κ E t)) (hdb:(x==("__debug__" :Str))=false:=by decide) (he:SE X e es:=by rfl) (hpl:BA X pos es:=by rfl):
 PE X (.Call (.Name x np) (e::es) [] pos) (zk κ E (eNew c f t)):=yK (R8 M Fk hr hg hm hb .nil hx ha hdb he hpl) fun _ _ _ h=>TZ hC hf h
end
mutual
noncomputable def low (n:Nat):V3->Bool
 |.loc m=>decide (m<n)
 |.tup xs=>lows n xs
 |.lst xs=>lows n xs
 |.dK kvs=>lowK n kvs
 |.dT kvs=>lowT n kvs
 |.obj _ fs=>lowF n fs
 |.fn _ env=>lows n env
 |_=>true
noncomputable def lows (n:Nat):List V3->Bool
 | []=>true
 |x::r=>low n x && lows n r
noncomputable def lowK (n:Nat):List (z8×V3)->Bool
 | []=>true
 | (_,x)::r=>low n x && lowK n r
noncomputable def lowT (n:Nat):List (MK×V3)->Bool
 | []=>true
 | (_,x)::r=>low n x && lowT n r
noncomputable def lowF (n:Nat):List (Str×V3)->Bool
 | []=>true
 | (_,x)::r=>low n x && lowF n r
end
section
variable {X:Cx} {κ:Kx} {E:XK} {F F':Fr} {σ σ':L2.St} {H H1 H':Hp} {Q:VK} {p:Addr} {e a b c o:Expr} {pos apos np cpos:Pos} {i:Nat} {D:Ends} {β:AO} {O:Addr->Prop}
def yG {α:Type} (n:Nat) (kvs:List (α×V3)):Prop:=∀kv∈kvs,low n kv.2=true
theorem lowK_iff {n:Nat}:∀{kvs:List (z8×V3)},lowK n kvs=true↔yG n kvs
 | []=>by simp[lowK,yG]
 | (k,x)::r=>by simp[lowK,yG,Be,lowK_iff (kvs:=r)]
theorem lowT_iff {n:Nat}:∀{kvs:List (MK×V3)},lowT n kvs=true↔yG n kvs
 | []=>by simp[lowT,yG]
 | (k,x)::r=>by simp[lowT,yG,Be,lowT_iff (kvs:=r)]
theorem lowF_iff {n:Nat}:∀{kvs:List (Str×V3)},lowF n kvs=true↔yG n kvs
 | []=>by simp[lowF,yG]
 | (k,x)::r=>by simp[lowF,yG,Be,lowF_iff (kvs:=r)]
mutual
theorem Rep.low:∀{x:V3} {v:V},Rep κ β O H x v->low β.length x=true
 |_,_,.non=>by simp[L3.low]
 |_,_,.bl _=>by simp[L3.low]
 |_,_,.int _=>by simp[L3.low]
 |_,_,.str _=>by simp[L3.low]
 |_,_,.ty _=>by simp[L3.low]
 |_,_,.tup _ _ _ r=>by simp only[L3.low];exact Reps.low r
 |_,_,.lst _ _ _ r=>by simp only[L3.low];exact Reps.low r
 |_,_,.scr _ _ _=>by simp[L3.low]
 |_,_,.scrK _=>by simp[L3.low]
 |_,_,.dK _ _ _ r=>by simp only[L3.low];exact lowK_iff.mpr (RepP.low r)
 |_,_,.dT _ _ _ r=>by simp only[L3.low];exact lowT_iff.mpr (RepP.low r)
 |_,_,.obj _ _ _ _ r=>by simp only[L3.low];exact lowF_iff.mpr (RepP.low r)
 |_,_,.cls _=>by simp[L3.low]
 |_,_,.loc h _=>by simp[L3.low,h]
theorem Reps.low:∀{x:List V3} {v:List V},Reps κ β O H x v->lows β.length x=true
 |_,_,.nil=>by simp[L3.lows]
 |_,_,.cons a r=>by simp only[L3.lows,Be];exact⟨Rep.low a,Reps.low r⟩
theorem RepP.low:∀{α:Type} {x:List (α×V3)} {v:List (α×V)},RepP κ β O H x v->yG β.length x
 |_,_,_,.nil=>fun kv h=>by cases h
 |_,_,_,.cons a r=>fun kv h=>by
  rcases Af.mp h with z|z
  .rw[z];exact Rep.low a
  .exact RepP.low r kv z
end
mutual
theorem Rep.cut {n:Nat}:∀{x:V3} {v:V},Rep κ β O H x v->low n x=true->Rep κ (β.take n) O H x v
 |_,_,.non,_=>.non
 |_,_,.bl b,_=>.bl b
 |_,_,.int i,_=>.int i
 |_,_,.str x,_=>.str x
 |_,_,.ty x,_=>.ty x
 |_,_,.tup h1 h2 h3 r,l=>.tup h1 (fun z=>h2 (Cr z)) h3 (Reps.cut r (by simpa only[L3.low] using l))
 |_,_,.lst h1 h2 h3 r,l=>.lst h1 (fun z=>h2 (Cr z)) h3 (Reps.cut r (by simpa only[L3.low] using l))
 |_,_,.scr h1 h2 h3,_=>.scr h1 (fun z=>h2 (Cr z)) h3
 |_,_,.scrK h,_=>.scrK h
 |_,_,.dK h1 h2 h3 r,l=>.dK h1 (fun z=>h2 (Cr z)) h3 (RepP.cut r (lowK_iff.mp (by simpa only[L3.low] using l)))
 |_,_,.dT h1 h2 h3 r,l=>.dT h1 (fun z=>h2 (Cr z)) h3 (RepP.cut r (lowT_iff.mp (by simpa only[L3.low] using l)))
 |_,_,.obj h0 h1 h2 h3 r,l=>.obj h0 h1 (fun z=>h2 (Cr z)) h3 (RepP.cut r (lowF_iff.mp (by simpa only[L3.low] using l)))
 |_,_,.cls h,_=>.cls h
 |_,_,.loc (n:=m) h1 h2,l=>by
  have hm:m<n:=by simpa[L3.low] using l
  exact .loc (by rw[Bc];lia) fun a ha=>h2 a (by rw[Cn hm]at ha;exact ha)
theorem Reps.cut {n:Nat}:∀{x:List V3} {v:List V},Reps κ β O H x v->lows n x=true->Reps κ (β.take n) O H x v
 |_,_,.nil,_=>.nil
 |_,_,.cons a r,l=>by
  simp only[L3.lows,Be]at l;exact .cons (Rep.cut a l.1) (Reps.cut r l.2)
theorem RepP.cut {n:Nat}:∀{α:Type} {x:List (α×V3)} {v:List (α×V)},RepP κ β O H x v->yG n x->RepP κ (β.take n) O H x v
 |_,_,_,.nil,_=>.nil
 |_,_,_,.cons a r,l=>.cons (Rep.cut a (l _ Ak)) (RepP.cut r fun kv h=>l kv (An _ h))
end
def lowC (n:Nat):C3->Prop
 |.lst xs=>lows n xs=true
 |.dK kvs=>yG n kvs
 |.dT kvs=>yG n kvs
 |.ins _ fs=>yG n fs
 |.dead=>True
theorem CellR.low {c:C3} {a:Addr} (r:CellR κ β O H c a):lowC β.length c:=by
 cases c with
 |lst xs=>obtain⟨_,_,r⟩:=r;exact r.low
 |dK xs=>obtain⟨_,_,r⟩:=r;exact r.low
 |dT xs=>obtain⟨_,_,r⟩:=r;exact r.low
 |ins c fs=>obtain⟨_,_,_,_,_,r⟩:=r;exact r.low
 |dead=>exact r.elim
theorem CellR.cut {c:C3} {a:Addr} {n:Nat} (r:CellR κ β O H c a) (l:lowC n c):CellR κ (β.take n) O H c a:=by
 cases c with
 |lst xs=>obtain⟨_,q,r⟩:=r;exact⟨_,q,r.cut l⟩
 |dK xs=>obtain⟨_,q,r⟩:=r;exact⟨_,q,r.cut l⟩
 |dT xs=>obtain⟨_,q,r⟩:=r;exact⟨_,q,r.cut l⟩
 |ins c fs=>obtain⟨_,_,_,k,q,r⟩:=r;exact⟨_,_,_,k,q,r.cut l⟩
 |dead=>exact r.elim
mutual
theorem Rep.addO {x:Addr} (hx:some x∈β):∀{v:V3} {w:V},Rep κ β O H v w->Rep κ β (fun a=>a=x\/O a) H v w
 |_,_,.non=>.non
 |_,_,.bl b=>.bl b
 |_,_,.int i=>.int i
 |_,_,.str x=>.str x
 |_,_,.ty x=>.ty x
 |_,_,.tup h1 h2 h3 r=>.tup h1 h2 (fun z=>z.elim (fun e=>h2 (by rw[e];exact hx)) h3) (Reps.addO hx r)
 |_,_,.lst h1 h2 h3 r=>.lst h1 h2 (fun z=>z.elim (fun e=>h2 (by rw[e];exact hx)) h3) (Reps.addO hx r)
 |_,_,.scr h1 h2 h3=>.scr h1 h2 (fun z=>z.elim (fun e=>h2 (by rw[e];exact hx)) h3)
 |_,_,.scrK h=>.scrK h
 |_,_,.dK h1 h2 h3 r=>.dK h1 h2 (fun z=>z.elim (fun e=>h2 (by rw[e];exact hx)) h3) (RepP.addO hx r)
 |_,_,.dT h1 h2 h3 r=>.dT h1 h2 (fun z=>z.elim (fun e=>h2 (by rw[e];exact hx)) h3) (RepP.addO hx r)
 |_,_,.obj h0 h1 h2 h3 r=>.obj h0 h1 h2 (fun z=>z.elim (fun e=>h2 (by rw[e];exact hx)) h3) (RepP.addO hx r)
 |_,_,.cls h=>.cls h
 |_,_,.loc h1 h2=>.loc h1 h2
theorem Reps.addO {x:Addr} (hx:some x∈β):∀{v:List V3} {w:List V},Reps κ β O H v w->Reps κ β (fun a=>a=x\/O a) H v w
 |_,_,.nil=>.nil
 |_,_,.cons a r=>.cons (Rep.addO hx a) (Reps.addO hx r)
theorem RepP.addO {x:Addr} (hx:some x∈β):∀{α:Type} {v:List (α×V3)} {w:List (α×V)},RepP κ β O H v w->RepP κ β (fun a=>a=x\/O a) H v w
 |_,_,_,.nil=>.nil
 |_,_,_,.cons a r=>.cons (Rep.addO hx a) (RepP.addO hx r)
end
theorem CellR.addO {c:C3} {a x:Addr} (hx:some x∈β) (r:CellR κ β O H c a):CellR κ β (fun a=>a=x\/O a) H c a:=by
 cases c with
 |lst xs=>obtain⟨_,q,r⟩:=r;exact⟨_,q,r.addO hx⟩
 |dK xs=>obtain⟨_,q,r⟩:=r;exact⟨_,q,r.addO hx⟩
 |dT xs=>obtain⟨_,q,r⟩:=r;exact⟨_,q,r.addO hx⟩
 |ins c fs=>obtain⟨_,_,_,k,q,r⟩:=r;exact⟨_,_,_,k,q,r.addO hx⟩
 |dead=>exact r.elim
open Classical in
def eObj (e:E3):E3:=fun s h=>(e s h).bind fun r h1=>match r with
 |.v (.loc n)=>match h1[n]? with
  |some (.ins c fs)=>if n=h.length/\h1=h++[.ins c fs]/\lowF n fs=true then .ok (.m (.ins c fs)) h else .no
  |_=>.no
 |_=>.no
def Ua {β1:AO} {h1:H3} {n:Nat} {c:Str} {fs:List (Str×V3)} {v:V} (rel:Rel κ F σ H) (e1:Ext No F.β H β1 H1) (r1:Rel κ (F.to β1 h1) σ H1) (rl:Rep κ β1 F.O H1 (.loc n) v) (en:n=F.h.length) (eh:h1=F.h++[.ins c fs]) (hlow:lowF n fs=true):
  Ext No F.β H (β1.take n) H1/\Post κ (Nw H) (F.to (β1.take n) F.h) σ H1 (.m (.ins c fs)) v:=by
 have hl1:β1.length=h1.length:=r1.heap.len;have hl0:F.β.length=F.h.length:=rel.heap.len;have hlen:β1.length=n+1:=by rw[hl1,eh];simp[en]
 have hn:h1[n]? =some (.ins c fs):=by rw[eh,en];simp
 rcases r1.heap.cell n _ hn with w|⟨x,hx,C,dx,gs,k1,k2,k3⟩
 .cases w
 have hx:β1[n]? =some (some x):=hx;have ev:v=.ref x:=by cases rl with|loc _ l2=>exact l2 x hx
 subst ev;have hxb:some x∈β1:=Al hx;have hxn:some x∉β1.take n:=fun z=>by
  obtain⟨j,hj⟩:=B9 z;have hj2:j<n:=by have:=(Ao.mp hj).1;rw[Bc]at this;lia
  rw[Cn hj2]at hj;have:=r1.heap.inj j n x hj hx;lia
 have hxH:H x=none:=e1.nwb n x (by lia) hx
 have ex:Ext No F.β H (β1.take n) H1:=⟨fun a u ha hb m=>by
   obtain⟨q1,q2⟩:=e1.keep a u ha hb m;exact⟨q1,fun z=>q2 (Cr z)⟩,by rw[Bc];lia,fun i a hi h=>by
   rw[Cn (by lia)]at h;exact e1.bet i a hi h,e1.there,fun i a hi h=>by
   have:=(Ao.mp h).1;rw[Bc]at this;lia⟩
 have rh:RelH κ (fun a=>a=x\/F.O a) (β1.take n) F.h H1:=by
  refine⟨by rw[Bc];lia,fun i j a h1' h2'=>?_,fun a ha z=>?_,fun a ha=>?_,fun i a q=>?_,fun i c' hc=>?_⟩
  .have hi:i<n:=by have:=(Ao.mp h1').1;rw[Bc]at this;lia
   have hj:j<n:=by have:=(Ao.mp h2').1;rw[Bc]at this;lia
   rw[Cn hi]at h1';rw[Cn hj]at h2';exact r1.heap.inj i j a h1' h2'
  .rcases ha with ha|ha
   .subst ha;exact hxn z
   .exact r1.heap.off a ha (Cr z)
  .rcases ha with ha|ha
   .subst ha;exact⟨_,k2,by intro _ z;cases z⟩
   .exact r1.heap.trk a ha
  .have hi:i<n:=by have:=(Ao.mp q).1;rw[Bc]at this;lia
   rw[Cn hi]at q;exact r1.heap.btr i a q
  .have hi:i<n:=by rw[en];exact (Ao.mp hc).1
   have hc1:h1[i]? =some c':=by rw[eh,Bg (by lia)];exact hc
   have hlw:c'=.dead\/lowC n c':=(rel.heap.cell i c' hc).imp id fun zz180 => by obtain ⟨a,_,q⟩ := zz180; have:=q.low;rw[hl0,<-en]at this;exact this
   rcases hlw with z|hlw
   .exact .inl z
   .exact (r1.heap.cell i c' hc1).imp id fun zz181 => by obtain ⟨a,ha,q⟩ := zz181; exact ⟨a,by rw[Cn hi];exact ha,(CellR.addO hxb q).cut hlw⟩
 refine⟨ex,x,rfl,rel.nextNew ex rh hxH,⟨C,dx,gs,k1,k2,((RepP.addO hxb k3).cut (lowF_iff.mp hlow)).sub fun a ha=>?_⟩,hxH⟩
 rcases ha with z|z
 .rcases Af.mp z with z|z
  .exact .inl z
  .exact .inr (.inl z)
 .exact .inr (.inr z)
def Ub {d:E3} (h:PE X e (zk κ E d)):PE X e (zk κ E (eObj d)):=yK h fun σ H Q ⟨F,rel,o⟩=>by
 refine⟨F,rel,?_⟩
 unfold eObj at o;cases q:d F.s F.h with
 |no=>rw[q]at o;exact o
 |ex x h1=>rw[q]at o;exact o
 |ok r h1=>
  rw[q]at o;intro β1 v H1 e1 p1;simp only[Res.bind]at o
  split at o
  .split at o
   .split at o
    .rename_i hc
     obtain⟨en,eh,hlow⟩:=hc;obtain⟨ex,ps⟩:=Ua rel e1 p1.1 p1.2 en eh hlow;exact o _ v H1 ex ps
    .exact o.elim
   .exact o.elim
  .exact o.elim
def iS (p:P3):I3:=fun s h=>(p s h).bind fun f h1=>match f with
 |.x (.str z)=>.ok ⟨[],z.cps.toList.map fun c=>.str ⟨#[c]⟩,fun _=>True⟩ h1
 |_=>.no
def Uc {tg l:Expr} {d:P3} (hl:PE X l (zj κ E d)):PI X tg l (yA κ E (iS d)):=PIw (Ta hl) fun σ H R ⟨F,rel,o⟩=>
 (ym (K:=kP κ) km_I rel o).mono fun v H1 ⟨β1,h1,f,e1,⟨r1,rf⟩,o1⟩=>by
  match f,rf,o1 with
  |.x (.str z),rf,o1=>
   cases (show Rep κ β1 F.O H1 (.str z) v from rf)
   refine⟨z,rfl,o1 β1 _ H1 Ext.refl ⟨r1,[],.nil,fun F' σ' H' rel' _ _ i=>?_⟩⟩
   have el:(z.cps.toList.map fun c=>V3.str ⟨#[c]⟩).length=z.length:=by simp[Str.length]
   refine⟨fun hi=>⟨show i<z.length by rw[el]at hi;exact hi,fun x H'' ⟨e1,c,hc,e2⟩=>?_⟩,fun hi=>show z.length<=i by rw[el]at hi;exact hi⟩
   subst e1;subst e2
   refine⟨.str ⟨#[c]⟩,?_,Ext.refl,rel',.str _⟩
   rw[Ba,Bm,hc];rfl
noncomputable def oInS (neg:Bool):F2:=fun _ _ x y=>match x,y with
 |.x (.str i),.x (.str j)=>some (.v (.bl (if neg then !(!(Builtin.Str.occurrences j i 0 j.length 1).isEmpty) else !(Builtin.Str.occurrences j i 0 j.length 1).isEmpty)))
 |_,_=>none
def N1:OpSim κ (fun x y H Q=> ∃i j,x=.str i/\y=.str j/\Q (.bl (!(Builtin.Str.occurrences j i 0 j.length 1).isEmpty)) H) (oInS false):=fun F σ H x y z v w Q rel rx ry e k=>by
 unfold oInS at e
 split at e
 .rename_i i j
  cases e;cases (show Rep κ F.β F.O H (.str i) v from rx)
  cases (show Rep κ F.β F.O H (.str j) w from ry)
  exact⟨i,j,rfl,rfl,k _ H Ext.refl ⟨rel,.bl _⟩⟩
 .cases e
def inO (neg:Bool) (s:S3) (h:H3) (x y:Rf):Option Bool:=match x with
 |.x a=>match (match y with | .x (.tup xs)=>some xs|f=>rdl s h f) with
  |some xs=>(zB (fun b=>zQ h 8 b a) xs).map fun bs=>if neg then !bs.any id else bs.any id
  |none=>none
 |_=>none
end
section
variable {X:Cx} {κ:Kx} {E:XK} {F F':Fr} {σ σ':L2.St} {H H1 H':Hp} {Q:VK} {p:Addr} {e a b c o:Expr} {es:List Expr} {pos apos np cpos:Pos} {i:Nat} {D:Ends}
def qt {A:Around} {k:Nat} (hr:Room k A):A.units+9<cLine:=by have:=hr.units;lia
def Flds.cons {cs:List Str} {c f:Str} {C:Addr} (hC:κ.cl c=some C) (cl:Cls X.K C) (na:NoAttr X.K C f) (r:Flds X κ cs f):Flds X κ (c::cs) f:=fun c' hc C' hC'=>by
 rcases Af.mp hc with z|z
 .subst z;rw[hC]at hC';cases hC';exact⟨cl,na⟩
 .exact r c' z C' hC'
def qi:∀xs s s',gsNil xs s=some s'->xs.length=0:=fun xs s s' e=>by
 cases xs with
 |nil=>rfl
 |cons _ _=>cases e
def zT {g:G3} {gs:Gs3} {n:Nat} (h:∀xs s s',gs xs s=some s'->xs.length=n):∀xs s s',gsCons g gs xs s=some s'->xs.length=n+1:=fun xs s s' e=>by
 cases xs with
 |nil=>cases e
 |cons x r=>
  simp only[gsCons]at e;cases q:g x s with
  |none=>rw[q]at e;cases e
  |some s1=>rw[q]at e;rw[Az,h r s1 s' e]
def sAug (i:Nat) (f:F2) (p:P3):D3:=fun s h=>match s[i]? with
 |some (some (.v x))=>(p s h).bindS fun y h1=>match f s h1 (.x x) y with
  |some (.v z)=>.nx (s.set i (some (.v z))) h1
  |_=>.no
 |_=>.no
def J0:OpSim κ (ipI fun i j=>i+j) BD:=sim_addI
def J1:OpSim κ (ipI fun i j=>i-j) zL:=qu
def N2 {x:Str} {op:Operator} {ti:TIp} {f:F2} {d:P3} {pos':Pos} (hs:OpSim κ ti f) (hh:∀{te:TE},PE X e te->PS X (.AugAssign (.Name x pos') op e pos) (tAug i te ti)) (he:PE X e (zj κ E d)):PS X (.AugAssign (.Name x pos') op e pos) (zt κ E (sAug i f d)):=ql (hh he) fun D σ H ⟨F,rel,ht,o⟩=>by
 unfold sAug at o;cases q:F.s[i]? with
 |none=>rw[q]at o;exact o.elim
 |some z=>
  rw[q]at o
  match z,q,o with
  |none,q,o=>exact o.elim
  |some (.m _),q,o=>exact o.elim
  |some (.v x3),q,o=>
   obtain⟨v,h1,h2⟩:=rel.slot i _ q
   refine⟨v,h1,(bindS (K:=kP κ) rel ht o).mono fun w H1 ⟨β1,h1',y,e1,⟨r1,ry⟩,o1⟩=>?_⟩
   have hi':i<F.s.length:=(Ao.mp q).1;cases q2:f F.s h1' (.x x3) y with
   |none=>simp only[q2]at o1;exact o1.elim
   |some z=>
    refine hs (F.to β1 h1') σ H1 (.x x3) y z v w _ r1 (show Rep κ β1 F.O H1 x3 v from Rep.ext0 e1 h2) ry q2 fun u H2 e2 p2=>?_
    match z,q2,p2,o1 with
    |.m _,q2,p2,o1=>simp only[q2]at o1;exact o1.elim
    |.v z,q2,p2,o1=>
     simp only[q2]at o1;have s1:SExt F H (F.to β1 h1') H1:=SExt.of0 ht e1;have s2:SExt (F.to β1 h1') H1 (F.to β1 h1') H2:=SExt.of0 (F:=F.to β1 h1') (h':=h1') ht e2;exact o1 ((F.to β1 h1').setV i z) _ H2 ((s1.trans s2).trans (SExt.setN ht)) rfl rfl (p2.1.setV p2.2 hi')
def qc (e:E3):E3:=fun s h=>(e s h).bind fun r h1=>match r with
 |.m c=>.ok (.v (.loc h1.length)) (h1++[c])
 |.v x=>.ok (.v x) h1
mutual
theorem Rep.grow {β:AO} {O O':Addr->Prop} {x:Addr} (hx:O x) (hs:∀a,O' a->O a):∀{v:V3} {w:V},Rep κ β O H v w->Rep κ (β++[some x]) O' H v w
 |_,_,.non=>.non
 |_,_,.bl b=>.bl b
 |_,_,.int i=>.int i
 |_,_,.str x=>.str x
 |_,_,.ty x=>.ty x
 |_,_,.tup h1 h2 h3 r=>.tup h1 (fun z=>(Ax.mp z).elim h2 fun z=>h3 (by have:=Ap.mp z;cases this;exact hx)) (fun z=>h3 (hs _ z)) (Reps.grow hx hs r)
 |_,_,.lst h1 h2 h3 r=>.lst h1 (fun z=>(Ax.mp z).elim h2 fun z=>h3 (by have:=Ap.mp z;cases this;exact hx)) (fun z=>h3 (hs _ z)) (Reps.grow hx hs r)
 |_,_,.scr h1 h2 h3=>.scr h1 (fun z=>(Ax.mp z).elim h2 fun z=>h3 (by have:=Ap.mp z;cases this;exact hx)) (fun z=>h3 (hs _ z))
 |_,_,.scrK h=>.scrK h
 |_,_,.dK h1 h2 h3 r=>.dK h1 (fun z=>(Ax.mp z).elim h2 fun z=>h3 (by have:=Ap.mp z;cases this;exact hx)) (fun z=>h3 (hs _ z)) (RepP.grow hx hs r)
 |_,_,.dT h1 h2 h3 r=>.dT h1 (fun z=>(Ax.mp z).elim h2 fun z=>h3 (by have:=Ap.mp z;cases this;exact hx)) (fun z=>h3 (hs _ z)) (RepP.grow hx hs r)
 |_,_,.obj h0 h1 h2 h3 r=>.obj h0 h1 (fun z=>(Ax.mp z).elim h2 fun z=>h3 (by have:=Ap.mp z;cases this;exact hx)) (fun z=>h3 (hs _ z)) (RepP.grow hx hs r)
 |_,_,.cls h=>.cls h
 |_,_,.loc h1 h2=>.loc (by rw[As];lia) fun a ha=>h2 a (by rw[Bg h1]at ha;exact ha)
theorem Reps.grow {β:AO} {O O':Addr->Prop} {x:Addr} (hx:O x) (hs:∀a,O' a->O a):∀{v:List V3} {w:List V},Reps κ β O H v w->Reps κ (β++[some x]) O' H v w
 |_,_,.nil=>.nil
 |_,_,.cons a r=>.cons (Rep.grow hx hs a) (Reps.grow hx hs r)
theorem RepP.grow {β:AO} {O O':Addr->Prop} {x:Addr} (hx:O x) (hs:∀a,O' a->O a):∀{α:Type} {v:List (α×V3)} {w:List (α×V)},RepP κ β O H v w->RepP κ (β++[some x]) O' H v w
 |_,_,_,.nil=>.nil
 |_,_,_,.cons a r=>.cons (Rep.grow hx hs a) (RepP.grow hx hs r)
end
theorem CellR.grow {β:AO} {O O':Addr->Prop} {x:Addr} (hx:O x) (hs:∀a,O' a->O a) {c:C3} {a:Addr} (r:CellR κ β O H c a):CellR κ (β++[some x]) O' H c a:=by
 cases c with
 |lst xs=>obtain⟨_,q,r⟩:=r;exact⟨_,q,r.grow hx hs⟩
 |dK xs=>obtain⟨_,q,r⟩:=r;exact⟨_,q,r.grow hx hs⟩
 |dT xs=>obtain⟨_,q,r⟩:=r;exact⟨_,q,r.grow hx hs⟩
 |ins c fs=>obtain⟨_,_,_,k,q,r⟩:=r;exact⟨_,_,_,k,q,r.grow hx hs⟩
 |dead=>exact r.elim
theorem Rel.cell {c:C3} {x:Addr} (r1:Rel κ (F.with x) σ H) (hc:CellR κ F.β (F.with x).O H c x):Rel κ (F.to (F.β++[some x]) (F.h++[c])) σ H/\Rep κ (F.β++[some x]) F.O H (.loc F.h.length) (.ref x):=by
 have hl:F.β.length=F.h.length:=r1.heap.len;have nx:some x∉F.β:=r1.offp;have nO: ¬F.O x:=r1.apart;have hxO:(F.with x).O x:= .inl Ak
 have hs:∀a,F.O a->(F.with x).O a:=fun a ha=>Fr.O_with ha
 have rd:=r1.drop;have last:∀{i:Nat} {a:Addr},F.β.length<=i->(F.β++[some x])[i]? =some (some a)->a=x/\i=F.β.length:=fun {i a} hi h=>by
  have h0:=(Ao.mp h).1;rw[Bl hi]at h;have:=Al h;simp at this;simp at h0;exact⟨this,by lia⟩
 refine⟨⟨⟨?_,fun i j a h1 h2=>?_,fun a ha z=>?_,rd.heap.trk,fun i a q=>?_,fun i c' hc'=>?_⟩,rd.slen,rd.llen,rd.linj,rd.lt,rd.lo,rd.to,rd.tn,fun i y hy=>?_⟩,?_⟩
 .show (F.β++[some x]).length=(F.h++[c]).length;simp[hl]
 .have h1:(F.β++[some x])[i]? =some (some a):=h1
  have h2:(F.β++[some x])[j]? =some (some a):=h2
  rcases C6 i F.β.length with hi|hi<;>rcases C6 j F.β.length with hj|hj
  .rw[Bg hi]at h1;rw[Bg hj]at h2;exact r1.heap.inj i j a h1 h2
  .obtain⟨rfl,_⟩:=last hj h2;rw[Bg hi]at h1;exact absurd (Al h1) nx
  .obtain⟨rfl,_⟩:=last hi h1;rw[Bg hj]at h2;exact absurd (Al h2) nx
  .have a1:=(last hi h1).2;have a2:=(last hj h2).2;lia
 .have z:some a∈F.β++[some x]:=z
  rcases Ax.mp z with z|z
  .exact rd.heap.off a ha z
  .have:=Ap.mp z;cases this;exact nO ha
 .have q:(F.β++[some x])[i]? =some (some a):=q
  rcases C6 i F.β.length with hi|hi
  .rw[Bg hi]at q;exact r1.heap.btr i a q
  .rw[(last hi q).1];exact r1.heap.trk x hxO
 .have hc':(F.h++[c])[i]? =some c':=hc'
  rcases C6 i F.h.length with hi|hi
  .rw[Bg hi]at hc'
   refine (r1.heap.cell i c' hc').imp id fun ⟨a,ha,q⟩=>⟨a,?_,q.grow hxO hs⟩
   show (F.β++[some x])[i]? =_;rw[Bg (by lia)];exact ha
  .rw[Bl hi]at hc'
   have h0:=(Ao.mp hc').1;simp at h0;rw[h0]at hc';cases hc';have ei:i=F.h.length:=by lia
   subst ei
   refine .inr ⟨x,?_,hc.grow hxO hs⟩
   show (F.β++[some x])[F.h.length]? =_;rw[<-hl];simp
 .obtain⟨v,h1,h2⟩:=r1.slot i y hy
  refine⟨v,h1,?_⟩
  cases y with
  |v y=>exact Rep.grow hxO hs h2
  |m c=>obtain⟨a,a1,a2,a3⟩:=h2;exact⟨a,a1,a2,a3.grow hxO hs⟩
 .refine .loc (by simp[hl]) fun a ha=>?_
  rw[<-hl]at ha;simp at ha;rw[ha]
def N3 {d:E3} {σ:L2.St} {H:Hp} {Q:VK} (h:zk κ E (qc d) σ H Q):zk κ E d σ H Q:=by
 obtain⟨F,rel,o⟩:=h
 refine⟨F,rel,?_⟩
 unfold qc at o;cases q:d F.s F.h with
 |no=>rw[q]at o;exact o
 |ex x h1=>rw[q]at o;exact o
 |ok r h1=>
  rw[q]at o;intro β1 v H1 e1 p1;cases r with
  |v x=>exact o β1 v H1 e1 p1
  |m c=>
   obtain⟨x,rfl,r1,hc,hn⟩:=p1;obtain⟨r2,rl⟩:=Rel.cell (F:=F.to β1 h1) r1 hc;have nx:some x∉β1:=r1.offp
   refine o (β1++[some x]) (.ref x) H1 ⟨fun a u ha hb m=>?_,by rw[As];have:=e1.len;lia,fun i a hi hh=>?_,e1.there,fun i a hi hh=>?_⟩ ⟨r2,rl⟩
   .obtain⟨q1,q2⟩:=e1.keep a u ha hb m
    refine⟨q1,fun z=>?_⟩
    rcases Ax.mp z with z|z
    .exact q2 z
    .have:=Ap.mp z;cases this
     rw[hn]at ha;cases ha
   .rw[Bg (by have:=e1.len;lia)]at hh
    exact e1.bet i a hi hh
   .rcases C6 i β1.length with h2|h2
    .rw[Bg h2]at hh;exact e1.nwb i a hi hh
    .rw[Bl h2]at hh
     have:a=x:=by have:=Al hh;simp at this;exact this
     rw[this];exact hn
def r_gl {d:E3} (h:PE X e (zk κ E d)):PE X e (zk κ E (qc d)):=yK h fun _ _ _=>N3
def oIn (neg:Bool):F2:=fun s h x y=>(inO neg s h x y).map fun b=>.v (.bl b)
def rInT (κ:Kx) (neg:Bool):R2:=fun v w H Q=> ∃F σ x y b,Rel κ F σ H/\RfR κ F H x v/\RfR κ F H y w/\inO neg F.s F.h x y=some b/\Q (.bl b) H
def Ud {neg:Bool}:OpSim κ (rInT κ neg) (oIn neg):=fun F σ H x y z v w Q rel rx ry e k=>by
 unfold oIn at e;cases q:inO neg F.s F.h x y with
 |none=>rw[q]at e;cases e
 |some b=>rw[q]at e;cases e;exact⟨F,σ,x,y,b,rel,rx,ry,q,k _ H Ext.refl ⟨rel,.bl _⟩⟩
def Ue:OpSim κ (rInT κ false) (oIn false):=Ud
def N4 {h:H3} {n:Nat} (rel:RelH κ F.O F.β h H) (hh:F.h=h) (ih:∀{x x' z:V3} {v:V} {b b':Bool},Rep κ F.β F.O H x v->Rep κ F.β F.O H x' v->zQ h n x z=some b->zQ h n x' z=some b'->b=b'):
  ∀{xs xs' zs:List V3} {vs:List V} {b b':Bool},Reps κ F.β F.O H xs vs->Reps κ F.β F.O H xs' vs->yI (zQ h n) xs zs=some b->yI (zQ h n) xs' zs=some b'->b=b':=by
 intro xs
 induction xs with
 |nil=>intro xs' zs vs b b' r1 r2 e1 e2;cases r1;cases r2;rw[e1]at e2;cases e2;rfl
 |cons x xs ihx=>
  intro xs' zs vs b b' r1 r2 e1 e2;cases r1 with
  |cons a1 t1=>
   cases r2 with
   | @cons x' _ xs' _ a2 t2=>
    cases zs with
    |nil=>unfold yI at e1 e2;cases e1;cases e2;rfl
    |cons z zs=>
     unfold yI at e1 e2;cases q1:zQ h n x z with
     |none=>simp only[q1]at e1;cases e1
     |some c1=>
      cases q2:yI (zQ h n) xs zs with
      |none=>simp only[q1,q2]at e1;cases e1
      |some c2=>
       cases q3:zQ h n x' z with
       |none=>simp only[q3]at e2;cases e2
       |some c3=>
        cases q4:yI (zQ h n) xs' zs with
        |none=>simp only[q3,q4]at e2;cases e2
        |some c4=>
         simp only[q1,q2]at e1;simp only[q3,q4]at e2;cases e1;cases e2;rw[ih a1 a2 q1 q3,ihx t1 t2 q2 q4]
theorem J2 (rel:RelH κ F.O F.β F.h H):∀(n:Nat) {x x' z:V3} {v:V} {b b':Bool},Rep κ F.β F.O H x v->Rep κ F.β F.O H x' v->zQ F.h n x z=some b->zQ F.h n x' z=some b'->b=b'
 |0,x,x',z,v,b,b',rx,rx',e,e'=>by
  have kx:=jD rel rx;have kx':=jD rel rx';unfold zQ at e e';cases h1:yw F.h x<;>cases h2:yw F.h x'<;>cases h3:yw F.h z<;>simp only[h1,h2,h3]at e e' kx kx'<;>first|(cases e;done)|(cases e';done)|skip
  rw[kx.1]at kx';rw[kx'.1]at e;rw[e]at e';cases e';rfl
 |n+1,x,x',z,v,b,b',rx,rx',e,e'=>by
  have kx:=jD rel rx;have kx':=jD rel rx';unfold zQ at e e';have nof:∀{a0:V} {a:Addr},v=a0/\BB a0=true->v=.ref a->False:=fun h1 h2=>by rw[<-h1.1,h2]at h1;exact absurd h1.2 (by simp[BB])
  cases h1:yw F.h x<;>cases h2:yw F.h x'<;>simp only[h1,h2]at kx kx'
  case o.f=>cases h3:yw F.h z<;>simp only[h1,h3]at e<;>cases e
  case o.l=>cases h3:yw F.h z<;>simp only[h1,h3]at e<;>cases e
  case o.t=>cases h3:yw F.h z<;>simp only[h1,h3]at e<;>cases e
  case o.o=>cases h3:yw F.h z<;>simp only[h1,h3]at e<;>cases e
  case f.o=>cases h3:yw F.h z<;>simp only[h2,h3]at e'<;>cases e'
  case l.o=>cases h3:yw F.h z<;>simp only[h2,h3]at e'<;>cases e'
  case t.o=>cases h3:yw F.h z<;>simp only[h2,h3]at e'<;>cases e'
  case f.l=>obtain⟨a,_,ev,_⟩:=kx';exact (nof kx ev).elim
  case f.t=>obtain⟨a,_,ev,_⟩:=kx';exact (nof kx ev).elim
  case l.f=>obtain⟨a,_,ev,_⟩:=kx;exact (nof kx' ev).elim
  case t.f=>obtain⟨a,_,ev,_⟩:=kx;exact (nof kx' ev).elim
  case l.t=>obtain⟨a,_,ev,k1,_⟩:=kx;obtain⟨a',_,ev',k2,_⟩:=kx';rw[ev]at ev';cases ev';rw[k1]at k2;cases k2
  case t.l=>obtain⟨a,_,ev,k1,_⟩:=kx;obtain⟨a',_,ev',k2,_⟩:=kx';rw[ev]at ev';cases ev';rw[k1]at k2;cases k2
  case f.f a a'=>
   have:a=a':=by rw[<-kx.1,<-kx'.1]
   subst this;simp only[h1]at e;simp only[h2]at e';rw[e]at e';cases e';rfl
  case l.l xs xs'=>
   obtain⟨a,us,ev,k1,r1⟩:=kx;obtain⟨a',us',ev',k2,r2⟩:=kx';rw[ev]at ev';cases ev';rw[k1]at k2;cases k2;have hl:xs.length=xs'.length:=by rw[r1.length,r2.length]
   cases h3:yw F.h z<;>simp only[h1,h3]at e<;>simp only[h2,h3]at e'<;>first|(cases e;done)|(cases e;cases e';rfl)|skip
   case l zs=>
    by_cases hz:xs.length=zs.length
    .rw[Ac hz]at e;rw[Ac (by lia)]at e'
     exact N4 rel rfl (fun a b c d=>J2 rel n a b c d) r1 r2 e e'
    .rw[Ab hz]at e;rw[Ab (by lia)]at e';cases e;cases e';rfl
  case t.t xs xs'=>
   obtain⟨a,us,ev,k1,r1⟩:=kx;obtain⟨a',us',ev',k2,r2⟩:=kx';rw[ev]at ev';cases ev';rw[k1]at k2;cases k2;have hl:xs.length=xs'.length:=by rw[r1.length,r2.length]
   cases h3:yw F.h z<;>simp only[h1,h3]at e<;>simp only[h2,h3]at e'<;>first|(cases e;done)|(cases e;cases e';rfl)|skip
   case t zs=>
    cases q1:yI (zQ F.h n) xs zs with
    |none=>rw[q1]at e;cases e
    |some c1=>
     cases q2:yI (zQ F.h n) xs' zs with
     |none=>rw[q2]at e';cases e'
     |some c2=>
      rw[q1]at e;rw[q2]at e';cases e;cases e';rw[N4 rel rfl (fun a b c d=>J2 rel n a b c d) r1 r2 q1 q2,hl]
end
section
variable {X:Cx} {κ:Kx} {E:XK} {F F':Fr} {σ σ':L2.St} {H H1 H':Hp} {Q:VK} {p:Addr} {e a b c o:Expr} {es:List Expr} {pos apos np cpos:Pos} {i:Nat} {D:Ends}
theorem N5 {α β:Type} {f:α->Option β}:∀{l:List α} {m:List β},zB f l=some m->l.length=m.length/\∀(j:Nat) x,l[j]? =some x->∃y,m[j]? =some y/\f x=some y
 | [],_,e=>by cases e;exact⟨rfl,fun j x h=>by simp at h⟩
 |x::r,m,e=>by
  obtain⟨y,l',h1,h2,rfl⟩:=DL e;obtain⟨i1,i2⟩:=N5 h2
  refine⟨by simp[i1],fun j x' h=>?_⟩
  cases j with
  |zero=>simp at h;subst h;exact⟨y,rfl,h1⟩
  |succ j=>exact i2 j x' (by simpa using h)
open Classical in
def N6 {pins:AL} {s:Shared} {σ2:L2.St} {xs:List V3} {us:List V} {its:List Value} {bs:List Bool} {x3:V3} {v:V} {vv:Value} {A:Around} (I:Inv X pins σ2 H s) (rel:RelH κ F.O F.β F.h H) (rs:Reps κ F.β F.O H xs us) (rv:Vals us its) (rx:Rep κ F.β F.O H x3 v) (rvv:RelV v vv) (q:zB (fun b=>zQ F.h 8 b x3) xs=some bs) (hu:A.units+8<cLine):
  ∃e:Value->Bool,(∀y,y∈its.toArray->SeqAt.EqAt A s y vv (e y))/\its.toArray.any e=bs.any id:=by
 obtain⟨hl,hg⟩:=N5 q;have l1:=rs.length;have l2:=rv.length
 let e:Value->Bool:=fun y=>decide (∃(j:Nat) (z:V3),xs[j]? =some z/\its[j]? =some y/\zQ F.h 8 z x3=some true)
 have at':∀(j:Nat) (y:Value),its[j]? =some y->∃z u b,xs[j]? =some z/\us[j]? =some u/\RelV u y/\Rep κ F.β F.O H z u/\bs[j]? =some b/\zQ F.h 8 z x3=some b/\e y=b:=fun j y hy=>by
  have hj:j<its.length:=(Ao.mp hy).1;obtain⟨u,hu',ru⟩:=rs.get (zK (show j<xs.length by lia))
  obtain⟨y',hy',ry'⟩:=rv.get hu';rw[hy]at hy';cases hy';obtain⟨b,hb,eb⟩:=hg j _ (zK (show j<xs.length by lia))
  refine⟨_,u,b,zK (show j<xs.length by lia),hu',ry',ru,hb,eb,?_⟩
  cases b with
  |true=>exact Ci ⟨j,_,zK (show j<xs.length by lia),hy,eb⟩
  |false=>
   refine Bq fun zz189 => ?_
   obtain ⟨j',z',h1,h2,h3⟩ := zz189
   obtain⟨u',hu2,ru2⟩:=rs.get h1;obtain⟨y2,hy2,ry2⟩:=rv.get hu2;rw[h2]at hy2;cases hy2;have:=RelV.inj ry' ry2;subst this;have:=J2 rel 8 ru ru2 eb h3;cases this
 refine⟨e,fun y hy=>?_,?_⟩
 .obtain⟨j,hj⟩:=B9 (show y∈its by simpa using hy)
  obtain⟨z,u,b,h1,h2,h3,h4,h5,h6,h7⟩:=at' j y hj;rw[h7];exact (Jl rel 8 I h4 rx h3 rvv h6 hu).2
 .rw[List.any_toArray,Ey,Dg,Dg]
  constructor
  .rintro⟨y,hy,ey⟩
   obtain⟨j,hj⟩:=B9 hy;obtain⟨z,u,b,h1,h2,h3,h4,h5,h6,h7⟩:=at' j y hj;rw[h7]at ey;subst ey;exact⟨true,Al h5,rfl⟩
  .rintro⟨b,hb,eb⟩
   have eb:b=true:=eb;subst eb;obtain⟨j,hj⟩:=B9 hb;have hj2:j<its.length:=by have:=(Ao.mp hj).1;lia
   obtain⟨z,u,b,h1,h2,h3,h4,h5,h6,h7⟩:=at' j _ (zK hj2);rw[hj]at h5;cases h5;exact⟨_,C4 hj2,h7⟩
def Ug (neg:Bool) (hK:X.K=κ.K) (hu:X.A.units+9<cLine):OpR X (compareOp (if neg then .NotIn else .In)) (rInT κ neg):=by
 intro pins s σ H x y v u Q I rx ry h;obtain⟨F,σ',x3,y3,b,rel,r1,r2,e,q⟩:=h;unfold inO at e;cases x3 with
 |s i=>cases e
 |x a=>
  have r1:Rep κ F.β F.O H a x:=r1;simp only at e;have fin:∀{bs:List Bool},b=(if neg then !bs.any id else bs.any id)->EP X pins σ Q (.bool (if neg then !bs.any id else bs.any id)) s:=fun hb=>⟨.bl b,H,I,by rw[hb];rfl,q⟩
  have lists:∀xs,rdl F.s F.h y3=some xs->(zB (fun b=>zQ F.h 8 b a) xs).map (fun bs=>if neg then !bs.any id else bs.any id)=some b->wpAny (model X.prog X.w) X.A (compareOp (if neg then .NotIn else .In) v u) (EP X pins σ Q) X.xe s:=fun xs hx e=>by
   cases q2:zB (fun b=>zQ F.h 8 b a) xs with
   |none=>rw[q2]at e;cases e
   |some bs=>
    rw[q2]at e;obtain⟨l,us,rfl,sq,rs⟩:=jT rel r2 hx;cases ry;obtain⟨its,rv,pl,_⟩:=I.list (show SqL X.K H l us by rw[hK];exact sq)
    obtain⟨ee,h1,h2⟩:=N6 (A:=X.A.in1) I rel.heap rs rv r1 rx q2 (by show X.A.units+1+8<cLine;lia)
    cases neg with
    |false=>exact SeqAt.in_listAt ee pl.isList h1 (by rw[h2];exact fin (bs:=bs) (by cases e;rfl))
    |true=>exact SeqAt.notIn_listAt ee pl.isList h1 (by rw[h2];exact fin (bs:=bs) (by cases e;rfl))
  split at e
  .rename_i xs hx
   split at hx
   .rename_i zs
    cases hx;cases q2:zB (fun b=>zQ F.h 8 b a) xs with
    |none=>rw[q2]at e;cases e
    |some bs=>
     rw[q2]at e;cases (show Rep κ F.β F.O H (.tup xs) y from r2) with
     | @tup _ us l t1 t2 t3 rs=>
      cases ry;obtain⟨its,rv,pl,_⟩:=I.tuple (SqT.of (K:=X.K) t1);obtain⟨ee,h1,h2⟩:=N6 (A:=X.A.in1) I rel.heap rs rv r1 rx q2 (by show X.A.units+1+8<cLine;lia)
      cases neg with
      |false=>exact SeqAt.in_tupleAt ee (show s.heap.IsTuple l its.toArray from pl) h1 (by rw[h2];exact fin (bs:=bs) (by cases e;rfl))
      |true=>exact SeqAt.notIn_tupleAt ee (show s.heap.IsTuple l its.toArray from pl) h1 (by rw[h2];exact fin (bs:=bs) (by cases e;rfl))
   .exact lists xs hx e
  .cases e
def Uh (hK:X.K=κ.K) (hu:X.A.units+9<cLine):OpR X (compareOp .In) (rInT κ false):=Ug false hK hu
end
section
variable {X:Cx} {κ:Kx} {E:XK} {F F':Fr} {σ σ':L2.St} {H H1 H':Hp} {Q:VK} {p:Addr} {e a b c o:Expr} {es:List Expr} {pos apos np cpos:Pos} {i:Nat} {D:Ends}
def str3:V3->Option Str
 |.str x=>some x
 |_=>none
theorem N7:∀{xs:List V3} {ys:List V} {bs:List Str},Reps κ F.β F.O H xs ys->zB str3 xs=some bs->ys=bs.map V.str
 |_,_,_,.nil,e=>by cases e;rfl
 |x::xs,y::ys,bs,.cons a r,e=>by
  obtain⟨b,l,h1,h2,rfl⟩:=DL e;cases x<;>simp[str3]at h1
  subst h1;cases a;rw[Ag,N7 r h2]
theorem N8:∀{l:List Str} {us:List Value},Vals (l.map V.str) us->CarriedAll us (l.map fun a=>PyData.str a)
 | [],_,r=>by cases r;exact .nil
 |x::l,_,r=>by
  rw[Ag]at r;cases r with
  |cons a t=>
   obtain⟨tk,rfl⟩:=a;exact .cons (.str _ _) (N8 t)
def Ui (K:FG):V->List V->Hp->VK->Prop:=fun x xs H Q=> ∃z p l,x=.str z/\xs=[.ref p]/\SqL K H p (l.map V.str)/\l.length<=1048576/\(∀a∈l,a.length+z.length<=16)/\z.length<=16/\Q (.str (PySem.Txt.join z l)) H
def Uj:MtR X "str.join" (Ui X.K):=by
 intro pins s σ H x xs v us Q I rx rs h;obtain⟨z,p,l,rfl,rfl,hq,hl,hB,hz,q⟩:=h;obtain⟨t,rfl⟩:=rx;obtain⟨u,rfl,ru⟩:=AY rs;cases ru;obtain⟨its,rv,pl,_⟩:=I.list hq;have:=_root_.PySem.W.KT.join_B (prog:=X.prog) (w:=X.w) (A:=X.A) (E:=X.xe) (s:=s) (t:=t) (Q:=EP X pins σ Q) (x:=z) (l:=l) (g:=fun a=>a) (16-z.length) pl.isList (N8 rv) (fun a ha=>by have:=hB a ha;lia) hl (by lia) fun t' k=>⟨.str (PySem.Txt.join z l),H,I.tok k,⟨t',by simp⟩,q⟩
 exact this
def HF (p:P3) (a:A3):E3:=fun s h=>(p s h).bind fun f h1=>match f with
 |.x (.str z)=>(a s h1).bind fun fs h2=>match fs with
  | [g]=>match rdl s h2 g with
   |some xs=>match zB str3 xs with
    |some l=>if l.length<=1048576/\(∀a∈l,a.length+z.length<=16)/\z.length<=16 then .ok (.v (.str (PySem.Txt.join z l))) h2 else .no
    |none=>.no
   |none=>.no
  |_=>.no
 |_=>.no
def Uk {dp:P3} {t:A3} (hK:X.K=κ.K) (ho:PE X o (zj κ E dp)) (ha:PA X [e] (zP κ E t)) (hbase:attributeBase o "join" X.env (eval o X.env)=eval o X.env:=by rfl)
  (hfew:((backTo cpos (starEach [e] X.env)).all (fun x=> !x.1) && (backToKw cpos (keywordEach [] X.env)).all (fun x=>x.1.isSome)
   && decide (([e]:List Expr).length+([]:List Keyword).length+(if ([]:List Keyword).isEmpty then 0 else 1)<30))=true:=by rfl)
  (hline:(apos.endLine==cpos.line)=true:=by rfl) (hs:starEach [e] X.env=(false,eval e X.env)::starEach [] X.env:=by rfl) (hplain:(backTo cpos (starEach [] X.env)).any (·.1)=false:=by rfl):
  PE X (.Call (.Attribute o "join" apos) [e] [] cpos) (zk κ E (HF dp t)):=yK (IQ PySem.F.plainAttrs_str PySem.F.slot_str_join PySem.F.type_str_join Uj ho ha hbase hfew hline hs hplain) fun σ H Q ⟨F,rel,o⟩=>
 (ym (K:=kP κ) z6 rel o).mono fun v H1 ⟨β1,h1,f,e1,⟨r1,rf⟩,o1⟩=>by
  match f,rf,o1 with
  |.x (.str z),rf,o1=>
   cases (show Rep κ β1 F.O H1 (.str z) v from rf)
   refine⟨rfl,(ym (F:=F.to β1 h1) (K:=kA κ) z6 r1 o1).mono fun vs H2 ⟨β2,h2,fs,e2,⟨r2,rfs⟩,o2⟩=>?_⟩
   match fs,rfs,o2 with
   | [g],rfs,o2=>
    obtain⟨w,rfl,rg⟩:=p1 rfs;cases q1:rdl F.s h2 g with
    |none=>simp only[q1]at o2;exact o2.elim
    |some xs=>
     simp only[q1]at o2;cases q2:zB str3 xs with
     |none=>simp only[q2]at o2;exact o2.elim
     |some l=>
      simp only[q2]at o2
      by_cases hc:l.length<=1048576/\(∀a∈l,a.length+z.length<=16)/\z.length<=16
      .rw[Ac hc]at o2
       obtain⟨a,ys,rfl,sq,rs⟩:=jT (F:=F.to β2 h2) r2 rg q1;exact⟨z,a,l,rfl,rfl,by rw[hK,<-N7 rs q2];exact sq,hc.1,hc.2.1,hc.2.2,o2 β2 _ H2 Ext.refl ⟨r2,.str _⟩⟩
      .rw[Ab hc]at o2;exact o2.elim
end
section
variable {X:Cx} {κ:Kx} {E:XK} {a b e o tg:Expr} {pos np apos:Pos} {i:Nat}
def za (i:Nat) {x:Str} {pos:Pos} (hN:X.N[i]? =some x:=by rfl) (hv:Vis X.env.scope x:=by first|exact Or.inl rfl|exact Or.inr (Or.inl rfl)|exact Or.inr (Or.inr rfl)) (hd:(x==("__debug__" :Str))=false:=by decide)
 (hcd:(x==("__classdict__" :Str))=false:=by decide):PE X (.Name x pos) (zj κ E (pV i)):=rp_v (pv i hN hv hd hcd)
def zg {i j pos}:PE X (.Constant (.int i) j pos) (zj κ E (kJ i)):=zb jS
def BY {da db:P3} (ha:PE X a (zj κ E da)) (hb:PE X b (zj κ E db)) (hK:X.K=κ.K:=by rfl) (hm:Hd b:=by exact fun _ _=>rfl):PE X (.Subscript a b pos) (zk κ E (eOp zn da db)):=r_ix Ng (Nf hK) hm ha hb
def zD {da db:P3} (ha:PE X a (zj κ E da)) (hb:PE X b (zj κ E db)) (hK:X.K=κ.K:=by rfl) (hm:Hd b:=by exact fun _ _=>rfl):PE X (.Subscript a b pos) (zj κ E (pE (eOp zn da db))):=zb (r_ix Ng (Nf hK) hm ha hb)
def zH (i:Nat) {x:Str} {pos':Pos} {d:E3} (hN:X.N.Nodup) (he:PE X e (zk κ E d)) (hi:X.N[i]? =some x:=by rfl) (hx:jN X.env.scope x:=by exact Or.inl rfl) (hs:swapsWith e (some (.Name x pos')) pos.line X.env=pure false:=by rfl)
 (hf:X.fn x=true\/X.env.scope.names.lookup x=some .local:=by first|exact .inl rfl|exact .inr rfl|assumption):PS X (.Assign [.Name x pos'] e pos) (zt κ E (sSet i d)):=DH hN hi hx he hs hf
def zZ (i:Nat) {x:Str} {pos:Pos} (hN:X.N.Nodup) (hi:X.N[i]? =some x:=by rfl) (hx:jN X.env.scope x:=by exact Or.inl rfl) (hf:X.fn x=true\/X.env.scope.names.lookup x=some .local:=by first|exact .inl rfl|exact .inr rfl|assumption):PG X (.Name x pos) (yD κ (gN i)):=Jf (IE hN hi hx hf)
def zJ {x:Str} {pos:Pos} (i:Nat) (N:List Str) (nd:N.Nodup:=by decide+kernel) (eN:X.N=N:=by rfl) (hi:N[i]? =some x:=by rfl) (hx:jN X.env.scope x:=by exact Or.inl rfl) (hl:X.env.scope.names.lookup x=some .local:=by rfl):PG X (.Name x pos) (yD κ (gN i)):=Jf (pgc i N nd eN hi hx hl)
def yX {iter:Expr} {body:List Stmt} {it:I3} {g:G3} {b:D3} (hi:PI X tg iter (yA κ E it)) (hg:PG X tg (yD κ g)) (hb:yW X body (zt κ E b)) (hp:PassesOwn (model X.prog X.w) X.A X.env X.xe:=by exact Ft) (hc:X.calm=true:=by rfl)
 (hs:∀x,foldedSetIterable iter X.env x=pure x:=by intro _;rfl):PS X (.For tg iter body [] pos) (zt κ E (zw it g b)):=Tn hp hc hi hg hb hs
def yY {l:Expr} {d:P3} (hl:PE X l (zj κ E d)) (hK:X.K=κ.K:=by rfl):PI X tg l (yA κ E (iL d)):=Ts hK hl
def zu {N P:List Str} {sc:Scope} (k1:sc.kind=.function:=by rfl) (k2:sc.isCoroutine=false:=by rfl) (k3:sc.isGenerator=false:=by rfl) (k4:N.Nodup:=by decide+kernel) (k5:N.take P.length=P:=by rfl)
 (k6:∀x∈P,sc.names.lookup x=some .local\/sc.names.lookup x=some .cell:=by decide+kernel) (k7:∀y∈sc.names,y.2≠ .free:=by decide+kernel):FnScope N P sc:=⟨k1,k2,k3,k4,k5,k6,k7⟩
def Ul {fl c:Str} {C:Addr} {d:P3} (cl:Cls X.K C) (na:NoAttr X.K C fl) (he:PE X e (zj κ E d)) (hC:κ.cl c=some C:=by rfl) (hb:attributeBase e fl X.env (eval e X.env)=eval e X.env:=by rfl):PE X (.Attribute e fl pos) (zk κ E (ze [c] fl d)):=Ny (Flds.cons hC cl na Flds.nil) he hb
def yd {fl c:Str} {C:Addr} {d:P3} (cl:Cls X.K C) (na:NoAttr X.K C fl) (he:PE X e (zj κ E d)) (hC:κ.cl c=some C:=by rfl) (hb:attributeBase e fl X.env (eval e X.env)=eval e X.env:=by rfl):PE X (.Attribute e fl pos) (zj κ E (pE (ze [c] fl d))):=zb (Ny (Flds.cons hC cl na Flds.nil) he hb)
def ye {x:Str} {st:Stmt} {es:List Expr} {f:F3} {t:A3} {k k0:Nat} {fa:Addr} {fd:FuncData} {ps:List Str} {n:Nat} (hf:zq f n) (Fk:FnOk X.prog X.w X.K X.mg X.base (XT X.prog X.w) k fa fd ps (zo κ n f)) (hr:Room k0 X.A) (d:Dfn X.K X.mg x st ps fa fd) (ha:PA X (e::es) (zP κ E t)) (hx:qV (XT X.prog X.w) X E:=by exact ji) (hk:k<=k0:=by decide) (hg:Gl X x:=by rfl)
 (hdb:(x==("__debug__" :Str))=false:=by decide) (he:SE X e es:=by rfl) (hpl:BA X pos es:=by rfl):
 PE X (.Call (.Name x np) (e::es) [] pos) (zk κ E (eCall f t)):=EY hf Fk (hr.mono hk) hg d.g d.F.kp d.b hx ha hdb he hpl
def BZ {C fa:Addr} {c m:Str} {es:List Expr} {f:F3} {dp:P3} {t:A3} {k k0:Nat} {fd:FuncData} {ps:List Str} {n:Nat} {pl:Sem Bool} (hf:zq f n) (he:PE X o (zj κ E dp)) (cl:Cls X.K C) (hm:Meth X.K C m fa) (Fk:FnOk X.prog X.w X.K X.mg X.base (XT X.prog X.w) k fa fd ps (zo κ n f)) (hr:Room k0 X.A) (hb:Binds X.K fd ps [])
 (ha:PA X (e::es) (zP κ E t)) (hx:qV (XT X.prog X.w) X E:=by exact ji) (hC:κ.cl c=some C:=by rfl) (hk:k<=k0:=by decide) (hst:SE X e es:=by rfl) (hpl:BA X pos es:=by rfl)
 (ht:eval (.Call (.Attribute o m apos) (e::es) [] pos) X.env=(do
  let ov <-eval o X.env
  standAt apos.atName
  let (f,first) <-holding [ov] (getMethod ov m pl)
  callWith pos f first (backTo pos (starEach (e::es) X.env)) (backToKw pos (keywordEach [] X.env))):=by rfl):
 PE X (.Call (.Attribute o m apos) (e::es) [] pos) (zk κ E (z9 c m f dp t)):=N0 hC hf he cl hm Fk (hr.mono hk) hb hx ha hst hpl ht
def yb {x:Str} {es:List Expr} {t:A3} {id:String} {r:List V->Hp->VK->Prop} {f:FB} (hs:ju κ r f) (hc:qg X (.builtin id) r) (hm:X.mg x=none) (hv:bootBuiltins x=some (.builtin id)) (ha:PA X (e::es) (zP κ E t)) (hg:Gl X x:=by rfl) (hn:x≠"__name__" :=by decide) (hdb:(x==("__debug__" :Str))=false:=by decide)
 (he:SE X e es:=by rfl) (hpl:BA X pos es:=by rfl):
 PE X (.Call (.Name x np) (e::es) [] pos) (zk κ E (eB f t)):=r_b hs hc hg hm hv ha hn hdb he hpl
end
def spL (K:FG):Sp:=fun vs H Q _=> ∃(a:Addr) (ns:List Int),vs=[.ref a]/\ns.length<=63/\SqL K H a (ns.map V.int)/\Only H/\∀H',Q (.bl true) H'
def spL_of {κ:Kx} {f:F3} (h:∀ns:List Int,ns.length<=63->∃h',f [.scr ns] []=.ok (.v (.bl true)) h') {vs:List V} {H:Hp} {Q:VK} {E:XK} (q:spL κ.K vs H Q E):zo κ 1 f vs H Q E:=by
 obtain⟨a,ns,rfl,hn,hS,hO,hQ⟩:=q;obtain⟨h',e⟩:=h ns hn
 refine⟨fun _=>False,[],[.scr ns],[],rfl,⟨rfl,fun i j a h=>by simp at h,fun a h=>h.elim,fun a h=>h.elim,fun i a h=>by simp at h,fun i c h=>by simp at h⟩,.cons ?_ .nil,?_⟩
 .rcases hS with hS|hS
  .rcases hS with hS|⟨o,hS⟩
   .rcases hO a with z|⟨o,xs,z⟩
    .rw[hS]at z;cases z
    .rw[hS]at z;cases z
   .exact .scr hS (by simp) fun z=>z
  .exact .scrK hS
 .rw[e]
  intro β' v H' ex p;obtain⟨_,r⟩:=p;cases r;exact hQ H'
def noX {P:Program} {w:World} {H:Hp} {s:Shared} {e:Value} {s':Shared} (h:XT P w [] H s (fun _ _ _=>False) e s'):False:=by
 obtain⟨_,_,_,_,_,_,_,_,_,_,_,_,_,_,_,q⟩:=h;exact q
end L3
namespace L3
open PySem L2
def jz {a b:D3} {s s1:S3} {h h1:H3} (e:a s h=.nx s1 h1):sSeq a b s h=b s1 h1:=by unfold sSeq;rw[e]
def Um {ok:H3->Prop} {g:G3} {b:D3} {h:H3} {Q:O3->Prop} (I:Nat->S3->Prop) {xs:List V3} {s:S3} (hok:ok h) (h0:I 0 s)
  (step:∀(i:Nat) x s,xs[i]? =some x->I i s->∃s1,g x s=some s1/\((∃s2,(b s1 h=.nx s2 h\/b s1 h=.ct s2 h)/\I (i+1) s2)\/(∃r h2,b s1 h=.rt r h2/\Q (.rt r h2))\/∃s2,b s1 h=.bk s2 h/\Q (.nx s2 h)))
  (done:∀s,I xs.length s->Q (.nx s h)):Q (zU ok g b xs s h):=by
 have gen:∀(n i:Nat) (s:S3),n=xs.length-i->i<=xs.length->I i s->Q (zU ok g b (xs.drop i) s h):=by
  intro n
  induction n with
  |zero=>
   intro i s hn hi hI;have:i=xs.length:=by lia
   subst this;rw[Ck];unfold zU;rw[Ac hok];exact done s hI
  |succ n ih=>
   intro i s hn hi hI;have hlt:i<xs.length:=by lia
   rw[E1 hlt];unfold zU;rw[Ac hok];obtain⟨s1,hg,hs⟩:=step i xs[i] s (zK hlt) hI;simp only[hg]
   rcases hs with ⟨s2,hb,hI2⟩|⟨r,h2,hb,hq⟩|⟨s2,hb,hq⟩
   .rcases hb with hb|hb<;>simp only[hb]<;>exact ih (i+1) s2 (by lia) hlt hI2
   .simp only[hb];exact hq
   .simp only[hb];exact hq
 exact gen _ 0 s rfl (B3 _) h0
def J3 {ok:H3->Prop} {g:G3} {b:D3} {h:H3} (I:Nat->S3->Prop) {xs:List V3} {s:S3} (hok:ok h) (h0:I 0 s)
  (step:∀(i:Nat) x s,xs[i]? =some x->I i s->∃s1 s2,g x s=some s1/\b s1 h=.nx s2 h/\I (i+1) s2):∃s',zU ok g b xs s h=.nx s' h/\I xs.length s':=by
 refine Um (Q:=fun o=> ∃s',o=.nx s' h/\I xs.length s') I hok h0 (fun i x s hx hI=>?_) fun s hI=>⟨s,rfl,hI⟩
 obtain⟨s1,s2,h1,h2,h3⟩:=step i x s hx hI;exact⟨s1,h1,.inl ⟨s2,.inl h2,h3⟩⟩
def J4 {α:Type} {ok:H3->Prop} {g:G3} {e:E3} {h:H3} (I:S3->Prop) (enc:α->V3) (f:α->V3) (hok:ok h) {l:List α} (hl:l.length<=sizeLine)
  (step:∀a s,a∈l->I s->∃s1 r,g (enc a) s=some s1/\I s1/\e s1 h=.ok r h/\r.fz=some (f a)) {s:S3} (h0:I s):
  yZ ok g tTru e (l.map enc) [] s h=.ok (l.map f) h:=by
 have gen:∀(l:List α) (acc:List V3) (s:S3),acc.length+l.length<=sizeLine->(∀a s,a∈l->I s->∃s1 r,g (enc a) s=some s1/\I s1/\e s1 h=.ok r h/\r.fz=some (f a))->I s->yZ ok g tTru e (l.map enc) acc s h=.ok (acc++l.map f) h:=by
  intro l
  induction l with
  |nil=>intro acc s _ _ _;rw[Bj];unfold yZ;rw[Ac hok];simp
  |cons x r ih=>
   intro acc s hl st hI;rw[Ag];unfold yZ;rw[Ac hok];obtain⟨s1,v,h1,h2,h5,h6⟩:=st x s Ak hI;rw[Az]at hl;simp only[h1,tTru,h5,h6,Ac (show acc.length<sizeLine by lia)]
   rw[ih (acc++[f x]) s1 (by rw[As,Cg];lia) (fun x s hx=>st x s (An _ hx)) h2]
   simp
 have:=gen l [] s (by simpa using hl) step h0
 simpa using this
def Uo {α:Type} {ok:H3->Prop} {g:G3} {c:T3} {e:E3} {h:H3} (I:S3->Prop) (enc:α->V3) (p:α->Bool) (f:α->V3) (hok:ok h) {l:List α} (hl:l.length<=sizeLine)
  (step:∀a s,a∈l->I s->∃s1,g (enc a) s=some s1/\I s1/\c s1 h=.ok (p a) h/\(p a=true->∃r,e s1 h=.ok r h/\r.fz=some (f a))) {s:S3} (h0:I s):
  yZ ok g c e (l.map enc) [] s h=.ok ((l.filter p).map f) h:=by
 have gen:∀(l:List α) (acc:List V3) (s:S3),acc.length+l.length<=sizeLine->(∀a s,a∈l->I s->∃s1,g (enc a) s=some s1/\I s1/\c s1 h=.ok (p a) h/\(p a=true->∃r,e s1 h=.ok r h/\r.fz=some (f a)))->I s->yZ ok g c e (l.map enc) acc s h=.ok (acc++(l.filter p).map f) h:=by
  intro l
  induction l with
  |nil=>intro acc s _ _ _;rw[Bj];unfold yZ;rw[Ac hok];simp
  |cons x r ih=>
   intro acc s hl st hI;rw[Ag];unfold yZ;rw[Ac hok];obtain⟨s1,h1,h2,h3,h4⟩:=st x s Ak hI;rw[Az]at hl;simp only[h1,h3];cases q:p x with
   |false=>
    simp only[List.filter_cons,q];exact ih acc s1 (by lia) (fun x s hx=>st x s (An _ hx)) h2
   |true=>
    obtain⟨v,h5,h6⟩:=h4 q;simp only[h5,h6,List.filter_cons,q,Ac (show acc.length<sizeLine by lia)]
    rw[ih (acc++[f x]) s1 (by rw[As,Cg];lia) (fun x s hx=>st x s (An _ hx)) h2]
    simp
 have:=gen l [] s (by simpa using hl) step h0
 simpa using this
def J5 (l:List Int):zB int3 (l.map .int)=some l:=by
 have:=DK (f:=int3) (g:=V3.int) (k:=id) (fun _=>rfl) l
 simpa using this
def Uq (l:List Bool):zB bl3 (l.map .bl)=some l:=by
 have:=DK (f:=bl3) (g:=V3.bl) (k:=id) (fun _=>rfl) l
 simpa using this
def Ur (l:List Str):zB str3 (l.map .str)=some l:=by
 have:=DK (f:=str3) (g:=V3.str) (k:=id) (fun _=>rfl) l
 simpa using this
theorem J6:∀{ns:List Int} {a:Int},0<=a->(∀x∈ns,0<=x)->a+ns.sum<2 ^ 63->qT a ns=true
 | [],_,_,_,_=>rfl
 |x::r,a,h0,hp,hs=>by
  have hx:=hp x Ak;rw[Cq]at hs;have hr:0<=r.sum:=by
   have:∀l:List Int,(∀x∈l,0<=x)->0<=l.sum:=by
    intro l;induction l with
    |nil=>intro _;exact Dl _
    |cons y t ih=>intro h;rw[Cq];have:=h y Ak;have:=ih fun z hz=>h z (An _ hz);lia
   exact this r fun z hz=>hp z (An _ hz)
  unfold qT;rw[Be,Be]
  refine⟨⟨Ci ⟨by lia,by lia⟩,Ci ⟨by lia,by lia⟩⟩,J6 (by lia) (fun z hz=>hp z (An _ hz)) (by lia)⟩
def at0 {α:Type} {x:α} {r:List α}:atI (x::r) (0:Int)=some x:=jA (j:=0) rfl
def at1 {α:Type} {x y:α} {r:List α}:atI (x::y::r) (1:Int)=some y:=jA (j:=1) rfl
def at2 {α:Type} {x y z:α} {r:List α}:atI (x::y::z::r) (2:Int)=some z:=jA (j:=2) rfl
def at3 {α:Type} {x y z u:α} {r:List α}:atI (x::y::z::u::r) (3:Int)=some u:=jA (j:=3) rfl
def at4 {α:Type} {x y z u v:α} {r:List α}:atI (x::y::z::u::v::r) (4:Int)=some v:=jA (j:=4) rfl
def atm1 {α:Type} {l:List α} {x:α}:atI (l++[x]) (-1:Int)=some x:=RN l x
def qS {i j:Int} (h: -(2 ^ 64)<i/\i<2 ^ 64):CMul i j:= .inl h
def Us {i j:Int} (h: -(2 ^ 64)<j/\j<2 ^ 64):CMul i j:= .inr h
def N9 {h:H3} {n:Nat} {x y:V3} {a b:V} (hx:yw h x=.f a) (hy:yw h y=.f b):zQ h n x y=some (eqV a b):=by
 cases n<;>simp only[zQ,hx,hy]
def J7 {h:H3} {n:Nat} {i j:Int}:zQ h n (.int i) (.int j)=some (decide (i=j)):=by
 rw[N9 (a:= .int i) (b:= .int j) rfl rfl];congr 1
def Ut {h:H3} {n:Nat} {i j:Str}:zQ h n (.str i) (.str j)=some (decide (i=j)):=by
 rw[N9 (a:= .str i) (b:= .str j) rfl rfl];congr 1
theorem NA {α:Type} [DecidableEq α] {f:V3->V3->Option Bool} {enc:α->V3} (he:∀a b,f (enc a) (enc b)=some (decide (a=b))):∀(l m:List α),l.length=m.length->yI f (l.map enc) (m.map enc)=some (decide (l=m))
 | [],[],_=>by simp[yI]
 | [],_::_,h=>by simp at h
 |_::_,[],h=>by simp at h
 |a::l,b::m,h=>by
  simp only[Ag,yI,he a b,NA he l m (by simpa using h),B8,List.cons.injEq]
  rw[Ey];simp
def Uu {α:Type} [DecidableEq α] {h:H3} {n:Nat} {enc:α->V3} (he:∀a b,zQ h n (enc a) (enc b)=some (decide (a=b))) (l m:List α):zQ h (n+1) (.lst (l.map enc)) (.lst (m.map enc))=some (decide (l=m)):=by
 simp only[zQ,yw,Ae]
 by_cases hl:l.length=m.length
 .rw[Ac hl,NA he l m hl]
 .rw[Ab hl]
  congr 1
  exact (Bq fun z=>hl (by rw[z])).symm
def nx_ite {c:Prop} [Decidable c] {a b:S3} {h:H3}:(if c then O3.nx a h else O3.nx b h)=O3.nx (if c then a else b) h:=by split<;>rfl
def rt_ite {c:Prop} [Decidable c] {a b:Vl} {h:H3}:(if c then O3.rt a h else O3.rt b h)=O3.rt (if c then a else b) h:=by split<;>rfl
def ok_ite {α:Type} {c:Prop} [Decidable c] {a b:α} {h:H3}:(if c then Res.ok a h else Res.ok b h)=Res.ok (if c then a else b) h:=by split<;>rfl
def cons_ite {α:Type} {c:Prop} [Decidable c] {a b:α} {x y:List α}:(if c then a::x else b::y)=(if c then a else b)::(if c then x else y):=by split<;>rfl
def some_ite {α:Type} {c:Prop} [Decidable c] {a b:α}:(if c then some a else some b)=some (if c then a else b):=by split<;>rfl
def v_ite {c:Prop} [Decidable c] {a b:V3}:(if c then Vl.v a else Vl.v b)=Vl.v (if c then a else b):=by split<;>rfl
def int_ite {c:Prop} [Decidable c] {a b:Int}:(if c then V3.int a else V3.int b)=V3.int (if c then a else b):=by split<;>rfl
def bl_ite {c:Prop} [Decidable c] {a b:Bool}:(if c then V3.bl a else V3.bl b)=V3.bl (if c then a else b):=by split<;>rfl
def oEq_int {s:S3} {h:H3} {i j:Int}:y8 s h (.x (.int i)) (.x (.int j))=some (.v (.bl (decide (i=j)))):=by
 unfold y8 eqO;simp only[rdm,rdl,J7,Ar]
def oNe_int {s:S3} {h:H3} {i j:Int}:oNe s h (.x (.int i)) (.x (.int j))=some (.v (.bl (!decide (i=j)))):=by
 unfold oNe eqO;simp only[rdm,rdl,J7,Ar]
def oAdd_int {s:S3} {h:H3} {i j:Int}:zy s h (.x (.int i)) (.x (.int j))=some (.v (.int (i+j))):=rfl
def oAddI_int {s:S3} {h:H3} {i j:Int}:BD s h (.x (.int i)) (.x (.int j))=some (.v (.int (i+j))):=rfl
def oSub_int {s:S3} {h:H3} {i j:Int}:zL s h (.x (.int i)) (.x (.int j))=some (.v (.int (i-j))):=rfl
def oMul_int {s:S3} {h:H3} {i j:Int} (c:CMul i j):zW s h (.x (.int i)) (.x (.int j))=some (.v (.int (i*j))):=by
 unfold zW qG Hu oI;simp only[Ac c,Ar]
def oDiv_int {s:S3} {h:H3} {i j:Int} (a:0<j) (b:j<1073741824):yc s h (.x (.int i)) (.x (.int j))=some (.v (.int (i / j))):=by
 unfold yc oI;simp only[Ac (show CDiv i j from ⟨a,b⟩),Ar]
def oMod_int {s:S3} {h:H3} {i j:Int} (c:0<j):zE s h (.x (.int i)) (.x (.int j))=some (.v (.int (i%j))):=by
 unfold zE oI;simp only[Ac c,Ar]
def oShr_int {s:S3} {h:H3} {i j:Int} (c:0<=j):oShr s h (.x (.int i)) (.x (.int j))=some (.v (.int (i / 2 ^ j.toNat))):=by
 unfold oShr oI;simp only[Ac c,Ar]
def oPow_int {s:S3} {h:H3} {i j:Int} (c:CPow i j):oPow s h (.x (.int i)) (.x (.int j))=some (.v (.int (i ^ j.toNat))):=by
 unfold oPow oI;simp only[Ac c,Ar]
def oAndI_int {s:S3} {h:H3} {i j:Int}:Ji s h (.x (.int i)) (.x (.int j))=some (.v (.int (Builtin.bitAnd i j))):=rfl
def oLt_int {s:S3} {h:H3} {i j:Int}:qN s h (.x (.int i)) (.x (.int j))=some (.v (.bl (decide (i<j)))):=rfl
def oLe_int {s:S3} {h:H3} {i j:Int}:je s h (.x (.int i)) (.x (.int j))=some (.v (.bl (decide (i<=j)))):=rfl
def oGt_int {s:S3} {h:H3} {i j:Int}:qx s h (.x (.int i)) (.x (.int j))=some (.v (.bl (decide (j<i)))):=rfl
def oGe_int {s:S3} {h:H3} {i j:Int}:oGe s h (.x (.int i)) (.x (.int j))=some (.v (.bl (decide (j<=i)))):=rfl
def oIx_tup {s:S3} {h:H3} {xs:List V3} {i:Int}:zn s h (.x (.tup xs)) (.x (.int i))=(atI xs i).map .v:=by
 unfold zn qG oIxT yT oIxS;simp only[rdl];cases atI xs i<;>rfl
def oIx_lst {s:S3} {h:H3} {xs:List V3} {i:Int}:zn s h (.x (.lst xs)) (.x (.int i))=(atI xs i).map .v:=by
 unfold zn qG oIxT yT oIxS;simp only[rdl];cases atI xs i<;>rfl
def oIx_scr {s:S3} {h:H3} {ns:List Int} {i:Int}:zn s h (.x (.scr ns)) (.x (.int i))=(atI (ns.map .int) i).map .v:=by
 unfold zn qG oIxT yT oIxS;simp only[rdl];cases atI (ns.map V3.int) i<;>rfl
def sMt_ap {op:FM} {p:P3} {a:A3} {s:S3} {h:H3}:qM op p a s h=mtO op p a (fun s h _=>.nx s h) s h:=rfl
def mAppend_ok {xs:List V3} {y:V3} (h:xs.length<sizeLine):qI xs [y]=some (xs++[y],.non):=by unfold qI;simp only[Ac h]
def yE:1000000<=sizeLine:=by decide
def sz0:(0<=sizeLine)=True:=by simp
def sz1:(1<=sizeLine)=True:=eq_true (by have:=yE;lia)
def sz2:(2<=sizeLine)=True:=eq_true (by have:=yE;lia)
def sz3:(3<=sizeLine)=True:=eq_true (by have:=yE;lia)
def sz4:(4<=sizeLine)=True:=eq_true (by have:=yE;lia)
def sz5:(5<=sizeLine)=True:=eq_true (by have:=yE;lia)
noncomputable def gb (g:G3) (b:D3) (x:V3) (s:S3) (h:H3):O3:=match g x s with
 |some s1=>b s1 h
 |none=>.no
def yO {Q:Res Vl->Prop} {k n:Nat} {b:D3} {vs:List V3} {h:H3} (hl:vs.length=k) (q:Q ((b (start3 n vs) h).res)):Q (fun3 k n b vs h):=by
 unfold fun3;rw[Ac hl];exact q
def Uv {α:Type} {p:P3} {g:G3} {b:D3} {s:S3} {h:H3} {x:V3} {ok:H3->Prop} {enc:α->V3} {l:List α} (ep:p s h=.ok (.x x) h) (hw:yH h x=some (l.map enc,ok))
  (I:Nat->S3->Prop) (h0:I 0 s) (step:∀(i:Nat) a s,l[i]? =some a->I i s->∃s2,gb g b (enc a) s h=.nx s2 h/\I (i+1) s2):∃s',zw (iL p) g b s h=.nx s' h/\I l.length s':=by
 have hf:zw (iL p) g b s h=zU ok g b (l.map enc) s h:=by
  unfold zw iL;simp only[ep,Res.bind,Res.bindS,hw]
 rw[hf];have:=J3 (ok:=ok) (g:=g) (b:=b) (h:=h) I (xs:=l.map enc) (s:=s) (CN hw).1 h0 fun i x s hx hI=>by
  rw[Ba]at hx;obtain⟨a,ha,rfl⟩:=Cs.1 hx;obtain⟨s2,e,hI2⟩:=step i a s ha hI;unfold gb at e;cases q:g (enc a) s with
  |none=>rw[q]at e;cases e
  |some s1=>rw[q]at e;exact⟨s1,s2,rfl,e,hI2⟩
 rwa [Ae]at this
def Uw {Q:O3->Prop} {α:Type} {p:P3} {g:G3} {b r:D3} {s:S3} {h:H3} {x:V3} {ok:H3->Prop} {enc:α->V3} {l:List α} (ep:p s h=.ok (.x x) h) (hw:yH h x=some (l.map enc,ok))
  (I:Nat->S3->Prop) (h0:I 0 s) (step:∀(i:Nat) a s,l[i]? =some a->I i s->∃s2,gb g b (enc a) s h=.nx s2 h/\I (i+1) s2) (k:∀s',I l.length s'->Q (r s' h)):Q (sSeq (zw (iL p) g b) r s h):=by
 obtain⟨s',e,hI⟩:=Uv ep hw I h0 step;rw[jz e];exact k s' hI
def Ux {a:A3} {g:G3} {b:D3} {s:S3} {h:H3} {j:Int} (ea:a s h=.ok [.x (.int j)] h) (hj: -(2 ^ 62)<=j/\j<2 ^ 62)
  (I:Nat->S3->Prop) (h0:I 0 s) (step:∀(i:Nat) s,i<j.toNat->I i s->∃s2,gb g b (.int (i:Int)) s h=.nx s2 h/\I (i+1) s2):∃s',zw (qJ a) g b s h=.nx s' h/\I j.toNat s':=by
 have hf:zw (qJ a) g b s h=zU (fun _=>True) g b ((List.range j.toNat).map fun k=>.int (0+((k:Nat):Int))) s h:=by
  unfold zw qJ;simp only[ea,Res.bind,Res.bindS,Ac hj]
 rw[hf];have:=J3 (ok:=fun _=>True) (g:=g) (b:=b) (h:=h) I (xs:=(List.range j.toNat).map fun k=>.int (0+((k:Nat):Int))) (s:=s) trivial h0 fun i x s hx hI=>by
  have hi:i<j.toNat:=by
   have:=Ao.1 hx;simpa using this.1
  rw[Ba,List.getElem?_range hi]at hx
  cases hx;obtain⟨s2,e,hI2⟩:=step i s hi hI;simp only[Dk];unfold gb at e;cases q:g (.int i) s with
  |none=>rw[q]at e;cases e
  |some s1=>rw[q]at e;exact⟨s1,s2,rfl,e,hI2⟩
 rwa [Ae,Bt]at this
def Uy {Q:O3->Prop} {a:A3} {g:G3} {b r:D3} {s:S3} {h:H3} {j:Int} (ea:a s h=.ok [.x (.int j)] h) (hj: -(2 ^ 62)<=j/\j<2 ^ 62)
  (I:Nat->S3->Prop) (h0:I 0 s) (step:∀(i:Nat) s,i<j.toNat->I i s->∃s2,gb g b (.int (i:Int)) s h=.nx s2 h/\I (i+1) s2) (k:∀s',I j.toNat s'->Q (r s' h)):Q (sSeq (zw (qJ a) g b) r s h):=by
 obtain⟨s',e,hI⟩:=Ux ea hj I h0 step;rw[jz e];exact k s' hI
def zF {Q:Res Vl->Prop} {a b:D3} {s s1:S3} {h h1:H3} (e:a s h=.nx s1 h1) (q:Q ((b s1 h1).res)):Q ((sSeq a b s h).res):=by rw[jz e];exact q
def DN {Q:Res Vl->Prop} {a:A3} {g:G3} {b r:D3} {s:S3} {h:H3} {j:Int} (ea:a s h=.ok [.x (.int j)] h) (hj: -(2 ^ 62)<=j/\j<2 ^ 62)
  (I:Nat->S3->Prop) (h0:I 0 s) (step:∀(i:Nat) s,i<j.toNat->I i s->∃s2,gb g b (.int (i:Int)) s h=.nx s2 h/\I (i+1) s2) (k:∀s',I j.toNat s'->Q ((r s' h).res)):Q ((sSeq (zw (qJ a) g b) r s h).res):=
 Uy (Q:=fun o=>Q o.res) ea hj I h0 step k
def BK {Q:Res Vl->Prop} {α:Type} {p:P3} {g:G3} {b r:D3} {s:S3} {h:H3} {x:V3} {ok:H3->Prop} {enc:α->V3} {l:List α} (ep:p s h=.ok (.x x) h) (hw:yH h x=some (l.map enc,ok))
  (I:Nat->S3->Prop) (h0:I 0 s) (step:∀(i:Nat) a s,l[i]? =some a->I i s->∃s2,gb g b (enc a) s h=.nx s2 h/\I (i+1) s2) (k:∀s',I l.length s'->Q ((r s' h).res)):Q ((sSeq (zw (iL p) g b) r s h).res):=
 Uw (Q:=fun o=>Q o.res) ep hw I h0 step k
end L3
namespace L3
open PySem PySem.Spec PyProof.Rows L2
noncomputable def kyd3:V3->Option z8
 |.int i=>some (.inl i)
 |.str z=>some (.inr z)
 |_=>none
noncomputable def jt:V3->Option MK
 |.int i=>some (.one (.inl i))
 |.str z=>some (.one (.inr z))
 |_=>none
def kV3:z8->V3
 |.inl i=>.int i
 |.inr z=>.str z
noncomputable def yg {α:Type} [DecidableEq α] (kvs:List (α×V3)) (k:α):Option V3:=(kvs.find? fun kv=>decide (kv.1=k)).map (·.2)
noncomputable def put3 {α:Type} [DecidableEq α] (kvs:List (α×V3)) (k:α) (v:V3):List (α×V3):=
 if (kvs.any fun kv=>decide (kv.1=k))=true then kvs.map fun kv=>if kv.1=k then (kv.1,v) else kv else kvs++[(k,v)]
inductive Dc where
 |k (kvs:List (z8×V3))|t (kvs:List (MK×V3))
def Dc.c:Dc->C3
 |.k kvs=>.dK kvs
 |.t kvs=>.dT kvs
def Dc.len:Dc->Nat
 |.k kvs=>kvs.length
 |.t kvs=>kvs.length
def Dc.get:Dc->V3->Option (Option V3)
 |.k kvs,x=>(kyd3 x).map (yg kvs)
 |.t kvs,x=>(jt x).map (yg kvs)
def Dc.put:Dc->V3->V3->Option Dc
 |.k kvs,x,v=>(kyd3 x).map fun k=>.k (put3 kvs k v)
 |.t kvs,x,v=>(jt x).map fun k=>.t (put3 kvs k v)
noncomputable def C3.dc:C3->Option Dc
 |.dK kvs=>some (.k kvs)
 |.dT kvs=>some (.t kvs)
 |_=>none
def yV (s:S3) (h:H3):Rf->Option Dc
 |.x (.dK kvs)=>some (.k kvs)
 |.x (.dT kvs)=>some (.t kvs)
 |.x (.loc n)=>match h[n]? with
  |some c=>c.dc
  |none=>none
 |.s i=>match s[i]? with
  |some (some (.m c))=>c.dc
  |_=>none
 |_=>none
section
variable {X:Cx} {κ:Kx} {E:XK} {F F':Fr} {σ σ':L2.St} {H H1 H':Hp} {Q:VK} {p:Addr} {e a b c o:Expr} {pos apos np cpos:Pos} {i:Nat} {D:Ends} {β:AO} {O:Addr->Prop}
def DR (κ:Kx) (β:AO) (O:Addr->Prop) (H:Hp):Dc->Addr->Prop
 |.k kvs,a=> ∃ws,H a=some (.dK ws)/\RepP κ β O H kvs ws
 |.t kvs,a=> ∃ws,H a=some (.dT ws)/\RepP κ β O H kvs ws
def DR.of {c:C3} {d:Dc} {a:Addr} (e:c.dc=some d) (h:CellR κ β O H c a):DR κ β O H d a:=by
 cases c<;>simp[C3.dc]at e
 .subst e;exact h
 .subst e;exact h
def J8 {f:Rf} {v:V} {d:Dc} (rel:Rel κ F σ H) (r:RfR κ F H f v) (e:yV F.s F.h f=some d):∃a,v=.ref a/\DR κ F.β F.O H d a:=by
 cases f with
 |s i=>
  obtain⟨a,c,h1,h2,h3,h4⟩:=r;simp only[yV,h3]at e;exact⟨a,h2,DR.of e h4⟩
 |x y=>
  cases y<;>simp[yV]at e
  case dK zs=>
   subst e;cases r with
   |dK h1 h2 h3 h4=>exact⟨_,rfl,_,h1,h4⟩
  case dT zs=>
   subst e;cases r with
   |dT h1 h2 h3 h4=>exact⟨_,rfl,_,h1,h4⟩
  case loc n=>
   cases r with
   |loc h1 h2=>
    cases q:F.h[n]? with
    |none=>rw[q]at e;cases e
    |some c=>
     rw[q]at e
     rcases rel.heap.cell n _ q with z|⟨a,ha,h5⟩
     .subst z;cases e
     .exact⟨a,h2 a ha,DR.of e h5⟩
theorem RepP.val {α:Type} [DecidableEq α] {k:α}:∀{kvs:List (α×V3)} {ws:List (α×V)},RepP κ β O H kvs ws->(∀x,yg kvs k=some x->∃y,yn ws k=some y/\Rep κ β O H x y)/\(yg kvs k=none->yn ws k=none)
 |_,_,.nil=>⟨fun x e=>(nomatch e),fun _=>rfl⟩
 |_,_,.cons (k:=k') (x:=x') (y:=y') q t=>by
  have ih:=RepP.val (k:=k) t
  by_cases z:k'=k
  .subst z
   refine⟨fun x e=>?_,fun e=>?_⟩
   .simp[yg]at e;subst e;exact⟨y',by simp[yn],q⟩
   .simp[yg]at e
  .have e1:∀(l:List (_×V3)),yg ((k',x')::l) k=yg l k:=fun l=>by simp[yg,Dj,z]
   have e2:∀(l:List (_×V)),yn ((k',y')::l) k=yn l k:=fun l=>by simp[yn,Dj,z]
   refine⟨fun x e=>?_,fun e=>?_⟩
   .rw[e1]at e;rw[e2];exact ih.1 x e
   .rw[e1]at e;rw[e2];exact ih.2 e
theorem RepP.any {α:Type} {g:α->Bool}:∀{kvs:List (α×V3)} {ws:List (α×V)},RepP κ β O H kvs ws->(kvs.any fun kv=>g kv.1)=ws.any fun kv=>g kv.1
 |_,_,.nil=>rfl
 |_,_,.cons q t=>by simp only[List.any_cons,RepP.any (g:=g) t]
theorem RepP.len {α:Type}:∀{kvs:List (α×V3)} {ws:List (α×V)},RepP κ β O H kvs ws->kvs.length=ws.length
 |_,_,.nil=>rfl
 |_,_,.cons q t=>by simp only[Az,RepP.len t]
theorem RepP.snoc {α:Type} {k:α} {x:V3} {y:V} (r:Rep κ β O H x y):∀{kvs:List (α×V3)} {ws:List (α×V)},RepP κ β O H kvs ws->RepP κ β O H (kvs++[(k,x)]) (ws++[(k,y)])
 |_,_,.nil=>.cons r .nil
 |_,_,.cons q t=>.cons q (RepP.snoc r t)
theorem RepP.rpl {α:Type} [DecidableEq α] {k:α} {x:V3} {y:V} (r:Rep κ β O H x y):∀{kvs:List (α×V3)} {ws:List (α×V)},RepP κ β O H kvs ws->RepP κ β O H (kvs.map fun kv=>if kv.1=k then (kv.1,x) else kv) (ws.map fun kv=>if kv.1=k then (kv.1,y) else kv)
 |_,_,.nil=>.nil
 |_,_,.cons (k:=k') q t=>by
  simp only[Ag]
  by_cases z:k'=k
  .rw[Ac z,Ac z];exact .cons r (RepP.rpl r t)
  .rw[Ab z,Ab z];exact .cons q (RepP.rpl r t)
def RepP.put {α:Type} [DecidableEq α] {k:α} {x:V3} {y:V} {kvs:List (α×V3)} {ws:List (α×V)} (r:Rep κ β O H x y) (h:RepP κ β O H kvs ws):RepP κ β O H (put3 kvs k x) (yu ws k y):=by
 unfold put3 yu;rw[h.any (g:=fun z=>decide (z=k))]
 split
 .exact h.rpl r
 .exact h.snoc r
def NB {x:V3} {y:V} {k:z8} (r:Rep κ β O H x y) (e:kyd3 x=some k):y=kV k:=by
 cases x<;>simp[kyd3]at e
 .subst e;cases r;rfl
 .subst e;cases r;rfl
def NC {x:V3} {y:V} {k:MK} (r:Rep κ β O H x y) (e:jt x=some k):KyT H k y:=by
 cases x<;>simp[jt]at e
 .subst e;cases r;rfl
 .subst e;cases r;rfl
theorem DR.get {d:Dc} {a:Addr} {x:V3} {y:V} {o:Option V3} (h:DR κ β O H d a) (r:Rep κ β O H x y) (e:d.get x=some o):
  ∃o',DGet H a y o'/\(∀z,o=some z->∃w,o'=some w/\Rep κ β O H z w)/\(o=none->o'=none):=by
 cases d with
 |k kvs=>
  obtain⟨ws,h1,h2⟩:=h;obtain⟨k,hk,rfl⟩:=Cs.1 e;have:=h2.val (k:=k);rw[NB r hk];exact⟨_,DGet.k h1,fun z hz=>this.1 z hz,this.2⟩
 |t kvs=>
  obtain⟨ws,h1,h2⟩:=h;obtain⟨k,hk,rfl⟩:=Cs.1 e;have:=h2.val (k:=k);exact⟨_,DGet.t h1 (NC r hk),fun z hz=>this.1 z hz,this.2⟩
def Uz:R2:=fun x y H Q=> ∃a v,x=V.ref a/\DGet H a y (some v)/\Q v H
def AQ:F2:=fun s h x y=>match yV s h x,y with
 |some d,.x k=>match d.get k with
  |some (some v)=>some (.v v)
  |_=>none
 |_,_=>none
def U0:OpSim κ Uz AQ:=fun F σ H x y z v w Q rel rx ry e k=>by
 unfold AQ at e
 split at e
 .rename_i d kk q
  obtain⟨a,rfl,hd⟩:=J8 rel rx q
  split at e
  .rename_i v' q2
   cases e;obtain⟨o',g,h1,_⟩:=hd.get (show Rep κ F.β F.O H kk w from ry) q2
   obtain⟨u,rfl,ru⟩:=h1 _ rfl;exact⟨a,u,rfl,g,k u H Ext.refl ⟨rel,ru⟩⟩
  .cases e
 .cases e
def HG {da db:P3} (hu:X.A.units+1<cLine) (hs:NoSl b) (ha:PE X a (zj κ E da)) (hb:PE X b (zj κ E db)):PE X (.Subscript a b pos) (zk κ E (eOp AQ da db)):=yK (SS hu ha hb hs) fun _ _ _ h=>ER U0 h
def rDIn (neg:Bool):R2:=fun y x H Q=> ∃a o,x=V.ref a/\DGet H a y o/\Q (.bl (if neg then !o.isSome else o.isSome)) H
def oDIn (neg:Bool):F2:=fun s h y x=>match yV s h x,y with
 |some d,.x k=>match d.get k with
  |some o=>some (.v (.bl (if neg then !o.isSome else o.isSome)))
  |none=>none
 |_,_=>none
def ND {neg:Bool}:OpSim κ (rDIn neg) (oDIn neg):=fun F σ H y x z w v Q rel ry rx e k=>by
 unfold oDIn at e
 split at e
 .rename_i d kk q
  obtain⟨a,rfl,hd⟩:=J8 rel rx q
  split at e
  .rename_i o q2
   cases e;obtain⟨o',g,h1,h2⟩:=hd.get (show Rep κ F.β F.O H kk w from ry) q2
   have e1:o'.isSome=o.isSome:=by
    cases o with
    |none=>rw[h2 rfl];rfl
    |some z=>obtain⟨u,rfl,_⟩:=h1 z rfl;rfl
   refine⟨a,o',rfl,g,?_⟩
   rw[e1];exact k _ H Ext.refl ⟨rel,.bl _⟩
  .cases e
 .cases e
def NF (hu:X.A.units+1<cLine):OpR X (compareOp .NotIn) (rDIn true):=fun pins s σ H x y v u Q I rx ry zz193 => by
 obtain ⟨a,o,ey,g,q⟩ := zz193
 subst ey;obtain rfl:u=Value.ref a:=ry;exact SL hu I g rx fun s3 I3=>⟨.bl (!o.isSome),H,I3,rfl,q⟩
def eDnT:E3:=fun _ h=>.ok (.m (.dT [])) h
def J9:PE X (.Dict [] [] pos) (zk κ E eDnT):=yK SX fun σ H Q zz194 p hp => by obtain ⟨F,rel,o⟩ := zz194; exact o F.β (.ref p) _ (qd hp) (Post.dT rel hp .nil)
def U1 {f:Rf} {v:V} {d d':Dc} {s':S3} {h':H3} (ht:F.T=[]) (rel:Rel κ F σ H) (r:RfR κ F H f v) (e:yV F.s F.h f=some d) (hw:wr3 F.s F.h d'.c f=some (s',h')):
  ∃l,v=.ref l/\DR κ F.β F.O H d l/\∀u,(∀β O H',(∀{α:Type} {x:List (α×V3)} {y:List (α×V)},RepP κ F.β F.O H x y->RepP κ β O H' x y)->H' l=some u->CellR κ β O H' d'.c l)->∃F',SExt F H F' (zr H l u)/\F'.s=s'/\F'.h=h'/\Rel κ F' σ (zr H l u):=by
 cases f with
 |s i=>
  cases hw;obtain⟨a,c,h1,h2,h3,h4⟩:=r;simp only[yV,h3]at e;have hd:=DR.of e h4;have hex:∃o,H a=some o:=by
   cases d with
   |k kvs=>obtain⟨ws,q,_⟩:=hd;exact⟨_,q⟩
   |t kvs=>obtain⟨ws,q,_⟩:=hd;exact⟨_,q⟩
  have hO:F.O a:= .inr (.inl (Al h1))
  refine⟨a,h2,hd,fun u hu=>⟨{F with s:=F.s.set i (some (.m d'.c))},⟨⟨fun b u hb hn m=>⟨by rw[zX (fun z=>by subst z;exact m (Al h1))];exact hb,hn⟩,Ah _,fun _ _ _ h=>h,(BV (β:=F.β) hex).there,nwb0⟩,fun _ h=>.inl h,rfl,ht⟩,rfl,rfl,rel.wrSlot h1 h3 (hu _ _ _ (fun hr=>hr.ext (BV (β:=F.β) hex) (fun b hb=>by rw[hb];exact hO) fun _ _ _ n=>n) yR)⟩⟩
 |x y=>
  cases y<;>simp[wr3]at hw
  case loc n=>
   obtain⟨rfl,rfl⟩:=hw;cases r with
   |loc h1 h2=>
    simp only[yV]at e;cases q:F.h[n]? with
    |none=>rw[q]at e;cases e
    |some c=>
     rw[q]at e
     rcases rel.heap.cell n _ q with z|⟨a,ha,h5⟩
     .subst z;cases e
     .have hd:=DR.of e h5
      have hex:∃o,H a=some o:=by
       cases d with
       |k kvs=>obtain⟨ws,q,_⟩:=hd;exact⟨_,q⟩
       |t kvs=>obtain⟨ws,q,_⟩:=hd;exact⟨_,q⟩
      have ex:=fun o=>HC (o:=o) ha hex
      exact⟨a,h2 a ha,hd,fun u hu=>⟨F.to F.β (F.h.set n d'.c),SExt.of0 ht (ex _),rfl,rfl,rel.next (ex _) (rel.heap.wrLoc ha (hu _ _ _ (fun hr=>hr.ext0 (ex _)) yR))⟩⟩
def qR (p i:P3) (e:E3):D3:=fun s h=>(e s h).bindS fun r h1=>match r.fz with
 |none=>.no
 |some y=>(p s h1).bindS fun f h2=>(i s h2).bindS fun j h3=>match j,yV s h3 f with
  |.x k,some d=>match d.put k y with
   |some d'=>if d.len<sizeLine then match wr3 s h3 d'.c f with
    |some (s',h')=>.nx s' h'
    |none=>.no
    else .no
   |none=>.no
  |_,_=>.no
def U2 {dp di:P3} {d:E3} (h:zt κ E (qR dp di d) D σ H):MV (zj κ E dp) (zj κ E di) (zk κ E d) D σ H:=by
 obtain⟨F,rel,ht,o⟩:=h
 refine (bindS (K:=kE κ) rel ht o).mono fun v H1 zz195 => ?_
 obtain ⟨β1,h1,r,e1,p1,o1⟩ := zz195
 cases z:r.fz with
 |none=>simp only[z]at o1;exact o1.elim
 |some y=>
  simp only[z]at o1;obtain⟨r1,ry⟩:=Post.fz p1 z;have s1:SExt F H (F.to β1 h1) H1:=SExt.of0 ht e1
  refine (bindS (F:=F.to β1 h1) (K:=kP κ) r1 ht (SOut.move s1 o1)).mono fun ov H2 zz196 => ?_
  obtain ⟨β2,h2,f,e2,⟨r2,rf⟩,o2⟩ := zz196
  have s2:SExt (F.to β1 h1) H1 (F.to β2 h2) H2:=SExt.of0 (F:=F.to β1 h1) ht e2
  refine (bindS (F:=F.to β2 h2) (K:=kP κ) r2 ht (SOut.move s2 o2)).mono fun iv H3 zz197 => ?_
  obtain ⟨β3,h3,j,e3,⟨r3,rj⟩,o3⟩ := zz197
  have s3:SExt (F.to β2 h2) H2 (F.to β3 h3) H3:=SExt.of0 (F:=F.to β2 h2) ht e3;have rf3:=RfR.ext (F:=F.to β2 h2) (β':=β3) (h':=h3) r2 e3 rf;have ry3:Rep κ β3 F.O H3 y v:=(Rep.ext0 e3 (Rep.ext0 e2 ry))
  match j,rj,o3 with
  |.s _,rj,o3=>exact o3.elim
  |.x k,rj,o3=>
   cases q:yV F.s h3 f with
   |none=>simp only[q]at o3;exact o3.elim
   |some dc=>
    simp only[q]at o3;cases q2:dc.put k y with
    |none=>simp only[q2]at o3;exact o3.elim
    |some dc'=>
     simp only[q2]at o3
     by_cases hz:dc.len<sizeLine
     .simp only[Ac hz]at o3
      cases q3:wr3 F.s h3 dc'.c f with
      |none=>simp only[q3]at o3;exact o3.elim
      |some w=>
       obtain⟨s',h'⟩:=w;simp only[q3]at o3;obtain⟨l,ev,hd,wk⟩:=U1 (F:=F.to β3 h3) ht r3 rf3 q q3;subst ev;have rk:Rep κ β3 F.O H3 k iv:=rj;cases dc with
       |k kvs=>
        obtain⟨ws,g1,g2⟩:=hd;obtain⟨kk,hk,rfl⟩:=Cs.1 q2;obtain⟨F',e',es,eh,rel'⟩:=wk (.dK (yu ws kk v)) (fun β O H' mv hl=>⟨_,hl,mv (g2.put ry3)⟩)
        refine⟨l,_,rfl,?_,SOut.move s3 o3 F' σ _ e' es eh rel'⟩
        rw[NB rk hk];exact DPut.k g1 (by rw[<-g2.len];exact hz)
       |t kvs=>
        obtain⟨ws,g1,g2⟩:=hd;obtain⟨kk,hk,rfl⟩:=Cs.1 q2;obtain⟨F',e',es,eh,rel'⟩:=wk (.dT (yu ws kk v)) (fun β O H' mv hl=>⟨_,hl,mv (g2.put ry3)⟩)
        refine⟨l,_,rfl,?_,SOut.move s3 o3 F' σ _ e' es eh rel'⟩
        exact DPut.t g1 (NC rk hk) (by rw[<-g2.len];exact hz)
     .simp only[Ab hz]at o3;exact o3.elim
def HH {tp:Pos} {ii:Expr} {dp di:P3} {d:E3} (hu:X.A.units+1<cLine) (he:PE X e (zk κ E d)) (ho:PE X o (zj κ E dp)) (hi:PE X ii (zj κ E di))
 (hsw:swapsWith e (some (.Subscript o ii tp)) pos.line X.env=pure false:=by rfl):PS X (.Assign [.Subscript o ii tp] e pos) (zt κ E (qR dp di d)):=ql (SU hu ho hi he hsw) fun D σ H h=>U2 h
end
section
variable {X:Cx} {κ:Kx} {E:XK} {F F':Fr} {σ σ':L2.St} {H H1 H':Hp} {Q:VK} {p:Addr} {e a b c o:Expr} {pos apos np cpos ip jp:Pos} {i:Nat} {D:Ends} {β:AO} {O:Addr->Prop}
def hu1 {A:Around} {k:Nat} (hr:Room k A):A.units+1<cLine:=by have:=qt hr;lia
end
end L3
namespace L2
open PySem PySem.Spec PyProof.Rows
section
variable {prog:Program} {w:World} {A:Around} {E:VP} {s:Shared}
abbrev KI:String:="dict_keyiterator"
def DE (h:Heap) (d:Addr) (es:Array DictEntry) (ep:Nat):Prop:=∃o,h.get? d=some o/\o.ExactDict/\o.data=.dict es ep
def DE.typeIs {d:Addr} {es:Array DictEntry} {ep:Nat} (x:DE s.heap d es ep):s.TypeIs (.ref d) "dict" :=let ⟨o,ho,hc,_⟩:=x;⟨o,ho,hc.1⟩
def NG {d:Addr} {es:Array DictEntry} {ep:Nat} {Q:VP} (hd:(d==sysModules)=false) (hm:DE s.heap d es ep)
  (hQ:Q (.ref s.heap.objs.size) {s with heap:=s.heap.push {cls:= .type KI,data:= .fields #[.ref d,.int 0 0,.int es.size 0,.int ep 0]}}):wpAny (model prog w) A (pyIter (.ref d)) Q E s:=by
 obtain⟨o,ho,hc,hdat⟩:=id hm;have hT:=hm.typeIs
 refine Fu hT F.slot_dict_iter (B5 F.slot_dict_iter hT F.entry_dict_iter ?_ (F.args_dict_iter_1 _))
 unfold PySem.Builtin.«dict.__iter__»;refine Aa ?_
 unfold PySem.Builtin.Dict.dictSlotNone;refine Aa (wpAny_notOrdered_dict hT ?_)
 show wpAny _ _ (pure (Value.ref d)) _ _ s;refine Ad ?_
 show wpAny _ _ (Builtin.Dict.showsAll d >>=_) _ _ s;unfold PySem.Builtin.Dict.showsAll;rw[Ab (fun z=>by rw[hd]at z;cases z)]
 refine Aa (Ad ?_)
 refine Aa (Fp ho hdat (Aa (wpAny_dictEpoch ho hdat ?_)))
 refine Aa (B6 (Ad ⟨_,rfl,KI,_,⟨_,Bf _ rfl,rfl⟩,E4.lookup,?_⟩))
 simpa[rawInt] using hQ
def NH {it d:Addr} {i ep:Nat} {es:Array DictEntry} {e:DictEntry} {Q:Option Value->Shared->Prop} (hit:s.heap.IsKeyIter it d i es.size ep) (hm:DE s.heap d es ep) (hx:es[i]? =some e)
  (hQ:∀h',h'.IsKeyIter it d (i+1) es.size ep->Heap.SameBut it s.heap h'->Q (some e.key) {s with heap:=h'}):wpAny (model prog w) A (pyNext (.ref it)) Q E s:=by
 obtain⟨o,ho,hc,hd⟩:=id hit;obtain⟨od,hod,hcd,hdd⟩:=id hm;unfold pyNext
 refine Aa (wpAny_attempt (Dt (name:=Str.ofString "__next__") hit.typeIs E4 (B5 E4 hit.typeIs F.entry_dict_keyiterator_next ?_ (F.args_dict_keyiterator_next_1 _))))
 refine Aa (Ad (Aa (Aa ?_)))
 first|refine Aa (Fv hit.typeIs (Ad (Aa (Eg ho hd ?_))))|refine Aa (Fw hit.typeIs (Ad (Aa (Eg ho hd ?_))))
 have hown:Builtin.Dict_items.ownsTuple KI=false:=by decide
 simp only[hown,Df,B0];show wpAny _ _ (if (Value.ref d==Value.none)=true then _ else _) _ _ s;rw[Ab (show ¬((Value.ref d==Value.none)=true) from Bb)]
 refine Aa (Ad (Aa (Fp hod hdd ?_)))
 rw[Ab (by simp)]
 refine Aa (Ad (Aa (wpAny_dictEpoch hod hdd ?_)))
 rw[Ab (by simp)]
 refine Ad ?_
 simp only[show ¬((i:Int)<0) from by lia,B0,Bp,hx]
 refine Aa ?_
 first|refine Aa (Fv hit.typeIs (Ad (Aa (Gv hit.typeIs ?_))))|refine Aa (Fw hit.typeIs (Ad (Aa (Gv hit.typeIs ?_))))
 show wpAny _ _ (setField (.ref it) 1 (rawInt ((i:Int)+1)) >>=_) _ _ s;refine Aa (wpAny_setField ho hd (by simp) ?_)
 have hit':(s.heap.update it (Obj.mapFields (fun z=>z.setIfInBounds 1 (rawInt ((i:Int)+1))))).IsKeyIter it d (i+1) es.size ep:=
  ⟨_,Du _ ho (Obj.isFreed_of_fields (Obj.data_mapFields hd _)),(Obj.cls_mapFields ..).trans hc,by rw[Obj.data_mapFields hd];simp[rawInt]⟩
 refine Aa (Bx (Aa (Gv (s:={s with heap:=s.heap.update it (Obj.mapFields (fun z=>z.setIfInBounds 1 (rawInt ((i:Int)+1))))}) hit'.typeIs ?_)))
 show wpAny _ _ (pure e.key) _ _ _;exact Ad (Ad ⟨_,rfl,Ad (hQ _ hit' (Di ..))⟩)
def NI {it d:Addr} {i ep:Nat} {es:Array DictEntry} {Q:Option Value->Shared->Prop} (hh:A.handled=none) (hit:s.heap.IsKeyIter it d i es.size ep) (hm:DE s.heap d es ep) (hx:es.size<=i)
  (hQ:∀h',Heap.ExtBut it s.heap h'->Q none {s with heap:=h'}):wpAny (model prog w) A (pyNext (.ref it)) Q E s:=by
 obtain⟨o,ho,hc,hd⟩:=id hit;obtain⟨od,hod,hcd,hdd⟩:=id hm;unfold pyNext
 refine Aa (wpAny_attempt (Dt (name:=Str.ofString "__next__") hit.typeIs E4 (B5 E4 hit.typeIs F.entry_dict_keyiterator_next ?_ (F.args_dict_keyiterator_next_1 _))))
 refine Aa (Ad (Aa (Aa ?_)))
 first|refine Aa (Fv hit.typeIs (Ad (Aa (Eg ho hd ?_))))|refine Aa (Fw hit.typeIs (Ad (Aa (Eg ho hd ?_))))
 have hown:Builtin.Dict_items.ownsTuple KI=false:=by decide
 simp only[hown,Df,B0];show wpAny _ _ (if (Value.ref d==Value.none)=true then _ else _) _ _ s;rw[Ab (show ¬((Value.ref d==Value.none)=true) from Bb)]
 refine Aa (Ad (Aa (Fp hod hdd ?_)))
 rw[Ab (by simp)]
 refine Aa (Ad (Aa (wpAny_dictEpoch hod hdd ?_)))
 rw[Ab (by simp)]
 refine Ad ?_
 simp only[show ¬((i:Int)<0) from by lia,B0,Bp,Fx hx]
 refine Aa ?_
 first|refine Aa (Fv hit.typeIs (Ad ?_))|refine Aa (Fw hit.typeIs (Ad ?_))
 show wpAny _ _ (setField (.ref it) 0 .none >>=_) _ _ s;refine Aa (wpAny_setField ho hd (by simp) ?_)
 show wpAny _ _ (newExc (.type "StopIteration") [] >>=_) _ _ _;refine Aa ?_
 simp only[newExc,newTuple];refine Aa (B6 ?_ (by size_fits))
 refine Aa (m:=firstArgMember _ _) (wpAny_of_eq (a:=Value.none) (by first|rfl|(simp only[firstArgMember];rfl)) (B6 ?_ (by size_fits)))
 simp only[raiseNew];refine Aa (wpAny_handled ?_)
 rw[show A.in1.handled=none from hh];refine Aa (Ad (wpAny_throw ?_))
 refine Aa (wpAny_isInstance (T:="StopIteration") (b:=true) ⟨_,Bf _ rfl,rfl⟩ isSubtype_stop (Ad (hQ _ (((Di ..).extBut.push _).push _))))
end
def Itd (a:Addr) (n:Nat):It:=⟨fun i H=> ∃kvs,H a=some (.dT kvs)/\kvs.length=n/\i<n,fun i H x H'=>H'=H/\∀kvs,H a=some (.dT kvs)->∃k v,kvs[i]? =some (k,v)/\KyT H k x,fun i H=> ∃kvs,H a=some (.dT kvs)/\kvs.length=n/\n<=i⟩
def KyV.val {H:Hp}:∀{k:MK} {u:Value},KyV H k u->∃x,RelV x u/\KyT H k x
 |.one k,u,r=>⟨kV k,r,rfl⟩
def DictM.at {P:Program} {w:World} {h:Heap} {a:Addr} {xs:Tr} (hm:DictM P w h a xs):∃es,DE h a es xs.length/\es.toList=xs.map (yB P w)/\es.size=xs.length:=by
 obtain⟨o,es,ep,g1,g2,g3,g4,⟨g5,g6⟩,g7⟩:=hm;subst g6;exact⟨es,⟨o,g1,g2,g3⟩,g4,by rw[<-B2,g4,Ae]⟩
def U3 {P:Program} {w:World} {K:FG} {tg:Expr} (a it:Addr) (n:Nat):Turn P w K tg (Itd a n) [it] it (fun i h=>h.IsKeyIter it a i n n) where
 mem:=by simp
 obj:=fun i h st b hb=>by
  have e:b=it:=by simpa using hb
  subst e;obtain⟨o,e,c,d⟩:=st;exact⟨o,e,fun v z=>by rw[d]at z;cases z⟩
 keep:=fun i h h' st k=>st.at fun o e=>k it (by simp) o e
 item:=by
  intro X hP hw hK hc i pins s σ H E I hf st hg;subst hP hw hK;obtain⟨kvs,hq,hn,hi⟩:=hg;obtain⟨z,y,xs,r,hm⟩:=DD I.hok hq;obtain⟨es,he,hl,hsz⟩:=hm.at;have hlen:=Paired.length r;obtain⟨f0,f1,f2,f3,f4,f5⟩:=hf it (by simp)
  have e1:es.size=n:=by lia
  have e2:xs.length=n:=by lia
  rw[e2]at he;have hie:i<es.size:=by lia
  have hix:i<xs.length:=by lia
  have hik:i<kvs.length:=by lia
  have hkey:es[i].key=xs[i].2.1:=by
   have:es.toList[i]? =(xs.map (yB X.prog X.w))[i]? :=by rw[hl]
   rw[Bm,Bo hie,Ba,zK hix]at this;rw[Option.some.inj this];rfl
  have hp:kvs[i].1=xs[i].1/\KyV H kvs[i].1 xs[i].2.1/\RelV kvs[i].2 xs[i].2.2:=by
   have gen:∀{l:List (MK×V)} {m:Tr},KT H l m->∀(i:Nat) (h1:i<l.length) (h2:i<m.length),l[i].1=m[i].1/\KyV H l[i].1 m[i].2.1/\RelV l[i].2 m[i].2.2:=fun {l m} q=>by
    induction q with
    |nil=>intro i h1;exact absurd h1 (Nat.not_lt_zero _)
    |cons hq _ ih=>
     intro i h1 h2;cases i with
     |zero=>exact hq
     |succ j=>exact ih j (by simpa using h1) (by simpa using h2)
   exact gen r i hik hix
  obtain⟨x,rx,kx⟩:=hp.2.1.val
  refine NH (by rw[e1];exact st) he (Bo hie) fun h' st' sb=>?_
  have I1:Inv X pins σ H {s with heap:=h'}:=I.turned (t':=s.toks) (fun b o hb e=>(sb.2 b hb).trans e) f0 f1 f3 f4 f5
  rw[e1]at st';obtain⟨o,e,c,d⟩:=id st'
  refine⟨es[i].key,rfl,EJ (s:={s with heap:=h'}) e c d (by decide) ⟨x,H,I1,by rw[hkey];exact rx,⟨rfl,fun ws hw=>?_⟩,st',fun b hb=>(hf b hb).1⟩⟩
  rw[hq]at hw;cases hw;exact⟨_,_,zK hik,kx⟩
 done:=by
  intro X hP hw hK hc i pins s σ H E I hf st hg;subst hP hw hK;obtain⟨kvs,hq,hn,hi⟩:=hg;obtain⟨z,y,xs,r,hm⟩:=DD I.hok hq;obtain⟨es,he,hl,hsz⟩:=hm.at;have hlen:=Paired.length r;obtain⟨f0,f1,f2,f3,f4,f5⟩:=hf it (by simp)
  have e1:es.size=n:=by lia
  have e2:xs.length=n:=by lia
  rw[e2]at he;exact NI (I.ok.hd hc) (by rw[e1];exact st) he (by lia) fun h' eb=>⟨rfl,I.turned (t':=s.toks) (fun b o hb e=>eb b o hb e) f0 f1 f3 f4 f5⟩
 self:=fun _ _ _ _ _ st h=>wpAny_pyIter_keyiter st h
section
variable {X:Cx} {tg:Expr}
def U4 (tl:TE):TI:=fun σ H R=>tl σ H fun x H1=> ∃a kvs,x=.ref a/\H1 a=some (.dT kvs)/\R (Itd a kvs.length) H1
def U5 {l:Expr} {tl:TE} (hl:PE X l tl):PI X tg l (U4 tl):=by
 intro pins s σ H R I h
 refine thn (hl pins s σ H _ I h) fun v s1 zz198 => ?_
 obtain ⟨x,H1,I1,r1,q1⟩ := zz198
 obtain⟨a,kvs,e,hq,q⟩:=q1;subst e;cases r1;obtain⟨z,y,xs,r,hm⟩:=DD I1.hok hq;obtain⟨es,he,hl,hsz⟩:=hm.at;have hlen:=Paired.length r
 refine NG y he ?_
 have e1:es.size=kvs.length:=by lia
 rw[e1,<-hlen]
 refine⟨s1.heap.objs.size,[s1.heap.objs.size],_,_,H1,rfl,I1.kept (t':=s1.toks) fun b o e=>Ay _ e,U3 a _ kvs.length,⟨_,Bf _ rfl,rfl,rfl⟩,fun b hb=>?_,q⟩
 have e:b=s1.heap.objs.size:=by simpa using hb
 subst e;exact I1.fpOk (Ah _) (I1.hok.fresh (Ah _))
end
end L2
namespace L3
open PySem PySem.Spec PyProof.Rows L2
section
variable {X:Cx} {κ:Kx} {E:XK} {F:Fr} {σ:L2.St} {H:Hp}
def mkV3:MK->V3
 |.one k=>kV3 k
def NJ {β:AO} {O:Addr->Prop}:∀k:z8,Rep κ β O H (kV3 k) (kV k)
 |.inl i=>.int i
 |.inr z=>.str z
def U6 (rel:Rel κ F σ H):∀{k:MK} {x:V},KyT H k x->Rep κ F.β F.O H (mkV3 k) x
 |.one k,x,e=>by
  have e:x=kV k:=e;subst e;exact NJ k
theorem RepP.keys {α:Type} {β:AO} {O:Addr->Prop}:∀{kvs:List (α×V3)} {ws:List (α×V)},RepP κ β O H kvs ws->kvs.map (·.1)=ws.map (·.1)
 |_,_,.nil=>rfl
 |_,_,.cons _ r=>by rw[Ag,Ag,RepP.keys r]
def U7 {i:Nat} {pos:Pos} {y:Str} {py spos:Pos} {elt tg iter:Expr} {ifs:List Expr} {loc free:List Str} {fr:List Nat} {scope:Scope} {it:I3} {g:G3} {c:T3} {d:E3} (hN:X.N.Nodup) (hi':X.N[i]? =some y) (hx:X.env.scope.names.lookup y=some .local) (hc:X.calm=true) (S:CompScope X loc free fr scope) (hi:PI X tg iter (yA κ E it))
 (hg:∀cl C s H ex,PG (qj X (loc++free) scope cl C s H ex) tg (yD κ g)) (ht:∀cl C s H ex,PTs (qj X (loc++free) scope cl C s H ex) ifs (zO κ E0 c)) (he:∀cl C s H ex,PE (qj X (loc++free) scope cl C s H ex) elt (zk κ E0 d))
 (hs:∀x,foldedSetIterable iter X.env x=pure x:=by intro _;rfl) (hsw:swapsWith (.ListComp elt [⟨tg,iter,ifs,0⟩] scope pos) (some (.Name y py)) spos.line X.env=pure true:=by rfl):
 PS X (.Assign [.Name y py] (.ListComp elt [⟨tg,iter,ifs,0⟩] scope pos) spos) (zt κ E (sSet i (qc (yy loc.length fr it g c d)))):=ql (MI hN hi' hx hc S hi hg ht he hs hsw) fun D σ H h=>Ju (N3 (Je h))
end
end L3
namespace L2
open PySem PySem.Spec PySem.W PyProof.Rows
def DO (kvs:List (MK×V)):Prop:=∀p∈kvs,∃k,p.1=MK.one k
def U8 {k:z8} {u:Value} (h:RelV (kV k) u):BO k u=true:=by
 cases k with
 |inl i=>obtain⟨t,rfl⟩:=h;exact LH i t
 |inr x=>obtain⟨t,rfl⟩:=h;exact LI x t
theorem NK {P:Program} {w:World} {H:Hp}:∀{kvs:List (MK×V)} {xs:Tr},KT H kvs xs->DO kvs->∃vs:List (z8×Value),Pairs (y0 P w) (xs.map (yB P w)) vs/\Paired (fun (p:MK×V) (q:z8×Value)=>p.1=.one q.1/\RelV p.2 q.2) kvs vs/\xs.map (·.1)=vs.map (fun q=>MK.one q.1)/\∀e∈xs.map (yB P w),∃k,(y0 P w).is k e.key=true/\e.hash=(y0 P w).hash k
 |_,_,.nil,_=>⟨[],.nil,.nil,rfl,fun e he=>by cases he⟩
 |_,_,.cons (a:=p) (b:=q) ⟨e1,e2,e3⟩ r,pk=>by
  obtain⟨k,hk⟩:=pk p Ak;obtain⟨vs,h1,h2,h3,h4⟩:=NK (P:=P) (w:=w) r fun x hx=>pk x (An _ hx)
  rw[hk]at e2;have ki:=U8 e2;have q1:q.1=.one k:=by rw[<-e1,hk]
  refine⟨(k,q.2.2)::vs,.cons ki rfl h1,.cons ⟨hk,e3⟩ h2,?_,fun e he=>?_⟩
  .rw[Ag,Ag,h3,q1]
  .rcases Af.mp he with rfl|m
   .refine⟨k,ki,?_⟩
    show q.1.hash P w=_;rw[q1];rfl
   .exact h4 e m
def JA {P:Program} {w:World} {H:Hp} {h:Heap} {a:Addr} {kvs:List (MK×V)} (ok:HOk P w H h) (e:H a=some (.dT kvs)) (pk:DO kvs):
  (a==sysModules)=false/\∃vs:List (z8×Value),h.DictAt (y0 P w) a vs kvs.length/\Paired (fun (p:MK×V) (q:z8×Value)=>p.1=.one q.1/\RelV p.2 q.2) kvs vs:=by
 obtain⟨z,y,xs,r,hm⟩:=DD ok e;obtain⟨o,es,ep,g1,g2,g3,g4,⟨g5,g6⟩,g7⟩:=hm;obtain⟨vs,h1,h2,h3,h4⟩:=NK (P:=P) (w:=w) r pk;have hl:ep=kvs.length:=by rw[g6,Paired.length r]
 subst hl
 refine⟨y,vs,⟨o,es,g1,g2,g3,fun e he=>h4 e (by rw[<-g4];exact Array.mem_toList_iff.mpr he),by rw[g4];exact h1,?_⟩,h2⟩
 rw[h3]at g5;exact List.Pairwise.of_map (S:=(· ≠ ·)) (fun k=>MK.one k) (fun a b h e=>h (by rw[e])) (by rw[Av];exact g5)
def Iti (a:Addr) (n:Nat):It:=
 ⟨fun i H=> ∃kvs,H a=some (.dT kvs)/\DO kvs/\kvs.length=n/\i<n,
  fun i H x H'=> ∃(T:Addr) (k:z8) (v:V),x=.ref T/\H T=none/\H'=zr H T (.tup [kV k,v])/\∀kvs,H a=some (.dT kvs)->kvs[i]? =some (.one k,v),
  fun i H=> ∃kvs,H a=some (.dT kvs)/\DO kvs/\kvs.length=n/\n<=i⟩
def U9:entryFor table "dict_itemiterator.__iter__" =some Builtin.«dict_keyiterator.__iter__» :=entryFor_alias (id':="dict_keyiterator.__iter__") (by kernel_rfl) rfl (by decide+kernel) (by kernel_rfl)
def UA {P:Program} {w:World} {K:FG} {elts:List Expr} {x1} {tp:Pos} (a it:Addr) (n:Nat):Turn P w K (.Tuple elts x1 tp) (Iti a n) [it] it (fun i h=> ∃ok ov,IsItemIter h it a i n n ok ov) where
 mem:=by simp
 obj:=fun i h st b hb=>by
  have e:b=it:=by simpa using hb
  subst e;obtain⟨_,_,e⟩:=st;exact⟨_,e,fun v z=>by cases z⟩
 keep:=fun i h h' zz199 k => by obtain ⟨ok,ov,st⟩ := zz199; exact ⟨ok,ov,k it (by simp) _ st⟩
 item:=by
  intro X hP hw hK hc i pins s σ H E I hf st hg;subst hP hw hK;obtain⟨ok,ov,hz⟩:=st;obtain⟨kvs,hq,pk,hn,hi⟩:=hg;subst hn;obtain⟨y,vs,hd,pr⟩:=JA I.hok hq pk;have hl:=Paired.length pr;have hi':i<vs.length:=by lia
  have hki:kvs[i].1=.one vs[i].1/\RelV kvs[i].2 vs[i].2:=by
   have gen:∀{l:List (MK×V)} {m:List (z8×Value)},Paired (fun (p:MK×V) (q:z8×Value)=>p.1=.one q.1/\RelV p.2 q.2) l m->∀(i:Nat) (h1:i<l.length) (h2:i<m.length),l[i].1=.one m[i].1/\RelV l[i].2 m[i].2:=fun {l m} q=>by
    induction q with
    |nil=>intro i h1;exact absurd h1 (Nat.not_lt_zero _)
    |cons hq _ ih=>
     intro i h1 h2;cases i with
     |zero=>exact hq
     |succ j=>exact ih j (by simpa using h1) (by simpa using h2)
   exact gen pr i hi hi'
  have hzl:IsItemIter s.heap it a i vs.length kvs.length ok ov:=by rw[<-hl];exact hz
  refine wpAny_pyNext_items_item (k:=vs[i].1) (v:=vs[i].2) hzl hd (zK hi') fun key h' a1 a2 a3 a4 hk=>?_
  refine⟨_,rfl,wpAny_letOwnedTupleGo_items a2 fun h'' b1 b2=>?_⟩
  have nz:s.heap.objs.size≠it:=Cw (Aj hz);have k2:∀c o,c∉[it]->s.heap.get? c=some o->h''.get? c=some o:=fun c o hcn e=>by
   have hcn:c≠it:=by simpa using hcn
   exact b2.extBut _ _ hcn (hk c o hcn e)
  have rk:RelV (kV vs[i].1) key:=by
   rcases AB (show BO vs[i].1 key=true from a1) with ⟨j,t,e1,rfl⟩|⟨x,t,e1,rfl⟩
   .rw[e1];exact⟨t,rfl⟩
   .rw[e1];exact⟨t,rfl⟩
  have I':Inv X pins σ (zr H s.heap.objs.size (.tup [kV vs[i].1,kvs[i].2])) {s with heap:=h'',toks:=s.toks}:=
   I.turnLay (ch:=[it]) k2 (fun c hcn=>hf c hcn) (Ah _)
    ⟨by show 2<=sizeLine;decide,[key,vs[i].2],.cons rk (.cons hki.2 .nil),⟨_,b2.extBut _ _ nz a3,rfl,_,rfl⟩⟩
  have nf:H s.heap.objs.size=none:=I.hok.fresh (Ah _)
  refine⟨.ref s.heap.objs.size,_,I',rfl,⟨_,vs[i].1,kvs[i].2,rfl,nf,rfl,fun ws hw=>?_⟩,⟨_,_,by have b:=b1;rw[<-hl]at b;exact b⟩,fun c hcn=>?_⟩
  .rw[hq]at hw;cases hw
   rw[zK hi,<-hki.1]
  .have hc1:=hf c hcn
   have e:c=it:=by simpa using hcn
   subst e;rw[zX nz.symm];exact hc1.1
 done:=by
  intro X hP hw hK hc i pins s σ H E I hf st hg;subst hP hw hK;obtain⟨ok,ov,hz⟩:=st;obtain⟨kvs,hq,pk,hn,hi⟩:=hg;subst hn;obtain⟨y,vs,hd,pr⟩:=JA I.hok hq pk;have hl:=Paired.length pr;have hzl:IsItemIter s.heap it a i vs.length kvs.length ok ov:=by rw[<-hl];exact hz
  obtain⟨f0,f1,f2,f3,f4,f5⟩:=hf it (by simp)
  exact wpAny_pyNext_items_end (I.ok.hd hc) hzl hd (Eh (by lia)) fun h' eb=>⟨rfl,I.turned (t':=s.toks) (fun b o hb e=>eb b o hb e) f0 f1 f3 f4 f5⟩
 self:=fun A i s Q E ⟨ok,ov,hz⟩ h=>by
  have ty:s.TypeIs (.ref it) "dict_itemiterator" :=⟨_,hz,rfl⟩
  refine Fu ty PySem.F.slot_dict_itemiterator_iter (B5 PySem.F.slot_dict_itemiterator_iter ty U9 ?_ (PySem.F.args_dict_itemiterator_iter_1 _))
  show wpAny _ _ (ret (.ref it)) _ _ s;exact Ad ⟨_,rfl,"dict_itemiterator",_,ty,PySem.F.slot_dict_itemiterator_next.lookup,h⟩
def UB (tl:TE):TI:=fun σ H R=>tl σ H fun x H1=> ∃a kvs,x=.ref a/\H1 a=some (.dT kvs)/\DO kvs/\R (Iti a kvs.length) H1
def UC {X:Cx} {elts:List Expr} {x1} {tp apos pos:Pos} {l:Expr} {tl:TE} (hl:PE X l tl) (hbase:attributeBase l "items" X.env (eval l X.env)=eval l X.env:=by rfl) (hline:(apos.endLine==pos.line)=true:=by rfl):
  PI X (.Tuple elts x1 tp) (.Call (.Attribute l "items" apos) [] [] pos) (UB tl):=by
 intro pins s σ H R I h
 refine wpAny_Call_method (T:="dict") (id:="dict.items") hbase rfl hline PySem.F.plainAttrs_dict PySem.F.slot_dict_items PySem.F.type_dict_items (thn (hl pins s σ H _ I h) fun v s1 ⟨x,H1,I1,r1,q1⟩=>?_)
 obtain⟨a,kvs,e,hq,pk,q⟩:=q1;subst e;cases r1;obtain⟨y,vs,hd,pr⟩:=JA I1.hok hq pk;have hlen:=Paired.length pr;have hdo:s1.heap.DictOf (y0 X.prog X.w) a vs:=let ⟨o,es,r⟩:=hd;⟨o,es,_,r⟩
 refine⟨hdo.typeIs,hdo.mapOf.noDict,?_⟩
 show wpAny _ _ (callWith pos (.builtin "dict.items") [.ref a] [] []) _ _ s1
 refine method_meetsIn PySem.F.slot_dict_items PySem.F.entry_dict_items rfl (PySem.evalArgs_none ⟨rfl,hdo.typeIs,PySem.F.args_dict_items_1 _,_,meets_dict_items (y0 X.prog X.w) a y,⟨vs,hdo⟩,?_⟩)
 refine wpAny_pyIter_items (d:=a) (kvs:=vs) (ep:=kvs.length) ⟨_,Bf _ rfl,rfl,rfl⟩ (hd.push _) ?_
 have k1:∀b o,s1.heap.get? b=some o->((s1.heap.push {cls:= .type "dict_items",data:= .fields #[.ref a]}).push {cls:= .type "dict_itemiterator",data:= .fields #[.none,.bool false,.ref a,.int 0 0,.int vs.length 0,.int kvs.length 0,.none,.none]}).get? b=some o:=fun b o e=>Ay _ (Ay _ e)
 have hge:s1.heap.objs.size<=(s1.heap.push {cls:= .type "dict_items",data:= .fields #[.ref a]}).objs.size:=by rw[Cf];exact D9 _
 refine⟨_,[_],_,_,H1,rfl,I1.kept (t':=s1.toks) k1,UA a _ kvs.length,⟨.none,.none,?_⟩,fun b hb=>?_,q⟩
 .have e:=Bf (s1.heap.push {cls:= .type "dict_items",data:= .fields #[.ref a]}) (o:={cls:= .type "dict_itemiterator",data:= .fields #[.none,.bool false,.ref a,.int 0 0,.int vs.length 0,.int kvs.length 0,.none,.none]}) rfl
  rw[<-hlen]at e ⊢;exact e
 .have e:=Ap.mp hb
  subst e;exact I1.fpOk hge (I1.hok.fresh hge)
end L2
namespace Se
open PySem PySem.Spec PyProof.Rows
abbrev Ris (l:List Nat):Prop:=l.Pairwise (· < ·)
def Ris.lt {l:List Nat} (h:Ris l) {i j x y:Nat} (hi:l[i]? =some x) (hj:l[j]? =some y) (hl:i<j):x<y:=by
 obtain⟨a,rfl⟩:=Ao.mp hi;obtain⟨b,rfl⟩:=Ao.mp hj;exact Gw.mp h i j a b hl
structure Bel (xs:Array Nat) (j p:Nat):Prop where
 le:p<=xs.size
 lo:∀i x,i<p->xs[i]? =some x->x<j
 hi:∀i x,p<=i->xs[i]? =some x->j<=x
def UD {xs:Array Nat} {j:Nat} (h:Ris xs.toList):∀(fuel lo hi:Nat),hi-lo<=fuel->lo<=hi->hi<=xs.size->(∀i x,i<lo->xs[i]? =some x->x<j)->(∀i x,hi<=i->xs[i]? =some x->j<=x)->Bel xs j (SetTable.below.go xs j fuel lo hi):=by
 intro fuel
 induction fuel with
 |zero=>intro lo hi a b c d e;unfold SetTable.below.go;exact⟨by lia,d,fun i x hi'=>e i x (by lia)⟩
 |succ n ih=>
  intro lo hi a b c d e;unfold SetTable.below.go
  by_cases hl:lo<hi
  .rw[Ac hl]
   dsimp only;have hm:(lo+hi) / 2<xs.size:=by lia
   have hg:xs[(lo+hi) / 2]? =some xs[(lo+hi) / 2]:=Bo hm;have hd:xs.getD ((lo+hi) / 2) j=xs[(lo+hi) / 2]:=by simp[Array.getD,hm]
   have hgl:xs.toList[(lo+hi) / 2]? =some xs[(lo+hi) / 2]:=by rw[Bm];exact hg
   rw[hd]
   by_cases hx:xs[(lo+hi) / 2]<j
   .rw[Ac hx]
    refine ih _ _ (by lia) (by lia) c (fun i x hi' ex=>?_) e
    by_cases he:i=(lo+hi) / 2
    .subst he;rw[hg]at ex;cases ex;exact hx
    .have:=h.lt (i:=i) (j:=(lo+hi) / 2) (by rw[Bm];exact ex) hgl (by lia);lia
   .rw[Ab hx]
    refine ih _ _ (by lia) (by lia) (by lia) d fun i x hi' ex=>?_
    by_cases he:i=(lo+hi) / 2
    .subst he;rw[hg]at ex;cases ex;lia
    .have:=h.lt (j:=i) (i:=(lo+hi) / 2) hgl (by rw[Bm];exact ex) (by lia);lia
  .rw[Ab hl];exact⟨by lia,d,fun i x hi'=>e i x (by lia)⟩
def JB {xs:Array Nat} {j:Nat} (h:Ris xs.toList):Bel xs j (SetTable.below xs j):=
 UD h _ _ _ (by lia) (by lia) (Ah _) (fun i x hi=>by lia) fun i x hi e=>by have:=(Array.getElem?_eq_some_iff.mp e).1;lia
def UE {xs:Array Nat} {j:Nat} (h:Ris xs.toList) (n:xs[SetTable.below xs j]? ≠some j):j∉xs.toList:=fun m=>by
 obtain⟨i,hi⟩:=B9 m;rw[Bm]at hi;have b:=JB (j:=j) h;have h1:SetTable.below xs j<=i:=Nat.le_of_not_lt fun l=>Cb _ (b.lo i j l hi)
 by_cases e:SetTable.below xs j=i
 .rw[e]at n;exact n hi
 .have hp:SetTable.below xs j<xs.size:=by have:=(Array.getElem?_eq_some_iff.mp hi).1;lia
  have g:xs[SetTable.below xs j]? =some xs[SetTable.below xs j]:=Bo hp;have:=b.hi _ _ (Ah _) g;have:=h.lt (i:=SetTable.below xs j) (j:=i) (by rw[Bm];exact g) (by rw[Bm];exact hi) (by lia)
  lia
def UF {xs:Array Nat} {j:Nat} (h:Ris xs.toList) (n:j∉xs.toList):Ris (SetTable.insertAt xs (SetTable.below xs j) j).toList:=by
 have b:=JB (j:=j) h;generalize SetTable.below xs j=p at b;have e:(SetTable.insertAt xs p j).toList=xs.toList.take p++j::xs.toList.drop p:=by
  unfold SetTable.insertAt;rw[Array.toList_append,Array.toList_push,Array.toList_extract,Array.toList_extract];simp[List.extract_eq_drop_take,Co];rw[Fy (by rw[Ex];simp)]
 rw[e];have hl:∀x∈xs.toList.take p,x<j:=fun x hx=>by
  obtain⟨i,hi⟩:=B9 hx;have hip:i<p:=by
   have:=(Ao.mp hi).1;rw[Bc]at this;lia
  rw[Cn hip,Bm]at hi;exact b.lo i x hip hi
 have hh:∀x∈xs.toList.drop p,j<x:=fun x hx=>by
  obtain⟨i,hi⟩:=B9 hx;rw[List.getElem?_drop]at hi
  have m:x∈xs.toList:=Al hi;rw[Bm]at hi;have:=b.hi (p+i) x (by lia) hi
  have hne:x≠j:=fun z=>n (z ▸ m)
  lia
 refine List.pairwise_append.mpr ⟨h.sublist (List.take_sublist _ _),Cu.mpr ⟨hh,h.sublist (List.drop_sublist _ _)⟩,fun x hx y hy=>?_⟩
 rcases Af.mp hy with z|z
 .subst z;exact hl x hx
 .have:=hl x hx;have:=hh y z;lia
structure Tab (led:Bool) (t:SetTable):Prop where
 ris:Ris t.place.toList
 led:t.led=led
def UG (n:Nat):Ris (Array.range n).toList:=by rw[Array.toList_range];exact Gx
theorem Tab.standIn {led:Bool} {t:SetTable} (h:Tab led t) (n:Nat):Tab led (t.standIn n):=⟨UG n,h.led⟩
def NL {t:SetTable} (h:Ris t.place.toList) {j:Nat} (e:∀i,t.slot j≠ .live i):j∉t.place.toList:=by
 refine UE h fun z=>e (SetTable.below t.place j) ?_
 unfold SetTable.slot;rw[Ac (by rw[z];simp)]
def UH {t:SetTable} {ha:Nat->Int} {h:Int} (hr:Ris t.place.toList):∀(fuel:Nat) (p:SetTable.Probe) (j:Nat) (d:Option Nat),(∀x,p.dummy=some x->x∉t.place.toList)->SetTable.probe.go t ha h fuel p=some (.empty j d)->d.getD j∉t.place.toList:=by
 intro fuel
 induction fuel with
 |zero=>intro p j d _ e;unfold SetTable.probe.go at e;cases e
 |succ n ih=>
  intro p j d hd e;unfold SetTable.probe.go at e;have adv:∀q:SetTable.Probe,(t.advance q).dummy=q.dummy:=fun q=>by unfold SetTable.advance;split<;>rfl
  cases hs:t.slot p.j with
  |empty=>
   rw[hs]at e;simp only[B8,SetTable.Met.empty.injEq]at e;obtain⟨rfl,rfl⟩:=e;cases hdd:p.dummy with
   |none=>exact NL (j:=p.j) hr (by rw[hs];intro i z;cases z)
   |some x=>exact hd x hdd
  |dummy=>
   rw[hs]at e
   refine ih _ j d (fun x hx=>?_) e
   rw[adv]at hx;cases hx;exact NL hr (by rw[hs];intro i z;cases z)
  |live i=>
   rw[hs]at e;dsimp only at e
   split at e
   .cases e
   .exact ih _ j d (fun x hx=>hd x (by rw[adv]at hx;exact hx)) e
def UI {t:SetTable} {h:Int} (hr:Ris t.place.toList) {s:Nat} {b:Bool} (e:t.freeSlot h=some (s,b)):s∉t.place.toList:=by
 unfold SetTable.freeSlot at e
 split at e
 .rename_i j d he
  cases e;exact UH hr _ _ _ _ (fun x hx=>by cases hx) he
 .cases e
def Tab.lay {led:Bool} {t:SetTable} (h:Tab led t) (es:Array (Int×Value)) (k:Int) (x:Value):Tab led (layNew t es k x).2.1:=by
 unfold layNew
 split
 .rename_i s b e
  have hp:Tab led (t.put s).1:=⟨UF h.ris (UI h.ris e),h.led⟩;dsimp only;unfold SetTable.orStandIn
  split
  .exact hp
  .exact hp.standIn _
 .exact h.standIn _
def Tab.relay {led:Bool} {t:SetTable} (h:Tab led t) (es:Array (Int×Value)) (n:Nat):Tab led (relayAll t es n).2.1:=by
 unfold relayAll
 split
 .rename_i t' o e
  dsimp only
  split
  .unfold SetTable.relaid SetTable.laid at e
   simp only[Option.bind_eq_bind,Option.bind_eq_some_iff,Option.pure_def,B8,Dy]at e;obtain⟨ow,_,rfl,rfl⟩:=e
   refine⟨?_,h.led⟩
   show Ris (List.map _ _).toArray.toList;rw[List.toList_toArray,List.map_filterMap]
   refine List.Pairwise.filterMap _ (fun a b hab c hc d hd=>?_) (Gx (n:=_))
   simp only[Cs]at hc hd;obtain⟨⟨_,_⟩,⟨_,_,e1⟩,rfl⟩:=hc;obtain⟨⟨_,_⟩,⟨_,_,e2⟩,rfl⟩:=hd;cases e1;cases e2;exact hab
  .exact h.standIn _
 .exact h.standIn _
def iv:Value->Int
 |.int i _=>i
 |_=>0
noncomputable abbrev byT (w:World):Bool:=w.params.followText "set-order"
def EI (e:Int×Value):Prop:=∃k tk,e.2=Value.int k tk/\e.1=hashInt k
structure SD (w:World) (ks:List Int) (o:Obj) (es:Array (Int×Value)) (ep:Nat) (t:SetTable):Prop where
 ex:o.ExactSet
 dt:o.data=.set es ep t
 el:∀e∈es.toList,EI e
 pm:(es.toList.map fun e=>iv e.2).Perm ks
 nd:ks.Nodup
 sz:es.size<scanBound
 ft:t.fits es.size=true
 tb:Tab (!byT w) t
def SG (w:World) (h:Heap) (a:Addr) (ks:List Int):Prop:=∃o es ep t,h.get? a=some o/\SD w ks o es ep t
section
variable {prog:Program} {w:World} {A:Around} {E:VP} {s:Shared} {a:Addr} {ks:List Int} {k:Int} {tk:Tok}
def UJ {l:List (Int×Value)} (h:∀e∈l,EI e):ElemsOf (intKind prog w) l:=fun e he=>by
 obtain⟨i,u,e1,e2⟩:=h e he
 refine⟨⟨i,?_,e2⟩,?_⟩
 .show Value.isInt i e.2=true;rw[e1];simp[Value.isInt]
 .rw[e1];rfl
def SD.len {o:Obj} {es:Array (Int×Value)} {ep:Nat} {t:SetTable} (d:SD w ks o es ep t):es.size=ks.length:=by
 rw[<-d.pm.length_eq,Ae,B2]
def kis {i:Int} {e:Int×Value} (h:EI e):(intKind prog w).is i e.2=decide (iv e.2=i):=by
 obtain⟨k,u,e1,_⟩:=h;show Value.isInt i e.2=_;rw[e1];simp only[Value.isInt,iv]
 by_cases z:k=i
 .subst z;simp
 .simp[z,D5,bne_iff_ne,fun y:i=k=>z y.symm]
def NM {o:Obj} {es es':Array (Int×Value)} {ep:Nat} {t t':SetTable} {ks':List Int} (ho:s.heap.get? a=some o) (d:SD w ks o es ep t) (el:∀e∈es'.toList,EI e) (pm:(es'.toList.map fun e=>iv e.2).Perm ks') (nd:ks'.Nodup) (sz:es'.size<scanBound) (ft:t'.fits es'.size=true) (tb:Tab (!byT w) t')
  {Q:Unit->Shared->Prop} (h:∀h' o',Heap.SameBut a s.heap h'->h'.get? a=some o'->SD w ks' o' es' (ep+1) t'->Q () {s with heap:=h'}):wpAny (model prog w) A (storeSet a es' t') Q E s:=by
 refine wpAny_storeSet_of ho d.dt (h _ _ (Di s.heap a (Obj.putSet es' t')) (Du (Obj.putSet es' t') ho (by rw[putSet_of es' t' d.dt];rfl)) ?_) (fits_of_scanBound sz)
 rw[putSet_of es' t' d.dt];exact⟨d.ex,rfl,el,pm,nd,sz,ft,tb⟩
def tail {g:Bool->Sem Unit} (hg:∀(b:Bool) (s₁:Shared) (Q':Unit->Shared->Prop),Q' () s₁->wpAny (model prog w) A (g b) Q' E s₁) {o:Obj} {es es':Array (Int×Value)} {ep:Nat} {t t':SetTable} {ks':List Int} (ho:s.heap.get? a=some o) (d:SD w ks o es ep t)
  (el:∀e∈es'.toList,EI e) (pm:(es'.toList.map fun e=>iv e.2).Perm ks') (nd:ks'.Nodup) (sz:es'.size<scanBound) (ft:t'.fits es'.size=true) (tb:Tab (!byT w) t') {wd:Bool} {R:Option Bool->Shared->Prop}
  (h:∀h',Heap.SameBut a s.heap h'->SG w h' a ks'->R (some true) {s with heap:=h'}):
  wpAny (model prog w) A (storeSet a es' t' >>=fun _=>
   if (!wd && t'.tooFull)=true then
    g (relayAll t' es' (SetTable.grown es'.size)).2.2 >>=fun _=>
     storeSet a (relayAll t' es' (SetTable.grown es'.size)).1 (relayAll t' es' (SetTable.grown es'.size)).2.1 >>=fun _=>pure (some true)
   else pure (some true)) R E s:=by
 refine Aa (NM ho d el pm nd sz ft tb fun h1 o1 sb g1 d1=>?_)
 by_cases c:(!wd && t'.tooFull)=true
 .rw[Ac c]
  have p:=relayAll_perm t' es' (SetTable.grown es'.size);have zz:(relayAll t' es' (SetTable.grown es'.size)).1.size=es'.size:=by rw[<-B2,p.length_eq,B2]
  refine Aa (hg _ _ _ (Aa (NM g1 d1 (fun e he=>el e (p.mem_iff.mp he)) ((p.map _).trans pm) nd (by rw[zz];exact sz) (relayAll_fits _ _ _) (tb.relay _ _) fun h2 o2 sb2 g2 d2=>Ad (h h2 (sb.trans sb2) ⟨o2,_,_,_,g2,d2⟩))))
 .rw[Ab c];exact Ad (h h1 sb ⟨o1,_,_,_,g1,d1⟩)
def NN {l:List Int} {i:Int}:l.any (· ==i)=decide (i∈l):=by
 rw[Ey];simp[Dg]
def UK {Q:Bool->Shared->Prop} (hS:SG w s.heap a ks) (hroom:ks.length+1<scanBound)
  (h:∀b h',Heap.SameBut a s.heap h'->SG w h' a (step_dedup ks k)->Q b {s with heap:=h'}):wpAny (model prog w) A (setAddHashed a (.int k tk) (hashInt k)) Q E s:=by
 obtain⟨o,es,ep,t,ho,d⟩:=hS;have hel:=UJ (prog:=prog) (w:=w) d.el;have hk:(intKind prog w).is k (.int k tk)=true:=intKind_is _ _ _ _;unfold setAddHashed setAddHashedIn
 refine Bx (Aa (C7 ho d.dt d.ft ?_))
 dsimp only;rw[byScan_of (knd:=intKind prog w) (by rfl) d.sz hel]
 simp only[↓reduceIte];unfold setAddByScan
 refine Aa (Aa (D0 (Aa (wpAny_setScan_of (knd:=intKind prog w) hk ho d.dt d.ft hel ?_))))
 cases hr:List.findIdx? (fun e=>(intKind prog w).is k e.2) es.toList with
 |some j=>
  dsimp only;obtain⟨hj,hpj,_⟩:=List.findIdx?_eq_some_iff_getElem.mp hr
  have hm:k∈ks:=by
   rw[kis (d.el _ (C4 hj)),Bz]at hpj;exact d.pm.mem_iff.mp (Ai.mpr ⟨_,C4 hj,hpj⟩)
  have:=h false s.heap (Heap.SameBut.refl a s.heap) (by unfold step_dedup;rw[Ac (by rw[NN];simpa using hm)];exact⟨o,es,ep,t,ho,d⟩)
  exact Ad (Ad this)
 |none=>
  dsimp only;have hn:k∉ks:=fun m=>by
   obtain⟨e,he,z⟩:=Ai.mp (d.pm.mem_iff.mpr m);have:=List.findIdx?_eq_none_iff.mp hr e he
   rw[kis (d.el e he),z]at this;simp at this
  have es1:step_dedup ks k=ks++[k]:=by unfold step_dedup;rw[Ab (by rw[NN];simpa using hn)]
  rw[es1]at h;have p:=layNew_perm t es (hashInt k) (.int k tk);have f:=layNew_fits t es (hashInt k) (.int k tk);have tb:=d.tb.lay es (hashInt k) (.int k tk);generalize hL:layNew t es (hashInt k) (.int k tk)=L at p f tb;obtain⟨e1,t1,wd,gv⟩:=L;dsimp only at p f tb ⊢;rw[Array.toList_push]at p;have el:∀e∈e1.toList,EI e:=fun e he=>by
   rcases Ax.mp (p.mem_iff.mp he) with m|m
   .exact d.el e m
   .rw[Ap]at m;subst m;exact⟨k,tk,rfl,rfl⟩
  have pm:(e1.toList.map fun e=>iv e.2).Perm (ks++[k]):=by
   refine (p.map _).trans ?_
   rw[Au];exact d.pm.append_right _
  have nd:(ks++[k]).Nodup:=C5.mpr ⟨d.nd,by simp,fun x hx y hy z=>by rw[Ap]at hy;subst hy;subst z;exact hn hx⟩
  have sz:e1.size<scanBound:=by
   rw[<-B2,p.length_eq,As,B2,d.len];exact hroom
  have hgw:∀(b:Bool) (s₁:Shared) (Q':Unit->Shared->Prop),Q' () s₁->wpAny (model prog w) A (match b with|true=>rule "set.scan.the-table-gave-way" |false=>pure ()) Q' E s₁:=
   fun b s₁ Q' hq=>by cases b<;>first|exact Ad hq|exact D0 hq
  refine Aa (hgw _ _ _ ?_)
  split
  .refine Aa ?_
   rw[hashByValue_scannable 8 (by rfl)]
   refine Ad ?_
   exact tail (fun b s₁ Q' hq=>by cases b<;>first|exact Ad hq|exact D0 hq) ho d el pm nd sz (by simpa[plainKind] using f) (by simpa[plainKind] using tb) fun h' sb g=>Ad (h true h' sb g)
  .refine Aa (Ad ?_)
   simp only[↓reduceIte];exact tail (fun b s₁ Q' hq=>by cases b<;>first|exact Ad hq|exact D0 hq) ho d el pm nd sz f tb fun h' sb g=>Ad (h true h' sb g)
end
def SG.keep {w:World} {h h':Heap} {a:Addr} {ks:List Int} (g:SG w h a ks) (k:∀o,h.get? a=some o->h'.get? a=some o):SG w h' a ks:=let ⟨o,es,ep,t,ho,d⟩:=g;⟨o,es,ep,t,k o ho,d⟩
theorem SG.fresh {w:World} {h:Heap} {a:Addr} (e:h.get? a=some {cls:= .type "set",dict:=none,data:= .set #[] 0 (.fresh 0 0 (!byT w))}):SG w h a []:=
 ⟨_,#[],0,_,e,⟨rfl,rfl,rfl⟩,rfl,fun e he=>by simp at he,.nil,D1,by decide,by rfl,List.Pairwise.nil,rfl⟩
section
variable {prog:Program} {w:World} {A:Around} {R:Result->Shared->Prop} {I:Addr} {fp wr:List Addr} {G:Array GenState->Array GenState->Prop} {n:Nat} {P:Nat->Value->Prop} {St:Nat->Shared->Prop}
theorem UL (W:WalksS prog w A.in1 I fp wr G n P St) (S:Addr) (nf:S∉fp) (val:Nat->Int) (hv:∀i v,P i v->∃t,v=.int (val i) t) (hb:n+1<scanBound) (q:Nat):
  ∀(i:Nat) (s:Shared),n-i=q->i<=n->St i s->SG w s.heap S (firstMet val i)->
   (∀s',Moved (S::wr) G s s'->SG w s'.heap S (firstMet val n)->R (.ok (.ret .none)) s')->
   codeAny (model prog w) A (.builtin "set.update.loop" ⟨[.ref S,.ref I],[]⟩) R s:=by
 have nw:S∉wr:=fun h=>nf (W.sub _ h)
 have up:∀b∈wr,b∈S::wr:=fun b hb=>An _ hb
 induction q with
 |zero=>
  intro i s e hi st g k;have:i=n:=by lia
  subst this
  refine Ei G5 ?_
  rw[E5 Gy _];show wpAny _ A.in1 (pyNext (.ref I) >>=_) _ _ s
  refine Aa (W.done s _ _ st fun s' m=>?_)
  show wpAny _ A.in1 (ret Value.none) _ _ s';exact Ad (k s' (m.mono up) (g.keep fun o ho=>m.heap S _ nw ho))
 |succ q ih=>
  intro i s e hi st g k
  refine Ei G5 ?_
  rw[E5 Gy _];show wpAny _ A.in1 (pyNext (.ref I) >>=_) _ _ s
  refine Aa (W.item i s _ _ (by lia) st fun v s' hp st' m=>?_)
  obtain⟨t,rfl⟩:=hv i v hp;have g':SG w s'.heap S (firstMet val i):=g.keep fun o ho=>m.heap S _ nw ho
  show wpAny _ A.in1 (holding [Value.int (val i) t] (setAdd S (.int (val i) t)) >>=_) _ _ s'
  refine Aa (Bx ?_)
  unfold setAdd
  refine Bx (Aa ((intKind prog w).pyHash (k:=val i) (intKind_is _ _ _ _) ?_))
  refine UK (s:={s' with toks:=s'.toks+1}) g' (by have:=firstMet_length_le val i;lia) fun b h' sb g2=>?_
  rw[<-firstMet_succ]at g2
  refine Ad ⟨E6 Gy _,ih (i+1) _ (by lia) (by lia) (W.frame _ s' _ _ st' (D9 _) fun b hb o e=>?_) g2 fun s'' m2 g3=>?_⟩
  .rw[sb.2 b fun z=>nf (by rw[<-z];exact hb)];exact e
  .refine k s'' (Moved.trans W.gtrans ((m.mono up).then_heap (D9 _) fun b o hb e=>?_) m2) g3
   rw[sb.2 b fun z=>hb (by rw[z];exact Ak)];exact e
end
section
variable {prog:Program} {w:World} {A:Around} {E:VP} {s:Shared}
abbrev emp (w:World):Obj:={cls:= .type "set",dict:=none,data:= .set #[] 0 (.fresh 0 0 (!byT w))}
def made (a:Value) {Q₁:VP} (h:Q₁ (.ref s.heap.objs.size) {s with heap:=s.heap.push (emp w)}):
  codeAny (model prog w) A (.call (.builtin "set.__new__") ⟨[.type "set",a],[]⟩) (wants Q₁ E) s:=by
 refine codeAny_of_tree ?_
 show wpAny _ A.in1 (checkBuiltinCall "set.__new__" ⟨[.type "set",a],[]⟩ >>=fun _=>again (.builtin "set.__new__" ⟨[.type "set",a],[]⟩)) _ _ s
 refine Aa (wpAny_of_eq (PySem.F.newCall_set_1 a) (Ad ⟨E6 PySem.F.plain_set_new _,Ei PySem.F.entry_set_new ?_⟩))
 rw[E5 PySem.F.plain_set_new _];unfold Builtin.«set.__new__» Builtin.Frozenset.newClass;have hsub:=sub_set_self;obtain⟨hp,g,d,tk,os⟩:=s;dsimp only
 wp_walk
 refine Fz (Ad ?_)
 dsimp only;simp only[newObj];exact Aa (wpAny_alloc (Ad (Ad h)))
set_option maxHeartbeats 3200000 in
def UM {l:Addr} {items:Array Value} {ns:List Int} {Q:VP} (hh:A.handled=none) (hl:s.heap.IsList l items) (hi:IntsAre items.toList ns) (hb:items.size+1<scanBound)
  (h:∀(h':Heap) (tk:Nat),SG w h' s.heap.objs.size (firstMet (fun i=>ns.getD i 0) items.size)->(∀b o,b<s.heap.objs.size->s.heap.get? b=some o->h'.get? b=some o)->s.toks<=tk->Q (.ref s.heap.objs.size) {s with heap:=h',toks:=tk}):
  wpAny (model prog w) A (call (.type "set") [.ref l]) Q E s:=by
 obtain⟨c,tl,m1⟩:=Dm.mro;have m2:=Dm.made;have m3:=Dm.sub
 refine wpAny_call (codeAny_of_tree ?_)
 show wpAny _ _ (callAny (.type "set") _) _ _ _
 refine Ad ⟨Code.quiet_builtin _ (by decide+kernel),Ei PySem.F.entry_type_call ?_⟩
 rw[Around.under_plain (weight_type_call_type "set" [.ref l] []) rfl];have m4:=Dm.notType;have m5:=Dm.canCreate;have m6:=PySem.F.typeCall_set_1 (.ref l)
 repeat (any_goals (first|assumption|wp_step))
 refine D7 (made (.ref l) (E:=E) (Q₁:=fun obj s₁=>obj=.ref s.heap.objs.size/\s₁={s with heap:=s.heap.push (emp w)}) ⟨rfl,rfl⟩) fun r s₁ hr=>?_
 cases r with
 |error e=>exact hr
 |ok fl=>
  cases fl with
  |ret obj=>
   obtain⟨rfl,rfl⟩:=hr;have g0:(s.heap.push (emp w)).get? s.heap.objs.size=some (emp w):=Bf _ rfl;have t0:Shared.TypeIs {s with heap:=s.heap.push (emp w)} (.ref s.heap.objs.size) "set" :=⟨_,g0,rfl⟩
   have m7:=Dm.init.lookup;have m8:=Dm.init.bind (.ref s.heap.objs.size)
   repeat (any_goals (first|assumption|wp_step))
   refine D7 (codeAny_call_builtin (R:=wants (fun r s₂=>r=.none/\∃h' tk,s₂={s with heap:=h',toks:=tk}/\SG w h' s.heap.objs.size (firstMet (fun i=>ns.getD i 0) items.size)/\(∀b o,b<s.heap.objs.size->s.heap.get? b=some o->h'.get? b=some o)/\s.toks<=tk) E) Dm.init.plain PySem.F.entry_set_init (check_set_init_1 t0 ?_)) fun r₂ s₂ hr₂=>?_
   .have l1:(s.heap.push (emp w)).IsList l items:=hl.push _
    have hlS:l<s.heap.objs.size:=by obtain⟨ol,hol,_⟩:=hl;exact Aj hol
    obtain⟨ol,hol,hcl,nl,hdl⟩:=l1;have l1:(s.heap.push (emp w)).IsList l items:=⟨ol,hol,hcl,nl,hdl⟩;obtain⟨ocls,odict,odata,oslots⟩:=ol;simp only at hcl hdl;subst hcl;subst hdl;have m9:=PySem.F.sub_list_set;have m10:=PySem.F.sub_list_frozenset;have m11:(Value.type "list" ==Value.type "dict")=false:=by decide
    unfold Builtin.«set.__init__» noKeywords Builtin.Frozenset.updateFrom;generalize hPI:pyIter=PI
    wp_walk
    subst hPI
    refine Et l1 (Aa (wpAny_runValue ?_))
    have h3:A.in1.in1.in1.handled=none:=by simp[hh]
    have n1:l≠(s.heap.push (emp w)).objs.size:=by rw[Cf];exact Aw (Ez hlS)
    have n2:s.heap.objs.size∉[(s.heap.push (emp w)).objs.size,l]:=by
     rw[Cf];simp only[Af,Bs,Bn,not_or];exact⟨Aw (De _),Cw hlS⟩
    refine UL ((Walks.list h3 _ l n1 items).toS) s.heap.objs.size n2 (fun i=>ns.getD i 0) (fun i v hv=>IntsAre.int_at hi i v (by rw[Bm];exact hv)) hb (items.size-0) 0 _ rfl (B3 _) ⟨⟨_,Bf _ rfl,rfl,rfl⟩,l1.push _⟩ (SG.fresh (Ay _ g0)) ?_
    intro s' hm g;obtain⟨h',g',d',tk',os'⟩:=s';have eg:g'=s.gens:=hm.gens;have ed:d'=s.drawn:=hm.drawn;have eo:os'=s.os:=hm.os;subst eg;subst ed;subst eo;show wpAny _ _ _ _ _ _
    refine Ad ?_
    show wpAny _ _ (ret Value.none) _ _ _
    refine Ad ⟨rfl,h',tk',rfl,g,fun b o hb e=>?_,hm.toks⟩
    refine hm.heap b o ?_ (Ay _ (Ay _ e))
    rw[Cf];simp only[Af,Bs,Bn,not_or];exact⟨Aw hb,Aw (Ez hb)⟩
   .cases r₂ with
    |error e=>exact hr₂
    |ok fl₂=>
     cases fl₂ with
     |ret r=>
      obtain⟨rfl,h',tk,rfl,a1,a2,a3⟩:=hr₂
      repeat (any_goals (first|assumption|wp_step))
      exact h _ _ a1 a2 a3
     |_=>exact hr₂.elim
  |_=>exact hr.elim
end
def UN {M:Model} {A:Around} {E:VP} {s:Shared} {src:Source} {n:Nat} {Q:Nat->Shared->Prop} (hn:n≠0) (h:∀i d,i<n->Q i {s with drawn:=d}):wpAny M A (choose src n) Q E s:=
 fun _ _ _=>⟨hn,h _ _ (Nat.mod_lt _ (Nat.pos_of_ne_zero hn))⟩
theorem JC {α:Type}:∀{l:List α} {i:Nat} (h:i<l.length),(l[i]::l.eraseIdx i).Perm l
 |x::r,0,_=>.rfl
 |x::r,i+1,h=>(List.Perm.swap x (r[i]'(by simpa using h)) (r.eraseIdx i)).trans ((JC (by simpa using h)).cons x)
theorem NO {α:Type} {M:Model} {A:Around} {E:VP}:∀(n:Nat) (xs:List α) {s:Shared} {Q:List α->Shared->Prop},xs.length<=n->(∀l d,l.Perm xs->Q l {s with drawn:=d})->wpAny M A (drawOrder n xs) Q E s
 |0,xs,s,Q,hl,h=>by
  have:xs=[]:=Ec (by lia)
  subst this;unfold drawOrder;exact Ad (h [] s.drawn .nil)
 |n+1,[],s,Q,hl,h=>by unfold drawOrder;exact Ad (h [] s.drawn .nil)
 |n+1,x::r,s,Q,hl,h=>by
  unfold drawOrder
  refine Aa (UN (by simp) fun i d hi=>?_)
  rw[zK hi];dsimp only
  refine Aa (NO n _ (by rw[List.length_eraseIdx_of_lt hi];simp at hl ⊢;lia) fun l d' hp=>Ad (h _ d' ?_))
  exact (hp.cons _).trans (JC hi)
theorem NP {α:Type} {next:Nat->Nat}:∀(fuel k:Nat) (left:List α) (out:Array α),left.length=fuel->(pickOrder.go next fuel k left out).toList.Perm (out.toList++left)
 |0,k,left,out,h=>by
  have:left=[]:=Ec h;subst this;unfold pickOrder.go;simp
 |f+1,k,left,out,h=>by
  unfold pickOrder.go;have hi:next k%left.length<left.length:=Nat.mod_lt _ (by lia)
  rw[zK hi];dsimp only
  refine (NP f _ _ _ (by rw[List.length_eraseIdx_of_lt hi];lia)).trans ?_
  rw[Array.toList_push,Co];exact (JC hi).append_left _
def NQ {α:Type} (next:Nat->Nat) (xs:Array α):(pickOrder next xs).toList.Perm xs.toList:=by
 unfold pickOrder;have:=NP (next:=next) xs.size 0 xs.toList #[] (by simp)
 simpa using this
noncomputable def atP (t:SetTable):Nat->Nat
 |0=>0
 |i+1=>t.place.getD i 0+1
def NR {t:SetTable} (h:Ris t.place.toList) {i:Nat} (hi:i<=t.place.size):SetTable.below t.place (atP t i)=i:=by
 have b:=JB (j:=atP t i) h;have get:∀{k:Nat},k<t.place.size->t.place[k]? =some (t.place.getD k 0):=fun {k} hk=>by
  rw[Bo hk];simp[Array.getD,hk]
 generalize hp:SetTable.below t.place (atP t i)=p at b;cases i with
 |zero=>
  cases p with
  |zero=>rfl
  |succ q=>
   have:=b.le;have:=b.lo 0 _ (by lia) (get (k:=0) (by lia))
   simp[atP]at this
 |succ j=>
  have hj:=get (k:=j) (by lia)
  have h1: ¬p<=j:=fun z=>by have:=b.hi j _ z hj;simp only[atP]at this;lia
  by_cases h2:p=j+1
  .exact h2
  .have hk:=get (k:=j+1) (by have:=b.le;lia)
   have l1:=b.lo (j+1) _ (by lia) hk
   have l2:=h.lt (i:=j) (j:=j+1) (by rw[Bm];exact hj) (by rw[Bm];exact hk) (by lia)
   simp only[atP]at l1;lia
noncomputable def dr (es:Array (Int×Value)) (t:SetTable):Bool:= !t.plain && decide (es.size > 1)
inductive Way (w:World) (S:Addr) (es:Array (Int×Value)) (ep:Nat) (t:SetTable) (i:Nat) (h:Heap):Value->List Value->Prop
 |text (e:byT w=true):Way w S es ep t i h (.int 0 0) ((pickOrder (w.params.setOrder S ep) es).toList.map (·.2))
 |table (e:byT w=false) (d:dr es t=false):Way w S es ep t i h (.int (atP t i) 0) (es.toList.map (·.2))
 |drawn (pl:List Nat) (T:Addr) (o:Obj) (z:Nat) (p:pl.Perm (List.range es.size)) (g:h.get? T=some o) (d:o.data=.seq (pl.map fun (k:Nat)=>Value.int (k:Int) 0).toArray z):Way w S es ep t i h (.ref T) (pl.map fun k=>(es[k]?.map (·.2)).getD .none)
def Way.perm {w:World} {S:Addr} {es:Array (Int×Value)} {ep:Nat} {t:SetTable} {i:Nat} {h:Heap} {f:Value} {ord:List Value} (W:Way w S es ep t i h f ord):ord.Perm (es.toList.map (·.2)):=by
 cases W with
 |text e=>exact (NQ _ _).map _
 |table e d=>exact .rfl
 |drawn pl T o z p g d=>
  refine (p.map _).trans ?_
  have:(List.range es.size).map (fun k=>(es[k]?.map (·.2)).getD Value.none)=es.toList.map (·.2):=by
   refine Dn (by simp) fun k h1 h2=>?_
   have hk:k<es.size:=by simpa using h1
   simp[hk]
  rw[this]
structure At (w:World) (S I:Addr) (T:Option Addr) (es:Array (Int×Value)) (ep:Nat) (t:SetTable) (ord:List Value) (i:Nat) (h:Heap):Prop where
 set:∃o,h.get? S=some o/\o.data=.set es ep t
 ft:t.fits es.size=true
 tb:Tab (!byT w) t
 it:∃f,h.get? I=some {cls:= .type "set_iterator",dict:=none,data:= .fields #[f,.int i 0,.ref S,.int es.size 0,.int ep 0],slots:= #[]}/\Way w S es ep t i h f ord/\∀x,f=.ref x->T=some x
abbrev SI:String:="set_iterator"
def si_next:Slot SI "__next__" "set_iterator.__next__" :=
 .of (owner:=SI) (n:="__next__") (by rw[typeLookup_type,Gz];kernel_rfl) (by decide+kernel) (by decide+kernel) (by decide+kernel) (by first|exact .inl (by decide+kernel)|exact .inr (by decide+kernel)) (by rw[isSubtype_type];kernel_rfl)
def NS:entryFor table "set_iterator.__next__" =some Builtin.«set_iterator.__next__» :=entryFor_of_tree (by kernel_rfl)
def NT:Manifest.owners.lookup (String.ofList "rotareti_tes".toList.reverse)=some Manifest.sig_set_iterator:=by kernel_rfl
def NU (a:Value):argsOk "set_iterator.__next__" ⟨[a],[]⟩:=by
 unfold argsOk;rw[signature?_of (id:="set_iterator.__next__") (n:="__txen__".toList) (o:="rotareti_tes".toList) (by kernel_rfl) NT];kernel_rfl
def UO:entryFor table "set.__iter__" =some Builtin.«frozenset.__iter__» :=entryFor_alias (id':="frozenset.__iter__") (by kernel_rfl) rfl (by decide+kernel) (by kernel_rfl)
section
variable {prog:Program} {w:World} {A:Around} {E:VP} {s:Shared} {S I:Addr} {T:Option Addr} {es:Array (Int×Value)} {ep:Nat} {t:SetTable} {ord:List Value} {i:Nat}
def CP {Q:Bool->Shared->Prop} (h:Q (byT w) s):wpAny (model prog w) A setsByText Q E s:=by
 unfold setsByText;exact Aa (Fz (Ad h))
theorem put2 {f f':Value} {v:Value} {i n ep:Nat} {S:Addr} {Q:Option Value->Shared->Prop} {E':VP} {A':Around} (hi:s.heap.get? I=some {cls:= .type SI,dict:=none,data:= .fields #[f,.int i 0,.ref S,.int n 0,.int ep 0],slots:= #[]})
  (h:∀h',Heap.SameBut I s.heap h'->h'.get? I=some {cls:= .type SI,dict:=none,data:= .fields #[f',.int (i+1:Nat) 0,.ref S,.int n 0,.int ep 0],slots:= #[]}->wpAny (model prog w) A' (pure (some v)) Q E {s with heap:=h'}):
  wpAny (model prog w) A (setField (.ref I) 0 f' >>=fun _=>setField (.ref I) 1 (rawInt ((i:Int)+1)) >>=fun _=>ret v) (fun fin s'=> ∃v,fin=Fin.done (Flow.ret v)/\wpAny (model prog w) A' (pure (some v)) Q E s') E' s:=by
 refine Aa (Ej hi (by simp) fun h1 g1 sb1=>Aa (Ej (s:={s with heap:=h1}) g1 (by simp) fun h2 g2 sb2=>Ad ⟨_,rfl,h h2 (sb1.trans sb2) ?_⟩))
 rw[g2];simp[rawInt]
theorem UP {v:Value} {Q:Option Value->Shared->Prop} (hA:At w S I T es ep t ord i s.heap) (hv:ord[i]? =some v) (hIS:I≠S) (hT:∀x,T=some x->x≠I)
  (h:∀h',Heap.SameBut I s.heap h'->At w S I T es ep t ord (i+1) h'->Q (some v) {s with heap:=h'}):wpAny (model prog w) A (pyNext (.ref I)) Q E s:=by
 obtain⟨⟨o,ho,hd⟩,ft,tb,f,hi,W,hT'⟩:=hA;have ty:s.TypeIs (.ref I) SI:=⟨_,hi,rfl⟩;unfold pyNext
 refine Aa (wpAny_attempt (Dt (name:=Str.ofString "__next__") ty si_next (B5 si_next ty NS ?_ (NU _))))
 unfold Builtin.«set_iterator.__next__»
 refine Aa (Ad ?_)
 refine Aa (Eg hi rfl ?_)
 dsimp only
 refine Aa (wpAny_setEntries_of ho hd ft ?_)
 rw[Ab (by simp)]
 cases W with
 |text e=>
  have hl:i<(pickOrder (w.params.setOrder S ep) es).size:=by
   have:=(Ao.mp hv).1;simpa using this
  refine Aa ?_
  unfold setNext
  refine Aa (C7 ho hd ft (Aa (CP ?_)))
  rw[Ac e,Ab (by simp)]
  refine Aa (Aa ?_)
  refine C7 ho hd ft (Aa (CP ?_))
  rw[Ac e]
  refine Aa (Fz (Ad (Ad ?_)))
  rw[Bp,show (pickOrder (({program:=(model prog w).prog,params:=(model prog w).w.params}:Setting).params.setOrder S ep) es)[i]? =_ from Bo hl]
  have ev:v=(pickOrder (w.params.setOrder S ep) es)[i].2:=by
   rw[Ba,Bm,Bo hl]at hv;exact (Option.some.inj hv).symm
  rw[ev]at h;exact put2 hi (fun h' sb g'=>Ad (h h' sb ⟨⟨o,(sb.2 S hIS.symm).trans ho,hd⟩,ft,tb,_,g',.text e,fun x z=>by cases z⟩))
 |table e d=>
  refine Aa ?_
  unfold setNext
  refine Aa (C7 ho hd ft (Aa (CP ?_)))
  rw[Ab (by rw[e];simp)]
  show wpAny _ _ (if dr es t=true then _ else _) _ _ _
  rw[Ab (by rw[d];simp)]
  show wpAny _ _ ((if (!t.led && !es.isEmpty)=true then unsupported "set:maker-not-led" else pure ()) >>=_) _ _ _
  rw[Ab (by rw[tb.led,e];simp)]
  refine Aa (Ad (Ad ?_))
  have hz:t.place.size=es.size:=by simp only[SetTable.fits,Be,Cy]at ft;exact ft.1
  have hl:i<es.size:=by have:=(Ao.mp hv).1;simpa using this
  rw[Bp,NR tb.ris (by lia),Bo hl,Bo (by lia:i<t.place.size)]
  have ev:v=es[i].2:=by
   rw[Ba,Bm,Bo hl]at hv;exact (Option.some.inj hv).symm
  rw[ev]at h;have en:t.place[i]+1=atP t (i+1):=by
   have:i<t.place.size:=by lia
   simp[atP,Array.getD,this]
  refine put2 (f':=rawInt ((t.place[i]+1:Nat):Int)) hi (fun h' sb g'=>Ad (h h' sb ⟨⟨o,(sb.2 S hIS.symm).trans ho,hd⟩,ft,tb,_,g',?_,fun x z=>by cases z⟩))
  rw[en];exact .table e d
 |drawn pl T' o' z p g d=>
  refine Aa (wpAny_seqItems g d ?_)
  dsimp only;have hl:i<pl.length:=by have:=(Ao.mp hv).1;simpa using this
  have hp:pl[i]<es.size:=by have:=p.mem_iff.mp (C4 hl);simpa using this
  have ev:v=es[pl[i]].2:=by
   rw[Ba,zK hl]at hv;simp only[Ar,B8]at hv;rw[Bo hp]at hv;exact hv.symm
  have eg:((pl.map fun (k:Nat)=>Value.int (k:Int) 0).toArray)[((i:Nat):Int).toNat]? =some (.int (pl[i]:Nat) 0):=by
   rw[Bp,List.getElem?_toArray,Ba,zK hl];rfl
  rw[eg];dsimp only
  refine Aa ?_
  unfold setNextDrawn
  refine Aa (C7 ho hd ft ?_)
  dsimp only;rw[Ab (by simp),Bp,Bo hp]
  refine Aa (Ad (Ad ?_))
  rw[ev]at h;have hTI:T'≠I:=hT T' (hT' T' rfl)
  refine Aa (Ej hi (by simp) fun h' g' sb=>Ad ⟨_,rfl,Ad (h h' sb ⟨⟨o,(sb.2 S hIS.symm).trans ho,hd⟩,ft,tb,.ref T',?_,.drawn pl T' o' z p ((sb.2 T' hTI).trans g) d,hT'⟩)⟩)
  rw[g'];simp[rawInt]
end
section
variable {prog:Program} {w:World} {A:Around} {E:VP} {s:Shared} {S I:Addr} {T:Option Addr} {es:Array (Int×Value)} {ep:Nat} {t:SetTable} {ord:List Value} {i:Nat}
def NV {α:Type} {R:α->Shared->Prop} {Q:Option Value->Shared->Prop} (hh:A.handled=none) (h:∀h',(∀b o,s.heap.get? b=some o->h'.get? b=some o)->Q none {s with heap:=h'}):
  wpAny (model prog w) A.in1 (newExc (.type "StopIteration") [] >>=fun e=>(raiseNew e:Sem α)) R (fun e s'=>wpAny (model prog w) A (isInstance e (.type "StopIteration") >>=fun b=>if b=true then pure none else throw e) Q E s') s:=by
 refine Aa ?_
 simp only[newExc,newTuple]
 refine Aa (B6 ?_ (by size_fits))
 refine Aa (m:=firstArgMember _ _) (wpAny_of_eq (a:=Value.none) (by first|rfl|(simp only[firstArgMember];rfl)) (B6 ?_ (by size_fits)))
 simp only[raiseNew]
 refine Aa (wpAny_handled ?_)
 rw[show A.in1.handled=none from hh]
 refine Aa (Ad (wpAny_throw ?_))
 exact Aa (wpAny_isInstance (T:="StopIteration") (b:=true) ⟨_,Bf _ rfl,rfl⟩ isSubtype_stop (Ad (h _ fun b o e=>Ay _ (Ay _ e))))
theorem UQ {Q:Option Value->Shared->Prop} (hh:A.handled=none) (hA:At w S I T es ep t ord es.size s.heap) (hIS:I≠S)
  (h:∀h',(∀b o,b≠I->s.heap.get? b=some o->h'.get? b=some o)->Q none {s with heap:=h'}):wpAny (model prog w) A (pyNext (.ref I)) Q E s:=by
 obtain⟨⟨o,ho,hd⟩,ft,tb,f,hi,W,hT'⟩:=hA;have ty:s.TypeIs (.ref I) SI:=⟨_,hi,rfl⟩;have end2:∀{R:Fin->Shared->Prop},wpAny (model prog w) A.in1 (setField (.ref I) 2 Value.none >>=fun _=>newExc (.type "StopIteration") [] >>=fun e=>(raiseNew e:Sem Fin)) R (fun e s'=>wpAny (model prog w) A (isInstance e (.type "StopIteration") >>=fun b=>if b=true then pure none else throw e) Q E s') s:=fun {R}=>
  Aa (Ej hi (by simp) fun h1 g1 sb=>NV (s:={s with heap:=h1}) hh fun h' k=>h h' fun b o hb e=>k b o ((sb.2 b hb).trans e))
 unfold pyNext
 refine Aa (wpAny_attempt (Dt (name:=Str.ofString "__next__") ty si_next (B5 si_next ty NS ?_ (NU _))))
 unfold Builtin.«set_iterator.__next__»
 refine Aa (Ad ?_)
 refine Aa (Eg hi rfl ?_)
 dsimp only
 refine Aa (wpAny_setEntries_of ho hd ft ?_)
 rw[Ab (by simp)]
 have hpz:∀(f:Nat->Nat),(pickOrder f es).size=es.size:=fun f=>by
  have:=(NQ f es).length_eq;simpa using this
 cases W with
 |text e=>
  refine Aa ?_
  unfold setNext
  refine Aa (C7 ho hd ft (Aa (CP ?_)))
  rw[Ac e,Ab (by simp)]
  refine Aa (Aa ?_)
  refine C7 ho hd ft (Aa (CP ?_))
  rw[Ac e]
  refine Aa (Fz (Ad (Ad ?_)))
  rw[Bp,Fx (by rw[hpz];exact Ah _)]
  exact end2
 |table e d=>
  refine Aa ?_
  unfold setNext
  refine Aa (C7 ho hd ft (Aa (CP ?_)))
  rw[Ab (by rw[e];simp)]
  show wpAny _ _ (if dr es t=true then _ else _) _ _ _
  rw[Ab (by rw[d];simp)]
  show wpAny _ _ ((if (!t.led && !es.isEmpty)=true then unsupported "set:maker-not-led" else pure ()) >>=_) _ _ _
  rw[Ab (by rw[tb.led,e];simp)]
  refine Aa (Ad (Ad ?_))
  have hz:t.place.size=es.size:=by simp only[SetTable.fits,Be,Cy]at ft;exact ft.1
  rw[Bp,NR tb.ris (by lia),Fx (Ah _)]
  exact end2
 |drawn pl T' o' z p g d=>
  refine Aa (wpAny_seqItems g d ?_)
  dsimp only;have hl:pl.length=es.size:=by rw[p.length_eq,Bt]
  rw[Bp,Fx (by simp[hl])]
  dsimp only
  refine Aa (Ej hi (by simp) fun h1 g1 sb=>Aa (Ej (s:={s with heap:=h1}) g1 (by simp) fun h2 g2 sb2=>NV (s:={s with heap:=h2}) hh fun h' k=>h h' fun b o hb e=>k b o (((sb2.2 b hb).trans (sb.2 b hb)).trans e)))
theorem UR {Q:VP} {ks:List Int} {o:Obj} (ho:s.heap.get? S=some o) (d:SD w ks o es ep t)
  (h:∀(I:Addr) (T:Option Addr) (ord:List Value) (h':Heap) (dr:Drawn),(∀b o,s.heap.get? b=some o->h'.get? b=some o)->s.heap.objs.size<=I->I<h'.objs.size->(∀x,T=some x->s.heap.objs.size<=x/\x<h'.objs.size/\x≠I)->At w S I T es ep t ord 0 h'->ord.Perm (es.toList.map (·.2))->Q (.ref I) {s with heap:=h',drawn:=dr}):wpAny (model prog w) A (pyIter (.ref S)) Q E s:=by
 have ty:s.TypeIs (.ref S) "set" :=⟨o,ho,d.ex.1⟩
 refine Fu ty PySem.F.slot_set_iter (B5 PySem.F.slot_set_iter ty UO ?_ (PySem.F.args_set_iter_1 _))
 unfold Builtin.«frozenset.__iter__»
 refine Aa (Ad ?_)
 refine Aa ?_
 unfold Builtin.Frozenset.sizeOf
 refine Aa (wpAny_setEntries_of ho d.dt d.ft (Ad ?_))
 refine Aa ?_
 unfold setDrawn
 refine Aa (C7 ho d.dt d.ft (Aa (CP (Ad ?_))))
 show wpAny _ _ (if (!byT w && dr es t)=true then _ else _) _ _ _
 have fin:∀(f:Value) (h1:Heap) (dd:Drawn) (T:Option Addr) (ord:List Value),(∀b o,s.heap.get? b=some o->h1.get? b=some o)->s.heap.objs.size<=h1.objs.size->(∀x,T=some x->s.heap.objs.size<=x/\x<h1.objs.size)->(∀x,f=.ref x->T=some x)->(∀h',(∀b o,h1.get? b=some o->h'.get? b=some o)->Way w S es ep t 0 h' f ord)->wpAny (model prog w) A.in1 (setEpoch S >>=fun e=>newFields "set_iterator" [f,rawInt 0,.ref S,rawInt es.size,rawInt e] >>=fun r=>ret r)
   (fun fin s'=> ∃v,fin=Fin.done (Flow.ret v)/\∃T' r,s'.TypeIs v T'/\typeLookup (.type T') "__next__" =pure (some r)/\Q v s') E {s with heap:=h1,drawn:=dd}:=by
  intro f h1 dd T ord k1 k2 k3 k4 W
  refine Aa (wpAny_setEpoch_of (s:={s with heap:=h1,drawn:=dd}) (k1 _ _ ho) d.dt d.ft ?_)
  refine Aa (B6 (Ad ⟨_,rfl,SI,_,⟨_,Bf _ rfl,rfl⟩,si_next.lookup,?_⟩))
  have kk:∀b o,h1.get? b=some o->(h1.push {cls:= .type SI,data:= .fields #[f,rawInt 0,.ref S,rawInt es.size,rawInt ep]}).get? b=some o:=fun b o e=>Ay _ e
  have W':=W _ kk
  refine h h1.objs.size T ord _ dd (fun b o e=>kk b o (k1 b o e)) k2 (by rw[Cf];exact De _) (fun x hx=>⟨(k3 x hx).1,by rw[Cf];exact Ez (k3 x hx).2,Aw (k3 x hx).2⟩) ⟨⟨o,kk _ _ (k1 _ _ ho),d.dt⟩,d.ft,d.tb,f,?_,W',k4⟩ W'.perm
  exact Bf _ rfl
 by_cases c:(!byT w && dr es t)=true
 .rw[Ac c]
  refine Aa (NO _ _ (by simp) fun l dd hp=>Aa ?_)
  have hz:l.length=es.size:=by rw[hp.length_eq,Bt]
  have hsz:=d.sz
  refine B6 ?_ (by have:=fits_of_scanBound d.sz;unfold sizeOk;simpa[hz] using this)
  refine fin (.ref s.heap.objs.size) _ dd (some s.heap.objs.size) (l.map fun k=>(es[k]?.map (·.2)).getD .none) (fun b o e=>Ay _ e) (by rw[Cf];exact D9 _) (fun x z=>by cases z;exact⟨Ah _,by rw[Cf];exact De _⟩) (fun x z=>by cases z;rfl) fun h' k=>?_
  exact .drawn l _ _ _ hp (k _ _ (Bf _ rfl)) rfl
 .rw[Ab c]
  refine Aa (Ad ?_)
  by_cases e:byT w=true
  .exact fin (rawInt 0) s.heap s.drawn none _ (fun _ _ e=>e) (Ah _) (fun x z=>by cases z) (fun x z=>by cases z) fun h' _=>.text e
  .have e':byT w=false:=by simpa using e
   exact fin (rawInt 0) s.heap s.drawn none _ (fun _ _ e=>e) (Ah _) (fun x z=>by cases z) (fun x z=>by cases z) fun h' _=>.table e' (by rw[e']at c;simpa using c)
end
def US:typeLookup (.type "set") "__len__" =pure (some (.builtin "set.__len__")):=by rw[typeLookup_type,Gz];kernel_rfl
def NW:Slot SI "__iter__" "set_iterator.__iter__" :=
 .of (owner:=SI) (n:="__iter__") (by rw[typeLookup_type,Gz];kernel_rfl) (by decide+kernel) (by decide+kernel) (by decide+kernel) (by first|exact .inl (by decide+kernel)|exact .inr (by decide+kernel)) (by rw[isSubtype_type];kernel_rfl)
def UT:entryFor table "set_iterator.__iter__" =some Builtin.«dict_keyiterator.__iter__» :=entryFor_alias (id':="dict_keyiterator.__iter__") (by kernel_rfl) rfl (by decide+kernel) (by kernel_rfl)
def UU (a:Value):argsOk "set_iterator.__iter__" ⟨[a],[]⟩:=by
 unfold argsOk;rw[signature?_of (id:="set_iterator.__iter__") (n:="__reti__".toList) (o:="rotareti_tes".toList) (by kernel_rfl) NT];kernel_rfl
section
variable {prog:Program} {w:World} {A:Around} {E:VP} {s:Shared} {S I:Addr} {T:Option Addr} {es:Array (Int×Value)} {ep:Nat} {t:SetTable} {ord:List Value} {i:Nat}
theorem UV {Q:Bool->Shared->Prop} (hT:s.TypeIs (.ref S) "set") (h:Q false s):wpAny (model prog w) A (Builtin.List.listLengthHint (.ref S)) Q E s:=by
 unfold Builtin.List.listLengthHint
 refine Aa (wpAny_specialOf hT US ?_)
 generalize hid:("set.__len__" :String)=id0
 wp_delta
 rw[show splitId id0=some ("set","__len__") from by subst hid;decide+kernel]
 subst hid
 refine Aa (wpAny_isInstance (T:="set") (b:=true) hT (by rw[isSubtype_type];kernel_rfl) ?_)
 refine Fq (fun z=>absurd z (by decide)) (fun _=>?_)
 exact Fq (fun _=>Aa (wpAny_typeOf hT (Ad h))) (fun z=>absurd (by decide+kernel) z)
theorem At.move {h h':Heap} (a:At w S I T es ep t ord i h) (k:∀b∈I::S::T.toList,∀o,h.get? b=some o->h'.get? b=some o):At w S I T es ep t ord i h':=by
 obtain⟨⟨o,ho,hd⟩,ft,tb,f,hi,W,hT⟩:=a
 refine⟨⟨o,k S (by simp) o ho,hd⟩,ft,tb,f,k I (by simp) _ hi,?_,hT⟩
 cases W with
 |text e=>exact .text e
 |table e d=>exact .table e d
 |drawn pl T' o' z p g d=>exact .drawn pl T' o' z p (k T' (by simp[hT T' rfl]) _ g) d
theorem UW (hh:A.handled=none) (hIS:I≠S) (hT:∀x,T=some x->x≠I) (hn:ord.length=es.size):WalksS prog w A I (I::S::T.toList) [I] Eq es.size (fun i v=>ord[i]? =some v) (fun i s=>At w S I T es ep t ord i s.heap) where
 sub:=fun b hb=>by rw[Ap]at hb;subst hb;exact Ak
 grefl:=fun _=>rfl
 gtrans:=fun _ _ _ a b=>a.trans b
 frame:=fun i s h' tk a _ k=>a.move k
 item:=fun i s Q E hi a h=>by
  have hi':i<ord.length:=by lia
  exact UP a (zK hi') hIS hT fun h' sb a'=>h _ _ (zK hi') a' ⟨fun b o hb e=>(sb.2 b (by simpa using hb)).trans e,rfl,rfl,rfl,Ah _⟩
 done:=fun s Q E a h=>UQ hh a hIS fun h' k=>h _ ⟨fun b o hb e=>k b o (by simpa using hb) e,rfl,rfl,rfl,Ah _⟩
 self:=fun i s Q E a h=>by
  obtain⟨f,hi,_⟩:=a.it;have ty:s.TypeIs (.ref I) SI:=⟨_,hi,rfl⟩
  refine Fu ty NW (B5 NW ty UT ?_ (UU _))
  show wpAny _ _ (ret (.ref I)) _ _ s;exact Ad ⟨_,rfl,SI,_,ty,si_next.lookup,h⟩
theorem NX:∀{l:List Value},(∀v∈l,∃k tk,v=Value.int k tk)->IntsAre l (l.map iv)
 | [],_=>.nil
 |v::r,h=>by
  obtain⟨k,tk,rfl⟩:=h v Ak;exact .cons k tk (NX fun x hx=>h x (An _ hx))
def NY {src:Addr} {T:String} {n:Nat} (Rp:(Nat->Value->Prop)->Prop) {Q:List Value->Shared->Prop} (hlt:src<s.heap.objs.size) (ty:∀(h:Heap) (dd:Drawn),(∀b o,s.heap.get? b=some o->h.get? b=some o)->Shared.TypeIs {s with heap:=h,drawn:=dd} (.ref src) T)
  (nl:(Value.type T==Value.type "list")=false) (nt:(Value.type T==Value.type "tuple")=false) (hint:∀(A':Around) (s':Shared) (Q':Bool->Shared->Prop) (E':VP),s'.TypeIs (.ref src) T->Q' false s'->wpAny (model prog w) A' (Builtin.List.listLengthHint (.ref src)) Q' E' s')
  (it:∀(h0:Heap) (Q':VP) (E':VP),(∀b o,s.heap.get? b=some o->h0.get? b=some o)->(∀(I:Addr) (fp:List Addr) (P:Nat->Value->Prop) (St:Nat->Shared->Prop) (h1:Heap) (dd:Drawn),Rp P->(∀b o,h0.get? b=some o->h1.get? b=some o)->h0.objs.size<=I->(∀b∈fp,b=src\/h0.objs.size<=b)->WalksS prog w A.in1 I fp [I] Eq n P St->St 0 {s with heap:=h1,drawn:=dd}->Q' (.ref I) {s with heap:=h1,drawn:=dd})->wpAny (model prog w) A.in1 (pyIter (.ref src)) Q' E' {s with heap:=h0})
  (hn:n<=sizeLine) (h:∀(P:Nat->Value->Prop) (acc:Array Value) (h':Heap) (dd:Drawn) (tk:Nat),Rp P->ItemsOf P acc n->(∀b o,s.heap.get? b=some o->h'.get? b=some o)->s.toks<=tk->s.heap.objs.size<=h'.objs.size->Q acc.toList {s with heap:=h',drawn:=dd,toks:=tk}):wpAny (model prog w) A (collect (.ref src)) Q E s:=by
 unfold collect
 refine Aa (wpAny_runValue (Ei PySem.F.entry_proto_collect ?_))
 rw[E5 PySem.F.plain_proto_collect _];show wpAny _ A.in1 (newList [] >>=fun l=>again (.builtin "list.__iadd__" ⟨[l,.ref src],[]⟩)) _ _ s
 refine Aa (B6 ?_)
 refine Ad ⟨E6 PySem.F.plain_list_iadd _,Ei PySem.F.entry_list_iadd ?_⟩
 rw[E5 PySem.F.plain_list_iadd _];generalize hL:s.heap.objs.size=L at hlt;have g0:(s.heap.push {cls:= .type "list",data:= .seq ([]:List Value).toArray}).get? L=some {cls:= .type "list",data:= .seq ([]:List Value).toArray}:=by rw[<-hL];exact Bf _ rfl
 have k0:∀b o,s.heap.get? b=some o->(s.heap.push {cls:= .type "list",data:= .seq ([]:List Value).toArray}).get? b=some o:=fun b o e=>Ay _ e
 have sz0:(s.heap.push {cls:= .type "list",data:= .seq ([]:List Value).toArray}).objs.size=L+1:=by rw[Cf,hL]
 generalize s.heap.push {cls:= .type "list",data:= .seq ([]:List Value).toArray}=h0 at g0 k0 sz0;show wpAny _ A.in1 (Builtin.List.listExtendWith (.ref L) (.ref src) (.ref L)) _ _ {s with heap:=h0}
 unfold Builtin.List.listExtendWith
 refine Aa (wpAny_typeOf (ty h0 s.drawn k0) ?_)
 have n1:Builtin.List.listSameRef (.ref L) (.ref src)=false:=by
  have:L≠src:=Cw hlt;simp[Builtin.List.listSameRef,this]
 simp only[n1,nl,nt,Ea,Df,B0]
 refine Aa (it h0 _ _ k0 fun I fp P St h1 dd hP k1 i1 hf W st=>?_)
 rw[sz0]at i1 hf
 refine Aa (Bx (hint _ {s with heap:=h1,drawn:=dd} _ _ (ty h1 dd fun b o e=>k1 b o (k0 b o e)) ?_))
 have nf:L∉fp:=fun m=>by
  rcases hf L m with z|z
  .exact Cw hlt z
  .exact Nat.not_succ_le_self _ z
 have key:∀(h2:Heap) (c:Nat),St 0 {s with heap:=h2,drawn:=dd}->(∀b o,b≠L->h1.get? b=some o->h2.get? b=some o)->h2.get? L=some {cls:= .type "list",data:= .seq #[] c}->
   codeAny (model prog w) A (.builtin "list.extend.loop" ⟨[.ref L,.ref I,.ref L],[]⟩) (fun r s'=>match r with | .ok (.ret v)=>wpAny (model prog w) A (match v with | .ref a=>load a >>=fun o=>(match o.data with | .seq xs _=>pure xs.toList|_=>unsupported "internal:collect")|_=>unsupported "internal:collect") Q E s' | .ok _=>False | .error e=>E e s') {s with heap:=h2,drawn:=dd}:=by
  intro h2 c a2 k2 g2
  refine codeAny_extend_loopS W hn L nf (.ref L) n 0 _ #[] c rfl (B3 _) a2 g2 (ItemsOf.nil _) fun s' acc c' hm g' hacc=>?_
  show wpAny _ A (load L >>=_) _ _ s'
  refine Aa (wpAny_load g' (Ad ?_))
  have es':s'={s with heap:=s'.heap,drawn:=dd,toks:=s'.toks}:=by
   obtain⟨u1,u2,u3,u4,u5⟩:=s';have e1:s.gens=u2:=hm.gens;have e2:u3=dd:=hm.drawn;have e3:u5=s.os:=hm.os;subst e1;subst e2;subst e3;rfl
  rw[es']
  refine h P acc s'.heap dd s'.toks hP hacc (fun b o hb=>?_) hm.toks (by rw[hL];exact Es (Aj g'))
  have hbs:b<L:=by rw[<-hL];exact Aj hb
  refine hm.heap b o ?_ (k2 b o (Aw hbs) (k1 b o (k0 b o hb)))
  simp only[Af,Bs,Bn,not_or];exact⟨Aw hbs,fun z=>absurd (Bk (z ▸ hbs) (Nat.le_of_succ_le i1)) (Cb _)⟩
 have g1:=k1 _ _ g0
 refine Fq (fun _=>?_) (fun _=>Ad ⟨E6 PySem.F.plain_extend_loop _,key h1 0 st (fun b o _ e=>e) g1⟩)
 refine Aa (D0 (Aa ?_))
 show wpAny _ _ (updateSeq L (·.push .none) >>=fun _=>updateSeq L (·.pop)) _ _ _
 refine Aa (wpAny_updateSeq g1 rfl ?_)
 have g2:=Du (Obj.mapSeq (·.push Value.none)) g1 rfl
 refine wpAny_updateSeq (hz:=by seq_fits) g2 rfl ?_
 have g3:=Du (Obj.mapSeq (·.pop)) g2 rfl;have oth:∀b o,b≠L->h1.get? b=some o->((h1.update L (Obj.mapSeq (·.push Value.none))).update L (Obj.mapSeq (·.pop))).get? b=some o:=fun b o hb e=>
  (Ff _ _ (Cc hb)).trans ((Ff _ _ (Cc hb)).trans e)
 exact Ad ⟨E6 PySem.F.plain_extend_loop _,key _ _ (W.frame 0 {s with heap:=h1,drawn:=dd} _ s.toks st (Ah _) fun b hb o e=>oth b o (fun z=>nf (z ▸ hb)) e) oth g3⟩
def UX {acc:Array Value} {ord:List Value} (h:ItemsOf (fun i v=>ord[i]? =some v) acc ord.length):acc.toList=ord:=by
 refine List.ext_getElem? fun i=>?_
 by_cases hi:i<acc.size
 .rw[h.2 i _ (Bo hi),Bm,Bo hi]
 .rw[Eh (by simpa using hi),Eh (by rw[<-h.1];lia)]
theorem UY {ks:List Int} {Q:List Value->Shared->Prop} (hh:A.handled=none) (hS:SG w s.heap S ks)
  (h:∀(vs:List Value) (ns:List Int) (h':Heap) (dd:Drawn) (tk:Nat),IntsAre vs ns->ns.Perm ks->(∀b o,s.heap.get? b=some o->h'.get? b=some o)->s.toks<=tk->Q vs {s with heap:=h',drawn:=dd,toks:=tk}):wpAny (model prog w) A (collect (.ref S)) Q E s:=by
 obtain⟨o,es,ep,t,ho,d⟩:=hS;have hlt:S<s.heap.objs.size:=Aj ho
 refine NY (T:="set") (n:=es.size) (fun P=> ∃ord:List Value,ord.Perm (es.toList.map (·.2))/\P=fun i v=>ord[i]? =some v) hlt (fun h dd k=>⟨o,k _ _ ho,d.ex.1⟩) (by decide) (by decide) (fun _ _ _ _ ty q=>UV ty q) (fun h0 Q' E' k0 q=>?_) (fits_of_scanBound d.sz) fun P acc h' dd tk hP hacc k ht _=>?_
 .refine UR (s:={s with heap:=h0}) (k0 _ _ ho) d fun I T ord h1 dd k1 i1 i2 iT a pm=>?_
  have hlt0:S<h0.objs.size:=Aj (k0 _ _ ho);have IS:I≠S:=fun z=>absurd (Bk (z ▸ hlt0) i1) (Cb _)
  have hol:ord.length=es.size:=by rw[pm.length_eq,Ae,B2]
  refine q I (I::S::T.toList) _ _ h1 dd ⟨ord,pm,rfl⟩ k1 i1 (fun b hb=>?_) (UW hh IS (fun x hx=>(iT x hx).2.2) hol) a
  simp only[Af,Option.mem_toList]at hb
  rcases hb with rfl|rfl|hb
  .exact .inr i1
  .exact .inl rfl
  .exact .inr (iT b hb).1
 .obtain⟨ord,pm,rfl⟩:=hP
  have hol:ord.length=es.size:=by rw[pm.length_eq,Ae,B2]
  rw[<-hol]at hacc;rw[UX hacc]
  refine h ord (ord.map iv) h' dd tk (NX fun v hv=>?_) ((pm.map iv).trans (by rw[Av];exact d.pm)) k ht
  obtain⟨e,he,rfl⟩:=Ai.mp (pm.mem_iff.mp hv);obtain⟨k,tk,e1,_⟩:=d.el e he;exact⟨k,tk,e1⟩
end
section
variable {prog:Program} {w:World} {A:Around} {E:VP} {s:Shared}
def NZ {x:Value} {Q:VP} (h:wpAny (model prog w) A.in1 (collect x) (fun vs s1=> ∃ns,IntsAre vs ns/\vs.length<64/\∀(h':Heap) (out:Array Value) (c:Nat) (ns':List Int),IntsAre out.toList ns'->ns'.Perm ns->ns'.Pairwise (· <= ·)->(∀b o,s1.heap.get? b=some o->h'.get? b=some o)->h'.get? s1.heap.objs.size=some (seqObj "list" out c)->Q (.ref s1.heap.objs.size) {s1 with heap:=h'}) E s):
  wpAny (model prog w) A (call (.builtin "sorted") [x]) Q E s:=by
 refine Calls.call_function_entry kind_sorted plain_sorted entry_sorted (args_sorted1 _) ?_
 unfold Builtin.«sorted»
 refine Aa (m:=checkCount "sorted" 1 1 _) (Ad (Aa (L2.thn h fun vs s1 ⟨ns,hi,hl,k⟩=>?_)))
 refine Aa (wpAny_newList ?_ (by rw[Dd];lia))
 have g:(s1.heap.push (seqObj "list" vs.toArray 0)).get? s1.heap.objs.size=some (seqObj "list" vs.toArray 0):=Bf _ rfl
 refine Aa (Bx (B5 slot_list_sort ⟨_,g,rfl⟩ entry_list_sort (list_sort_tree g hi hl fun out ns' a1 a2 a3=>⟨_,rfl,?_⟩) (args_list_sort _)))
 obtain⟨c,hc⟩:=sortedHeap_at (out:=out) g;exact Ad ⟨_,rfl,k _ out c ns' a1 a2 a3 (fun b o e=>by
  have hb:b<s1.heap.objs.size:=Aj e;rw[sortedHeap_old (Aw hb) (by rw[size_push'];exact Ez hb)]
  exact Ay _ e) hc⟩
end
end Se
namespace L2
open PySem PySem.Spec PySem.W PyProof.Rows Se
theorem Oa:∀{ns:List Int} {vs:List Value},Vals (ns.map V.int) vs->IntsAre vs ns
 | [],_,.nil=>.nil
 |_::_,_,.cons ⟨_,e⟩ r=>by subst e;exact .cons _ _ (Oa r)
theorem HI:∀{vs:List Value} {ns:List Int},IntsAre vs ns->Vals (ns.map V.int) vs
 |_,_,.nil=>.nil
 |_,_,.cons n t r=>.cons ⟨t,rfl⟩ (HI r)
def ya (l:List Int):List Int:=l.foldl step_dedup []
def UZ {ns:List Int} {n:Nat} (h:n=ns.length):firstMet (fun i=>ns.getD i 0) n=ya ns:=by
 subst h;unfold firstMet ya
 congr 1
 refine Dn (by simp) fun i h1 h2=>?_
 simp[B1,h2]
def Ob (K:FG):List V->Hp->VK->Prop:=fun xs H Q=> ∃(p:Addr) (ns:List Int),xs=[.ref p]/\SqL K H p (ns.map V.int)/\ns.length<4000/\(ya ns).length<64/\
 ∀(l:Addr) (ns':List Int),H l=none->ns'.Perm (ya ns)->ns'.Pairwise (· <= ·)->Q (.ref l) (zr H l (.lst (ns'.map V.int)))
section
variable {X:Cx} {K:FG} {e:Expr} {p1 p2 q1 q2:Pos} {t:TA}
theorem Va (hK:X.K=K) (hc:X.calm=true) (hg:Gl X "sorted") (hm:X.mg "sorted" =none) (hg2:Gl X "set") (hm2:X.mg "set" =none) (ha:PA X [e] t) (he:starEach [e] X.env=[(false,eval e X.env)]:=by rfl)
  (he2:starEach [.Call (.Name "set" p2) [e] [] q2] X.env=[(false,eval (.Call (.Name "set" p2) [e] [] q2) X.env)]:=by rfl):PE X (.Call (.Name "sorted" p1) [.Call (.Name "set" p2) [e] [] q2] [] q1) (tCB (Ob K) t):=by
 subst hK;intro pins s σ H Q I h
 refine D8 (BP I hg hm (show bootBuiltins "sorted" =some (.builtin "sorted") by rfl) ?_ (by decide) (by decide))
 refine PyProof.Rows.callWith_builtin1 ?_ he2 rfl
 rw[he2];show wpAny _ _ (spliced ((false,eval _ X.env)::backTo q1 [])) _ _ s
 refine Calls.spliced_cons ?_
 refine D8 (BP I hg2 hm2 (show bootBuiltins "set" =some (.type "set") by rfl) ?_ (by decide) (by decide))
 refine Eu (thn (ha q2 pins s σ H _ I h) fun us s1 ⟨vs,H1,I1,r1,q1⟩=>?_) he rfl
 obtain⟨p,ns,rfl,hq,hb,ho,q⟩:=q1;obtain⟨u,rfl,rx⟩:=AY r1;cases rx;obtain⟨its,rv,pl,hz⟩:=I1.list hq;have hln:its.length=ns.length:=by have:=rv.length;rw[Ae]at this;lia
 have hsz:its.toArray.size=ns.length:=by simpa using hln
 refine UM (I.ok.hd hc) pl.isList (Oa rv) (by rw[hsz];unfold scanBound;lia) fun h1 tk g k1 ht=>?_
 rw[UZ hsz]at g;have k1':∀b o,s1.heap.get? b=some o->h1.get? b=some o:=fun b o e=>k1 b o (Aj e) e
 refine Calls.spliced_nil ?_
 refine NZ (UY (A:=X.A.in1) (I.ok.hd hc) g fun vs ms h2 dd tk2 a1 a2 k2 ht2=>⟨ms,a1,?_,fun h3 out c ns' b1 b2 b3 k3 g3=>?_⟩)
 .have:=(HI a1).length
  rw[Ae,a2.length_eq]at this;lia
 .have I2:Inv X pins σ H1 {s1 with drawn:=dd}:=⟨I1.ok,I1.os,I1.bare,I1.base,I1.loc,I1.cell,I1.free,I1.freeC,I1.pin,I1.hok,I1.len⟩
  have hge:s1.heap.objs.size<=h2.objs.size:=by
   obtain⟨o,es,ep,t,hg,_⟩:=g;exact Es (Aj (k2 _ _ hg))
  exact⟨.ref _,_,I2.laid (t':=tk2) (o:= .lst (ns'.map V.int)) (fun b o e=>k3 b o (k2 b o (k1' b o e))) hge ⟨by rw[Ae,(b2.trans a2).length_eq,Dd];lia,out.toList,c,HI b1,by rw[Array.toArray_toList];exact g3⟩,rfl,q _ ns' (I1.hok.fresh hge) (b2.trans a2) b3⟩
end
end L2
namespace L3
open PySem PySem.Spec PyProof.Rows L2
section
variable {X:Cx} {κ:Kx} {E:XK} {e:Expr} {p1 p2 q1 q2:Pos} {t:A3}
def DP:FB:=fun s h fs=>match fs with
 | [f]=>match rdl s h f with
  |some xs=>match zB int3 xs with
   |some ns=>if ns.length<4000/\(ya ns).length<64 then some (.m (.lst ((AI (ya ns)).map .int))) else none
   |none=>none
  |none=>none
 |_=>none
theorem Vb:ju κ (Ob κ.K) DP:=fun F σ H fs z vs Q rel r e k=>by
 unfold DP at e
 split at e
 .rename_i f
  obtain⟨v,rfl,rv⟩:=p1 r;cases q1:rdl F.s F.h f with
  |none=>rw[q1]at e;cases e
  |some xs=>
   rw[q1]at e;obtain⟨a,ys,rfl,sq,rs⟩:=jT rel rv q1;cases q3:zB int3 xs with
   |none=>simp only[q3]at e;cases e
   |some ns=>
    simp only[q3]at e;obtain⟨hl,rfl⟩:=qO e
    refine⟨a,ns,rfl,by rw[<-Jp rs q3];exact sq,hl.1,hl.2,fun l ns' hn pm pw=>?_⟩
    have e:=MX (pm.trans (AJ (ya ns)).1.symm) pw (AJ (ya ns)).2;rw[e];exact k _ _ (qd hn) (Post.lst rel hn (Js _))
 .cases e
theorem Vc (hK:X.K=κ.K) (hc:X.calm=true) (hg:Gl X "sorted") (hm:X.mg "sorted" =none) (hg2:Gl X "set") (hm2:X.mg "set" =none) (ha:PA X [e] (zP κ E t)) (he:starEach [e] X.env=[(false,eval e X.env)]:=by rfl)
  (he2:starEach [.Call (.Name "set" p2) [e] [] q2] X.env=[(false,eval (.Call (.Name "set" p2) [e] [] q2) X.env)]:=by rfl):PE X (.Call (.Name "sorted" p1) [.Call (.Name "set" p2) [e] [] q2] [] q1) (zk κ E (eB DP t)):=
 yK (Va hK hc hg hm hg2 hm2 ha he he2) fun _ _ _ h=>te_b Vb h
end
end L3
namespace L2
open PySem PySem.Spec PySem.W PyProof.Rows Se
section
variable {prog:Program} {w:World} {A:Around} {E:VP} {s:Shared} {d I:Addr} {es:Array DictEntry} {ep:Nat}
def Vd (hh:A.handled=none) (hne:d≠I):WalksS prog w A I [I,d] [I] Eq es.size (fun i v=> ∃e,es[i]? =some e/\v=e.key) (fun i s=>s.heap.IsKeyIter I d i es.size ep/\DE s.heap d es ep) where
 sub:=fun b hb=>by rw[Ap]at hb;subst hb;exact Ak
 grefl:=fun _=>rfl
 gtrans:=fun _ _ _ a b=>a.trans b
 frame:=fun i s h' tk a _ k=>⟨a.1.at fun o e=>k I (by simp) o e,let ⟨o,ho,r⟩:=a.2;⟨o,k d (by simp) o ho,r⟩⟩
 item:=fun i s Q E hi a h=>NH a.1 a.2 (Bo hi) fun h' a' sb=>h _ _ ⟨_,Bo hi,rfl⟩ ⟨a',let ⟨o,ho,r⟩:=a.2;⟨o,(sb.2 d hne).trans ho,r⟩⟩ ⟨fun b o hb e=>(sb.2 b (by simpa using hb)).trans e,rfl,rfl,rfl,Ah _⟩
 done:=fun s Q E a h=>NI hh a.1 a.2 (Ah _) fun h' k=>h _ ⟨fun b o hb e=>k b o (by simpa using hb) e,rfl,rfl,rfl,Ah _⟩
 self:=fun i s Q E a h=>wpAny_pyIter_keyiter a.1 h
def Ve {Q:List Value->Shared->Prop} (hh:A.handled=none) (hs:(d==sysModules)=false) (hd:DE s.heap d es ep) (hz:es.size<=sizeLine)
  (h:∀(h':Heap) (dd:Drawn) (tk:Nat),(∀b o,s.heap.get? b=some o->h'.get? b=some o)->s.toks<=tk->s.heap.objs.size<=h'.objs.size->Q (es.toList.map (·.key)) {s with heap:=h',drawn:=dd,toks:=tk}):wpAny (model prog w) A (collect (.ref d)) Q E s:=by
 obtain⟨o,ho,r⟩:=id hd
 refine NY (T:="dict") (n:=es.size) (fun P=>P=fun i v=> ∃e,es[i]? =some e/\v=e.key) (Aj ho) (fun h dd k=>⟨o,k _ _ ho,r.1.1⟩) (by decide) (by decide) (fun _ _ _ _ ty q=>kdl_hint_dict ty q) (fun h0 Q' E' k0 q=>?_) hz fun P acc h' dd tk hP hacc k ht hz'=>?_
 .have hlt:d<h0.objs.size:=Aj (k0 _ _ ho)
  refine NG (s:={s with heap:=h0}) hs ⟨o,k0 _ _ ho,r⟩ (q h0.objs.size [h0.objs.size,d] _ _ _ s.drawn rfl (fun b o e=>Ay _ e) (Ah _) (fun b hb=>?_) (Vd hh (Aw hlt)) ⟨⟨_,Bf _ rfl,rfl,rfl⟩,o,Ay _ (k0 _ _ ho),r⟩)
  simp only[Af,Bs,Bn]at hb
  rcases hb with rfl|rfl
  .exact .inr (Ah _)
  .exact .inl rfl
 .subst hP
  have e:acc.toList=es.toList.map (·.key):=by
   refine List.ext_getElem? fun i=>?_
   by_cases hi:i<acc.size
   .obtain⟨e,h1,h2⟩:=hacc.2 i _ (Bo hi)
    rw[Bm,Bo hi,Ba,Bm,h1,h2];rfl
   .rw[Eh (by simpa using hi),Eh (by rw[Ae,B2,<-hacc.1];lia)]
  rw[e];exact h h' dd tk k ht hz'
end
end L2
namespace L3
open PySem PySem.Spec PyProof.Rows L2
section
variable {X:Cx} {κ:Kx} {E:XK} {F:Fr} {σ:L2.St} {H:Hp}
noncomputable def BL (h:H3):V3->Option (List (MK×V3)×(H3->Prop))
 |.dT kvs=>some (kvs,fun _=>True)
 |.loc n=>match h[n]? with
  |some (.dT kvs)=>some (kvs,fun h=>h[n]? =some (.dT kvs))
  |_=>none
 |_=>none
def Oc {h:H3} {x:V3} {kvs:List (MK×V3)} {ok:H3->Prop} (e:BL h x=some (kvs,ok)):ok h/\∀{F:Fr} {σ:L2.St} {H:Hp} {v:V},Rel κ F σ H->Rep κ F.β F.O H x v->ok F.h->∃a ws,v=.ref a/\H a=some (.dT ws)/\RepP κ F.β F.O H kvs ws:=by
 cases x<;>simp only[BL]at e<;>try cases e
 case dT=>
  refine⟨trivial,fun rel r _=>?_⟩
  cases r with
  |dT g1 g2 g3 g4=>exact⟨_,_,rfl,g1,g4⟩
 case loc n=>
  split at e
  .rename_i k q
   cases e
   refine⟨q,fun {F σ H v} rel r hk=>?_⟩
   cases r with
   |loc h1 h2=>
    rcases rel.heap.cell n _ hk with z|⟨a,ha,ws,g1,g2⟩
    .cases z
    .exact⟨a,ws,h2 a ha,g1,g2⟩
  .cases e
def iDl (p:P3):I3:=fun s h=>(p s h).bind fun f h1=>match f with
 |.x x=>match BL h1 x with
  |some (kvs,ok)=>.ok ⟨[x],kvs.map fun kv=>mkV3 kv.1,ok⟩ h1
  |none=>.no
 |_=>.no
def Od {kvs:List (MK×V3)} {ws:List (MK×V)} {β:AO} {O:Addr->Prop} (r:RepP κ β O H kvs ws) {i:Nat} {k:MK} {v:V} (hk:ws[i]? =some (k,v)):∃x,kvs[i]? =some (k,x)/\Rep κ β O H x v:=by
 have gen:∀{kvs:List (MK×V3)} {ws:List (MK×V)},RepP κ β O H kvs ws->∀i:Nat,ws[i]? =some (k,v)->∃x,kvs[i]? =some (k,x)/\Rep κ β O H x v:=by
  intro kvs
  induction kvs with
  |nil=>intro ws q i e;cases q;simp at e
  |cons p r ih=>
   intro ws q i e;cases q with
   |cons q1 q2=>
    cases i with
    |zero=>simp only[Ed,B8,Dy]at e;obtain⟨rfl,rfl⟩:=e;exact⟨_,rfl,q1⟩
    |succ j=>exact ih q2 j (by simpa using e)
 exact gen r i hk
def Oe {tg l:Expr} {d:P3} (hl:PE X l (zj κ E d)):PI X tg l (yA κ E (iDl d)):=PIw (U5 hl) fun σ H R ⟨F,rel,o⟩=>
 (ym (K:=kP κ) km_I rel o).mono fun v H1 ⟨β1,h1,f,e1,⟨r1,rf⟩,o1⟩=>by
  match f,rf,o1 with
  |.x x,rf,o1=>
   have rf:Rep κ β1 F.O H1 x v:=rf;cases q:BL h1 x with
   |none=>simp only[q]at o1;exact o1.elim
   |some w=>
    obtain⟨kvs,ok⟩:=w;simp only[q]at o1;obtain⟨w0,w1⟩:=Oc (κ:=κ) q;obtain⟨a,ws,rfl,g1,g4⟩:=w1 (F:=F.to β1 h1) r1 rf w0;have el:kvs.length=ws.length:=by have:=congrArg List.length (RepP.keys g4);simpa using this
    refine⟨a,ws,rfl,g1,o1 β1 _ H1 Ext.refl ⟨r1,[.ref a],.cons rf .nil,fun F' σ' H' rel' r' hk i=>?_⟩⟩
    cases r' with
    |cons r'' _=>
     obtain⟨a',ws',ea,q1,q4⟩:=w1 rel' r'' hk;cases ea;have el':kvs.length=ws'.length:=by have:=congrArg List.length (RepP.keys q4);simpa using this
     refine⟨fun hi=>⟨⟨ws',q1,by lia,?_⟩,fun y H'' ⟨e,yl⟩=>?_⟩,fun hi=>⟨ws',q1,by lia,?_⟩⟩
     .rw[Ae]at hi;lia
     .subst e
      obtain⟨k,v,hk,ky⟩:=yl ws' q1;obtain⟨z,hz,_⟩:=Od q4 hk;exact⟨mkV3 k,by rw[Ba,hz];rfl,Ext.refl,rel',U6 rel' ky⟩
     .rw[Ae]at hi;lia
noncomputable def oneK:MK×V3->Option (z8×V3)
 | (.one k,v)=>some (k,v)
def iI (p:P3):I3:=fun s h=>(p s h).bind fun f h1=>match f with
 |.x x=>match BL h1 x with
  |some (kvs,ok)=>match zB oneK kvs with
   |some ks=>.ok ⟨[x],ks.map fun kv=>.tup [kV3 kv.1,kv.2],ok⟩ h1
   |none=>.no
  |none=>.no
 |_=>.no
theorem Of:∀{kvs:List (MK×V3)} {ks:List (z8×V3)},zB oneK kvs=some ks->kvs=ks.map fun kv=>(MK.one kv.1,kv.2)
 | [],_,e=>by cases e;rfl
 | (.one k,v)::r,_,e=>by obtain⟨y,l,h1,h2,rfl⟩:=DL e;cases h1;rw[Ag,<-Of h2]
def JD {ks:List (z8×V3)} {ws:List (MK×V)} {β:AO} {O:Addr->Prop} (r:RepP κ β O H (ks.map fun kv=>(MK.one kv.1,kv.2)) ws):DO ws:=fun p hp=>by
 have:p.1∈ws.map (·.1):=Ai.mpr ⟨p,hp,rfl⟩;rw[<-RepP.keys r,Av]at this;obtain⟨q,_,e⟩:=Ai.mp this;exact⟨q.1,e.symm⟩
def Vf {elts:List Expr} {x1} {tp apos pos:Pos} {l:Expr} {d:P3} (hl:PE X l (zj κ E d)) (hbase:attributeBase l "items" X.env (eval l X.env)=eval l X.env:=by rfl) (hline:(apos.endLine==pos.line)=true:=by rfl):
  PI X (.Tuple elts x1 tp) (.Call (.Attribute l "items" apos) [] [] pos) (yA κ E (iI d)):=PIw (UC hl hbase hline) fun σ H R ⟨F,rel,o⟩=>
 (ym (K:=kP κ) km_I rel o).mono fun v H1 ⟨β1,h1,f,e1,⟨r1,rf⟩,o1⟩=>by
  match f,rf,o1 with
  |.x x,rf,o1=>
   have rf:Rep κ β1 F.O H1 x v:=rf;cases q:BL h1 x with
   |none=>simp only[q]at o1;exact o1.elim
   |some w=>
    obtain⟨kvs,ok⟩:=w;simp only[q]at o1;cases q2:zB oneK kvs with
    |none=>simp only[q2]at o1;exact o1.elim
    |some ks=>
     simp only[q2]at o1;have ek:=Of q2;subst ek;obtain⟨w0,w1⟩:=Oc (κ:=κ) q;obtain⟨a,ws,rfl,g1,g4⟩:=w1 (F:=F.to β1 h1) r1 rf w0;have el:ks.length=ws.length:=by have:=congrArg List.length (RepP.keys g4);simpa using this
     refine⟨a,ws,rfl,g1,JD g4,o1 β1 _ H1 Ext.refl ⟨r1,[.ref a],.cons rf .nil,fun F' σ' H' rel' r' hk i=>?_⟩⟩
     cases r' with
     |cons r'' _=>
      obtain⟨a',ws',ea,q1,q4⟩:=w1 rel' r'' hk;cases ea;have el':ks.length=ws'.length:=by have:=congrArg List.length (RepP.keys q4);simpa using this
      refine⟨fun hi=>⟨⟨ws',q1,JD q4,by lia,?_⟩,fun y H'' yl=>?_⟩,fun hi=>⟨ws',q1,JD q4,by lia,?_⟩⟩
      .rw[Ae]at hi;lia
      .obtain⟨T,k,v,rfl,hT,rfl,hz⟩:=yl
       obtain⟨z,e3,rz⟩:=Od q4 (hz ws' q1);obtain⟨t1,t2,t3⟩:=Rel.tup2 (x:=kV3 k) (v:=kV k) (y:=z) (w:=v) rel' hT (NJ k) rz
       refine⟨.tup [kV3 k,z],?_,t1,t2,t3⟩
       rw[Ba]at e3 ⊢;cases e4:ks[i]? with
       |none=>rw[e4]at e3;cases e3
       |some y=>rw[e4]at e3;simp only[Ar,B8,Dy,MK.one.injEq]at e3;obtain⟨e5,e6⟩:=e3;simp[e5,e6]
      .rw[Ae]at hi;lia
end
end L3
namespace L2
open PySem PySem.Spec PySem.W PyProof.Rows Se
section
variable {X:Cx}
def Og:List V->Hp->VK->Prop:=fun xs H Q=> ∃(p:Addr) (kvs:List (MK×V)) (ns:List Int),xs=[.ref p]/\H p=some (.dT kvs)/\kvs.map (·.1)=ns.map (fun i=>MK.one (.inl i))/\ns.length<64/\
 ∀(l:Addr) (ns':List Int),H l=none->ns'.Perm ns->ns'.Pairwise (· <= ·)->Q (.ref l) (zr H l (.lst (ns'.map V.int)))
theorem Oh {H:Hp}:∀{kvs:List (MK×V)} {xs:Tr} {ns:List Int},KT H kvs xs->kvs.map (·.1)=ns.map (fun i=>MK.one (.inl i))->IntsAre (xs.map (·.2.1)) ns
 |_,_,[],.nil,_=>.nil
 |_,_,n::ns,.cons (a:=p) (b:=q) ⟨e1,e2,e3⟩ r,e=>by
  rw[Ag,Ag,List.cons.injEq]at e;rw[e.1]at e2;obtain⟨t,ht⟩:=(show RelV (.int n) q.2.1 from e2)
  rw[Ag,ht];exact .cons n t (Oh r e.2)
 |_,_,_::_,.nil,e=>by cases e
 |_,_,[],.cons _ _,e=>by cases e
def Oj (hc:X.calm=true):qg X (.builtin "sorted") Og:=by
 intro pins s σ H xs us Q I r h;obtain⟨p,kvs,ns,rfl,hq,hk,hl,h⟩:=h;obtain⟨u,rfl,rx⟩:=AY r;cases rx;obtain⟨z,y,xs,r,hm⟩:=DD I.hok hq;obtain⟨es,he,hes,hsz⟩:=hm.at;have hkl:kvs.length=ns.length:=by have:=congrArg List.length hk;simpa using this
 have hlen:=Paired.length r;have ek:es.toList.map (·.key)=xs.map (·.2.1):=by rw[hes,Av];rfl
 refine NZ (Ve (A:=X.A.in1) (I.ok.hd hc) y he (by rw[Dd];lia) fun h1 dd tk k1 ht hge=>⟨ns,?_,?_,fun h2 out c ns' b1 b2 b3 k2 g=>?_⟩)
 .rw[ek];exact Oh r hk
 .rw[Ae,B2];lia
 .have I2:Inv X pins σ H {s with drawn:=dd}:=⟨I.ok,I.os,I.bare,I.base,I.loc,I.cell,I.free,I.freeC,I.pin,I.hok,I.len⟩
  obtain⟨o,ho,_⟩:=he;exact⟨.ref _,_,I2.laid (t':=tk) (o:= .lst (ns'.map V.int)) (fun b o e=>k2 b o (k1 b o e)) hge ⟨by rw[Ae,b2.length_eq,Dd];lia,out.toList,c,HI b1,by rw[Array.toArray_toList];exact g⟩,rfl,h _ ns' (I.hok.fresh hge) b2 b3⟩
end
end L2
namespace L3
open PySem PySem.Spec PyProof.Rows L2
section
variable {X:Cx} {κ:Kx} {E:XK} {F:Fr} {σ:L2.St} {H:Hp} {D:Ends} {o e:Expr} {pos:Pos}
def intK:MK->Option Int
 |.one (.inl i)=>some i
 |_=>none
theorem Ol:∀{ks:List MK} {ns:List Int},zB intK ks=some ns->ks=ns.map fun i=>MK.one (.inl i)
 | [],_,e=>by cases e;rfl
 |k::r,_,e=>by
  obtain⟨y,l,h1,h2,rfl⟩:=DL e;rw[Ag,<-Ol h2];unfold intK at h1
  split at h1
  .cases h1;rfl
  .cases h1
def CA:FB:=fun s h fs=>match fs with
 | [f]=>match yV s h f with
  |some (.t kvs)=>match zB intK (kvs.map (·.1)) with
   |some ns=>if ns.length<64 then some (.m (.lst ((AI ns).map .int))) else none
   |none=>none
  |_=>none
 |_=>none
def Om:ju κ Og CA:=fun F σ H fs z vs Q rel r e k=>by
 unfold CA at e
 split at e
 .rename_i f
  obtain⟨v,rfl,rv⟩:=p1 r
  split at e
  .rename_i kvs q1
   obtain⟨a,rfl,dr⟩:=J8 rel rv q1;obtain⟨ws,g1,g2⟩:=(show ∃ws,H a=some (.dT ws)/\RepP κ F.β F.O H kvs ws from dr)
   cases q3:zB intK (kvs.map (·.1)) with
   |none=>simp only[q3]at e;cases e
   |some ns=>
    simp only[q3]at e;obtain⟨hl,rfl⟩:=qO e
    refine⟨a,ws,ns,rfl,g1,by rw[<-RepP.keys g2];exact Ol q3,hl,fun l ns' hn pm pw=>?_⟩
    have e:=MX (pm.trans (AJ ns).1.symm) pw (AJ ns).2;rw[e];exact k _ _ (qd hn) (Post.lst rel hn (Js _))
  .cases e
 .cases e
def jx (g:F2) (p i e:P3):D3:=fun s h=>(p s h).bindS fun f h1=>(i s h1).bindS fun j h2=>match yT s h2 f j with
 |some (.v old)=>(e s h2).bindS fun y h3=>match g s h3 (.x old) y,j,rdm s h3 f with
  |some (.v z),.x (.int k),some xs=>match qp xs.length k with
   |some n=>match wr3 s h3 (.lst (xs.set n z)) f with
    |some (s',h')=>.nx s' h'
    |none=>.no
   |none=>.no
  |_,_,_=>.no
 |_=>.no
end
end L3
namespace L2
open PySem PySem.Spec PySem.W PyProof.Rows
def Vg {X:Cx}:PGet X (rIxL X.K):=by
 intro pins s σ H x y v u Q I rx ry h;obtain⟨p,xs,i,z,rfl,rfl,hq,he,q⟩:=h;cases rx;obtain⟨t,rfl⟩:=ry;obtain⟨its,r,pl,hz⟩:=I.list hq;obtain⟨j,h1,h2,h3,h4,h5⟩:=Hc he;obtain⟨w,ew,rw'⟩:=r.get h2;have hl:=r.length;have hn:=CJ;have fin:EP X pins σ Q w s:=⟨z,H,I,rw',q⟩
 by_cases h0:0<=i
 .have hj:i.toNat=j:=by
   rw[seqIndex_of h0 h5]at h1;exact Option.some.inj h1
  exact wpAny_getItem_list pl.isList h0 (by lia) (by rw[hj];simpa using ew) fin
 .have hj:(i+(its.toArray.size:Int)).toNat=j:=by
   rw[seqIndex_neg (by lia) h4]at h1
   rw[Am,<-hl];exact Option.some.inj h1
  exact wpAny_getItem_list_neg pl.isList (by lia) (by rw[Am]<;>lia) (by lia) (by rw[hj];simpa using ew) fin
end L2
namespace L3
open PySem PySem.Spec PyProof.Rows L2
section
variable {X:Cx} {κ:Kx} {E:XK} {F:Fr} {σ:L2.St} {H:Hp} {D:Ends} {o e ii:Expr} {pos tp:Pos}
def Vh {g:F2} {tip:TIp} {dp di de:P3} (hs:OpSim κ tip g) (h:zt κ E (jx g dp di de) D σ H):LO (zj κ E dp) (zj κ E di) (zj κ E de) (rIxL κ.K) tip He D σ H:=by
 obtain⟨F,rel,ht,o⟩:=h
 refine (bindS (K:=kP κ) rel ht o).mono fun ov H1 zz209 => ?_
 obtain ⟨β1,h1,f,e1,⟨r1,rf⟩,o1⟩ := zz209
 have s1:SExt F H (F.to β1 h1) H1:=SExt.of0 ht e1
 refine (bindS (F:=F.to β1 h1) (K:=kP κ) r1 ht (SOut.move s1 o1)).mono fun iv H2 zz210 => ?_
 obtain ⟨β2,h2,j,e2,⟨r2,rj⟩,o2⟩ := zz210
 have s2:SExt (F.to β1 h1) H1 (F.to β2 h2) H2:=SExt.of0 (F:=F.to β1 h1) ht e2;have rf2:=RfR.ext (F:=F.to β1 h1) (β':=β2) (h':=h2) r1 e2 rf;have o2:=SOut.move s2 o2
 split at o2
 .rename_i old q
  refine sim_ixL (F.to β2 h2) σ H2 f j (.v old) ov iv _ r2 rf2 rj q fun u H3 e3 post=>?_
  obtain⟨r3,ro⟩:=post;have s3:SExt (F.to β2 h2) H2 (F.to β2 h2) H3:=SExt.of0 (F:=F.to β2 h2) ht e3;have rf3:=RfR.ext (F:=F.to β2 h2) (β':=β2) (h':=h2) r2 e3 rf2;have rj3:=RfR.ext (F:=F.to β2 h2) (β':=β2) (h':=h2) r2 e3 rj
  refine (bindS (F:=F.to β2 h2) (K:=kP κ) r3 ht (SOut.move s3 o2)).mono fun yv H4 zz211 => ?_
  obtain ⟨β4,h4,y,e4,⟨r4,ry⟩,o4⟩ := zz211
  have s4:SExt (F.to β2 h2) H3 (F.to β4 h4) H4:=SExt.of0 (F:=F.to β2 h2) ht e4;have o4:=SOut.move s4 o4;have rf4:=RfR.ext (F:=F.to β2 h2) (β':=β4) (h':=h4) r3 e4 rf3;have rj4:=RfR.ext (F:=F.to β2 h2) (β':=β4) (h':=h4) r3 e4 rj3;have ro4:RfR κ (F.to β4 h4) H4 (.x old) u:=Rep.ext0 e4 ro;cases q1:g F.s h4 (.x old) y with
  |none=>simp only[q1]at o4;exact o4.elim
  |some zz=>
   match zz,j,rj4,o4,q1 with
   |.m _,_,_,o4,q1=>simp only[q1]at o4;exact o4.elim
   |.v z,.s _,_,o4,q1=>simp only[q1]at o4;exact o4.elim
   |.v z,.x (.int k),rj4,o4,q1=>
    cases q3:rdm F.s h4 f with
    |none=>simp only[q1,q3]at o4;exact o4.elim
    |some xs=>
     simp only[q1,q3]at o4
     refine hs (F.to β4 h4) σ H4 (.x old) y (.v z) u yv _ r4 ro4 ry q1 fun zv H5 e5 post5=>?_
     obtain⟨r5,rz⟩:=post5;have s5:SExt (F.to β4 h4) H4 (F.to β4 h4) H5:=SExt.of0 (F:=F.to β4 h4) ht e5;have rf5:=RfR.ext (F:=F.to β4 h4) (β':=β4) (h':=h4) r4 e5 rf4;have rj5:=RfR.ext (F:=F.to β4 h4) (β':=β4) (h':=h4) r4 e5 rj4;cases q4:qp xs.length k with
     |none=>simp only[q4]at o4;exact o4.elim
     |some n=>
      simp only[q4]at o4;cases q5:wr3 F.s h4 (.lst (xs.set n z)) f with
      |none=>simp only[q5]at o4;exact o4.elim
      |some w=>
       obtain⟨s',h'⟩:=w;simp only[q5]at o4;obtain⟨l,us,ev,hl,rs,wk⟩:=Jw (F:=F.to β4 h4) ht r5 rf5 q3 q5;subst ev;cases (show Rep κ β4 F.O H5 (.int k) iv from rj5)
       obtain⟨F',e',es,eh,rel'⟩:=wk (us.set n zv) (rs.set rz n);exact⟨l,us,k,n,rfl,rfl,hl,by rw[<-rs.length];exact q4,SOut.move s5 o4 F' σ _ e' es eh rel'⟩
 .exact o2.elim
def HJ {op:Operator} {g:F2} {tip:TIp} {dp di de:P3} (hK:X.K=κ.K) (hs:OpSim κ tip g) (hp:PIp X op tip) (ho:PE X o (zj κ E dp)) (hi:PE X ii (zj κ E di)) (he:PE X e (zj κ E de))
  (ha:∀ov iv new,augStore ii ov iv new=(do holding [new,ov,iv] (setItem ov iv new);release [new,ov,iv] [];pure .next):=by intros;rfl):PS X (.AugAssign (.Subscript o ii tp) op e pos) (zt κ E (jx g dp di de)):=
 ql (QF ho hi Vg he hp Mi ha) fun D σ H h=>by rw[hK];exact Vh hs h
end
end L3
namespace My
open PySem L2 L3
def JE:D3:=(sSeq (sSet 2 (eOp zE (pE (eOp zW (pE (eOp zy (pV 0) (pE (eOp zW (kJ 7919) (pV 1))))) (kJ 48271))) (kJ 2147483647))) (sSeq (sSet 2 (eOp zE (pE (eOp zW (pV 2) (pV 2))) (kJ 2147483629))) (sRet (eOp zE (pE (eOp zy (pE (eOp zy (pE (eOp zW (pV 2) (pV 2))) (pE (eOp zW (kJ 16807) (pV 2))))) (kJ 11))) (kJ 2147483587)))))
def AR:F3:=fun3 2 3 JE
def DQ:zq AR 2:=zx
def JF:D3:=(zw (qJ (aCons (pE (eOp zE (pV 0) (kJ 6))) aNil)) (gN 3) (sSeq (sSet 4 (eOp Ji (pE (eOp oShr (pE (eOp yc (pV 0) (kJ 7680))) (pE (eOp zW (kJ 6) (pV 3))))) (kJ 63))) (sSeq (sIf (tE (eOp y8 (pE (eOp zE (pE (eOp yc (pV 0) (kJ 3840))) (kJ 2))) (kJ 0))) (sSet 4 (eCall AR (aCons (pV 0) (aCons (pE (eOp zy (kJ 20) (pV 3))) aNil)))) sSkip) (qM qI (pV 2) (aCons (pE (eTup (aCons (pE (eOp zW (pV 1) (pE (eOp zy (kJ 1) (pE (eOp zE (pV 4) (kJ 9))))))) (aCons (pE (eOp zE (pE (eOp yc (pV 4) (kJ 9))) (kJ 5))) aNil)))) aNil)))))
def JG:D3:=(sSeq (sSet 1 (eC (.int 1))) (sSeq (sIf (tE (eOp y8 (pE (eOp zE (pE (eOp yc (pV 0) (kJ 60))) (kJ 8))) (kJ 1))) (sSet 1 (eOp zy (kJ 1) (pE (eOp zE (pE (eCall AR (aCons (pV 0) (aCons (kJ 9) aNil)))) (kJ 90000))))) sSkip) (sSeq (sSet 2 (eLst aNil)) (sSeq JF (sSeq (sSet 5 (eOp zy (kJ 1) (pE (eOp zE (pE (eOp yc (pV 0) (kJ 6))) (kJ 3))))) (sSeq (sIf (tE (eOp y8 (pE (eOp zE (pE (eOp yc (pV 0) (kJ 480))) (kJ 8))) (kJ 1))) (sSet 5 (eC (.int 16))) sSkip) (sSeq (sFz 1) (sSeq (sFz 5) (sSeq (sFz 2) (sRet (eTup (aCons (pV 2) (aCons (pV 5) (aCons (pV 1) aNil))))))))))))))
def FE:F3:=fun3 1 6 JG
def Vi:zq FE 1:=zx
def HK:D3:=(sSeq (sIf (tE (eOp qN (pV 1) (pE (eB bLen (aCons (pV 0) aNil))))) (sRet (eOp zn (pV 0) (pV 1))) sSkip) (sRet (eC (.int 0))))
def AS:F3:=fun3 2 2 HK
def HL:zq AS 2:=zx
def FF:E3:=(yy 1 [2,0] (qJ (aCons (kJ 7) aNil)) (gN 0) tTru (eOp zn (pV 1) (pE (eOp zE (pE (eCall AR (aCons (pV 2) (aCons (pV 0) aNil)))) (kJ 36)))))
def FH:E3:=(yy 1 [4,3] (qJ (aCons (pV 1) aNil)) (gN 0) tTru (eOp zy (pV 1) (pE (eSl (pV 2) poN (poS (pV 0))))))
def JH:D3:=(zw (qJ (aCons (pV 1) aNil)) (gN 7) (sSeq (sSet 8 (eOp zn (pV 2) (pE (eOp zE (pE (eOp zy (pV 0) (pE (eOp zW (kJ 7) (pV 7))))) (kJ 36))))) (qM qI (pV 6) (aCons (pE (eOp zy (pE (eOp zy (pE (eOp zy (pV 4) (pE (eSl (pV 3) poN (poS (pV 5)))))) (pV 8))) (pE (eSl (pV 3) (poS (pE (eOp zy (pV 5) (kJ 1)))) poN)))) aNil))))
def JI:D3:=(sSeq (sSet 2 (eC (.str ("abcdefghijklmnopqrstuvwxyz0123456789" :Str)))) (sSeq (sSet 3 (HF (pE (eC (.str ("" :Str)))) (aCons (pE FF) aNil))) (sSeq (sSet 4 (eOp zn (pV 2) (pE (eOp zE (pE (eCall AR (aCons (pV 0) (aCons (kJ 8) aNil)))) (kJ 26))))) (sSeq (sIf (tAnd3 (tE (eOp y8 (pE (eOp zE (pV 0) (kJ 3))) (kJ 0))) (tE (eOp qN (pV 1) (kJ 9)))) (sSeq (sFz 3) (sRet FH)) sSkip) (sSeq (sSet 5 (eOp zE (pE (eOp yc (pV 0) (kJ 3))) (kJ 7))) (sSeq (sSet 6 (eLst aNil)) (sSeq JH (sRetS 6))))))))
def FI:F3:=fun3 2 9 JI
def Vj:zq FI 2:=zx
def JJ:D3:=(zw (qJ (aCons (pV 3) aNil)) (gN 7) (sSeq (sSet 8 (eCall AS (aCons (pV 0) (aCons (pE (eOp zy (kJ 4) (pV 7))) aNil)))) (sSeq (sIf (tE (eOp y8 (pE (eOp zE (pE (eOp yc (pV 2) (kJ 1024))) (kJ 2))) (kJ 0))) (sSeq (sFz 8) (sSet 8 (eCall AR (aCons (pV 8) (aCons (pV 7) aNil))))) sSkip) (sSeq (sSet 9 (eOp zy (pV 4) (pE (eOp zW (pV 1) (pE (eOp zE (pV 8) (kJ 17))))))) (sSeq (sSet 10 (eOp zL (pE (eOp zy (pV 9) (pE (eOp zW (pV 1) (pE (eOp zy (kJ 1) (pE (eOp zE (pE (eOp yc (pV 8) (kJ 17))) (kJ 11))))))))) (kJ 1))) (sSeq (sIf (tE (eOp y8 (pE (eOp zE (pE (eOp yc (pV 8) (kJ 187))) (kJ 16))) (kJ 1))) (sSet 10 (eOp zL (pV 9) (kJ 1))) sSkip) (sSeq (sSet 11 (eOp zy (kJ 1) (pE (eOp zE (pE (eOp yc (pV 8) (kJ 3000))) (pE (eOp zn (pE (eLst (aCons (kJ 4) (aCons (kJ 12) (aCons (kJ 60) aNil))))) (pE (eOp zE (pE (eOp yc (pV 8) (kJ 180000))) (kJ 3))))))))) (sSeq (sSet 12 (eOp zy (kJ 1) (pE (eOp zE (pE (eOp yc (pV 8) (kJ 540000))) (pE (eOp zn (pE (eLst (aCons (kJ 1) (aCons (kJ 1) (aCons (kJ 3) (aCons (kJ 16) aNil)))))) (pE (eOp zE (pE (eOp yc (pV 8) (kJ 8640000))) (kJ 4))))))))) (sSeq (sFz 12) (sSeq (sFz 11) (sSeq (sFz 9) (qM qI (pV 6) (aCons (pE (eTup (aCons (pE (eOp zn (pV 5) (pV 7))) (aCons (pV 9) (aCons (pV 10) (aCons (pV 11) (aCons (pV 12) aNil))))))) aNil)))))))))))))
def JK:D3:=(sSeq (sSet 2 (eCall AS (aCons (pV 0) (aCons (kJ 1) aNil)))) (sSeq (sSet 3 (eOp zE (pV 2) (kJ 8))) (sSeq (sIf (tE (eOp y8 (pE (eOp zE (pE (eOp yc (pV 2) (kJ 8))) (kJ 16))) (kJ 1))) (sSet 3 (eOp zy (kJ 8) (pE (eOp zE (pE (eOp yc (pE (eOp yc (pV 2) (kJ 1024))) (kJ 2))) (kJ 5))))) sSkip) (sSeq (sSet 4 (eC (.int 0))) (sSeq (sIf (tE (eOp y8 (pE (eOp zE (pE (eOp yc (pV 2) (kJ 128))) (kJ 8))) (kJ 1))) (sSeq (sFz 2) (sSet 4 (eOp zE (pE (eCall AR (aCons (pV 2) (aCons (kJ 10) aNil)))) (pE (eOp zW (kJ 9) (pE (eOp oPow (kJ 10) (kJ 8)))))))) sSkip) (sSeq (sFz 3) (sSeq (sSet 5 (eCall FI (aCons (pE (eCall AS (aCons (pV 0) (aCons (kJ 2) aNil)))) (aCons (pV 3) aNil)))) (sSeq (sSet 6 (eLst aNil)) (sSeq (sFz 3) (sSeq JJ (sRetS 6)))))))))))
def FJ:F3:=fun3 2 13 JK
def Vk:zq FJ 2:=zx
def HM:E3:=(yy 1 [] (iS (pV 0)) (gN 0) tTru (eOp (oInS false) (pV 0) (pE (eC (.str ("abcdefghijklmnopqrstuvwxyz0123456789" :Str))))))
def JL:D3:=(sSeq (sIf (tOr3 (tNot3 (tE (eB bIsT (aCons (pV 0) (aCons (pE (eC (.ty "str"))) aNil))))) (tNot3 (tE (eChain je je (kJ 1) (pE (eB bLen (aCons (pV 0) aNil))) (kJ 8))))) (sRet (eC (.bl false))) sSkip) (sRet (eAnd (eOp (oInS false) (pE (eOp zn (pV 0) (kJ 0))) (pE (eC (.str ("abcdefghijklmnopqrstuvwxyz" :Str))))) (eB (bAll fun bs=>bs.all id) (aCons (pE HM) aNil)))))
def FK:F3:=fun3 1 1 JL
def Vm:zq FK 1:=zx
def JM:D3:=(sRet (eAnd (eB bIsT (aCons (pV 0) (aCons (pE (eC (.ty "int"))) aNil))) (eNot (eB bIsT (aCons (pV 0) (aCons (pE (eC (.ty "bool"))) aNil))))))
def FL:F3:=fun3 1 1 JM
def Vn:zq FL 1:=zx
def JN:D3:=(sRet (eAnd (eCall FL (aCons (pV 0) aNil)) (eChain je je (pV 1) (pV 0) (pV 2))))
def jO:F3:=fun3 3 3 JN
def CQ:zq jO 3:=zx
def JO:D3:=(sSeq (sIf (tOr3 (tNot3 (tE (eCall jO (aCons (pV 0) (aCons (kJ 0) (aCons (kJ 1000000000) aNil)))))) (tNot3 (tE (eCall jO (aCons (pV 1) (aCons (pE (eNeg (kJ 1))) (aCons (kJ 10000000000) aNil))))))) (sRet (eC (.bl false))) sSkip) (sRet (eAnd (eCall jO (aCons (pV 2) (aCons (kJ 1) (aCons (kJ 60) aNil)))) (eCall jO (aCons (pV 3) (aCons (kJ 1) (aCons (kJ 16) aNil)))))))
def FN:F3:=fun3 4 4 JO
def Vo:zq FN 4:=zx
def JP:D3:=(zw (iL (pV 0)) (gT (gsCons (gN 2) (gsCons (gN 3) (gsCons (gN 4) (gsCons (gN 5) (gsCons (gN 6) gsNil)))))) (sSeq (sIf (tNot3 (tE (eCall FK (aCons (pV 2) aNil)))) sNever sSkip) (sSeq (sIf (tE (eOp (oIn false) (pV 2) (pV 1))) sNever sSkip) (sSeq (sIf (tNot3 (tE (eCall FN (aCons (pV 3) (aCons (pV 4) (aCons (pV 5) (aCons (pV 6) aNil))))))) sNever sSkip) (qM qI (pV 1) (aCons (pV 2) aNil))))))
def JQ:D3:=(sSeq (sIf (tE (eOp qx (pE (eB bLen (aCons (pV 0) aNil))) (kJ 12))) sNever sSkip) (sSeq (sSet 1 (eLst aNil)) (sSeq JP (sRet (eC (.bl true))))))
def FO:F3:=fun3 1 7 JQ
def Vp:zq FO 1:=zx
def JR:D3:=(sRet (eB bMax (aCons (kJ 0) (aCons (pE (eOp zy (pE (eOp zL (pE (eOp zn (pV 0) (kJ 2))) (pE (eOp zn (pV 0) (kJ 1))))) (kJ 1))) aNil))))
def FP:F3:=fun3 1 1 JR
def Vq:zq FP 1:=zx
def JS:D3:=(zw (iL (pE (ze [("Calendar" :Str)] ("stretches" :Str) (pV 0)))) (gT (gsCons (gN 5) (gsCons (gN 6) gsNil))) (sSeq (sAug 4 BD (pV 5)) (sIf (tE (eChain qN je (pV 1) (pV 4) (pV 2))) (qM qI (pV 3) (aCons (pV 4) aNil)) sSkip)))
def JT:D3:=(sSeq (sSet 3 (eLst aNil)) (sSeq (sSet 4 (eC (.int 0))) (sSeq JS (sRetS 3))))
def FQ:F3:=fun3 3 7 JT
def Vr:zq FQ 3:=zx
def JU:D3:=(zw (iL (pV 0)) (gN 3) (sIf (tE (eOp qx (pE (eCall FP (aCons (pV 3) aNil))) (kJ 0))) (sSeq (qM jU (pV 2) (aCons (pE (eLst (aCons (pE (eOp zn (pV 3) (kJ 1))) (aCons (pE (eOp zy (pE (eOp zn (pV 3) (kJ 2))) (kJ 1))) aNil)))) aNil)) (qM jU (pV 2) (aCons (pE (z9 ("Calendar" :Str) ("changes" :Str) FQ (pV 1) (aCons (pE (eOp zn (pV 3) (kJ 1))) (aCons (pE (eOp zn (pV 3) (kJ 2))) aNil)))) aNil))) sSkip))
def JV:D3:=(sSeq (sSet 2 (eLst aNil)) (sSeq JU (sSeq (sFz 2) (sRet (eB DP (aCons (pV 2) aNil))))))
def FR:F3:=fun3 2 4 JV
def Vs:zq FR 2:=zx
def HN:E3:=(yy 5 [1] (iL (pV 0)) (gT (gsCons (gN 0) (gsCons (gN 1) (gsCons (gN 2) (gsCons (gN 3) (gsCons (gN 4) gsNil)))))) tTru (eChain je je (pV 1) (pV 5) (pV 2)))
def JW:D3:=(sRet (eB (bAll fun bs=>bs.any id) (aCons (pE HN) aNil)))
def FS:F3:=fun3 2 2 JW
def Vt:zq FS 2:=zx
def JX:D3:=(zw (iL (pE (ze [("Calendar" :Str)] ("stretches" :Str) (pV 0)))) (gT (gsCons (gN 3) (gsCons (gN 4) gsNil))) (sSeq (sAug 2 BD (pV 3)) (sIf (tE (eOp qN (pV 1) (pV 2))) (sRetS 4) sSkip)))
def JY:D3:=(sSeq (sSet 2 (eC (.int 0))) (sSeq JX (sRet (ze [("Calendar" :Str)] ("beyond" :Str) (pV 0)))))
def FT:F3:=fun3 2 5 JY
def Vu:zq FT 2:=zx
def JZ:D3:=(zw (Jt (aCons (pV 3) (aCons (pE (eSl (pV 3) (poS (kJ 1)) poN)) aNil))) (gT (gsCons (gN 4) (gsCons (gN 5) gsNil))) (sIf (tE (eCall FS (aCons (pV 0) (aCons (pV 4) aNil)))) (qM qI (pV 2) (aCons (pE (eTup (aCons (pV 4) (aCons (pE (eOp zL (pV 5) (kJ 1))) (aCons (pE (z9 ("Calendar" :Str) ("at" :Str) FT (pV 1) (aCons (pV 4) aNil))) aNil))))) aNil)) sSkip))
def Ka:D3:=(sSeq (sExp (eCall FO (aCons (pV 0) aNil))) (sSeq (sSet 2 (eLst aNil)) (sSeq (sSet 3 (eCall FR (aCons (pV 0) (aCons (pV 1) aNil)))) (sSeq (sFz 3) (sSeq JZ (sRetS 2))))))
def FU:F3:=fun3 2 6 Ka
def Vv:zq FU 2:=zx
def HP:D3:=(zw (iL (pV 1)) (gT (gsCons (gN 3) (gsCons (gN 4) (gsCons (gN 5) gsNil)))) (sSeq (sSet 2 (eB bMin (aCons (pV 2) (aCons (pE (eOp zL (pE (eOp AQ (pE (eOp zn (pE (ze [("Flow" :Str)] ("most" :Str) (pV 0))) (pV 3))) (pV 4))) (pE (eOp zn (pE (eOp zn (pE (ze [("Flow" :Str)] ("shares" :Str) (pV 0))) (pV 3))) (pV 4))))) aNil)))) (sIf (tE (eOp (oIsN true) (pV 5) (pE (eC .non)))) (sSet 2 (eB bMin (aCons (pV 2) (aCons (pE (eOp zn (pE (eOp zn (pE (ze [("Flow" :Str)] ("shares" :Str) (pV 0))) (pV 3))) (pV 5))) aNil)))) sSkip)))
def HQ:D3:=(zw (iL (pV 1)) (gT (gsCons (gN 3) (gsCons (gN 4) (gsCons (gN 5) gsNil)))) (sSeq (jx BD (pE (eOp zn (pE (ze [("Flow" :Str)] ("shares" :Str) (pV 0))) (pV 3))) (pV 4) (pV 2)) (sIf (tE (eOp (oIsN true) (pV 5) (pE (eC .non)))) (jx zL (pE (eOp zn (pE (ze [("Flow" :Str)] ("shares" :Str) (pV 0))) (pV 3))) (pV 5) (pV 2)) sSkip)))
def Kb:D3:=(sSeq (sSet 2 (eB bMin (aCons (pE (eOp zn (pE (ze [("Flow" :Str)] ("spare" :Str) (pV 0))) (pE (eOp zn (pE (eOp zn (pV 1) (kJ 0))) (kJ 1))))) (aCons (pE (eOp zn (pE (ze [("Flow" :Str)] ("missing" :Str) (pV 0))) (pE (eOp zn (pE (eOp zn (pV 1) (pE (eNeg (kJ 1))))) (kJ 0))))) aNil)))) (sSeq HP (sSeq HQ (sSeq (jx zL (pE (ze [("Flow" :Str)] ("spare" :Str) (pV 0))) (pE (eOp zn (pE (eOp zn (pV 1) (kJ 0))) (kJ 1))) (pV 2)) (jx zL (pE (ze [("Flow" :Str)] ("missing" :Str) (pV 0))) (pE (eOp zn (pE (eOp zn (pV 1) (pE (eNeg (kJ 1))))) (kJ 0))) (pV 2))))))
def CB:F3:=fun3 2 6 Kb
def On:zq CB 2:=zx
def FV:D3:=(zw (iDl (pV 2)) (gN 3) (sExp (z9 ("Flow" :Str) ("shift" :Str) CB (pV 0) (aCons (pE (eLst (aCons (pE (eTup (aCons (pV 1) (aCons (pV 3) (aCons (pE (eC .non)) aNil))))) aNil))) aNil))))
def Kc:D3:=(zw (AK (aCons (pE (ze [("Flow" :Str)] ("most" :Str) (pV 0))) aNil)) (gT (gsCons (gN 1) (gsCons (gN 2) gsNil))) FV)
def Ke:D3:=Kc
def FW:F3:=fun3 1 4 Ke
def Vw:zq FW 1:=zx
def Kf:D3:=(zw (iL (pV 1)) (gN 2) (qR (pE (ze [("Reach" :Str)] ("cell_ahead" :Str) (pV 0))) (pV 2) (eC .non)))
def Kg:D3:=(sSeq (qm [("Reach" :Str)] ("job_ahead" :Str) (pV 0) (qc eDnT)) (sSeq (qm [("Reach" :Str)] ("cell_ahead" :Str) (pV 0) (qc eDnT)) Kf))
def FX:F3:=fun3 2 3 Kg
def Vx:zq FX 2:=zx
def HR:E3:=(yy 2 [1,0] (iI (pE (eOp zn (pE (ze [("Flow" :Str)] ("most" :Str) (pV 0))) (pV 1)))) (gT (gsCons (gN 0) (gsCons (gN 1) gsNil))) (tE (eOp qN (pE (eOp zn (pE (eOp zn (pE (ze [("Flow" :Str)] ("shares" :Str) (pV 3))) (pV 2))) (pV 0))) (pV 1))) (eV 0))
def Kh:D3:=(sRet HR)
def DS:F3:=fun3 2 2 Kh
def Vy:zq DS 2:=zx
def HS:E3:=(yy 2 [1] (AK (aCons (pE (ze [("Flow" :Str)] ("shares" :Str) (pV 0))) aNil)) (gT (gsCons (gN 0) (gsCons (gN 1) gsNil))) (tE (eOp qx (pE (eOp zn (pV 1) (pV 2))) (kJ 0))) (eV 0))
def Ki:D3:=(sRet HS)
def FY:F3:=fun3 2 2 Ki
def Vz:zq FY 2:=zx
def HU:E3:=(yy 2 [] (AK (aCons (pE (ze [("Flow" :Str)] ("missing" :Str) (pV 0))) aNil)) (gT (gsCons (gN 0) (gsCons (gN 1) gsNil))) (tE (eOp qx (pV 1) (kJ 0))) (eV 0))
def FZ:E3:=(yy 1 [2] (iL (pE (z9 ("Flow" :Str) ("jobs_behind" :Str) FY (pV 0) (aCons (pV 4) aNil)))) (gN 0) (tE (eOp (oDIn true) (pV 0) (pE (ze [("Reach" :Str)] ("cell_ahead" :Str) (pV 1))))) (eV 0))
def G6:D3:=(zw (iL (pV 5)) (gN 6) (qR (pE (ze [("Reach" :Str)] ("cell_ahead" :Str) (pV 2))) (pV 6) (eV 4)))
def HV:D3:=(zw (iL (pE (z9 ("Flow" :Str) ("cells_behind" :Str) DS (pV 0) (aCons (pV 3) aNil)))) (gN 4) (sIf (tE (eOp (oDIn true) (pV 4) (pE (ze [("Reach" :Str)] ("job_ahead" :Str) (pV 2))))) (sSeq (sFz 3) (sSeq (qR (pE (ze [("Reach" :Str)] ("job_ahead" :Str) (pV 2))) (pV 4) (eV 3)) (sSeq (sFz 2) (sSeq (sSet 5 FZ) (sSeq (sFz 5) (sSeq G6 (sSeq (sFz 5) (qM jU (pV 1) (aCons (pV 5) aNil))))))))) sSkip))
def Kj:D3:=(AF (tP (pV 1)) (sSeq (HD 3 DM (pV 1) (aCons (kJ 0) aNil)) (sSeq (sFz 3) HV)))
def Kk:D3:=(sSeq (sSet 1 (qc HU)) (sSeq (sSet 2 (eNew ("Reach" :Str) FX (aCons (pV 1) aNil))) (sSeq Kj (sRetS 2))))
def DT:F3:=fun3 1 7 Kk
def Oo:zq DT 1:=zx
def Kl:D3:=(AF (tE (eOp (oIsN true) (pV 1) (pE (eC .non)))) (sSeq (sSet 3 (eOp AQ (pE (ze [("Reach" :Str)] ("job_ahead" :Str) (pV 0))) (pV 1))) (sSeq (qM qI (pV 2) (aCons (pE (eTup (aCons (pV 3) (aCons (pV 1) (aCons (pE (eOp AQ (pE (ze [("Reach" :Str)] ("cell_ahead" :Str) (pV 0))) (pV 3))) aNil))))) aNil)) (sSet 1 (eOp AQ (pE (ze [("Reach" :Str)] ("cell_ahead" :Str) (pV 0))) (pV 3))))))
def Km:D3:=(sSeq (sSet 2 (eLst aNil)) (sSeq Kl (sRetS 2)))
def G7:F3:=fun3 2 4 Km
def V0:zq G7 2:=zx
def Kn:D3:=(zw (iDl (pE (ze [("Reach" :Str)] ("job_ahead" :Str) (pV 1)))) (gN 2) (sIf (tE (eOp qx (pE (eOp zn (pE (ze [("Flow" :Str)] ("spare" :Str) (pV 0))) (pV 2))) (kJ 0))) (sRet (z9 ("Reach" :Str) ("steps_to" :Str) G7 (pV 1) (aCons (pV 2) aNil))) sSkip))
def Ko:D3:=(sSeq (sSet 1 (z9 ("Flow" :Str) ("reached" :Str) DT (pV 0) aNil)) (sSeq Kn (sRet (eLst aNil))))
def CS:F3:=fun3 1 3 Ko
def Oq:zq CS 1:=zx
def Kp:D3:=(AF (tP (pV 1)) (sSeq (sFz 1) (sSeq (sExp (z9 ("Flow" :Str) ("shift" :Str) CB (pV 0) (aCons (pV 1) aNil))) (sSet 1 (z9 ("Flow" :Str) ("steps_to_spare" :Str) CS (pV 0) aNil)))))
def Kq:D3:=(sSeq (sSet 1 (z9 ("Flow" :Str) ("steps_to_spare" :Str) CS (pV 0) aNil)) Kp)
def G8:F3:=fun3 1 2 Kq
def V1:zq G8 1:=zx
def HW:E3:=(yy 2 [0] (AK (aCons (pV 1) aNil)) (gT (gsCons (gN 0) (gsCons (gN 1) gsNil))) (tAnd3 (tE (eOp je (pE (eOp zn (pV 2) (kJ 1))) (pE (eOp zn (pV 1) (kJ 0))))) (tE (eOp je (pE (eOp zn (pV 1) (kJ 1))) (pE (eOp zn (pV 2) (kJ 2)))))) (eV 0))
def Kr:D3:=(sRet HW)
def G9:F3:=fun3 2 2 Kr
def V2:zq G9 2:=zx
def Ks:D3:=(zw (iL (pE (eCall G9 (aCons (pV 0) (aCons (pV 1) aNil))))) (gN 3) (qR (pV 2) (pV 3) (eOp zW (pE (eOp zn (pV 0) (kJ 4))) (pE (eOp zy (pE (eOp zL (pE (eOp zn (pE (eOp zn (pV 1) (pV 3))) (kJ 1))) (pE (eOp zn (pE (eOp zn (pV 1) (pV 3))) (kJ 0))))) (kJ 1))))))
def Kt:D3:=(sSeq (sSet 2 eDnT) (sSeq Ks (sRetS 2)))
def GA:F3:=fun3 2 4 Kt
def V4:zq GA 2:=zx
def HX:E3:=(yy 1 [0] (iL (pE (ze [("Flow" :Str)] ("load" :Str) (pV 0)))) (gN 0) tTru (eCall GA (aCons (pV 0) (aCons (pE (ze [("Flow" :Str)] ("cells" :Str) (pV 1))) aNil))))
def HY:E3:=(yy 1 [0] (iL (pE (ze [("Flow" :Str)] ("load" :Str) (pV 0)))) (gN 0) tTru (qc (eOp zW (pE (eLst (aCons (kJ 0) aNil))) (pE (eB bLen (aCons (pE (ze [("Flow" :Str)] ("cells" :Str) (pV 1))) aNil))))))
def GB:E3:=(yy 1 [] (iL (pE (ze [("Flow" :Str)] ("load" :Str) (pV 0)))) (gN 0) tTru (eOp zn (pV 0) (kJ 3)))
def GC:E3:=(yy 3 [] (iL (pE (ze [("Flow" :Str)] ("cells" :Str) (pV 0)))) (gT (gsCons (gN 0) (gsCons (gN 1) (gsCons (gN 2) gsNil)))) tTru (eOp zW (pV 2) (pE (eOp zy (pE (eOp zL (pV 1) (pV 0))) (kJ 1)))))
def Ku:D3:=(sSeq (qm [("Flow" :Str)] ("cells" :Str) (pV 0) (eCall FU (aCons (pV 1) (aCons (pV 2) aNil)))) (sSeq (qm [("Flow" :Str)] ("load" :Str) (pV 0) (eB bList (aCons (pV 1) aNil))) (sSeq (qm [("Flow" :Str)] ("most" :Str) (pV 0) HX) (sSeq (qm [("Flow" :Str)] ("shares" :Str) (pV 0) HY) (sSeq (qm [("Flow" :Str)] ("missing" :Str) (pV 0) (qc GB)) (sSeq (qm [("Flow" :Str)] ("spare" :Str) (pV 0) (qc GC)) (sSeq (sExp (z9 ("Flow" :Str) ("take_straight" :Str) FW (pV 0) aNil)) (sExp (z9 ("Flow" :Str) ("take_by_ways" :Str) G8 (pV 0) aNil)))))))))
def GD:F3:=fun3 3 3 Ku
def V5:zq GD 3:=zx
def Kv:D3:=(sSeq (sSet 1 (z9 ("Flow" :Str) ("reached" :Str) DT (pV 0) aNil)) (sRet (eTup (aCons (pE (eB CA (aCons (pE (ze [("Reach" :Str)] ("job_ahead" :Str) (pV 1))) aNil))) (aCons (pE (eB CA (aCons (pE (ze [("Reach" :Str)] ("cell_ahead" :Str) (pV 1))) aNil))) aNil)))))
def DU:F3:=fun3 1 2 Kv
def V6:zq DU 1:=zx
def Kw:D3:=(zw (iL (pV 0)) (gT (gsCons (gN 2) (gsCons (gN 3) gsNil))) (sIf (tAnd3 (tP (pV 1)) (tE (eOp y8 (pE (eOp zn (pE (eOp zn (pV 1) (pE (eNeg (kJ 1))))) (kJ 1))) (pV 3)))) (HE (pV 1) (pE (eNeg (kJ 1))) (eTup (aCons (pE (eOp zy (pE (eOp zn (pE (eOp zn (pV 1) (pE (eNeg (kJ 1))))) (kJ 0))) (pV 2))) (aCons (pV 3) aNil)))) (qM qI (pV 1) (aCons (pE (eTup (aCons (pV 2) (aCons (pV 3) aNil)))) aNil))))
def Ky:D3:=(sSeq (sSet 1 (eLst aNil)) (sSeq Kw (sRetS 1)))
def GE:F3:=fun3 1 4 Ky
def V7:zq GE 1:=zx
def GF:D3:=(sSeq (sSet 2 (eCall GE (aCons (pV 0) aNil))) (sSeq (sIf (tAnd3 (tP (pV 2)) (tE (eOp y8 (pE (eOp zn (pE (eOp zn (pV 2) (pE (eNeg (kJ 1))))) (kJ 1))) (pV 1)))) (qM mPop (pV 2) aNil) sSkip) (sRetS 2)))
def CT:F3:=fun3 2 3 GF
def V8:zq CT 2:=zx
def Kz:D3:=(sRet (eCall jO (aCons (pV 0) (aCons (kJ 0) (aCons (kJ 16) aNil)))))
def GG:F3:=fun3 1 1 Kz
def V9:zq GG 1:=zx
def K4:D3:=(sSeq (sIf (tOr3 (tNot3 (tE (eB bIsT (aCons (pV 0) (aCons (pE (eC (.ty "tuple"))) aNil))))) (tE (eOp oNe (pE (eB bLen (aCons (pV 0) aNil))) (kJ 2)))) (sRet (eC (.bl false))) sSkip) (sRet (eAnd (eCall jO (aCons (pE (eOp zn (pV 0) (kJ 0))) (aCons (kJ 1) (aCons (kJ 1000000) aNil)))) (eCall GG (aCons (pE (eOp zn (pV 0) (kJ 1))) aNil)))))
def GH:F3:=fun3 1 1 K4
def VA:zq GH 1:=zx
def HZ:E3:=(yy 1 [] (iL (pV 0)) (gN 0) tTru (eCall GH (aCons (pV 0) aNil)))
def K5:D3:=(sSeq (sIf (tOr3 (tNot3 (tE (eB bIsT (aCons (pV 0) (aCons (pE (eC (.ty "list"))) aNil))))) (tE (eOp qx (pE (eB bLen (aCons (pV 0) aNil))) (kJ 16)))) (sRet (eC (.bl false))) sSkip) (sRet (eB (bAll fun bs=>bs.all id) (aCons (pE HZ) aNil))))
def GI:F3:=fun3 1 1 K5
def VB:zq GI 1:=zx
def K6:D3:=(sRet (eCall jO (aCons (pV 0) (aCons (kJ 1) (aCons (kJ 16) aNil)))))
def GJ:F3:=fun3 1 1 K6
def VC:zq GJ 1:=zx
def K7:D3:=(sSeq (sIf (tOr3 (tNot3 (tE (eCall GI (aCons (pV 1) aNil)))) (tNot3 (tE (eCall GJ (aCons (pV 2) aNil))))) sNever sSkip) (sSeq (qm [("Calendar" :Str)] ("stretches" :Str) (pV 0) (eCall CT (aCons (pV 1) (aCons (pV 2) aNil)))) (qm [("Calendar" :Str)] ("beyond" :Str) (pV 0) (eV 2))))
def GK:F3:=fun3 3 3 K7
def VD:zq GK 3:=zx
def K8:D3:=(zw (iL (pV 0)) (gT (gsCons (gN 6) (gsCons (gN 7) gsNil))) (sSeq (sSet 4 (eOp zy (pV 4) (pE (eOp zW (pV 7) (pE (eB bMax (aCons (kJ 0) (aCons (pE (eOp zy (pE (eOp zL (pE (eB bMin (aCons (pV 3) (aCons (pE (eOp zL (pE (eOp zy (pV 5) (pV 6))) (kJ 1))) aNil)))) (pE (eB bMax (aCons (pV 2) (aCons (pV 5) aNil)))))) (kJ 1))) aNil)))))))) (sSet 5 (eOp zy (pV 5) (pV 6)))))
def K9:D3:=(sSeq (sSet 4 (eC (.int 0))) (sSeq (sSet 5 (eC (.int 0))) (sSeq K8 (sRet (eOp zy (pV 4) (pE (eOp zW (pV 1) (pE (eB bMax (aCons (kJ 0) (aCons (pE (eOp zy (pE (eOp zL (pV 3) (pE (eB bMax (aCons (pV 2) (aCons (pV 5) aNil)))))) (kJ 1))) aNil)))))))))))
def CC:F3:=fun3 4 8 K9
def Os:zq CC 4:=zx
def KA:D3:=(sRet (eOp zn (pE (eOp zn (pE (ze [("Flow" :Str)] ("shares" :Str) (pV 0))) (pV 1))) (pV 2)))
def BM:F3:=fun3 3 3 KA
def Ot:zq BM 3:=zx
def DV:E3:=(yy 1 [5,0] (qJ (aCons (pE (eB bLen (aCons (pV 1) aNil))) aNil)) (gN 0) tTru (z9 ("Flow" :Str) ("share" :Str) BM (pV 2) (aCons (pV 0) (aCons (pV 1) aNil))))
def KB:D3:=(zw (qJ (aCons (pE (eB bLen (aCons (pE (ze [("Flow" :Str)] ("cells" :Str) (pV 0))) aNil))) aNil)) (gN 5) (sSeq (sAsg (gT (gsCons (gN 6) (gsCons (gN 7) (gsCons (gN 8) gsNil)))) (eOp zn (pE (ze [("Flow" :Str)] ("cells" :Str) (pV 0))) (pV 5))) (sSeq (sIf (tOr3 (tE (eOp je (pV 6) (pV 4))) (tE (eOp qN (pV 7) (pV 6)))) (sRet (eC (.bl false))) sSkip) (sSeq (sSet 4 (eV 7)) (sIf (tE (eOp qx (pE (eB yS (aCons (pE DV) aNil))) (pE (eCall CC (aCons (pV 2) (aCons (pV 3) (aCons (pV 6) (aCons (pV 7) aNil)))))))) (sRet (eC (.bl false))) sSkip)))))
def KC:D3:=(sSeq (sSet 4 (eNeg (kJ 1))) (sSeq KB (sRet (eC (.bl true)))))
def DW:F3:=fun3 4 9 KC
def VE:zq DW 4:=zx
def KD:D3:=(sRet (eAnd (eB bIsT (aCons (pV 0) (aCons (pE (eC (.ty "int"))) aNil))) (eNot (eB bIsT (aCons (pV 0) (aCons (pE (eC (.ty "bool"))) aNil))))))
def CU:F3:=fun3 1 1 KD
def Ou:zq CU 1:=zx
def KF:D3:=(zw (qJ (aCons (pE (eB bLen (aCons (pE (ze [("Flow" :Str)] ("cells" :Str) (pV 0))) aNil))) aNil)) (gN 4) (sSeq (sSet 5 (z9 ("Flow" :Str) ("share" :Str) BM (pV 0) (aCons (pV 2) (aCons (pV 4) aNil)))) (sSeq (sAsg (gT (gsCons (gN 6) (gsCons (gN 7) (gsCons (gN 8) gsNil)))) (eOp zn (pE (ze [("Flow" :Str)] ("cells" :Str) (pV 0))) (pV 4))) (sSeq (sFz 5) (sSeq (sIf (tOr3 (tNot3 (tE (eCall CU (aCons (pV 5) aNil)))) (tOr3 (tE (eOp qN (pV 5) (kJ 0))) (tE (eOp qx (pV 5) (pE (eOp zW (pE (eOp zn (pE (eOp zn (pV 1) (pV 2))) (kJ 4))) (pE (eOp zy (pE (eOp zL (pV 7) (pV 6))) (kJ 1))))))))) (sRet (eC .non)) sSkip) (sSeq (sIf (tAnd3 (tE (eOp qx (pV 5) (kJ 0))) (tOr3 (tE (eOp qN (pV 6) (pE (eOp zn (pE (eOp zn (pV 1) (pV 2))) (kJ 1))))) (tE (eOp qx (pV 7) (pE (eOp zn (pE (eOp zn (pV 1) (pV 2))) (kJ 2))))))) (sRet (eC .non)) sSkip) (sSet 3 (eOp zy (pV 3) (pV 5)))))))))
def KG:D3:=(sSeq (sSet 3 (eC (.int 0))) (sSeq KF (sRetS 3)))
def CV:F3:=fun3 3 9 KG
def VF:zq CV 3:=zx
def Ia:E3:=(yy 2 [0] (iL (pV 1)) (gT (gsCons (gN 0) (gsCons (gN 1) gsNil))) tTru (eB bMax (aCons (kJ 0) (aCons (pE (eOp zy (pE (eOp zL (pE (eB bMin (aCons (pE (eOp zn (pV 2) (kJ 2))) (aCons (pV 1) aNil)))) (pE (eB bMax (aCons (pE (eOp zn (pV 2) (kJ 1))) (aCons (pV 0) aNil)))))) (kJ 1))) aNil))))
def KH:D3:=(sRet (eB yS (aCons (pE Ia) aNil)))
def GL:F3:=fun3 2 2 KH
def VG:zq GL 2:=zx
def KJ:D3:=(sSeq (sSet 2 (eB bMax (aCons (kJ 0) (aCons (pE (eOp zy (pE (eOp zL (pE (eOp zn (pV 0) (kJ 2))) (pE (eOp zn (pV 0) (kJ 1))))) (kJ 1))) aNil)))) (sRet (eB bMax (aCons (kJ 0) (aCons (pE (eOp zL (pE (eOp zn (pV 0) (kJ 3))) (pE (eOp zW (pE (eOp zn (pV 0) (kJ 4))) (pE (eOp zL (pV 2) (pE (eCall GL (aCons (pV 0) (aCons (pV 1) aNil)))))))))) aNil)))))
def GM:F3:=fun3 2 3 KJ
def VH:zq GM 2:=zx
def Ib:E3:=(yy 1 [3] (iL (pV 0)) (gN 0) tTru (eCall GM (aCons (pV 0) (aCons (pV 1) aNil))))
def KL:D3:=(zw (iL (pV 3)) (gT (gsCons (gN 5) (gsCons (gN 6) gsNil))) (sSet 4 (eOp zL (pV 4) (pE (eCall CC (aCons (pV 1) (aCons (pV 2) (aCons (pV 5) (aCons (pV 6) aNil)))))))))
def KM:D3:=(sSeq (sSet 4 (eB yS (aCons (pE Ib) aNil))) (sSeq KL (sRetS 4)))
def DX:F3:=fun3 4 7 KM
def VI:zq DX 4:=zx
def KN:D3:=(sRet (eB yS (aCons (pE (ze [("Flow" :Str)] ("missing" :Str) (pV 0))) aNil)))
def DY:F3:=fun3 1 1 KN
def VJ:zq DY 1:=zx
def KO:D3:=(zw (iL (pV 0)) (gN 3) (sSeq (sIf (tOr3 (tNot3 (tE (eCall CU (aCons (pV 3) aNil)))) (tNot3 (tE (eChain qN qN (pV 2) (pV 3) (pV 1))))) (sRet (eC (.bl false))) sSkip) (sSet 2 (eV 3))))
def KP:D3:=(sSeq (sIf (tNot3 (tE (eB bIsT (aCons (pV 0) (aCons (pE (eC (.ty "list"))) aNil))))) (sRet (eC (.bl false))) sSkip) (sSeq (sSet 2 (eNeg (kJ 1))) (sSeq KO (sRet (eC (.bl true))))))
def AU:F3:=fun3 2 4 KP
def Ow:zq AU 2:=zx
def Ic:D3:=(zw (qJ (aCons (pE (eB bLen (aCons (pV 4) aNil))) aNil)) (gN 7) (sSeq (sFz 4) (sSeq (sFz 5) (sSeq (sSet 8 (eCall CV (aCons (pV 5) (aCons (pV 4) (aCons (pV 7) aNil))))) (sSeq (sIf (tOr3 (tE (eOp (oIsN false) (pV 8) (pE (eC .non)))) (tE (eOp qx (pV 8) (pE (eOp zn (pE (eOp zn (pV 4) (pV 7))) (kJ 3)))))) (sRet (eC (.bl false))) sSkip) (sSet 6 (eOp zL (pE (eOp zy (pV 6) (pE (eOp zn (pE (eOp zn (pV 4) (pV 7))) (kJ 3))))) (pV 8))))))))
def GN:E3:=(yy 1 [5] (iL (pE (eOp zn (pV 9) (kJ 0)))) (gN 0) tTru (eTup (aCons (pE (eOp zn (pE (eOp zn (pE (ze [("Flow" :Str)] ("cells" :Str) (pV 1))) (pV 0))) (kJ 0))) (aCons (pE (eOp zn (pE (eOp zn (pE (ze [("Flow" :Str)] ("cells" :Str) (pV 1))) (pV 0))) (kJ 1))) aNil))))
def KQ:D3:=(sSeq (sAsg (gT (gsCons (gN 1) (gsCons (gN 2) (gsCons (gN 3) gsNil)))) (eCall FE (aCons (pE (eCall AS (aCons (pV 0) (aCons (kJ 0) aNil)))) aNil))) (sSeq (sSet 4 (eCall FJ (aCons (pV 0) (aCons (pV 3) aNil)))) (sSeq (sSet 5 (eNew ("Flow" :Str) GD (aCons (pE (eB bList (aCons (pV 4) aNil))) (aCons (pE (eObj (eNew ("Calendar" :Str) GK (aCons (pE (eB bList (aCons (pV 1) aNil))) (aCons (pV 2) aNil))))) aNil)))) (sSeq (sFz 4) (sSeq (sFz 5) (sSeq (sIf (tNot3 (tE (eCall DW (aCons (pV 5) (aCons (pV 4) (aCons (pV 1) (aCons (pV 2) aNil))))))) (sRet (eC (.bl false))) sSkip) (sSeq (sSet 6 (eC (.int 0))) (sSeq Ic (sSeq (sSet 9 (z9 ("Flow" :Str) ("cut" :Str) DU (pV 5) aNil)) (sSeq (sIf (tOr3 (tNot3 (tE (eB bIsT (aCons (pV 9) (aCons (pE (eC (.ty "tuple"))) aNil))))) (tOr3 (tE (eOp oNe (pE (eB bLen (aCons (pV 9) aNil))) (kJ 2))) (tE (eOp oNe (pE (z9 ("Flow" :Str) ("lacking" :Str) DY (pV 5) aNil)) (pV 6))))) (sRet (eC (.bl false))) sSkip) (sSeq (sIf (tOr3 (tNot3 (tE (eCall AU (aCons (pE (eOp zn (pV 9) (kJ 0))) (aCons (pE (eB bLen (aCons (pE (ze [("Flow" :Str)] ("cells" :Str) (pV 5))) aNil))) aNil))))) (tNot3 (tE (eCall AU (aCons (pE (eOp zn (pV 9) (kJ 1))) (aCons (pE (eB bLen (aCons (pV 4) aNil))) aNil)))))) (sRet (eC (.bl false))) sSkip) (sSeq (sIf (tE (eOp y8 (pV 6) (kJ 0))) (sRet (eOp y8 (pV 9) (pE (eTup (aCons (pE (eLst aNil)) (aCons (pE (eLst aNil)) aNil)))))) sSkip) (sSeq (sFz 5) (sSeq (sSet 10 GN) (sSeq (sFz 10) (sSeq (sFz 4) (sRet (eOp y8 (pE (eCall DX (aCons (pV 4) (aCons (pV 1) (aCons (pV 2) (aCons (pV 10) aNil)))))) (pV 6)))))))))))))))))))
def f_law:F3:=fun3 1 11 KQ
end My
namespace My
open PySem PySem.Spec PyProof.Rows L2 L3
noncomputable def zV (i:Nat):Stmt:=PySem.Challenge.pw_dueyard_k23_whole_greatest_flow.main.body.getD i (.Pass ⟨0,0,0,0⟩)
abbrev Ox:Stmt:=zV 47
def o0:FnScope ["_law_cell","_law_k","_law_number"] ["_law_cell","_law_k"] (zA Ox):=zu
abbrev Oy:Stmt:=zV 49
def o1:FnScope ["_law_cell","_law_by","_law_rows_here","_law_k","_law_number","_law_rest"] ["_law_cell"] (zA Oy):=zu
abbrev Oz:Stmt:=zV 45
def o2:FnScope ["_law_script","_law_k"] ["_law_script","_law_k"] (zA Oz):=zu
abbrev Ie:Stmt:=zV 48
def o3:FnScope ["_law_cell","_law_many","_law_signs","_law_base","_law_first","_law_at","_law_names_here","_law_k","_law_sign"] ["_law_cell","_law_many"] (zA Ie):=zu
abbrev O0:Stmt:=zV 50
def o4:FnScope ["_law_script","_law_by","_law_cell","_law_many","_law_far","_law_names_here","_law_load_here","_law_k","_law_number","_law_first","_law_last","_law_work","_law_breadth"] ["_law_script","_law_by"] (zA O0):=zu
abbrev KR:Stmt:=zV 20
def o5:FnScope ["thing"] ["thing"] (zA KR):=zu
abbrev O1:Stmt:=zV 10
def o6:FnScope ["thing"] ["thing"] (zA O1):=zu
abbrev O2:Stmt:=zV 11
def o7:FnScope ["thing","low","high"] ["thing","low","high"] (zA O2):=zu
abbrev O4:Stmt:=zV 21
def o8:FnScope ["first","last","work","breadth"] ["first","last","work","breadth"] (zA O4):=zu
abbrev O5:Stmt:=zV 22
def o9:FnScope ["load","names","name","first","last","work","breadth"] ["load"] (zA O5):=zu
abbrev O6:Stmt:=zV 23
def VL:FnScope ["job"] ["job"] (zA O6):=zu
abbrev O7:Stmt:=qB (zV 43) 7
def DZ:FnScope ["self","first","last","told","stop","many","machines"] ["self","first","last"] (zA O7):=zu
abbrev O8:Stmt:=zV 26
def KS:FnScope ["load","calendar","told","job"] ["load","calendar"] (zA O8):=zu
abbrev KU:Stmt:=zV 25
def VM:FnScope ["load","turn"] ["load","turn"] (zA KU):=zu
abbrev O9:Stmt:=qB (zV 43) 3
def GO:FnScope ["self","turn","stop","many","machines"] ["self","turn"] (zA O9):=zu
abbrev OA:Stmt:=zV 27
def GP:FnScope ["load","calendar","told","turns","start","stop"] ["load","calendar"] (zA OA):=zu
abbrev OB:Stmt:=qB (zV 32) 7
def AV:FnScope ["self","steps","by","job","taken","given"] ["self","steps"] (zA OB):=zu
abbrev OC:Stmt:=qB (zV 32) 1
def Ig:FnScope ["self","job","most","cell"] ["self"] (zA OC):=zu
abbrev OD:Stmt:=qB (zV 31) 0
def OE:FnScope ["self","lacking_jobs","job"] ["self","lacking_jobs"] (zA OD):=zu
abbrev KW:Stmt:=qB (zV 32) 5
def VN:FnScope ["self","job"] ["self","job"] (zA KW):=zu
abbrev KY:Stmt:=qB (zV 32) 6
def VO:FnScope ["self","cell"] ["self","cell"] (zA KY):=zu
abbrev Ih:Stmt:=qB (zV 32) 4
def CW:FnScope ["self","waiting","reach","job","cell","fresh","other"] ["self"] (zA Ih):=zu
abbrev OF:Stmt:=qB (zV 31) 1
def Ii:FnScope ["self","cell","steps","job"] ["self","cell"] (zA OF):=zu
abbrev OG:Stmt:=qB (zV 32) 3
def KZ:FnScope ["self","reach","cell"] ["self"] (zA OG):=zu
abbrev OH:Stmt:=qB (zV 32) 2
def La:FnScope ["self","steps"] ["self"] (zA OH):=zu
abbrev Lb:Stmt:=zV 28
def VQ:FnScope ["job","some"] ["job","some"] (zA Lb):=zu
abbrev OI:Stmt:=zV 30
def Lc:FnScope ["job","some","most","place"] ["job","some"] (zA OI):=zu
abbrev EA:Stmt:=qB (zV 32) 0
def VR:FnScope ["self","load","calendar"] ["self","load","calendar"] (zA EA):=zu
abbrev OJ:Stmt:=qB (zV 32) 13
def OK:FnScope ["self","reach"] ["self"] (zA OJ):=zu
abbrev OL:Stmt:=zV 41
def Ij:FnScope ["rows","told","many","machines"] ["rows"] (zA OL):=zu
abbrev OM:Stmt:=zV 42
def ON:FnScope ["rows","rest","told"] ["rows","rest"] (zA OM):=zu
abbrev OO:Stmt:=zV 37
def VS:FnScope ["thing"] ["thing"] (zA OO):=zu
abbrev OP:Stmt:=zV 39
def VT:FnScope ["thing"] ["thing"] (zA OP):=zu
abbrev Ld:Stmt:=zV 40
def VU:FnScope ["thing"] ["thing"] (zA Ld):=zu
abbrev OQ:Stmt:=zV 38
def VV:FnScope ["thing"] ["thing"] (zA OQ):=zu
abbrev OR:Stmt:=qB (zV 43) 0
def VW:FnScope ["self","rows","rest"] ["self","rows","rest"] (zA OR):=zu
abbrev OS:Stmt:=zV 51
def CY:FnScope ["_law_rows_here","_law_rest","_law_first","_law_last","_law_total","_law_begin","_law_many","_law_machines"] ["_law_rows_here","_law_rest","_law_first","_law_last"] (zA OS):=zu
abbrev OT:Stmt:=qB (zV 32) 8
def VX:FnScope ["self","job","cell"] ["self","job","cell"] (zA OT):=zu
abbrev Lf:Stmt:=zV 56
def CZ:FnScope ["_law_flow","_law_load_here","_law_rows_here","_law_rest","_law_behind","_law_j","_law_first","_law_last","_law_machines"] ["_law_flow","_law_load_here","_law_rows_here","_law_rest"] (zA Lf):=zu
abbrev OU:Stmt:=zV 46
def VY:FnScope ["_law_found"] ["_law_found"] (zA OU):=zu
abbrev OV:Stmt:=zV 55
def CD:FnScope ["_law_flow","_law_load_here","_law_k","_law_done_here","_law_j","_law_share","_law_first","_law_last","_law_machines"] ["_law_flow","_law_load_here","_law_k"] (zA OV):=zu
abbrev Lg:Stmt:=zV 52
def VZ:FnScope ["_law_job","_law_spans"] ["_law_job","_law_spans"] (zA Lg):=zu
abbrev OW:Stmt:=zV 53
def OX:FnScope ["_law_job","_law_spans","_law_window"] ["_law_job","_law_spans"] (zA OW):=zu
abbrev Lh:Stmt:=zV 54
def GQ:FnScope ["_law_load_here","_law_rows_here","_law_rest","_law_spans","_law_total","_law_first","_law_last"] ["_law_load_here","_law_rows_here","_law_rest","_law_spans"] (zA Lh):=zu
abbrev OY:Stmt:=qB (zV 32) 12
def Wa:FnScope ["self"] ["self"] (zA OY):=zu
abbrev OZ:Stmt:=zV 57
def Ik:FnScope ["_law_found","_law_many","_law_last","_law_place"] ["_law_found","_law_many"] (zA OZ):=zu
abbrev Li:Stmt:=zV 58
def AA:FnScope ["_law_script","_law_rows_here","_law_rest","_law_by","_law_load_here","_law_flow","_law_lack","_law_k","_law_done_here","_law_cut","_law_spans"] ["_law_script"] (zA Li):=zu
set_option genInjectivity false in
structure Txt (K:FG) (mg:Str->Option Value) where
 q0:Addr
 q1:FuncData
 q2:Dfn K mg "_law_mixed" Ox ["_law_cell","_law_k"] q0 q1
 q3:Addr
 q4:FuncData
 q5:Dfn K mg "_law_rows" Oy ["_law_cell"] q3 q4
 q6:Addr
 q7:FuncData
 q8:Dfn K mg "_law_cell_at" Oz ["_law_script","_law_k"] q6 q7
 q9:Addr
 q10:FuncData
 q11:Dfn K mg "_law_names" Ie ["_law_cell","_law_many"] q9 q10
 q12:Addr
 q13:FuncData
 q14:Dfn K mg "_law_load" O0 ["_law_script","_law_by"] q12 q13
 q15:Addr
 q16:FuncData
 q17:Dfn K mg "is_name" KR ["thing"] q15 q16
 q18:Addr
 q19:FuncData
 q20:Dfn K mg "is_whole" O1 ["thing"] q18 q19
 q21:Addr
 q22:FuncData
 q23:Dfn K mg "is_whole_between" O2 ["thing","low","high"] q21 q22
 q24:Addr
 q25:FuncData
 q26:Dfn K mg "are_numbers_of_job" O4 ["first","last","work","breadth"] q24 q25
 q27:Addr
 q28:FuncData
 q29:Dfn K mg "check_load" O5 ["load"] q27 q28
 q30:Addr
 q31:FuncData
 q32:Dfn K mg "turns_of" O6 ["job"] q30 q31
 q33:Addr
 q34:FuncData
 q35:Dfn K mg "borders" O8 ["load","calendar"] q33 q34
 q36:Addr
 q37:FuncData
 q38:Dfn K mg "is_in_a_window" KU ["load","turn"] q36 q37
 q39:Addr
 q40:FuncData
 q41:Dfn K mg "cells" OA ["load","calendar"] q39 q40
 q42:Addr
 q43:FuncData
 q44:Dfn K mg "cells_within" Lb ["job","some"] q42 q43
 q45:Addr
 q46:FuncData
 q47:Dfn K mg "most_shares" OI ["job","some"] q45 q46
 q48:Addr
 q49:FuncData
 q50:Dfn K mg "neighbours_as_one" OL ["rows"] q48 q49
 q51:Addr
 q52:FuncData
 q53:Dfn K mg "kept_rows" OM ["rows","rest"] q51 q52
 q54:Addr
 q55:FuncData
 q56:Dfn K mg "is_machines" OO ["thing"] q54 q55
 q57:Addr
 q58:FuncData
 q59:Dfn K mg "is_calendar_row" OP ["thing"] q57 q58
 q60:Addr
 q61:FuncData
 q62:Dfn K mg "are_calendar_rows" Ld ["thing"] q60 q61
 q63:Addr
 q64:FuncData
 q65:Dfn K mg "is_rest" OQ ["thing"] q63 q64
 q66:Addr
 q67:FuncData
 q68:Dfn K mg "_law_over" OS ["_law_rows_here","_law_rest","_law_first","_law_last"] q66 q67
 q69:Addr
 q70:FuncData
 q71:Dfn K mg "_law_lawful" Lf ["_law_flow","_law_load_here","_law_rows_here","_law_rest"] q69 q70
 q72:Addr
 q73:FuncData
 q74:Dfn K mg "_law_whole" OU ["_law_found"] q72 q73
 q75:Addr
 q76:FuncData
 q77:Dfn K mg "_law_done" OV ["_law_flow","_law_load_here","_law_k"] q75 q76
 q78:Addr
 q79:FuncData
 q80:Dfn K mg "_law_inside" Lg ["_law_job","_law_spans"] q78 q79
 q81:Addr
 q82:FuncData
 q83:Dfn K mg "_law_excess" OW ["_law_job","_law_spans"] q81 q82
 q84:Addr
 q85:FuncData
 q86:Dfn K mg "_law_overflow" Lh ["_law_load_here","_law_rows_here","_law_rest","_law_spans"] q84 q85
 q87:Addr
 q88:FuncData
 q89:Dfn K mg "_law_rising" OZ ["_law_found","_law_many"] q87 q88
 f_law:Addr
 fd_law:FuncData
 d_law:Dfn K mg "law" Li ["_law_script"] f_law fd_law
 q90:Addr
 q91:Cls K q90
 q92:mg "Reach" =some (.ref q90)
 q93:Addr
 q94:FuncData
 q95:DfnM K "__init__" "Reach.__init__" OD ["self","lacking_jobs"] q93 q94
 q96:Addr
 q97:FuncData
 q98:DfnM K "steps_to" "Reach.steps_to" OF ["self","cell"] q96 q97
 q99:Meth K q90 "steps_to" q96
 q100:Mk K q90 q93
 q101:NoAttr K q90 "job_ahead"
 q102:NoAttr K q90 "cell_ahead"
 q103:Addr
 q104:Cls K q103
 q105:mg "Flow" =some (.ref q103)
 q106:Addr
 q107:FuncData
 q108:DfnM K "shift" "Flow.shift" OB ["self","steps"] q106 q107
 q109:Meth K q103 "shift" q106
 q110:Addr
 q111:FuncData
 q112:DfnM K "take_straight" "Flow.take_straight" OC ["self"] q110 q111
 q113:Meth K q103 "take_straight" q110
 q114:Addr
 q115:FuncData
 q116:DfnM K "cells_behind" "Flow.cells_behind" KW ["self","job"] q114 q115
 q117:Meth K q103 "cells_behind" q114
 q118:Addr
 q119:FuncData
 q120:DfnM K "jobs_behind" "Flow.jobs_behind" KY ["self","cell"] q118 q119
 q121:Meth K q103 "jobs_behind" q118
 q122:Addr
 q123:FuncData
 q124:DfnM K "reached" "Flow.reached" Ih ["self"] q122 q123
 q125:Meth K q103 "reached" q122
 q126:Addr
 q127:FuncData
 q128:DfnM K "steps_to_spare" "Flow.steps_to_spare" OG ["self"] q126 q127
 q129:Meth K q103 "steps_to_spare" q126
 q130:Addr
 q131:FuncData
 q132:DfnM K "take_by_ways" "Flow.take_by_ways" OH ["self"] q130 q131
 q133:Meth K q103 "take_by_ways" q130
 q134:Addr
 q135:FuncData
 q136:DfnM K "__init__" "Flow.__init__" EA ["self","load","calendar"] q134 q135
 q137:Addr
 q138:FuncData
 q139:DfnM K "cut" "Flow.cut" OJ ["self"] q137 q138
 q140:Meth K q103 "cut" q137
 q141:Addr
 q142:FuncData
 q143:DfnM K "share" "Flow.share" OT ["self","job","cell"] q141 q142
 q144:Meth K q103 "share" q141
 q145:Addr
 q146:FuncData
 q147:DfnM K "lacking" "Flow.lacking" OY ["self"] q145 q146
 q148:Meth K q103 "lacking" q145
 q149:Mk K q103 q134
 q150:NoAttr K q103 "cells"
 q151:NoAttr K q103 "load"
 q152:NoAttr K q103 "most"
 q153:NoAttr K q103 "shares"
 q154:NoAttr K q103 "missing"
 q155:NoAttr K q103 "spare"
 q156:Addr
 q157:Cls K q156
 q158:mg "Calendar" =some (.ref q156)
 q159:Addr
 q160:FuncData
 q161:DfnM K "changes" "Calendar.changes" O7 ["self","first","last"] q159 q160
 q162:Meth K q156 "changes" q159
 q163:Addr
 q164:FuncData
 q165:DfnM K "at" "Calendar.at" O9 ["self","turn"] q163 q164
 q166:Meth K q156 "at" q163
 q167:Addr
 q168:FuncData
 q169:DfnM K "__init__" "Calendar.__init__" OR ["self","rows","rest"] q167 q168
 q170:Mk K q156 q167
 q171:NoAttr K q156 "stretches"
 q172:NoAttr K q156 "beyond"
 q173:mg "all" =none
 q174:mg "any" =none
 q175:mg "bool" =none
 q176:mg "enumerate" =none
 q177:mg "int" =none
 q178:mg "isinstance" =none
 q179:mg "len" =none
 q180:mg "list" =none
 q181:mg "max" =none
 q182:mg "min" =none
 q183:mg "range" =none
 q184:mg "set" =none
 q185:mg "sorted" =none
 q186:mg "str" =none
 q187:mg "sum" =none
 q188:mg "tuple" =none
 q189:mg "zip" =none
 q190:Tok
 q191:mg "LAST_TURN" =some (.int 10000000000 q190)
 q192:Tok
 q193:mg "LETTERS" =some (.str ("abcdefghijklmnopqrstuvwxyz" :Str) q192)
 q194:Tok
 q195:mg "LETTERS_AND_FIGURES" =some (.str ("abcdefghijklmnopqrstuvwxyz0123456789" :Str) q194)
 q196:Tok
 q197:mg "MOST_SIGNS" =some (.int 8 q196)
 q198:Tok
 q199:mg "MOST_JOBS" =some (.int 12 q198)
 q200:Tok
 q201:mg "LATEST_FIRST" =some (.int 1000000000 q200)
 q202:Tok
 q203:mg "MOST_WORK" =some (.int 60 q202)
 q204:Tok
 q205:mg "MOST_BREADTH" =some (.int 16 q204)
 q206:Tok
 q207:mg "MOST_ROWS" =some (.int 16 q206)
 q208:Tok
 q209:mg "MOST_TURNS_OF_ROW" =some (.int 1000000 q208)
 q210:Tok
 q211:mg "MOST_MACHINES" =some (.int 16 q210)
noncomputable def kx {K:FG} {mg:Str->Option Value} (T:Txt K mg):Kx:=⟨K,fun c=>([(("Reach" :Str),T.q90),(("Flow" :Str),T.q103),(("Calendar" :Str),T.q156)]:List (Str×Addr)).lookup c⟩
section
variable {P:Program} {w:World} {K:FG} {mg:Str->Option Value} {base:Heap}
theorem EB (T:Txt K mg):FnOk P w K mg base (XT P w) 1 T.q0 T.q1 ["_law_cell","_law_k"] (zo (kx T) 2 AR):=z7 T.q2.F o0 fun cdv A outer s H E hr=>by unfold JE;exact (zl (zH 2 o0.nd (zm yC yF (zb (zm qr qC (zb (zm yp yq (za 0) (zb (zm qr qC zg (za 1))))) zg)) zg)) (zl (zH 2 o0.nd (zm yC yF (zb (zm qr qC (za 2) (za 2))) zg)) (zp (zY (zm yC yF (zb (zm yp yq (zb (zm yp yq (zb (zm qr qC (za 2) (za 2))) (zb (zm qr qC zg (za 2))))) zg)) zg)))))
theorem Wb (T:Txt K mg):FnOk P w K mg base (XT P w) 2 T.q3 T.q4 ["_law_cell"] (zo (kx T) 1 FE):=z7 T.q5.F o1 fun cdv A outer s H E hr=>by unfold JG JF;exact (zl (zH 1 o1.nd jS) (zl (yj (yf jq (qZ (qt hr)) (yh _) (zb (zm yC yF (zb (zm qq qy (za 0) zg)) zg)) zg) (zp (zH 1 o1.nd (zm yp yq zg (zb (zm yC yF (zb (ye DQ (EB T) hr T.q2 (zc (za 0) (zc zg zi)))) zg))))) yk) (zl (zH 2 o1.nd (qH zi)) (zl (yX (BH rfl T.q183 (zc (zb (zm yC yF (za 0) zg)) zi)) (zZ 3 o1.nd) (zl (zH 4 o1.nd (zm T2 QV (zb (zm T5 QU (zb (zm qq qy (za 0) zg)) (zb (zm qr qC zg (za 3))))) zg)) (zl (yj (yf jq (qZ (qt hr)) (yh _) (zb (zm yC yF (zb (zm qq qy (za 0) zg)) zg)) zg) (zp (zH 4 o1.nd (ye DQ (EB T) hr T.q2 (zc (za 0) (zc (zb (zm yp yq zg (za 3))) zi))))) yk) (zp (jI BW rfl Do Dp BC (za 2) (zc (zb (jL (zc (zb (zm qr qC (za 1) (zb (zm yp yq zg (zb (zm yC yF (za 4) zg)))))) (zc (zb (zm yC yF (zb (zm qq qy (za 4) zg)) zg)) zi)))) zi)))))) (zl (zH 5 o1.nd (zm yp yq zg (zb (zm yC yF (zb (zm qq qy (za 0) zg)) zg)))) (zl (yj (yf jq (qZ (qt hr)) (yh _) (zb (zm yC yF (zb (zm qq qy (za 0) zg)) zg)) zg) (zp (zH 5 o1.nd jS)) yk) (yL 1 (yL 5 (yL 2 (zp (zY (jL (zc (za 2) (zc (za 5) (zc (za 1) zi)))))))))))))))
theorem Il (T:Txt K mg):FnOk P w K mg base (XT P w) 1 T.q6 T.q7 ["_law_script","_law_k"] (zo (kx T) 2 AS):=z7 T.q8.F o2 fun cdv A outer s H E hr=>by unfold HK;exact (zl (yj (yf AG AC (yh _) (za 1) (zb (yb jg (qX rfl) T.q179 Ca (zc (za 0) zi)))) (zp (zY (BY (za 0) (za 1)))) yk) (zp (zY jS)))
theorem Wc (T:Txt K mg):FnOk P w K mg base (XT P w) 2 T.q9 T.q10 ["_law_cell","_law_many"] (zo (kx T) 2 FI):=z7 T.q11.F o3 fun cdv A outer s H E hr=>by unfold JI JH FH FF;exact (zl (DH (i:=2) o3.nd rfl (Or.inr rfl) MZ) (zl (DH (i:=3) o3.nd rfl (Or.inr rfl) (Uk rfl (zb MZ) (zc (zb (qP (loc:=["_law_j"]) (free:=["_law_signs","_law_cell"]) (fr:=[2,0]) rfl (qo (sc:=zA Ie) (N:=(["_law_cell","_law_many","_law_signs","_law_base","_law_first","_law_at","_law_names_here","_law_k","_law_sign"]:List Str)) rfl rfl (by decide+kernel)) (BH rfl T.q183 (zc zg zi)) (fun _ _ _ _ _=>(zJ 0 (["_law_j","_law_signs","_law_cell"]:List Str))) (fun _ _ _ _ _=>jh) (fun _ _ _ _ _=>(BY (za 1) (zb (zm yC yF (zb (EY DQ (EB T) (hr.mono (by decide)) (by rfl) T.q2.g T.q2.F.kp T.q2.b EZ (zc (za 2) (zc (za 0) zi)))) zg)))))) zi))) (zl (DH (i:=4) o3.nd rfl (Or.inr rfl) (BY (za 2) (zb (zm yC yF (zb (ye DQ (EB T) hr T.q2 (zc (za 0) (zc zg zi)))) zg)))) (zl (yj (PW.pt (EU (yf jq (qZ (qt hr)) (yh _) (zb (zm yC yF (za 0) zg)) zg) (ET (yf AG AC (yh _) (za 1) zg)))) (yL 3 (zp (zY (qP (loc:=["_law_k"]) (free:=["_law_first","_law_base"]) (fr:=[4,3]) rfl (qo (sc:=zA Ie) (N:=(["_law_cell","_law_many","_law_signs","_law_base","_law_first","_law_at","_law_names_here","_law_k","_law_sign"]:List Str)) rfl rfl (by decide+kernel)) (BH rfl T.q183 (zc (za 1) zi)) (fun _ _ _ _ _=>(zJ 0 (["_law_k","_law_first","_law_base"]:List Str))) (fun _ _ _ _ _=>jh) (fun _ _ _ _ _=>(zm yp yq (za 1) (zb (r_sl rfl (za 2) HA (HB (za 0)))))))))) yk) (zl (zH 5 o3.nd (zm yC yF (zb (zm qq qy (za 0) zg)) zg)) (zl (zH 6 o3.nd (qH zi)) (zl (yX (BH rfl T.q183 (zc (za 1) zi)) (zZ 7 o3.nd) (zl (zH 8 o3.nd (BY (za 2) (zb (zm yC yF (zb (zm yp yq (za 0) (zb (zm qr qC zg (za 7))))) zg)))) (zp (jI BW rfl Do Dp BC (za 6) (zc (zb (zm yp yq (zb (zm yp yq (zb (zm yp yq (za 4) (zb (r_sl rfl (za 3) HA (HB (za 5)))))) (za 8))) (zb (r_sl rfl (za 3) (HB (zb (zm yp yq (za 5) zg))) HA)))) zi))))) (zp (jG (pv 6))))))))))
theorem Wd (T:Txt K mg):FnOk P w K mg base (XT P w) 3 T.q12 T.q13 ["_law_script","_law_by"] (zo (kx T) 2 FJ):=z7 T.q14.F o4 fun cdv A outer s H E hr=>by unfold JK JJ;exact (zl (zH 2 o4.nd (ye HL (Il T) hr T.q8 (zc (za 0) (zc zg zi)))) (zl (zH 3 o4.nd (zm yC yF (za 2) zg)) (zl (yj (yf jq (qZ (qt hr)) (yh _) (zb (zm yC yF (zb (zm qq qy (za 2) zg)) zg)) zg) (zp (zH 3 o4.nd (zm yp yq zg (zb (zm yC yF (zb (zm qq qy (zb (zm qq qy (za 2) zg)) zg)) zg))))) yk) (zl (zH 4 o4.nd jS) (zl (yj (yf jq (qZ (qt hr)) (yh _) (zb (zm yC yF (zb (zm qq qy (za 2) zg)) zg)) zg) (yL 2 (zp (zH 4 o4.nd (zm yC yF (zb (ye DQ (EB T) hr T.q2 (zc (za 2) (zc zg zi)))) (zb (zm qr qC zg (zb (zm T4 QT zg zg)))))))) yk) (yL 3 (zl (zH 5 o4.nd (ye Vj (Wc T) hr T.q11 (zc (zb (ye HL (Il T) hr T.q8 (zc (za 0) (zc zg zi)))) (zc (za 3) zi)))) (zl (zH 6 o4.nd (qH zi)) (yL 3 (zl (yX (BH rfl T.q183 (zc (za 3) zi)) (zZ 7 o4.nd) (zl (zH 8 o4.nd (ye HL (Il T) hr T.q8 (zc (za 0) (zc (zb (zm yp yq zg (za 7))) zi)))) (zl (yj (yf jq (qZ (qt hr)) (yh _) (zb (zm yC yF (zb (zm qq qy (za 2) zg)) zg)) zg) (yL 8 (zp (zH 8 o4.nd (ye DQ (EB T) hr T.q2 (zc (za 8) (zc (za 7) zi)))))) yk) (zl (zH 9 o4.nd (zm yp yq (za 4) (zb (zm qr qC (za 1) (zb (zm yC yF (za 8) zg)))))) (zl (zH 10 o4.nd (zm qu qL (zb (zm yp yq (za 9) (zb (zm qr qC (za 1) (zb (zm yp yq zg (zb (zm yC yF (zb (zm qq qy (za 8) zg)) zg)))))))) zg)) (zl (yj (yf jq (qZ (qt hr)) (yh _) (zb (zm yC yF (zb (zm qq qy (za 8) zg)) zg)) zg) (zp (zH 10 o4.nd (zm qu qL (za 9) zg))) yk) (zl (zH 11 o4.nd (zm yp yq zg (zb (zm yC yF (zb (zm qq qy (za 8) zg)) (zD (zb (qH (zc zg (zc zg (zc zg zi))))) (zb (zm yC yF (zb (zm qq qy (za 8) zg)) zg))))))) (zl (zH 12 o4.nd (zm yp yq zg (zb (zm yC yF (zb (zm qq qy (za 8) zg)) (zD (zb (qH (zc zg (zc zg (zc zg (zc zg zi)))))) (zb (zm yC yF (zb (zm qq qy (za 8) zg)) zg))))))) (yL 12 (yL 11 (yL 9 (zp (jI BW rfl Do Dp BC (za 6) (zc (zb (jL (zc (zD (za 5) (za 7)) (zc (za 9) (zc (za 10) (zc (za 11) (zc (za 12) zi))))))) zi)))))))))))))) (zp (jG (pv 6)))))))))))))
theorem We (T:Txt K mg):FnOk P w K mg base (XT P w) 1 T.q15 T.q16 ["thing"] (zo (kx T) 1 FK):=z7 T.q17.F o5 fun cdv A outer s H E hr=>by unfold JL HM;exact (zl (yj (PW.pt (qU (qD (qF (yb BF (BG rfl) T.q178 C8 (zc (za 0) (zc (zb (yQ (AX (v:= .ty "str") (by rfl) T.q186 PyProof.Rows.boot_str rfl) fun _ _ _=>.ty _)) zi))))) (jy (qD (Jv AH AH AD AD zg (zb (yb jg (qX rfl) T.q179 Ca (zc (za 0) zi))) (zb (yQ (jB (v:= .int 8) (by rfl) T.q197 ⟨_,rfl⟩) fun _ _ _=>.int _))))))) (zp (zY yz)) yk) (zp (zY (DF (Hq N1 LQ (by with_unfolding_all rfl) (zD (za 0) zg) (zb (yQ (jB (v:= .str ("abcdefghijklmnopqrstuvwxyz" :Str)) (by rfl) T.q193 ⟨_,rfl⟩) fun _ _ _=>.str _))) (DG (yb Jq (Nn rfl rfl) T.q173 PyProof.Rows.boot_all (zc (zb (qP (loc:=["sign"]) (free:=[]) (fr:=[]) rfl (qo (sc:=zA KR) (N:=(["thing"]:List Str)) rfl rfl (by decide+kernel)) (Uc (za 0)) (fun _ _ _ _ _=>(zJ 0 (["sign"]:List Str))) (fun _ _ _ _ _=>jh) (fun _ _ _ _ _=>(Hq N1 LQ (by with_unfolding_all rfl) (za 0) (zb (yQ (jB (v:= .str ("abcdefghijklmnopqrstuvwxyz0123456789" :Str)) (by rfl) T.q195 ⟨_,rfl⟩) fun _ _ _=>.str _)))))) zi)))))))
theorem Wf (T:Txt K mg):FnOk P w K mg base (XT P w) 1 T.q18 T.q19 ["thing"] (zo (kx T) 1 FL):=z7 T.q20.F o6 fun cdv A outer s H E hr=>by unfold JM;exact (zp (zY (DF (yb BF (BG rfl) T.q178 C8 (zc (za 0) (zc (zb (yQ (AX (v:= .ty "int") (by rfl) T.q177 PyProof.Rows.boot_int rfl) fun _ _ _=>.ty _)) zi))) (DG (Nb (yb BF (BG rfl) T.q178 C8 (zc (za 0) (zc (zb (yQ (AX (v:= .ty "bool") (by rfl) T.q175 PyProof.Rows.boot_bool rfl) fun _ _ _=>.ty _)) zi))))))))
theorem DA (T:Txt K mg):FnOk P w K mg base (XT P w) 2 T.q21 T.q22 ["thing","low","high"] (zo (kx T) 3 jO):=z7 T.q23.F o7 fun cdv A outer s H E hr=>by unfold JN;exact (zp (zY (DF (ye Vn (Wf T) hr T.q20 (zc (za 0) zi)) (DG (Nu AH AH AD AD (za 1) (za 0) (za 2))))))
theorem Wg (T:Txt K mg):FnOk P w K mg base (XT P w) 3 T.q24 T.q25 ["first","last","work","breadth"] (zo (kx T) 4 FN):=z7 T.q26.F o8 fun cdv A outer s H E hr=>by unfold JO;exact (zl (yj (PW.pt (qU (qD (qF (ye CQ (DA T) hr T.q23 (zc (za 0) (zc zg (zc (zb (yQ (jB (v:= .int 1000000000) (by rfl) T.q201 ⟨_,rfl⟩) fun _ _ _=>.int _)) zi)))))) (jy (qD (qF (ye CQ (DA T) hr T.q23 (zc (za 1) (zc (zb (BI zg)) (zc (zb (yQ (jB (v:= .int 10000000000) (by rfl) T.q191 ⟨_,rfl⟩) fun _ _ _=>.int _)) zi))))))))) (zp (zY yz)) yk) (zp (zY (DF (ye CQ (DA T) hr T.q23 (zc (za 2) (zc zg (zc (zb (yQ (jB (v:= .int 60) (by rfl) T.q203 ⟨_,rfl⟩) fun _ _ _=>.int _)) zi)))) (DG (ye CQ (DA T) hr T.q23 (zc (za 3) (zc zg (zc (zb (yQ (jB (v:= .int 16) (by rfl) T.q205 ⟨_,rfl⟩) fun _ _ _=>.int _)) zi)))))))))
theorem Wh (T:Txt K mg):FnOk P w K mg base (XT P w) 4 T.q27 T.q28 ["load"] (zo (kx T) 1 FO):=z7 T.q29.F o9 fun cdv A outer s H E hr=>by unfold JQ JP;exact (zl (yj (yf jP jH (yh _) (zb (yb jg (qX rfl) T.q179 Ca (zc (za 0) zi))) (zb (yQ (jB (v:= .int 12) (by rfl) T.q199 ⟨_,rfl⟩) fun _ _ _=>.int _))) (zp EX) yk) (zl (zH 1 o9.nd (qH zi)) (zl (yX (yY (za 0)) (qk (n:=5) (qW rfl (zS (zZ 2 o9.nd) (zS (zZ 3 o9.nd) (zS (zZ 4 o9.nd) (zS (zZ 5 o9.nd) (zS (zZ 6 o9.nd) qh zR) zR) zR) zR) zR)) (zT (zT (zT (zT (zT qi)))))) (zl (yj (qD (qF (ye Vm (We T) hr T.q17 (zc (za 2) zi)))) (zp EX) yk) (zl (yj (yf Ue (Uh rfl (qt hr)) (by with_unfolding_all rfl) (za 2) (za 1)) (zp EX) yk) (zl (yj (qD (qF (ye Vo (Wg T) hr T.q26 (zc (za 3) (zc (za 4) (zc (za 5) (zc (za 6) zi))))))) (zp EX) yk) (zp (jI BW rfl Do Dp BC (za 1) (zc (za 2) zi))))))) (zp (zY yz)))))
theorem Wi (T:Txt K mg):FnOk P w K mg base (XT P w) 1 T.q30 T.q31 ["job"] (zo (kx T) 1 FP):=z7 T.q32.F VL fun cdv A outer s H E hr=>by unfold JR;exact (zp (zY (yb BE (AZ rfl) T.q181 C9 (zc zg (zc (zb (zm yp yq (zb (zm qu qL (zD (za 0) zg) (zD (za 0) zg))) zg)) zi)))))
theorem Wj (T:Txt K mg):FnOk P w K mg base (XT P w) 1 T.q159 T.q160 ["self","first","last"] (zo (kx T) 3 FQ):=z7 T.q161.F DZ fun cdv A outer s H E hr=>by unfold JT JS;exact (zl (zH 3 DZ.nd (qH zi)) (zl (zH 4 DZ.nd jS) (zl (yX (yY (yd T.q157 T.q171 (za 0))) (qk (n:=2) (qW rfl (zS (zZ 5 DZ.nd) (zS (zZ 6 DZ.nd) qh zR) zR)) (zT (zT qi))) (zl (N2 (i:=4) J0 (fun h=>LN DZ.nd rfl (Or.inl rfl) h IF) (za 5)) (zp (yj (Jv AG AH AC AD (za 1) (za 4) (za 2)) (zp (jI BW rfl Do Dp BC (za 3) (zc (za 4) zi))) yk)))) (zp (jG (pv 3))))))
theorem Wk (T:Txt K mg):FnOk P w K mg base (XT P w) 2 T.q33 T.q34 ["load","calendar"] (zo (kx T) 2 FR):=z7 T.q35.F KS fun cdv A outer s H E hr=>by unfold JV JU;exact (zl (zH 2 KS.nd (qH zi)) (zl (yX (yY (za 0)) (zZ 3 KS.nd) (zp (yj (yf jP jH (yh _) (zb (ye Vq (Wi T) hr T.q32 (zc (za 3) zi))) zg) (zl (jI Jy rfl G0 G1 IT (za 2) (zc (zb (qH (zc (zD (za 3) zg) (zc (zb (zm yp yq (zD (za 3) zg) zg)) zi)))) zi)) (zp (jI Jy rfl G0 G1 IT (za 2) (zc (zb (BZ Vr (za 1) T.q157 T.q162 (Wj T) hr T.q161.b (zc (zD (za 3) zg) (zc (zD (za 3) zg) zi)))) zi)))) yk))) (yL 2 (zp (zY (Vc rfl rfl (by rfl) T.q185 (by rfl) T.q184 (zc (za 2) zi)))))))
theorem Wl (T:Txt K mg):FnOk P w K mg base (XT P w) 1 T.q36 T.q37 ["load","turn"] (zo (kx T) 2 FS):=z7 T.q38.F VM fun cdv A outer s H E hr=>by unfold JW HN;exact (zp (zY (yb Jq (TC rfl rfl) T.q174 PyProof.Rows.boot_any (zc (zb (qP (loc:=["name","first","last","work","breadth"]) (free:=["turn"]) (fr:=[1]) rfl (qo (sc:=zA KU) (N:=(["load","turn"]:List Str)) rfl rfl (by decide+kernel)) (yY (za 0)) (fun _ _ _ _ _=>(qk (n:=5) (pgT 5 rfl rfl (zS (zJ 0 (["name","first","last","work","breadth","turn"]:List Str)) (zS (zJ 1 (["name","first","last","work","breadth","turn"]:List Str)) (zS (zJ 2 (["name","first","last","work","breadth","turn"]:List Str)) (zS (zJ 3 (["name","first","last","work","breadth","turn"]:List Str)) (zS (zJ 4 (["name","first","last","work","breadth","turn"]:List Str)) qh zR) zR) zR) zR) zR)) (zT (zT (zT (zT (zT qi))))))) (fun _ _ _ _ _=>jh) (fun _ _ _ _ _=>(Nu AH AH AD AD (za 1) (za 5) (za 2))))) zi))))
theorem Wm (T:Txt K mg):FnOk P w K mg base (XT P w) 1 T.q163 T.q164 ["self","turn"] (zo (kx T) 2 FT):=z7 T.q165.F GO fun cdv A outer s H E hr=>by unfold JY JX;exact (zl (zH 2 GO.nd jS) (zl (yX (yY (yd T.q157 T.q171 (za 0))) (qk (n:=2) (qW rfl (zS (zZ 3 GO.nd) (zS (zZ 4 GO.nd) qh zR) zR)) (zT (zT qi))) (zl (N2 (i:=2) J0 (fun h=>LN GO.nd rfl (Or.inl rfl) h IF) (za 3)) (zp (yj (yf AG AC (yh _) (za 1) (za 2)) (zp (jG (pv 4))) yk)))) (zp (zY (Ul T.q157 T.q172 (za 0))))))
theorem Wn (T:Txt K mg):FnOk P w K mg base (XT P w) 5 T.q39 T.q40 ["load","calendar"] (zo (kx T) 2 FU):=z7 T.q41.F GP fun cdv A outer s H E hr=>by unfold Ka JZ;exact (zl (EW (ye Vp (Wh T) hr T.q29 (zc (za 0) zi))) (zl (zH 2 GP.nd (qH zi)) (zl (zH 3 GP.nd (ye Vs (Wk T) hr T.q35 (zc (za 0) (zc (za 1) zi)))) (yL 3 (zl (yX (TL rfl rfl T.q189 (zc (za 3) (zc (zb (r_sl rfl (za 3) (HB zg) HA)) zi))) (qk (n:=2) (qW rfl (zS (zZ 4 GP.nd) (zS (zZ 5 GP.nd) qh zR) zR)) (zT (zT qi))) (zp (yj (qF (ye Vt (Wl T) hr T.q38 (zc (za 0) (zc (za 4) zi)))) (zp (jI BW rfl Do Dp BC (za 2) (zc (zb (jL (zc (za 4) (zc (zb (zm qu qL (za 5) zg)) (zc (zb (BZ Vu (za 1) T.q157 T.q166 (Wm T) hr T.q165.b (zc (za 4) zi))) zi))))) zi))) yk))) (zp (jG (pv 2))))))))
theorem Pa (T:Txt K mg):FnOk P w K mg base (XT P w) 1 T.q106 T.q107 ["self","steps"] (zo (kx T) 2 CB):=z7 T.q108.F AV fun cdv A outer s H E hr=>by unfold Kb HQ HP;exact (zl (zH 2 AV.nd (yb FC (EL rfl) T.q182 E7 (zc (zD (yd T.q104 T.q155 (za 0)) (zD (zD (za 1) zg) zg)) (zc (zD (yd T.q104 T.q154 (za 0)) (zD (zD (za 1) (zb (BI zg))) zg)) zi)))) (zl (yX (yY (za 1)) (qk (n:=3) (qW rfl (zS (zZ 3 AV.nd) (zS (zZ 4 AV.nd) (zS (zZ 5 AV.nd) qh zR) zR) zR)) (zT (zT (zT qi)))) (zl (zH 2 AV.nd (yb FC (EL rfl) T.q182 E7 (zc (za 2) (zc (zb (zm qu qL (zb (HG (hu1 hr) (fun _ _=>rfl) (zD (yd T.q104 T.q152 (za 0)) (za 3)) (za 4))) (zD (zD (yd T.q104 T.q153 (za 0)) (za 3)) (za 4)))) zi)))) (zp (yj (yf Jj II (yh _) (za 5) (zb BS)) (zp (zH 2 AV.nd (yb FC (EL rfl) T.q182 E7 (zc (za 2) (zc (zD (zD (yd T.q104 T.q153 (za 0)) (za 3)) (za 5)) zi))))) yk)))) (zl (yX (yY (za 1)) (qk (n:=3) (qW rfl (zS (zZ 3 AV.nd) (zS (zZ 4 AV.nd) (zS (zZ 5 AV.nd) qh zR) zR) zR)) (zT (zT (zT qi)))) (zl (HJ rfl J0 IF (zD (yd T.q104 T.q153 (za 0)) (za 3)) (za 4) (za 2)) (zp (yj (yf Jj II (yh _) (za 5) (zb BS)) (zp (HJ rfl J1 IG (zD (yd T.q104 T.q153 (za 0)) (za 3)) (za 5) (za 2))) yk)))) (zl (HJ rfl J1 IG (yd T.q104 T.q155 (za 0)) (zD (zD (za 1) zg) zg) (za 2)) (zp (HJ rfl J1 IG (yd T.q104 T.q154 (za 0)) (zD (zD (za 1) (zb (BI zg))) zg) (za 2)))))))
theorem Wo (T:Txt K mg):FnOk P w K mg base (XT P w) 2 T.q110 T.q111 ["self"] (zo (kx T) 1 FW):=z7 T.q112.F Ig fun cdv A outer s H E hr=>by unfold Ke Kc FV;exact (zp (yX (Hz rfl rfl T.q176 (zc (yd T.q104 T.q152 (za 0)) zi)) (qk (n:=2) (qW rfl (zS (zZ 1 Ig.nd) (zS (zZ 2 Ig.nd) qh zR) zR)) (zT (zT qi))) (zp (yX (Oe (za 2)) (zZ 3 Ig.nd) (zp (EW (BZ On (za 0) T.q104 T.q109 (Pa T) hr T.q108.b (zc (zb (qH (zc (zb (jL (zc (za 1) (zc (za 3) (zc (zb BS) zi))))) zi))) zi))))))))
theorem Wp (T:Txt K mg):FnOk P w K mg base (XT P w) 1 T.q93 T.q94 ["self","lacking_jobs"] (zo (kx T) 2 FX):=z7 T.q95.F OE fun cdv A outer s H E hr=>by unfold Kg Kf;exact (zl (AN (Flds.cons rfl T.q91 T.q101 Flds.nil) (za 0) (r_gl J9)) (zl (AN (Flds.cons rfl T.q91 T.q102 Flds.nil) (za 0) (r_gl J9)) (zp (yX (yY (za 1)) (zZ 2 OE.nd) (zp (HH (hu1 hr) BS (yd T.q91 T.q102 (za 0)) (za 2)))))))
theorem Wq (T:Txt K mg):FnOk P w K mg base (XT P w) 1 T.q114 T.q115 ["self","job"] (zo (kx T) 2 DS):=z7 T.q116.F VN fun cdv A outer s H E hr=>by unfold Kh HR;exact (zp (zY (qP (loc:=["cell","most"]) (free:=["job","self"]) (fr:=[1,0]) rfl (qo (sc:=zA KW) (N:=(["self","job"]:List Str)) rfl rfl (by decide+kernel)) (Vf (zD (yd T.q104 T.q152 (za 0)) (za 1))) (fun _ _ _ _ _=>(qk (n:=2) (pgT 2 rfl rfl (zS (zJ 0 (["cell","most","job","self"]:List Str)) (zS (zJ 1 (["cell","most","job","self"]:List Str)) qh zR) zR)) (zT (zT qi)))) (fun _ _ _ _ _=>(FD (yf AG AC (yh _) (zD (zD (yd T.q104 T.q153 (za 3)) (za 2)) (za 0)) (za 1)))) (fun _ _ _ _ _=>(r_v (pv 0))))))
theorem Wr (T:Txt K mg):FnOk P w K mg base (XT P w) 1 T.q118 T.q119 ["self","cell"] (zo (kx T) 2 FY):=z7 T.q120.F VO fun cdv A outer s H E hr=>by unfold Ki HS;exact (zp (zY (qP (loc:=["job","shares"]) (free:=["cell"]) (fr:=[1]) rfl (qo (sc:=zA KY) (N:=(["self","cell"]:List Str)) rfl rfl (by decide+kernel)) (Hz rfl rfl T.q176 (zc (yd T.q104 T.q153 (za 0)) zi)) (fun _ _ _ _ _=>(qk (n:=2) (pgT 2 rfl rfl (zS (zJ 0 (["job","shares","cell"]:List Str)) (zS (zJ 1 (["job","shares","cell"]:List Str)) qh zR) zR)) (zT (zT qi)))) (fun _ _ _ _ _=>(FD (yf jP jH (yh _) (zD (za 1) (za 2)) zg))) (fun _ _ _ _ _=>(r_v (pv 0))))))
theorem Pb (T:Txt K mg):FnOk P w K mg base (XT P w) 3 T.q122 T.q123 ["self"] (zo (kx T) 1 DT):=z7 T.q124.F CW fun cdv A outer s H E hr=>by unfold Kk Kj HV G6 FZ HU;exact (zl (U7 (i:=1) CW.nd rfl (by rfl) (loc:=["job","missing"]) (free:=[]) (fr:=[]) rfl (qo (sc:=zA Ih) (N:=(["self","waiting","reach","job","cell","fresh","other"]:List Str)) rfl rfl (by decide+kernel)) (Hz rfl rfl T.q176 (zc (yd T.q104 T.q154 (za 0)) zi)) (fun _ _ _ _ _=>(qk (n:=2) (pgT 2 rfl rfl (zS (zJ 0 (["job","missing"]:List Str)) (zS (zJ 1 (["job","missing"]:List Str)) qh zR) zR)) (zT (zT qi)))) (fun _ _ _ _ _=>(FD (yf jP jH (yh _) (za 1) zg))) (fun _ _ _ _ _=>(r_v (pv 0)))) (zl (DH (i:=2) CW.nd rfl (Or.inr rfl) (Jz rfl Vx T.q100 (Wp T) (hr.mono (by decide)) (by rfl) T.q92 T.q95.b ji (zc (za 1) zi))) (zl (Jh Ft (Hy rfl (za 1)) (zl (TR (j:=3) TV rfl PySem.F.slot_list_pop PySem.F.type_list_pop RY CW.nd rfl (Or.inl rfl) (za 1) (zc zg zi)) (yL 3 (zp (yX (yY (zb (BZ Vy (za 0) T.q104 T.q117 (Wq T) hr T.q116.b (zc (za 3) zi)))) (zZ 4 CW.nd) (zp (yj (yf ND (NF (hu1 hr)) (by with_unfolding_all rfl) (za 4) (yd T.q91 T.q101 (za 2))) (yL 3 (zl (HH (hu1 hr) (r_v (pv 3)) (yd T.q91 T.q101 (za 2)) (za 4)) (yL 2 (zl (Nr (i:=5) CW.nd rfl (by rfl) (loc:=["other"]) (free:=["reach"]) (fr:=[2]) rfl (qo (sc:=zA Ih) (N:=(["self","waiting","reach","job","cell","fresh","other"]:List Str)) rfl rfl (by decide+kernel)) (yY (zb (BZ Vz (za 0) T.q104 T.q121 (Wr T) hr T.q120.b (zc (za 4) zi)))) (fun _ _ _ _ _=>(zJ 0 (["other","reach"]:List Str))) (fun _ _ _ _ _=>(FD (yf ND (NF (hu1 hr)) (by with_unfolding_all rfl) (za 0) (yd T.q91 T.q102 (za 1))))) (fun _ _ _ _ _=>(r_v (pv 0)))) (yL 5 (zl (yX (yY (za 5)) (zZ 6 CW.nd) (zp (HH (hu1 hr) (r_v (pv 4)) (yd T.q91 T.q102 (za 2)) (za 6)))) (yL 5 (zp (jI Jy rfl G0 G1 IT (za 1) (zc (za 5) zi)))))))))) yk))))))) (zp (jG (pv 2))))))
theorem Ws (T:Txt K mg):FnOk P w K mg base (XT P w) 1 T.q96 T.q97 ["self","cell"] (zo (kx T) 2 G7):=z7 T.q98.F Ii fun cdv A outer s H E hr=>by unfold Km Kl;exact (zl (zH 2 Ii.nd (qH zi)) (zl (Jh Ft (yf Jj II (yh _) (za 1) (zb BS)) (zl (zH 3 Ii.nd (HG (hu1 hr) (fun _ _=>rfl) (yd T.q91 T.q101 (za 0)) (za 1))) (zl (jI BW rfl Do Dp BC (za 2) (zc (zb (jL (zc (za 3) (zc (za 1) (zc (zb (HG (hu1 hr) (fun _ _=>rfl) (yd T.q91 T.q102 (za 0)) (za 3))) zi))))) zi)) (zp (zH 1 Ii.nd (HG (hu1 hr) (fun _ _=>rfl) (yd T.q91 T.q102 (za 0)) (za 3))))))) (zp (jG (pv 2)))))
theorem Pc (T:Txt K mg):FnOk P w K mg base (XT P w) 4 T.q126 T.q127 ["self"] (zo (kx T) 1 CS):=z7 T.q128.F KZ fun cdv A outer s H E hr=>by unfold Ko Kn;exact (zl (zH 1 KZ.nd (BX rfl Oo (za 0) T.q104 T.q125 (Pb T) (hr.mono (by decide)) T.q124.b ji)) (zl (yX (Oe (yd T.q91 T.q101 (za 1))) (zZ 2 KZ.nd) (zp (yj (yf jP jH (yh _) (zD (yd T.q104 T.q155 (za 0)) (za 2)) zg) (zp (zY (BZ V0 (za 1) T.q91 T.q99 (Ws T) hr T.q98.b (zc (za 2) zi)))) yk))) (zp (zY (qH zi)))))
theorem Wt (T:Txt K mg):FnOk P w K mg base (XT P w) 5 T.q130 T.q131 ["self"] (zo (kx T) 1 G8):=z7 T.q132.F La fun cdv A outer s H E hr=>by unfold Kq Kp;exact (zl (zH 1 La.nd (BX rfl Oq (za 0) T.q104 T.q129 (Pc T) (hr.mono (by decide)) T.q128.b ji)) (zp (Jh Ft (Hy rfl (za 1)) (yL 1 (zl (EW (BZ On (za 0) T.q104 T.q109 (Pa T) hr T.q108.b (zc (za 1) zi))) (zp (zH 1 La.nd (BX rfl Oq (za 0) T.q104 T.q129 (Pc T) (hr.mono (by decide)) T.q128.b ji))))))))
theorem Wu (T:Txt K mg):FnOk P w K mg base (XT P w) 1 T.q42 T.q43 ["job","some"] (zo (kx T) 2 G9):=z7 T.q44.F VQ fun cdv A outer s H E hr=>by unfold Kr HW;exact (zp (zY (qP (loc:=["place","cell"]) (free:=["job"]) (fr:=[0]) rfl (qo (sc:=zA Lb) (N:=(["job","some"]:List Str)) rfl rfl (by decide+kernel)) (Hz rfl rfl T.q176 (zc (za 1) zi)) (fun _ _ _ _ _=>(qk (n:=2) (pgT 2 rfl rfl (zS (zJ 0 (["place","cell","job"]:List Str)) (zS (zJ 1 (["place","cell","job"]:List Str)) qh zR) zR)) (zT (zT qi)))) (fun _ _ _ _ _=>(FD (PW.pt (EU (yf AH AD (yh _) (zD (za 2) zg) (zD (za 1) zg)) (ET (yf AH AD (yh _) (zD (za 1) zg) (zD (za 2) zg))))))) (fun _ _ _ _ _=>(r_v (pv 0))))))
theorem Wv (T:Txt K mg):FnOk P w K mg base (XT P w) 2 T.q45 T.q46 ["job","some"] (zo (kx T) 2 GA):=z7 T.q47.F Lc fun cdv A outer s H E hr=>by unfold Kt Ks;exact (zl (zH 2 Lc.nd J9) (zl (yX (yY (zb (ye V2 (Wu T) hr T.q44 (zc (za 0) (zc (za 1) zi))))) (zZ 3 Lc.nd) (zp (HH (hu1 hr) (zm qr qC (zD (za 0) zg) (zb (zm yp yq (zb (zm qu qL (zD (zD (za 1) (za 3)) zg) (zD (zD (za 1) (za 3)) zg))) zg))) (za 2) (za 3)))) (zp (jG (pv 2)))))
theorem Ww (T:Txt K mg):FnOk P w K mg base (XT P w) 6 T.q134 T.q135 ["self","load","calendar"] (zo (kx T) 3 GD):=z7 T.q136.F VR fun cdv A outer s H E hr=>by unfold Ku GC GB HY HX;exact (zl (AN (Flds.cons rfl T.q104 T.q150 Flds.nil) (za 0) (ye Vv (Wn T) hr T.q41 (zc (za 1) (zc (za 2) zi)))) (zl (AN (Flds.cons rfl T.q104 T.q151 Flds.nil) (za 0) (r_ty Jo (Jr rfl) (by rfl) T.q180 E8 (zc (za 1) zi))) (zl (AN (Flds.cons rfl T.q104 T.q152 Flds.nil) (za 0) (qP (loc:=["job"]) (free:=["self"]) (fr:=[0]) rfl (qo (sc:=zA EA) (N:=(["self","load","calendar"]:List Str)) rfl rfl (by decide+kernel)) (yY (yd T.q104 T.q151 (za 0))) (fun _ _ _ _ _=>(zJ 0 (["job","self"]:List Str))) (fun _ _ _ _ _=>jh) (fun _ _ _ _ _=>(EY V4 (Wv T) (hr.mono (by decide)) (by rfl) T.q47.g T.q47.F.kp T.q47.b EZ (zc (za 0) (zc (yd T.q104 T.q150 (za 1)) zi)))))) (zl (AN (Flds.cons rfl T.q104 T.q153 Flds.nil) (za 0) (qP (loc:=["job"]) (free:=["self"]) (fr:=[0]) rfl (qo (sc:=zA EA) (N:=(["self","load","calendar"]:List Str)) rfl rfl (by decide+kernel)) (yY (yd T.q104 T.q151 (za 0))) (fun _ _ _ _ _=>(zJ 0 (["job","self"]:List Str))) (fun _ _ _ _ _=>jh) (fun _ _ _ _ _=>(r_gl (zm qr qC (zb (qH (zc zg zi))) (zb (yb jg (qX rfl) T.q179 Ca (zc (yd T.q104 T.q150 (za 1)) zi)))))))) (zl (AN (Flds.cons rfl T.q104 T.q154 Flds.nil) (za 0) (r_gl (qP (loc:=["job"]) (free:=[]) (fr:=[]) rfl (qo (sc:=zA EA) (N:=(["self","load","calendar"]:List Str)) rfl rfl (by decide+kernel)) (yY (yd T.q104 T.q151 (za 0))) (fun _ _ _ _ _=>(zJ 0 (["job"]:List Str))) (fun _ _ _ _ _=>jh) (fun _ _ _ _ _=>(BY (za 0) zg))))) (zl (AN (Flds.cons rfl T.q104 T.q155 Flds.nil) (za 0) (r_gl (qP (loc:=["first","last","machines"]) (free:=[]) (fr:=[]) rfl (qo (sc:=zA EA) (N:=(["self","load","calendar"]:List Str)) rfl rfl (by decide+kernel)) (yY (yd T.q104 T.q150 (za 0))) (fun _ _ _ _ _=>(qk (n:=3) (pgT 3 rfl rfl (zS (zJ 0 (["first","last","machines"]:List Str)) (zS (zJ 1 (["first","last","machines"]:List Str)) (zS (zJ 2 (["first","last","machines"]:List Str)) qh zR) zR) zR)) (zT (zT (zT qi))))) (fun _ _ _ _ _=>jh) (fun _ _ _ _ _=>(zm qr qC (za 2) (zb (zm yp yq (zb (zm qu qL (za 1) (za 0))) zg))))))) (zl (EW (BX rfl Vw (za 0) T.q104 T.q113 (Wo T) (hr.mono (by decide)) T.q112.b ji)) (zp (EW (BX rfl V1 (za 0) T.q104 T.q133 (Wt T) (hr.mono (by decide)) T.q132.b ji))))))))))
theorem Wx (T:Txt K mg):FnOk P w K mg base (XT P w) 4 T.q137 T.q138 ["self"] (zo (kx T) 1 DU):=z7 T.q139.F OK fun cdv A outer s H E hr=>by unfold Kv;exact (zl (zH 1 OK.nd (BX rfl Oo (za 0) T.q104 T.q125 (Pb T) (hr.mono (by decide)) T.q124.b ji)) (zp (zY (jL (zc (zb (yb Om (Oj rfl) T.q185 PyProof.Rows.boot_sorted (zc (yd T.q91 T.q101 (za 1)) zi))) (zc (zb (yb Om (Oj rfl) T.q185 PyProof.Rows.boot_sorted (zc (yd T.q91 T.q102 (za 1)) zi))) zi))))))
theorem Wy (T:Txt K mg):FnOk P w K mg base (XT P w) 1 T.q48 T.q49 ["rows"] (zo (kx T) 1 GE):=z7 T.q50.F Ij fun cdv A outer s H E hr=>by unfold Ky Kw;exact (zl (zH 1 Ij.nd (qH zi)) (zl (yX (yY (za 0)) (qk (n:=2) (qW rfl (zS (zZ 2 Ij.nd) (zS (zZ 3 Ij.nd) qh zR) zR)) (zT (zT qi))) (zp (yj (PW.pt (EU (Hy rfl (za 1)) (ET (yf jq (qZ (qt hr)) (yh _) (zD (zD (za 1) (zb (BI zg))) zg) (za 3))))) (zp (TY (jL (zc (zb (zm yp yq (zD (zD (za 1) (zb (BI zg))) zg) (za 2))) (zc (za 3) zi))) (za 1) (zb (BI zg)) fun a b c=>GY a (QE b c Mi))) (zp (jI BW rfl Do Dp BC (za 1) (zc (zb (jL (zc (za 2) (zc (za 3) zi)))) zi)))))) (zp (jG (pv 1)))))
theorem Wz (T:Txt K mg):FnOk P w K mg base (XT P w) 2 T.q51 T.q52 ["rows","rest"] (zo (kx T) 2 CT):=z7 T.q53.F ON fun cdv A outer s H E hr=>by unfold GF;exact (zl (zH 2 ON.nd (ye V7 (Wy T) hr T.q50 (zc (za 0) zi))) (zl (yj (PW.pt (EU (Hy rfl (za 2)) (ET (yf jq (qZ (qt hr)) (yh _) (zD (zD (za 2) (zb (BI zg))) zg) (za 1))))) (zp (TN TU rfl PySem.F.slot_list_pop PySem.F.type_list_pop RX (za 2))) yk) (zp (jG (pv 2)))))
theorem W0 (T:Txt K mg):FnOk P w K mg base (XT P w) 3 T.q54 T.q55 ["thing"] (zo (kx T) 1 GG):=z7 T.q56.F VS fun cdv A outer s H E hr=>by unfold Kz;exact (zp (zY (ye CQ (DA T) hr T.q23 (zc (za 0) (zc zg (zc (zb (yQ (jB (v:= .int 16) (by rfl) T.q211 ⟨_,rfl⟩) fun _ _ _=>.int _)) zi))))))
theorem W1 (T:Txt K mg):FnOk P w K mg base (XT P w) 4 T.q57 T.q58 ["thing"] (zo (kx T) 1 GH):=z7 T.q59.F VT fun cdv A outer s H E hr=>by unfold K4;exact (zl (yj (PW.pt (qU (qD (qF (yb BF (BG rfl) T.q178 C8 (zc (za 0) (zc (zb (yQ (AX (v:= .ty "tuple") (by rfl) T.q188 PyProof.Rows.boot_tuple rfl) fun _ _ _=>.ty _)) zi))))) (jy (yf Jn (Jm (qt hr)) (yh _) (zb (yb jg (qX rfl) T.q179 Ca (zc (za 0) zi))) zg)))) (zp (zY yz)) yk) (zp (zY (DF (ye CQ (DA T) hr T.q23 (zc (zD (za 0) zg) (zc zg (zc (zb (yQ (jB (v:= .int 1000000) (by rfl) T.q209 ⟨_,rfl⟩) fun _ _ _=>.int _)) zi)))) (DG (ye V9 (W0 T) hr T.q56 (zc (zD (za 0) zg) zi)))))))
theorem W2 (T:Txt K mg):FnOk P w K mg base (XT P w) 5 T.q60 T.q61 ["thing"] (zo (kx T) 1 GI):=z7 T.q62.F VU fun cdv A outer s H E hr=>by unfold K5 HZ;exact (zl (yj (PW.pt (qU (qD (qF (yb BF (BG rfl) T.q178 C8 (zc (za 0) (zc (zb (yQ (AX (v:= .ty "list") (by rfl) T.q180 E8 rfl) fun _ _ _=>.ty _)) zi))))) (jy (yf jP jH (yh _) (zb (yb jg (qX rfl) T.q179 Ca (zc (za 0) zi))) (zb (yQ (jB (v:= .int 16) (by rfl) T.q207 ⟨_,rfl⟩) fun _ _ _=>.int _)))))) (zp (zY yz)) yk) (zp (zY (yb Jq (Nn rfl rfl) T.q173 PyProof.Rows.boot_all (zc (zb (qP (loc:=["row"]) (free:=[]) (fr:=[]) rfl (qo (sc:=zA Ld) (N:=(["thing"]:List Str)) rfl rfl (by decide+kernel)) (yY (za 0)) (fun _ _ _ _ _=>(zJ 0 (["row"]:List Str))) (fun _ _ _ _ _=>jh) (fun _ _ _ _ _=>(EY VA (W1 T) (hr.mono (by decide)) (by rfl) T.q59.g T.q59.F.kp T.q59.b EZ (zc (za 0) zi))))) zi)))))
theorem W3 (T:Txt K mg):FnOk P w K mg base (XT P w) 3 T.q63 T.q64 ["thing"] (zo (kx T) 1 GJ):=z7 T.q65.F VV fun cdv A outer s H E hr=>by unfold K6;exact (zp (zY (ye CQ (DA T) hr T.q23 (zc (za 0) (zc zg (zc (zb (yQ (jB (v:= .int 16) (by rfl) T.q211 ⟨_,rfl⟩) fun _ _ _=>.int _)) zi))))))
theorem W4 (T:Txt K mg):FnOk P w K mg base (XT P w) 6 T.q167 T.q168 ["self","rows","rest"] (zo (kx T) 3 GK):=z7 T.q169.F VW fun cdv A outer s H E hr=>by unfold K7;exact (zl (yj (PW.pt (qU (qD (qF (ye VB (W2 T) hr T.q62 (zc (za 1) zi)))) (jy (qD (qF (ye VC (W3 T) hr T.q65 (zc (za 2) zi))))))) (zp EX) yk) (zl (AN (Flds.cons rfl T.q157 T.q171 Flds.nil) (za 0) (ye V8 (Wz T) hr T.q53 (zc (za 1) (zc (za 2) zi)))) (zp (AN (Flds.cons rfl T.q157 T.q172 Flds.nil) (za 0) (r_v (pv 2))))))
theorem Pd (T:Txt K mg):FnOk P w K mg base (XT P w) 1 T.q66 T.q67 ["_law_rows_here","_law_rest","_law_first","_law_last"] (zo (kx T) 4 CC):=z7 T.q68.F CY fun cdv A outer s H E hr=>by unfold K9 K8;exact (zl (zH 4 CY.nd jS) (zl (zH 5 CY.nd jS) (zl (yX (yY (za 0)) (qk (n:=2) (qW rfl (zS (zZ 6 CY.nd) (zS (zZ 7 CY.nd) qh zR) zR)) (zT (zT qi))) (zl (zH 4 CY.nd (zm yp yq (za 4) (zb (zm qr qC (za 7) (zb (yb BE (AZ rfl) T.q181 C9 (zc zg (zc (zb (zm yp yq (zb (zm qu qL (zb (yb FC (EL rfl) T.q182 E7 (zc (za 3) (zc (zb (zm qu qL (zb (zm yp yq (za 5) (za 6))) zg)) zi)))) (zb (yb BE (AZ rfl) T.q181 C9 (zc (za 2) (zc (za 5) zi)))))) zg)) zi)))))))) (zp (zH 5 CY.nd (zm yp yq (za 5) (za 6)))))) (zp (zY (zm yp yq (za 4) (zb (zm qr qC (za 1) (zb (yb BE (AZ rfl) T.q181 C9 (zc zg (zc (zb (zm yp yq (zb (zm qu qL (za 3) (zb (yb BE (AZ rfl) T.q181 C9 (zc (za 2) (zc (za 5) zi)))))) zg)) zi))))))))))))
theorem Pe (T:Txt K mg):FnOk P w K mg base (XT P w) 1 T.q141 T.q142 ["self","job","cell"] (zo (kx T) 3 BM):=z7 T.q143.F VX fun cdv A outer s H E hr=>by unfold KA;exact (zp (zY (BY (zD (yd T.q104 T.q153 (za 0)) (za 1)) (za 2))))
theorem W5 (T:Txt K mg):FnOk P w K mg base (XT P w) 2 T.q69 T.q70 ["_law_flow","_law_load_here","_law_rows_here","_law_rest"] (zo (kx T) 4 DW):=z7 T.q71.F CZ fun cdv A outer s H E hr=>by unfold KC KB DV;exact (zl (zH 4 CZ.nd (BI zg)) (zl (yX (BH rfl T.q183 (zc (zb (yb jg (qX rfl) T.q179 Ca (zc (yd T.q104 T.q150 (za 0)) zi))) zi)) (Jf (IE (i:=5) CZ.nd rfl (Or.inr rfl))) (zl (Jg (BY (yd T.q104 T.q150 (za 0)) (za 5)) (qk (n:=3) (qW rfl (zS (zZ 6 CZ.nd) (zS (zZ 7 CZ.nd) (zS (zZ 8 CZ.nd) qh zR) zR) zR)) (zT (zT (zT qi)))) GY) (zl (yj (PW.pt (qU (yf AH AD (yh _) (za 6) (za 4)) (jy (yf AG AC (yh _) (za 7) (za 6))))) (zp (zY yz)) yk) (zl (zH 4 CZ.nd (r_v (pv 7))) (zp (yj (yf jP jH (yh _) (zb (yb Hw (Hx rfl rfl) T.q187 Ga (zc (zb (qP (loc:=["_law_k"]) (free:=["_law_j","_law_flow"]) (fr:=[5,0]) rfl (qo (sc:=zA Lf) (N:=(["_law_flow","_law_load_here","_law_rows_here","_law_rest","_law_behind","_law_j","_law_first","_law_last","_law_machines"]:List Str)) rfl rfl (by decide+kernel)) (BH rfl T.q183 (zc (zb (yb jg (qX rfl) T.q179 Ca (zc (za 1) zi))) zi)) (fun _ _ _ _ _=>(zJ 0 (["_law_k","_law_j","_law_flow"]:List Str))) (fun _ _ _ _ _=>jh) (fun _ _ _ _ _=>(N0 rfl Ot (za 2) T.q104 T.q144 (Pe T) (hr.mono (by decide)) T.q143.b EZ (zc (za 0) (zc (za 1) zi)))))) zi))) (zb (ye Os (Pd T) hr T.q68 (zc (za 2) (zc (za 3) (zc (za 6) (zc (za 7) zi))))))) (zp (zY yz)) yk)))))) (zp (zY yz))))
theorem Pf (T:Txt K mg):FnOk P w K mg base (XT P w) 1 T.q72 T.q73 ["_law_found"] (zo (kx T) 1 CU):=z7 T.q74.F VY fun cdv A outer s H E hr=>by unfold KD;exact (zp (zY (DF (yb BF (BG rfl) T.q178 C8 (zc (za 0) (zc (zb (yQ (AX (v:= .ty "int") (by rfl) T.q177 PyProof.Rows.boot_int rfl) fun _ _ _=>.ty _)) zi))) (DG (Nb (yb BF (BG rfl) T.q178 C8 (zc (za 0) (zc (zb (yQ (AX (v:= .ty "bool") (by rfl) T.q175 PyProof.Rows.boot_bool rfl) fun _ _ _=>.ty _)) zi))))))))
theorem W6 (T:Txt K mg):FnOk P w K mg base (XT P w) 2 T.q75 T.q76 ["_law_flow","_law_load_here","_law_k"] (zo (kx T) 3 CV):=z7 T.q77.F CD fun cdv A outer s H E hr=>by unfold KG KF;exact (zl (zH 3 CD.nd jS) (zl (yX (BH rfl T.q183 (zc (zb (yb jg (qX rfl) T.q179 Ca (zc (yd T.q104 T.q150 (za 0)) zi))) zi)) (zZ 4 CD.nd) (zl (zH 5 CD.nd (BZ Ot (za 0) T.q104 T.q144 (Pe T) hr T.q143.b (zc (za 2) (zc (za 4) zi)))) (zl (Jg (BY (yd T.q104 T.q150 (za 0)) (za 4)) (qk (n:=3) (qW rfl (zS (zZ 6 CD.nd) (zS (zZ 7 CD.nd) (zS (zZ 8 CD.nd) qh zR) zR) zR)) (zT (zT (zT qi)))) GY) (yL 5 (zl (yj (PW.pt (qU (qD (qF (ye Ou (Pf T) hr T.q74 (zc (za 5) zi)))) (qU (yf AG AC (yh _) (za 5) zg) (jy (yf jP jH (yh _) (za 5) (zb (zm qr qC (zD (zD (za 1) (za 2)) zg) (zb (zm yp yq (zb (zm qu qL (za 7) (za 6))) zg))))))))) (zp (zY BS)) yk) (zl (yj (PW.pt (EU (yf jP jH (yh _) (za 5) zg) (ET (PW.pt (qU (yf AG AC (yh _) (za 6) (zD (zD (za 1) (za 2)) zg)) (jy (yf jP jH (yh _) (za 7) (zD (zD (za 1) (za 2)) zg)))))))) (zp (zY BS)) yk) (zp (zH 3 CD.nd (zm yp yq (za 3) (za 5)))))))))) (zp (jG (pv 3)))))
theorem W7 (T:Txt K mg):FnOk P w K mg base (XT P w) 1 T.q78 T.q79 ["_law_job","_law_spans"] (zo (kx T) 2 GL):=z7 T.q80.F VZ fun cdv A outer s H E hr=>by unfold KH Ia;exact (zp (zY (yb Hw (Hx rfl rfl) T.q187 Ga (zc (zb (qP (loc:=["_law_first","_law_last"]) (free:=["_law_job"]) (fr:=[0]) rfl (qo (sc:=zA Lg) (N:=(["_law_job","_law_spans"]:List Str)) rfl rfl (by decide+kernel)) (yY (za 1)) (fun _ _ _ _ _=>(qk (n:=2) (pgT 2 rfl rfl (zS (zJ 0 (["_law_first","_law_last","_law_job"]:List Str)) (zS (zJ 1 (["_law_first","_law_last","_law_job"]:List Str)) qh zR) zR)) (zT (zT qi)))) (fun _ _ _ _ _=>jh) (fun _ _ _ _ _=>(yb BE (AZ rfl) T.q181 C9 (zc zg (zc (zb (zm yp yq (zb (zm qu qL (zb (yb FC (EL rfl) T.q182 E7 (zc (zD (za 2) zg) (zc (za 1) zi)))) (zb (yb BE (AZ rfl) T.q181 C9 (zc (zD (za 2) zg) (zc (za 0) zi)))))) zg)) zi)))))) zi))))
theorem W8 (T:Txt K mg):FnOk P w K mg base (XT P w) 2 T.q81 T.q82 ["_law_job","_law_spans"] (zo (kx T) 2 GM):=z7 T.q83.F OX fun cdv A outer s H E hr=>by unfold KJ;exact (zl (zH 2 OX.nd (yb BE (AZ rfl) T.q181 C9 (zc zg (zc (zb (zm yp yq (zb (zm qu qL (zD (za 0) zg) (zD (za 0) zg))) zg)) zi)))) (zp (zY (yb BE (AZ rfl) T.q181 C9 (zc zg (zc (zb (zm qu qL (zD (za 0) zg) (zb (zm qr qC (zD (za 0) zg) (zb (zm qu qL (za 2) (zb (ye VG (W7 T) hr T.q80 (zc (za 0) (zc (za 1) zi)))))))))) zi))))))
theorem W9 (T:Txt K mg):FnOk P w K mg base (XT P w) 3 T.q84 T.q85 ["_law_load_here","_law_rows_here","_law_rest","_law_spans"] (zo (kx T) 4 DX):=z7 T.q86.F GQ fun cdv A outer s H E hr=>by unfold KM KL Ib;exact (zl (zH 4 GQ.nd (yb Hw (Hx rfl rfl) T.q187 Ga (zc (zb (qP (loc:=["_law_job"]) (free:=["_law_spans"]) (fr:=[3]) rfl (qo (sc:=zA Lh) (N:=(["_law_load_here","_law_rows_here","_law_rest","_law_spans","_law_total","_law_first","_law_last"]:List Str)) rfl rfl (by decide+kernel)) (yY (za 0)) (fun _ _ _ _ _=>(zJ 0 (["_law_job","_law_spans"]:List Str))) (fun _ _ _ _ _=>jh) (fun _ _ _ _ _=>(EY VH (W8 T) (hr.mono (by decide)) (by rfl) T.q83.g T.q83.F.kp T.q83.b EZ (zc (za 0) (zc (za 1) zi)))))) zi))) (zl (yX (yY (za 3)) (qk (n:=2) (qW rfl (zS (zZ 5 GQ.nd) (zS (zZ 6 GQ.nd) qh zR) zR)) (zT (zT qi))) (zp (zH 4 GQ.nd (zm qu qL (za 4) (zb (ye Os (Pd T) hr T.q68 (zc (za 1) (zc (za 2) (zc (za 5) (zc (za 6) zi)))))))))) (zp (jG (pv 4)))))
theorem WA (T:Txt K mg):FnOk P w K mg base (XT P w) 1 T.q145 T.q146 ["self"] (zo (kx T) 1 DY):=z7 T.q147.F Wa fun cdv A outer s H E hr=>by unfold KN;exact (zp (zY (yb Hw (Hx rfl rfl) T.q187 Ga (zc (yd T.q104 T.q154 (za 0)) zi))))
theorem Pg (T:Txt K mg):FnOk P w K mg base (XT P w) 2 T.q87 T.q88 ["_law_found","_law_many"] (zo (kx T) 2 AU):=z7 T.q89.F Ik fun cdv A outer s H E hr=>by unfold KP KO;exact (zl (yj (qD (qF (yb BF (BG rfl) T.q178 C8 (zc (za 0) (zc (zb (yQ (AX (v:= .ty "list") (by rfl) T.q180 E8 rfl) fun _ _ _=>.ty _)) zi))))) (zp (zY yz)) yk) (zl (zH 2 Ik.nd (BI zg)) (zl (yX (yY (za 0)) (zZ 3 Ik.nd) (zl (yj (PW.pt (qU (qD (qF (ye Ou (Pf T) hr T.q74 (zc (za 3) zi)))) (jy (qD (Jv AG AG AC AC (za 2) (za 3) (za 1)))))) (zp (zY yz)) yk) (zp (zH 2 Ik.nd (r_v (pv 3)))))) (zp (zY yz)))))
theorem G_law (T:Txt K mg):FnOk P w K mg base (XT P w) 8 T.f_law T.fd_law ["_law_script"] (zo (kx T) 1 f_law):=z7 T.d_law.F AA fun cdv A outer s H E hr=>by unfold KQ GN Ic;exact (zl (Jg (ye Vi (Wb T) hr T.q5 (zc (zb (ye HL (Il T) hr T.q8 (zc (za 0) (zc zg zi)))) zi)) (qk (n:=3) (qW rfl (zS (zZ 1 AA.nd) (zS (zZ 2 AA.nd) (zS (zZ 3 AA.nd) qh zR) zR) zR)) (zT (zT (zT qi)))) GY) (zl (zH 4 AA.nd (ye Vk (Wd T) hr T.q14 (zc (za 0) (zc (za 3) zi)))) (zl (DH (i:=5) AA.nd rfl (Or.inr rfl) (Jz rfl V5 T.q149 (Ww T) (hr.mono (by decide)) (by rfl) T.q105 T.q136.b ji (zc (zb (r_ty Jo (Jr rfl) (by rfl) T.q180 E8 (zc (za 4) zi))) (zc (zb (Ub (Jz rfl VD T.q170 (W4 T) (hr.mono (by decide)) (by rfl) T.q158 T.q169.b ji (zc (zb (r_ty Jo (Jr rfl) (by rfl) T.q180 E8 (zc (za 1) zi))) (zc (za 2) zi))))) zi)))) (yL 4 (yL 5 (zl (yj (qD (qF (ye VE (W5 T) hr T.q71 (zc (za 5) (zc (za 4) (zc (za 1) (zc (za 2) zi))))))) (zp (zY yz)) yk) (zl (zH 6 AA.nd jS) (zl (yX (BH rfl T.q183 (zc (zb (yb jg (qX rfl) T.q179 Ca (zc (za 4) zi))) zi)) (zZ 7 AA.nd) (yL 4 (yL 5 (zl (zH 8 AA.nd (ye VF (W6 T) hr T.q77 (zc (za 5) (zc (za 4) (zc (za 7) zi))))) (zl (yj (PW.pt (qU (yf TB QX (yh _) (za 8) (zb BS)) (jy (yf jP jH (yh _) (za 8) (zD (zD (za 4) (za 7)) zg))))) (zp (zY yz)) yk) (zp (zH 6 AA.nd (zm qu qL (zb (zm yp yq (za 6) (zD (zD (za 4) (za 7)) zg))) (za 8))))))))) (zl (zH 9 AA.nd (BX rfl V6 (za 5) T.q104 T.q140 (Wx T) (hr.mono (by decide)) T.q139.b ji)) (zl (yj (PW.pt (qU (qD (qF (yb BF (BG rfl) T.q178 C8 (zc (za 9) (zc (zb (yQ (AX (v:= .ty "tuple") (by rfl) T.q188 PyProof.Rows.boot_tuple rfl) fun _ _ _=>.ty _)) zi))))) (qU (yf Jn (Jm (qt hr)) (yh _) (zb (yb jg (qX rfl) T.q179 Ca (zc (za 9) zi))) zg) (jy (yf Jn (Jm (qt hr)) (yh _) (zb (BX rfl VJ (za 5) T.q104 T.q148 (WA T) (hr.mono (by decide)) T.q147.b ji)) (za 6)))))) (zp (zY yz)) yk) (zl (yj (PW.pt (qU (qD (qF (ye Ow (Pg T) hr T.q89 (zc (zD (za 9) zg) (zc (zb (yb jg (qX rfl) T.q179 Ca (zc (yd T.q104 T.q150 (za 5)) zi))) zi))))) (jy (qD (qF (ye Ow (Pg T) hr T.q89 (zc (zD (za 9) zg) (zc (zb (yb jg (qX rfl) T.q179 Ca (zc (za 4) zi))) zi)))))))) (zp (zY yz)) yk) (zl (yj (yf jq (qZ (qt hr)) (yh _) (za 6) zg) (zp (zY (Hq jq (qZ (qt hr)) (yh _) (za 9) (zb (jL (zc (zb (qH zi)) (zc (zb (qH zi)) zi))))))) yk) (yL 5 (zl (Nr (i:=10) AA.nd rfl (by rfl) (loc:=["_law_j"]) (free:=["_law_flow"]) (fr:=[5]) rfl (qo (sc:=zA Li) (N:=(["_law_script","_law_rows_here","_law_rest","_law_by","_law_load_here","_law_flow","_law_lack","_law_k","_law_done_here","_law_cut","_law_spans"]:List Str)) rfl rfl (by decide+kernel)) (yY (zD (za 9) zg)) (fun _ _ _ _ _=>(zJ 0 (["_law_j","_law_flow"]:List Str))) (fun _ _ _ _ _=>jh) (fun _ _ _ _ _=>(jL (zc (zD (zD (yd T.q104 T.q150 (za 1)) (za 0)) zg) (zc (zD (zD (yd T.q104 T.q150 (za 1)) (za 0)) zg) zi))))) (yL 10 (yL 4 (zp (zY (Hq jq (qZ (qt hr)) (yh _) (zb (ye VI (W9 T) hr T.q86 (zc (za 4) (zc (za 1) (zc (za 2) (zc (za 10) zi)))))) (za 6))))))))))))))))))))
end
end My
def PySem.W.Fast.tw14598715356260435866:Nat:=0
def PySem.W.Fast.tw7238046018651277534:Nat:=0
def PySem.W.Fast.tw6534874000650894987:Nat:=0
def PySem.W.Fast.tw10544295344006241723:Nat:=0
def PySem.W.Fast.tw3182386257043530798:Nat:=0
def PySem.W.Fast.tw12329155263669439519:Nat:=0
def PySem.W.Fast.tw3677632882827384062:Nat:=0
def PySem.W.Fast.tw13388153557339397715:Nat:=0
def PySem.W.Fast.tw16205993139258394665:Nat:=0
def PySem.W.Fast.tw12186927737360925045:Nat:=0
def PySem.W.Fast.tw13256641116850012859:Nat:=0
def PySem.W.Fast.tw4069818745696331118:Nat:=0
def PySem.W.Fast.tw12309487429465621764:Nat:=0
def PySem.W.Fast.tw10594365738534580157:Nat:=0
def PySem.W.Fast.tw1319192029097868252:Nat:=0
def PySem.W.Fast.tw10178460254095656201:Nat:=0
def PySem.W.Fast.tw17846797487192150033:Nat:=0
def PySem.W.Fast.tw12196925527506493495:Nat:=0
def PySem.W.Fast.tw8565733149115213228:Nat:=0
def PySem.W.Fast.tw6667695353286145696:Nat:=0
def PySem.W.Fast.tw11488531227469871684:Nat:=0
def PySem.W.Fast.tw5822829993140332335:Nat:=0
def PySem.W.Fast.tw1992449075930466090:Nat:=0
def PySem.W.Fast.tw5262731503136342451:Nat:=0
def PySem.W.Fast.tw5173889594236819067:Nat:=0
def PySem.W.Fast.tw10531621347620151403:Nat:=0
def PySem.W.Fast.tw12411216588197505872:Nat:=0
def PySem.W.Fast.tw17495155262278756735:Nat:=0
def PySem.W.Fast.tw8988036822726370258:Nat:=0
def PySem.W.Fast.tw3510150404263062150:Nat:=0
def PySem.W.Fast.tw17754248650196429969:Nat:=0
def PySem.W.Fast.tw13351157009597111075:Nat:=0
namespace My
open PySem PySem.W L2 L3
noncomputable def ask:L4.Ask where
 law:=58
 at_:=[2,3,15,17,18,20,21,22,29,30,31,32,35,42,43,44,47,54,55,56,59,66,67,68,71,78,79,80,83,90,92,93,95,96,97,98,99,102,104,105,107,108,109,111,112,114,115,116,119,120,121,123,124,126,127,128,130,131,133,134,135,137,138,140,141,142,145,146,147,149,150,152,153,154,156,157,159,160,161,164,165,166,168,169,171,172,180,182,183,185,186,187,189,190,192,193,194,195,196,197,198,208,211,212,213,215,216,218,219,220,222,223,225,226,227,229,230,232,233,234,237,238,239,242,243,244,247,248,249,251,252,254,255,256,258,259,261,262,263,265,266,268,269,270,272,273,275,276,277,279,280,282,283,284,286,287,289,290,291,293,294,296,297,298,299,300,301,302,305,307,308,310,311,312,314,315,317,318,319,321,322,324,325,326,329,330,331,333,334,336,337,338,340,341,343,344,352,354,355,357,358,359,361,362,364,365,366,368,369,371,372,373,375,376,378,379,380,382,383,385,386,387,389,390,392,393,394,396,397,399,400,401,403,404,406,407,408,410,411,413,414,415,417,418,420,421,422,424,425,427,428,429,430,431,432,433,436,438,439,441,442,443,445,446,448,449,450,452,453,455,456,457,460,461,462,464,465,467,468,469,471,472,474,475,476,478,479,481,482,483,486,487,488,490,491,493,494,495,498,499,500,502,503,505,506,507,510,511,512,514,515,517,518,519,522,523]
 defs:=[("_law_mixed",47),("_law_rows",49),("_law_cell_at",45),("_law_names",48),("_law_load",50),("is_name",20),("is_whole",10),("is_whole_between",11),("are_numbers_of_job",21),("check_load",22),("turns_of",23),("borders",26),("is_in_a_window",25),("cells",27),("cells_within",28),("most_shares",30),("neighbours_as_one",41),("kept_rows",42),("is_machines",37),("is_calendar_row",39),("are_calendar_rows",40),("is_rest",38),("_law_over",51),("_law_lawful",56),("_law_whole",46),("_law_done",55),("_law_inside",52),("_law_excess",53),("_law_overflow",54),("_law_rising",57),("law",58)]
 cls:=[("Reach",31,[("__init__","Reach.__init__",0),("steps_to","Reach.steps_to",1)],["job_ahead","cell_ahead"]),("Flow",32,[("shift","Flow.shift",7),("take_straight","Flow.take_straight",1),("cells_behind","Flow.cells_behind",5),("jobs_behind","Flow.jobs_behind",6),("reached","Flow.reached",4),("steps_to_spare","Flow.steps_to_spare",3),("take_by_ways","Flow.take_by_ways",2),("__init__","Flow.__init__",0),("cut","Flow.cut",13),("share","Flow.share",8),("lacking","Flow.lacking",12)],["cells","load","most","shares","missing","spare"]),("Calendar",43,[("changes","Calendar.changes",7),("at","Calendar.at",3),("__init__","Calendar.__init__",0)],["stretches","beyond"])]
 bare:=["all","any","bool","enumerate","int","isinstance","len","list","max","min","range","set","sorted","str","sum","tuple","zip"]
 con:=[("LAST_TURN",.int 10000000000),("LETTERS",.str ("abcdefghijklmnopqrstuvwxyz" :Str)),("LETTERS_AND_FIGURES",.str ("abcdefghijklmnopqrstuvwxyz0123456789" :Str)),("MOST_SIGNS",.int 8),("MOST_JOBS",.int 12),("LATEST_FIRST",.int 1000000000),("MOST_WORK",.int 60),("MOST_BREADTH",.int 16),("MOST_ROWS",.int 16),("MOST_TURNS_OF_ROW",.int 1000000),("MOST_MACHINES",.int 16)]
end My
lay_quick L4.claim L4.goal
open PySem PySem.W in
def My.one1:∀(w:World) (os:OsState),PySem.W.Fast.tw6268680626415656479 My.ask 20000 PySem.Challenge.pw_dueyard_k23_whole_greatest_flow w os=PySem.W.Fast.tw12952061662341455360 My.ask PySem.Challenge.pw_dueyard_k23_whole_greatest_flow:=by
 intro w os
 kernel_rfl
open PySem PySem.W in
def My.one:∀(w:World) (os:OsState),L4.claim My.ask 20000 PySem.Challenge.pw_dueyard_k23_whole_greatest_flow w os=L4.goal My.ask PySem.Challenge.pw_dueyard_k23_whole_greatest_flow:=by
 rw[PySem.W.Fast.te6268680626415656479,PySem.W.Fast.te12952061662341455360];exact My.one1
namespace L3
open PySem L2
def ev:type_of% (zd (zd (zd (zd (zd (zd @L3.fun3.eq_1 (zd @L3.start3.eq_1 @L3.sSeq.eq_1)) (zd (zd @L3.sSet.eq_1 @L3.sRet.eq_1) (zd @L3.sRetS.eq_1 @L3.sRetN.eq_1))) (zd (zd (zd @L3.sIf.eq_1 @L3.sExp.eq_1) (zd @L3.sFz.eq_1 @L3.sAug.eq_1)) (zd (zd @L3.sAsg.eq_1 @L3.sSkip.eq_1) (zd @L3.sNever.eq_1 @L3.gN.eq_1)))) (zd (zd (zd @L3.eV.eq_1 (zd @L3.eC.eq_1 @L3.pV.eq_1)) (zd (zd @L3.pE.eq_1 @L3.eOp.eq_1) (zd @L3.eNeg.eq_1 @L3.eNot.eq_1))) (zd (zd (zd @L3.eAnd.eq_1 @L3.eOr.eq_1) (zd @L3.eIf.eq_1 @L3.eChain.eq_1)) (zd (zd @L3.oEq_int @L3.oNe_int) (zd @L3.nx_ite @L3.rt_ite))))) (zd (zd (zd (zd @L3.ok_ite (zd @L3.cons_ite @L3.some_ite)) (zd (zd @L3.v_ite @L3.int_ite) (zd @L3.bl_ite @ite_self.{1}))) (zd (zd (zd @Bz @and_true) (zd @true_and @and_self)) (zd (zd @L3.eTup.eq_1 @L3.eLst.eq_1) (zd @L3.aCons.eq_1 @L3.aNil.eq_1)))) (zd (zd (zd (zd @L3.eB.eq_1 @L3.isa.eq_1) (zd @L3.eCall.eq_1 @L3.tE.eq_1)) (zd (zd @L3.tP.eq_1 @L3.tTru.eq_1) (zd @L3.tAnd3.eq_1 @L3.tOr3.eq_1))) (zd (zd (zd @L3.tNot3.eq_1 @L3.mtO.eq_1) (zd @L3.at0 @L3.at1)) (zd (zd @L3.at2 @L3.at3) (zd @L3.at4 @Ag.{0,0})))))) (zd (zd (zd (zd (zd @Bj.{0,0} (zd @Az.{0} @Ef.{0})) (zd (zd @List.cons_append.{0} @Dx.{0}) (zd @B4.{0} @Ed.{0}))) (zd (zd (zd @Dz.{0} @List.getElem?_nil.{0}) (zd @List.set_cons_zero.{0} @Gb.{0})) (zd (zd @Ar.{0,0} @Option.map_none.{0,0}) (zd @Fs.{0,0} @Nat.zero_add)))) (zd (zd (zd @ite_true.{1} (zd @ite_false.{1} @By.{1})) (zd (zd @B0.{1} @Ek) (zd @El @decide_true))) (zd (zd (zd @decide_false @Em) (zd @D6 @Bool.or_true)) (zd (zd @Ea @Ee) (zd @Bool.false_or @Fi.{0}))))) (zd (zd (zd (zd @or_true (zd @true_or @Bn)) (zd (zd @false_or @L3.oAdd_int) (zd @L3.oAddI_int @L3.oSub_int))) (zd (zd (zd @L3.oMul_int @L3.oDiv_int) (zd @L3.oMod_int @L3.oShr_int)) (zd (zd @L3.oPow_int @L3.oAndI_int) (zd @L3.oLt_int @L3.oLe_int)))) (zd (zd (zd (zd @L3.oGt_int @L3.oGe_int) (zd @L3.oIx_tup @L3.oIx_lst)) (zd (zd @L3.oIx_scr @L3.sMt_ap) (zd @L3.mAppend_ok @L3.sz0))) (zd (zd (zd @L3.sz1 @L3.sz2) (zd @L3.sz3 @L3.sz4)) (zd (zd @L3.sz5 @L3.gb.eq_1) (zd @Int.cast_ofNat_Int @Df))))))):=(zd (zd (zd (zd (zd (zd @L3.fun3.eq_1 (zd @L3.start3.eq_1 @L3.sSeq.eq_1)) (zd (zd @L3.sSet.eq_1 @L3.sRet.eq_1) (zd @L3.sRetS.eq_1 @L3.sRetN.eq_1))) (zd (zd (zd @L3.sIf.eq_1 @L3.sExp.eq_1) (zd @L3.sFz.eq_1 @L3.sAug.eq_1)) (zd (zd @L3.sAsg.eq_1 @L3.sSkip.eq_1) (zd @L3.sNever.eq_1 @L3.gN.eq_1)))) (zd (zd (zd @L3.eV.eq_1 (zd @L3.eC.eq_1 @L3.pV.eq_1)) (zd (zd @L3.pE.eq_1 @L3.eOp.eq_1) (zd @L3.eNeg.eq_1 @L3.eNot.eq_1))) (zd (zd (zd @L3.eAnd.eq_1 @L3.eOr.eq_1) (zd @L3.eIf.eq_1 @L3.eChain.eq_1)) (zd (zd @L3.oEq_int @L3.oNe_int) (zd @L3.nx_ite @L3.rt_ite))))) (zd (zd (zd (zd @L3.ok_ite (zd @L3.cons_ite @L3.some_ite)) (zd (zd @L3.v_ite @L3.int_ite) (zd @L3.bl_ite @ite_self.{1}))) (zd (zd (zd @Bz @and_true) (zd @true_and @and_self)) (zd (zd @L3.eTup.eq_1 @L3.eLst.eq_1) (zd @L3.aCons.eq_1 @L3.aNil.eq_1)))) (zd (zd (zd (zd @L3.eB.eq_1 @L3.isa.eq_1) (zd @L3.eCall.eq_1 @L3.tE.eq_1)) (zd (zd @L3.tP.eq_1 @L3.tTru.eq_1) (zd @L3.tAnd3.eq_1 @L3.tOr3.eq_1))) (zd (zd (zd @L3.tNot3.eq_1 @L3.mtO.eq_1) (zd @L3.at0 @L3.at1)) (zd (zd @L3.at2 @L3.at3) (zd @L3.at4 @Ag.{0,0})))))) (zd (zd (zd (zd (zd @Bj.{0,0} (zd @Az.{0} @Ef.{0})) (zd (zd @List.cons_append.{0} @Dx.{0}) (zd @B4.{0} @Ed.{0}))) (zd (zd (zd @Dz.{0} @List.getElem?_nil.{0}) (zd @List.set_cons_zero.{0} @Gb.{0})) (zd (zd @Ar.{0,0} @Option.map_none.{0,0}) (zd @Fs.{0,0} @Nat.zero_add)))) (zd (zd (zd @ite_true.{1} (zd @ite_false.{1} @By.{1})) (zd (zd @B0.{1} @Ek) (zd @El @decide_true))) (zd (zd (zd @decide_false @Em) (zd @D6 @Bool.or_true)) (zd (zd @Ea @Ee) (zd @Bool.false_or @Fi.{0}))))) (zd (zd (zd (zd @or_true (zd @true_or @Bn)) (zd (zd @false_or @L3.oAdd_int) (zd @L3.oAddI_int @L3.oSub_int))) (zd (zd (zd @L3.oMul_int @L3.oDiv_int) (zd @L3.oMod_int @L3.oShr_int)) (zd (zd @L3.oPow_int @L3.oAndI_int) (zd @L3.oLt_int @L3.oLe_int)))) (zd (zd (zd (zd @L3.oGt_int @L3.oGe_int) (zd @L3.oIx_tup @L3.oIx_lst)) (zd (zd @L3.oIx_scr @L3.sMt_ap) (zd @L3.mAppend_ok @L3.sz0))) (zd (zd (zd @L3.sz1 @L3.sz2) (zd @L3.sz3 @L3.sz4)) (zd (zd @L3.sz5 @L3.gb.eq_1) (zd @Int.cast_ofNat_Int @Df)))))))
end L3
local macro_rules | `(tactic| simp![$xs,*] $[$l]?)=> `(tactic| simp only[L3.kJ,L3.fun3,L3.start3,L3.O3.res,L3.sSeq,L3.sSet,L3.sRet,L3.sRetS,L3.sRetN,L3.sIf,L3.sExp,L3.sFz,L3.sAug,L3.sAsg,L3.sSkip,L3.sNever,L3.gN,L3.gT,L3.gL,L3.gsCons,L3.gsNil,L3.eV,L3.eC,L3.pV,L3.pE,L3.eOp,L3.eNeg,L3.eNot,L3.eAnd,L3.eOr,L3.eIf,L3.eChain,L3.oEq_int,L3.oNe_int,L3.nx_ite,L3.rt_ite,L3.ok_ite,L3.cons_ite,L3.some_ite,L3.v_ite,L3.int_ite,L3.bl_ite,ite_self,Bz,and_true,true_and,and_self,L3.oIsN,L3.eTup,L3.eLst,L3.aCons,L3.aNil,L3.vals3,L3.eB,L3.bLen,L3.bMax,L3.bMin,L3.bMin3,L3.bInt,L3.bList,L3.bIsT,L3.ty3,L3.isa,L3.eCall,L3.opt,L3.Res.bind,L3.Res.bindS,L3.Vl.fz,L3.C3.fz,L3.tE,L3.tP,L3.tru3,L3.tTru,L3.tAnd3,L3.tOr3,L3.tNot3,L3.rdl,L3.rdm,L3.mtO,L3.wr3,L3.at0,L3.at1,L3.at2,L3.at3,L3.at4,Ag,Bj,Az,Ef,List.replicate,List.cons_append,Dx,B4,Ed,Dz,List.getElem?_nil,List.set_cons_zero,Gb,Ar,Option.map_none,Fs,Nat.reduceSub,Nat.reduceAdd,Nat.reduceLT,Nat.reduceEqDiff,Nat.reduceLeDiff,Nat.zero_add,reduceIte,ite_true,ite_false,By,B0,Ek,El,decide_true,decide_false,Em,D6,Bool.or_true,Ea,Ee,Bool.false_or,Fi,String.reduceEq,String.reduceBEq,or_true,true_or,Bn,false_or,reduceCtorEq,Int.reduceLT,Int.reduceLE,Int.reduceNeg,L3.oAdd_int,L3.oAddI_int,L3.oSub_int,L3.oMul_int,L3.oDiv_int,L3.oMod_int,L3.oShr_int,L3.oPow_int,L3.oAndI_int,L3.oLt_int,L3.oLe_int,L3.oGt_int,L3.oGe_int,L3.oIx_tup,L3.oIx_lst,L3.oIx_scr,L3.sMt_ap,L3.mAppend_ok,L3.sz0,L3.sz1,L3.sz2,L3.sz3,L3.sz4,L3.sz5,L3.gb,Int.cast_ofNat_Int,Int.reduceEq,Df,$xs,*] $[$l]?)
namespace L3
open PySem L2
noncomputable def tx (l:List Nat):Str:=⟨l.toArray⟩
def jm (l:List Nat):(tx l).length=l.length:=by simp[tx,Str.length]
def GR (l:List Nat):(tx l).cps.toList=l:=by simp[tx]
def WB (z:Str):tx z.cps.toList=z:=by simp[tx]
def WC {a b:List Nat} (h:tx a=tx b):a=b:=by have:=congrArg (fun z:Str=>z.cps.toList) h;simpa[tx] using this
def Ph (a b:List Nat):tx a++tx b=tx (a++b):=by
 show Str.append (tx a) (tx b)=_;simp[Str.append,tx]
def Pi (x:Str) {l u:Option Int} {a b:Nat} (e:Builtin.Str.strSliceIndices l u 1 x.length=Builtin.Str.strSliceIndices (some (a:Int)) (some (b:Int)) 1 x.length) (hab:a<=b) (hb:b<=x.length):
  Txt.slice x l u=tx ((x.cps.toList.drop a).take (b-a)):=by
 unfold Txt.slice;rw[e,StrLaws.sliced_plain x hab hb]
 split
 .rename_i q
  rw[StrLaws.strSliceIndices_plain hab hb]at q;simp at q;have h1:a=0:=by lia
  have h2:b=x.length:=by lia
  subst h1;subst h2;rw[Gc,Nat.sub_zero,Fy (by simp[Str.length])]
  exact (WB x).symm
 .rfl
def WD (l:List Nat) (k:Nat):Txt.slice (tx l) none (some (k:Int))=tx (l.take k):=by
 have e:Builtin.Str.strSliceIndices none (some (k:Int)) 1 (tx l).length=Builtin.Str.strSliceIndices (some ((0:Nat):Int)) (some ((min k l.length:Nat):Int)) 1 (tx l).length:=by
  rw[jm];have h1: ¬((k:Int)<0):=by lia
  have h2: ¬(((min k l.length:Nat):Int)<0):=by lia
  have h3: ¬(((0:Nat):Int)<0):=by lia
  simp only[Builtin.Str.strSliceIndices,h1,h2,h3,B0,show ((1:Int) > 0)=True from by simp,By]
  congr 1<;>lia
 rw[Pi _ e (B3 _) (by rw[jm];lia),GR,Gc,Nat.sub_zero]
 congr 1
 rw[List.take_eq_take_iff];lia
def WE (l:List Nat) (k:Nat):Txt.slice (tx l) (some (k:Int)) none=tx (l.drop k):=by
 have e:Builtin.Str.strSliceIndices (some (k:Int)) none 1 (tx l).length=Builtin.Str.strSliceIndices (some ((min k l.length:Nat):Int)) (some ((l.length:Nat):Int)) 1 (tx l).length:=by
  rw[jm];have h1: ¬((k:Int)<0):=by lia
  have h2: ¬(((min k l.length:Nat):Int)<0):=by lia
  have h3: ¬(((l.length:Nat):Int)<0):=by lia
  simp only[Builtin.Str.strSliceIndices,h1,h2,h3,B0,show ((1:Int) > 0)=True from by simp,By]
  congr 1<;>lia
 rw[Pi _ e (by lia) (by rw[jm];lia),GR]
 congr 1
 by_cases hk:k<=l.length
 .rw[Nat.min_eq_left hk,Fy (by simp)]
 .rw[Nat.min_eq_right (by lia),Ck,List.drop_eq_nil_of_le (by lia)];simp
def WG (ls:List (List Nat)):Txt.join (tx []) (ls.map tx)=tx ls.flatten:=by
 show Builtin.Str.glued _ _=_;rw[StrLaws.glued_eq_join];have e:∀a:Str,tx []++a=a:=fun a=>by show Str.append _ _=_;simp[Str.append,tx]
 induction ls with
 |nil=>rfl
 |cons a r ih=>
  cases r with
  |nil=>simp[Str.join]
  |cons b r=>
   rw[Ag,Ag,Str.join]
   .rw[<-Ag,ih]
    simp only[Ph,B4,Dw]
   .simp
noncomputable def qf (c:Nat):Bool:=decide (97<=c) && decide (c<=122)
def jE (c:Nat):Bool:=decide (48<=c) && decide (c<=57)
noncomputable def abc:List Nat:=[97,98,99,100,101,102,103,104,105,106,107,108,109,110,111,112,113,114,115,116,117,118,119,120,121,122]
def abc9:List Nat:=abc++[48,49,50,51,52,53,54,55,56,57]
def WH:("abcdefghijklmnopqrstuvwxyz" :Str)=tx abc:=by decide+kernel
def Pj:("abcdefghijklmnopqrstuvwxyz0123456789" :Str)=tx abc9:=by decide+kernel
def WI:("" :Str)=tx []:=by decide+kernel
def WJ (c:Nat):decide (c∈abc)=qf c:=by
 by_cases h:c<128
 .exact (by decide+kernel:∀c,c<128->decide (c∈abc)=qf c) c h
 .rw[Bq fun m=>h ((by decide+kernel:∀x∈abc,x<128) c m)]
  unfold qf;rw[Bq (p:=c<=122) (by lia),Fh]
def WK (c:Nat):decide (c∈abc9)=(qf c || jE c):=by
 by_cases h:c<128
 .exact (by decide+kernel:∀c,c<128->decide (c∈abc9)=(qf c || jE c)) c h
 .rw[Bq fun m=>h ((by decide+kernel:∀x∈abc9,x<128) c m)]
  unfold qf jE;rw[Bq (p:=c<=122) (by lia),Bq (p:=c<=57) (by lia),Fh,Fh,Ea]
def Pk {s:S3} {h:H3} {c:Nat} {l:List Nat}:oInS false s h (.x (.str (tx [c]))) (.x (.str (tx l)))=some (.v (.bl (decide (c∈l)))):=by
 unfold oInS;simp only[Df,B0];rw[show (tx [c])=⟨#[c]⟩ from rfl,Tc,GR]
def Im {s:S3} {h:H3} {l:List Nat} {i:Int} (hl:l.length<=sizeLine):zn s h (.x (.str (tx l))) (.x (.int i))=(atI l i).map fun c=>.v (.str (tx [c])):=by
 unfold zn qG oIxT yT oIxS;simp only[rdl,jm,GR,Ac hl];cases atI l i<;>rfl
def Io {s:S3} {h:H3} {a b:List Nat} (hl:a.length+b.length<=sizeLine):zy s h (.x (.str (tx a))) (.x (.str (tx b)))=some (.v (.str (tx (a++b)))):=by
 unfold zy qG BD oI Hv;simp only[jm,Ac hl,Ph]
def Pl {s:S3} {h:H3} {l:List Nat} {k:Nat} (hl:l.length<=sizeLine):oSl s h none (some (k:Int)) (.x (.str (tx l)))=some (.v (.str (tx (l.take k)))):=by
 simp only[oSl,jm,Ac hl,WD]
def WL {s:S3} {h:H3} {l:List Nat} {k:Nat} (hl:l.length<=sizeLine):oSl s h (some (k:Int)) none (.x (.str (tx l)))=some (.v (.str (tx (l.drop k)))):=by
 simp only[oSl,jm,Ac hl,WE]
def sz36:36<=sizeLine:=by have:=yE;lia
def isN (l:List Nat):Bool:=decide (1<=l.length) && decide (l.length<=8) && (qf (l.headD 0) && l.all fun c=>qf c || jE c)
def Lj {n:Nat} {fr:List Nat} {a:A3} {g:G3} {e:E3} {s:S3} {h:H3} {j:Int} (I:S3->Prop) (f:Nat->V3) (ea:a s h=.ok [.x (.int j)] h) (hj: -1000000<=j/\j<=1000000)
  (h0:I (yo n fr s)) (step:∀(k:Nat) s,k<j.toNat->I s->∃s1 r,g (.int (k:Int)) s=some s1/\I s1/\e s1 h=.ok r h/\r.fz=some (f k)):
  yy n fr (qJ a) g tTru e s h=.ok (.m (.lst ((List.range j.toNat).map f))) h:=by
 have hj2: -(2 ^ 62)<=j/\j<2 ^ 62:=by lia
 have:=J4 (ok:=fun _=>True) (g:=g) (e:=e) (h:=h) I (fun k:Nat=>V3.int (0+(k:Int))) f trivial (l:=List.range j.toNat) (by rw[Bt];have:=yE;lia)
  (fun k s hk hI=>by rw[Dk];exact step k s (by simpa using hk) hI) h0
 unfold yy qJ;simp only[ea,Res.bind,Ac hj2,this]
def CF {α:Type} {n:Nat} {fr:List Nat} {p:P3} {g:G3} {e:E3} {s:S3} {h:H3} {x:V3} {ok:H3->Prop} {enc:α->V3} {l:List α} (I:S3->Prop) (f:α->V3) (ep:p s h=.ok (.x x) h)
  (hw:yH h x=some (l.map enc,ok)) (hl:l.length<=1000000) (h0:I (yo n fr s)) (step:∀a s,a∈l->I s->∃s1 r,g (enc a) s=some s1/\I s1/\e s1 h=.ok r h/\r.fz=some (f a)):
  yy n fr (iL p) g tTru e s h=.ok (.m (.lst (l.map f))) h:=by
 have:=J4 (ok:=ok) (g:=g) (e:=e) (h:=h) I enc f (CN hw).1 (l:=l) (by have:=yE;lia) step h0
 unfold yy iL;simp only[ep,Res.bind,hw,this]
def WM {n:Nat} {fr:List Nat} {p:P3} {g:G3} {e:E3} {s:S3} {h:H3} {l:List Nat} (I:S3->Prop) (f:Nat->V3) (ep:p s h=.ok (.x (.str (tx l))) h) (hl:l.length<=1000000)
  (h0:I (yo n fr s)) (step:∀a s,a∈l->I s->∃s1 r,g (.str (tx [a])) s=some s1/\I s1/\e s1 h=.ok r h/\r.fz=some (f a)):
  yy n fr (iS p) g tTru e s h=.ok (.m (.lst (l.map f))) h:=by
 have:=J4 (ok:=fun _=>True) (g:=g) (e:=e) (h:=h) I (fun a:Nat=>V3.str (tx [a])) f trivial (l:=l) (by have:=yE;lia) step h0
 have hl2:(tx l).length<=sizeLine:=by rw[jm];have:=yE;lia
 unfold yy iS;simp only[ep,Res.bind,Ac hl2,GR]
 first
  | (simp only[show ∀a:Nat,(⟨#[a]⟩:Str)=tx [a] from fun _=>rfl,this])
  | (rw[show (l.map fun c=>V3.str ⟨#[c]⟩)=l.map (fun a=>V3.str (tx [a])) from rfl,this])
def Lk {s:S3} {h:H3} {ns:List Int} (hs:qT 0 ns=true):yS s h [.x (.lst (ns.map .int))]=some (.v (.int ns.sum)):=by
 unfold yS;simp only[rdl,J5,Ac hs]
def Ll {s:S3} {h:H3} {q:List Bool->Bool} {bs:List Bool}:bAll q s h [.x (.lst (bs.map .bl))]=some (.v (.bl (q bs))):=by
 unfold bAll;simp only[rdl,Uq,Ar]
def WN {p:P3} {a:A3} {s:S3} {h:H3} {ls:List (List Nat)} (ep:p s h=.ok (.x (.str (tx []))) h) (ea:a s h=.ok [.x (.lst (ls.map fun l=>.str (tx l)))] h) (hl:ls.length<=1000) (h1:∀l∈ls,l.length<=16):
  HF p a s h=.ok (.v (.str (tx ls.flatten))) h:=by
 have e:ls.map (fun l=>V3.str (tx l))=(ls.map tx).map .str:=by rw[Av];rfl
 unfold HF;rw[ep];simp only[Res.bind,ea,rdl,e,Ur];rw[Ac,WG]
 refine⟨by rw[Ae];lia,fun z hz=>?_,by rw[jm];simp⟩
 obtain⟨l,hl,rfl⟩:=Ai.1 hz;rw[jm,jm];have:=h1 l hl;simpa using this
def WO {α:Type} {it:I3} {g:G3} {b:D3} {s:S3} {h:H3} {its:List V3} {ok:H3->Prop} {enc:α->V3} {l:List α} (ei:it s h=.ok ⟨its,l.map enc,ok⟩ h) (hok:ok h)
  (I:Nat->S3->Prop) (h0:I 0 s) (step:∀(i:Nat) a s,l[i]? =some a->I i s->∃s2,gb g b (enc a) s h=.nx s2 h/\I (i+1) s2):∃s',zw it g b s h=.nx s' h/\I l.length s':=by
 have hf:zw it g b s h=zU ok g b (l.map enc) s h:=by
  unfold zw;simp only[ei,Res.bindS]
 rw[hf];have:=J3 (ok:=ok) (g:=g) (b:=b) (h:=h) I (xs:=l.map enc) (s:=s) hok h0 fun i x s hx hI=>by
  rw[Ba]at hx;obtain⟨a,ha,rfl⟩:=Cs.1 hx;obtain⟨s2,e,hI2⟩:=step i a s ha hI;unfold gb at e;cases q:g (enc a) s with
  |none=>rw[q]at e;cases e
  |some s1=>rw[q]at e;exact⟨s1,s2,rfl,e,hI2⟩
 rwa [Ae]at this
def it_R {Q:Res Vl->Prop} {α:Type} {it:I3} {g:G3} {b r:D3} {s:S3} {h:H3} {its:List V3} {ok:H3->Prop} {enc:α->V3} {l:List α} (ei:it s h=.ok ⟨its,l.map enc,ok⟩ h) (hok:ok h)
  (I:Nat->S3->Prop) (h0:I 0 s) (step:∀(i:Nat) a s,l[i]? =some a->I i s->∃s2,gb g b (enc a) s h=.nx s2 h/\I (i+1) s2) (k:∀s',I l.length s'->Q ((r s' h).res)):Q ((sSeq (zw it g b) r s h).res):=by
 obtain⟨s',e,hI⟩:=WO ei hok I h0 step;rw[jz e];exact k s' hI
def WQ {ok:H3->Prop} {g:G3} {b:D3} (I:Nat->S3->H3->Prop) {xs:List V3} {s:S3} {h:H3} (hok:∀i s h,I i s h->ok h) (h0:I 0 s h)
  (step:∀(i:Nat) x s h,xs[i]? =some x->I i s h->∃s1 s2 h2,g x s=some s1/\b s1 h=.nx s2 h2/\I (i+1) s2 h2):∃s' h',zU ok g b xs s h=.nx s' h'/\I xs.length s' h':=by
 have gen:∀(n i:Nat) (s:S3) (h:H3),n=xs.length-i->i<=xs.length->I i s h->∃s' h',zU ok g b (xs.drop i) s h=.nx s' h'/\I xs.length s' h':=by
  intro n
  induction n with
  |zero=>
   intro i s h hn hi hI;have:i=xs.length:=by lia
   subst this;rw[Ck];unfold zU;rw[Ac (hok _ _ _ hI)];exact⟨s,h,rfl,hI⟩
  |succ n ih=>
   intro i s h hn hi hI;have hlt:i<xs.length:=by lia
   rw[E1 hlt];unfold zU;rw[Ac (hok _ _ _ hI)];obtain⟨s1,s2,h2,hg,hb,hI2⟩:=step i xs[i] s h (zK hlt) hI;simp only[hg,hb];exact ih (i+1) s2 h2 (by lia) hlt hI2
 exact gen _ 0 s h rfl (B3 _) h0
def EC {α:Type} {it:I3} {g:G3} {b:D3} {s:S3} {h:H3} {its:List V3} {ok:H3->Prop} {enc:α->V3} {l:List α} (ei:it s h=.ok ⟨its,l.map enc,ok⟩ h)
  (I:Nat->S3->H3->Prop) (hok:∀i s h,I i s h->ok h) (h0:I 0 s h) (step:∀(i:Nat) a s h,l[i]? =some a->I i s h->∃s2 h2,gb g b (enc a) s h=.nx s2 h2/\I (i+1) s2 h2):∃s' h',zw it g b s h=.nx s' h'/\I l.length s' h':=by
 have hf:zw it g b s h=zU ok g b (l.map enc) s h:=by
  unfold zw;simp only[ei,Res.bindS]
 rw[hf];have:=WQ (ok:=ok) (g:=g) (b:=b) I (xs:=l.map enc) (s:=s) (h:=h) hok h0 fun i x s h hx hI=>by
  rw[Ba]at hx;obtain⟨a,ha,rfl⟩:=Cs.1 hx;obtain⟨s2,h2,e,hI2⟩:=step i a s h ha hI;unfold gb at e;cases q:g (enc a) s with
  |none=>rw[q]at e;cases e
  |some s1=>rw[q]at e;exact⟨s1,s2,h2,rfl,e,hI2⟩
 rwa [Ae]at this
def WR {Q:Res Vl->Prop} {α:Type} {it:I3} {g:G3} {b r:D3} {s:S3} {h:H3} {its:List V3} {ok:H3->Prop} {enc:α->V3} {l:List α} (ei:it s h=.ok ⟨its,l.map enc,ok⟩ h)
  (I:Nat->S3->H3->Prop) (hok:∀i s h,I i s h->ok h) (h0:I 0 s h) (step:∀(i:Nat) a s h,l[i]? =some a->I i s h->∃s2 h2,gb g b (enc a) s h=.nx s2 h2/\I (i+1) s2 h2) (k:∀s' h',I l.length s' h'->Q ((r s' h').res)):Q ((sSeq (zw it g b) r s h).res):=by
 obtain⟨s',h',e,hI⟩:=EC ei I hok h0 step;rw[jz e];exact k s' h' hI
def Is (h:H3) (r:Vl) (R:Res Vl):Prop:=R=.ok r h
def Yes (R:Res Vl):Prop:=∃h',R=.ok (.v (.bl true)) h'
def Pm {s:S3} {h:H3} {i:Nat} {j:Int}:zn s h (.s i) (.x (.int j))=match s[i]? with
  |some (some (.m (.lst xs)))=>(atI xs j).map .v
  |_=>none:=by
 unfold zn qG oIxT yT oIxS;simp only[rdl];generalize s[i]? =o
 match o with
 |none=>rfl
 |some none=>rfl
 |some (some (.v _))=>rfl
 |some (some (.m (.lst xs)))=>simp only[];cases atI xs j<;>rfl
 |some (some (.m (.dK _)))=>rfl
 |some (some (.m (.dT _)))=>rfl
 |some (some (.m (.ins _ _)))=>rfl
 |some (some (.m .dead))=>rfl
def Pn {s:S3} {h:H3} {i:Nat} {l:List V3} {x:V3} (e:s[i]? =some (some (.m (.lst (l++[x]))))):zn s h (.s i) (.x (.int (-1)))=some (.v x):=by
 rw[Pm,e];simp only[atm1,Ar]
def Po {α β:Type} {l:List α} {f:α->β}:(l.map f).isEmpty=l.isEmpty:=by cases l<;>rfl
def Pp {α:Type} {l:List α} {n:Nat} {x y:α} (h:l.length=n):(l++[x]).set n y=l++[y]:=by
 subst h;rw[En _ _ (Ah _)];simp
def jv {α:Type} {l:List α} {i:Nat} {a:α} (h:l[i]? =some a):l.drop i=a::l.drop (i+1):=by
 obtain⟨hi,rfl⟩:=Ao.1 h;exact E1 hi
def jQ {α:Type} {l:List α} {i:Nat} {a:α} (h:l[i]? =some a):l.take (i+1)=l.take i++[a]:=by rw[Fo,h];rfl
def WS {α:Type} (xs:List α) (k:Nat):cutL xs (some (k:Int)) none=xs.drop k:=by
 unfold cutL HT.sIx;have h1: ¬((k:Int)<0):=by lia
 simp only[Ab h1,Bp]
 by_cases hk:k<=xs.length
 .rw[Nat.min_eq_left hk,Fy (by simp)]
 .rw[Nat.min_eq_right (by lia),Ck,List.drop_eq_nil_of_le (by lia)];simp
theorem Pq {f:V3->V3->Option Bool}:∀{xs:List V3},(∀x∈xs,f x x=some true)->yI f xs xs=some true
 | [],_=>rfl
 |x::r,h=>by simp only[yI,h x Ak,Pq (xs:=r) fun y hy=>h y (An _ hy),Bool.and_self]
def WT {h:H3} {n:Nat} {xs:List V3} (hx:∀x∈xs,zQ h n x x=some true):zQ h (n+1) (.tup xs) (.tup xs)=some true:=by
 simp only[zQ,yw];rw[Pq hx];simp
def IsL (h:H3) (x:V3) (xs:List V3):Prop:=x=.lst xs\/∃n,x=.loc n/\h[n]? =some (.lst xs)
def IsL.walk {h:H3} {x:V3} {xs:List V3} (l:IsL h x xs):∃ok,yH h x=some (xs,ok):=by
 rcases l with rfl|⟨n,rfl,e⟩
 .exact⟨_,rfl⟩
 .exact⟨_,by simp only[yH,e];rfl⟩
def ch (i:Int):Nat:=abc9.getD i.toNat 0
def Pr {i:Int} (h0:0<=i) (h1:i<36):atI abc9 i=some (ch i):=by
 obtain⟨n,rfl⟩:=Int.eq_ofNat_of_zero_le h0;have hn:n<abc9.length:=by show n<36;lia
 refine jA (j:=n) ?_
 rw[zK hn];unfold ch;rw[B1,Bp,zK hn];rfl
def Pt (x:Int):atI abc9 (x%36)=some (ch (x%36)):=Pr (by lia) (by lia)
def WU (x:Int):atI abc9 (x%26)=some (ch (x%26)):=Pr (by lia) (by lia)
def WV:∀n:Nat,n<36->(qf (ch n) || jE (ch n))=true:=by decide
def WW:∀n:Nat,n<26->qf (ch n)=true:=by decide
def WX:∀m n:Nat,m<36->n<36->ch m=ch n->m=n:=by
 have:∀m:Nat,m<36->∀n:Nat,n<36->ch m=ch n->m=n:=by decide
 exact fun m n hm hn=>this m hm n hn
def Pu (x:Int):(qf (ch (x%36)) || jE (ch (x%36)))=true:=by
 have:=WV (x%36).toNat (by lia)
 rwa [show (((x%36).toNat:Nat):Int)=x%36 by lia]at this
def WY (x:Int):qf (ch (x%26))=true:=by
 have:=WW (x%26).toNat (by lia)
 rwa [show (((x%26).toNat:Nat):Int)=x%26 by lia]at this
def WZ {x y:Int} (h:ch (x%36)=ch (y%36)):x%36=y%36:=by
 have:=WX (x%36).toNat (y%36).toNat (by lia) (by lia) (by rw[show (((x%36).toNat:Nat):Int)=x%36 by lia,show (((y%36).toNat:Nat):Int)=y%36 by lia];exact h)
 lia
def nodup_range {α:Type} {f:Nat->α} {n:Nat} (h:∀i j,i<j->j<n->f i≠f j):((List.range n).map f).Nodup:=by
 unfold List.Nodup;rw[Dq]
 refine List.Pairwise.imp_of_mem (fun {a b} ha hb hab=>h a b hab (by simpa using hb)) Gx
def Xa {Q:Res Vl->Prop} {ok:H3->Prop} {g:G3} {b r:D3} {α:Type} {enc:α->V3} {l:List α} (I:Nat->S3->H3->Prop) (hok:∀i s h,I i s h->ok h)
  (step:∀(i:Nat) a s h,l[i]? =some a->I i s h->(∃s2 h2,(gb g b (enc a) s h=.nx s2 h2\/gb g b (enc a) s h=.ct s2 h2)/\I (i+1) s2 h2)\/(∃v h2,gb g b (enc a) s h=.rt v h2/\Q (.ok v h2))\/∃s2 h2,gb g b (enc a) s h=.bk s2 h2/\Q ((r s2 h2).res))
  (k:∀s' h',I l.length s' h'->Q ((r s' h').res)):∀(n i:Nat) (s:S3) (h:H3),l.length-i=n->i<=l.length->I i s h->Q ((match zU ok g b ((l.drop i).map enc) s h with | .nx s h=>r s h|o=>o).res):=by
 intro n
 induction n with
 |zero=>
  intro i s h hn hi hI;have e:i=l.length:=by lia
  subst e;rw[Ck,Bj];unfold zU;rw[Ac (hok _ _ _ hI)];exact k s h hI
 |succ n ih=>
  intro i s h hn hi hI;have hil:i<l.length:=by lia
  rw[jv (zK hil),Ag];unfold zU;rw[Ac (hok _ _ _ hI)];have st:=step i l[i] s h (zK hil) hI;unfold gb at st;cases q:g (enc l[i]) s with
  |none=>simp only[q]at st;rcases st with ⟨_,_,z|z,_⟩|⟨_,_,z,_⟩|⟨_,_,z,_⟩<;>cases z
  |some s1=>
   simp only[q]at st ⊢
   rcases st with ⟨s2,h2,z|z,hI2⟩|⟨v,h2,z,hq⟩|⟨s2,h2,z,hq⟩
   .rw[z];exact ih (i+1) s2 h2 (by lia) hil hI2
   .rw[z];exact ih (i+1) s2 h2 (by lia) hil hI2
   .rw[z];exact hq
   .rw[z];exact hq
def it_E {Q:Res Vl->Prop} {α:Type} {it:I3} {g:G3} {b r:D3} {s:S3} {h:H3} {its:List V3} {ok:H3->Prop} {enc:α->V3} {l:List α} (ei:it s h=.ok ⟨its,l.map enc,ok⟩ h)
  (I:Nat->S3->H3->Prop) (hok:∀i s h,I i s h->ok h) (h0:I 0 s h)
  (step:∀(i:Nat) a s h,l[i]? =some a->I i s h->(∃s2 h2,(gb g b (enc a) s h=.nx s2 h2\/gb g b (enc a) s h=.ct s2 h2)/\I (i+1) s2 h2)\/(∃v h2,gb g b (enc a) s h=.rt v h2/\Q (.ok v h2))\/∃s2 h2,gb g b (enc a) s h=.bk s2 h2/\Q ((r s2 h2).res))
  (k:∀s' h',I l.length s' h'->Q ((r s' h').res)):Q ((sSeq (zw it g b) r s h).res):=by
 have:=Xa (Q:=Q) (r:=r) I hok step k _ 0 s h rfl (B3 _) h0;unfold sSeq zw;simp only[ei,Res.bindS];rw[Gc]at this;exact this
end L3
namespace L3
open PySem PySem.Spec PyProof.Rows L2
def Pv {t:T3} {b:D3} {Post:S3->H3->Prop} (I:Nat->S3->H3->Prop)
  (step:∀n s h,I n s h->(∃h1,t s h=.ok false h1/\Post s h1)\/∃h1 s2 h2 n',t s h=.ok true h1/\b s h1=.nx s2 h2/\n' < n/\I n' s2 h2):
  ∀(n:Nat) (s:S3) (h:H3),I n s h->∃s' h',AF t b s h=.nx s' h'/\Post s' h':=by
 have key:∀(n:Nat) (s:S3) (h:H3),I n s h->∃k s' h',qQ t b k s h=some (.nx s' h')/\Post s' h':=by
  intro n
  induction n using Nat.strongRecOn with
  |_ n ih=>
   intro s h hI
   rcases step n s h hI with ⟨h1,e1,p⟩|⟨h1,s2,h2,n',e1,e2,hn,hI'⟩
   .exact⟨1,s,h1,by unfold qQ;rw[e1],p⟩
   .obtain⟨k,s',h',e3,p⟩:=ih n' hn s2 h2 hI'
    refine⟨k+1,s',h',?_,p⟩
    unfold qQ;rw[e1];simp only[By,e2];exact e3
 intro n s h hI;obtain⟨k,s',h',e,p⟩:=key n s h hI;exact⟨s',h',To e,p⟩
def Pw {Q:Res Vl->Prop} {t:T3} {b r:D3} (I:Nat->S3->H3->Prop) {n:Nat} {s:S3} {h:H3} (h0:I n s h)
  (step:∀n s h,I n s h->(∃h1,t s h=.ok false h1/\Q ((r s h1).res))\/∃h1 s2 h2 n',t s h=.ok true h1/\b s h1=.nx s2 h2/\n' < n/\I n' s2 h2):Q ((sSeq (AF t b) r s h).res):=by
 obtain⟨s',h',e,p⟩:=Pv (Post:=fun s h=>Q ((r s h).res)) I step n s h h0
 exact zF e p
end L3
namespace My
open PySem L2 L3
noncomputable abbrev zh (p:Int×Int):V3:= .tup [.int p.1,.int p.2]
noncomputable def mix1 (c k:Int):Int:=(c+7919*k)*48271%2147483647
def mix2 (c k:Int):Int:=mix1 c k*mix1 c k%2147483629
def qe (c k:Int):Int:=(mix2 c k*mix2 c k+16807*mix2 c k+11)%2147483587
def Px (c k:Int):0<=mix1 c k/\mix1 c k<2147483647:=⟨Gd _ (by decide),Ge _ (by decide)⟩
def Py (c k:Int):0<=mix2 c k/\mix2 c k<2147483629:=⟨Gd _ (by decide),Ge _ (by decide)⟩
def CG (c k:Int) (h:H3):AR [.int c,.int k] h=.ok (.v (.int (qe c k))) h:=by
 have c1:CMul 7919 k:=qS ⟨by decide,by decide⟩
 have c2:CMul (c+7919*k) 48271:=Us ⟨by decide,by decide⟩
 have c3:CMul (mix1 c k) (mix1 c k):=qS ⟨by have:=Px c k;lia,by have:=Px c k;lia⟩
 have c4:CMul (mix2 c k) (mix2 c k):=qS ⟨by have:=Py c k;lia,by have:=Py c k;lia⟩
 have c5:CMul 16807 (mix2 c k):=qS ⟨by decide,by decide⟩
 have m1:(c+7919*k)*48271%2147483647=mix1 c k:=rfl;have m2:mix1 c k*mix1 c k%2147483629=mix2 c k:=rfl;simp![AR,JE,c1,c2,c3,c4,c5,m1,m2,qe]
def cell (ns:List Int) (k:Nat):Int:=(ns[k]?).getD 0
def Xb (ns:List Int) (k:Nat) (h:H3):AS [.scr ns,.int k] h=.ok (.v (.int (cell ns k))) h:=by
 by_cases hk:k<ns.length
 .have hl:((k:Int)<(ns.length:Int)):=by lia
  have ha:atI (ns.map V3.int) (k:Int)=some (.int ns[k]):=jA (j:=k) (by rw[Ba,zK hk];rfl)
  have hc:cell ns k=ns[k]:=by unfold cell;rw[zK hk];rfl
  simp![AS,HK,Ae,hl,ha,hc]
 .have hl: ¬((k:Int)<(ns.length:Int)):=by lia
  have hc:cell ns k=0:=by unfold cell;rw[Eh (by lia)];rfl
  simp![AS,HK,Ae,hl,hc]
structure RowsOk (rows:List (Int×Int)) (rest by_:Int):Prop where
 len:rows.length<=5
 one:∀p∈rows,1<=p.1/\p.1<=9*by_/\0<=p.2/\p.2<=4
 rest:1<=rest/\rest<=16
 by_:1<=by_/\by_<=90000
def Xc (h:H3) (R:Res Vl):Prop:=∃rows rest by_,R=.ok (.v (.tup [.lst (rows.map zh),.int rest,.int by_])) h/\RowsOk rows rest by_
def Xd (c:Int) (h:H3):Xc h (FE [.int c] h):=by
 unfold FE JG JF
 refine yO rfl ?_
 refine zF (by (simp![CG])<;>rfl) ?_
 refine zF (by (simp![CG])<;>rfl) ?_
 refine zF (by (simp![CG])<;>rfl) ?_
 generalize hby:(if c / 60%8=1 then (1+qe c 9%90000:Int) else 1)=by_
 have hb:1<=by_/\by_<=90000:=by rw[<-hby];split<;>lia
 have hr: -(2 ^ 62)<=c%6/\c%6<2 ^ 62:=by lia
 refine DN (j:=c%6) (by simp![]) hr (fun i s=> ∃rows x3 x4,s=[some (.v (.int c)),some (.v (.int by_)),some (.m (.lst (rows.map zh))),x3,x4,none]/\rows.length=i/\∀p∈rows,1<=p.1/\p.1<=9*by_/\0<=p.2/\p.2<=4) ⟨[],_,_,rfl,rfl,by simp⟩ ?_ ?_
 .rintro i s hi ⟨rows,x3,x4,rfl,hl,hp⟩
  have c1:CMul 6 (i:Int):=qS ⟨by decide,by decide⟩
  have c0:(0:Int)<=6*(i:Int):=by lia
  have c2:∀x,CMul by_ x:=fun x=>qS ⟨by lia,by lia⟩
  have c3:rows.length<sizeLine:=by have:=yE;lia
  refine⟨_,by (simp![CG,c1,c0,c2,c3,Ae])<;>rfl,?_⟩
  refine⟨rows++[(_,_)],_,_,by rw[Au];rfl,by simp[hl],?_⟩
  intro p hp2;rw[Ax,Ap]at hp2
  rcases hp2 with hp2|rfl
  .exact hp p hp2
  .refine⟨?_,?_,by lia,by lia⟩
   .have:1<=by_*1:=by lia
    exact Int.le_trans this (G2 (by lia) (by lia))
   .rw[Int.mul_comm 9]
    exact G2 (by lia) (by lia)
 .rintro s ⟨rows,x3,x4,rfl,hl,hp⟩
  have h16:∀p:Prop,[Decidable p]->1<=(if p then 16 else 1+c / 6%3:Int)/\(if p then 16 else 1+c / 6%3:Int)<=16:=by intro p _;split<;>lia
  refine⟨rows,_,by_,by (simp![])<;>rfl,⟨by lia,hp,h16 _,hb⟩⟩
def base (c:Int):List Nat:=(List.range 7).map fun k:Nat=>ch (qe c (k:Int)%36)
def Ip (c:Int):(base c).length=7:=by simp[base]
def Lm (c:Int):∀x∈base c,(qf x || jE x)=true:=by
 intro x hx;obtain⟨k,_,rfl⟩:=Ai.1 hx;exact Pu _
def Xe (c:Int) (x1:Option Vl) (r:S3) (h:H3):
  FF (some (.v (.int c))::x1::some (.v (.str (tx abc9)))::r) h=.ok (.m (.lst ((List.range 7).map fun k:Nat=>.str (tx [ch (qe c (k:Int)%36)])))) h:=by
 unfold FF
 refine Lj (j:=7) (fun s=> ∃x,s=[x,some (.v (.str (tx abc9))),some (.v (.int c))]) (fun k:Nat=>.str (tx [ch (qe c (k:Int)%36)])) (by simp![]) (by decide) ⟨none,?_⟩ ?_
 .simp[yo]
 .rintro k s _ ⟨x,rfl⟩
  have hl:abc9.length<=sizeLine:=sz36
  refine⟨_,_,by (simp![])<;>rfl,⟨_,rfl⟩,by (simp![CG,Im,hl,Pt])<;>rfl,rfl⟩
def Xf (a:Nat) (b:List Nat) (m:Int) (hm:0<=m/\m<=100) (hb:b.length<=100) (x0 x2:Option Vl) (r:S3) (h:H3):
  FH (x0::some (.v (.int m))::x2::some (.v (.str (tx b)))::some (.v (.str (tx [a])))::r) h=.ok (.m (.lst ((List.range m.toNat).map fun k=>.str (tx (a::b.take k))))) h:=by
 unfold FH
 refine Lj (j:=m) (fun s=> ∃x,s=[x,some (.v (.str (tx [a]))),some (.v (.str (tx b)))]) (fun k=>.str (tx (a::b.take k))) (by simp![]) (by lia) ⟨none,?_⟩ ?_
 .simp[yo]
 .rintro k s _ ⟨x,rfl⟩
  have hl:b.length<=sizeLine:=by have:=yE;lia
  have hl2:∀k,[a].length+(b.take k).length<=sizeLine:=fun k=>by
   have h1:=yE;have h2:(b.take k).length<=b.length:=by rw[Bc];lia
   rw[Cg];lia
  refine⟨_,_,by (simp![])<;>rfl,⟨_,rfl⟩,by (simp![eSl,poN,poS,Pl,hl])<;>(rw[Io (hl2 k)])<;>rfl,rfl⟩
def Xg (many:Int) (h:H3) (R:Res Vl):Prop:=∃ls:List (List Nat),R=.ok (.m (.lst (ls.map fun l=>.str (tx l)))) h/\ls.length=many.toNat/\(∀l∈ls,isN l=true)/\ls.Nodup
def Pz {a:Nat} {l:List Nat} (ha:qf a=true) (hl:l.length<=7) (h:∀x∈l,(qf x || jE x)=true):isN (a::l)=true:=by
 unfold isN;rw[Az,Ci (show 1<=l.length+1 by lia),Ci (show l.length+1<=8 by lia),List.headD_cons,ha,E2,ha]
 simp only[Em,Ee];exact Fj.2 h
def nmB (c:Int) (at_:Nat) (k:Nat):List Nat:=ch (qe c 8%26)::((base c).take at_++ch ((c+7*(k:Int))%36)::(base c).drop (at_+1))
def Xh (c m:Int) (hm:0<=m/\m<=12) (h:H3):Xg m h (FI [.int c,.int m] h):=by
 unfold FI JI JH
 refine yO rfl ?_
 refine zF (by (simp![])<;>rfl) ?_
 rw[Pj];have hl:abc9.length<=sizeLine:=sz36;have e0:pE (eC (V3.str ""))=fun (_:S3) h=>Res.ok (.x (.str (tx []))) h:=by rw[WI];rfl
 refine zF (s1:=[some (.v (.int c)),some (.v (.int m)),some (.v (.str (tx abc9))),some (.v (.str (tx (base c)))),none,none,none,none,none]) (h1:=h) ?_ ?_
 .have:=WN (p:=pE (eC (V3.str ""))) (a:=aCons (pE FF) aNil) (s:=[some (.v (.int c)),some (.v (.int m)),some (.v (.str (tx abc9))),none,none,none,none,none,none]) (h:=h) (ls:=(List.range 7).map fun k:Nat=>[ch (qe c (k:Int)%36)])
   (by rw[e0]) (by simp![Xe,Av];rfl) (by simp) (by simp)
  have e2:((List.range 7).map fun k:Nat=>[ch (qe c (k:Int)%36)]).flatten=base c:=by unfold base;rw[<-List.flatMap_def];rfl
  rw[e2]at this;simp![this]
 refine zF (by (simp![CG,Im,hl,WU])<;>rfl) ?_
 have hsm:=WY (qe c 8)
 by_cases hc:c%3=0/\m<9
 .obtain⟨hc1,hc2⟩:=hc
  refine⟨(List.range m.toNat).map fun k=>ch (qe c 8%26)::(base c).take k,?_,by simp,?_,nodup_range ?_⟩
  ·(simp![hc1,hc2,Xf (ch (qe c 8%26)) (base c) m (by lia) (by rw[Ip];lia),Av])<;>rfl
  .intro l hl
   obtain⟨k,_,rfl⟩:=Ai.1 hl
   refine Pz hsm (by rw[Bc,Ip];lia) fun x hx=>Lm c x (Cr hx)
  .intro i j hij hj e
   have:=congrArg List.length e;rw[Az,Az,Bc,Bc,Ip]at this;lia
 .have e:(sIf (tAnd3 (tE (eOp y8 (pE (eOp zE (pV 0) (kJ 3))) (kJ 0))) (tE (eOp qN (pV 1) (kJ 9)))) (sSeq (sFz 3) (sRet FH)) sSkip) [some (.v (.int c)),some (.v (.int m)),some (.v (.str (tx abc9))),some (.v (.str (tx (base c)))),some (.v (.str (tx [ch (qe c 8%26)]))),none,none,none,none] h=.nx [some (.v (.int c)),some (.v (.int m)),some (.v (.str (tx abc9))),some (.v (.str (tx (base c)))),some (.v (.str (tx [ch (qe c 8%26)]))),none,none,none,none] h:=by
   by_cases h1:c%3=0
   .have h2: ¬m<9:=fun z=>hc ⟨h1,z⟩
    simp![h1,h2]
   .simp![h1]
  refine zF e ?_
  refine zF (by (simp![])<;>rfl) ?_
  refine zF (by (simp![])<;>rfl) ?_
  obtain⟨a,ha⟩:=Int.eq_ofNat_of_zero_le (show 0<=c / 3%7 by lia)
  have ha7:a<7:=by lia
  rw[ha];have hb7:=Ip c
  refine DN (j:=m) (by simp![]) (by lia) (fun i s=> ∃x7 x8,s=[some (.v (.int c)),some (.v (.int m)),some (.v (.str (tx abc9))),some (.v (.str (tx (base c)))),some (.v (.str (tx [ch (qe c 8%26)]))),some (.v (.int a)),some (.m (.lst (((List.range i).map (nmB c a)).map fun l=>.str (tx l)))),x7,x8]) ⟨none,none,rfl⟩ ?_ ?_
  .rintro i s hi ⟨x7,x8,rfl⟩
   have c1:CMul 7 (i:Int):=qS ⟨by decide,by decide⟩
   have h36:=yE;have hbl:(base c).length<=sizeLine:=by lia
   have b1:[ch (qe c 8%26)].length+((base c).take a).length<=sizeLine:=by rw[Cg,Bc];lia
   have b2:∀x:Nat,([ch (qe c 8%26)]++(base c).take a).length+[x].length<=sizeLine:=fun x=>by rw[As,Cg,Cg,Bc];lia
   have b3:∀x:Nat,(([ch (qe c 8%26)]++(base c).take a)++[x]).length+((base c).drop (a+1)).length<=sizeLine:=fun x=>by rw[As,As,Cg,Cg,Bc,Ex];lia
   have e1:((a:Int)+1)=((a+1:Nat):Int):=by lia
   have hap:∀x,qI (((List.range i).map (nmB c a)).map fun l=>V3.str (tx l)) [x]=some ((((List.range i).map (nmB c a)).map fun l=>V3.str (tx l))++[x],.non):=fun x=>mAppend_ok (by rw[Ae,Ae,Bt];lia)
   refine⟨_,by (simp![Im,hl,Pt,c1,eSl,poN,poS,Pl,WL,hbl,e1]);(simp only[Io b1,Io (b2 _),Io (b3 _),opt,Vl.fz,Res.bind,Res.bindS,L3.vals3,hap,Ar]);rfl,⟨some (.v (.int i)),some (.v (.str (tx [ch ((c+7*(i:Int))%36)]))),?_⟩⟩
   have e9:nmB c a i=[ch (qe c 8%26)]++(base c).take a++[ch ((c+7*(i:Int))%36)]++(base c).drop (a+1):=by simp[nmB]
   rw[Gf,Au,Au,Ag,Bj,Ag,Bj,e9]
  .rintro s ⟨x7,x8,rfl⟩
   refine⟨(List.range m.toNat).map (nmB c a),by (simp![])<;>rfl,by simp,?_,nodup_range ?_⟩
   .intro l hl
    obtain⟨k,_,rfl⟩:=Ai.1 hl;unfold nmB
    refine Pz hsm ?_ ?_
    .rw[As,Az,Bc,Ex];lia
    .intro x hx
     rw[Ax,Af]at hx
     rcases hx with hx|rfl|hx
     .exact Lm c x (Cr hx)
     .exact Pu _
     .exact Lm c x (List.mem_of_mem_drop hx)
   .intro i j hij hj e
    unfold nmB at e;have e2:=(List.append_inj (List.cons.inj e).2 rfl).2;have:=WZ (List.cons.inj e2).1;lia
def Iq (ns:List Int) (k:Int) (hk:0<=k) (h:H3):AS [.scr ns,.int k] h=.ok (.v (.int (cell ns k.toNat))) h:=by
 have:=Xb ns k.toNat h
 rwa [show ((k.toNat:Nat):Int)=k by lia]at this
structure J where
 nm:List Nat
 f:Int
 l:Int
 w:Int
 b:Int
 deriving DecidableEq
abbrev J.enc (j:J):V3:= .tup [.str (tx j.nm),.int j.f,.int j.l,.int j.w,.int j.b]
structure J.Ok (j:J):Prop where
 nm:isN j.nm=true
 f:0<=j.f/\j.f<=1000000000
 l: -1<=j.l/\j.l<=10000000000
 w:1<=j.w/\j.w<=60
 b:1<=j.b/\j.b<=16
structure LoadOk (js:List J):Prop where
 len:js.length<=12
 one:∀j∈js,j.Ok
 nd:(js.map J.nm).Nodup
noncomputable def wd (x:Int):Int:=if x%3=0 then 4 else if x%3=1 then 12 else 60
noncomputable def bd (x:Int):Int:=if x%4=0 then 1 else if x%4=1 then 1 else if x%4=2 then 3 else 16
def Xi (x:Int):atI [V3.int 4,V3.int 12,V3.int 60] (x%3)=some (.int (wd x)):=by
 unfold wd;have h:x%3=0\/x%3=1\/x%3=2:=by lia
 rcases h with h|h|h<;>rw[h]<;>rfl
def Xj (x:Int):atI [V3.int 1,V3.int 1,V3.int 3,V3.int 16] (x%4)=some (.int (bd x)):=by
 unfold bd;have h:x%4=0\/x%4=1\/x%4=2\/x%4=3:=by lia
 rcases h with h|h|h|h<;>rw[h]<;>rfl
def wd_b (x:Int):0<wd x/\wd x<=60:=by unfold wd;split;lia;split<;>lia
def bd_b (x:Int):0<bd x/\bd x<=16:=by unfold bd;split;lia;split;lia;split<;>lia
def Xk (h:H3) (R:Res Vl):Prop:=∃js:List J,R=.ok (.m (.lst (js.map J.enc))) h/\LoadOk js
def Xl (ns:List Int) (by_:Int) (hb:1<=by_/\by_<=90000) (h:H3):Xk h (FJ [.scr ns,.int by_] h):=by
 unfold FJ JK JJ
 refine yO rfl ?_
 generalize hc:cell ns (1:Int).toNat=c
 refine zF (by (simp![Iq,hc])<;>rfl) ?_
 refine zF (by (simp![])<;>rfl) ?_
 refine zF (by (simp![])<;>rfl) ?_
 refine zF (by (simp![])<;>rfl) ?_
 have p1:CPow 10 8:=by decide
 have p2:CMul 9 ((10:Int) ^ (8:Int).toNat):=by decide
 have p3:(0:Int)<9*10 ^ (8:Int).toNat:=by decide
 refine zF (by (simp![CG,p1,p2,p3])<;>rfl) ?_
 generalize hm:(if c / 8%16=1 then (8+c / 1024 / 2%5:Int) else c%8)=m
 have hmb:0<=m/\m<=12:=by rw[<-hm];split<;>lia
 generalize hf:(if c / 128%8=1 then qe c 10%(9*10 ^ (8:Int).toNat) else 0)=far
 have hfb:0<=far/\far<900000000:=by
  have e:(9*10 ^ (8:Int).toNat:Int)=900000000:=by decide
  rw[<-hf,e];split<;>lia
 obtain⟨ls,en,hl,hn,hd⟩:=Xh (cell ns (2:Int).toNat) m hmb h
 refine zF (by (simp![])<;>rfl) ?_
 refine zF (by (simp![Iq,en])<;>rfl) ?_
 refine zF (by (simp![])<;>rfl) ?_
 refine DN (j:=m) (by simp![]) (by lia) (fun i s=> ∃js x7 x8 x9 x10 x11 x12,s=[some (.v (.scr ns)),some (.v (.int by_)),some (.v (.int c)),some (.v (.int m)),some (.v (.int far)),some (.m (.lst (ls.map fun l=>.str (tx l)))),some (.m (.lst (js.map J.enc))),x7,x8,x9,x10,x11,x12]/\js.length=i/\(∀j∈js,j.Ok)/\js.map J.nm=ls.take i) ⟨[],none,none,none,none,none,none,rfl,rfl,by simp,by simp⟩ ?_ ?_
 .rintro i s hi ⟨js,x7,x8,x9,x10,x11,x12,rfl,hjl,hjo,hjn⟩
  have hil:i<ls.length:=by lia
  have c0:(0:Int)<=4+(i:Int):=by lia
  have c2:∀x,CMul by_ x:=fun x=>qS ⟨by lia,by lia⟩
  have c3:js.length<sizeLine:=by have:=yE;lia
  have c4:∀x,0<wd x:=fun x=>(wd_b x).1
  have c5:∀x,0<bd x:=fun x=>(bd_b x).1
  have c6:atI (ls.map fun l=>V3.str (tx l)) (i:Int)=some (.str (tx ls[i])):=jA (j:=i) (by rw[Ba,zK hil];rfl)
  refine⟨_,by (simp![Iq,CG,c0,c2,c3,c4,c5,Xi,Xj,Pm,c6,Ae])<;>rfl,?_⟩
  generalize hnn:(if c / 1024%2=0 then qe (cell ns (4+(i:Int)).toNat) i else cell ns (4+(i:Int)).toNat)=n
  have hx:0<=by_*(n%17)/\by_*(n%17)<=90000*16:=by
   refine⟨E9 (by lia) (by lia),?_⟩
   exact Int.mul_le_mul (by lia) (by lia) (by lia) (by lia)
  have hy:0<=by_*(1+n / 17%11)/\by_*(1+n / 17%11)<=90000*11:=by
   refine⟨E9 (by lia) (by lia),?_⟩
   exact Int.mul_le_mul (by lia) (by lia) (by lia) (by lia)
  have hw:0<=n / 3000%wd (n / 180000)/\n / 3000%wd (n / 180000)<wd (n / 180000):=⟨Gd _ (by have:=c4 (n / 180000);lia),Ge _ (c4 _)⟩
  have hbb:0<=n / 540000%bd (n / 8640000)/\n / 540000%bd (n / 8640000)<bd (n / 8640000):=⟨Gd _ (by have:=c5 (n / 8640000);lia),Ge _ (c5 _)⟩
  have hw2:=(wd_b (n / 180000)).2;have hb2:=(bd_b (n / 8640000)).2
  refine⟨js++[⟨ls[i],far+by_*(n%17),if n / 187%16=1 then far+by_*(n%17)-1 else far+by_*(n%17)+by_*(1+n / 17%11)-1,1+n / 3000%wd (n / 180000),1+n / 540000%bd (n / 8640000)⟩],_,_,_,_,_,_,by rw[Au];rfl,by simp[hjl],?_,?_⟩
  .intro j hj
   rw[Ax,Ap]at hj
   rcases hj with hj|rfl
   .exact hjo j hj
   .refine⟨hn _ (C4 _),?_,?_,?_,?_⟩
    .dsimp only;lia
    .dsimp only;split<;>lia
    .dsimp only;lia
    .dsimp only;lia
  .rw[Au,hjn,Fo,zK hil];rfl
 .rintro s ⟨js,x7,x8,x9,x10,x11,x12,rfl,hjl,hjo,hjn⟩
  refine⟨js,by (simp![])<;>rfl,⟨by lia,hjo,?_⟩⟩
  rw[hjn,<-hl,Cp];exact hd
end My
namespace Cal
abbrev P:=Int×Int
noncomputable def at_:List P->Int->Int->Int
 | [],rest,_=>rest
 |p::r,rest,t=>if t<p.1 then p.2 else at_ r rest (t-p.1)
noncomputable def qY:List P->Int->Int->Int
 | [],rest,t=>max 0 t*rest
 |p::r,rest,t=>min p.1 (max 0 t)*p.2+qY r rest (t-p.1)
noncomputable def cc (a b lo hi:Int):Int:=max 0 (min b hi-max a lo+1)
noncomputable def over:List P->Int->Int->Int->Int->Int
 | [],rest,st,f,l=>rest*cc st l f l
 |p::r,rest,st,f,l=>p.2*cc st (st+p.1-1) f l+over r rest (st+p.1) f l
noncomputable def stops:List P->Int->List Int
 | [],_=>[]
 |p::r,st=>(st+p.1)::stops r (st+p.1)
def Pos (rows:List P):Prop:=∀p∈rows,1<=p.1
def Pos.tail {p:P} {r:List P} (h:Pos (p::r)):Pos r:=fun x hx=>h x (An _ hx)
def Pos.head {p:P} {r:List P} (h:Pos (p::r)):1<=p.1:=h p Ak
theorem over_ahead:∀(rows:List P) (rest st f l:Int),Pos rows->over rows rest st f l=if f<=l then qY rows rest (l+1-st)-qY rows rest (f-st) else 0
 | [],rest,st,f,l,_=>by
  unfold over qY
  by_cases h:f<=l
  .rw[Ac h,<-Int.sub_mul,Int.mul_comm]
   congr 1
   unfold cc;lia
  .rw[Ab h]
   have:cc st l f l=0:=by unfold cc;lia
   rw[this,D2]
 |p::r,rest,st,f,l,hp=>by
  unfold over qY;rw[over_ahead r rest (st+p.1) f l hp.tail];have h1:=hp.head
  by_cases h:f<=l
  .rw[Ac h,Ac h]
   have e1:cc st (st+p.1-1) f l=min p.1 (max 0 (l+1-st))-min p.1 (max 0 (f-st)):=by
    unfold cc
    rcases Int.le_total st f with a|a
    .rw[Eo a,Eo (show 0<=f-st by lia),Eo (show 0<=l+1-st by lia)]
     lia
    .rw[Fb a,Fb (show f-st<=0 by lia),Int.min_eq_right (show (0:Int)<=p.1 by lia)]
     lia
   have e2:l+1-(st+p.1)=l+1-st-p.1:=by lia
   have e3:f-(st+p.1)=f-st-p.1:=by lia
   rw[e1,e2,e3,Int.mul_comm,Int.sub_mul];lia
  .rw[Ab h,Ab h]
   have:cc st (st+p.1-1) f l=0:=by unfold cc;lia
   rw[this,D2];rfl
noncomputable def pk (rest:Int):Int->Int->List P->List P
 |a,c,[]=>if c=rest then [] else [(a,c)]
 |a,c,p::r=>if p.2=c then pk rest (a+p.1) c r else (a,c)::pk rest p.1 p.2 r
def kform (rest:Int):List P->List P
 | []=>[]
 |p::r=>pk rest p.1 p.2 r
noncomputable def nstep (acc:List P) (r:P):List P:=
 match acc.getLast? with
 |some l=>if l.2=r.2 then acc.dropLast++[(l.1+r.1,r.2)] else acc++[r]
 |none=>acc++[r]
def Xm {acc:List P} {l:P} (h:acc.getLast? =some l) (r:P):nstep acc r=if l.2=r.2 then acc.dropLast++[(l.1+r.1,r.2)] else acc++[r]:=by
 unfold nstep;rw[h]
def nstep_snoc (i:List P) (l r:P):nstep (i++[l]) r=if l.2=r.2 then i++[(l.1+r.1,r.2)] else (i++[l])++[r]:=by
 rw[Xm (l:=l) (by simp)]
 simp
noncomputable def drp (rest:Int) (t:List P):List P:=
 match t.getLast? with
 |some l=>if l.2=rest then t.dropLast else t
 |none=>t
def drp_last {rest:Int} {t:List P} {l:P} (h:t.getLast? =some l):drp rest t=if l.2=rest then t.dropLast else t:=by
 unfold drp;rw[h]
def drp_empty {rest:Int} {t:List P} (h:t=[]):drp rest t=t:=by rw[h];rfl
theorem Ln (rest:Int):∀(r i:List P) (a c:Int),drp rest (r.foldl nstep (i++[(a,c)]))=i++pk rest a c r
 | [],i,a,c=>by
  rw[List.foldl_nil,drp_last (l:=(a,c)) (by simp)]
  unfold pk
  by_cases h:c=rest
  .rw[Ac h,Ac h];simp
  .rw[Ab h,Ab h]
 |p::r,i,a,c=>by
  rw[Fg,nstep_snoc];unfold pk
  by_cases h:c=p.2
  .rw[Ac h,Ac h.symm]
   have:=Ln rest r i (a+p.1) p.2;rw[<-h]at this ⊢;exact this
  .rw[Ab h,Ab (Cc h)]
   have:=Ln rest r (i++[(a,c)]) p.1 p.2;rw[this,Co];rfl
def kept_eq (rest:Int) (rows:List P):drp rest (rows.foldl nstep [])=kform rest rows:=by
 cases rows with
 |nil=>rfl
 |cons p r=>exact Ln rest r [] p.1 p.2
theorem Lo (rest:Int):∀(r:List P) (a c t:Int),Pos r->at_ (pk rest a c r) rest t=at_ ((a,c)::r) rest t
 | [],a,c,t,_=>by
  unfold pk
  by_cases h:c=rest
  .rw[Ac h]
   simp only[at_];rw[h];simp
  .rw[Ab h]
 |p::r,a,c,t,h=>by
  have h1:=h.head;unfold pk
  by_cases e:p.2=c
  .rw[Ac e,Lo rest r (a+p.1) c t h.tail]
   simp only[at_]
   by_cases c1:t<a
   .rw[Ac c1,Ac (by lia)]
   .rw[Ab c1]
    by_cases c2:t-a<p.1
    .rw[Ac c2,Ac (by lia),e]
    .rw[Ab c2,Ab (by lia)]
     congr 1;lia
  .rw[Ab e]
   simp only[at_];rw[Lo rest r p.1 p.2 (t-a) h.tail];simp only[at_]
def kform_at (rest:Int) (rows:List P) (t:Int) (h:Pos rows):at_ (kform rest rows) rest t=at_ rows rest t:=by
 cases rows with
 |nil=>rfl
 |cons p r=>exact Lo rest r p.1 p.2 t h.tail
theorem Lp (rest:Int):∀(r:List P) (a c t:Int),0<=a->Pos r->qY (pk rest a c r) rest t=qY ((a,c)::r) rest t
 | [],a,c,t,ha,_=>by
  unfold pk
  by_cases h:c=rest
  .rw[Ac h]
   simp only[qY];rw[h,<-Int.add_mul]
   congr 1;lia
  .rw[Ab h]
 |p::r,a,c,t,ha,h=>by
  have h1:=h.head;unfold pk
  by_cases e:p.2=c
  .rw[Ac e,Lp rest r (a+p.1) c t (by lia) h.tail]
   simp only[qY];have e1:t-(a+p.1)=t-a-p.1:=by lia
   have e2:min (a+p.1) (max 0 t)=min a (max 0 t)+min p.1 (max 0 (t-a)):=by lia
   rw[e1,e2,e,Int.add_mul];lia
  .rw[Ab e]
   simp only[qY];rw[Lp rest r p.1 p.2 (t-a) (by lia) h.tail]
   simp only[qY]
def kform_ahead (rest:Int) (rows:List P) (t:Int) (h:Pos rows):qY (kform rest rows) rest t=qY rows rest t:=by
 cases rows with
 |nil=>rfl
 |cons p r=>exact Lp rest r p.1 p.2 t (by have:=h.head;lia) h.tail
theorem Lq (rest:Int):∀(r:List P) (a c:Int),1<=a->Pos r->Pos (pk rest a c r)
 | [],a,c,ha,_=>by
  unfold pk
  by_cases h:c=rest
  .rw[Ac h];exact fun _ h=>(nomatch h)
  .rw[Ab h]
   intro p hp;rw[Ap.mp hp];exact ha
 |p::r,a,c,ha,h=>by
  have h1:=h.head;unfold pk
  by_cases e:p.2=c
  .rw[Ac e];exact Lq rest r (a+p.1) c (by lia) h.tail
  .rw[Ab e]
   intro x hx
   rcases Af.mp hx with rfl|hx
   .exact ha
   .exact Lq rest r p.1 p.2 h1 h.tail x hx
def kform_pos (rest:Int) (rows:List P) (h:Pos rows):Pos (kform rest rows):=by
 cases rows with
 |nil=>exact h
 |cons p r=>exact Lq rest r p.1 p.2 h.head h.tail
theorem Lr (rest:Int):∀(r:List P) (a c:Int),(pk rest a c r).length<=r.length+1
 | [],a,c=>by unfold pk;split<;>simp
 |p::r,a,c=>by
  unfold pk
  split
  .exact Bw (Lr rest r _ _) (by simp)
  .rw[Az,Az]
   have:=Lr rest r p.1 p.2;lia
def kform_len (rest:Int) (rows:List P):(kform rest rows).length<=rows.length:=by
 cases rows with
 |nil=>exact Ah _
 |cons p r=>exact Lr rest r p.1 p.2
end Cal
namespace My
open PySem L2 L3
structure RwB (rows:List (Int×Int)) (rest:Int):Prop where
 len:rows.length<=16
 one:∀p∈rows,1<=p.1/\p.1<=1000000/\0<=p.2/\p.2<=16
 rest:1<=rest/\rest<=16
def nb2:(Str.ofString "stretches" =Str.ofString "beyond")=False:=eq_false (by decide+kernel)
abbrev calV (rows:List (Int×Int)) (rest:Int):V3:= .obj "Calendar" [("stretches",.lst (rows.map zh)),("beyond",.int rest)]
def Xn (a:Int) (h:H3):FL [.int a] h=.ok (.v (.bl true)) h:=by
 simp![FL,JM]
def DB {a b c:Int} (h1:b<=a) (h2:a<=c) (h:H3):jO [.int a,.int b,.int c] h=.ok (.v (.bl true)) h:=by
 simp![jO,JN,Xn,h1,h2]
def Xo {a:Int} (h1:0<=a) (h2:a<=16) (h:H3):GG [.int a] h=.ok (.v (.bl true)) h:=by
 simp![GG,Kz,DB h1 h2]
def Xp {a:Int} (h1:1<=a) (h2:a<=16) (h:H3):GJ [.int a] h=.ok (.v (.bl true)) h:=by
 simp![GJ,K6,DB h1 h2]
def Xq {p:Int×Int} (h1:1<=p.1/\p.1<=1000000/\0<=p.2/\p.2<=16) (h:H3):GH [zh p] h=.ok (.v (.bl true)) h:=by
 simp![GH,K4,DB h1.1 h1.2.1,Xo h1.2.2.1 h1.2.2.2]
def Xr {rows:List (Int×Int)} {rest:Int} (hr:RwB rows rest) (h:H3):GI [.lst (rows.map zh)] h=.ok (.v (.bl true)) h:=by
 have hc:HZ [some (.v (.lst (rows.map zh)))] h=.ok (.m (.lst ((rows.map fun _=>true).map .bl))) h:=by
  unfold HZ;rw[Av]
  refine CF (x:= .lst (rows.map zh)) (enc:=zh) (fun s=> ∃a,s=[a]) _ (by simp![]) rfl (by have:=hr.len;lia) ⟨none,rfl⟩ ?_
  rintro p s hp ⟨a,rfl⟩;exact⟨_,_,by (simp![])<;>rfl,⟨_,rfl⟩,by (simp![Xq (hr.one p hp)])<;>rfl,rfl⟩
 have hl: ¬((16:Int)<(rows.length:Int)):=by have:=hr.len;lia
 have ha:(rows.map fun _=>true).all id=true:=by simp
 simp![GI,K5,hc,Ae,hl,Ll,ha]
def Xs (rows:List (Int×Int)) (hl:rows.length<=1000) (h:H3):GE [.lst (rows.map zh)] h=.ok (.m (.lst ((rows.foldl Cal.nstep []).map zh))) h:=by
 show Is h _ _;unfold GE Ky Kw
 refine yO rfl ?_
 refine zF (by (simp![])<;>rfl) ?_
 refine BK (x:= .lst (rows.map zh)) (l:=rows) (enc:=zh) (by simp![]) rfl (fun i s=> ∃acc x2 x3,s=[some (.v (.lst (rows.map zh))),some (.m (.lst (acc.map zh))),x2,x3]/\acc.length<=i/\(rows.drop i).foldl Cal.nstep acc=rows.foldl Cal.nstep []) ⟨[],none,none,rfl,by simp,by simp⟩ ?_ ?_
 .rintro i p s hi ⟨acc,x2,x3,rfl,ha,hI⟩
  rw[jv hi,Fg]at hI;have hil:i<rows.length:=(Ao.1 hi).1;have c3:acc.length<sizeLine:=by have:=yE;lia
  rcases List.eq_nil_or_concat acc with rfl|⟨ini,q,rfl⟩
  .refine⟨_,by (simp![Po,Gg])<;>rfl,⟨[(p.1,p.2)],_,_,rfl,by simp,?_⟩⟩
   rw[<-hI];rfl
  .rw[G4,Cal.nstep_snoc]at hI
   rw[G4]at c3 ha ⊢;rw[Au,Ag,Bj];rw[As,Cg]at ha;have e1:∀(h:H3) (x2 x3:Option Vl),zn [some (.v (.lst (rows.map zh))),some (.m (.lst (ini.map zh++[zh q]))),x2,x3] h (.s 1) (.x (.int (-1)))=some (.v (zh q)):=fun h x2 x3=>Pn rfl
   have c4:ini.length+1<sizeLine:=by simpa using c3
   have ne:(ini.map zh++[zh q]).isEmpty=false:=by simp
   have e2:qp (ini.length+1) (-1)=some ini.length:=by
    unfold qp;rw[Ab (by decide),Ac (by lia)]
    congr 1;lia
   by_cases hq:q.2=p.2
   .rw[Ac hq]at hI
    refine⟨_,by (simp![ne,e1,hq,HE,As,Ae,e2])<;>rfl,⟨ini++[(q.1+p.1,p.2)],some (.v (.int p.1)),some (.v (.int p.2)),?_,by simpa using by lia,hI⟩⟩
    rw[Au,Ag,Bj,Pp (by rw[Ae])]
   .rw[Ab hq]at hI
    refine⟨_,by (simp![ne,e1,hq,c4,As,Ae])<;>rfl,⟨(ini++[q])++[p],some (.v (.int p.1)),some (.v (.int p.2)),?_,by simpa using by lia,hI⟩⟩
    rw[Au,Au,Ag,Bj,Ag,Bj]
 .rintro s ⟨acc,x2,x3,rfl,ha,hI⟩
  rw[Ck,List.foldl_nil]at hI;subst hI;unfold Is
  (simp![])<;>rfl
def Xu (rows:List (Int×Int)) (rest:Int) (hl:rows.length<=1000) (h:H3):CT [.lst (rows.map zh),.int rest] h=.ok (.m (.lst ((Cal.kform rest rows).map zh))) h:=by
 rw[<-Cal.kept_eq];generalize hm:rows.foldl Cal.nstep []=t;have e0:=Xs rows hl h;rw[hm]at e0
 rcases List.eq_nil_or_concat t with rfl|⟨ini,q,rfl⟩
 .rw[Cal.drp_empty rfl]
  (simp![CT,GF,e0,Po,Gg])
 .rw[G4]at e0 ⊢
  rw[Cal.drp_last (l:=q) (by simp),List.dropLast_concat]
  have ne:(ini.map zh++[zh q]).isEmpty=false:=by simp
  have e1:∀(h:H3) (x0 x1:Option Vl),zn [x0,x1,some (.m (.lst (ini.map zh++[zh q])))] h (.s 2) (.x (.int (-1)))=some (.v (zh q)):=fun h x0 x1=>Pn rfl
  rw[Au,Ag,Bj]at e0;have e3:mPop (ini.map zh++[zh q]) []=some (ini.map zh,zh q):=by
   unfold mPop;simp
  by_cases hq:q.2=rest
  .rw[Ac hq]
   (simp![CT,GF,e0,ne,e1,hq,e3])
  .rw[Ab hq]
   (simp![CT,GF,e0,ne,e1,hq,Au])
def Xv {rows:List (Int×Int)} {rest:Int} (hr:RwB rows rest) (h:H3):GK [.loc h.length,.lst (rows.map zh),.int rest] (h++[.ins "Calendar" []])=.ok (.v .non) (h++[.ins "Calendar" [("stretches",.lst ((Cal.kform rest rows).map zh)),("beyond",.int rest)]]):=by
 have hg:∀c,(h++[C3.ins "Calendar" c])[h.length]? =some (.ins "Calendar" c):=fun c=>by simp
 have hs:∀c d,(h++[C3.ins "Calendar" c]).set h.length d=h++[d]:=fun c d=>Pp rfl
 simp![GK,K7,Xr hr,Xp hr.rest.1 hr.rest.2,qm,Xu rows rest (by have:=hr.len;lia),hg,hs,AM,Ap,nb2]
def P0 {p:Int×Int} {r:List (Int×Int)} {rest t:Int}:Cal.at_ (p::r) rest t=if t<p.1 then p.2 else Cal.at_ r rest (t-p.1):=rfl
def P1 {rest t:Int}:Cal.at_ [] rest t=rest:=rfl
def Xw (rows:List (Int×Int)) (rest t:Int) (h:H3):FT [calV rows rest,.int t] h=.ok (.v (.int (Cal.at_ rows rest t))) h:=by
 show Is h _ _;unfold FT JY JX
 refine yO rfl ?_
 refine zF (by (simp![])<;>rfl) ?_
 refine it_E (l:=rows) (enc:=zh) (its:=[.lst (rows.map zh)]) (ok:=fun _=>True) (by (simp![iL,yH])<;>rfl) (fun i s h'=>h'=h/\∃e y3 y4,s=[some (.v (calV rows rest)),some (.v (.int t)),some (.v (.int e)),y3,y4]/\Cal.at_ (rows.drop i) rest (t-e)=Cal.at_ rows rest t) (fun _ _ _ _=>trivial) ⟨rfl,0,none,none,rfl,by rw[Gc,Int.sub_zero]⟩ ?_ ?_
 .rintro i p s h' hi ⟨rfl,e,y3,y4,rfl,hI⟩
  rw[jv hi,P0]at hI
  by_cases hq:t<e+p.1
  .rw[Ac (by lia)]at hI
   refine .inr (.inl ⟨.v (.int p.2),_,by (simp![hq])<;>rfl,?_⟩)
   unfold Is;rw[hI]
  .rw[Ab (by lia)]at hI
   refine .inl ⟨_,_,.inl (by (simp![hq])<;>rfl),rfl,e+p.1,_,_,rfl,?_⟩
   rw[<-hI];congr 1;lia
 .rintro s h' ⟨rfl,e,y3,y4,rfl,hI⟩
  rw[Ck,P1]at hI;unfold Is;rw[<-hI]
  (simp![])<;>rfl
end My
namespace Bd
open L2 L3
theorem len_sub:∀{l m:List Int},l.Nodup->(∀x∈l,x∈m)->l.length<=m.length
 | [],_,_,_=>B3 _
 |x::r,m,nd,h=>by
  rw[Bi]at nd;have hx:x∈m:=h x Ak;have:=len_sub (l:=r) (m:=m.erase x) nd.2 fun y hy=>(List.mem_erase_of_ne (fun (z:y=x)=>nd.1 (z ▸ hy))).mpr (h y (An _ hy))
  rw[List.length_erase_of_mem hx]at this;have:=List.length_pos_of_mem hx;rw[Az];lia
def dedup_any {σ:List Int} {k:Int}:σ.any (· ==k)=true↔k∈σ:=by simp[Dg]
theorem Ir:∀(l acc:List Int),acc.Nodup->(l.foldl PyProof.Rows.step_dedup acc).Nodup/\∀x,x∈l.foldl PyProof.Rows.step_dedup acc↔x∈acc\/x∈l
 | [],acc,h=>⟨h,fun x=>by simp⟩
 |k::r,acc,h=>by
  rw[Fg]
  by_cases hk:k∈acc
  .have e:PyProof.Rows.step_dedup acc k=acc:=by unfold PyProof.Rows.step_dedup;rw[Ac (dedup_any.mpr hk)]
   rw[e];obtain⟨a,b⟩:=Ir r acc h
   refine⟨a,fun x=>(b x).trans ?_⟩
   rw[Af];exact⟨fun z=>z.imp id .inr,fun z=>z.elim .inl fun z=>z.elim (fun e=>.inl (e ▸ hk)) .inr⟩
  .have e:PyProof.Rows.step_dedup acc k=acc++[k]:=by unfold PyProof.Rows.step_dedup;rw[Ab fun z=>hk (dedup_any.mp z)]
   rw[e];obtain⟨a,b⟩:=Ir r (acc++[k]) (C5.mpr ⟨h,by simp,fun x hx y hy z=>by rw[Ap]at hy;subst hy;subst z;exact hk hx⟩)
   refine⟨a,fun x=>(b x).trans ?_⟩
   rw[Ax,Ap,Af,or_assoc]
def P2 (l:List Int):(ya l).Nodup:=(Ir l [] D1).1
def P4 (l:List Int) (x:Int):x∈ya l↔x∈l:=by
 have:=(Ir l [] D1).2 x;simpa[ya] using this
abbrev Up (l:List Int):Prop:=l.Pairwise (· < ·)
def srt (l:List Int):List Int:=AI (ya l)
def srt_up (l:List Int):Up (srt l):=by
 have h:=(AJ (ya l)).2;have n:(AI (ya l)).Nodup:=(AJ (ya l)).1.nodup_iff.mpr (P2 l)
 refine List.Pairwise.imp₂ (fun a b h1 h2=>?_) h n
 lia
def srt_mem (l:List Int) (x:Int):x∈srt l↔x∈l:=((AJ (ya l)).1.mem_iff).trans (P4 l x)
def srt_len {l m:List Int} (h:∀x∈l,x∈m):(ya l).length<=m.length:=len_sub (P2 l) fun x hx=>h x ((P4 l x).mp hx)
noncomputable def prs:List Int->List (Int×Int)
 |a::b::r=>(a,b)::prs (b::r)
 |_=>[]
theorem prs_zip:∀l:List Int,l.zip (l.drop 1)=prs l
 | []=>rfl
 | [a]=>rfl
 |a::b::r=>by
  show (a,b)::(b::r).zip r=(a,b)::prs (b::r);rw[<-prs_zip (b::r)];rfl
theorem prs_up:∀{l:List Int},Up l->∀p∈prs l,p.1<p.2/\p.1∈l/\p.2∈l/\∀x∈l,x<=p.1\/p.2<=x
 | [],_,p,hp=>by cases hp
 | [a],_,p,hp=>by cases hp
 |a::b::r,h,p,hp=>by
  obtain⟨h1,h2⟩:=Cu.mp h;obtain⟨h3,h4⟩:=Cu.mp h2
  rcases Af.mp hp with e|m
  .subst e
   refine⟨h1 b Ak,Ak,An _ Ak,fun x hx=>?_⟩
   rcases Af.mp hx with e|m
   .exact .inl (by lia)
   .rcases Af.mp m with e|m
    .exact .inr (by lia)
    .have:=h3 x m;exact .inr (by lia)
  .obtain⟨a1,a2,a3,a4⟩:=prs_up h2 p m
   refine⟨a1,An _ a2,An _ a3,fun x hx=>?_⟩
   rcases Af.mp hx with e|m
   .have:=h1 p.1 a2;exact .inl (by lia)
   .exact a4 x m
theorem prs_rise:∀{l:List Int},Up l->(prs l).Pairwise (fun p q=>p.2<=q.1)
 | [],_=>.nil
 | [a],_=>.nil
 |a::b::r,h=>by
  obtain⟨h1,h2⟩:=Cu.mp h
  refine Cu.mpr ⟨fun q hq=>?_,prs_rise h2⟩
  obtain⟨_,a2,_,_⟩:=prs_up h2 q hq
  rcases Af.mp a2 with e|m
  .show b<=q.1;lia
  .have:=(Cu.mp h2).1 q.1 m;show b<=q.1;lia
theorem prs_sum:∀{l:List Int},Up l->∀{u v:Int},u∈l->v∈l->u<=v->(((prs l).filter fun p=>decide (u<=p.1) && decide (p.2<=v)).map fun p=>p.2-p.1).sum=v-u
 | [],_,u,_,hu,_,_=>by cases hu
 | [a],_,u,v,hu,hv,_=>by
  rw[Ap]at hu hv;subst hu;subst hv;show (0:Int)=_;lia
 |a::b::r,h,u,v,hu,hv,huv=>by
  obtain⟨h1,h2⟩:=Cu.mp h;have hab:=h1 b Ak;have zero:∀{x:Int},x<=a->(prs (b::r)).filter (fun p=>decide (x<=p.1) && decide (p.2<=a))=[]:=fun {x} hx=>List.filter_eq_nil_iff.mpr fun p hp=>by
   have:=(prs_up h2 p hp).2.2.1;have:=h1 p.2 this;simp;lia
  by_cases eu:u=a
  .subst eu
   by_cases ev:v=u
   .subst ev
    rw[show prs (v::b::r)=(v,b)::prs (b::r) from rfl,D4 (by simp;lia),zero (Dl _)]
    show (0:Int)=_;lia
   .have hv':v∈b::r:=(Af.mp hv).resolve_left ev
    have hbv:b<=v:=by
     rcases Af.mp hv' with e|m
     .lia
     .have:=(Cu.mp h2).1 v m;lia
    rw[show prs (u::b::r)=(u,b)::prs (b::r) from rfl,Ep (by simp;lia),Ag,Cq]
    have e:(prs (b::r)).filter (fun p=>decide (u<=p.1) && decide (p.2<=v))=(prs (b::r)).filter (fun p=>decide (b<=p.1) && decide (p.2<=v)):=List.filter_congr fun p hp=>by
     have m:=(prs_up h2 p hp).2.1;have h3:=h1 p.1 m;have h4:b<=p.1:=by
      rcases Af.mp m with e|m
      .lia
      .have:=(Cu.mp h2).1 _ m;lia
     rw[Ci (show u<=p.1 by lia),Ci h4]
    rw[e,prs_sum h2 Ak hv' hbv];show b-u+(v-b)=_;lia
  .have hu':u∈b::r:=(Af.mp hu).resolve_left eu
   have hau:=h1 u hu';have hv':v∈b::r:=(Af.mp hv).resolve_left (by lia)
   rw[show prs (a::b::r)=(a,b)::prs (b::r) from rfl,D4 (by simp;lia)]
   exact prs_sum h2 hu' hv' huv
theorem at_same:∀(rows:List Cal.P) (rest st a t:Int),Cal.Pos rows->a<=t->(∀s∈Cal.stops rows st,s<=a+st\/t+st<s)->Cal.at_ rows rest t=Cal.at_ rows rest a
 | [],_,_,_,_,_,_,_=>rfl
 |p::r,rest,st,a,t,hp,hat,h=>by
  have h0:=h (st+p.1) Ak;show (if t<p.1 then p.2 else Cal.at_ r rest (t-p.1))=if a<p.1 then p.2 else Cal.at_ r rest (a-p.1)
  by_cases ht:t<p.1
  .rw[Ac ht,Ac (by lia)]
  .rw[Ab ht,Ab (by lia)]
   refine at_same r rest (st+p.1) (a-p.1) (t-p.1) hp.tail (by lia) fun s hs=>?_
   have:=h s (An _ hs);lia
theorem over_const:∀(rows:List Cal.P) (rest st f l m:Int),Cal.Pos rows->(∀t,st<=t->f<=t->t<=l->Cal.at_ rows rest (t-st)=m)->Cal.over rows rest st f l=m*max 0 (l-max f st+1)
 | [],rest,st,f,l,m,_,h=>by
  show rest*Cal.cc st l f l=_;unfold Cal.cc
  by_cases hl:max f st<=l
  .have e:rest=m:=h (max f st) (by lia) (by lia) hl
   rw[e];congr 1;lia
  .rw[show max 0 (min l l-max st f+1)=0 by lia,show max 0 (l-max f st+1)=0 by lia,D2,D2]
 |p::r,rest,st,f,l,m,hp,h=>by
  show p.2*Cal.cc st (st+p.1-1) f l+Cal.over r rest (st+p.1) f l=_;have hh:=hp.head;rw[over_const r rest (st+p.1) f l m hp.tail fun t h1 h2 h3=>by
   have:=h t (by lia) h2 h3
   rw[<-this];show _=if t-st<p.1 then p.2 else Cal.at_ r rest (t-st-p.1)
   rw[Ab (by lia)];congr 1;lia]
  unfold Cal.cc
  by_cases hl:max st f<=min (st+p.1-1) l
  .have e:=h (max st f) (by lia) (by lia) (by lia)
   have e:(if max st f-st<p.1 then p.2 else Cal.at_ r rest (max st f-st-p.1))=m:=e
   rw[Ac (by lia)]at e
   rw[e,<-Int.mul_add,Fc f st];have hf:f<=max st f:=Int.le_max_right _ _;generalize max st f=s at*
   congr 1
   rw[Eo (show f<=st+p.1 by lia),Eo (show 0<=min (st+p.1-1) l-s+1 by lia),Eo (show 0<=l-s+1 by lia)]
   lia
  .have hs:max st f=st\/max st f=f:=by lia
   have hf:f<=max st f:=Int.le_max_right _ _;have ht:st<=max st f:=Int.le_max_left _ _;rw[Fc f st];generalize max st f=s at*;rw[Fb (show min (st+p.1-1) l-s+1<=0 by lia),D2,Dk]
   congr 1
   by_cases q:l<s
   .rw[Fb (show l-max f (st+p.1)+1<=0 by lia),Fb (show l-s+1<=0 by lia)]
   .rw[show max f (st+p.1)=s by lia]
end Bd
namespace L3
open PySem PySem.Spec PyProof.Rows L2
def GS {α:Type} {n:Nat} {fr:List Nat} {it:I3} {g:G3} {c:T3} {e:E3} {s:S3} {h:H3} {its:List V3} {ok:H3->Prop} {enc:α->V3} {l:List α} (I:S3->Prop) (q:α->Bool) (f:α->V3) (ei:it s h=.ok ⟨its,l.map enc,ok⟩ h) (hok:ok h) (hl:l.length<=1000000)
  (h0:I (yo n fr s)) (step:∀a s,a∈l->I s->∃s1,g (enc a) s=some s1/\I s1/\c s1 h=.ok (q a) h/\(q a=true->∃r,e s1 h=.ok r h/\r.fz=some (f a))):yy n fr it g c e s h=.ok (.m (.lst ((l.filter q).map f))) h:=by
 have:=Uo (ok:=ok) (g:=g) (c:=c) (e:=e) (h:=h) I enc q f hok (l:=l) (by have:=yE;lia) step h0
 unfold yy;simp only[ei,Res.bind,this]
def Xx {α:Type} {n:Nat} {fr:List Nat} {it:I3} {g:G3} {e:E3} {s:S3} {h:H3} {its:List V3} {ok:H3->Prop} {enc:α->V3} {l:List α} (I:S3->Prop) (c:α->C3) (ei:it s h=.ok ⟨its,l.map enc,ok⟩ h) (hok:∀h',ok (h++h')) (hl:l.length<=1000000)
  (h0:I (yo n fr s)) (step:∀a s h',a∈l->I s->∃s1,g (enc a) s=some s1/\I s1/\e s1 (h++h')=.ok (.v (.loc (h++h').length)) ((h++h')++[c a])):
  yy n fr it g tTru e s h=.ok (.m (.lst ((List.range l.length).map fun k=>.loc (h.length+k)))) (h++l.map c):=by
 have gen:∀(m:List α) (k:Nat) (h':H3) (s:S3),k+m.length<=1000000->(∀a∈m,a∈l)->h'.length=k->I s->
   yZ ok g tTru e (m.map enc) ((List.range k).map fun k=>.loc (h.length+k)) s (h++h')=.ok ((List.range (k+m.length)).map fun k=>.loc (h.length+k)) ((h++h')++m.map c):=by
  intro m
  induction m with
  |nil=>intro k h' s _ _ _ _;unfold yZ;rw[Bj];simp only[Ac (hok h')];simp
  |cons a r ih=>
   intro k h' s hz hm hk hI;obtain⟨s1,e1,i1,e2⟩:=step a s h' (hm a Ak) hI;rw[Az]at hz ⊢;have hz2:=yE;rw[Ag,Ag];unfold yZ;rw[Ac (hok h')];simp only[e1,tTru,e2,Vl.fz];rw[Ac (by rw[Ae,Bt];lia),Co]
   have ea:((List.range k).map fun k=>V3.loc (h.length+k))++[V3.loc (h++h').length]=(List.range (k+1)).map fun k=>V3.loc (h.length+k):=by
    rw[Gf,Au,Ag,Bj,As,hk]
   rw[ea,ih (k+1) (h'++[c a]) s1 (by lia) (fun x hx=>hm x (An _ hx)) (by rw[As,hk];rfl) i1]
   rw[show k+1+r.length=k+(r.length+1) by lia]
   simp
 have:=gen l 0 [] (yo n fr s) (by lia) (fun a h=>h) rfl h0
 rw[B4,Nat.zero_add]at this;unfold yy;have this:yZ ok g tTru e (l.map enc) [] (yo n fr s) h=_:=this;simp only[ei,Res.bind,this]
end L3
namespace My
open PySem L2 L3
def Xy {l:List Nat} (h:isN l=true):∃a r,l=a::r/\l.length<=8/\qf a=true/\l.all (fun c=>qf c || jE c)=true:=by
 unfold isN at h;simp only[Be,Bz]at h;obtain⟨⟨h1,h2⟩,h3,h4⟩:=h
 match l,h1,h2,h3,h4 with
 |a::r,h1,h2,h3,h4=>exact⟨a,r,rfl,h2,h3,h4⟩
def Xz {l:List Nat} (hn:isN l=true) (h:H3):FK [.str (tx l)] h=.ok (.v (.bl true)) h:=by
 obtain⟨a,r,rfl,h8,hs,ha⟩:=Xy hn;have hc:HM [some (.v (.str (tx (a::r))))] h=.ok (.m (.lst (((a::r).map fun c=>qf c || jE c).map .bl))) h:=by
  unfold HM;rw[Av]
  refine WM (fun s=> ∃x,s=[x]) _ (by simp![]) (by lia) ⟨none,rfl⟩ ?_
  rintro c s _ ⟨x,rfl⟩;exact⟨_,_,by (simp![])<;>rfl,⟨_,rfl⟩,by (simp![Pj,Pk,WK])<;>rfl,rfl⟩
 have hl:(a::r).length<=sizeLine:=by have:=yE;lia
 have hl2:r.length+1<=sizeLine:=hl;have l1:(1:Int)<=((r.length+1:Nat):Int):=by lia
 have l8:((r.length+1:Nat):Int)<=8:=by rw[Az]at h8;lia
 have hall:(((a::r).map fun c=>qf c || jE c)).all id=true:=by rw[List.all_map];exact ha
 have hb:bAll (fun bs=>bs.all id) [some (.v (.str (tx (a::r))))] h [.x (.lst (((a::r).map fun c=>qf c || jE c).map .bl))]=some (.v (.bl true)):=by rw[Ll,hall]
 rw[Ag,Ag,hs,Ee]at hb hc;simp![FK,JL,jm,hl2,l1,l8,Im,WH,Pk,WJ,hs,hc,hb]
def X0 {j:J} (hj:j.Ok) (h:H3):FN [.int j.f,.int j.l,.int j.w,.int j.b] h=.ok (.v (.bl true)) h:=by
 simp![FN,JO,DB hj.f.1 hj.f.2,DB hj.l.1 hj.l.2,DB hj.w.1 hj.w.2,DB hj.b.1 hj.b.2]
def X1 {s:S3} {h:H3} {i:Nat} {ls:List (List Nat)} {l:List Nat} (e:s[i]? =some (some (.m (.lst (ls.map fun l=>.str (tx l)))))) (hl:l∉ls):oIn false s h (.x (.str (tx l))) (.s i)=some (.v (.bl false)):=by
 have e2:zB (fun b=>zQ h 8 b (.str (tx l))) (ls.map fun l=>V3.str (tx l))=some (ls.map fun m=>decide (tx m=tx l)):=DK (f:=fun b=>zQ h 8 b (.str (tx l))) (g:=fun l=>V3.str (tx l)) (k:=fun m=>decide (tx m=tx l)) (fun m=>Ut) ls
 have e3:(ls.map fun m=>decide (tx m=tx l)).any id=false:=by
  rw[List.any_map,List.any_eq_false];intro m hm;simp only[Function.comp,id,Bz];intro z;exact hl (WC z ▸ hm)
 unfold oIn inO;simp only[rdl,e,e2,Ar,e3]
 first|rfl|simp
def X2 {js:List J} (hj:LoadOk js) {x:V3} {h:H3} (hx:IsL h x (js.map J.enc)):FO [x] h=.ok (.v (.bl true)) h:=by
 show Is h _ _;obtain⟨ok,hw⟩:=hx.walk;unfold FO JQ JP
 refine yO rfl ?_
 have hl: ¬((12:Int)<(js.length:Int)):=by have:=hj.len;lia
 refine zF (s1:=[some (.v x),none,none,none,none,none,none]) (h1:=h) ?_ ?_
 .rcases hx with rfl|⟨n,rfl,en⟩
  .simp![Ae,hl]
  .simp![en,Ae,hl]
 refine zF (by (simp![])<;>rfl) ?_
 refine BK (x:=x) (l:=js) (enc:=J.enc) (by simp![]) hw (fun i s=> ∃x2 x3 x4 x5 x6,s=[some (.v x),some (.m (.lst (((js.take i).map J.nm).map fun l=>.str (tx l)))),x2,x3,x4,x5,x6]) ⟨none,none,none,none,none,rfl⟩ ?_ ?_
 .rintro i j s hi ⟨x2,x3,x4,x5,x6,rfl⟩
  obtain⟨hil,hji⟩:=Ao.1 hi;have hjm:=Al hi;have ho:=hj.one j hjm;have hnot:j.nm∉(js.take i).map J.nm:=by
   have h0:js.map J.nm=(js.take i).map J.nm++j.nm::(js.drop (i+1)).map J.nm:=by
    rw[<-Ag,<-Au,<-jv hi,Gh]
   have h1:=hj.nd;rw[h0,C5]at h1;intro z;exact h1.2.2 _ z _ Ak rfl
  have hin:∀x2 x3 x4 x5 x6,oIn false [some (.v x),some (.m (.lst (((js.take i).map J.nm).map fun l=>V3.str (tx l)))),x2,x3,x4,x5,x6] h (.x (.str (tx j.nm))) (.s 1)=some (.v (.bl false)):=fun x2 x3 x4 x5 x6=>X1 rfl hnot
  have hap:∀y,qI (((js.take i).map J.nm).map fun l=>V3.str (tx l)) [y]=some ((((js.take i).map J.nm).map fun l=>V3.str (tx l))++[y],.non):=fun y=>mAppend_ok (by rw[Ae,Ae,Bc];have:=yE;have:=hj.len;lia)
  refine⟨_,by (simp![Xz ho.nm,hin,X0 ho,hap])<;>rfl,⟨some (.v (.str (tx j.nm))),some (.v (.int j.f)),some (.v (.int j.l)),some (.v (.int j.w)),some (.v (.int j.b)),?_⟩⟩
  rw[Fo,hi,Option.toList,Au,Au,Ag,Bj,Ag,Bj]
 .rintro s ⟨x2,x3,x4,x5,x6,rfl⟩
  unfold Is;simp![]
def P5 (j:J) (h:H3):FP [j.enc] h=.ok (.v (.int (max 0 (j.l-j.f+1)))) h:=by
 simp![FP,JR]
def chgs (rows:List (Int×Int)) (f l:Int):List Int:=(Cal.stops rows 0).filter fun s=>decide (f<s) && decide (s<=l)
def X4 (rows:List (Int×Int)) (hl:rows.length<=1000) (rest f l:Int) (h:H3):FQ [calV rows rest,.int f,.int l] h=.ok (.m (.lst ((chgs rows f l).map .int))) h:=by
 show Is h _ _;unfold FQ JT JS
 refine yO rfl ?_
 refine zF (by (simp![])<;>rfl) ?_
 refine zF (by (simp![])<;>rfl) ?_
 refine BK (x:= .lst (rows.map zh)) (l:=rows) (enc:=zh) (by (simp![ze,y9,Ap,List.lookup])<;>rfl) rfl (fun i s=> ∃acc st y5 y6,s=[some (.v (calV rows rest)),some (.v (.int f)),some (.v (.int l)),some (.m (.lst (acc.map .int))),some (.v (.int st)),y5,y6]/\acc.length<=i/\acc++((Cal.stops (rows.drop i) st).filter fun s=>decide (f<s) && decide (s<=l))=chgs rows f l) ⟨[],0,none,none,rfl,by simp,rfl⟩ ?_ ?_
 .rintro i p s hi ⟨acc,st,y5,y6,rfl,ha,hI⟩
  rw[jv hi,show Cal.stops (p::rows.drop (i+1)) st=(st+p.1)::Cal.stops (rows.drop (i+1)) (st+p.1) from rfl]at hI
  have hil:i<rows.length:=(Ao.1 hi).1;have hap:∀y,qI (acc.map V3.int) [y]=some (acc.map V3.int++[y],.non):=fun y=>mAppend_ok (by rw[Ae];have:=yE;lia)
  by_cases h1:f<st+p.1
  .by_cases h2:st+p.1<=l
   .rw[Ep (by simp[h1,h2])]at hI
    refine⟨_,by (simp![h1,h2,hap])<;>rfl,⟨acc++[st+p.1],st+p.1,_,_,by rw[Au];rfl,by simpa using ha,?_⟩⟩
    rw[Co];exact hI
   .rw[D4 (by simp[h1,h2])]at hI
    exact⟨_,by (simp![h1,h2])<;>rfl,⟨acc,st+p.1,_,_,rfl,by lia,hI⟩⟩
  .rw[D4 (by simp[h1])]at hI
   exact⟨_,by (simp![h1])<;>rfl,⟨acc,st+p.1,_,_,rfl,by lia,hI⟩⟩
 .rintro s ⟨acc,st,y5,y6,rfl,ha,hI⟩
  rw[Ck,show Cal.stops [] st=[] from rfl,List.filter_nil,B4]at hI
  subst hI;unfold Is;simp![]
def bdJ (rows:List (Int×Int)) (j:J):List Int:=if j.f<=j.l then [j.f,j.l+1]++chgs rows j.f j.l else []
def yx (rows:List (Int×Int)) (js:List J):List Int:=js.flatMap (bdJ rows)
theorem Iu:∀(rows:List (Int×Int)) (st:Int),(Cal.stops rows st).length=rows.length
 | [],_=>rfl
 |_::r,st=>by show (Cal.stops r _).length+1=r.length+1;rw[Iu r]
def X5 (rows:List (Int×Int)) (j:J):(bdJ rows j).length<=rows.length+2:=by
 unfold bdJ chgs
 split
 .have:=Cv (fun s=>decide (j.f<s) && decide (s<=j.l)) (Cal.stops rows 0)
  rw[Iu]at this;simp;lia
 .simp
theorem Ls (rows:List (Int×Int)):∀js:List J,(yx rows js).length<=js.length*(rows.length+2)
 | []=>B3 _
 |j::r=>by
  show ((bdJ rows j)++yx rows r).length<=_;have h1:=X5 rows j;have h2:=Ls rows r;rw[As,Az,Nat.succ_mul];lia
def bdL_mem {rows:List (Int×Int)} {js:List J} {x:Int}:x∈yx rows js↔∃j∈js,j.f<=j.l/\(x=j.f\/x=j.l+1\/(x∈Cal.stops rows 0/\j.f<x/\x<=j.l)):=by
 unfold yx;rw[List.mem_flatMap]
 constructor
 .rintro⟨j,hj,hx⟩
  unfold bdJ at hx
  by_cases e:j.f<=j.l
  .rw[Ac e]at hx
   simp[chgs]at hx;exact⟨j,hj,e,hx⟩
  .rw[Ab e]at hx;cases hx
 .rintro⟨j,hj,e,hx⟩
  refine⟨j,hj,?_⟩
  unfold bdJ;rw[Ac e];simp[chgs];exact hx
def Lu {rows:List (Int×Int)} {js:List J} (h1:js.length<=12) (h2:rows.length<=16):(ya (yx rows js)).length<64:=by
 have:=Bd.srt_len (l:=yx rows js) (m:=js.map (·.f)++js.map (fun j=>j.l+1)++Cal.stops rows 0) fun x hx=>by
  obtain⟨j,hj,_,e⟩:=bdL_mem.mp hx;rw[Ax,Ax,Ai,Ai]
  rcases e with e|e|⟨e,_⟩
  .exact .inl (.inl ⟨j,hj,e.symm⟩)
  .exact .inl (.inr ⟨j,hj,e.symm⟩)
  .exact .inr e
 rw[As,As,Ae,Ae,Iu]at this;lia
def Lv {xs ys:List V3} (h:xs.length+ys.length<=sizeLine):jU xs [.lst ys]=some (xs++ys,.non):=by
 unfold jU;simp only[Ac h]
def X6 {s:S3} {h:H3} {f:Rf} {ns:List Int} (hf:rdl s h f=some (ns.map .int)) (h1:ns.length<4000) (h2:(ya ns).length<64):DP s h [f]=some (.m (.lst ((Bd.srt ns).map .int))):=by
 unfold DP;simp only[hf,J5,Ac (zd h1 h2)];rfl
def X7 {rows:List (Int×Int)} {rest:Int}:List.lookup ("changes":Str) [(("stretches":Str),V3.lst (rows.map zh)),(("beyond":Str),V3.int rest)]=none:=by
 have h1:(Str.ofString "changes" ==Str.ofString "stretches")=false:=by decide+kernel
 have h2:(Str.ofString "changes" ==Str.ofString "beyond")=false:=by decide+kernel
 simp only[List.lookup,h1,h2]
def noAt {rows:List (Int×Int)} {rest:Int}:List.lookup ("at":Str) [(("stretches":Str),V3.lst (rows.map zh)),(("beyond":Str),V3.int rest)]=none:=by
 have h1:(Str.ofString "at" ==Str.ofString "stretches")=false:=by decide+kernel
 have h2:(Str.ofString "at" ==Str.ofString "beyond")=false:=by decide+kernel
 simp only[List.lookup,h1,h2]
def X8 {js:List J} (hj:LoadOk js) {rows:List (Int×Int)} (hl:rows.length<=16) (rest:Int) (h:H3):FR [.lst (js.map J.enc),calV rows rest] h=.ok (.m (.lst ((Bd.srt (yx rows js)).map .int))) h:=by
 show Is h _ _;unfold FR JV JU
 refine yO rfl ?_
 refine zF (by (simp![])<;>rfl) ?_
 refine BK (x:= .lst (js.map J.enc)) (l:=js) (enc:=J.enc) (by simp![]) rfl (fun i s=> ∃y3,s=[some (.v (.lst (js.map J.enc))),some (.v (calV rows rest)),some (.m (.lst ((yx rows (js.take i)).map .int))),y3]) ⟨none,rfl⟩ ?_ ?_
 .rintro i j s hi ⟨y3,rfl⟩
  have e1:yx rows (js.take (i+1))=yx rows (js.take i)++bdJ rows j:=by
   unfold yx;rw[jQ hi,List.flatMap_append];simp
  rw[e1];have hb:=Ls rows (js.take i);have hjl:(js.take i).length<=12:=by rw[Bc];have:=hj.len;lia
  have hb2:(yx rows (js.take i)).length<=216:=by
   have:(js.take i).length*(rows.length+2)<=12*18:=Nat.mul_le_mul hjl (by lia)
   lia
  have hz:=yE;have hc:(chgs rows j.f j.l).length<=16:=by
   unfold chgs;have:=Cv (fun s=>decide (j.f<s) && decide (s<=j.l)) (Cal.stops rows 0)
   rw[Iu]at this;lia
  generalize yx rows (js.take i)=acc at hb2 ⊢
  by_cases hw:j.f<=j.l
  .have h0:(0:Int)<max 0 (j.l-j.f+1):=by lia
   have ea:jU (acc.map V3.int) [.lst [.int j.f,.int (j.l+1)]]=some (acc.map V3.int++[.int j.f,.int (j.l+1)],.non):=Lv (by rw[Ae];show acc.length+2<=_;lia)
   have eb:jU (acc.map V3.int++[.int j.f,.int (j.l+1)]) [.lst ((chgs rows j.f j.l).map .int)]=some ((acc.map V3.int++[.int j.f,.int (j.l+1)])++(chgs rows j.f j.l).map .int,.non):=Lv (by rw[As,Ae,Ae];show acc.length+2+_<=_;lia)
   refine⟨_,by (simp![P5,h0,ea,z9,y9,X7,X4 rows (by lia),eb])<;>rfl,⟨some (.v j.enc),?_⟩⟩
   unfold bdJ;rw[Ac hw];simp
  .have h0: ¬(0:Int)<max 0 (j.l-j.f+1):=by lia
   refine⟨_,by (simp![P5,h0])<;>rfl,⟨some (.v j.enc),?_⟩⟩
   unfold bdJ;rw[Ab hw,B4]
 .rintro s ⟨y3,rfl⟩
  rw[Cp];have hb:=Ls rows js;have hb2:(yx rows js).length<=216:=by
   have:js.length*(rows.length+2)<=12*18:=Nat.mul_le_mul hj.len (by lia)
   lia
  have e:=fun s h=>X6 (s:=s) (h:=h) (f:= .x (.lst ((yx rows js).map .int))) (ns:=yx rows js) rfl (by lia) (Lu hj.len hl)
  unfold Is;simp![e]
structure Cl where
 f:Int
 l:Int
 m:Int
 deriving Inhabited
noncomputable abbrev Cl.enc (c:Cl):V3:= .tup [.int c.f,.int c.l,.int c.m]
def qE (js:List J) (t:Int):Bool:=js.any fun j=>decide (j.f<=t) && decide (t<=j.l)
def yr (js:List J) (rows:List (Int×Int)) (rest:Int):List Cl:=((Bd.prs (Bd.srt (yx rows js))).filter fun p=>qE js p.1).map fun p=>⟨p.1,p.2-1,Cal.at_ rows rest p.1⟩
def P6 {js:List J} (hj:LoadOk js) (t:Int) (h:H3):FS [.lst (js.map J.enc),.int t] h=.ok (.v (.bl (qE js t))) h:=by
 have hc:HN [some (.v (.lst (js.map J.enc))),some (.v (.int t))] h=.ok (.m (.lst ((js.map fun j=>decide (j.f<=t) && decide (t<=j.l)).map .bl))) h:=by
  unfold HN;rw[Av]
  refine CF (x:= .lst (js.map J.enc)) (enc:=J.enc) (fun s=> ∃a b c d e,s=[a,b,c,d,e,some (.v (.int t))]) _ (by simp![]) rfl (by have:=hj.len;lia) ⟨none,none,none,none,none,rfl⟩ ?_
  rintro j s hjm ⟨a,b,c,d,e,rfl⟩
  refine⟨_,.v (.bl (decide (j.f<=t) && decide (t<=j.l))),by (simp![])<;>rfl,⟨_,_,_,_,_,rfl⟩,?_,rfl⟩
  by_cases h1:j.f<=t
  ·(simp![h1,Ci h1,Em])<;>rfl
  ·(simp![h1,Bq h1,D6])<;>rfl
 have e:(js.map fun j=>decide (j.f<=t) && decide (t<=j.l)).any id=qE js t:=by rw[List.any_map];rfl
 simp![FS,JW,hc,Ll,e]
def X9 {js:List J} (hj:LoadOk js) {rows:List (Int×Int)} (hl:rows.length<=16) (rest:Int) (h:H3):FU [.lst (js.map J.enc),calV rows rest] h=.ok (.m (.lst ((yr js rows rest).map Cl.enc))) h:=by
 show Is h _ _;unfold FU Ka JZ
 refine yO rfl ?_
 refine zF (by (simp![X2 hj (.inl rfl)])<;>rfl) ?_
 refine zF (by (simp![])<;>rfl) ?_
 refine zF (by (simp![X8 hj hl])<;>rfl) ?_
 refine zF (by (simp![])<;>rfl) ?_
 have hbl:(Bd.srt (yx rows js)).length<64:=by
  have:=(AJ (ya (yx rows js))).1.length_eq;have:=Lu (js:=js) (rows:=rows) hj.len hl;unfold Bd.srt;lia
 unfold yr;generalize Bd.srt (yx rows js)=bs at hbl ⊢;have hpl:(Bd.prs bs).length<=64:=by rw[<-Bd.prs_zip,List.length_zip];lia
 have hd:cutL (bs.map V3.int) (some 1) none=(bs.drop 1).map .int:=by have:=WS (bs.map V3.int) 1;rw[List.map_drop];exact this
 have hz:((bs.map V3.int).zip ((bs.drop 1).map V3.int)).map (fun q=>V3.tup [q.1,q.2])=(Bd.prs bs).map zh:=by
  rw[List.zip_map,Av,Bd.prs_zip];rfl
 refine it_R (l:=Bd.prs bs) (enc:=zh) (its:=[.lst (bs.map .int),.lst ((bs.drop 1).map .int)]) (ok:=fun _=>True/\True) (by (simp![Jt,yH,eSl,poS,poN,oSl,hd,hz])<;>rfl) ⟨trivial,trivial⟩ (fun i s=> ∃y4 y5,s=[some (.v (.lst (js.map J.enc))),some (.v (calV rows rest)),some (.m (.lst (((((Bd.prs bs).take i).filter fun p=>qE js p.1).map fun p=>(⟨p.1,p.2-1,Cal.at_ rows rest p.1⟩:Cl)).map Cl.enc))),some (.v (.lst (bs.map .int))),y4,y5]) ⟨none,none,rfl⟩ ?_ ?_
 .rintro i p s hi ⟨y4,y5,rfl⟩
  have hil:i<(Bd.prs bs).length:=(Ao.1 hi).1;rw[jQ hi,List.filter_append,Au,Au];have hap:∀y,qI ((((((Bd.prs bs).take i).filter fun p=>qE js p.1).map fun p=>(⟨p.1,p.2-1,Cal.at_ rows rest p.1⟩:Cl)).map Cl.enc)) [y]=some ((((((Bd.prs bs).take i).filter fun p=>qE js p.1).map fun p=>(⟨p.1,p.2-1,Cal.at_ rows rest p.1⟩:Cl)).map Cl.enc)++[y],.non):=fun y=>mAppend_ok (by
   rw[Ae,Ae];have h1:=Cv (fun p:Int×Int=>qE js p.1) ((Bd.prs bs).take i)
   rw[Bc]at h1;have:=yE;lia)
  generalize ((((Bd.prs bs).take i).filter fun p=>qE js p.1).map fun p=>(⟨p.1,p.2-1,Cal.at_ rows rest p.1⟩:Cl)).map Cl.enc=acc at hap ⊢
  by_cases hw:qE js p.1=true
  .refine⟨_,by (simp![P6 hj,hw,z9,y9,noAt,Xw,hap])<;>rfl,⟨some (.v (.int p.1)),some (.v (.int p.2)),?_⟩⟩
   rw[Ep (p:=fun p:Int×Int=>qE js p.1) hw];rfl
  .have hw':qE js p.1=false:=by simpa using hw
   refine⟨_,by (simp![P6 hj,hw'])<;>rfl,⟨some (.v (.int p.1)),some (.v (.int p.2)),?_⟩⟩
   rw[D4 (p:=fun p:Int×Int=>qE js p.1) (by simp[hw'])];simp
 .rintro s ⟨y4,y5,rfl⟩
  rw[Cp];unfold Is;simp![]
noncomputable abbrev zM (cs:List Cl) (k:Nat):Cl:=cs.getD k default
def wn (cs:List Cl) (j:J) (k:Nat):Bool:=decide (j.f<=(zM cs k).f) && decide ((zM cs k).l<=j.l)
def clen (cs:List Cl) (k:Nat):Int:=(zM cs k).l-(zM cs k).f+1
def qv (cs:List Cl) (j:J):List Nat:=(List.range cs.length).filter (wn cs j)
def XA {cs:List Cl} {k:Nat} (h:k<cs.length):(cs.map Cl.enc).getD k V3.non=(zM cs k).enc:=by
 rw[B1,Ba,zK h];unfold zM;rw[B1,zK h];rfl
def Iv {cs:List Cl} {k:Nat} (h:k<cs.length):atI (cs.map Cl.enc) (k:Int)=some (zM cs k).enc:=by
 refine jA (j:=k) ?_
 rw[Ba,zK h];unfold zM;rw[B1,zK h];rfl
def XB (cs:List Cl) (hc:cs.length<=1000) (j:J) (h:H3):G9 [j.enc,.lst (cs.map Cl.enc)] h=.ok (.m (.lst ((qv cs j).map fun k:Nat=>.int (k:Int)))) h:=by
 have e:HW [some (.v j.enc),some (.v (.lst (cs.map Cl.enc)))] h=.ok (.m (.lst ((qv cs j).map fun k:Nat=>.int (k:Int)))) h:=by
  unfold HW qv;have ei:(List.range (cs.map Cl.enc).length).map (fun k=>V3.tup [.int (k:Nat),(cs.map Cl.enc).getD k .non])=(List.range cs.length).map fun k=>V3.tup [.int (k:Nat),(zM cs k).enc]:=by
   rw[Ae];exact Dh fun k hk=>by rw[XA (Bh.mp hk)]
  refine GS (l:=List.range cs.length) (enc:=fun k=>V3.tup [.int (k:Nat),(zM cs k).enc]) (its:=[.lst (cs.map Cl.enc)]) (ok:=fun _=>True) (fun s=> ∃a b,s=[a,b,some (.v j.enc)]) (wn cs j) (fun k:Nat=>.int (k:Int)) (by (simp![AK,yH,ei])<;>rfl) trivial (by rw[Bt];lia) ⟨none,none,rfl⟩ ?_
  rintro k s hk ⟨a,b,rfl⟩
  refine⟨_,by (simp![])<;>rfl,⟨_,_,rfl⟩,?_,fun _=>⟨_,by (simp![])<;>rfl,rfl⟩⟩
  unfold wn
  by_cases h1:j.f<=(zM cs k).f
  ·(simp![h1,Ci h1,Em])<;>rfl
  ·(simp![h1,Bq h1,D6])<;>rfl
 simp![G9,Kr,e]
def XC {α:Type} [DecidableEq α] {kvs:List (α×V3)} {k:α} (h:k∉kvs.map (·.1)):(kvs.any fun kv=>decide (kv.1=k))=false:=by
 rw[List.any_eq_false];intro p hp z;exact h (Ai.mpr ⟨p,hp,by simpa using z⟩)
def Lw {α:Type} [DecidableEq α] {kvs:List (α×V3)} {k:α} {v:V3} (h:k∉kvs.map (·.1)):put3 kvs k v=kvs++[(k,v)]:=by
 unfold put3;rw[XC h];rfl
noncomputable abbrev ik (k:Nat):MK:= .one (.inl (k:Int))
def DC {a b:Nat} (h:ik a=ik b):a=b:=by injection h with h;injection h with h;exact Int.ofNat.inj h
def yU (cs:List Cl) (j:J):List (MK×V3):=(qv cs j).map fun k=>(ik k,.int (j.b*clen cs k))
def XD (cs:List Cl) (hc:cs.length<=1000) {j:J} (hj:j.Ok) (h:H3):GA [j.enc,.lst (cs.map Cl.enc)] h=.ok (.m (.dT (yU cs j))) h:=by
 show Is h _ _;unfold GA Kt Ks
 refine yO rfl ?_
 refine zF (by (simp![eDnT])<;>rfl) ?_
 have nd:(qv cs j).Nodup:=List.Nodup.sublist Er List.nodup_range;have hlt:∀k∈qv cs j,k<cs.length:=fun k hk=>Bh.mp (Br.mp hk).1
 have hpl:(qv cs j).length<=1000:=by
  have:=Cv (wn cs j) (List.range cs.length);rw[Bt]at this;unfold qv;lia
 have ew:=XB cs hc j h;unfold yU;generalize qv cs j=ps at nd hlt hpl ew ⊢
 refine BK (x:= .lst (ps.map fun k:Nat=>.int (k:Int))) (l:=ps) (enc:=fun k:Nat=>.int (k:Int)) (by (simp![ew])<;>rfl) rfl (fun i s=> ∃y3,s=[some (.v j.enc),some (.v (.lst (cs.map Cl.enc))),some (.m (.dT ((ps.take i).map fun k=>(ik k,.int (j.b*clen cs k))))),y3]) ⟨none,rfl⟩ ?_ ?_
 .rintro i k s hi ⟨y3,rfl⟩
  have hk:=hlt k (Al hi);have c2:∀x,CMul j.b x:=fun x=>qS ⟨by have:=hj.b;lia,by have:=hj.b;lia⟩
  have hnew:ik k∉((ps.take i).map fun k=>(ik k,V3.int (j.b*clen cs k))).map (·.1):=fun m=>by
   rw[Av]at m;obtain⟨a,ha,e⟩:=Ai.mp m;have e:a=k:=DC e;subst e;have h0:ps=ps.take i++a::ps.drop (i+1):=by rw[<-jv hi,Gh]
   rw[h0,C5]at nd;exact nd.2.2 _ ha _ Ak rfl
  have hln:((ps.take i).map fun k=>(ik k,V3.int (j.b*clen cs k))).length<sizeLine:=by
   rw[Ae,Bc];have:=yE;lia
  have ep:∀v,put3 ((ps.take i).map fun k=>(ik k,V3.int (j.b*clen cs k))) (ik k) v=((ps.take i).map fun k=>(ik k,V3.int (j.b*clen cs k)))++[(ik k,v)]:=fun v=>Lw hnew
  rw[jQ hi,Au];generalize ((ps.take i).map fun k=>(ik k,V3.int (j.b*clen cs k)))=acc at hln ep ⊢
  exact⟨_,by (simp![qR,yV,C3.dc,Dc.put,Dc.len,jt,Ar,Iv hk,c2,hln,ep,Dc.c])<;>rfl,⟨_,rfl⟩⟩
 .rintro s ⟨y3,rfl⟩
  rw[Cp];unfold Is;simp![]
end My
namespace Fl
def S:Nat->(Nat->Int)->Int
 |0,_=>0
 |n+1,f=>S n f+f n
theorem S_congr {f g:Nat->Int}:∀{n:Nat},(∀i,i<n->f i=g i)->S n f=S n g
 |0,_=>rfl
 |n+1,h=>by show S n f+f n=S n g+g n;rw[S_congr fun i hi=>h i (by lia),h n (by lia)]
theorem S_add {f g:Nat->Int}:∀n:Nat,S n (fun i=>f i+g i)=S n f+S n g
 |0=>rfl
 |n+1=>by show S n _+_=(S n f+f n)+(S n g+g n);rw[S_add n];dsimp only;lia
theorem S_sub {f g:Nat->Int}:∀n:Nat,S n (fun i=>f i-g i)=S n f-S n g
 |0=>rfl
 |n+1=>by show S n _+_=(S n f+f n)-(S n g+g n);rw[S_sub n];dsimp only;lia
theorem S_zero:∀n:Nat,S n (fun _=>0)=0
 |0=>rfl
 |n+1=>by show S n _+0=0;rw[S_zero n];rfl
theorem S_mul {k:Int} {f:Nat->Int}:∀n:Nat,S n (fun i=>k*f i)=k*S n f
 |0=>(D2 k).symm
 |n+1=>by show S n _+_=k*(S n f+f n);rw[S_mul n,Int.mul_add]
theorem S_le {f g:Nat->Int}:∀{n:Nat},(∀i,i<n->f i<=g i)->S n f<=S n g
 |0,_=>Dl _
 |n+1,h=>by
  show S n f+f n<=S n g+g n;have:=S_le (f:=f) (g:=g) (n:=n) fun i hi=>h i (by lia)
  have:=h n (by lia)
  lia
def S_nonneg {f:Nat->Int} {n:Nat} (h:∀i,i<n->0<=f i):0<=S n f:=by
 have:=S_le (f:=fun _=>0) (g:=f) (n:=n) h
 rwa [S_zero]at this
theorem S_at {x:Int}:∀{n k:Nat},k<n->S n (fun i=>if i=k then x else 0)=x
 |n+1,k,h=>by
  show S n _+(if n=k then x else 0)=x
  by_cases e:n=k
  .subst e
   rw[Ac rfl,S_congr (g:=fun _=>0) fun i hi=>Ab (by lia),S_zero];lia
  .rw[Ab e,S_at (by lia)];lia
def S_mem {f:Nat->Int} {n k:Nat} (h:∀i,i<n->0<=f i) (hk:k<n):f k<=S n f:=by
 have:=S_le (f:=fun i=>if i=k then f k else 0) (g:=f) (n:=n) fun i hi=>by
  show (if i=k then f k else 0)<=f i
  split
  .rename_i e;subst e;exact Dl _
  .exact h i hi
 rwa [S_at hk]at this
theorem P7 {f:Nat->Nat->Int}:∀n m:Nat,S n (fun i=>S m (f i))=S m (fun j=>S n (fun i=>f i j))
 |0,m=>(S_zero m).symm
 |n+1,m=>by show S n _+S m (f n)=S m (fun j=>S n (fun i=>f i j)+f n j);rw[P7 n m,S_add]
structure D where
 nJ:Nat
 nC:Nat
 w:Nat->Int
 win:Nat->Nat->Bool
 mx:Nat->Nat->Int
 cap:Nat->Int
structure St where
 sh:Nat->Nat->Int
 ms:Nat->Int
 sp:Nat->Int
structure Good (d:D) (s:St):Prop where
 lo:∀j c,j<d.nJ->c<d.nC->0<=s.sh j c
 hi:∀j c,j<d.nJ->c<d.nC->d.win j c=true->s.sh j c<=d.mx j c
 off:∀j c,j<d.nJ->c<d.nC->d.win j c=false->s.sh j c=0
 row:∀j,j<d.nJ->S d.nC (s.sh j)+s.ms j=d.w j
 col:∀c,c<d.nC->S d.nJ (fun j=>s.sh j c)+s.sp c=d.cap c
 ms:∀j,j<d.nJ->0<=s.ms j
 sp:∀c,c<d.nC->0<=s.sp c
abbrev Sp:=Nat×Nat×Option Nat
noncomputable def e1 (j c a x:Nat):Int:=if a=j/\x=c then 1 else 0
def eg (j:Nat) (g:Option Nat) (a x:Nat):Int:=match g with
 |none=>0
 |some y=>e1 j y a x
noncomputable def dl:List Sp->Nat->Nat->Int
 | [],_,_=>0
 | (j,c,g)::r,a,x=>e1 j c a x-eg j g a x+dl r a x
theorem dl_snoc (p:Sp) (a x:Nat):∀l:List Sp,dl (l++[p]) a x=dl l a x+(e1 p.1 p.2.1 a x-eg p.1 p.2.2 a x)
 | []=>by obtain⟨j,c,g⟩:=p;show e1 j c a x-eg j g a x+0=0+(e1 j c a x-eg j g a x);lia
 | (j,c,g)::r=>by
  show e1 j c a x-eg j g a x+dl (r++[p]) a x=e1 j c a x-eg j g a x+dl r a x+_;rw[dl_snoc p a x r];lia
inductive Ch:Nat->Nat->List Sp->Prop
 |one (j c:Nat):Ch c j [(j,c,none)]
 |cons {j c y l:Nat} {r:List Sp}:Ch y l r->Ch c l ((j,c,some y)::r)
def Lx {n j c a:Nat} (h:c<n):S n (e1 j c a)=if a=j then 1 else 0:=by
 by_cases e:a=j
 .rw[Ac e,S_congr (g:=fun i=>if i=c then 1 else 0) fun i _=>by unfold e1;simp[e],S_at h]
 .rw[Ab e,S_congr (g:=fun _=>0) fun i _=>by unfold e1;simp[e],S_zero]
def Ly {n j c x:Nat} (h:j<n):S n (fun a=>e1 j c a x)=if x=c then 1 else 0:=by
 by_cases e:x=c
 .rw[Ac e,S_congr (g:=fun i=>if i=j then 1 else 0) fun i _=>by unfold e1;simp[e],S_at h]
 .rw[Ab e,S_congr (g:=fun _=>0) fun i _=>by unfold e1;simp[e],S_zero]
def In (d:D) (l:List Sp):Prop:=∀p∈l,p.1<d.nJ/\p.2.1<d.nC/\d.win p.1 p.2.1=true/\∀y,p.2.2=some y->y<d.nC/\d.win p.1 y=true/\y≠p.2.1
def Ch.row {d:D} {c l:Nat} {ps:List Sp} (h:Ch c l ps) (hi:In d ps) (a:Nat):S d.nC (dl ps a)=if a=l then 1 else 0:=by
 induction h with
 |one j c=>
  obtain⟨_,h2,_⟩:=hi _ Ak;rw[S_congr (g:=e1 j c a) fun i _=>by show e1 j c a i-0+0=_;lia,Lx h2]
 | @cons j c y l r _ ih=>
  obtain⟨_,h2,_,h3⟩:=hi _ Ak;have hy:=(h3 y rfl).1;show S d.nC (fun i=>(e1 j c a i-e1 j y a i)+dl r a i)=_
  rw[S_add,S_sub,Lx h2,Lx hy,ih fun p hp=>hi p (An _ hp)]
  lia
def Ch.col {d:D} {c l:Nat} {ps:List Sp} (h:Ch c l ps) (hi:In d ps) (x:Nat):S d.nJ (fun a=>dl ps a x)=if x=c then 1 else 0:=by
 induction h with
 |one j c=>
  obtain⟨h1,_⟩:=hi _ Ak;rw[S_congr (g:=fun a=>e1 j c a x) fun i _=>by show e1 j c i x-0+0=_;lia,Ly h1]
 | @cons j c y l r _ ih=>
  obtain⟨h1,_⟩:=hi _ Ak;show S d.nJ (fun a=>(e1 j c a x-e1 j y a x)+dl r a x)=_
  rw[S_add,S_sub,Ly h1,Ly h1,ih fun p hp=>hi p (An _ hp)]
  lia
theorem P8 {a x:Nat}:∀{l:List Sp},(∀p∈l,p.1≠a)->dl l a x=0
 | [],_=>rfl
 | (j,c,g)::r,h=>by
  have hj:a≠j:=fun z=>h _ Ak z.symm
  show e1 j c a x-eg j g a x+dl r a x=0;rw[P8 fun p hp=>h p (An _ hp)]
  have h1:e1 j c a x=0:=by unfold e1;rw[Ab fun z=>hj z.1]
  have h2:eg j g a x=0:=by
   unfold eg
   split
   .rfl
   .unfold e1;rw[Ab fun z=>hj z.1]
  lia
theorem Iw {a x:Nat}:∀{l:List Sp},(l.map (·.1)).Nodup->(∀p∈l,∀y,p.2.2=some y->y≠p.2.1)->dl l a x=0\/(dl l a x=1/\∃p∈l,p.1=a/\p.2.1=x)\/(dl l a x= -1/\∃p∈l,p.1=a/\p.2.2=some x)
 | [],_,_=>.inl rfl
 | (j,c,g)::r,nd,hg=>by
  rw[Ag,Bi]at nd
  by_cases e:a=j
  .subst e
   have z:dl r a x=0:=P8 fun p hp e=>nd.1 (Ai.mpr ⟨p,hp,e⟩)
   show e1 a c a x-eg a g a x+dl r a x=0\/_;rw[show dl ((a,c,g)::r) a x=e1 a c a x-eg a g a x+dl r a x from rfl,z]
   by_cases ec:x=c
   .have h1:e1 a c a x=1:=by unfold e1;rw[Ac ⟨rfl,ec⟩]
    have h2:eg a g a x=0:=by
     unfold eg
     split
     .rfl
     .rename_i y;unfold e1;rw[Ab fun z=>hg _ Ak y rfl (z.2.symm.trans ec)]
    exact .inr (.inl ⟨by lia,_,Ak,rfl,ec.symm⟩)
   .have h1:e1 a c a x=0:=by unfold e1;rw[Ab fun z=>ec z.2]
    cases g with
    |none=>exact .inl (by rw[h1];show (0:Int)-0+0=0;lia)
    |some y=>
     by_cases ey:x=y
     .have h2:eg a (some y) a x=1:=by show e1 a y a x=1;unfold e1;rw[Ac ⟨rfl,ey⟩]
      exact .inr (.inr ⟨by lia,_,Ak,rfl,by rw[ey]⟩)
     .have h2:eg a (some y) a x=0:=by show e1 a y a x=0;unfold e1;rw[Ab fun z=>ey z.2]
      exact .inl (by lia)
  .have h1:e1 j c a x=0:=by unfold e1;rw[Ab fun z=>e z.1]
   have h2:eg j g a x=0:=by
    unfold eg
    split
    .rfl
    .unfold e1;rw[Ab fun z=>e z.1]
   have e2:dl ((j,c,g)::r) a x=dl r a x:=by show e1 j c a x-eg j g a x+dl r a x=_;lia
   rw[e2]
   rcases Iw (a:=a) (x:=x) nd.2 fun p hp=>hg p (An _ hp) with h|⟨h,p,hp,k⟩|⟨h,p,hp,k⟩
   .exact .inl h
   .exact .inr (.inl ⟨h,p,An _ hp,k⟩)
   .exact .inr (.inr ⟨h,p,An _ hp,k⟩)
def St.after (s:St) (ps:List Sp) (c l:Nat) (by_:Int):St where
 sh:=fun j x=>s.sh j x+by_*dl ps j x
 ms:=fun j=>if j=l then s.ms j-by_ else s.ms j
 sp:=fun x=>if x=c then s.sp x-by_ else s.sp x
structure Fits (d:D) (s:St) (ps:List Sp) (c l:Nat) (by_:Int):Prop where
 b0:0<=by_
 sp:by_<=s.sp c
 ms:by_<=s.ms l
 up:∀p∈ps,by_<=d.mx p.1 p.2.1-s.sh p.1 p.2.1
 dn:∀p∈ps,∀y,p.2.2=some y->by_<=s.sh p.1 y
theorem Good.after {d:D} {s:St} {ps:List Sp} {c l:Nat} {by_:Int} (g:Good d s) (h:Ch c l ps) (hi:In d ps) (nd:(ps.map (·.1)).Nodup) (f:Fits d s ps c l by_):Good d (s.after ps c l by_) where
 lo:=fun j x hj hx=>by
  have h0:=g.lo j x hj hx;have b0:=f.b0;show 0<=s.sh j x+by_*dl ps j x
  rcases Iw (a:=j) (x:=x) nd fun p hp y hy=>((hi p hp).2.2.2 y hy).2.2 with e|⟨e,_⟩|⟨e,p,hp,e1,e2⟩
  .rw[e];lia
  .rw[e];lia
  .have:=f.dn p hp x e2
   rw[e1]at this;rw[e];lia
 hi:=fun j x hj hx hw=>by
  have h0:=g.hi j x hj hx hw;have b0:=f.b0;show s.sh j x+by_*dl ps j x<=d.mx j x
  rcases Iw (a:=j) (x:=x) nd fun p hp y hy=>((hi p hp).2.2.2 y hy).2.2 with e|⟨e,p,hp,e1,e2⟩|⟨e,_⟩
  .rw[e];lia
  .have:=f.up p hp
   rw[e1,e2]at this;rw[e];lia
  .rw[e];lia
 off:=fun j x hj hx hw=>by
  have h0:=g.off j x hj hx hw;show s.sh j x+by_*dl ps j x=0
  rcases Iw (a:=j) (x:=x) nd fun p hp y hy=>((hi p hp).2.2.2 y hy).2.2 with e|⟨e,p,hp,e1,e2⟩|⟨e,p,hp,e1,e2⟩
  .rw[e];lia
  .have:=(hi p hp).2.2.1
   rw[e1,e2,hw]at this;cases this
  .have:=((hi p hp).2.2.2 x e2).2.1
   rw[e1,hw]at this;cases this
 row:=fun j hj=>by
  have h0:=g.row j hj;show S d.nC (fun x=>s.sh j x+by_*dl ps j x)+(if j=l then s.ms j-by_ else s.ms j)=d.w j
  rw[S_add,S_mul,h.row hi];have:S d.nC (fun x=>s.sh j x)=S d.nC (s.sh j):=rfl
  split<;>lia
 col:=fun x hx=>by
  have h0:=g.col x hx;show S d.nJ (fun j=>s.sh j x+by_*dl ps j x)+(if x=c then s.sp x-by_ else s.sp x)=d.cap x
  rw[S_add,S_mul,h.col hi]
  split<;>lia
 ms:=fun j hj=>by
  have h0:=g.ms j hj;show 0<=if j=l then s.ms j-by_ else s.ms j
  split
  .rename_i e;subst e;have:=f.ms;lia
  .exact h0
 sp:=fun x hx=>by
  have h0:=g.sp x hx;show 0<=if x=c then s.sp x-by_ else s.sp x
  split
  .rename_i e;subst e;have:=f.sp;lia
  .exact h0
inductive Rch (d:D) (s:St):Nat ⊕ Nat->Prop
 |lack {j:Nat}:j<d.nJ->0<s.ms j->Rch d s (.inl j)
 |take {j c:Nat}:Rch d s (.inl j)->c<d.nC->d.win j c=true->s.sh j c<d.mx j c->Rch d s (.inr c)
 |give {j c:Nat}:Rch d s (.inr c)->j<d.nJ->0<s.sh j c->Rch d s (.inl j)
abbrev kc (ja:List (Nat×Nat)):List Nat:=ja.map (·.1)
noncomputable abbrev kj (ca:List (Nat×Option Nat)):List Nat:=ca.map (·.1)
structure Tree (d:D) (s:St) (ja:List (Nat×Nat)) (ca:List (Nat×Option Nat)):Prop where
 nc:(kc ja).Nodup
 nj:(kj ca).Nodup
 cj:∀p∈ja,p.1<d.nC/\d.win p.2 p.1=true/\s.sh p.2 p.1<d.mx p.2 p.1/\p.2∈kj ca
 jc:∀p∈ca,p.1<d.nJ/\(p.2=none->0<s.ms p.1)/\∀y,p.2=some y->y∈kc ja/\0<s.sh p.1 y
 ord:∀(i:Nat) p,ja[i]? =some p->∀y,(p.2,some y)∈ca->y∈kc (ja.take i)
 rj:∀j∈kj ca,Rch d s (.inl j)
 rc:∀c∈kc ja,Rch d s (.inr c)
structure Closed (d:D) (s:St) (ja:List (Nat×Nat)) (ca:List (Nat×Option Nat)):Prop where
 lack:∀j,j<d.nJ->0<s.ms j->j∈kj ca
 out:∀j∈kj ca,∀c,c<d.nC->d.win j c=true->s.sh j c<d.mx j c->c∈kc ja
 bk:∀c∈kc ja,∀j,j<d.nJ->0<s.sh j c->j∈kj ca
def Closed.all {d:D} {s:St} {ja:List (Nat×Nat)} {ca:List (Nat×Option Nat)} (h:Closed d s ja ca) {x:Nat ⊕ Nat} (r:Rch d s x):match x with
  |.inl j=>j∈kj ca
  |.inr c=>c∈kc ja:=by
 induction r with
 |lack h1 h2=>exact h.lack _ h1 h2
 |take _ h1 h2 h3 ih=>exact h.out _ ih _ h1 h2 h3
 |give _ h1 h2 ih=>exact h.bk _ ih _ h1 h2
def XE {α β:Type} {l:List (α×β)} (nd:(l.map (·.1)).Nodup) {k:α} {u v:β} (h1:(k,u)∈l) (h2:(k,v)∈l):u=v:=by
 induction l with
 |nil=>cases h1
 |cons p r ih=>
  rw[Ag,Bi]at nd
  rcases Af.mp h1 with e1|m1
  .rcases Af.mp h2 with e2|m2
   .rw[<-e1]at e2;exact (congrArg Prod.snd e2).symm
   .exact absurd (Ai.mpr ⟨_,m2,by rw[<-e1]⟩) nd.1
  .rcases Af.mp h2 with e2|m2
   .exact absurd (Ai.mpr ⟨_,m1,by rw[<-e2]⟩) nd.1
   .exact ih nd.2 m1 m2
inductive Pth (ja:List (Nat×Nat)) (ca:List (Nat×Option Nat)):Nat->List Sp->Prop
 |one {c j:Nat}:(c,j)∈ja->(j,none)∈ca->Pth ja ca c [(j,c,none)]
 |cons {c j y:Nat} {r:List Sp}:(c,j)∈ja->(j,some y)∈ca->Pth ja ca y r->Pth ja ca c ((j,c,some y)::r)
section
variable {d:D} {s:St} {ja:List (Nat×Nat)} {ca:List (Nat×Option Nat)}
def Pth.head {c:Nat} {ps:List Sp} (h:Pth ja ca c ps):∃j g r,ps=(j,c,g)::r/\(c,j)∈ja/\(j,g)∈ca:=by
 cases h with
 |one h1 h2=>exact⟨_,_,_,rfl,h1,h2⟩
 |cons h1 h2 _=>exact⟨_,_,_,rfl,h1,h2⟩
def Pth.mem {c:Nat} {ps:List Sp} (h:Pth ja ca c ps):∀p∈ps,(p.2.1,p.1)∈ja/\(p.1,p.2.2)∈ca:=by
 induction h with
 |one h1 h2=>intro p hp;rw[Ap]at hp;subst hp;exact⟨h1,h2⟩
 |cons h1 h2 _ ih=>
  intro p hp
  rcases Af.mp hp with e|m
  .subst e;exact⟨h1,h2⟩
  .exact ih p m
def Tree.path (T:Tree d s ja ca):∀(i:Nat) {c j:Nat},ja[i]? =some (c,j)->∃ps,Pth ja ca c ps/\(∀p∈ps.tail,p.2.1∈kc (ja.take i))/\(ps.map fun p=>p.2.1).Nodup:=by
 intro i
 induction i using Nat.strongRecOn with
 |_ i ih=>
  intro c j hi;have hm:(c,j)∈ja:=Al hi;have nin:c∉kc (ja.take i):=fun m=>by
   obtain⟨p,hp,e⟩:=Ai.mp m;obtain⟨k,hk⟩:=B9 hp;have hki:k<i:=by have:=(Ao.mp hk).1;rw[Bc]at this;lia
   rw[Cn hki]at hk;have nd:=T.nc;have h1:(kc ja)[k]? =some c:=by rw[Ba,hk,<-e];rfl
   have h2:(kc ja)[i]? =some c:=by rw[Ba,hi];rfl
   obtain⟨a1,b1⟩:=Ao.mp h1;obtain⟨a2,b2⟩:=Ao.mp h2;exact (Gw.mp nd k i a1 a2 hki) (b1.trans b2.symm)
  obtain⟨⟨j',g⟩,hp,e⟩:=Ai.mp (T.cj _ hm).2.2.2;have e:j'=j:=e;subst e;cases g with
  |none=>exact⟨_,.one hm hp,(fun p hp=>by cases hp),by simp⟩
  |some y=>
   obtain⟨⟨y',l⟩,hq,e⟩:=Ai.mp (T.ord i _ hi y hp);have e:y'=y:=e;subst e;obtain⟨k,hk⟩:=B9 hq;have hki:k<i:=by have:=(Ao.mp hk).1;rw[Bc]at this;lia
   rw[Cn hki]at hk;obtain⟨ps,h1,h2,h3⟩:=ih k hki hk;have sub:∀p∈ps,p.2.1∈kc (ja.take i):=fun p hp=>by
    obtain⟨jj,gg,r,e,_,_⟩:=h1.head;subst e;have up:∀x,x∈kc (ja.take k)->x∈kc (ja.take i):=fun x hx=>by
     obtain⟨q,hq,e⟩:=Ai.mp hx
     refine Ai.mpr ⟨q,?_,e⟩
     have:(ja.take i).take k=ja.take k:=by rw[List.take_take];congr 1;lia
     rw[<-this]at hq;exact Cr hq
    rcases Af.mp hp with e|m
    .subst e;exact Ai.mpr ⟨_,hq,rfl⟩
    .exact up _ (h2 p m)
   refine⟨_,.cons hm hp h1,sub,?_⟩
   rw[Ag,Bi]
   refine⟨fun m=>?_,h3⟩
   obtain⟨p,hp,e⟩:=Ai.mp m;have e:p.2.1=c:=e;rw[<-e]at nin;exact nin (sub p hp)
def Pth.next {c:Nat} {ps:List Sp} (h:Pth ja ca c ps):∀p∈ps,∀y,p.2.2=some y->y∈ps.tail.map fun p=>p.2.1:=by
 induction h with
 |one h1 h2=>intro p hp y e;rw[Ap]at hp;subst hp;cases e
 | @cons c j z r h1 h2 h3 ih=>
  intro p hp y e
  rcases Af.mp hp with e1|m
  .subst e1
   cases e;obtain⟨jj,gg,r',rfl,_,_⟩:=h3.head;exact Ak
  .have:=ih p m y e
   obtain⟨q,hq,eq⟩:=Ai.mp this;exact Ai.mpr ⟨q,List.mem_of_mem_tail hq,eq⟩
def Pth.ne {c:Nat} {ps:List Sp} (h:Pth ja ca c ps) (nd:(ps.map fun p=>p.2.1).Nodup):∀p∈ps,∀y,p.2.2=some y->y≠p.2.1:=by
 induction h with
 |one h1 h2=>intro p hp y e;rw[Ap]at hp;subst hp;cases e
 | @cons c j z r h1 h2 h3 ih=>
  rw[Ag,Bi]at nd;intro p hp y e
  rcases Af.mp hp with e1|m
  .subst e1
   cases e;obtain⟨jj,gg,r',rfl,_,_⟩:=h3.head;intro z;exact nd.1 (by rw[Ag,<-z];exact Ak)
  .exact ih nd.2 p m y e
def Pth.jobs (T:Tree d s ja ca) {c:Nat} {ps:List Sp} (h:Pth ja ca c ps) (nd:(ps.map fun p=>p.2.1).Nodup):(ps.map (·.1)).Nodup:=by
 induction h with
 |one h1 h2=>simp
 | @cons c j y r h1 h2 h3 ih=>
  rw[Ag,Bi]at nd ⊢
  refine⟨fun m=>?_,ih nd.2⟩
  obtain⟨p,hp,e⟩:=Ai.mp m;have hc:=(h3.mem p hp).2;rw[show p.1=j from e]at hc
  have eg:p.2.2=some y:=XE T.nj hc h2;have:=h3.next p hp y eg;obtain⟨jj,gg,r',rfl,_,_⟩:=h3.head;have nd2:=nd.2;rw[Ag,Bi]at nd2;exact nd2.1 this
def Pth.ch {c:Nat} {ps:List Sp} (h:Pth ja ca c ps):∃l,Ch c l ps/\(l,none)∈ca:=by
 induction h with
 |one h1 h2=>exact⟨_,.one _ _,h2⟩
 |cons h1 h2 _ ih=>obtain⟨l,h,m⟩:=ih;exact⟨l,.cons h,m⟩
def Tree.way (T:Tree d s ja ca) {c:Nat} (hc:c∈kc ja) (hw:∀j y,j<d.nJ->y<d.nC->0<s.sh j y->d.win j y=true):∃ps l,Pth ja ca c ps/\Ch c l ps/\In d ps/\(ps.map (·.1)).Nodup/\0<s.ms l/\l<d.nJ/\c<d.nC/\(∀p∈ps,s.sh p.1 p.2.1<d.mx p.1 p.2.1)/\∀p∈ps,∀y,p.2.2=some y->0<s.sh p.1 y:=by
 obtain⟨⟨c',j⟩,hm,e⟩:=Ai.mp hc;have e:c'=c:=e;subst e;obtain⟨i,hi⟩:=B9 hm;obtain⟨ps,h1,h2,h3⟩:=T.path i hi;obtain⟨l,h4,h5⟩:=h1.ch;have h6:=T.jc _ h5
 refine⟨ps,l,h1,h4,fun p hp=>?_,h1.jobs T h3,h6.2.1 rfl,h6.1,(T.cj _ hm).1,fun p hp=>(T.cj _ (h1.mem p hp).1).2.2.1,fun p hp y hy=>?_⟩
 .obtain⟨m1,m2⟩:=h1.mem p hp
  have a:=T.cj _ m1;have b:=T.jc _ m2
  refine⟨b.1,a.1,a.2.1,fun y hy=>?_⟩
  obtain⟨y1,y2⟩:=b.2.2 y hy;obtain⟨q,hq,e⟩:=Ai.mp y1;have hy':y<d.nC:=by have:=(T.cj q hq).1;rw[show q.1=y from e]at this;exact this
  exact⟨hy',hw _ _ b.1 hy' y2,h1.ne h3 p hp y hy⟩
 .obtain⟨m1,m2⟩:=h1.mem p hp
  exact ((T.jc _ m2).2.2 y hy).2
open Classical in
def XF (g:Good d s) (C:Closed d s ja ca) (j:Nat) (hj:j<d.nJ):
  max 0 (d.w j-S d.nC (fun c=>if d.win j c=true/\c∉kc ja then d.mx j c else 0))=s.ms j+S d.nC (fun c=>if c∈kc ja then s.sh j c else 0):=by
 have row:=g.row j hj;have split_:S d.nC (s.sh j)=S d.nC (fun c=>if c∈kc ja then s.sh j c else 0)+S d.nC (fun c=>if c∈kc ja then 0 else s.sh j c):=by
  rw[<-S_add];exact S_congr fun c _=>by split<;>lia
 have nn:0<=S d.nC (fun c=>if c∈kc ja then s.sh j c else 0):=S_nonneg fun c hc=>by
  show 0<=if c∈kc ja then s.sh j c else 0
  split
  .exact g.lo j c hj hc
  .exact Dl _
 have m0:=g.ms j hj
 by_cases r:j∈kj ca
 .have e:S d.nC (fun c=>if d.win j c=true/\c∉kc ja then d.mx j c else 0)=S d.nC (fun c=>if c∈kc ja then 0 else s.sh j c):=S_congr fun c hc=>by
   by_cases hm:c∈kc ja
   .rw[Ab fun z=>z.2 hm,Ac hm]
   .rw[Ab hm]
    by_cases hw:d.win j c=true
    .rw[Ac ⟨hw,hm⟩]
     have h1:=g.hi j c hj hc hw
     by_cases lt:s.sh j c<d.mx j c
     .exact absurd (C.out j r c hc hw lt) hm
     .lia
    .rw[Ab fun z=>hw z.1,g.off j c hj hc (by simpa using hw)]
  rw[e];lia
 .have z1:s.ms j=0:=by
   by_cases p:0<s.ms j
   .exact absurd (C.lack j hj p) r
   .lia
  have z2:S d.nC (fun c=>if c∈kc ja then s.sh j c else 0)=0:=by
   rw[S_congr (g:=fun _=>0) fun c hc=>?_,S_zero]
   split
   .rename_i m
    have:=g.lo j c hj hc
    by_cases p:0<s.sh j c
    .exact absurd (C.bk c m j hj p) r
    .lia
   .rfl
  have le:S d.nC (fun c=>if c∈kc ja then 0 else s.sh j c)<=S d.nC (fun c=>if d.win j c=true/\c∉kc ja then d.mx j c else 0):=S_le fun c hc=>by
   by_cases hm:c∈kc ja
   .rw[Ac hm,Ab fun z=>z.2 hm];lia
   .rw[Ab hm]
    by_cases hw:d.win j c=true
    .rw[Ac ⟨hw,hm⟩];exact g.hi j c hj hc hw
    .rw[Ab fun z=>hw z.1,g.off j c hj hc (by simpa using hw)];lia
  lia
open Classical in
def cut_all (g:Good d s) (C:Closed d s ja ca) (full:∀c∈kc ja,c<d.nC->s.sp c=0):
  S d.nJ (fun j=>max 0 (d.w j-S d.nC (fun c=>if d.win j c=true/\c∉kc ja then d.mx j c else 0)))-S d.nC (fun c=>if c∈kc ja then d.cap c else 0)=S d.nJ s.ms:=by
 rw[S_congr (f:=fun j=>max 0 (d.w j-S d.nC (fun c=>if d.win j c=true/\c∉kc ja then d.mx j c else 0))) (g:=fun j=>s.ms j+S d.nC (fun c=>if c∈kc ja then s.sh j c else 0)) fun j hj=>XF g C j hj,S_add,P7]
 have e:S d.nC (fun c=>S d.nJ (fun j=>if c∈kc ja then s.sh j c else 0))=S d.nC (fun c=>if c∈kc ja then d.cap c else 0):=S_congr fun c hc=>by
  by_cases hm:c∈kc ja
  .rw[Ac hm,S_congr (g:=fun j=>s.sh j c) fun j _=>Ac hm]
   have:=g.col c hc;have:=full c hm hc;lia
  .rw[Ab hm,S_congr (g:=fun _=>0) fun j _=>Ab hm,S_zero]
 rw[e];show S d.nJ (fun j=>s.ms j)+_-_=_
 have:S d.nJ (fun j=>s.ms j)=S d.nJ s.ms:=rfl
 lia
end
end Fl
namespace My
open PySem L2 L3
noncomputable abbrev zC (n:Nat) (f:Nat->Int):List V3:=(List.range n).map fun k=>.int (f k)
def jr {n:Nat} {f:Nat->Int} {k:Nat} (h:k<n):atI (zC n f) (k:Int)=some (.int (f k)):=jA (j:=k) (by simp[h])
def Iy {n:Nat} {f:Nat->Int}:(zC n f).length=n:=by simp
def Lz {n:Nat} {f:Nat->Int} {k:Nat} {x:Int}:(zC n f).set k (.int x)=zC n fun i=>if i=k then x else f i:=by
 refine Dn (by simp) fun i h1 h2=>?_
 rw[List.getElem_set]
 by_cases e:k=i
 .subst e;simp
 .have e': ¬i=k:=fun z=>e z.symm
  rw[Ab e];simp[e']
def L0 {n k:Nat} (h:k<n):qp n (k:Int)=some k:=by
 unfold qp;rw[Ac (by lia),Ac (by lia)];rfl
abbrev jJ (cs:List Cl) (js:List J) (n:Nat):List (Str×V3):=[("cells",.lst (cs.map Cl.enc)),("load",.lst (js.map J.enc)),("most",.lst (js.map fun j=>.dT (yU cs j))),("shares",.lst ((List.range js.length).map fun k=>.loc (n+1+k))),("missing",.loc (n+1+js.length)),("spare",.loc (n+1+(js.length+1)))]
def jk (cs:List Cl) (js:List J) (st:Fl.St):H3:=((List.range js.length).map fun j=>C3.lst (zC cs.length (st.sh j)))++[.lst (zC js.length st.ms),.lst (zC cs.length st.sp)]
def hp (h0:H3) (cs:List Cl) (js:List J) (st:Fl.St) (g:H3):H3:=h0++(.ins "Flow" (jJ cs js h0.length)::(jk cs js st++g))
section
variable {h0:H3} {cs:List Cl} {js:List J} {st:Fl.St} {g:H3}
def CH:(jk cs js st).length=js.length+2:=by simp[jk]
def hp_o:(hp h0 cs js st g)[h0.length]? =some (.ins "Flow" (jJ cs js h0.length)):=by
 unfold hp;rw[Bl (Ah _),Nat.sub_self];rfl
def hp_k {k:Nat} {c:C3} (e:(jk cs js st++g)[k]? =some c):(hp h0 cs js st g)[h0.length+1+k]? =some c:=by
 unfold hp;rw[Bl (by lia),show h0.length+1+k-h0.length=k+1 by lia,Dz]
 exact e
def hp_r {j:Nat} (h:j<js.length):(hp h0 cs js st g)[h0.length+1+j]? =some (.lst (zC cs.length (st.sh j))):=hp_k (by
 unfold jk;rw[Co,Bg (by simpa using h)];simp[h])
def hp_m:(hp h0 cs js st g)[h0.length+1+js.length]? =some (.lst (zC js.length st.ms)):=hp_k (by
 unfold jk;rw[Co,Bl (by simp)];simp)
def hp_s:(hp h0 cs js st g)[h0.length+1+(js.length+1)]? =some (.lst (zC cs.length st.sp)):=hp_k (by
 unfold jk;rw[Co,Bl (by simp)];simp)
def hp_g {k:Nat}:(hp h0 cs js st g)[h0.length+1+(js.length+2)+k]? =g[k]? :=by
 unfold hp;rw[Bl (by lia),show h0.length+1+(js.length+2)+k-h0.length=(js.length+2+k)+1 by lia,Dz,Bl (by rw[CH];lia),CH,show js.length+2+k-(js.length+2)=k by lia]
def P9:(hp h0 cs js st g).length=h0.length+1+(js.length+2)+g.length:=by
 unfold hp;rw[As,Az,As,CH];lia
def Iz {x:H3}:hp h0 cs js st g++x=hp h0 cs js st (g++x):=by unfold hp;simp
def IA {k:Nat} {c:C3}:(hp h0 cs js st g).set (h0.length+1+k) c=h0++(.ins "Flow" (jJ cs js h0.length)::(jk cs js st++g).set k c):=by
 unfold hp;rw[En _ _ (by lia),show h0.length+1+k-h0.length=k+1 by lia,Gb]
def XG {k:Nat} {c:C3}:(hp h0 cs js st g).set (h0.length+1+(js.length+2)+k) c=hp h0 cs js st (g.set k c):=by
 rw[show h0.length+1+(js.length+2)+k=h0.length+1+(js.length+2+k) by lia,IA,En _ _ (by rw[CH];lia),CH,show js.length+2+k-(js.length+2)=k by lia]
 rfl
def XH {j:Nat} {f:Nat->Int} (h:j<js.length):(hp h0 cs js st g).set (h0.length+1+j) (.lst (zC cs.length f))=hp h0 cs js {st with sh:=fun a=>if a=j then f else st.sh a} g:=by
 rw[IA,Gi _ _ (by rw[CH];lia)]
 unfold hp
 congr 3
 unfold jk;rw[Gi _ _ (by simpa using h)]
 congr 1
 refine Dn (by simp) fun i h1 h2=>?_
 rw[List.getElem_set]
 by_cases e:j=i
 .subst e;simp
 .have e': ¬i=j:=fun z=>e z.symm
  rw[Ab e];simp[e']
def XI {f:Nat->Int}:(hp h0 cs js st g).set (h0.length+1+js.length) (.lst (zC js.length f))=hp h0 cs js {st with ms:=f} g:=by
 rw[IA,Gi _ _ (by rw[CH];lia)]
 unfold hp
 congr 3
 unfold jk;rw[En _ _ (by simp)]
 simp
def XJ {f:Nat->Int}:(hp h0 cs js st g).set (h0.length+1+(js.length+1)) (.lst (zC cs.length f))=hp h0 cs js {st with sp:=f} g:=by
 rw[IA,Gi _ _ (by rw[CH];lia)]
 unfold hp
 congr 3
 unfold jk;rw[En _ _ (by simp)]
 simp
end
def qw {n:Nat} {cs:List Cl} {js:List J}:(jJ cs js n).lookup ("cells":Str)=some (.lst (cs.map Cl.enc))/\(jJ cs js n).lookup ("load":Str)=some (.lst (js.map J.enc))/\(jJ cs js n).lookup ("most":Str)=some (.lst (js.map fun j=>.dT (yU cs j)))/\(jJ cs js n).lookup ("shares":Str)=some (.lst ((List.range js.length).map fun k=>.loc (n+1+k)))/\(jJ cs js n).lookup ("missing":Str)=some (.loc (n+1+js.length))/\(jJ cs js n).lookup ("spare":Str)=some (.loc (n+1+(js.length+1))):=by
 have a1:(Str.ofString "load" ==Str.ofString "cells")=false:=by decide+kernel
 have a2:(Str.ofString "most" ==Str.ofString "cells")=false:=by decide+kernel
 have a3:(Str.ofString "most" ==Str.ofString "load")=false:=by decide+kernel
 have a4:(Str.ofString "shares" ==Str.ofString "cells")=false:=by decide+kernel
 have a5:(Str.ofString "shares" ==Str.ofString "load")=false:=by decide+kernel
 have a6:(Str.ofString "shares" ==Str.ofString "most")=false:=by decide+kernel
 have b1:(Str.ofString "missing" ==Str.ofString "cells")=false:=by decide+kernel
 have b2:(Str.ofString "missing" ==Str.ofString "load")=false:=by decide+kernel
 have b3:(Str.ofString "missing" ==Str.ofString "most")=false:=by decide+kernel
 have b4:(Str.ofString "missing" ==Str.ofString "shares")=false:=by decide+kernel
 have c1:(Str.ofString "spare" ==Str.ofString "cells")=false:=by decide+kernel
 have c2:(Str.ofString "spare" ==Str.ofString "load")=false:=by decide+kernel
 have c3:(Str.ofString "spare" ==Str.ofString "most")=false:=by decide+kernel
 have c4:(Str.ofString "spare" ==Str.ofString "shares")=false:=by decide+kernel
 have c5:(Str.ofString "spare" ==Str.ofString "missing")=false:=by decide+kernel
 have r:∀x:Str,(x==x)=true:=fun x=>by simp
 simp only[List.lookup,a1,a2,a3,a4,a5,a6,b1,b2,b3,b4,c1,c2,c3,c4,c5,r,and_self]
def jd {n:Nat} {cs:List Cl} {js:List J} {m:String} (h:["cells","load","most","shares","missing","spare"].all (fun x=> !(Str.ofString m==Str.ofString x))=true):(jJ cs js n).lookup (Str.ofString m)=none:=by
 simp only[E2,List.all_nil,Bool.and_true,Be,Bool.not_eq_true']at h;obtain⟨a,b,c,d,e,f⟩:=h;simp only[List.lookup,a,b,c,d,e,f]
instance:Inhabited J:=⟨⟨[],0,0,0,0⟩⟩
abbrev zN (js:List J) (k:Nat):J:=js.getD k default
def fd (cs:List Cl) (js:List J):Fl.D:=⟨js.length,cs.length,fun j=>(zN js j).w,fun j c=>wn cs (zN js j) c,fun j c=>(zN js j).b*clen cs c,fun c=>(zM cs c).m*clen cs c⟩
def atL {α:Type} {l:List α} {f:α->V3} {k:Nat} {a:α} (h:l[k]? =some a):atI (l.map f) (k:Int)=some (f a):=jA (j:=k) (by rw[Ba,h];rfl)
def GT {js:List J} {k:Nat} (h:k<js.length):js[k]? =some (zN js k):=by
 unfold zN;rw[B1,zK h];rfl
def BN {s:S3} {h:H3} {n:Nat} {xs:List V3} {k:Int} (e:h[n]? =some (.lst xs)):zn s h (.x (.loc n)) (.x (.int k))=(atI xs k).map .v:=by
 unfold zn qG oIxT yT oIxS;simp only[rdl,e];cases atI xs k<;>rfl
def L1 {s:S3} {h:H3} {n:Nat} {xs:List V3} {k:Int} (e:h[n]? =some (.lst xs)):yT s h (.x (.loc n)) (.x (.int k))=(atI xs k).map .v:=by
 unfold yT;simp only[rdl,e]
def XM {ps:List Nat} {f:Nat->V3} {c:Nat} (h:c∈ps):yg (ps.map fun k=>(ik k,f k)) (ik c)=some (f c):=by
 unfold yg
 induction ps with
 |nil=>cases h
 |cons a r ih=>
  rw[Ag]
  by_cases e:ik a=ik c
  .rw[Gj (by simpa using e),DC e];rfl
  .rw[Gk (by simpa using e)]
   rcases Af.mp h with z|m
   .exact absurd (by rw[z]) e
   .exact ih m
def XN {cs:List Cl} {j:J} {c:Nat} (hc:c<cs.length) (hw:wn cs j c=true):yg (yU cs j) (.one (.inl (c:Int)))=some (.int (j.b*clen cs c)):=
 XM (f:=fun k=>.int (j.b*clen cs k)) (Br.mpr ⟨Bh.mpr hc,hw⟩)
noncomputable abbrev encO (g:Option Nat):V3:=match g with
 |none=>.non
 |some y=>.int (y:Int)
abbrev zI (p:Fl.Sp):V3:= .tup [.int (p.1:Int),.int (p.2.1:Int),encO p.2.2]
section
variable {h0:H3} {cs:List Cl} {js:List J} {st:Fl.St} {g:H3}
noncomputable abbrev shL (js:List J) (n:Nat):List V3:=(List.range js.length).map fun k=>V3.loc (n+1+k)
def GU {n j:Nat} (h:j<js.length):atI (shL js n) (j:Int)=some (.loc (n+1+j)):=jA (j:=j) (by simp[h])
def yJ:(Str.ofString "Flow" ∈[Str.ofString "Flow"])=True:=by simp
def zG:y9 (hp h0 cs js st g) (.x (.loc h0.length))=some (("Flow" :Str),jJ cs js h0.length):=by unfold y9;simp only[hp_o]
structure ByOk (cs:List Cl) (js:List J) (st:Fl.St) (ps:List Fl.Sp) (c l:Nat) (b:Int):Prop where
 sp:b<=st.sp c
 ms:b<=st.ms l
 up:∀p∈ps,b<=(fd cs js).mx p.1 p.2.1-st.sh p.1 p.2.1
 dn:∀p∈ps,∀y,p.2.2=some y->b<=st.sh p.1 y
 at_:∀m:Int,m<=st.sp c->m<=st.ms l->(∀p∈ps,m<=(fd cs js).mx p.1 p.2.1-st.sh p.1 p.2.1)->(∀p∈ps,∀y,p.2.2=some y->m<=st.sh p.1 y)->m<=b
def XO {ps:List Fl.Sp} (hi:Fl.In (fd cs js) ps) {c l:Nat} (h1:(hp h0 cs js st g)=(hp h0 cs js st g)) {Q:Res Vl->Prop} {r:D3}
  (k:∀b y3 y4 y5,ByOk cs js st ps c l b->Q ((r [some (.v (.loc h0.length)),some (.v (.lst (ps.map zI))),some (.v (.int b)),y3,y4,y5] (hp h0 cs js st g)).res)):
  Q ((sSeq HP r [some (.v (.loc h0.length)),some (.v (.lst (ps.map zI))),some (.v (.int (min (st.sp c) (st.ms l)))),none,none,none] (hp h0 cs js st g)).res):=by
 unfold HP
 refine BK (x:= .lst (ps.map zI)) (l:=ps) (enc:=zI) (by simp![]) rfl (fun i s=> ∃b y3 y4 y5,s=[some (.v (.loc h0.length)),some (.v (.lst (ps.map zI))),some (.v (.int b)),y3,y4,y5]/\ByOk cs js st (ps.take i) c l b) ⟨_,none,none,none,rfl,⟨by lia,by lia,by simp,by simp,fun m a1 a2 _ _=>by lia⟩⟩ ?_ ?_
 .rintro i ⟨j,x,gv⟩ s hs ⟨b,y3,y4,y5,rfl,bo⟩
  obtain⟨hj,hx,hw,hy⟩:=hi _ (Al hs);have hj1:j<js.length:=hj;have hx1:x<cs.length:=hx;have hw1:wn cs (zN js j) x=true:=hw;have em:=atL (f:=fun j=>V3.dT (yU cs j)) (GT hj1)
  have evl:=XN hx1 hw1;have er:=hp_r (h0:=h0) (cs:=cs) (st:=st) (g:=g) hj1;have mem:∀p,p∈ps.take (i+1)↔p∈ps.take i\/p=(j,x,gv):=fun p=>by rw[jQ hs,Ax,Ap]
  cases gv with
  |none=>
   refine⟨_,by (simp![ze,zG,yJ,qw,em,AQ,yV,Dc.get,jt,Ar,evl,GU hj1,BN er,jr hx1])<;>rfl,⟨min b ((zN js j).b*clen cs x-st.sh j x),_,_,_,rfl,⟨by have:=bo.sp;lia,by have:=bo.ms;lia,fun p hp=>?_,fun p hp y e=>?_,fun m a1 a2 a3 a4=>?_⟩⟩⟩
   .rcases (mem p).mp hp with m|rfl
    .have:=bo.up p m;lia
    .show min b ((zN js j).b*clen cs x-st.sh j x)<=(zN js j).b*clen cs x-st.sh j x;lia
   .rcases (mem p).mp hp with m|rfl
    .have:=bo.dn p m y e;lia
    .cases e
   .have h1:=bo.at_ m a1 a2 (fun p hp=>a3 p ((mem p).mpr (.inl hp))) (fun p hp=>a4 p ((mem p).mpr (.inl hp)))
    have h2:m<=(zN js j).b*clen cs x-st.sh j x:=a3 _ ((mem _).mpr (.inr rfl));lia
  |some y=>
   obtain⟨hy1,_,_⟩:=hy y rfl;have hy1:y<cs.length:=hy1
   refine⟨_,by (simp![ze,zG,yJ,qw,em,AQ,yV,Dc.get,jt,Ar,evl,GU hj1,BN er,jr hx1,jr hy1])<;>rfl,⟨min (min b ((zN js j).b*clen cs x-st.sh j x)) (st.sh j y),_,_,_,rfl,⟨by have:=bo.sp;lia,by have:=bo.ms;lia,fun p hp=>?_,fun p hp z e=>?_,fun m a1 a2 a3 a4=>?_⟩⟩⟩
   .rcases (mem p).mp hp with m|rfl
    .have:=bo.up p m;lia
    .show min (min b ((zN js j).b*clen cs x-st.sh j x)) (st.sh j y)<=(zN js j).b*clen cs x-st.sh j x;lia
   .rcases (mem p).mp hp with m|rfl
    .have:=bo.dn p m z e;lia
    .cases e;show _<=st.sh j y;lia
   .have h1:=bo.at_ m a1 a2 (fun p hp=>a3 p ((mem p).mpr (.inl hp))) (fun p hp=>a4 p ((mem p).mpr (.inl hp)))
    have h2:m<=(zN js j).b*clen cs x-st.sh j x:=a3 _ ((mem _).mpr (.inr rfl));have h3:m<=st.sh j y:=a4 _ ((mem _).mpr (.inr rfl)) y rfl;lia
 .rintro s ⟨b,y3,y4,y5,rfl,bo⟩
  rw[Cp]at bo;exact k b y3 y4 y5 bo
end
section
variable {h0:H3} {cs:List Cl} {js:List J} {st:Fl.St} {g:H3}
noncomputable abbrev upd2 (sh:Nat->Nat->Int) (j x:Nat) (v:Int):Nat->Nat->Int:=fun a=>if a=j then (fun i=>if i=x then v else sh j i) else sh a
def PB (f:F2) (op:Int->Int->Int) (hf:∀s h a c,f s h (.x (.int a)) (.x (.int c))=some (.v (.int (op a c)))) {s:S3} {i j x:Nat} {b:Int} (e0:s[0]? =some (some (.v (.loc h0.length)))) (e2:s[2]? =some (some (.v (.int b)))) (e3:s[3]? =some (some (.v (.int (j:Int))))) (ei:s[i]? =some (some (.v (.int (x:Int)))))
  (hj:j<js.length) (hx:x<cs.length):jx f (pE (eOp zn (pE (ze [("Flow" :Str)] ("shares" :Str) (pV 0))) (pV 3))) (pV i) (pV 2) s (hp h0 cs js st g)=.nx s (hp h0 cs js {st with sh:=upd2 st.sh j x (op (st.sh j x) b)} g):=by
 have er:=hp_r (h0:=h0) (cs:=cs) (st:=st) (g:=g) hj;have es:=XH (h0:=h0) (cs:=cs) (st:=st) (g:=g) (f:=fun k=>if k=x then op (st.sh j x) b else st.sh j k) hj
 (simp![jx,e0,e2,e3,ei,ze,zG,yJ,qw,GU hj,L1 er,jr hx,Ar,hf,er,L0 hx,Iy,Lz,es])
def XQ {ps:List Fl.Sp} (hi:Fl.In (fd cs js) ps) {b:Int} {z3 z4 z5:Option Vl} {Q:Res Vl->Prop} {r:D3}
  (k:∀y3 y4 y5,Q ((r [some (.v (.loc h0.length)),some (.v (.lst (ps.map zI))),some (.v (.int b)),y3,y4,y5] (hp h0 cs js {st with sh:=fun a x=>st.sh a x+b*Fl.dl ps a x} g)).res)):
  Q ((sSeq HQ r [some (.v (.loc h0.length)),some (.v (.lst (ps.map zI))),some (.v (.int b)),z3,z4,z5] (hp h0 cs js st g)).res):=by
 unfold HQ
 refine WR (l:=ps) (enc:=zI) (its:=[.lst (ps.map zI)]) (ok:=fun _=>True) (by (simp![iL,yH])<;>rfl) (fun i s h=> ∃y3 y4 y5,s=[some (.v (.loc h0.length)),some (.v (.lst (ps.map zI))),some (.v (.int b)),y3,y4,y5]/\h=hp h0 cs js {st with sh:=fun a x=>st.sh a x+b*Fl.dl (ps.take i) a x} g) (fun _ _ _ _=>trivial) ⟨z3,z4,z5,rfl,?_⟩ ?_ ?_
 .have e:(fun a x=>st.sh a x+b*Fl.dl (ps.take 0) a x)=st.sh:=by
   funext a x
   show st.sh a x+b*0=_;lia
  rw[e]
 .rintro i ⟨j,x,gv⟩ s h hs ⟨y3,y4,y5,rfl,rfl⟩
  obtain⟨hj,hx,hw,hy⟩:=hi _ (Al hs);have hj1:j<js.length:=hj;have hx1:x<cs.length:=hx;have a1:=fun st y5=>PB (h0:=h0) (g:=g) (st:=st) BD (fun a c=>a+c) (fun _ _ _ _=>oAddI_int) (s:=[some (.v (.loc h0.length)),some (.v (.lst (ps.map zI))),some (.v (.int b)),some (.v (.int (j:Int))),some (.v (.int (x:Int))),y5]) (i:=4) (j:=j) (x:=x) (b:=b) rfl rfl rfl rfl hj1 hx1
  cases gv with
  |none=>
   refine⟨[some (.v (.loc h0.length)),some (.v (.lst (ps.map zI))),some (.v (.int b)),some (.v (.int (j:Int))),some (.v (.int (x:Int))),some (.v .non)],hp h0 cs js {st with sh:=fun a x=>st.sh a x+b*Fl.dl (ps.take (i+1)) a x} g,?_,_,_,_,rfl,rfl⟩
   have e:{st with sh:=upd2 (fun a x=>st.sh a x+b*Fl.dl (ps.take i) a x) j x (st.sh j x+b*Fl.dl (ps.take i) j x+b)}=({st with sh:=fun a x=>st.sh a x+b*Fl.dl (ps.take (i+1)) a x}:Fl.St):=by
    congr 1
    funext a z
    rw[jQ hs,Fl.dl_snoc,Int.mul_add];show (if a=j then (fun i_1=>_) else _) z=_
    by_cases ea:a=j
    .subst ea
     rw[Ac rfl]
     by_cases ez:z=x
     .subst ez
      have:Fl.e1 a z a z=1:=by unfold Fl.e1;simp
      simp only[By,this,Fl.eg];lia
     .have:Fl.e1 a x a z=0:=by unfold Fl.e1;simp[ez]
      simp only[Ab ez,this,Fl.eg];lia
    .have:Fl.e1 j x a z=0:=by unfold Fl.e1;simp[ea]
     simp only[Ab ea,this,Fl.eg];lia
   rw[<-e]
   (simp![a1])
  |some y=>
   obtain⟨hy1,_,hne⟩:=hy y rfl;have hy1:y<cs.length:=hy1;have hne:y≠x:=hne;have a2:=fun st=>PB (h0:=h0) (g:=g) (st:=st) zL (fun a c=>a-c) (fun _ _ _ _=>oSub_int) (s:=[some (.v (.loc h0.length)),some (.v (.lst (ps.map zI))),some (.v (.int b)),some (.v (.int (j:Int))),some (.v (.int (x:Int))),some (.v (.int (y:Int)))]) (i:=5) (j:=j) (x:=y) (b:=b) rfl rfl rfl rfl hj1 hy1
   refine⟨[some (.v (.loc h0.length)),some (.v (.lst (ps.map zI))),some (.v (.int b)),some (.v (.int (j:Int))),some (.v (.int (x:Int))),some (.v (.int (y:Int)))],hp h0 cs js {st with sh:=fun a x=>st.sh a x+b*Fl.dl (ps.take (i+1)) a x} g,?_,_,_,_,rfl,rfl⟩
   have e:{st with sh:=upd2 (upd2 (fun a x=>st.sh a x+b*Fl.dl (ps.take i) a x) j x (st.sh j x+b*Fl.dl (ps.take i) j x+b)) j y (upd2 (fun a x=>st.sh a x+b*Fl.dl (ps.take i) a x) j x (st.sh j x+b*Fl.dl (ps.take i) j x+b) j y-b)}=({st with sh:=fun a x=>st.sh a x+b*Fl.dl (ps.take (i+1)) a x}:Fl.St):=by
    congr 1
    funext a z
    rw[jQ hs,Fl.dl_snoc,Int.mul_add];unfold upd2
    by_cases ea:a=j
    .subst ea
     by_cases ey:z=y
     .subst ey
      have t1:Fl.e1 a x a z=0:=by unfold Fl.e1;simp[hne]
      have t2:Fl.eg a (some z) a z=1:=by show Fl.e1 a z a z=1;unfold Fl.e1;simp
      simp only[By,Ab hne,t1,t2];lia
     .have t2:Fl.eg a (some y) a z=0:=by show Fl.e1 a y a z=0;unfold Fl.e1;simp[ey]
      by_cases ez:z=x
      .subst ez
       have t1:Fl.e1 a z a z=1:=by unfold Fl.e1;simp
       simp only[By,Ab ey,t1,t2];lia
      .have t1:Fl.e1 a x a z=0:=by unfold Fl.e1;simp[ez]
       simp only[By,Ab ey,Ab ez,t1,t2];lia
    .have t1:Fl.e1 j x a z=0:=by unfold Fl.e1;simp[ea]
     have t2:Fl.eg j (some y) a z=0:=by show Fl.e1 j y a z=0;unfold Fl.e1;simp[ea]
     simp only[Ab ea,t1,t2];lia
   rw[<-e]
   (simp![a1,a2])
 .rintro s h ⟨y3,y4,y5,rfl,rfl⟩
  rw[Cp];exact k y3 y4 y5
end
def PC {c l:Nat} {ps:List Fl.Sp} (h:Fl.Ch c l ps):∃j g r,ps=(j,c,g)::r:=by
 cases h with
 |one j c=>exact⟨_,_,_,rfl⟩
 |cons _=>exact⟨_,_,_,rfl⟩
def XR {c l:Nat} {ps:List Fl.Sp} (h:Fl.Ch c l ps):∃i x,ps=i++[(l,x,none)]:=by
 induction h with
 |one j c=>exact⟨[],c,rfl⟩
 | @cons j c y l r _ ih=>obtain⟨i,x,rfl⟩:=ih;exact⟨(j,c,some y)::i,x,rfl⟩
section
variable {h0:H3} {cs:List Cl} {js:List J} {st:Fl.St} {g:H3}
abbrev zf (k:Nat):V3:= .int (k:Int)
def XS {s:S3} {x:Nat} {b:Int} {i:P3} (e0:s[0]? =some (some (.v (.loc h0.length)))) (e2:s[2]? =some (some (.v (.int b)))) (ei:∀h,i s h=.ok (.x (.int (x:Int))) h) (hx:x<cs.length):
  jx zL (pE (ze [("Flow" :Str)] ("spare" :Str) (pV 0))) i (pV 2) s (hp h0 cs js st g)=.nx s (hp h0 cs js {st with sp:=fun k=>if k=x then st.sp k-b else st.sp k} g):=by
 have er:=hp_s (h0:=h0) (cs:=cs) (js:=js) (st:=st) (g:=g);have es:=XJ (h0:=h0) (cs:=cs) (js:=js) (st:=st) (g:=g) (f:=fun k=>if k=x then st.sp x-b else st.sp k)
 have e:(fun k=>if k=x then st.sp x-b else st.sp k)=fun k=>if k=x then st.sp k-b else st.sp k:=by
  funext k
  by_cases z:k=x
  .subst z;rfl
  .rw[Ab z,Ab z]
 rw[e]at es
 (simp![jx,e0,e2,ei,ze,zG,yJ,qw,L1 er,jr hx,Ar,er,L0 hx,Iy,Lz,e,es])
def XU {s:S3} {x:Nat} {b:Int} {i:P3} (e0:s[0]? =some (some (.v (.loc h0.length)))) (e2:s[2]? =some (some (.v (.int b)))) (ei:∀h,i s h=.ok (.x (.int (x:Int))) h) (hx:x<js.length):
  jx zL (pE (ze [("Flow" :Str)] ("missing" :Str) (pV 0))) i (pV 2) s (hp h0 cs js st g)=.nx s (hp h0 cs js {st with ms:=fun k=>if k=x then st.ms k-b else st.ms k} g):=by
 have er:=hp_m (h0:=h0) (cs:=cs) (js:=js) (st:=st) (g:=g);have es:=XI (h0:=h0) (cs:=cs) (js:=js) (st:=st) (g:=g) (f:=fun k=>if k=x then st.ms x-b else st.ms k)
 have e:(fun k=>if k=x then st.ms x-b else st.ms k)=fun k=>if k=x then st.ms k-b else st.ms k:=by
  funext k
  by_cases z:k=x
  .subst z;rfl
  .rw[Ab z,Ab z]
 rw[e]at es
 (simp![jx,e0,e2,ei,ze,zG,yJ,qw,L1 er,jr hx,Ar,er,L0 hx,Iy,Lz,e,es])
def XW (h0:H3) (cs:List Cl) (js:List J) (st:Fl.St) (g:H3) (ps:List Fl.Sp) (c l:Nat) (R:Res Vl):Prop:=∃b,ByOk cs js st ps c l b/\R=.ok (.v .non) (hp h0 cs js (st.after ps c l b) g)
def PD {ps:List Fl.Sp} {c l:Nat} (hi:Fl.In (fd cs js) ps) (hc:Fl.Ch c l ps) (hcn:c<cs.length) (hln:l<js.length):XW h0 cs js st g ps c l (CB [.loc h0.length,.lst (ps.map zI)] (hp h0 cs js st g)):=by
 obtain⟨j,gv,r,e1⟩:=PC hc;obtain⟨i,x,e2⟩:=XR hc;have f1:atI (ps.map zI) (0:Int)=some (zI (j,c,gv)):=by rw[e1];exact at0
 have f2:atI (ps.map zI) (-1:Int)=some (zI (l,x,none)):=by rw[e2,Au];exact atm1
 have er:=hp_s (h0:=h0) (cs:=cs) (js:=js) (st:=st) (g:=g);have em:=hp_m (h0:=h0) (cs:=cs) (js:=js) (st:=st) (g:=g);unfold CB Kb
 refine yO rfl ?_
 refine zF (s1:=[some (.v (.loc h0.length)),some (.v (.lst (ps.map zI))),some (.v (.int (min (st.sp c) (st.ms l)))),none,none,none]) (h1:=hp h0 cs js st g) ?_ ?_
 ·(simp![ze,zG,yJ,qw,f1,f2,BN er,BN em,jr hcn,jr hln,Ar])
 refine XO hi (c:=c) (l:=l) rfl fun b y3 y4 y5 bo=>?_
 refine XQ hi fun y3 y4 y5=>?_
 refine zF (XS (x:=c) rfl rfl (fun h=>by (simp![f1])) hcn) ?_
 refine⟨b,bo,?_⟩
 have:=XU (h0:=h0) (cs:=cs) (js:=js) (g:=g) (st:={st with sh:=fun a x=>st.sh a x+b*Fl.dl ps a x,sp:=fun k=>if k=c then st.sp k-b else st.sp k}) (s:=[some (.v (.loc h0.length)),some (.v (.lst (ps.map zI))),some (.v (.int b)),y3,y4,y5]) (x:=l) (b:=b) (i:=pE (eOp zn (pE (eOp zn (pV 1) (pE (eNeg (kJ 1))))) (kJ 0))) rfl rfl (fun h=>by (simp![f2])) hln
 rw[this];rfl
end
section
variable {h0:H3} {cs:List Cl} {js:List J} {st:Fl.St} {g:H3}
def XX {ps:List Fl.Sp} {c l:Nat} {b:Int} (bo:ByOk cs js st ps c l b) (z:0<=st.sp c) (z2:0<=st.ms l) (z3:∀p∈ps,0<=(fd cs js).mx p.1 p.2.1-st.sh p.1 p.2.1) (z4:∀p∈ps,∀y,p.2.2=some y->0<=st.sh p.1 y):Fl.Fits (fd cs js) st ps c l b:=
 ⟨bo.at_ 0 z z2 z3 z4,bo.sp,bo.ms,bo.up,bo.dn⟩
def XY (j:J):(yU cs j).map (fun kv=>mkV3 kv.1)=(qv cs j).map zf:=by
 unfold yU;rw[Av];rfl
def XZ (gd:Fl.Good (fd cs js) st) {j:Nat} (hj:j<js.length) (y3:Option Vl):∃s' h',FV [some (.v (.loc h0.length)),some (.v (.int (j:Int))),some (.v (.dT (yU cs (zN js j)))),y3] (hp h0 cs js st g)=.nx s' h'/\∃y3 st',Fl.Good (fd cs js) st'/\s'=[some (.v (.loc h0.length)),some (.v (.int (j:Int))),some (.v (.dT (yU cs (zN js j)))),y3]/\h'=hp h0 cs js st' g:=by
 unfold FV;have ek:=XY (cs:=cs) (zN js j)
 refine EC (l:=qv cs (zN js j)) (enc:=zf) (its:=[.dT (yU cs (zN js j))]) (ok:=fun _=>True) (by (simp![iDl,BL,ek])<;>rfl) (fun i s h=> ∃y3 st',Fl.Good (fd cs js) st'/\s=[some (.v (.loc h0.length)),some (.v (.int (j:Int))),some (.v (.dT (yU cs (zN js j)))),y3]/\h=hp h0 cs js st' g) (fun _ _ _ _=>trivial) ⟨y3,st,gd,rfl,rfl⟩ ?_
 rintro i c s h hi ⟨y3,st',gd',rfl,rfl⟩;obtain⟨hc,hw⟩:=Br.mp (Al hi);have hc:c<cs.length:=Bh.mp hc;have hin:Fl.In (fd cs js) [(j,c,none)]:=fun p hp=>by
  rw[Ap]at hp;subst hp;exact⟨hj,hc,hw,fun y e=>by cases e⟩
 obtain⟨b,bo,er⟩:=PD (h0:=h0) (st:=st') (g:=g) hin (.one j c) hc hj;have er:CB [.loc h0.length,.lst [.tup [.int (j:Int),.int (c:Int),.non]]] (hp h0 cs js st' g)=_:=er;have nm:=jd (n:=h0.length) (cs:=cs) (js:=js) (m:="shift") (by decide+kernel)
 have ft:=XX bo (gd'.sp c hc) (gd'.ms j hj) (fun p hp=>by
  rw[Ap]at hp;subst hp;have:=gd'.hi j c hj hc hw;show 0<=(fd cs js).mx j c-st'.sh j c;lia) (fun p hp y e=>by rw[Ap]at hp;subst hp;cases e)
 exact⟨_,_,by (simp![z9,zG,nm,er])<;>rfl,_,_,gd'.after (.one j c) hin (by simp) ft,rfl,rfl⟩
def Q_go (h0:H3) (cs:List Cl) (js:List J) (g:H3) (R:Res Vl):Prop:=∃st',Fl.Good (fd cs js) st'/\R=.ok (.v .non) (hp h0 cs js st' g)
def Ya (gd:Fl.Good (fd cs js) st):Q_go h0 cs js g (FW [.loc h0.length] (hp h0 cs js st g)):=by
 unfold FW Ke Kc
 refine yO rfl ?_
 have ei:(List.range (js.map fun j=>V3.dT (yU cs j)).length).map (fun k=>V3.tup [.int (k:Nat),(js.map fun j=>V3.dT (yU cs j)).getD k .non])=(List.range js.length).map fun k=>V3.tup [.int (k:Nat),.dT (yU cs (zN js k))]:=by
  rw[Ae]
  refine Dh fun k hk=>?_
  have hk:=Bh.mp hk;rw[B1,Ba,GT hk];rfl
 obtain⟨s',h',e,y1,y2,y3,st',gd',rfl,rfl⟩:=EC (g:=gT (gsCons (gN 1) (gsCons (gN 2) gsNil))) (b:=FV) (s:=[some (.v (.loc h0.length)),none,none,none]) (h:=hp h0 cs js st g) (it:=AK (aCons (pE (ze [("Flow" :Str)] ("most" :Str) (pV 0))) aNil)) (l:=List.range js.length) (enc:=fun k=>V3.tup [.int (k:Nat),.dT (yU cs (zN js k))]) (its:=[.lst (js.map fun j=>V3.dT (yU cs j))]) (ok:=fun _=>True) (by (simp![AK,yH,ze,zG,yJ,qw,ei])<;>rfl) (fun i s h=> ∃y1 y2 y3 st',Fl.Good (fd cs js) st'/\s=[some (.v (.loc h0.length)),y1,y2,y3]/\h=hp h0 cs js st' g) (fun _ _ _ _=>trivial) ⟨none,none,none,st,gd,rfl,rfl⟩ (by
   rintro i k s h hi ⟨y1,y2,y3,st',gd',rfl,rfl⟩;have hk:k<js.length:=Bh.mp (Al hi);obtain⟨s2,h2,e2,y3',st2,gd2,rfl,rfl⟩:=XZ (h0:=h0) (g:=g) gd' hk y3;exact⟨_,_,by (simp![e2])<;>rfl,_,_,_,_,gd2,rfl,rfl⟩)
 refine⟨st',gd',?_⟩
 (simp![e])
end
end My
namespace Fl
section
variable {d:D} {s:St} {ja:List (Nat×Nat)} {ca:List (Nat×Option Nat)}
structure Srch (d:D) (s:St) (ja:List (Nat×Nat)) (ca:List (Nat×Option Nat)) (wt:List Nat) (cur:Option Nat):Prop where
 tree:Tree d s ja ca
 lack:∀j,j<d.nJ->0<s.ms j->j∈kj ca
 bk:∀c∈kc ja,∀j,j<d.nJ->0<s.sh j c->j∈kj ca
 out:∀j∈kj ca,j∈wt\/some j=cur\/∀c,c<d.nC->d.win j c=true->s.sh j c<d.mx j c->c∈kc ja
 wt:∀j∈wt,j∈kj ca
def fresh (d:D) (s:St) (ca:List (Nat×Option Nat)) (c:Nat):List Nat:=((List.range d.nJ).filter fun j=>decide (0<s.sh j c)).filter fun j=>decide (j∉kj ca)
def fresh_mem {c j:Nat}:j∈fresh d s ca c↔j<d.nJ/\0<s.sh j c/\j∉kj ca:=by
 unfold fresh;rw[Br,Br,Bh];simp[and_assoc]
def fresh_nodup {c:Nat}:(fresh d s ca c).Nodup:=(List.nodup_range.sublist Er).sublist Er
def Srch.step {wt:List Nat} {j c:Nat} (S:Srch d s ja ca wt (some j)) (hj:j∈kj ca) (hc:c<d.nC) (hw:d.win j c=true) (ho:s.sh j c<d.mx j c) (hn:c∉kc ja):
  Srch d s (ja++[(c,j)]) (ca++(fresh d s ca c).map fun o=>(o,some c)) (wt++fresh d s ca c) (some j):=by
 have T:=S.tree;have ekj:kj (ca++(fresh d s ca c).map fun o=>(o,some c))=kj ca++fresh d s ca c:=by
  show (ca++_).map _=_;rw[Au,Av]
  congr 1
  exact List.map_id _
 have ekc:kc (ja++[(c,j)])=kc ja++[c]:=by show (ja++_).map _=_;rw[Au];rfl
 have up:∀x,x∈kj ca->x∈kj (ca++(fresh d s ca c).map fun o=>(o,some c)):=fun x hx=>by rw[ekj];exact Da _ hx
 have upc:∀x,x∈kc ja->x∈kc (ja++[(c,j)]):=fun x hx=>by rw[ekc];exact Da _ hx
 have rcn:Rch d s (.inr c):= .take (T.rj j hj) hc hw ho
 refine⟨⟨?_,?_,?_,?_,?_,?_,?_⟩,fun x h1 h2=>up x (S.lack x h1 h2),?_,?_,?_⟩
 .rw[ekc];exact C5.mpr ⟨T.nc,by simp,fun x hx y hy z=>by rw[Ap]at hy;subst hy;subst z;exact hn hx⟩
 .rw[ekj];exact C5.mpr ⟨T.nj,fresh_nodup,fun x hx y hy z=>by subst z;exact (fresh_mem.mp hy).2.2 hx⟩
 .intro p hp
  rcases Ax.mp hp with m|m
  .obtain⟨a1,a2,a3,a4⟩:=T.cj p m;exact⟨a1,a2,a3,up _ a4⟩
  .rw[Ap]at m;subst m;exact⟨hc,hw,ho,up _ hj⟩
 .intro p hp
  rcases Ax.mp hp with m|m
  .obtain⟨a1,a2,a3⟩:=T.jc p m;exact⟨a1,a2,fun y hy=>⟨upc _ (a3 y hy).1,(a3 y hy).2⟩⟩
  .obtain⟨o,ho',rfl⟩:=Ai.mp m
   obtain⟨b1,b2,b3⟩:=fresh_mem.mp ho'
   refine⟨b1,(fun z=>by cases z),fun y hy=>?_⟩
   cases hy;exact⟨by rw[ekc];simp,b2⟩
 .intro i p hp y hy
  have inold:∀k,k∈kj ca->∀y,(k,some y)∈ca++(fresh d s ca c).map (fun o=>(o,some c))->(k,some y)∈ca:=fun k hk y hy=>by
   rcases Ax.mp hy with m|m
   .exact m
   .obtain⟨o,ho',e⟩:=Ai.mp m
    cases e;exact absurd hk (fresh_mem.mp ho').2.2
  by_cases hi:i<ja.length
  .rw[Bg hi]at hp
   rw[List.take_append_of_le_length (by lia)]
   exact T.ord i p hp y (inold _ (T.cj p (Al hp)).2.2.2 y hy)
  .have hi2:i=ja.length:=by
    have:=(Ao.mp hp).1;rw[As,Cg]at this;lia
   subst hi2;rw[Bl (Ah _),Nat.sub_self]at hp;cases hp;rw[List.take_left']
   .exact ((T.jc _ (inold j hj y hy)).2.2 y rfl).1
   .rfl
 .intro x hx
  rw[ekj]at hx
  rcases Ax.mp hx with m|m
  .exact T.rj x m
  .obtain⟨b1,b2,_⟩:=fresh_mem.mp m;exact .give rcn b1 b2
 .intro x hx
  rw[ekc]at hx
  rcases Ax.mp hx with m|m
  .exact T.rc x m
  .rw[Ap]at m;subst m;exact rcn
 .intro x hx k h1 h2
  rw[ekc]at hx
  rcases Ax.mp hx with m|m
  .exact up k (S.bk x m k h1 h2)
  .rw[Ap]at m
   subst m;rw[ekj]
   by_cases z:k∈kj ca
   .exact Da _ z
   .exact Bu _ (fresh_mem.mpr ⟨h1,h2,z⟩)
 .intro x hx
  rw[ekj]at hx
  rcases Ax.mp hx with m|m
  .rcases S.out x m with a|a|a
   .exact .inl (Da _ a)
   .exact .inr (.inl a)
   .exact .inr (.inr fun c' h1 h2 h3=>upc _ (a c' h1 h2 h3))
  .exact .inl (Bu _ m)
 .intro x hx
  rcases Ax.mp hx with m|m
  .exact up x (S.wt x m)
  .rw[ekj];exact Bu _ m
def Srch.pop {wt:List Nat} {j:Nat} (S:Srch d s ja ca (j::wt) none):Srch d s ja ca wt (some j)/\j∈kj ca:=
 ⟨⟨S.tree,S.lack,S.bk,fun x hx=>by
  rcases S.out x hx with a|a|a
  .rcases Af.mp a with e|m
   .exact .inr (.inl (by rw[e]))
   .exact .inl m
  .cases a
  .exact .inr (.inr a),fun x hx=>S.wt x (An _ hx)⟩,S.wt j Ak⟩
def Srch.done {wt:List Nat} {j:Nat} (S:Srch d s ja ca wt (some j)) (h:∀c,c<d.nC->d.win j c=true->s.sh j c<d.mx j c->c∈kc ja):Srch d s ja ca wt none:=
 ⟨S.tree,S.lack,S.bk,fun x hx=>by
  rcases S.out x hx with a|a|a
  .exact .inl a
  .cases a;exact .inr (.inr h)
  .exact .inr (.inr a),S.wt⟩
def Srch.closed (S:Srch d s ja ca [] none):Closed d s ja ca:=
 ⟨S.lack,fun j hj=>by
  rcases S.out j hj with a|a|a
  .cases a
  .cases a
  .exact a,S.bk⟩
def roots (d:D) (s:St):List Nat:=(List.range d.nJ).filter fun j=>decide (0<s.ms j)
def Srch.start:Srch d s [] ((roots d s).map fun j=>(j,none)) (roots d s) none:=by
 have ek:kj ((roots d s).map fun j=>(j,(none:Option Nat)))=roots d s:=by
  show List.map _ (List.map _ _)=_;rw[Av];exact List.map_id _
 have hm:∀j,j∈roots d s↔j<d.nJ/\0<s.ms j:=fun j=>by unfold roots;rw[Br,Bh];simp
 refine⟨⟨D1,by rw[ek];exact List.nodup_range.sublist Er,(fun p hp=>by cases hp),fun p hp=>?_,(fun i p hp=>by simp at hp),fun j hj=>?_,(fun c hc=>by cases hc)⟩,(fun j h1 h2=>by rw[ek];exact (hm j).mpr ⟨h1,h2⟩),(fun c hc=>by cases hc),(fun j hj=>.inl (by rw[ek]at hj;exact hj)),fun j hj=>by rw[ek];exact hj⟩
 .obtain⟨j,hj,rfl⟩:=Ai.mp hp
  obtain⟨a,b⟩:=(hm j).mp hj;exact⟨a,fun _=>b,(fun y hy=>by cases hy)⟩
 .rw[ek]at hj
  obtain⟨a,b⟩:=(hm j).mp hj;exact .lack a b
def Srch.jlen {wt:List Nat} {cur:Option Nat} (S:Srch d s ja ca wt cur):ca.length<=d.nJ/\ja.length<=d.nC:=by
 have sub:∀{l:List Nat} {n:Nat},l.Nodup->(∀x∈l,x<n)->l.length<=n:=fun {l n} nd h=>by
  have:=List.Nodup.sublist (l₁:=l) (List.Sublist.refl l) nd;have key:∀(l m:List Nat),l.Nodup->(∀x∈l,x∈m)->l.length<=m.length:=by
   intro l
   induction l with
   |nil=>intro m _ _;exact B3 _
   |cons x r ih=>
    intro m nd h;rw[Bi]at nd;have hx:x∈m:=h x Ak;have:=ih (m.erase x) nd.2 fun y hy=>(List.mem_erase_of_ne (fun (z:y=x)=>nd.1 (z ▸ hy))).mpr (h y (An _ hy))
    rw[List.length_erase_of_mem hx]at this;have:=List.length_pos_of_mem hx;rw[Az];lia
  have:=key l (List.range n) nd fun x hx=>Bh.mpr (h x hx)
  rwa [Bt]at this
 have h1:=sub (l:=kj ca) (n:=d.nJ) S.tree.nj fun x hx=>by obtain⟨p,hp,rfl⟩:=Ai.mp hx;exact (S.tree.jc p hp).1
 have h2:=sub (l:=kc ja) (n:=d.nC) S.tree.nc fun x hx=>by obtain⟨p,hp,rfl⟩:=Ai.mp hx;exact (S.tree.cj p hp).1
 rw[Ae]at h1 h2;exact⟨h1,h2⟩
end
end Fl
namespace My
open PySem L2 L3
section
variable {h0:H3} {cs:List Cl} {js:List J} {st:Fl.St} {g:H3}
def opn (cs:List Cl) (js:List J) (st:Fl.St) (j:Nat):List Nat:=(qv cs (zN js j)).filter fun c=>decide (st.sh j c<(zN js j).b*clen cs c)
def PF {j:J} {c:Nat} (h:c∈qv cs j):c<cs.length:=Bh.mp (Br.mp h).1
def Yb (hc:cs.length<=1000) {j:Nat} (hj:j<js.length):DS [.loc h0.length,.int (j:Int)] (hp h0 cs js st g)=.ok (.m (.lst ((opn cs js st j).map zf))) (hp h0 cs js st g):=by
 have em:=atL (f:=fun j=>V3.dT (yU cs j)) (GT hj)
 have er:=hp_r (h0:=h0) (cs:=cs) (st:=st) (g:=g) hj;have e:HR [some (.v (.loc h0.length)),some (.v (.int (j:Int)))] (hp h0 cs js st g)=.ok (.m (.lst ((opn cs js st j).map zf))) (hp h0 cs js st g):=by
  unfold HR opn;have eo:zB oneK (yU cs (zN js j))=some ((qv cs (zN js j)).map fun k:Nat=>(Sum.inl (k:Int),V3.int ((zN js j).b*clen cs k))):=by
   unfold yU;exact DK (f:=oneK) (g:=fun k=>(ik k,V3.int ((zN js j).b*clen cs k))) (k:=fun k:Nat=>(Sum.inl (k:Int),V3.int ((zN js j).b*clen cs k))) (fun k=>rfl) _
  have ei:((qv cs (zN js j)).map fun k:Nat=>((Sum.inl (k:Int):z8),V3.int ((zN js j).b*clen cs k))).map (fun kv=>V3.tup [kV3 kv.1,kv.2])=(qv cs (zN js j)).map fun k:Nat=>V3.tup [.int (k:Int),.int ((zN js j).b*clen cs k)]:=by rw[Av];rfl
  refine GS (l:=qv cs (zN js j)) (enc:=fun k:Nat=>V3.tup [.int (k:Int),.int ((zN js j).b*clen cs k)]) (its:=[.dT (yU cs (zN js j))]) (ok:=fun _=>True) (fun s=> ∃a b,s=[a,b,some (.v (.int (j:Int))),some (.v (.loc h0.length))]) (fun c=>decide (st.sh j c<(zN js j).b*clen cs c)) zf (by (simp![iI,ze,zG,yJ,qw,em,BL,eo,ei])<;>rfl) trivial (by
   have:=Cv (wn cs (zN js j)) (List.range cs.length);rw[Bt]at this;unfold qv;lia) ⟨none,none,rfl⟩ ?_
  rintro k s hk ⟨a,b,rfl⟩;have hk1:=PF hk;exact⟨_,by (simp![])<;>rfl,⟨_,_,rfl⟩,by (simp![ze,zG,yJ,qw,GU hj,BN er,jr hk1,Ar])<;>rfl,fun _=>⟨_,by (simp![])<;>rfl,rfl⟩⟩
 (simp![DS,Kh,e])
def gvs (cs:List Cl) (js:List J) (st:Fl.St) (c:Nat):List Nat:=(List.range js.length).filter fun j=>decide (0<st.sh j c)
def Yc (hl:js.length<=12) {c:Nat} (hc:c<cs.length):FY [.loc h0.length,.int (c:Int)] (hp h0 cs js st g)=.ok (.m (.lst ((gvs cs js st c).map zf))) (hp h0 cs js st g):=by
 have e:HS [some (.v (.loc h0.length)),some (.v (.int (c:Int)))] (hp h0 cs js st g)=.ok (.m (.lst ((gvs cs js st c).map zf))) (hp h0 cs js st g):=by
  unfold HS gvs;have ei:(List.range (shL js h0.length).length).map (fun k=>V3.tup [.int (k:Nat),(shL js h0.length).getD k .non])=(List.range js.length).map fun k:Nat=>V3.tup [.int (k:Int),.loc (h0.length+1+k)]:=by
   unfold shL;rw[Ae,Bt]
   refine Dh fun k hk=>?_
   have hk:=Bh.mp hk;rw[B1];simp[hk]
  refine GS (l:=List.range js.length) (enc:=fun k:Nat=>V3.tup [.int (k:Int),.loc (h0.length+1+k)]) (its:=[.lst (shL js h0.length)]) (ok:=fun _=>True) (fun s=> ∃a b,s=[a,b,some (.v (.int (c:Int)))]) (fun j=>decide (0<st.sh j c)) zf (by (simp![AK,yH,ze,zG,yJ,qw,ei])<;>rfl) trivial (by rw[Bt];lia) ⟨none,none,rfl⟩ ?_
  rintro k s hk ⟨a,b,rfl⟩;have hk1:=Bh.mp hk;have er:=hp_r (h0:=h0) (cs:=cs) (st:=st) (g:=g) hk1;exact⟨_,by (simp![])<;>rfl,⟨_,_,rfl⟩,by (simp![BN er,jr hc,Ar])<;>rfl,fun _=>⟨_,by (simp![])<;>rfl,rfl⟩⟩
 (simp![FY,Ki,e])
noncomputable abbrev rF (q:Nat):List (Str×V3):=[("job_ahead",.loc (q+2)),("cell_ahead",.loc (q+3))]
abbrev yt (ja:List (Nat×Nat)):List (MK×V3):=ja.map fun p=>(ik p.1,zf p.2)
abbrev yM (ca:List (Nat×Option Nat)):List (MK×V3):=ca.map fun p=>(ik p.1,encO p.2)
def gr (g:H3) (q:Nat) (wt:List Nat) (ja:List (Nat×Nat)) (ca:List (Nat×Option Nat)):H3:=g++[.lst (wt.map zf),.ins "Reach" (rF q),.dT (yt ja),.dT (yM ca)]
noncomputable def bq (h0:H3) (js:List J) (g:H3):Nat:=h0.length+1+(js.length+2)+g.length
variable {wt:List Nat} {ja:List (Nat×Nat)} {ca:List (Nat×Option Nat)} {q:Nat}
def ED {i:Nat} {x:H3}:(hp h0 cs js st (g++x))[bq h0 js g+i]? =x[i]? :=by
 unfold bq;rw[show h0.length+1+(js.length+2)+g.length+i=h0.length+1+(js.length+2)+(g.length+i) by lia,hp_g,Bl (by lia),show g.length+i-g.length=i by lia]
def GV {i:Nat} {x:H3} {c:C3}:(hp h0 cs js st (g++x)).set (bq h0 js g+i) c=hp h0 cs js st (g++x.set i c):=by
 unfold bq;rw[show h0.length+1+(js.length+2)+g.length+i=h0.length+1+(js.length+2)+(g.length+i) by lia,XG,En _ _ (by lia),show g.length+i-g.length=i by lia]
def g_w:(hp h0 cs js st (gr g q wt ja ca))[bq h0 js g]? =some (.lst (wt.map zf)):=ED (i:=0)
def g_o:(hp h0 cs js st (gr g q wt ja ca))[bq h0 js g+1]? =some (.ins "Reach" (rF q)):=ED (i:=1)
def g_a:(hp h0 cs js st (gr g q wt ja ca))[bq h0 js g+2]? =some (.dT (yt ja)):=ED (i:=2)
def g_b:(hp h0 cs js st (gr g q wt ja ca))[bq h0 js g+3]? =some (.dT (yM ca)):=ED (i:=3)
def g_sw {w':List Nat}:(hp h0 cs js st (gr g q wt ja ca)).set (bq h0 js g) (.lst (w'.map zf))=hp h0 cs js st (gr g q w' ja ca):=GV (i:=0)
def g_sa {j':List (Nat×Nat)}:(hp h0 cs js st (gr g q wt ja ca)).set (bq h0 js g+2) (.dT (yt j'))=hp h0 cs js st (gr g q wt j' ca):=GV (i:=2)
def g_sb {c':List (Nat×Option Nat)}:(hp h0 cs js st (gr g q wt ja ca)).set (bq h0 js g+3) (.dT (yM c'))=hp h0 cs js st (gr g q wt ja c'):=GV (i:=3)
def insR:y9 (hp h0 cs js st (gr g q wt ja ca)) (.x (.loc (bq h0 js g+1)))=some (("Reach" :Str),rF q):=by unfold y9;simp only[g_o]
def AW:(Str.ofString "Reach" ∈[Str.ofString "Reach"])=True:=by simp
def lkR:(rF q).lookup ("job_ahead":Str)=some (.loc (q+2))/\(rF q).lookup ("cell_ahead":Str)=some (.loc (q+3)):=by
 have a1:(Str.ofString "cell_ahead" ==Str.ofString "job_ahead")=false:=by decide+kernel
 have r:∀x:Str,(x==x)=true:=fun x=>by simp
 simp only[List.lookup,a1,r,and_self]
def keyA {c:Nat}:(yg (yt ja) (.one (.inl (c:Int)))).isSome=decide (c∈Fl.kc ja):=by
 unfold yg
 induction ja with
 |nil=>rfl
 |cons p r ih=>
  rw[show yt (p::r)=(ik p.1,zf p.2)::yt r from rfl]
  by_cases e:ik p.1=ik c
  .rw[Gj (by simpa using e)]
   have:=DC e;simp[Fl.kc,this]
  .rw[Gk (by simpa using e),ih]
   have: ¬c=p.1:=fun z=>e (by rw[z])
   simp[Fl.kc,this]
def keyB {c:Nat}:(yg (yM ca) (.one (.inl (c:Int)))).isSome=decide (c∈Fl.kj ca):=by
 unfold yg
 induction ca with
 |nil=>rfl
 |cons p r ih=>
  rw[show yM (p::r)=(ik p.1,encO p.2)::yM r from rfl]
  by_cases e:ik p.1=ik c
  .rw[Gj (by simpa using e)]
   have:=DC e;simp[Fl.kj,this]
  .rw[Gk (by simpa using e),ih]
   have: ¬c=p.1:=fun z=>e (by rw[z])
   simp[Fl.kj,this]
def newA {c j:Nat} (h:c∉Fl.kc ja):put3 (yt ja) (.one (.inl (c:Int))) (.int (j:Int))=yt (ja++[(c,j)]):=by
 rw[show yt (ja++[(c,j)])=yt ja++[(ik c,zf j)] by simp]
 refine Lw fun m=>h ?_
 rw[Av]at m;obtain⟨p,hp,e⟩:=Ai.mp m;exact Ai.mpr ⟨p,hp,DC e⟩
def newB {j:Nat} {o:Option Nat} (h:j∉Fl.kj ca):put3 (yM ca) (.one (.inl (j:Int))) (encO o)=yM (ca++[(j,o)]):=by
 rw[show yM (ca++[(j,o)])=yM ca++[(ik j,encO o)] by simp]
 refine Lw fun m=>h ?_
 rw[Av]at m;obtain⟨p,hp,e⟩:=Ai.mp m;exact Ai.mpr ⟨p,hp,DC e⟩
end
section
variable {h0:H3} {cs:List Cl} {js:List J} {st:Fl.St} {g:H3} {wt:List Nat} {ja:List (Nat×Nat)} {ca:List (Nat×Option Nat)} {q:Nat}
def L5 {x:H3}:(hp h0 cs js st (g++x)).length=bq h0 js g+x.length:=by unfold bq;rw[P9,As];lia
def Yd:(Str.ofString "job_ahead" =Str.ofString "cell_ahead")=False:=eq_false (by decide+kernel)
def Ye:qm [("Reach" :Str)] ("job_ahead" :Str) (pV 0) (qc eDnT) [some (.v (.loc (bq h0 js g+1))),some (.v (.loc (bq h0 js g))),none] (hp h0 cs js st (g++[.lst (wt.map zf),.ins "Reach" []]))=.nx [some (.v (.loc (bq h0 js g+1))),some (.v (.loc (bq h0 js g))),none] (hp h0 cs js st (g++[.lst (wt.map zf),.ins "Reach" [("job_ahead",.loc (bq h0 js g+2))],.dT []])):=by
 have e1:(hp h0 cs js st (g++[.lst (wt.map zf),.ins "Reach" []])).length=bq h0 js g+2:=L5;have e2:hp h0 cs js st (g++[C3.lst (wt.map zf),.ins "Reach" []])++[.dT []]=hp h0 cs js st (g++[.lst (wt.map zf),.ins "Reach" [],.dT []]):=by rw[Iz];simp
 have e3:(hp h0 cs js st (g++[C3.lst (wt.map zf),.ins "Reach" [],.dT []]))[bq h0 js g+1]? =some (.ins "Reach" []):=ED (i:=1);have e4:∀c,(hp h0 cs js st (g++[C3.lst (wt.map zf),.ins "Reach" [],.dT []])).set (bq h0 js g+1) c=hp h0 cs js st (g++[.lst (wt.map zf),c,.dT []]):=fun c=>GV (i:=1)
 (simp![qm,qc,eDnT,e1,e2,e3,AM,AW,e4,Ap])
def Yf:qm [("Reach" :Str)] ("cell_ahead" :Str) (pV 0) (qc eDnT) [some (.v (.loc (bq h0 js g+1))),some (.v (.loc (bq h0 js g))),none] (hp h0 cs js st (g++[.lst (wt.map zf),.ins "Reach" [("job_ahead",.loc (bq h0 js g+2))],.dT []]))=.nx [some (.v (.loc (bq h0 js g+1))),some (.v (.loc (bq h0 js g))),none] (hp h0 cs js st (gr g (bq h0 js g) wt [] [])):=by
 have e1:(hp h0 cs js st (g++[.lst (wt.map zf),.ins "Reach" [("job_ahead",.loc (bq h0 js g+2))],.dT []])).length=bq h0 js g+3:=L5;have e2:hp h0 cs js st (g++[C3.lst (wt.map zf),.ins "Reach" [("job_ahead",.loc (bq h0 js g+2))],.dT []])++[.dT []]=hp h0 cs js st (g++[.lst (wt.map zf),.ins "Reach" [("job_ahead",.loc (bq h0 js g+2))],.dT [],.dT []]):=by rw[Iz];simp
 have e3:(hp h0 cs js st (g++[C3.lst (wt.map zf),.ins "Reach" [("job_ahead",.loc (bq h0 js g+2))],.dT [],.dT []]))[bq h0 js g+1]? =some (.ins "Reach" [("job_ahead",.loc (bq h0 js g+2))]):=ED (i:=1);have e4:∀c,(hp h0 cs js st (g++[C3.lst (wt.map zf),.ins "Reach" [("job_ahead",.loc (bq h0 js g+2))],.dT [],.dT []])).set (bq h0 js g+1) c=hp h0 cs js st (g++[.lst (wt.map zf),c,.dT [],.dT []]):=fun c=>GV (i:=1)
 (simp![qm,qc,eDnT,e1,e2,e3,AM,AW,e4,Ap,Yd,gr,Bj])
def putB {s:S3} {p i:P3} {e:E3} {j:Nat} {o:Option Nat} (hp1:∀h,p s h=.ok (.x (.loc (bq h0 js g+1))) h) (hi:∀h,i s h=.ok (.x (.int (j:Int))) h) (he:∀h,e s h=.ok (.v (encO o)) h) (hn:j∉Fl.kj ca) (hl:ca.length<1000):
  qR (pE (ze [("Reach" :Str)] ("cell_ahead" :Str) p)) i e s (hp h0 cs js st (gr g (bq h0 js g) wt ja ca))=.nx s (hp h0 cs js st (gr g (bq h0 js g) wt ja (ca++[(j,o)]))):=by
 have e1:=newB (o:=o) hn;have e2:(yM ca).length<sizeLine:=by rw[Ae];have:=yE;lia
 have e3:=g_b (h0:=h0) (cs:=cs) (js:=js) (st:=st) (g:=g) (q:=bq h0 js g) (wt:=wt) (ja:=ja) (ca:=ca);have e4:=g_sb (h0:=h0) (cs:=cs) (js:=js) (st:=st) (g:=g) (q:=bq h0 js g) (wt:=wt) (ja:=ja) (ca:=ca) (c':=ca++[(j,o)])
 (simp![qR,he,hp1,hi,ze,insR,AW,lkR,yV,e3,C3.dc,Dc.put,Dc.len,jt,Ar,e1,e2,Dc.c,e4])
def putA {s:S3} {p i:P3} {e:E3} {j c:Nat} (hp1:∀h,p s h=.ok (.x (.loc (bq h0 js g+1))) h) (hi:∀h,i s h=.ok (.x (.int (c:Int))) h) (he:∀h,e s h=.ok (.v (.int (j:Int))) h) (hn:c∉Fl.kc ja) (hl:ja.length<1000):
  qR (pE (ze [("Reach" :Str)] ("job_ahead" :Str) p)) i e s (hp h0 cs js st (gr g (bq h0 js g) wt ja ca))=.nx s (hp h0 cs js st (gr g (bq h0 js g) wt (ja++[(c,j)]) ca)):=by
 have e1:=newA (j:=j) hn;have e2:(yt ja).length<sizeLine:=by rw[Ae];have:=yE;lia
 have e3:=g_a (h0:=h0) (cs:=cs) (js:=js) (st:=st) (g:=g) (q:=bq h0 js g) (wt:=wt) (ja:=ja) (ca:=ca);have e4:=g_sa (h0:=h0) (cs:=cs) (js:=js) (st:=st) (g:=g) (q:=bq h0 js g) (wt:=wt) (ja:=ja) (ca:=ca) (j':=ja++[(c,j)])
 (simp![qR,he,hp1,hi,ze,insR,AW,lkR,yV,e3,C3.dc,Dc.put,Dc.len,jt,Ar,e1,e2,Dc.c,e4])
def Yg (nd:wt.Nodup) (hl:wt.length<=12):FX [.loc (bq h0 js g+1),.loc (bq h0 js g)] (hp h0 cs js st (g++[.lst (wt.map zf),.ins "Reach" []]))=.ok (.v .non) (hp h0 cs js st (gr g (bq h0 js g) wt [] (wt.map fun j=>(j,none)))):=by
 show Is _ _ _;unfold FX Kg Kf
 refine yO rfl ?_
 refine zF Ye (zF Yf ?_)
 have gw:=g_w (h0:=h0) (cs:=cs) (js:=js) (st:=st) (g:=g) (q:=bq h0 js g) (wt:=wt) (ja:=[]) (ca:=[]);obtain⟨s',h',e,y2,rfl,rfl⟩:=EC (g:=gN 2) (b:=qR (pE (ze [("Reach" :Str)] ("cell_ahead" :Str) (pV 0))) (pV 2) (eC .non)) (s:=[some (.v (.loc (bq h0 js g+1))),some (.v (.loc (bq h0 js g))),none]) (h:=hp h0 cs js st (gr g (bq h0 js g) wt [] [])) (it:=iL (pV 1)) (l:=wt) (enc:=zf) (its:=[.loc (bq h0 js g)]) (ok:=fun h=>h[bq h0 js g]? =some (.lst (wt.map zf))) (by (simp![iL,yH,gw])<;>rfl) (fun i s h=> ∃y2,s=[some (.v (.loc (bq h0 js g+1))),some (.v (.loc (bq h0 js g))),y2]/\h=hp h0 cs js st (gr g (bq h0 js g) wt [] ((wt.take i).map fun j=>(j,none)))) (by rintro i s h ⟨_,_,rfl⟩;exact g_w) ⟨none,rfl,rfl⟩ (by
  rintro i j s h hi ⟨y2,rfl,rfl⟩;have hn:j∉Fl.kj ((wt.take i).map fun j=>(j,(none:Option Nat))):=fun m=>by
   have ek:Fl.kj ((wt.take i).map fun j=>(j,(none:Option Nat)))=wt.take i:=by
    show List.map _ (List.map _ _)=_;rw[Av];exact List.map_id _
   rw[ek]at m;have e0:wt=wt.take i++j::wt.drop (i+1):=by rw[<-jv hi,Gh]
   rw[e0,C5]at nd;exact nd.2.2 _ m _ Ak rfl
  have:=putB (h0:=h0) (cs:=cs) (js:=js) (st:=st) (g:=g) (wt:=wt) (ja:=[]) (ca:=(wt.take i).map fun j=>(j,none)) (s:=[some (.v (.loc (bq h0 js g+1))),some (.v (.loc (bq h0 js g))),some (.v (.int (j:Int)))]) (p:=pV 0) (i:=pV 2) (e:=eC .non) (j:=j) (o:=none) (fun _=>rfl) (fun _=>rfl) (fun _=>rfl) hn (by rw[Ae,Bc];lia)
  refine⟨_,_,by (simp![this])<;>rfl,_,rfl,?_⟩
  rw[jQ hi,Au];rfl)
 rw[Cp]at e;unfold Is
 (simp![e])
end
section
variable {h0:H3} {cs:List Cl} {js:List J} {st:Fl.St} {g:H3} {wt:List Nat} {ja:List (Nat×Nat)} {ca:List (Nat×Option Nat)}
abbrev rS (h0:H3) (js:List J) (g:H3) (j:Nat) (y4 y5 y6:Option Vl):S3:=[some (.v (.loc h0.length)),some (.v (.loc (bq h0 js g))),some (.v (.loc (bq h0 js g+1))),some (.v (.int (j:Int))),y4,y5,y6]
def L6:D3:=(sSeq (sFz 3) (sSeq (qR (pE (ze [("Reach" :Str)] ("job_ahead" :Str) (pV 2))) (pV 4) (eV 3)) (sSeq (sFz 2) (sSeq (sSet 5 FZ) (sSeq (sFz 5) (sSeq G6 (sSeq (sFz 5) (qM jU (pV 1) (aCons (pV 5) aNil)))))))))
def Yh (hl:js.length<=12) {c j:Nat} (hc:c<cs.length) (y5 y6:Option Vl):FZ (rS h0 js g j (some (.v (.int (c:Int)))) y5 y6) (hp h0 cs js st (gr g (bq h0 js g) wt ja ca))=.ok (.m (.lst ((Fl.fresh (fd cs js) st ca c).map zf))) (hp h0 cs js st (gr g (bq h0 js g) wt ja ca)):=by
 unfold FZ;have ej:=Yc (h0:=h0) (cs:=cs) (js:=js) (st:=st) (g:=gr g (bq h0 js g) wt ja ca) hl hc;have nm:=jd (n:=h0.length) (cs:=cs) (js:=js) (m:="jobs_behind") (by decide+kernel)
 have gb:=g_b (h0:=h0) (cs:=cs) (js:=js) (st:=st) (g:=g) (q:=bq h0 js g) (wt:=wt) (ja:=ja) (ca:=ca)
 refine GS (l:=gvs cs js st c) (enc:=zf) (its:=[.lst ((gvs cs js st c).map zf)]) (ok:=fun _=>True) (fun s=> ∃a,s=[a,some (.v (.loc (bq h0 js g+1)))]) (fun j=>decide (j∉Fl.kj ca)) zf (by (simp![iL,yH,z9,zG,nm,ej])<;>rfl) trivial (by
  have:=Cv (fun j=>decide (0<st.sh j c)) (List.range js.length)
  rw[Bt]at this;unfold gvs;lia) ⟨none,rfl⟩ ?_
 rintro k s hk ⟨a,rfl⟩;have e:(!decide (k∈Fl.kj ca))=decide (k∉Fl.kj ca):=by simp
 exact⟨_,by (simp![])<;>rfl,⟨_,rfl⟩,by (simp![oDIn,ze,insR,AW,lkR,yV,gb,C3.dc,Dc.get,jt,Ar,keyB,e])<;>rfl,fun _=>⟨_,by (simp![])<;>rfl,rfl⟩⟩
def Yi {c j:Nat} (fr:List Nat) (nd:fr.Nodup) (hn:∀x∈fr,x∉Fl.kj ca) (hl:ca.length+fr.length<1000) (y6:Option Vl):
  ∃y6',G6 (rS h0 js g j (some (.v (.int (c:Int)))) (some (.v (.lst (fr.map zf)))) y6) (hp h0 cs js st (gr g (bq h0 js g) wt ja ca))=.nx (rS h0 js g j (some (.v (.int (c:Int)))) (some (.v (.lst (fr.map zf)))) y6') (hp h0 cs js st (gr g (bq h0 js g) wt ja (ca++fr.map fun o=>(o,some c)))):=by
 unfold G6;obtain⟨s',h',e,y6',rfl,rfl⟩:=EC (g:=gN 6) (b:=qR (pE (ze [("Reach" :Str)] ("cell_ahead" :Str) (pV 2))) (pV 6) (eV 4)) (s:=rS h0 js g j (some (.v (.int (c:Int)))) (some (.v (.lst (fr.map zf)))) y6) (h:=hp h0 cs js st (gr g (bq h0 js g) wt ja ca)) (it:=iL (pV 5)) (l:=fr) (enc:=zf) (its:=[.lst (fr.map zf)]) (ok:=fun _=>True) (by (simp![iL,yH])<;>rfl) (fun i s h=> ∃y6,s=rS h0 js g j (some (.v (.int (c:Int)))) (some (.v (.lst (fr.map zf)))) y6/\h=hp h0 cs js st (gr g (bq h0 js g) wt ja (ca++(fr.take i).map fun o=>(o,some c)))) (fun _ _ _ _=>trivial) ⟨y6,rfl,by simp⟩ (by
   rintro i o s h hi ⟨y6,rfl,rfl⟩;have hno:o∉Fl.kj (ca++(fr.take i).map fun o=>(o,some c)):=fun m=>by
    have m:o∈(ca++(fr.take i).map fun o=>(o,some c)).map (·.1):=m
    rw[Au,Av,Ax]at m
    rcases m with m|m
    .exact hn o (Al hi) m
    .obtain⟨x,hx,e⟩:=Ai.mp m
     have e:x=o:=e;subst e;have e0:fr=fr.take i++x::fr.drop (i+1):=by rw[<-jv hi,Gh]
     rw[e0,C5]at nd;exact nd.2.2 _ hx _ Ak rfl
   have:=putB (h0:=h0) (cs:=cs) (js:=js) (st:=st) (g:=g) (wt:=wt) (ja:=ja) (ca:=ca++(fr.take i).map fun o=>(o,some c)) (s:=rS h0 js g j (some (.v (.int (c:Int)))) (some (.v (.lst (fr.map zf)))) (some (.v (.int (o:Int))))) (p:=pV 2) (i:=pV 6) (e:=eV 4) (j:=o) (o:=some c) (fun _=>rfl) (fun _=>rfl) (fun _=>rfl) hno (by rw[As,Ae,Bc];lia)
   refine⟨_,_,by (simp![this])<;>rfl,_,rfl,?_⟩
   rw[jQ hi,Au,<-Co];rfl)
 rw[Cp]at e;exact⟨_,e⟩
def Yj (hl:js.length<=12) (hcl:cs.length<=900) {c j:Nat} (S:Fl.Srch (fd cs js) st ja ca wt (some j)) (hj:j∈Fl.kj ca) (hc:c∈opn cs js st j) (hcn:c∉Fl.kc ja) (hwl:wt.length<=100) (y5 y6:Option Vl):
  ∃y5' y6',L6 (rS h0 js g j (some (.v (.int (c:Int)))) y5 y6) (hp h0 cs js st (gr g (bq h0 js g) wt ja ca))=.nx (rS h0 js g j (some (.v (.int (c:Int)))) y5' y6') (hp h0 cs js st (gr g (bq h0 js g) (wt++Fl.fresh (fd cs js) st ca c) (ja++[(c,j)]) (ca++(Fl.fresh (fd cs js) st ca c).map fun o=>(o,some c)))):=by
 obtain⟨l1,l2⟩:=S.jlen;have l1:ca.length<=js.length:=l1;have l2:ja.length<=cs.length:=l2;have hcc:c<cs.length:=PF (Br.mp hc).1;have pa:=putA (h0:=h0) (cs:=cs) (js:=js) (st:=st) (g:=g) (wt:=wt) (ja:=ja) (ca:=ca) (s:=rS h0 js g j (some (.v (.int (c:Int)))) y5 y6) (p:=pV 2) (i:=pV 4) (e:=eV 3) (j:=j) (c:=c) (fun _=>rfl) (fun _=>rfl) (fun _=>rfl) hcn (by lia)
 have fo:=fun y5 y6=>Yh (h0:=h0) (cs:=cs) (js:=js) (st:=st) (g:=g) (wt:=wt) (ja:=ja++[(c,j)]) (ca:=ca) hl (j:=j) hcc y5 y6
 have hfl:(Fl.fresh (fd cs js) st ca c).length<=12:=by
  have h1:=Cv (fun j=>decide (j∉Fl.kj ca)) ((List.range js.length).filter fun j=>decide (0<st.sh j c))
  have h2:=Cv (fun j=>decide (0<st.sh j c)) (List.range js.length)
  rw[Bt]at h2;unfold Fl.fresh;show (List.filter _ (List.filter _ (List.range js.length))).length<=12;lia
 obtain⟨y6',w1⟩:=Yi (h0:=h0) (cs:=cs) (js:=js) (st:=st) (g:=g) (wt:=wt) (ja:=ja++[(c,j)]) (ca:=ca) (c:=c) (j:=j) (Fl.fresh (fd cs js) st ca c) Fl.fresh_nodup (fun x hx=>(Fl.fresh_mem.mp hx).2.2) (by lia) y6
 have gw:=g_w (h0:=h0) (cs:=cs) (js:=js) (st:=st) (g:=g) (q:=bq h0 js g) (wt:=wt) (ja:=ja++[(c,j)]) (ca:=ca++(Fl.fresh (fd cs js) st ca c).map fun o=>(o,some c))
 have gs:=g_sw (h0:=h0) (cs:=cs) (js:=js) (st:=st) (g:=g) (q:=bq h0 js g) (wt:=wt) (ja:=ja++[(c,j)]) (ca:=ca++(Fl.fresh (fd cs js) st ca c).map fun o=>(o,some c)) (w':=wt++Fl.fresh (fd cs js) st ca c)
 have ex:jU (wt.map zf) [.lst ((Fl.fresh (fd cs js) st ca c).map zf)]=some ((wt++Fl.fresh (fd cs js) st ca c).map zf,.non):=by
  rw[Lv (by rw[Ae,Ae];have:=yE;lia),Au]
 refine⟨some (.v (.lst ((Fl.fresh (fd cs js) st ca c).map zf))),y6',?_⟩
 unfold L6
 refine (jz (by (simp![])<;>rfl)).trans ?_
 refine (jz pa).trans ?_
 refine (jz (by (simp![])<;>rfl)).trans ?_
 refine (jz (s1:=rS h0 js g j (some (.v (.int (c:Int)))) (some (.m (.lst ((Fl.fresh (fd cs js) st ca c).map zf)))) y6) (by (simp![fo])<;>rfl)).trans ?_
 refine (jz (s1:=rS h0 js g j (some (.v (.int (c:Int)))) (some (.v (.lst ((Fl.fresh (fd cs js) st ca c).map zf)))) y6) (by (simp![])<;>rfl)).trans ?_
 refine (jz w1).trans ?_
 refine (jz (s1:=rS h0 js g j (some (.v (.int (c:Int)))) (some (.v (.lst ((Fl.fresh (fd cs js) st ca c).map zf)))) y6') (by (simp![])<;>rfl)).trans ?_
 (simp![gw,ex,gs])
end
section
variable {h0:H3} {cs:List Cl} {js:List J} {st:Fl.St} {g:H3} {wt:List Nat} {ja:List (Nat×Nat)} {ca:List (Nat×Option Nat)}
def At (h0:H3) (cs:List Cl) (js:List J) (st:Fl.St) (g:H3) (n:Nat) (cur:Option Nat) (h:H3) (wt:List Nat) (ja:List (Nat×Nat)) (ca:List (Nat×Option Nat)):Prop:=
 h=hp h0 cs js st (gr g (bq h0 js g) wt ja ca)/\Fl.Srch (fd cs js) st ja ca wt cur/\wt.length+(js.length-ca.length)<=n
def Yk (hl:js.length<=12) (hcl:cs.length<=900) {j n:Nat} (hj:j∈Fl.kj ca) (hn:n<=12) {h:H3} (A:At h0 cs js st g n (some j) h wt ja ca) (y4 y5 y6:Option Vl):
  ∃y4' y5' y6' h' wt' ja' ca',HV (rS h0 js g j y4 y5 y6) h=.nx (rS h0 js g j y4' y5' y6') h'/\At h0 cs js st g n none h' wt' ja' ca':=by
 obtain⟨rfl,S,hm⟩:=A;have hjn:j<js.length:=by
  obtain⟨p,hp,e⟩:=Ai.mp hj;have:=(S.tree.jc p hp).1;rw[show p.1=j from e]at this;exact this
 have eb:=Yb (h0:=h0) (cs:=cs) (js:=js) (st:=st) (g:=gr g (bq h0 js g) wt ja ca) (by lia) hjn
 have nm:=jd (n:=h0.length) (cs:=cs) (js:=js) (m:="cells_behind") (by decide+kernel)
 unfold HV;obtain⟨s',h',e,y4',y5',y6',wt',ja',ca',rfl,A',hj',hin⟩:=EC (g:=gN 4) (b:=(sIf (tE (eOp (oDIn true) (pV 4) (pE (ze [("Reach" :Str)] ("job_ahead" :Str) (pV 2))))) L6 sSkip)) (s:=rS h0 js g j y4 y5 y6) (h:=hp h0 cs js st (gr g (bq h0 js g) wt ja ca)) (it:=iL (pE (z9 ("Flow" :Str) ("cells_behind" :Str) DS (pV 0) (aCons (pV 3) aNil)))) (l:=opn cs js st j) (enc:=zf) (its:=[.lst ((opn cs js st j).map zf)]) (ok:=fun _=>True) (by (simp![iL,yH,z9,zG,nm,eb])<;>rfl)
  (fun i s h=> ∃y4 y5 y6 wt ja ca,s=rS h0 js g j y4 y5 y6/\At h0 cs js st g n (some j) h wt ja ca/\j∈Fl.kj ca/\∀x∈(opn cs js st j).take i,x∈Fl.kc ja) (fun _ _ _ _=>trivial) ⟨y4,y5,y6,wt,ja,ca,rfl,⟨rfl,S,hm⟩,hj,by simp⟩ (by
   rintro i c s h hi ⟨y4,y5,y6,wt,ja,ca,rfl,⟨rfl,S,hm⟩,hj,hin⟩;have hc:=Al hi;have ga:=g_a (h0:=h0) (cs:=cs) (js:=js) (st:=st) (g:=g) (q:=bq h0 js g) (wt:=wt) (ja:=ja) (ca:=ca)
   by_cases hcn:c∈Fl.kc ja
   .have e:(yg (yt ja) (.one (.inl (c:Int)))).isSome=true:=by rw[keyA];simpa using hcn
    refine⟨rS h0 js g j (some (.v (.int (c:Int)))) y5 y6,_,by (simp![oDIn,ze,insR,AW,lkR,yV,ga,C3.dc,Dc.get,jt,Ar,e,Ek])<;>rfl,_,_,_,wt,ja,ca,rfl,⟨rfl,S,hm⟩,hj,fun x hx=>?_⟩
    rw[jQ hi,Ax,Ap]at hx
    rcases hx with m|rfl
    .exact hin x m
    .exact hcn
   .have e:(yg (yt ja) (.one (.inl (c:Int)))).isSome=false:=by rw[keyA];simpa using hcn
    obtain⟨y5',y6',eb⟩:=Yj (h0:=h0) (g:=g) hl hcl S hj hc hcn (by lia) y5 y6
    obtain⟨hp1,ho⟩:=Br.mp hc;obtain⟨hr1,hw⟩:=Br.mp hp1;have S':=S.step hj (Bh.mp hr1) hw (of_decide_eq_true ho) hcn;obtain⟨l1,_⟩:=S'.jlen;have l1:(ca++(Fl.fresh (fd cs js) st ca c).map fun o=>(o,some c)).length<=js.length:=l1
    refine⟨_,_,by (simp![oDIn,ze,insR,AW,lkR,yV,ga,C3.dc,Dc.get,jt,Ar,e,El,eb])<;>rfl,_,_,_,_,_,_,rfl,⟨rfl,S',?_⟩,?_,fun x hx=>?_⟩
    .rw[As,Ae]at l1
     rw[As,As,Ae];lia
    .show j∈List.map _ _
     rw[Au];exact Da _ hj
    .show x∈List.map _ _
     rw[Au];rw[jQ hi,Ax,Ap]at hx
     rcases hx with m|rfl
     .exact Da _ (hin x m)
     .exact Bu _ (by simp))
 rw[Cp]at hin;obtain⟨rfl,S',hm'⟩:=A'
 refine⟨y4',y5',y6',_,wt',ja',ca',e,rfl,S'.done fun c h1 h2 h3=>hin c ?_,hm'⟩
 exact Br.mpr ⟨Br.mpr ⟨Bh.mpr h1,h2⟩,Ci h3⟩
def pop0 {x:V3} {r:List V3} (h:r.length<1000):DM (x::r) [.int 0]=some (r,x):=by
 unfold DM;simp only[];rw[Ac (by decide)]
 have e:seqIndex? 0 (x::r).length=some 0:=by
  unfold seqIndex?;simp
 simp only[e];rfl
def Yl (h0:H3) (cs:List Cl) (js:List J) (st:Fl.St) (g:H3) (R:Res Vl):Prop:=∃ja ca,Fl.Tree (fd cs js) st ja ca/\Fl.Closed (fd cs js) st ja ca/\R=.ok (.v (.loc (bq h0 js g+1))) (hp h0 cs js st (gr g (bq h0 js g) [] ja ca))
def PH (hl:js.length<=12) (hcl:cs.length<=900):Yl h0 cs js st g (DT [.loc h0.length] (hp h0 cs js st g)):=by
 unfold DT Kk Kj
 refine yO rfl ?_
 have em:=hp_m (h0:=h0) (cs:=cs) (js:=js) (st:=st) (g:=g);have hrl:(Fl.roots (fd cs js) st).length<=js.length:=by
  have:=Cv (fun j=>decide (0<st.ms j)) (List.range js.length)
  rw[Bt]at this;exact this
 have e1:HU [some (.v (.loc h0.length)),none,none,none,none,none,none] (hp h0 cs js st g)=.ok (.m (.lst ((Fl.roots (fd cs js) st).map zf))) (hp h0 cs js st g):=by
  unfold HU;have ei:(List.range (zC js.length st.ms).length).map (fun k=>V3.tup [.int (k:Nat),(zC js.length st.ms).getD k .non])=(List.range js.length).map fun k:Nat=>V3.tup [.int (k:Int),.int (st.ms k)]:=by
   rw[Iy]
   refine Dh fun k hk=>?_
   have hk:=Bh.mp hk;rw[B1];simp[hk]
  refine GS (l:=List.range js.length) (enc:=fun k:Nat=>V3.tup [.int (k:Int),.int (st.ms k)]) (its:=[.loc (h0.length+1+js.length)]) (ok:=fun h=>h[h0.length+1+js.length]? =some (.lst (zC js.length st.ms))) (fun s=> ∃a b,s=[a,b]) (fun j=>decide (0<st.ms j)) zf (by (simp![AK,yH,ze,zG,yJ,qw,em,ei])<;>rfl) em (by rw[Bt];lia) ⟨none,none,rfl⟩ ?_
  rintro k s hk ⟨a,b,rfl⟩;exact⟨_,by (simp![])<;>rfl,⟨_,_,rfl⟩,by (simp![])<;>rfl,fun _=>⟨_,by (simp![])<;>rfl,rfl⟩⟩
 have l0:(hp h0 cs js st g).length=bq h0 js g:=P9;have e2:hp h0 cs js st g++[C3.lst ((Fl.roots (fd cs js) st).map zf)]=hp h0 cs js st (g++[.lst ((Fl.roots (fd cs js) st).map zf)]):=Iz;have l1:(hp h0 cs js st (g++[C3.lst ((Fl.roots (fd cs js) st).map zf)])).length=bq h0 js g+1:=L5;have e3:hp h0 cs js st (g++[C3.lst ((Fl.roots (fd cs js) st).map zf)])++[.ins "Reach" []]=hp h0 cs js st (g++[.lst ((Fl.roots (fd cs js) st).map zf),.ins "Reach" []]):=by rw[Iz];simp
 have e4:=Yg (h0:=h0) (cs:=cs) (js:=js) (st:=st) (g:=g) (wt:=Fl.roots (fd cs js) st) (List.nodup_range.sublist Er) (by lia)
 refine zF (s1:=[some (.v (.loc h0.length)),some (.v (.loc (bq h0 js g))),none,none,none,none,none]) (h1:=hp h0 cs js st (g++[.lst ((Fl.roots (fd cs js) st).map zf)])) (by (simp![e1,qc,l0,e2])) ?_
 refine zF (s1:=[some (.v (.loc h0.length)),some (.v (.loc (bq h0 js g))),some (.v (.loc (bq h0 js g+1))),none,none,none,none]) (h1:=hp h0 cs js st (gr g (bq h0 js g) (Fl.roots (fd cs js) st) [] ((Fl.roots (fd cs js) st).map fun j=>(j,none)))) (by (simp![eNew,l1,e3,e4])) ?_
 refine Pw (n:=js.length) (fun n s h=>n<=12/\∃y3 y4 y5 y6 wt ja ca,s=[some (.v (.loc h0.length)),some (.v (.loc (bq h0 js g))),some (.v (.loc (bq h0 js g+1))),y3,y4,y5,y6]/\At h0 cs js st g n none h wt ja ca) ⟨hl,none,none,none,none,_,_,_,rfl,rfl,.start,by rw[Ae];lia⟩ ?_
 rintro n s h ⟨hn,y3,y4,y5,y6,wt,ja,ca,rfl,rfl,S,hm⟩;have gw:=g_w (h0:=h0) (cs:=cs) (js:=js) (st:=st) (g:=g) (q:=bq h0 js g) (wt:=wt) (ja:=ja) (ca:=ca);cases wt with
 |nil=>
  refine .inl ⟨_,by (simp![gw,Gg,Bj,Ar,Ek])<;>rfl,ja,ca,S.tree,S.closed,?_⟩
  (simp![])
 |cons j r=>
  obtain⟨S1,hj⟩:=S.pop;rw[Az]at hm;have gs:=g_sw (h0:=h0) (cs:=cs) (js:=js) (st:=st) (g:=g) (q:=bq h0 js g) (wt:=j::r) (ja:=ja) (ca:=ca) (w':=r);have pp:DM (V3.int (j:Int)::r.map zf) [.int 0]=some (r.map zf,.int (j:Int)):=pop0 (by rw[Ae];lia)
  have ne:((j::r).map zf).isEmpty=false:=rfl;obtain⟨y4',y5',y6',h',wt',ja',ca',e,A'⟩:=Yk (h0:=h0) (cs:=cs) (js:=js) (st:=st) (g:=g) (n:=n-1) hl hcl hj (by lia) ⟨rfl,S1,by lia⟩ y4 y5 y6
  exact .inr ⟨_,_,_,n-1,by (simp![gw,ne,Ar,El])<;>rfl,by (simp![HD,gw,pp,gs,e])<;>rfl,by lia,by lia,_,_,_,_,_,_,_,rfl,A'⟩
end
section
variable {h0:H3} {cs:List Cl} {js:List J} {st:Fl.St} {g:H3} {wt:List Nat} {ja:List (Nat×Nat)} {ca:List (Nat×Option Nat)}
def PJ {β:Type} {l:List (Nat×β)} {f:β->V3} (nd:(l.map (·.1)).Nodup) {k:Nat} {v:β} (h:(k,v)∈l):yg (l.map fun p=>(ik p.1,f p.2)) (.one (.inl (k:Int)))=some (f v):=by
 unfold yg
 induction l with
 |nil=>cases h
 |cons p r ih=>
  rw[Ag,Bi]at nd;rw[Ag]
  by_cases e:ik p.1=ik k
  .rw[Gj (by simpa using e)]
   have e:=DC e
   rcases Af.mp h with z|m
   .rw[<-z];rfl
   .exact absurd (Ai.mpr ⟨_,m,e.symm⟩) nd.1
  .rw[Gk (by simpa using e)]
   rcases Af.mp h with z|m
   .exact absurd (by rw[<-z]) e
   .exact ih nd.2 m
def Ym (T:Fl.Tree (fd cs js) st ja ca) {c:Nat} {ps:List Fl.Sp} (P:Fl.Pth ja ca c ps) (hl:ps.length<=100):G7 [.loc (bq h0 js g+1),.int (c:Int)] (hp h0 cs js st (gr g (bq h0 js g) wt ja ca))=.ok (.m (.lst (ps.map zI))) (hp h0 cs js st (gr g (bq h0 js g) wt ja ca)):=by
 show Is _ _ _;unfold G7 Km Kl
 refine yO rfl ?_
 refine zF (by (simp![])<;>rfl) ?_
 have ga:=g_a (h0:=h0) (cs:=cs) (js:=js) (st:=st) (g:=g) (q:=bq h0 js g) (wt:=wt) (ja:=ja) (ca:=ca);have gb:=g_b (h0:=h0) (cs:=cs) (js:=js) (st:=st) (g:=g) (q:=bq h0 js g) (wt:=wt) (ja:=ja) (ca:=ca)
 refine Pw (n:=ps.length) (fun n s h=> ∃cur acc rest y3,s=[some (.v (.loc (bq h0 js g+1))),some (.v (encO cur)),some (.m (.lst (acc.map zI))),y3]/\h=hp h0 cs js st (gr g (bq h0 js g) wt ja ca)/\acc++rest=ps/\n=rest.length/\match cur with|none=>rest=[] | some c=>Fl.Pth ja ca c rest) ⟨some c,[],ps,none,rfl,rfl,rfl,rfl,P⟩ ?_
 rintro n s h ⟨cur,acc,rest,y3,rfl,rfl,hr,rfl,hc⟩;cases cur with
 |none=>
  have hc:rest=[]:=hc;subst hc;rw[B4]at hr;subst hr
  refine .inl ⟨_,by (simp![])<;>rfl,?_⟩
  unfold Is
  (simp![])
 |some x=>
  have hc:Fl.Pth ja ca x rest:=hc;have hal:acc.length<=100:=by have:=congrArg List.length hr;rw[As]at this;lia
  have hap:∀y,qI (acc.map zI) [y]=some (acc.map zI++[y],.non):=fun y=>mAppend_ok (by rw[Ae];have:=yE;lia)
  obtain⟨j,gv,r,rfl,m1,m2⟩:=hc.head;have va:=PJ (f:=zf) T.nc m1;have vb:=PJ (f:=encO) T.nj m2
  refine .inr ⟨_,[some (.v (.loc (bq h0 js g+1))),some (.v (encO gv)),some (.m (.lst ((acc++[(j,x,gv)]).map zI))),some (.v (.int (j:Int)))],hp h0 cs js st (gr g (bq h0 js g) wt ja ca),r.length,by (simp![])<;>rfl,?_,by simp,gv,acc++[(j,x,gv)],r,_,rfl,rfl,by rw[Co];exact hr,rfl,?_⟩
  .rw[Au]
   (simp![AQ,ze,insR,AW,lkR,yV,ga,gb,C3.dc,Dc.get,jt,Ar,va,vb,hap])
  .cases hc with
   |one _ _=>rfl
   |cons _ _ h=>exact h
def Yn (h0:H3) (cs:List Cl) (js:List J) (st:Fl.St) (R:Res Vl):Prop:=∃ps g',R=.ok (.m (.lst (ps.map zI))) (hp h0 cs js st g')/\
 ((ps=[]/\∀c,Fl.Rch (fd cs js) st (.inr c)->st.sp c<=0)\/∃c l,Fl.Ch c l ps/\Fl.In (fd cs js) ps/\(ps.map (·.1)).Nodup/\0<st.ms l/\l<js.length/\c<cs.length/\0<st.sp c/\(∀p∈ps,st.sh p.1 p.2.1<(fd cs js).mx p.1 p.2.1)/\∀p∈ps,∀y,p.2.2=some y->0<st.sh p.1 y)
def Yo:(yt ja).map (fun kv=>mkV3 kv.1)=(Fl.kc ja).map zf:=by
 show List.map _ (List.map _ _)=List.map _ (List.map _ _);rw[Av,Av];rfl
def noMR {q:Nat} {m:String} (h:["job_ahead","cell_ahead"].all (fun x=> !(Str.ofString m==Str.ofString x))=true):(rF q).lookup (Str.ofString m)=none:=by
 simp only[E2,List.all_nil,Bool.and_true,Be,Bool.not_eq_true']at h;obtain⟨a,b⟩:=h;simp only[List.lookup,a,b]
def PK (hl:js.length<=12) (hcl:cs.length<=900) (gd:Fl.Good (fd cs js) st):Yn h0 cs js st (CS [.loc h0.length] (hp h0 cs js st g)):=by
 unfold CS Ko Kn
 refine yO rfl ?_
 obtain⟨ja,ca,T,C,er⟩:=PH (h0:=h0) (cs:=cs) (js:=js) (st:=st) (g:=g) hl hcl;have nm:=jd (n:=h0.length) (cs:=cs) (js:=js) (m:="reached") (by decide+kernel)
 refine zF (s1:=[some (.v (.loc h0.length)),some (.v (.loc (bq h0 js g+1))),none]) (h1:=hp h0 cs js st (gr g (bq h0 js g) [] ja ca)) (by (simp![z9,zG,nm,er])) ?_
 have ga:=g_a (h0:=h0) (cs:=cs) (js:=js) (st:=st) (g:=g) (q:=bq h0 js g) (wt:=[]) (ja:=ja) (ca:=ca);have es:=hp_s (h0:=h0) (cs:=cs) (js:=js) (st:=st) (g:=gr g (bq h0 js g) [] ja ca);have nr:=noMR (q:=bq h0 js g) (m:="steps_to") (by decide+kernel)
 have hw:∀j y,j<(fd cs js).nJ->y<(fd cs js).nC->0<st.sh j y->(fd cs js).win j y=true:=fun j y h1 h2 h3=>by
  cases z:(fd cs js).win j y with
  |true=>rfl
  |false=>rw[gd.off j y h1 h2 z]at h3;lia
 refine it_E (l:=Fl.kc ja) (enc:=zf) (its:=[.loc (bq h0 js g+2)]) (ok:=fun h=>h[bq h0 js g+2]? =some (.dT (yt ja))) (by (simp![iDl,BL,ze,insR,AW,lkR,ga,Yo])<;>rfl) (fun i s h=>h=hp h0 cs js st (gr g (bq h0 js g) [] ja ca)/\∃y2,s=[some (.v (.loc h0.length)),some (.v (.loc (bq h0 js g+1))),y2]/\∀c∈(Fl.kc ja).take i,st.sp c<=0) (by rintro i s h ⟨rfl,_⟩;exact ga) ⟨rfl,none,rfl,by simp⟩ ?_ ?_
 .rintro i c s h hi ⟨rfl,y2,rfl,hz⟩
  have hc:=Al hi;have hcn:c<cs.length:=by
   obtain⟨p,hp,e⟩:=Ai.mp hc;have:=(T.cj p hp).1;rw[show p.1=c from e]at this;exact this
  by_cases hs:0<st.sp c
  .obtain⟨ps,l,P,h1,h2,h3,h4,h5,h6,h7,h8⟩:=T.way hc hw
   have hpl:ps.length<=100:=by
    have:=Bd.len_sub (l:=ps.map fun p=>(p.1:Int)) (m:=(List.range js.length).map fun k:Nat=>(k:Int)) (by
     unfold List.Nodup at h3 ⊢;rw[Dq]at h3 ⊢;exact h3.imp fun h z=>h (Int.ofNat.inj z)) (fun x hx=>by
      obtain⟨p,hp,rfl⟩:=Ai.mp hx;exact Ai.mpr ⟨p.1,Bh.mpr (h2 p hp).1,rfl⟩)
    rw[Ae,Ae,Bt]at this;lia
   have st1:=Ym (h0:=h0) (g:=g) (wt:=[]) T P hpl
   refine .inr (.inl ⟨.m (.lst (ps.map zI)),_,by (simp![ze,zG,yJ,qw,BN es,jr hcn,Ar,hs,z9,insR,nr,st1])<;>rfl,ps,_,rfl,.inr ⟨c,l,h1,h2,h3,h4,h5,h6,hs,h7,h8⟩⟩)
  .refine .inl ⟨_,_,.inl (by (simp![ze,zG,yJ,qw,BN es,jr hcn,Ar,hs])<;>rfl),rfl,_,rfl,fun x hx=>?_⟩
   rw[jQ hi,Ax,Ap]at hx
   rcases hx with m|rfl
   .exact hz x m
   .lia
 .rintro s h ⟨rfl,y2,rfl,hz⟩
  rw[Cp]at hz
  refine⟨[],_,by (simp![])<;>rfl,.inl ⟨rfl,fun c r=>hz c (C.all r)⟩⟩
end
section
variable {h0:H3} {cs:List Cl} {js:List J} {st:Fl.St} {g:H3}
def Max (d:Fl.D) (st:Fl.St):Prop:=∀c,Fl.Rch d st (.inr c)->st.sp c<=0
def PL (h0:H3) (cs:List Cl) (js:List J) (R:Res Vl):Prop:=∃st' g',Fl.Good (fd cs js) st'/\Max (fd cs js) st'/\R=.ok (.v .non) (hp h0 cs js st' g')
def Yp {n l:Nat} {f:Nat->Int} {b:Int} (h:l<n):Fl.S n (fun j=>if j=l then f j-b else f j)=Fl.S n f-b:=by
 rw[Fl.S_congr (g:=fun j=>f j-if j=l then b else 0) fun j _=>by split<;>lia,Fl.S_sub,Fl.S_at h]
def Yq (hl:js.length<=12) (hcl:cs.length<=900) (gd:Fl.Good (fd cs js) st):PL h0 cs js (G8 [.loc h0.length] (hp h0 cs js st g)):=by
 unfold G8 Kq Kp
 refine yO rfl ?_
 have nm:=jd (n:=h0.length) (cs:=cs) (js:=js) (m:="steps_to_spare") (by decide+kernel)
 have ns:=jd (n:=h0.length) (cs:=cs) (js:=js) (m:="shift") (by decide+kernel)
 obtain⟨ps,g1,e1,k1⟩:=PK (h0:=h0) (g:=g) hl hcl gd
 refine zF (s1:=[some (.v (.loc h0.length)),some (.m (.lst (ps.map zI)))]) (h1:=hp h0 cs js st g1) (by (simp![z9,zG,nm,e1])) ?_
 obtain⟨s',h',e,st',g',gd',mx,rfl,rfl⟩:=Pv (t:=tP (pV 1)) (b:=(sSeq (sFz 1) (sSeq (sExp (z9 ("Flow" :Str) ("shift" :Str) CB (pV 0) (aCons (pV 1) aNil))) (sSet 1 (z9 ("Flow" :Str) ("steps_to_spare" :Str) CS (pV 0) aNil))))) (Post:=fun s h=> ∃st' g',Fl.Good (fd cs js) st'/\Max (fd cs js) st'/\s=[some (.v (.loc h0.length)),some (.m (.lst []))]/\h=hp h0 cs js st' g')
  (fun n s h=> ∃st' g' ps,Fl.Good (fd cs js) st'/\s=[some (.v (.loc h0.length)),some (.m (.lst (ps.map zI)))]/\h=hp h0 cs js st' g'/\n=(Fl.S js.length st'.ms).toNat/\((ps=[]/\∀c,Fl.Rch (fd cs js) st' (.inr c)->st'.sp c<=0)\/∃c l,Fl.Ch c l ps/\Fl.In (fd cs js) ps/\(ps.map (·.1)).Nodup/\0<st'.ms l/\l<js.length/\c<cs.length/\0<st'.sp c/\(∀p∈ps,st'.sh p.1 p.2.1<(fd cs js).mx p.1 p.2.1)/\∀p∈ps,∀y,p.2.2=some y->0<st'.sh p.1 y)) (by
   rintro n s h ⟨st,g,ps,gd,rfl,rfl,rfl,k⟩
   rcases k with ⟨rfl,hz⟩|⟨c,l,h1,h2,h3,h4,h5,h6,h7,h8,h9⟩
   .exact .inl ⟨_,by (simp![Bj,Gg,Ar,Ek])<;>rfl,st,g,gd,hz,rfl,rfl⟩
   .obtain⟨b,bo,es⟩:=PD (h0:=h0) (st:=st) (g:=g) h2 h1 h6 h5
    have b1:1<=b:=bo.at_ 1 (by lia) (by lia) (fun p hp=>by have:=h8 p hp;lia) (fun p hp y e=>by have:=h9 p hp y e;lia)
    have gd':=gd.after h1 h2 h3 ⟨by lia,bo.sp,bo.ms,bo.up,bo.dn⟩
    obtain⟨ps',g2,e2,k2⟩:=PK (h0:=h0) (g:=g) hl hcl gd';have ne:(ps.map zI).isEmpty=false:=by
     obtain⟨_,_,_,rfl⟩:=PC h1;rfl
    have lt:(Fl.S js.length (st.after ps c l b).ms).toNat<(Fl.S js.length st.ms).toNat:=by
     have e:Fl.S js.length (st.after ps c l b).ms=Fl.S js.length st.ms-b:=Yp h5;have nn:0<=Fl.S js.length (st.after ps c l b).ms:=Fl.S_nonneg gd'.ms;lia
    exact .inr ⟨_,_,_,_,by (simp![ne,Ar,El])<;>rfl,by (simp![z9,zG,ns,nm,es,e2])<;>rfl,lt,_,_,ps',gd',rfl,rfl,rfl,k2⟩) _ _ _ ⟨st,g1,ps,gd,rfl,rfl,rfl,k1⟩
 refine⟨st',g',gd',mx,?_⟩
 (simp![e])
def jF (cs:List Cl) (js:List J):Fl.St:=⟨fun _ _=>0,fun j=>(zN js j).w,fun c=>(zM cs c).m*clen cs c⟩
def rep0 (n:Nat):(List.replicate n [V3.int 0]).flatten=zC n fun _=>0:=by
 induction n with
 |zero=>rfl
 |succ n ih=>
  rw[List.replicate_succ',List.flatten_append,ih];unfold zC;rw[Gf,Au];rfl
def Yr (js:List J) (cs:List Cl) (hcl:cs.length<=900) (hj:LoadOk js) {n:Nat} {h:H3} {x1 x2:Option Vl} {fs:List (Str×V3)} (e:h[n]? =some (.ins "Flow" fs)) (e1:fs.lookup ("load":Str)=some (.lst (js.map J.enc))) (e2:fs.lookup ("cells":Str)=some (.lst (cs.map Cl.enc))):
  HX [some (.v (.loc n)),x1,x2] h=.ok (.m (.lst (js.map fun j=>.dT (yU cs j)))) h:=by
 unfold HX
 refine CF (x:= .lst (js.map J.enc)) (enc:=J.enc) (fun s=> ∃a,s=[a,some (.v (.loc n))]) (fun j=>.dT (yU cs j)) (by (simp![ze,y9,e,yJ,e1,Ap])<;>rfl) rfl (by have:=hj.len;lia) ⟨none,rfl⟩ ?_
 rintro j s hjm ⟨a,rfl⟩;exact⟨_,_,by (simp![])<;>rfl,⟨_,rfl⟩,by (simp![ze,y9,e,yJ,e2,Ap,XD cs (by lia) (hj.one j hjm)])<;>rfl,rfl⟩
def rp_b (n:Nat) (hn:n<=900): -(2 ^ 63)<=(n:Int)/\(n:Int)<2 ^ 63/\[V3.int 0].length*(n:Int).toNat<=sizeLine:=by
 have hz:=yE;exact⟨by lia,by lia,by rw[Cg,Bp];lia⟩
def rp_x (s:S3) (h:H3):rdm s h (.x (.lst [V3.int 0]))=some [V3.int 0]:=rfl
def rp_r (n:Nat) (hn:n<=900) (s:S3) (h:H3):oRep s h (.x (.lst [V3.int 0])) (.x (.int (n:Int)))=some (.m (.lst (List.replicate (n:Int).toNat [V3.int 0]).flatten)):=by
 unfold oRep;simp only[rp_x];exact Ac (rp_b n hn)
def Ys {f g:F2} {s:S3} {h:H3} {x y:Rf} (e:f s h x y=none):qG f g s h x y=g s h x y:=by unfold qG;rw[e]
def mul0 (n:Nat) (hn:n<=900) (K:Int) (hK:(n:Int)=K) (s:S3) (h:H3):zW s h (.x (.lst [V3.int 0])) (.x (.int K))=some (.m (.lst (zC n fun _=>0))):=by
 subst hK;have e:(n:Int).toNat=n:=Bp n;exact (Ys (f:=Hu) (g:=oRep) rfl).trans ((rp_r n hn s h).trans (by rw[e,rep0]))
def elt2 {cs:List Cl} (hcl:cs.length<=900) {n:Nat} {h:H3} {a:Option Vl} {fs:List (Str×V3)} (e:h[n]? =some (.ins "Flow" fs)) (e2:fs.lookup ("cells":Str)=some (.lst (cs.map Cl.enc))):
  (qc (eOp zW (pE (eLst (aCons (kJ 0) aNil))) (pE (eB bLen (aCons (pE (ze [("Flow" :Str)] ("cells" :Str) (pV 1))) aNil))))) [a,some (.v (.loc n))] h=.ok (.v (.loc h.length)) (h++[.lst (zC cs.length fun _=>0)]):=by
 obtain⟨K,hK⟩:∃K:Int,(cs.length:Int)=K:=⟨_,rfl⟩;have er:=fun s h=>mul0 cs.length hcl K hK s h
 have e5:(pE (eB bLen (aCons (pE (ze [("Flow" :Str)] ("cells" :Str) (pV 1))) aNil))) [a,some (.v (.loc n))] h=.ok (.x (.int K)) h:=by
  (simp![ze,y9,e,yJ,e2,Ae,hK])
 generalize pE (eB bLen (aCons (pE (ze [("Flow" :Str)] ("cells" :Str) (pV 1))) aNil))=p at e5 ⊢;generalize zC cs.length (fun _=>0)=R at er ⊢
 (simp![qc,e5,er])
def Yt (js:List J) (cs:List Cl) (hcl:cs.length<=900) (hj:LoadOk js) {n:Nat} {h:H3} {x1 x2:Option Vl} {fs:List (Str×V3)} (e:h[n]? =some (.ins "Flow" fs)) (e1:fs.lookup ("load":Str)=some (.lst (js.map J.enc))) (e2:fs.lookup ("cells":Str)=some (.lst (cs.map Cl.enc))):
  HY [some (.v (.loc n)),x1,x2] h=.ok (.m (.lst ((List.range js.length).map fun k=>.loc (h.length+k)))) (h++js.map fun _=>.lst (zC cs.length fun _=>0)):=by
 unfold HY;have hn:n<h.length:=(Ao.mp e).1
 refine Xx (l:=js) (enc:=J.enc) (its:=[.lst (js.map J.enc)]) (ok:=fun _=>True) (fun s=> ∃a,s=[a,some (.v (.loc n))]) (fun _=>.lst (zC cs.length fun _=>0)) (by (simp![iL,yH,ze,y9,e,yJ,e1,Ap])<;>rfl) (fun _=>trivial) (by have:=hj.len;lia) ⟨none,rfl⟩ ?_
 rintro j s h' hjm ⟨a,rfl⟩;have e':(h++h')[n]? =some (.ins "Flow" fs):=by rw[Bg hn];exact e
 exact⟨[some (.v j.enc),some (.v (.loc n))],by (simp![]),⟨_,rfl⟩,elt2 hcl e' e2⟩
end
section
variable {cs:List Cl} {js:List J}
def PM {α:Type} (f:α->Int) (d:α) (l:List α):(zC l.length fun k=>f (l.getD k d))=l.map fun a=>.int (f a):=by
 apply Dn
 .simp
 .intro i h1 h2
  have hi:i<l.length:=by simpa using h2
  simp[B1,zK hi]
def Yu (js:List J) (hj:LoadOk js) {n:Nat} {h:H3} {x1 x2:Option Vl} {fs:List (Str×V3)} (e:h[n]? =some (.ins "Flow" fs)) (e1:fs.lookup ("load":Str)=some (.lst (js.map J.enc))):
  qc GB [some (.v (.loc n)),x1,x2] h=.ok (.v (.loc h.length)) (h++[.lst (zC js.length (jF cs js).ms)]):=by
 have a:GB [some (.v (.loc n)),x1,x2] h=.ok (.m (.lst (js.map fun j=>.int j.w))) h:=by
  unfold GB
  refine CF (x:= .lst (js.map J.enc)) (enc:=J.enc) (fun s=> ∃a,s=[a]) (fun j=>.int j.w) (by (simp![ze,y9,e,yJ,e1,Ap])<;>rfl) rfl (by have:=hj.len;lia) ⟨none,rfl⟩ ?_
  rintro j s hjm ⟨a,rfl⟩;exact⟨_,_,by (simp![])<;>rfl,⟨_,rfl⟩,by (simp![])<;>rfl,rfl⟩
 have b:zC js.length (jF cs js).ms=js.map fun j=>.int j.w:=PM J.w default js
 rw[b];unfold qc;rw[a];rfl
def Yv (js:List J) (cs:List Cl) (hcl:cs.length<=900) {n:Nat} {h:H3} {x1 x2:Option Vl} {fs:List (Str×V3)} (e:h[n]? =some (.ins "Flow" fs)) (e1:fs.lookup ("cells":Str)=some (.lst (cs.map Cl.enc))) (hb:∀c∈cs,0<=c.m/\c.m<=16/\c.f<=c.l):
  qc GC [some (.v (.loc n)),x1,x2] h=.ok (.v (.loc h.length)) (h++[.lst (zC cs.length (jF cs js).sp)]):=by
 have a:GC [some (.v (.loc n)),x1,x2] h=.ok (.m (.lst (cs.map fun c=>.int (c.m*(c.l-c.f+1))))) h:=by
  unfold GC
  refine CF (x:= .lst (cs.map Cl.enc)) (enc:=Cl.enc) (fun s=> ∃a b c,s=[a,b,c]) (fun c=>.int (c.m*(c.l-c.f+1))) (by (simp![ze,y9,e,yJ,e1,Ap])<;>rfl) rfl (by lia) ⟨none,none,none,rfl⟩ ?_
  rintro c s hc ⟨a,b,d,rfl⟩;have hm:=hb c hc;have em:=fun s h j=>oMul_int (s:=s) (h:=h) (qS (i:=c.m) (j:=j) ⟨by lia,by lia⟩)
  exact⟨_,_,by (simp![])<;>rfl,⟨_,_,_,rfl⟩,by (simp![em])<;>rfl,rfl⟩
 have b:zC cs.length (jF cs js).sp=cs.map fun c=>.int (c.m*(c.l-c.f+1)):=PM (fun c:Cl=>c.m*(c.l-c.f+1)) default cs
 rw[b];unfold qc;rw[a];rfl
def EE {k:Str} {v:V3} {fs g:List (Str×V3)} (h:fs.lookup k=some v):(fs++g).lookup k=some v:=by rw[List.lookup_append,h];rfl
def PN {k:Str} {v:V3} {fs:List (Str×V3)} (h:fs.lookup k=none):(fs++[(k,v)]).lookup k=some v:=by rw[List.lookup_append,h];simp[List.lookup]
theorem PP {k:Str} {v:V3}:∀{fs:List (Str×V3)},fs.lookup k=none->AM k v fs=fs++[(k,v)]
 | [],_=>rfl
 | (g,x)::r,h=>by
  unfold List.lookup at h;unfold AM
  by_cases e:g=k
  .subst e;simp at h
  .have e':(k==g)=false:=by simpa using fun x=>e x.symm
   rw[e']at h;rw[Ab e,PP h];rfl
def EF {k:String} {ns:List String} (h:ns.all (fun x=> !(Str.ofString k==Str.ofString x))=true):∀{fs:List (Str×V3)},fs.map (·.1)=ns.map Str.ofString->fs.lookup (Str.ofString k)=none:=by
 induction ns with
 |nil=>intro fs e;cases fs with
  |nil=>rfl
  |cons _ _=>simp at e
 |cons n r ih=>intro fs e;cases fs with
  |nil=>rfl
  |cons p q=>
   rw[Ag,Ag,List.cons.injEq]at e;rw[E2,Be,Bool.not_eq_true']at h;obtain⟨a,b⟩:=p;unfold List.lookup;have e0:a=Str.ofString n:=e.1;rw[e0,h.1];exact ih h.2 e.2
def IB {h0 t u:H3} {fs:List (Str×V3)} {fl:Str} {e:E3} {r:Vl} {y:V3} {x1 x2:Option Vl}
  (he:e [some (.v (.loc h0.length)),x1,x2] (h0++(.ins "Flow" fs::t))=.ok r (h0++(.ins "Flow" fs::t)++u)) (hr:r.fz=some y) (hl:fs.length<1000) (hn:fs.lookup fl=none):
  qm [("Flow" :Str)] fl (pV 0) e [some (.v (.loc h0.length)),x1,x2] (h0++(.ins "Flow" fs::t))=.nx [some (.v (.loc h0.length)),x1,x2] (h0++(.ins "Flow" (fs++[(fl,y)])::(t++u))):=by
 have e1:(h0++(C3.ins "Flow" fs::t)++u)[h0.length]? =some (.ins "Flow" fs):=by simp
 have e2:∀c,(h0++(C3.ins "Flow" fs::t)++u).set h0.length c=h0++(c::(t++u)):=fun c=>by simp
 have e3:=PP (v:=y) hn;unfold qm;rw[he];simp only[Res.bindS,hr]
 (simp![e1,e2,yJ,hl,e3])
structure CsOk (cs:List Cl):Prop where
 one:∀c∈cs,0<=c.m/\c.m<=16/\c.f<=c.l
def at_b {rows:List (Int×Int)} {rest:Int} (hr:RwB rows rest) (t:Int):0<=Cal.at_ rows rest t/\Cal.at_ rows rest t<=16:=by
 have h1:=hr.one;have h2:=hr.rest;clear hr
 induction rows generalizing t with
 |nil=>rw[P1];lia
 |cons p r ih=>
  rw[P0]
  split
  .have:=h1 p (Ak ..);lia
  .exact ih _ fun q hq=>h1 q (An _ hq)
def Yw {rows:List (Int×Int)} {rest:Int} (hm:∀t,0<=Cal.at_ rows rest t/\Cal.at_ rows rest t<=16) (js:List J):CsOk (yr js rows rest):=⟨fun c hc=>by
 obtain⟨p,hp,rfl⟩:=Ai.mp hc;have:=Bd.prs_up (Bd.srt_up _) p (Br.mp hp).1;have:=hm p.1;exact⟨this.1,this.2,by show p.1<=p.2-1;lia⟩⟩
def CI {cs:List Cl} {c:Nat} (h:c<cs.length):zM cs c∈cs:=by
 unfold zM;rw[B1,zK h];exact C4 h
def GW {js:List J} {j:Nat} (h:j<js.length):zN js j∈js:=Al (GT h)
theorem CsOk.clen {cs:List Cl} (h:CsOk cs) {c:Nat} (hc:c<cs.length):1<=clen cs c:=by
 have:=h.one _ (CI hc);unfold My.clen;lia
def Yx (hj:LoadOk js) (hc:CsOk cs):Fl.Good (fd cs js) (jF cs js) where
 lo _ _ _ _:=Dl 0
 hi j c h1 h2 _:=by
  have:=(hj.one _ (GW h1)).b;have:=hc.clen h2;exact E9 (by lia) (by lia)
 off _ _ _ _ _:=rfl
 row j h:=by
  show Fl.S _ (fun _=>0)+_=_
  rw[Fl.S_zero,Dk];rfl
 col c h:=by
  show Fl.S _ (fun _=>0)+_=_
  rw[Fl.S_zero,Dk];rfl
 ms j h:=by
  have:=(hj.one _ (GW h)).w;show 0<=(zN js j).w;lia
 sp c h:=by
  have:=hc.one _ (CI h);have:=hc.clen h;exact E9 (by lia) (by lia)
end
section
variable {js:List J} {h0:H3}
theorem PQ:∀l:List Int,(Bd.prs l).length<=l.length
 | []=>Ah _
 | [_]=>by simp[Bd.prs]
 |a::b::r=>by
  have:=PQ (b::r);show (Bd.prs (b::r)).length+1<=_;simp only[Az] at*;lia
def PR {rows:List (Int×Int)} (rest:Int) (hj:LoadOk js) (hl:rows.length<=16):(yr js rows rest).length<=63:=by
 have a:=Lu (rows:=rows) hj.len hl;have b:=PQ (Bd.srt (yx rows js));have c:(Bd.srt (yx rows js)).length=(ya (yx rows js)).length:=(AJ (ya (yx rows js))).1.length_eq;unfold yr;rw[Ae];have d:=Cv (fun p:Int×Int=>qE js p.1) (Bd.prs (Bd.srt (yx rows js)))
 lia
def L7 {t:H3} {fs:List (Str×V3)} {fl:Str} {e:E3} {r:Vl} {y:V3} {x1 x2:Option Vl}
  (he:e [some (.v (.loc h0.length)),x1,x2] (h0++(.ins "Flow" fs::t))=.ok r (h0++(.ins "Flow" fs::t))) (hr:r.fz=some y) (hl:fs.length<1000) (hn:fs.lookup fl=none):
  qm [("Flow" :Str)] fl (pV 0) e [some (.v (.loc h0.length)),x1,x2] (h0++(.ins "Flow" fs::t))=.nx [some (.v (.loc h0.length)),x1,x2] (h0++(.ins "Flow" (fs++[(fl,y)])::t)):=by
 have:=IB (u:=[]) (by rw[B4];exact he) hr hl hn
 rwa [B4]at this
def Yy {cs:List Cl}:([]++js.map fun _=>C3.lst (zC cs.length fun _=>0))++[.lst (zC js.length (jF cs js).ms)]++[.lst (zC cs.length (jF cs js).sp)]=jk cs js (jF cs js)++[]:=by
 unfold jk;have e:(js.map fun _=>C3.lst (zC cs.length fun _=>0))=(List.range js.length).map fun j=>C3.lst (zC cs.length ((jF cs js).sh j)):=by
  apply Dn
  .simp
  .intro i h1 h2;simp[jF]
 rw[e];simp
def Yz {rows:List (Int×Int)} {rest:Int} (hj:LoadOk js) (hl:rows.length<=16) (hc:CsOk (yr js rows rest)):PL h0 (yr js rows rest) js (GD [.loc h0.length,.lst (js.map J.enc),calV rows rest] (h0++[.ins "Flow" []])):=by
 have ec:=X9 hj hl rest;have el:=PR rest hj hl;generalize hcs:yr js rows rest=cs at*;have at_:∀(fs:List (Str×V3)) (t:H3),(h0++(C3.ins "Flow" fs::t))[h0.length]? =some (.ins "Flow" fs):=fun fs t=>by simp
 unfold GD Ku
 refine yO rfl ?_
 refine zF (L7 (t:=[]) (y:= .lst (cs.map Cl.enc)) (by (simp![ec])<;>rfl) rfl (by simp) rfl) ?_
 refine zF (L7 (t:=[]) (y:= .lst (js.map J.enc)) (by (simp![])<;>rfl) rfl (by simp) (EF (ns:=["cells"]) (by decide+kernel) rfl)) ?_
 generalize hf2:([]++[(Str.ofString "cells",V3.lst (List.map Cl.enc cs))]++[(Str.ofString "load",V3.lst (List.map J.enc js))])=f2;have q1:f2.lookup ("cells":Str)=some (.lst (cs.map Cl.enc)):=by subst hf2;exact EE (PN rfl)
 have q2:f2.lookup ("load":Str)=some (.lst (js.map J.enc)):=by subst hf2;exact PN (EF (ns:=["cells"]) (by decide+kernel) rfl)
 have n2:f2.length<1000:=by subst hf2;simp
 have m2:f2.map (·.1)=["cells","load"].map Str.ofString:=by subst hf2;rfl
 refine zF (L7 (t:=[]) (y:= .lst (js.map fun j=>.dT (yU cs j))) (Yr js cs (by lia) hj (at_ _ _) q2 q1) rfl n2 (EF (by decide+kernel) m2)) ?_
 generalize hf3:(f2++[(Str.ofString "most",V3.lst (List.map (fun j=>V3.dT (yU cs j)) js))])=f3
 have q13:f3.lookup ("cells":Str)=some (.lst (cs.map Cl.enc)):=by subst hf3;exact EE q1
 have q23:f3.lookup ("load":Str)=some (.lst (js.map J.enc)):=by subst hf3;exact EE q2
 have n3:f3.length<1000:=by subst hf3;subst hf2;simp
 have m3:f3.map (·.1)=["cells","load","most"].map Str.ofString:=by subst hf3;rw[Au,m2];rfl
 refine zF (IB (Yt js cs (by lia) hj (at_ _ _) q23 q13) rfl n3 (EF (by decide+kernel) m3)) ?_
 generalize hf4:(f3++[(Str.ofString "shares",_)])=f4;have q14:f4.lookup ("cells":Str)=some (.lst (cs.map Cl.enc)):=by subst hf4;exact EE q13
 have q24:f4.lookup ("load":Str)=some (.lst (js.map J.enc)):=by subst hf4;exact EE q23
 have n4:f4.length<1000:=by subst hf4;subst hf3;subst hf2;simp
 have m4:f4.map (·.1)=["cells","load","most","shares"].map Str.ofString:=by subst hf4;rw[Au,m3];rfl
 refine zF (IB (Yu (cs:=cs) js hj (at_ _ _) q24) rfl n4 (EF (by decide+kernel) m4)) ?_
 generalize hf5:(f4++[(Str.ofString "missing",_)])=f5;have q15:f5.lookup ("cells":Str)=some (.lst (cs.map Cl.enc)):=by subst hf5;exact EE q14
 have n5:f5.length<1000:=by subst hf5;subst hf4;subst hf3;subst hf2;simp
 have m5:f5.map (·.1)=["cells","load","most","shares","missing"].map Str.ofString:=by subst hf5;rw[Au,m4];rfl
 have g4:f4=f3++[(Str.ofString "shares",.lst ((List.range js.length).map fun k=>.loc (h0.length+1+k)))]:=by rw[<-hf4,As];rfl
 have l5:(h0++C3.ins "Flow" f4::([]++List.map (fun _=>C3.lst (zC cs.length fun _=>0)) js)).length=h0.length+1+js.length:=by simp;lia
 have g5:f5=f4++[(Str.ofString "missing",.loc (h0.length+1+js.length))]:=by rw[<-hf5];exact congrArg (fun n=>f4++[(Str.ofString "missing",V3.loc n)]) l5
 have l6:(h0++C3.ins "Flow" f5::([]++List.map (fun _=>C3.lst (zC cs.length fun _=>0)) js++[.lst (zC js.length (jF cs js).ms)])).length=h0.length+1+(js.length+1):=by simp;lia
 refine zF (h1:=hp h0 cs js (jF cs js) []) ((IB (Yv js cs (by lia) (at_ _ _) q15 hc.one) rfl n5 (EF (by decide+kernel) m5)).trans (by
  rw[l6,Yy];unfold hp;rw[g5,g4,<-hf3,<-hf2];rfl)) ?_
 clear g4 l5 g5 l6 m5 n5 q15 hf5 hf4 m4 n4 q24 q14 m3 n3 q23 q13 hf3 m2 n2 q1 q2 hf2 at_ ec;have nm:=jd (n:=h0.length) (cs:=cs) (js:=js) (m:="take_straight") (by decide+kernel)
 have ns:=jd (n:=h0.length) (cs:=cs) (js:=js) (m:="take_by_ways") (by decide+kernel)
 obtain⟨st1,gd1,e1⟩:=Ya (h0:=h0) (g:=[]) (Yx hj hc)
 refine zF (s1:=[some (.v (.loc h0.length)),some (.v (.lst (js.map J.enc))),some (.v (calV rows rest))]) (h1:=hp h0 cs js st1 []) (by (simp![z9,zG,nm,e1])) ?_
 obtain⟨st2,g2,gd2,mx,e2⟩:=Yq (h0:=h0) (g:=[]) hj.len (by lia) gd1
 refine⟨st2,g2,gd2,mx,?_⟩
 (simp![z9,zG,ns,e2])
end
def Y0 {p:Int×Int} {r:List (Int×Int)} {rest st f l:Int}:Cal.over (p::r) rest st f l=p.2*Cal.cc st (st+p.1-1) f l+Cal.over r rest (st+p.1) f l:=rfl
def Y1 {rest st f l:Int}:Cal.over [] rest st f l=rest*Cal.cc st l f l:=rfl
def PU {rows:List (Int×Int)} {rest:Int} (hr:RwB rows rest) (f l:Int) (h:H3):CC [.lst (rows.map zh),.int rest,.int f,.int l] h=.ok (.v (.int (Cal.over rows rest 0 f l))) h:=by
 show Is h _ _;unfold CC K9 K8
 refine yO rfl ?_
 refine zF (by (simp![])<;>rfl) ?_
 refine zF (by (simp![])<;>rfl) ?_
 refine BK (x:= .lst (rows.map zh)) (l:=rows) (enc:=zh) (by simp![]) rfl (fun i s=> ∃t b x6 x7,s=[some (.v (.lst (rows.map zh))),some (.v (.int rest)),some (.v (.int f)),some (.v (.int l)),some (.v (.int t)),some (.v (.int b)),x6,x7]/\t+Cal.over (rows.drop i) rest b f l=Cal.over rows rest 0 f l) ⟨0,0,none,none,rfl,by simp⟩ ?_ ?_
 .rintro i p s hi ⟨t,b,x6,x7,rfl,hI⟩
  have hp:=hr.one p (Al hi);have c2:∀x,CMul p.2 x:=fun x=>qS ⟨by lia,by lia⟩
  refine⟨_,by (simp![c2])<;>rfl,⟨_,_,_,_,rfl,?_⟩⟩
  rw[jv hi,Y0]at hI;rw[<-hI,show Cal.cc b (b+p.1-1) f l=max 0 (min l (b+p.1-1)-max f b+1) by unfold Cal.cc;rw[Int.min_comm,Fc b f]]
  lia
 .rintro s ⟨t,b,x6,x7,rfl,hI⟩
  have c2:∀x,CMul rest x:=fun x=>qS ⟨by have:=hr.rest;lia,by have:=hr.rest;lia⟩
  rw[Ck,Y1]at hI;rw[show Cal.cc b l f l=max 0 (l-max f b+1) by unfold Cal.cc;rw[Int.min_self,Fc b f]]at hI
  unfold Is;rw[<-hI];simp![c2]
structure SpB (sp:List (Int×Int)):Prop where
 len:sp.length<=63
 one:∀p∈sp,0<=p.1/\p.1<=p.2/\p.2<=10000000000
def inn (sp:List (Int×Int)) (f l:Int):Int:=(sp.map fun s=>Cal.cc s.1 s.2 f l).sum
def cc_b {s:Int×Int} {f l:Int} (h:0<=s.1/\s.1<=s.2/\s.2<=10000000000):0<=Cal.cc s.1 s.2 f l/\Cal.cc s.1 s.2 f l<=20000000000:=by unfold Cal.cc;lia
theorem L8 {α:Type} {g:α->Int} {M:Int}:∀{l:List α},(∀x∈l,0<=g x/\g x<=M)->0<=(l.map g).sum/\(l.map g).sum<=M*(l.length:Int)
 | [],_=>by simp
 |x::r,h=>by
  have h1:=h x Ak;have h2:=L8 (g:=g) (M:=M) (l:=r) fun y hy=>h y (An _ hy)
  rw[Ag,Cq,Az];have:M*((r.length+1:Nat):Int)=M*(r.length:Int)+M:=by rw[Int.natCast_add,Int.mul_add];simp
  lia
def L9 {α:Type} {g:α->Int} {l:List α} (M:Int) (h:∀x∈l,0<=g x/\g x<=M) (hl:M*(l.length:Int)<2 ^ 63):qT 0 (l.map g)=true:=by
 have:=L8 h
 refine J6 (Dl _) (fun x hx=>?_) (by lia)
 obtain⟨y,hy,rfl⟩:=Ai.1 hx;exact (h y hy).1
def Y2 {sp:List (Int×Int)} (hs:SpB sp) (f l:Int):0<=inn sp f l/\inn sp f l<=20000000000*63:=by
 have:=L8 (g:=fun s:Int×Int=>Cal.cc s.1 s.2 f l) (M:=20000000000) (l:=sp) fun s h=>cc_b (hs.one s h)
 have h2:=hs.len;unfold inn;lia
def Y3 {sp:List (Int×Int)} (hs:SpB sp) (f l:Int):qT 0 (sp.map fun s=>Cal.cc s.1 s.2 f l)=true:=
 L9 20000000000 (fun s h=>cc_b (hs.one s h)) (by have:=hs.len;lia)
def Y4 {sp:List (Int×Int)} (hs:SpB sp) (h:H3) (j:J):GL [j.enc,.lst (sp.map zh)] h=.ok (.v (.int (inn sp j.f j.l))) h:=by
 have hc:Ia [some (.v j.enc),some (.v (.lst (sp.map zh)))] h=.ok (.m (.lst ((sp.map fun s=>Cal.cc s.1 s.2 j.f j.l).map .int))) h:=by
  unfold Ia;rw[Av]
  refine CF (x:= .lst (sp.map zh)) (enc:=zh) (fun s=> ∃a b,s=[a,b,some (.v j.enc)]) _ (by (simp![])<;>rfl) rfl (by have:=hs.len;lia) ⟨none,none,rfl⟩ ?_
  rintro p s _ ⟨a,b,rfl⟩
  refine⟨_,_,by (simp![])<;>rfl,⟨_,_,rfl⟩,by (simp![])<;>rfl,?_⟩
  show some (V3.int _)=some (V3.int _)
  congr 2
  show (max 0 (min j.l p.2-max j.f p.1+1):Int)=Cal.cc p.1 p.2 j.f j.l;unfold Cal.cc;rw[Int.min_comm,Fc j.f]
 simp![GL,KH,hc,Lk (Y3 hs j.f j.l),inn]
def exc (sp:List (Int×Int)) (j:J):Int:=max 0 (j.w-j.b*(max 0 (j.l-j.f+1)-inn sp j.f j.l))
def Y5 {sp:List (Int×Int)} (hs:SpB sp) (h:H3) (j:J) (hj:j.Ok):GM [j.enc,.lst (sp.map zh)] h=.ok (.v (.int (exc sp j))) h:=by
 have c:∀x,CMul j.b x:=fun x=>qS ⟨by have:=hj.b;lia,by have:=hj.b;lia⟩
 simp![GM,KJ,Y4 hs,c,exc]
def Y6 {sp:List (Int×Int)} (hs:SpB sp) {j:J} (hj:j.Ok):0<=exc sp j/\exc sp j<=100000000000000:=by
 unfold exc;have h1:=Y2 hs j.f j.l;have h2:=hj.b;have h3:=hj.w;have h4:j.b*(-(20000000000*63))<=j.b*(max 0 (j.l-j.f+1)-inn sp j.f j.l):=G2 (by lia) (by lia)
 lia
def Y7 {sp:List (Int×Int)} (hs:SpB sp) {js:List J} (hj:LoadOk js):qT 0 (js.map (exc sp))=true:=
 L9 100000000000000 (fun j h=>Y6 hs (hj.one j h)) (by have:=hj.len;lia)
def flow (js:List J) (rows:List (Int×Int)) (rest:Int) (sp:List (Int×Int)):Int:=(js.map (exc sp)).sum-(sp.map fun s=>Cal.over rows rest 0 s.1 s.2).sum
def Y8 {rows:List (Int×Int)} {rest:Int} (hr:RwB rows rest) {sp:List (Int×Int)} (hs:SpB sp) {js:List J} (hj:LoadOk js) (h:H3):
  DX [.lst (js.map J.enc),.lst (rows.map zh),.int rest,.lst (sp.map zh)] h=.ok (.v (.int (flow js rows rest sp))) h:=by
 show Is h _ _;have hc:Ib [some (.v (.lst (js.map J.enc))),some (.v (.lst (rows.map zh))),some (.v (.int rest)),some (.v (.lst (sp.map zh))),none,none,none] h=.ok (.m (.lst ((js.map (exc sp)).map .int))) h:=by
  unfold Ib;rw[Av]
  refine CF (x:= .lst (js.map J.enc)) (enc:=J.enc) (fun s=> ∃a,s=[a,some (.v (.lst (sp.map zh)))]) _ (by simp![]) rfl (by have:=hj.len;lia) ⟨none,rfl⟩ ?_
  rintro j s hjm ⟨a,rfl⟩;exact⟨_,_,by (simp![])<;>rfl,⟨_,rfl⟩,by (simp![Y5 hs h j (hj.one j hjm)])<;>rfl,rfl⟩
 unfold DX KM KL
 refine yO rfl ?_
 refine zF (by (simp![hc,Lk (Y7 hs hj)])<;>rfl) ?_
 refine BK (x:= .lst (sp.map zh)) (l:=sp) (enc:=zh) (by simp![]) rfl (fun i s=> ∃t x5 x6,s=[some (.v (.lst (js.map J.enc))),some (.v (.lst (rows.map zh))),some (.v (.int rest)),some (.v (.lst (sp.map zh))),some (.v (.int t)),x5,x6]/\t-((sp.drop i).map fun s=>Cal.over rows rest 0 s.1 s.2).sum=flow js rows rest sp) ⟨_,none,none,rfl,rfl⟩ ?_ ?_
 .rintro i p s hi ⟨t,x5,x6,rfl,hI⟩
  refine⟨_,by (simp![PU hr])<;>rfl,⟨_,_,_,rfl,?_⟩⟩
  rw[jv hi,Ag,Cq]at hI;lia
 .rintro s ⟨t,x5,x6,rfl,hI⟩
  rw[Ck,Bj,List.sum_nil,Int.sub_zero]at hI;subst hI;unfold Is;simp![]
def LA (n:Int) (h:H3):CU [.int n] h=.ok (.v (.bl true)) h:=by
 simp![CU,KD]
def PV {ns:List Int} {n:Int} (h0:∀x∈ns,0<=x/\x<n) (hp:ns.Pairwise (· < ·)) (h:H3):AU [.lst (ns.map .int),.int n] h=.ok (.v (.bl true)) h:=by
 show Is h _ _;unfold AU KP KO
 refine yO rfl ?_
 refine zF (by (simp![])<;>rfl) ?_
 refine zF (by (simp![])<;>rfl) ?_
 refine BK (x:= .lst (ns.map .int)) (l:=ns) (enc:=V3.int) (by simp![]) rfl (fun i s=> ∃t x3,s=[some (.v (.lst (ns.map .int))),some (.v (.int n)),some (.v (.int t)),x3]/\∀x∈ns.drop i,t<x) ⟨-1,none,rfl,fun x hx=>by have:=h0 x (List.mem_of_mem_drop hx);lia⟩ ?_ ?_
 .rintro i p s hi ⟨t,x3,rfl,hI⟩
  have b:=h0 p (Al hi);rw[jv hi]at hI;have a:=hI p Ak;have q:=hp.sublist (List.drop_sublist i ns);rw[jv hi,Cu]at q;have b2:=b.2;exact⟨_,by (simp![LA,a,b2])<;>rfl,⟨_,_,rfl,q.1⟩⟩
 .rintro s ⟨t,x3,rfl,hI⟩
  unfold Is;simp![]
section
variable {h0:H3} {cs:List Cl} {js:List J} {st:Fl.St} {g:H3}
def PX {j c:Nat} (hj:j<js.length) (hc:c<cs.length):BM [.loc h0.length,.int (j:Int),.int (c:Int)] (hp h0 cs js st g)=.ok (.v (.int (st.sh j c))) (hp h0 cs js st g):=by
 have e1:=GU (n:=h0.length) hj;have e2:=hp_r (h0:=h0) (cs:=cs) (js:=js) (st:=st) (g:=g) hj;have e3:=jr (n:=cs.length) (f:=st.sh j) hc;have l:=(qw (n:=h0.length) (cs:=cs) (js:=js)).2.2.2.1;have o2:∀s,zn s (hp h0 cs js st g) (.x (.loc (h0.length+1+j))) (.x (.int (c:Int)))=some (.v (.int (st.sh j c))):=fun s=>by rw[BN e2,e3];rfl
 (simp![BM,KA,ze,zG,yJ,l,e1,o2])
theorem EG (f:Nat->Int):∀n:Nat,((List.range n).map f).sum=Fl.S n f
 |0=>rfl
 |n+1=>by rw[Gf,Au,List.sum_append,EG f n];simp[Fl.S]
def Y9 {s:S3} {h:H3} {n:Nat} {ns:List Int} (e:h[n]? =some (.lst (ns.map .int))) (hs:qT 0 ns=true):yS s h [.x (.loc n)]=some (.v (.int ns.sum)):=by
 unfold yS;simp only[rdl,e,J5,Ac hs]
def YA (hs:qT 0 ((List.range js.length).map st.ms)=true):DY [.loc h0.length] (hp h0 cs js st g)=.ok (.v (.int (Fl.S js.length st.ms))) (hp h0 cs js st g):=by
 have e:=hp_m (h0:=h0) (cs:=cs) (js:=js) (st:=st) (g:=g);have e2:zC js.length st.ms=((List.range js.length).map st.ms).map .int:=by rw[Av];rfl
 rw[e2]at e;have l:=(qw (n:=h0.length) (cs:=cs) (js:=js)).2.2.2.2.1;have e3:=fun s=>Y9 (s:=s) e hs
 rw[EG]at e3
 (simp![DY,KN,ze,zG,yJ,l,e3])
def PY {l:List Nat} (nd:l.Nodup):∃ks:List Nat,AI (l.map fun k:Nat=>(k:Int))=(ks.map fun k:Nat=>(k:Int))/\ks.Pairwise (· < ·)/\∀c,c∈ks↔c∈l:=by
 obtain⟨pm,pw⟩:=AJ (l.map fun k:Nat=>(k:Int))
 have nn:∀x∈AI (l.map fun k:Nat=>(k:Int)),∃k∈l,x=((k:Nat):Int):=fun x hx=>by
  obtain⟨k,hk,e⟩:=Ai.mp (pm.mem_iff.mp hx);exact⟨k,hk,e.symm⟩
 have nd2:(AI (l.map fun k:Nat=>(k:Int))).Nodup:=pm.nodup_iff.mpr (Dq.mpr (nd.imp fun h e=>h (by lia)))
 refine⟨(AI (l.map fun k:Nat=>(k:Int))).map Int.toNat,?_,?_,fun c=>?_⟩
 .rw[Av]
  have:∀m:List Int,(∀x∈m,∃k∈l,x=((k:Nat):Int))->m=m.map ((fun k:Nat=>(k:Int))∘Int.toNat):=fun m hm=>by
   conv=>lhs;rw[<-List.map_id m]
   refine Dh fun x hx=>?_
   obtain⟨k,_,rfl⟩:=hm x hx;simp
  exact this _ nn
 .refine Dq.mpr ?_
  have:=List.Pairwise.and pw nd2
  refine this.imp_of_mem fun {a b} ha hb h=>?_
  obtain⟨k,_,rfl⟩:=nn a ha;obtain⟨m,_,rfl⟩:=nn b hb;have:=h.1;have:=h.2;show k<m;lia
 .rw[Ai]
  constructor
  .rintro⟨x,hx,rfl⟩
   obtain⟨k,hk,rfl⟩:=nn x hx;simpa using hk
  .intro h
   exact⟨(c:Int),pm.mem_iff.mpr (Ai.mpr ⟨c,h,rfl⟩),by simp⟩
theorem LB {β:Type} {f:β->V3}:∀l:List (Nat×β),zB intK ((l.map fun p=>(ik p.1,f p.2)).map (·.1))=some ((l.map (·.1)).map fun k:Nat=>(k:Int))
 | []=>rfl
 |p::r=>by
  rw[Ag,Ag];unfold zB;rw[LB r];rfl
def YB (h0:H3) (cs:List Cl) (js:List J) (st:Fl.St) (R:Res Vl):Prop:=∃(ks ls:List Nat) (ja:List (Nat×Nat)) (ca:List (Nat×Option Nat)) (g':H3),Fl.Tree (fd cs js) st ja ca/\Fl.Closed (fd cs js) st ja ca/\ks.Pairwise (· < ·)/\ls.Pairwise (· < ·)/\(∀c,c∈ks↔c∈Fl.kc ja)/\(∀j,j∈ls↔j∈Fl.kj ca)/\R=.ok (.v (.tup [.lst (ks.map zf),.lst (ls.map zf)])) (hp h0 cs js st g')
def LC:∀{n:Nat} {l:List Nat},l.Nodup->(∀x∈l,x<n)->l.length<=n:=fun {n l} nd h=>by
 have:=Bd.len_sub (l:=l.map fun k:Nat=>(k:Int)) (m:=(List.range n).map fun k:Nat=>(k:Int)) (Dq.mpr (nd.imp fun h e=>h (by lia))) fun x hx=>by
  obtain⟨k,hk,rfl⟩:=Ai.mp hx;exact Ai.mpr ⟨k,Bh.mpr (h k hk),rfl⟩
 simpa using this
def YC (hl:js.length<=12) (hcl:cs.length<=63):YB h0 cs js st (DU [.loc h0.length] (hp h0 cs js st g)):=by
 unfold DU Kv
 refine yO rfl ?_
 have nm:=jd (n:=h0.length) (cs:=cs) (js:=js) (m:="reached") (by decide+kernel)
 obtain⟨ja,ca,T,C,e⟩:=PH (h0:=h0) (cs:=cs) (js:=js) (st:=st) (g:=g) hl (by lia)
 refine zF (s1:=[some (.v (.loc h0.length)),some (.v (.loc (bq h0 js g+1)))]) (h1:=hp h0 cs js st (gr g (bq h0 js g) [] ja ca)) (by (simp![z9,zG,nm,e])) ?_
 obtain⟨ks,k1,k2,k3⟩:=PY T.nc;obtain⟨ls,l1,l2,l3⟩:=PY T.nj
 refine⟨ks,ls,ja,ca,gr g (bq h0 js g) [] ja ca,T,C,k2,l2,k3,l3,?_⟩
 have nk:(Fl.kc ja).length<=cs.length:=LC T.nc fun x hx=>by
  obtain⟨p,hp,rfl⟩:=Ai.mp hx;exact (T.cj p hp).1
 have nl:(Fl.kj ca).length<=js.length:=LC T.nj fun x hx=>by
  obtain⟨p,hp,rfl⟩:=Ai.mp hx;exact (T.jc p hp).1
 have s1:∀s,CA s (hp h0 cs js st (gr g (bq h0 js g) [] ja ca)) [.x (.loc (bq h0 js g+2))]=some (.m (.lst (ks.map zf))):=fun s=>by
  have e1:yV s (hp h0 cs js st (gr g (bq h0 js g) [] ja ca)) (.x (.loc (bq h0 js g+2)))=some (.t (yt ja)):=by unfold yV;simp only[g_a];rfl
  unfold CA;simp only[e1,LB];rw[Ac (by rw[Ae];exact Nat.lt_of_le_of_lt nk (by lia)),k1,Av];rfl
 have s2:∀s,CA s (hp h0 cs js st (gr g (bq h0 js g) [] ja ca)) [.x (.loc (bq h0 js g+3))]=some (.m (.lst (ls.map zf))):=fun s=>by
  have e1:yV s (hp h0 cs js st (gr g (bq h0 js g) [] ja ca)) (.x (.loc (bq h0 js g+3)))=some (.t (yM ca)):=by unfold yV;simp only[g_b];rfl
  unfold CA;simp only[e1,LB];rw[Ac (by rw[Ae];exact Nat.lt_of_le_of_lt nl (by lia)),l1,Av];rfl
 (simp![ze,insR,AW,lkR,s1,s2])
end
section
variable {h0:H3} {cs:List Cl} {js:List J} {st:Fl.St} {g:H3} {rows:List (Int×Int)} {rest:Int}
structure CsUp (cs:List Cl):Prop where
 one:∀c∈cs,0<=c.f/\c.f<=c.l/\c.l<=10000000000/\0<=c.m/\c.m<=16
 up:∀i k,i<k->k<cs.length->(zM cs i).l<(zM cs k).f
def Ov (cs:List Cl) (rows:List (Int×Int)) (rest:Int):Prop:=∀c,c<cs.length->Cal.over rows rest 0 (zM cs c).f (zM cs c).l=(zM cs c).m*clen cs c
def YD (hc:CsUp cs) {c:Nat} (h:c<cs.length):(fd cs js).cap c<=200000000000:=by
 have a:=hc.one _ (CI h);show (zM cs c).m*clen cs c<=_;have b:clen cs c<=10000000001:=by unfold clen;lia
 have d:0<=clen cs c:=by unfold clen;lia
 have:=Int.mul_le_mul a.2.2.2.2 b d (by lia)
 lia
def YE (hc:CsUp cs) (gd:Fl.Good (fd cs js) st) {c:Nat} (h:c<cs.length):qT 0 ((List.range js.length).map fun j=>st.sh j c)=true:=by
 refine J6 (Dl _) (fun x hx=>?_) ?_
 .obtain⟨j,hj,rfl⟩:=Ai.mp hx
  exact gd.lo j c (Bh.mp hj) h
 .rw[EG]
  have a:=gd.col c h;have b:=gd.sp c h;have d:=YD (js:=js) hc h;have e:Fl.S (fd cs js).nJ (fun j=>st.sh j c)=Fl.S js.length (fun j=>st.sh j c):=rfl
  lia
def YF (hl:js.length<=12) {c:Nat} (h:c<cs.length) {a b d e x6 x7 x8:Option Vl}:DV [some (.v (.loc h0.length)),some (.v (.lst (js.map J.enc))),b,d,e,some (.v (.int (c:Int))),x6,x7,x8] (hp h0 cs js st g)=.ok (.m (.lst (((List.range js.length).map fun j=>st.sh j c).map .int))) (hp h0 cs js st g):=by
 unfold DV;rw[Av];have nm:=jd (n:=h0.length) (cs:=cs) (js:=js) (m:="share") (by decide+kernel)
 have:=Lj (n:=1) (fr:=[5,0]) (a:=(aCons (pE (eB bLen (aCons (pV 1) aNil))) aNil)) (g:=gN 0) (e:=(z9 ("Flow" :Str) ("share" :Str) BM (pV 2) (aCons (pV 0) (aCons (pV 1) aNil)))) (s:=[some (.v (.loc h0.length)),some (.v (.lst (js.map J.enc))),b,d,e,some (.v (.int (c:Int))),x6,x7,x8]) (h:=hp h0 cs js st g) (j:=(js.length:Int)) (fun s=> ∃y,s=[y,some (.v (.int (c:Int))),some (.v (.loc h0.length))]) (fun j=>V3.int (st.sh j c)) (by (simp![Ae])<;>rfl) (by lia) ⟨none,rfl⟩ (by
  rintro k s hk ⟨y,rfl⟩;have hk':k<js.length:=by rwa [Bp]at hk
  exact⟨_,_,by (simp![])<;>rfl,⟨_,rfl⟩,by (simp![z9,zG,nm,PX hk' h])<;>rfl,rfl⟩)
 rw[Bp]at this;exact this
def lwB:D3:=(sSeq (sAsg (gT (gsCons (gN 6) (gsCons (gN 7) (gsCons (gN 8) gsNil)))) (eOp zn (pE (ze [("Flow" :Str)] ("cells" :Str) (pV 0))) (pV 5))) (sSeq (sIf (tOr3 (tE (eOp je (pV 6) (pV 4))) (tE (eOp qN (pV 7) (pV 6)))) (sRet (eC (.bl false))) sSkip) (sSeq (sSet 4 (eV 7)) (sIf (tE (eOp qx (pE (eB yS (aCons (pE DV) aNil))) (pE (eCall CC (aCons (pV 2) (aCons (pV 3) (aCons (pV 6) (aCons (pV 7) aNil)))))))) (sRet (eC (.bl false))) sSkip))))
def YG {H:H3} {n:Nat} {ld rw_:V3} {rest t I F L M K0 S0:Int} {xs ys:List V3} {fs:List (Str×V3)} (hf:y9 H (.x (.loc n))=some (("Flow" :Str),fs)) (lc:fs.lookup ("cells":Str)=some (.lst xs)) (e1:atI xs I=some (.tup [.int F,.int L,.int M])) (a1: ¬F<=t) (a2: ¬L<F)
  (e2:∀x6 x7 x8 b d e:Option Vl,DV [some (.v (.loc n)),some (.v ld),b,d,e,some (.v (.int I)),x6,x7,x8] H=.ok (.m (.lst ys)) H) (e3:∀s,yS s H [.x (.lst ys)]=some (.v (.int S0))) (e4:∀h,CC [rw_,.int rest,.int F,.int L] h=.ok (.v (.int K0)) h) (a3: ¬K0<S0) (x5 x6 x7 x8:Option Vl):
  gb (gN 5) lwB (.int I) [some (.v (.loc n)),some (.v ld),some (.v rw_),some (.v (.int rest)),some (.v (.int t)),x5,x6,x7,x8] H=.nx [some (.v (.loc n)),some (.v ld),some (.v rw_),some (.v (.int rest)),some (.v (.int L)),some (.v (.int I)),some (.v (.int F)),some (.v (.int L)),some (.v (.int M))] H:=by
 unfold lwB
 (simp![ze,hf,yJ,lc,e1,a1,a2,e2,e3,e4,a3])
def YH (hl:js.length<=12) (hcl:cs.length<=63) (hc:CsUp cs) (ho:Ov cs rows rest) (hr:RwB rows rest) (gd:Fl.Good (fd cs js) st):DW [.loc h0.length,.lst (js.map J.enc),.lst (rows.map zh),.int rest] (hp h0 cs js st g)=.ok (.v (.bl true)) (hp h0 cs js st g):=by
 show Is _ _ _;unfold DW KC KB
 refine yO rfl ?_
 refine zF (by (simp![])<;>rfl) ?_
 have lc:=(qw (n:=h0.length) (cs:=cs) (js:=js)).1
 refine DN (j:=(cs.length:Int)) (by (simp![ze,zG,yJ,lc,Ae])<;>rfl) (by lia) (fun i s=> ∃t x5 x6 x7 x8,s=[some (.v (.loc h0.length)),some (.v (.lst (js.map J.enc))),some (.v (.lst (rows.map zh))),some (.v (.int rest)),some (.v (.int t)),x5,x6,x7,x8]/\∀k,i<=k->k<cs.length->t<(zM cs k).f) ⟨-1,none,none,none,none,rfl,fun k _ hk=>by have:=hc.one _ (CI hk);lia⟩ ?_ ?_
 .rintro i s hi ⟨t,x5,x6,x7,x8,rfl,hI⟩
  have hi':i<cs.length:=by rwa [Bp]at hi
  have b:=hc.one _ (CI hi');have a1: ¬(zM cs i).f<=t:=by have:=hI i (Ah i) hi';lia
  have a2: ¬(zM cs i).l<(zM cs i).f:=by lia
  have e1:=Iv hi';have e2:=fun (x6 x7 x8 b d e:Option Vl)=>YF (h0:=h0) (cs:=cs) (js:=js) (st:=st) (g:=g) hl hi' (a:=none) (b:=b) (d:=d) (e:=e) (x6:=x6) (x7:=x7) (x8:=x8)
  have e3:=fun s=>Lk (s:=s) (h:=hp h0 cs js st g) (YE hc gd hi')
  have e4:=PU hr (zM cs i).f (zM cs i).l;rw[ho i hi']at e4;have a3: ¬(zM cs i).m*clen cs i<((List.range js.length).map fun j=>st.sh j i).sum:=by
   rw[EG];have a:=gd.col i hi';have b:=gd.sp i hi';have e:Fl.S (fd cs js).nJ (fun j=>st.sh j i)=Fl.S js.length (fun j=>st.sh j i):=rfl
   have e':(fd cs js).cap i=(zM cs i).m*clen cs i:=rfl;lia
  exact⟨_,YG zG lc e1 a1 a2 (fun x6 x7 x8 b d e=>e2 x6 x7 x8 b d e) e3 e4 a3 x5 x6 x7 x8,⟨_,_,_,_,_,rfl,fun k hk hk2=>hc.up i k (by lia) hk2⟩⟩
 .rintro s ⟨t,x5,x6,x7,x8,rfl,_⟩
  unfold Is;simp![]
end
section
variable {h0:H3} {cs:List Cl} {js:List J} {st:Fl.St} {g:H3} {rows:List (Int×Int)} {rest:Int}
def dnB:D3:=(sSeq (sSet 5 (z9 ("Flow" :Str) ("share" :Str) BM (pV 0) (aCons (pV 2) (aCons (pV 4) aNil)))) (sSeq (sAsg (gT (gsCons (gN 6) (gsCons (gN 7) (gsCons (gN 8) gsNil)))) (eOp zn (pE (ze [("Flow" :Str)] ("cells" :Str) (pV 0))) (pV 4))) (sSeq (sFz 5) (sSeq (sIf (tOr3 (tNot3 (tE (eCall CU (aCons (pV 5) aNil)))) (tOr3 (tE (eOp qN (pV 5) (kJ 0))) (tE (eOp qx (pV 5) (pE (eOp zW (pE (eOp zn (pE (eOp zn (pV 1) (pV 2))) (kJ 4))) (pE (eOp zy (pE (eOp zL (pV 7) (pV 6))) (kJ 1))))))))) (sRet (eC .non)) sSkip) (sSeq (sIf (tAnd3 (tE (eOp qx (pV 5) (kJ 0))) (tOr3 (tE (eOp qN (pV 6) (pE (eOp zn (pE (eOp zn (pV 1) (pV 2))) (kJ 1))))) (tE (eOp qx (pV 7) (pE (eOp zn (pE (eOp zn (pV 1) (pV 2))) (kJ 2))))))) (sRet (eC .non)) sSkip) (sSet 3 (eOp zy (pV 3) (pV 5))))))))
def YI {H:H3} {n:Nat} {t I K F L M x jf jl jw jb:Int} {jn:V3} {xs ls:List V3} {fs:List (Str×V3)} (hf:y9 H (.x (.loc n))=some (("Flow" :Str),fs)) (lc:fs.lookup ("cells":Str)=some (.lst xs)) (nm:fs.lookup ("share":Str)=none) (e1:atI xs I=some (.tup [.int F,.int L,.int M])) (e2:atI ls K=some (.tup [jn,.int jf,.int jl,.int jw,.int jb])) (es:BM [.loc n,.int K,.int I] H=.ok (.v (.int x)) H) (cm:∀y,CMul jb y)
  (a1: ¬x<0) (a2: ¬jb*(L-F+1)<x) (a3:0<x->¬F<jf/\¬jl<L) (x4 x5 x6 x7 x8:Option Vl):
  gb (gN 4) dnB (.int I) [some (.v (.loc n)),some (.v (.lst ls)),some (.v (.int K)),some (.v (.int t)),x4,x5,x6,x7,x8] H=.nx [some (.v (.loc n)),some (.v (.lst ls)),some (.v (.int K)),some (.v (.int (t+x))),some (.v (.int I)),some (.v (.int x)),some (.v (.int F)),some (.v (.int L)),some (.v (.int M))] H:=by
 unfold dnB
 by_cases h:0<x
 .obtain⟨b1,b2⟩:=a3 h
  (simp![z9,ze,hf,yJ,lc,nm,e1,e2,es,cm,LA,a1,a2,h,b1,b2])
 ·(simp![z9,ze,hf,yJ,lc,nm,e1,e2,es,cm,LA,a1,a2,h])
def PZ {k:Nat} (h:k<js.length):atI (js.map J.enc) (k:Int)=some (zN js k).enc:=atL (GT h)
def YJ (hj:LoadOk js) (hcl:cs.length<=63) (hc:CsUp cs) (gd:Fl.Good (fd cs js) st) {j:Nat} (hjl:j<js.length):CV [.loc h0.length,.lst (js.map J.enc),.int (j:Int)] (hp h0 cs js st g)=.ok (.v (.int (Fl.S cs.length (st.sh j)))) (hp h0 cs js st g):=by
 show Is _ _ _;unfold CV KG KF
 refine yO rfl ?_
 refine zF (by (simp![])<;>rfl) ?_
 have lc:=(qw (n:=h0.length) (cs:=cs) (js:=js)).1;have nm:=jd (n:=h0.length) (cs:=cs) (js:=js) (m:="share") (by decide+kernel)
 have jo:=hj.one _ (GW hjl)
 refine DN (j:=(cs.length:Int)) (by (simp![ze,zG,yJ,lc,Ae])<;>rfl) (by lia) (fun i s=> ∃x4 x5 x6 x7 x8,s=[some (.v (.loc h0.length)),some (.v (.lst (js.map J.enc))),some (.v (.int (j:Int))),some (.v (.int (Fl.S i (st.sh j)))),x4,x5,x6,x7,x8]) ⟨none,none,none,none,none,rfl⟩ ?_ ?_
 .rintro i s hi ⟨x4,x5,x6,x7,x8,rfl⟩
  have hi':i<cs.length:=by rwa [Bp]at hi
  have b:=hc.one _ (CI hi');have lo:0<=st.sh j i:=gd.lo j i hjl hi';have cl:1<=(zM cs i).l-(zM cs i).f+1:=by lia
  have jb:=jo.b;have hm:(fd cs js).win j i=true->st.sh j i<=(zN js j).b*((zM cs i).l-(zM cs i).f+1):=fun w=>gd.hi j i hjl hi' w
  have h0':(fd cs js).win j i=false->st.sh j i=0:=fun w=>gd.off j i hjl hi' w
  have a2: ¬(zN js j).b*((zM cs i).l-(zM cs i).f+1)<st.sh j i:=by
   cases w:(fd cs js).win j i with
   |true=>have:=hm w;lia
   |false=>
    have:=h0' w;have:=E9 (a:=(zN js j).b) (b:=(zM cs i).l-(zM cs i).f+1) (by lia) (by lia)
    lia
  have a3:0<st.sh j i->¬(zM cs i).f<(zN js j).f/\¬(zN js j).l<(zM cs i).l:=fun hx=>by
   cases w:(fd cs js).win j i with
   |true=>
    have w':wn cs (zN js j) i=true:=w;unfold wn at w';simp only[Be,Bz]at w';lia
   |false=>have:=h0' w;lia
  exact⟨_,YI zG lc nm (Iv hi') (PZ hjl) (PX hjl hi') (fun y=>qS ⟨by lia,by lia⟩) (by lia) a2 a3 x4 x5 x6 x7 x8,⟨_,_,_,_,_,rfl⟩⟩
 .rintro s ⟨x4,x5,x6,x7,x8,rfl⟩
  unfold Is;rw[Bp];simp![]
end
section
variable {js:List J} {rows R:List (Int×Int)} {rest:Int}
def Qa {c:Nat} (h:c<(yr js R rest).length):∃p∈Bd.prs (Bd.srt (yx R js)),qE js p.1=true/\zM (yr js R rest) c=⟨p.1,p.2-1,Cal.at_ R rest p.1⟩:=by
 have:=CI h;unfold yr at this;obtain⟨p,hp,e⟩:=Ai.mp this;obtain⟨h1,h2⟩:=Br.mp hp;exact⟨p,h1,h2,e.symm⟩
def LD (hj:LoadOk js) {x:Int} (h:x∈Bd.srt (yx R js)):0<=x/\x<=10000000001:=by
 obtain⟨j,hm,hf,k⟩:=bdL_mem.mp ((Bd.srt_mem _ _).mp h);have o:=hj.one j hm;have:=o.f;have:=o.l;lia
def YK (hj:LoadOk js) (hm:∀t,0<=Cal.at_ R rest t/\Cal.at_ R rest t<=16):CsUp (yr js R rest) where
 one c hc:=by
  obtain⟨p,hp,rfl⟩:=Ai.mp hc;obtain⟨h1,h2⟩:=Br.mp hp;have a:=Bd.prs_up (Bd.srt_up _) p h1;have b:=LD hj a.2.1;have d:=LD hj a.2.2.1;have e:=hm p.1
  refine⟨b.1,?_,?_,e.1,e.2⟩
  .show p.1<=p.2-1;lia
  .show p.2-1<=_;lia
 up i k hik hk:=by
  have a:(yr js R rest).Pairwise (fun x y=>x.l<y.f):=by
   unfold yr
   refine Dq.mpr (((Bd.prs_rise (Bd.srt_up _)).sublist Er).imp fun {p q} h=>?_)
   show p.2-1<q.1;lia
  have b:=Gw.mp a i k (by lia) hk hik
  have e1:zM (yr js R rest) i=(yr js R rest)[i]:=by unfold zM;rw[B1,zK (by lia)];rfl
  have e2:zM (yr js R rest) k=(yr js R rest)[k]:=by unfold zM;rw[B1,zK hk];rfl
  rw[e1,e2];exact b
def YL {t:Int} (h:qE js t=true):∃j∈js,j.f<=t/\t<=j.l:=by
 unfold qE at h;obtain⟨j,hj,e⟩:=Dg.mp h;simp only[Be,Bz]at e;exact⟨j,hj,e⟩
def LF {j:J} (hj:j∈js) (h:j.f<=j.l):j.f∈Bd.srt (yx R js)/\j.l+1∈Bd.srt (yx R js)/\∀s∈Cal.stops R 0,j.f<s->s<=j.l->s∈Bd.srt (yx R js):=
 ⟨(Bd.srt_mem _ _).mpr (bdL_mem.mpr ⟨j,hj,h,.inl rfl⟩),(Bd.srt_mem _ _).mpr (bdL_mem.mpr ⟨j,hj,h,.inr (.inl rfl)⟩),fun s hs a b=>(Bd.srt_mem _ _).mpr (bdL_mem.mpr ⟨j,hj,h,.inr (.inr ⟨hs,a,b⟩)⟩)⟩
def YM (hR:Cal.Pos R) (hj:LoadOk js):Ov (yr js R rest) R rest:=fun c hc=>by
 obtain⟨p,hp,hw,e⟩:=Qa hc;obtain⟨j,hjm,h1,h2⟩:=YL hw;have a:=Bd.prs_up (Bd.srt_up _) p hp;obtain⟨_,b2,b3⟩:=LF (R:=R) hjm (by lia)
 have b:=LD hj a.2.1;have d:p.2<=j.l+1:=by have:=a.2.2.2 _ b2;lia
 unfold clen;rw[e];show Cal.over R rest 0 p.1 (p.2-1)=Cal.at_ R rest p.1*(p.2-1-p.1+1);rw[Bd.over_const R rest 0 p.1 (p.2-1) (Cal.at_ R rest p.1) hR fun t _ h3 h4=>?_]
 .congr 1;lia
 .rw[Int.sub_zero]
  refine Bd.at_same R rest 0 p.1 t hR h3 fun s hs=>?_
  rw[Int.add_zero,Int.add_zero]
  by_cases k:s<=p.1
  .exact .inl k
  .by_cases k2:t<s
   .exact .inr k2
   .have:=a.2.2.2 s (b3 s hs (by lia) (by lia))
    lia
def YN (hr:RwB rows rest) {cs:List Cl} (h:Ov cs (Cal.kform rest rows) rest):Ov cs rows rest:=fun c hc=>by
 have hp:Cal.Pos rows:=fun p h=>(hr.one p h).1
 rw[<-h c hc,Cal.over_ahead _ _ _ _ _ (Cal.kform_pos rest rows hp),Cal.over_ahead _ _ _ _ _ hp,Cal.kform_ahead _ _ _ hp,Cal.kform_ahead _ _ _ hp]
def YO {j:J} (hj:j∈js) {c:Nat} (hc:c<(yr js R rest).length):Cal.cc (zM (yr js R rest) c).f (zM (yr js R rest) c).l j.f j.l=if wn (yr js R rest) j c=true then clen (yr js R rest) c else 0:=by
 obtain⟨p,hp,hw,e⟩:=Qa hc;have a:=Bd.prs_up (Bd.srt_up _) p hp;unfold wn clen;rw[e];simp only[Be,Bz]
 by_cases h:j.f<=j.l
 .obtain⟨b1,b2,_⟩:=LF (R:=R) hj h
  have c1:=a.2.2.2 _ b1;have c2:=a.2.2.2 _ b2;unfold Cal.cc
  split<;>lia
 .rw[Ab (by lia)]
  unfold Cal.cc;lia
theorem Qb {α:Type} {q r:α->Bool} {v:α->Int}:∀{l:List α},(∀x∈l,r x=true->q x=true)->((l.filter q).map fun x=>if r x=true then v x else 0).sum=((l.filter r).map v).sum
 | [],_=>rfl
 |x::l,h=>by
  have ih:=Qb (q:=q) (r:=r) (v:=v) (l:=l) fun y hy=>h y (An _ hy)
  have hx:=h x Ak;cases hr:r x with
  |true=>
   rw[Ep (hx hr),Ep hr,Ag,Ag,Cq,Cq,ih,Ac hr]
  |false=>
   rw[D4 (p:=r) (by rw[hr];decide)]
   cases hq:q x with
   |true=>rw[Ep hq,Ag,Cq,ih,Ab (by rw[hr];decide),Dk]
   |false=>rw[D4 (by rw[hq];decide),ih]
def YQ {cs:List Cl} (f:Cl->Int):Fl.S cs.length (fun c=>f (zM cs c))=(cs.map f).sum:=by
 rw[<-EG]
 congr 1
 apply Dn
 .simp
 .intro i h1 h2
  have hi:i<cs.length:=by simpa using h2
  simp[zM,B1,zK hi]
def YR {j:J} (hj:j∈js):Fl.S (yr js R rest).length (fun c=>if wn (yr js R rest) j c=true then clen (yr js R rest) c else 0)=max 0 (j.l-j.f+1):=by
 have e:=YQ (cs:=yr js R rest) fun c=>if (decide (j.f<=c.f) && decide (c.l<=j.l))=true then c.l-c.f+1 else 0
 have e0:Fl.S (yr js R rest).length (fun c=>if wn (yr js R rest) j c=true then clen (yr js R rest) c else 0)=((yr js R rest).map fun c=>if (decide (j.f<=c.f) && decide (c.l<=j.l))=true then c.l-c.f+1 else 0).sum:=e
 rw[e0]
 by_cases h:j.f<=j.l
 .obtain⟨b1,b2,_⟩:=LF (R:=R) hj h
  have k:=Bd.prs_sum (Bd.srt_up (yx R js)) b1 b2 (by lia)
  unfold yr;rw[Av];have f:=Qb (q:=fun p:Int×Int=>qE js p.1) (r:=fun p:Int×Int=>decide (j.f<=p.1) && decide (p.2<=j.l+1)) (v:=fun p=>p.2-p.1) (l:=Bd.prs (Bd.srt (yx R js))) fun p hp h2=>by
   simp only[Be,Bz]at h2;have a:=Bd.prs_up (Bd.srt_up _) p hp;unfold qE;exact Dg.mpr ⟨j,hj,by simp only[Be,Bz];lia⟩
  rw[k]at f;rw[show max 0 (j.l-j.f+1)=j.l+1-j.f by lia,<-f]
  congr 1
  refine Dh fun p _=>?_
  simp only[Function.comp,Be,Bz]
  by_cases z:j.f<=p.1/\p.2<=j.l+1
  .rw[Ac z,Ac (by lia)];lia
  .rw[Ab z,Ab (by lia)]
 .have z:∀l:List Cl,(∀c∈l,c.f<=c.l)->(l.map fun c=>if (decide (j.f<=c.f) && decide (c.l<=j.l))=true then c.l-c.f+1 else 0).sum=0:=fun l hl=>by
   induction l with
   |nil=>rfl
   |cons c r ih=>
    have:=hl c Ak;rw[Ag,Cq,ih fun d hd=>hl d (An _ hd),Ab]
    .rfl
    .simp only[Be,Bz];lia
  rw[z _ fun c hc=>by
   obtain⟨p,hp,rfl⟩:=Ai.mp hc;have a:=Bd.prs_up (Bd.srt_up _) p (Br.mp hp).1;show p.1<=p.2-1;lia]
  lia
end
section
variable {h0:H3} {cs:List Cl} {js:List J} {st:Fl.St} {g:H3} {rows:List (Int×Int)} {rest:Int}
def ltB:D3:=(sSeq (sFz 4) (sSeq (sFz 5) (sSeq (sSet 8 (eCall CV (aCons (pV 5) (aCons (pV 4) (aCons (pV 7) aNil))))) (sSeq (sIf (tOr3 (tE (eOp (oIsN false) (pV 8) (pE (eC .non)))) (tE (eOp qx (pV 8) (pE (eOp zn (pE (eOp zn (pV 4) (pV 7))) (kJ 3)))))) (sRet (eC (.bl false))) sSkip) (sSet 6 (eOp zL (pE (eOp zy (pV 6) (pE (eOp zn (pE (eOp zn (pV 4) (pV 7))) (kJ 3))))) (pV 8)))))))
def ltR:D3:=(sSeq (sFz 4) (sSeq (sFz 5) (sSeq (sIf (tNot3 (tE (eCall DW (aCons (pV 5) (aCons (pV 4) (aCons (pV 1) (aCons (pV 2) aNil))))))) (sRet (eC (.bl false))) sSkip) (sSeq (sSet 6 (eC (.int 0))) (sSeq Ic (sSeq (sSet 9 (z9 ("Flow" :Str) ("cut" :Str) DU (pV 5) aNil)) (sSeq (sIf (tOr3 (tNot3 (tE (eB bIsT (aCons (pV 9) (aCons (pE (eC (.ty "tuple"))) aNil))))) (tOr3 (tE (eOp oNe (pE (eB bLen (aCons (pV 9) aNil))) (kJ 2))) (tE (eOp oNe (pE (z9 ("Flow" :Str) ("lacking" :Str) DY (pV 5) aNil)) (pV 6))))) (sRet (eC (.bl false))) sSkip) (sSeq (sIf (tOr3 (tNot3 (tE (eCall AU (aCons (pE (eOp zn (pV 9) (kJ 0))) (aCons (pE (eB bLen (aCons (pE (ze [("Flow" :Str)] ("cells" :Str) (pV 5))) aNil))) aNil))))) (tNot3 (tE (eCall AU (aCons (pE (eOp zn (pV 9) (kJ 1))) (aCons (pE (eB bLen (aCons (pV 4) aNil))) aNil)))))) (sRet (eC (.bl false))) sSkip) (sSeq (sIf (tE (eOp y8 (pV 6) (kJ 0))) (sRet (eOp y8 (pV 9) (pE (eTup (aCons (pE (eLst aNil)) (aCons (pE (eLst aNil)) aNil)))))) sSkip) (sSeq (sFz 5) (sSeq (sSet 10 GN) (sSeq (sFz 10) (sSeq (sFz 4) (sRet (eOp y8 (pE (eCall DX (aCons (pV 4) (aCons (pV 1) (aCons (pV 2) (aCons (pV 10) aNil)))))) (pV 6))))))))))))))))
def YS {H:H3} {n:Nat} {t K d w jf jl jb:Int} {jn:V3} {ls:List V3} {a0 a1 a2 a3:Option Vl} (ed:CV [.loc n,.lst ls,.int K] H=.ok (.v (.int d)) H) (e2:atI ls K=some (.tup [jn,.int jf,.int jl,.int w,.int jb])) (hd: ¬w<d) (x7 x8 x9 x10:Option Vl):
  gb (gN 7) ltB (.int K) [a0,a1,a2,a3,some (.v (.lst ls)),some (.v (.loc n)),some (.v (.int t)),x7,x8,x9,x10] H=.nx [a0,a1,a2,a3,some (.v (.lst ls)),some (.v (.loc n)),some (.v (.int (t+w-d))),some (.v (.int K)),some (.v (.int d)),x9,x10] H:=by
 unfold ltB
 (simp![ed,e2,hd])
end
section
variable {cs:List Cl} {js:List J} {st:Fl.St} {rows:List (Int×Int)} {rest:Int} {ja:List (Nat×Nat)} {ca:List (Nat×Option Nat)}
theorem LG {n:Nat} {f:Nat->Int}:∀{ks:List Nat},ks.Nodup->(∀k∈ks,k<n)->(ks.map f).sum=Fl.S n (fun c=>if c∈ks then f c else 0)
 | [],_,_=>by
  rw[Fl.S_congr (g:=fun _=>0) fun c _=>Ab (by simp),Fl.S_zero];rfl
 |k::r,nd,h=>by
  have ih:=LG (f:=f) (Bi.mp nd).2 fun x hx=>h x (An _ hx)
  have hk:=(Bi.mp nd).1;rw[Ag,Cq,ih,Fl.S_congr (f:=fun c=>if c∈k::r then f c else 0) (g:=fun c=>(if c=k then f k else 0)+(if c∈r then f c else 0)) fun c _=>by
   by_cases e:c=k
   .subst e
    rw[Ac Ak,Ac rfl,Ab hk,Int.add_zero]
   .rw[Ab e,Dk]
    by_cases m:c∈r
    .rw[Ac m,Ac (An _ m)]
    .rw[Ab m,Ab (by rw[Af];exact fun z=>z.elim e m)],Fl.S_add,Fl.S_at (h k Ak)]
def YT (f:J->Int):Fl.S js.length (fun j=>f (zN js j))=(js.map f).sum:=by
 rw[<-EG]
 congr 1
 apply Dn
 .simp
 .intro i h1 h2
  have hi:i<js.length:=by simpa using h2
  simp[zN,B1,zK hi]
abbrev spn (cs:List Cl) (c:Nat):Int×Int:=((zM cs c).f,(zM cs c).l)
def YU (gd:Fl.Good (fd cs js) st) (mx:Max (fd cs js) st) (T:Fl.Tree (fd cs js) st ja ca) (C:Fl.Closed (fd cs js) st ja ca) (ho:Ov cs rows rest)
  (hcc:∀j∈js,∀c,c<cs.length->Cal.cc (zM cs c).f (zM cs c).l j.f j.l=if wn cs j c=true then clen cs c else 0)
  (htot:∀j∈js,Fl.S cs.length (fun c=>if wn cs j c=true then clen cs c else 0)=max 0 (j.l-j.f+1))
  {ks:List Nat} (nd:ks.Nodup) (hk:∀c,c∈ks↔c∈Fl.kc ja):flow js rows rest (ks.map (spn cs))=Fl.S js.length st.ms:=by
 have lt:∀c∈ks,c<cs.length:=fun c hc=>by
  obtain⟨p,hp,rfl⟩:=Ai.mp ((hk c).mp hc);exact (T.cj p hp).1
 have full:∀c∈Fl.kc ja,c<(fd cs js).nC->st.sp c=0:=fun c hc hl=>by
  have:=mx c (T.rc c hc);have:=gd.sp c hl;lia
 have key:=Fl.cut_all gd C full;have e1:((ks.map (spn cs)).map fun s=>Cal.over rows rest 0 s.1 s.2).sum=Fl.S cs.length (fun c=>if c∈ks then (zM cs c).m*clen cs c else 0):=by
  rw[Av,LG nd lt];exact Fl.S_congr fun c hc=>by
   by_cases m:c∈ks
   .rw[Ac m,Ac m];exact ho c hc
   .rw[Ab m,Ab m]
 have e2:∀j∈js,max 0 (j.l-j.f+1)-inn (ks.map (spn cs)) j.f j.l=Fl.S cs.length (fun c=>if wn cs j c=true/\c∉ks then clen cs c else 0):=fun j hj=>by
  unfold inn;rw[Av,LG nd lt,<-htot j hj,<-Fl.S_sub];exact Fl.S_congr fun c hc=>by
   have q:=hcc j hj c hc
   by_cases m:c∈ks
   .rw[Ac m,Ab (show ¬(wn cs j c=true/\c∉ks) from fun z=>z.2 m)]
    show _-Cal.cc (zM cs c).f (zM cs c).l j.f j.l=0;lia
   .rw[Ab m,Int.sub_zero]
    by_cases w:wn cs j c=true
    .rw[Ac w,Ac ⟨w,m⟩]
    .rw[Ab w,Ab fun z=>w z.1]
 unfold flow;rw[e1,<-YT];rw[<-show Fl.S (fd cs js).nJ st.ms=Fl.S js.length st.ms from rfl,<-key]
 congr 1
 .refine Fl.S_congr fun j hj=>?_
  unfold exc;rw[e2 _ (GW hj),<-Fl.S_mul];show max 0 ((zN js j).w-_)=max 0 ((zN js j).w-_)
  congr 2
  refine Fl.S_congr fun c hc=>?_
  by_cases w:wn cs (zN js j) c=true/\c∉ks
  .rw[Ac w,Ac (show (fd cs js).win j c=true/\c∉Fl.kc ja from ⟨w.1,fun z=>w.2 ((hk c).mpr z)⟩)];rfl
  .rw[Ab w,Ab (show ¬((fd cs js).win j c=true/\c∉Fl.kc ja) from fun z=>w ⟨z.1,fun y=>z.2 ((hk c).mp y)⟩),D2]
 .refine Fl.S_congr fun c hc=>?_
  by_cases m:c∈ks
  .rw[Ac m,Ac ((hk c).mp m)];rfl
  .rw[Ab m,Ab fun z=>m ((hk c).mpr z)]
def Qc {d:Fl.D} {s:Fl.St} (h:∀j,j<d.nJ->s.ms j<=0) {x:Nat ⊕ Nat} (r:Fl.Rch d s x):False:=by
 induction r with
 |lack a b=>have:=h _ a;lia
 |take _ _ _ _ ih=>exact ih
 |give _ _ _ ih=>exact ih
def YV (gd:Fl.Good (fd cs js) st) (T:Fl.Tree (fd cs js) st ja ca) (z:Fl.S js.length st.ms=0) {ks ls:List Nat} (hk:∀c,c∈ks↔c∈Fl.kc ja) (hl:∀j,j∈ls↔j∈Fl.kj ca):ks=[]/\ls=[]:=by
 have h:∀j,j<(fd cs js).nJ->st.ms j<=0:=fun j hj=>by
  have:=Fl.S_mem (n:=js.length) (f:=st.ms) gd.ms hj;lia
 exact⟨List.eq_nil_iff_forall_not_mem.mpr fun c hc=>Qc h (T.rc c ((hk c).mp hc)),List.eq_nil_iff_forall_not_mem.mpr fun c hc=>Qc h (T.rj c ((hl c).mp hc))⟩
end
section
variable {h0:H3} {cs:List Cl} {js:List J} {st:Fl.St} {g:H3} {rows:List (Int×Int)} {rest:Int}
def YW (hj:LoadOk js) (gd:Fl.Good (fd cs js) st):qT 0 ((List.range js.length).map st.ms)=true:=by
 refine L9 (g:=st.ms) 60 (fun j h=>?_) (by rw[Bt];have:=hj.len;lia)
 have hl:j<js.length:=Bh.mp h;have a:=gd.row j hl;have b:0<=Fl.S (fd cs js).nC (st.sh j):=Fl.S_nonneg fun c hc=>gd.lo j c hl hc
 have c:=gd.ms j hl;have w:=(hj.one _ (GW hl)).w;have e:(fd cs js).w j=(zN js j).w:=rfl;lia
noncomputable abbrev sT (a0 a3:Option Vl) (rs:List V3) (rest:Int) (ls:List V3) (n:Nat) (x6 x7 x8 x9 x10:Option Vl):S3:=[a0,some (.v (.lst rs)),some (.v (.int rest)),a3,some (.v (.lst ls)),some (.v (.loc n)),x6,x7,x8,x9,x10]
def YX {H:H3} {n:Nat} {fs:List (Str×V3)} (hf:y9 H (.x (.loc n))=some (("Flow" :Str),fs)) (lc:fs.lookup ("cells":Str)=some (.lst (cs.map Cl.enc))) {ks:List Nat} (hk:∀c∈ks,c<cs.length) (hl:ks.length<=63) {a0 a3 x6 x7 x8 x10:Option Vl} {rs ls:List V3} {y:V3}:GN (sT a0 a3 rs rest ls n x6 x7 x8 (some (.v (.tup [.lst (ks.map zf),y]))) x10) H=.ok (.m (.lst ((ks.map (spn cs)).map zh))) H:=by
 unfold GN;rw[Av]
 refine CF (x:= .lst (ks.map zf)) (enc:=zf) (l:=ks) (fun s=> ∃a,s=[a,some (.v (.loc n))]) _ (by (simp![])<;>rfl) rfl (by lia) ⟨none,rfl⟩ ?_
 rintro c s hc ⟨a,rfl⟩;have e1:=Iv (hk c hc);exact⟨_,_,by (simp![])<;>rfl,⟨_,rfl⟩,by (simp![ze,hf,yJ,lc,e1])<;>rfl,rfl⟩
def YY {H:H3} {s:S3}:y8 s H (.x (.tup [.lst [],.lst []])) (.x (.tup [.lst [],.lst []]))=some (.v (.bl true)):=by
 have q:zQ H 9 (.tup [.lst [],.lst []]) (.tup [.lst [],.lst []])=some true:=WT (n:=8) fun x hx=>by
  have e:x=.lst []:=by simpa using hx
  subst e;exact Uu (n:=7) (enc:=V3.int) (fun a b=>J7) [] []
 unfold y8 eqO;simp only[rdm,rdl,q,Ar]
def YZ (hj:LoadOk js) (hcl:cs.length<=63) (hc:CsUp cs) (ho:Ov cs rows rest) (hr:RwB rows rest) (gd:Fl.Good (fd cs js) st) (mx:Max (fd cs js) st)
  (hcc:∀j∈js,∀c,c<cs.length->Cal.cc (zM cs c).f (zM cs c).l j.f j.l=if wn cs j c=true then clen cs c else 0)
  (htot:∀j∈js,Fl.S cs.length (fun c=>if wn cs j c=true then clen cs c else 0)=max 0 (j.l-j.f+1)) (a0 a3:Option Vl):
  Yes ((ltR [a0,some (.v (.lst (rows.map zh))),some (.v (.int rest)),a3,some (.m (.lst (js.map J.enc))),some (.v (.loc h0.length)),none,none,none,none,none] (hp h0 cs js st g)).res):=by
 unfold ltR
 refine zF (s1:=sT a0 a3 (rows.map zh) rest (js.map J.enc) h0.length none none none none none) (h1:=hp h0 cs js st g) (by (simp![])) ?_
 refine zF (s1:=sT a0 a3 (rows.map zh) rest (js.map J.enc) h0.length none none none none none) (h1:=hp h0 cs js st g) (by (simp![])) ?_
 have el:=YH (h0:=h0) (g:=g) hj.len hcl hc ho hr gd
 refine zF (s1:=sT a0 a3 (rows.map zh) rest (js.map J.enc) h0.length none none none none none) (h1:=hp h0 cs js st g) (by (simp![el])) ?_
 clear el
 refine zF (s1:=sT a0 a3 (rows.map zh) rest (js.map J.enc) h0.length (some (.v (.int 0))) none none none none) (h1:=hp h0 cs js st g) (by (simp![])) ?_
 unfold Ic
 refine DN (j:=(js.length:Int)) (by (simp![Ae])<;>rfl) (by have:=hj.len;lia) (fun i s=> ∃x7 x8,s=sT a0 a3 (rows.map zh) rest (js.map J.enc) h0.length (some (.v (.int (Fl.S i st.ms)))) x7 x8 none none) ⟨none,none,rfl⟩ ?_ ?_
 .rintro i s hi ⟨x7,x8,rfl⟩
  have hi':i<js.length:=by rwa [Bp]at hi
  have a:=gd.row i hi';have b:=gd.ms i hi';have e:(fd cs js).w i=(zN js i).w:=rfl;have e':Fl.S (fd cs js).nC (st.sh i)=Fl.S cs.length (st.sh i):=rfl
  refine⟨_,YS (YJ hj hcl hc gd hi') (PZ hi') (by lia) x7 x8 none none,⟨some (.v (.int (i:Int))),some (.v (.int (Fl.S cs.length (st.sh i)))),?_⟩⟩
  rw[show Fl.S i st.ms+(zN js i).w-Fl.S cs.length (st.sh i)=Fl.S (i+1) st.ms by show _=Fl.S i st.ms+st.ms i;lia]
 .rintro s ⟨x7,x8,rfl⟩
  rw[Bp];obtain⟨ks,ls,ja,ca,g',T,C,k1,l1,k2,l2,ec⟩:=YC (h0:=h0) (cs:=cs) (js:=js) (st:=st) (g:=g) hj.len hcl;have nc:=jd (n:=h0.length) (cs:=cs) (js:=js) (m:="cut") (by decide+kernel)
  have nl:=jd (n:=h0.length) (cs:=cs) (js:=js) (m:="lacking") (by decide+kernel)
  have ek:=YA (h0:=h0) (cs:=cs) (g:=g') (YW hj gd);have hks:∀c∈ks,c<cs.length:=fun c h=>by
   obtain⟨p,hp,rfl⟩:=Ai.mp ((k2 c).mp h);exact (T.cj p hp).1
  have hls:∀c∈ls,c<js.length:=fun c h=>by
   obtain⟨p,hp,rfl⟩:=Ai.mp ((l2 c).mp h);exact (T.jc p hp).1
  have nd:ks.Nodup:=k1.imp fun h=>Aw h
  have kl:ks.length<=cs.length:=LC nd hks;have cv:=YU gd mx T C ho hcc htot nd k2;have cn:=fun z=>YV gd T z k2 l2
  have z0:0<=Fl.S js.length st.ms:=Fl.S_nonneg gd.ms;obtain⟨K1,hK1⟩:∃K:Int,(cs.length:Int)=K:=⟨_,rfl⟩;obtain⟨K2,hK2⟩:∃K:Int,(js.length:Int)=K:=⟨_,rfl⟩;have r1:∀h,AU [.lst (ks.map zf),.int K1] h=.ok (.v (.bl true)) h:=fun h=>by
   have:=PV (ns:=ks.map fun k:Nat=>(k:Int)) (n:=K1) (fun x hx=>by
    obtain⟨c,hc,rfl⟩:=Ai.mp hx;have:=hks c hc;lia) (Dq.mpr (k1.imp fun h=>Int.ofNat_lt.mpr h)) h
   rwa [Av]at this
  have r2:∀h,AU [.lst (ls.map zf),.int K2] h=.ok (.v (.bl true)) h:=fun h=>by
   have:=PV (ns:=ls.map fun k:Nat=>(k:Int)) (n:=K2) (fun x hx=>by
    obtain⟨c,hc,rfl⟩:=Ai.mp hx;have:=hls c hc;lia) (Dq.mpr (l1.imp fun h=>Int.ofNat_lt.mpr h)) h
   rwa [Av]at this
  have lc:=(qw (n:=h0.length) (cs:=cs) (js:=js)).1;generalize hS:Fl.S js.length st.ms=L at*
  refine zF (s1:=sT a0 a3 (rows.map zh) rest (js.map J.enc) h0.length (some (.v (.int L))) x7 x8 (some (.v (.tup [.lst (ks.map zf),.lst (ls.map zf)]))) none) (h1:=hp h0 cs js st g') (by (simp![z9,zG,nc,ec])) ?_
  refine zF (s1:=sT a0 a3 (rows.map zh) rest (js.map J.enc) h0.length (some (.v (.int L))) x7 x8 (some (.v (.tup [.lst (ks.map zf),.lst (ls.map zf)]))) none) (h1:=hp h0 cs js st g') (by (simp![z9,zG,nl,ek])) ?_
  refine zF (s1:=sT a0 a3 (rows.map zh) rest (js.map J.enc) h0.length (some (.v (.int L))) x7 x8 (some (.v (.tup [.lst (ks.map zf),.lst (ls.map zf)]))) none) (h1:=hp h0 cs js st g') (by (simp![ze,zG,yJ,lc,Ae,hK1,hK2,r1,r2])) ?_
  by_cases hz:L=0
  .obtain⟨rfl,rfl⟩:=cn hz
   subst hz
   refine⟨hp h0 cs js st g',?_⟩
   (simp![YY,Bj])
  .refine zF (s1:=sT a0 a3 (rows.map zh) rest (js.map J.enc) h0.length (some (.v (.int L))) x7 x8 (some (.v (.tup [.lst (ks.map zf),.lst (ls.map zf)]))) none) (h1:=hp h0 cs js st g') (by (simp![hz])) ?_
   refine zF (s1:=sT a0 a3 (rows.map zh) rest (js.map J.enc) h0.length (some (.v (.int L))) x7 x8 (some (.v (.tup [.lst (ks.map zf),.lst (ls.map zf)]))) none) (h1:=hp h0 cs js st g') (by (simp![])) ?_
   have sc:=fun x10=>YX (cs:=cs) (rest:=rest) (zG (h0:=h0) (cs:=cs) (js:=js) (st:=st) (g:=g')) lc hks (by lia) (a0:=a0) (a3:=a3) (x6:=some (.v (.int L))) (x7:=x7) (x8:=x8) (x10:=x10) (rs:=rows.map zh) (ls:=js.map J.enc) (y:= .lst (ls.map zf))
   have sb:SpB (ks.map (spn cs)):=⟨by rw[Ae];lia,fun p hp=>by
    obtain⟨c,hcm,rfl⟩:=Ai.mp hp;have:=hc.one _ (CI (hks c hcm));exact⟨this.1,this.2.1,this.2.2.1⟩⟩
   have ov:=Y8 hr sb hj;rw[cv]at ov;generalize ks.map (spn cs)=sp at*
   refine zF (s1:=sT a0 a3 (rows.map zh) rest (js.map J.enc) h0.length (some (.v (.int L))) x7 x8 (some (.v (.tup [.lst (ks.map zf),.lst (ls.map zf)]))) (some (.m (.lst (sp.map zh))))) (h1:=hp h0 cs js st g') (by (simp![sc])) ?_
   refine⟨hp h0 cs js st g',?_⟩
   (simp![ov])
end
def RowsOk.b {rows:List (Int×Int)} {rest by_:Int} (h:RowsOk rows rest by_):RwB rows rest:=
 ⟨by have:=h.len;lia,fun p hp=>by have:=h.one p hp;have:=h.by_;lia,h.rest⟩
theorem Qd (n:Nat):∀l:List (Int×Int),lows n (l.map zh)=true
 | []=>rfl
 |p::r=>by simp only[Ag,lows,low,Qd n r,Bool.and_self]
def law_yes (ns:List Int) (_:ns.length<=63):Yes (f_law [.scr ns] []):=by
 unfold f_law KQ
 refine yO rfl ?_
 obtain⟨rows,rest,by_,e1,hr⟩:=Xd (cell ns (0:Int).toNat) []
 refine zF (s1:=[some (.v (.scr ns)),some (.v (.lst (rows.map zh))),some (.v (.int rest)),some (.v (.int by_)),none,none,none,none,none,none,none]) (h1:=[]) (by (simp![Iq ns 0 (by decide),e1])) ?_
 obtain⟨js,e2,hj⟩:=Xl ns by_ hr.by_ []
 refine zF (s1:=[some (.v (.scr ns)),some (.v (.lst (rows.map zh))),some (.v (.int rest)),some (.v (.int by_)),some (.m (.lst (js.map J.enc))),none,none,none,none,none,none]) (h1:=[]) (by (simp![e2])) ?_
 have hrb:=hr.b;have hpo:Cal.Pos rows:=fun p h=>(hrb.one p h).1
 have hm:∀t,0<=Cal.at_ (Cal.kform rest rows) rest t/\Cal.at_ (Cal.kform rest rows) rest t<=16:=fun t=>by rw[Cal.kform_at _ _ _ hpo];exact at_b hrb t
 have hcal:=Xv hrb [];rw[Dx,Dx,Ef]at hcal;have hlow:lowF 0 [(Str.ofString "stretches",V3.lst ((Cal.kform rest rows).map zh)),(Str.ofString "beyond",V3.int rest)]=true:=by
  simp only[lowF,low,Qd,Bool.and_self]
 have hl:(Cal.kform rest rows).length<=16:=Bw (Cal.kform_len rest rows) hrb.len;obtain⟨st,g,gd,mx,ei⟩:=Yz (h0:=[]) hj hl (Yw hm js);have hov:=YN hrb (YM (rest:=rest) (Cal.kform_pos rest rows hpo) hj);have hup:=YK hj hm;have hcl:=PR rest hj hl;have hcc:=fun j hj=>fun c hc=>YO (js:=js) (R:=Cal.kform rest rows) (rest:=rest) (j:=j) hj (c:=c) hc
 have htt:=fun j hj=>YR (js:=js) (R:=Cal.kform rest rows) (rest:=rest) (j:=j) hj
 generalize yr js (Cal.kform rest rows) rest=cs at*;rw[Dx,Ef]at ei
 refine zF (s1:=[some (.v (.scr ns)),some (.v (.lst (rows.map zh))),some (.v (.int rest)),some (.v (.int by_)),some (.m (.lst (js.map J.enc))),some (.v (.loc 0)),none,none,none,none,none]) (h1:=hp [] cs js st g) (by (simp![eObj,eNew,hcal,hlow,ei])) ?_
 exact YZ (h0:=[]) hj hcl hup hov hrb gd mx hcc htt _ _
end My
namespace My
open PySem PySem.Spec PyProof.Rows L2 L3
def law_true:∀ns:List Int,ns.length<=63->∃h',f_law [.scr ns] []=.ok (.v (.bl true)) h':=law_yes
def txt {K:FG} {mg:Str->Option Value} {h:Heap} (X:K.In h) (G:h.Ns mainGlobals mg) (S:L4.seenK ask K=L4.good PySem.Challenge.pw_dueyard_k23_whole_greatest_flow ask):∃_:Txt K mg,True:=by
 obtain⟨f0,d0,a0,F0⟩:=L4.def_at S 0 rfl;obtain⟨f1,d1,a1,F1⟩:=L4.def_at S 1 rfl;obtain⟨f2,d2,a2,F2⟩:=L4.def_at S 2 rfl;obtain⟨f3,d3,a3,F3⟩:=L4.def_at S 3 rfl;obtain⟨f4,d4,a4,F4⟩:=L4.def_at S 4 rfl;obtain⟨f5,d5,a5,F5⟩:=L4.def_at S 5 rfl;obtain⟨f6,d6,a6,F6⟩:=L4.def_at S 6 rfl;obtain⟨f7,d7,a7,F7⟩:=L4.def_at S 7 rfl;obtain⟨f8,d8,a8,F8⟩:=L4.def_at S 8 rfl;obtain⟨f9,d9,a9,F9⟩:=L4.def_at S 9 rfl;obtain⟨f10,d10,a10,F10⟩:=L4.def_at S 10 rfl;obtain⟨f11,d11,a11,F11⟩:=L4.def_at S 11 rfl;obtain⟨f12,d12,a12,F12⟩:=L4.def_at S 12 rfl;obtain⟨f13,d13,a13,F13⟩:=L4.def_at S 13 rfl;obtain⟨f14,d14,a14,F14⟩:=L4.def_at S 14 rfl;obtain⟨f15,d15,a15,F15⟩:=L4.def_at S 15 rfl;obtain⟨f16,d16,a16,F16⟩:=L4.def_at S 16 rfl;obtain⟨f17,d17,a17,F17⟩:=L4.def_at S 17 rfl;obtain⟨f18,d18,a18,F18⟩:=L4.def_at S 18 rfl;obtain⟨f19,d19,a19,F19⟩:=L4.def_at S 19 rfl;obtain⟨f20,d20,a20,F20⟩:=L4.def_at S 20 rfl;obtain⟨f21,d21,a21,F21⟩:=L4.def_at S 21 rfl;obtain⟨f22,d22,a22,F22⟩:=L4.def_at S 22 rfl;obtain⟨f23,d23,a23,F23⟩:=L4.def_at S 23 rfl;obtain⟨f24,d24,a24,F24⟩:=L4.def_at S 24 rfl;obtain⟨f25,d25,a25,F25⟩:=L4.def_at S 25 rfl;obtain⟨f26,d26,a26,F26⟩:=L4.def_at S 26 rfl;obtain⟨f27,d27,a27,F27⟩:=L4.def_at S 27 rfl;obtain⟨f28,d28,a28,F28⟩:=L4.def_at S 28 rfl;obtain⟨f29,d29,a29,F29⟩:=L4.def_at S 29 rfl;obtain⟨f30,d30,a30,F30⟩:=L4.def_at S 30 rfl;obtain⟨C0,c0⟩:=L4.cls_at S 0 rfl;obtain⟨g0,e0,A0,M0,I0⟩:=c0.meth 0 _ rfl;obtain⟨g1,e1,A1,M1,I1⟩:=c0.meth 1 _ rfl;obtain⟨C1,c1⟩:=L4.cls_at S 1 rfl;obtain⟨g2,e2,A2,M2,I2⟩:=c1.meth 0 _ rfl;obtain⟨g3,e3,A3,M3,I3⟩:=c1.meth 1 _ rfl;obtain⟨g4,e4,A4,M4,I4⟩:=c1.meth 2 _ rfl;obtain⟨g5,e5,A5,M5,I5⟩:=c1.meth 3 _ rfl;obtain⟨g6,e6,A6,M6,I6⟩:=c1.meth 4 _ rfl;obtain⟨g7,e7,A7,M7,I7⟩:=c1.meth 5 _ rfl;obtain⟨g8,e8,A8,M8,I8⟩:=c1.meth 6 _ rfl;obtain⟨g9,e9,A9,M9,I9⟩:=c1.meth 7 _ rfl;obtain⟨g10,e10,A10,M10,I10⟩:=c1.meth 8 _ rfl;obtain⟨g11,e11,A11,M11,I11⟩:=c1.meth 9 _ rfl;obtain⟨g12,e12,A12,M12,I12⟩:=c1.meth 10 _ rfl;obtain⟨C2,c2⟩:=L4.cls_at S 2 rfl;obtain⟨g13,e13,A13,M13,I13⟩:=c2.meth 0 _ rfl;obtain⟨g14,e14,A14,M14,I14⟩:=c2.meth 1 _ rfl;obtain⟨g15,e15,A15,M15,I15⟩:=c2.meth 2 _ rfl;obtain⟨t0,v0⟩:=L4.int_at S 0 rfl;obtain⟨t1,v1⟩:=L4.str_at S 1 rfl;obtain⟨t2,v2⟩:=L4.str_at S 2 rfl;obtain⟨t3,v3⟩:=L4.int_at S 3 rfl;obtain⟨t4,v4⟩:=L4.int_at S 4 rfl;obtain⟨t5,v5⟩:=L4.int_at S 5 rfl;obtain⟨t6,v6⟩:=L4.int_at S 6 rfl;obtain⟨t7,v7⟩:=L4.int_at S 7 rfl;obtain⟨t8,v8⟩:=L4.int_at S 8 rfl;obtain⟨t9,v9⟩:=L4.int_at S 9 rfl;obtain⟨t10,v10⟩:=L4.int_at S 10 rfl
 exact⟨⟨f0,d0,⟨F0,L4.b2 F0 fun _ _ _ _ _ _ _ _=>rfl,Aq X G a0⟩,f1,d1,⟨F1,L4.b1 F1 fun _ _ _ _ _ _ _=>rfl,Aq X G a1⟩,f2,d2,⟨F2,L4.b2 F2 fun _ _ _ _ _ _ _ _=>rfl,Aq X G a2⟩,f3,d3,⟨F3,L4.b2 F3 fun _ _ _ _ _ _ _ _=>rfl,Aq X G a3⟩,f4,d4,⟨F4,L4.b2 F4 fun _ _ _ _ _ _ _ _=>rfl,Aq X G a4⟩,f5,d5,⟨F5,L4.b1 F5 fun _ _ _ _ _ _ _=>rfl,Aq X G a5⟩,f6,d6,⟨F6,L4.b1 F6 fun _ _ _ _ _ _ _=>rfl,Aq X G a6⟩,f7,d7,⟨F7,L4.b3 F7 fun _ _ _ _ _ _ _ _ _=>rfl,Aq X G a7⟩,f8,d8,⟨F8,L4.b4 F8 fun _ _ _ _ _ _ _ _ _ _=>rfl,Aq X G a8⟩,f9,d9,⟨F9,L4.b1 F9 fun _ _ _ _ _ _ _=>rfl,Aq X G a9⟩,f10,d10,⟨F10,L4.b1 F10 fun _ _ _ _ _ _ _=>rfl,Aq X G a10⟩,f11,d11,⟨F11,L4.b2 F11 fun _ _ _ _ _ _ _ _=>rfl,Aq X G a11⟩,f12,d12,⟨F12,L4.b2 F12 fun _ _ _ _ _ _ _ _=>rfl,Aq X G a12⟩,f13,d13,⟨F13,L4.b2 F13 fun _ _ _ _ _ _ _ _=>rfl,Aq X G a13⟩,f14,d14,⟨F14,L4.b2 F14 fun _ _ _ _ _ _ _ _=>rfl,Aq X G a14⟩,f15,d15,⟨F15,L4.b2 F15 fun _ _ _ _ _ _ _ _=>rfl,Aq X G a15⟩,f16,d16,⟨F16,L4.b1 F16 fun _ _ _ _ _ _ _=>rfl,Aq X G a16⟩,f17,d17,⟨F17,L4.b2 F17 fun _ _ _ _ _ _ _ _=>rfl,Aq X G a17⟩,f18,d18,⟨F18,L4.b1 F18 fun _ _ _ _ _ _ _=>rfl,Aq X G a18⟩,f19,d19,⟨F19,L4.b1 F19 fun _ _ _ _ _ _ _=>rfl,Aq X G a19⟩,f20,d20,⟨F20,L4.b1 F20 fun _ _ _ _ _ _ _=>rfl,Aq X G a20⟩,f21,d21,⟨F21,L4.b1 F21 fun _ _ _ _ _ _ _=>rfl,Aq X G a21⟩,f22,d22,⟨F22,L4.b4 F22 fun _ _ _ _ _ _ _ _ _ _=>rfl,Aq X G a22⟩,f23,d23,⟨F23,L4.b4 F23 fun _ _ _ _ _ _ _ _ _ _=>rfl,Aq X G a23⟩,f24,d24,⟨F24,L4.b1 F24 fun _ _ _ _ _ _ _=>rfl,Aq X G a24⟩,f25,d25,⟨F25,L4.b3 F25 fun _ _ _ _ _ _ _ _ _=>rfl,Aq X G a25⟩,f26,d26,⟨F26,L4.b2 F26 fun _ _ _ _ _ _ _ _=>rfl,Aq X G a26⟩,f27,d27,⟨F27,L4.b2 F27 fun _ _ _ _ _ _ _ _=>rfl,Aq X G a27⟩,f28,d28,⟨F28,L4.b4 F28 fun _ _ _ _ _ _ _ _ _ _=>rfl,Aq X G a28⟩,f29,d29,⟨F29,L4.b2 F29 fun _ _ _ _ _ _ _ _=>rfl,Aq X G a29⟩,f30,d30,⟨F30,L4.b1 F30 fun _ _ _ _ _ _ _=>rfl,Aq X G a30⟩,C0,c0.cls,Aq X G c0.g,g0,e0,⟨M0,L4.b2 M0 fun _ _ _ _ _ _ _ _=>rfl⟩,g1,e1,⟨M1,L4.b2 M1 fun _ _ _ _ _ _ _ _=>rfl⟩,⟨A1,I1,M1.kp⟩,⟨c0.makes,A0,I0,c0.kp⟩,c0.fld 0 _ rfl,c0.fld 1 _ rfl,C1,c1.cls,Aq X G c1.g,g2,e2,⟨M2,L4.b2 M2 fun _ _ _ _ _ _ _ _=>rfl⟩,⟨A2,I2,M2.kp⟩,g3,e3,⟨M3,L4.b1 M3 fun _ _ _ _ _ _ _=>rfl⟩,⟨A3,I3,M3.kp⟩,g4,e4,⟨M4,L4.b2 M4 fun _ _ _ _ _ _ _ _=>rfl⟩,⟨A4,I4,M4.kp⟩,g5,e5,⟨M5,L4.b2 M5 fun _ _ _ _ _ _ _ _=>rfl⟩,⟨A5,I5,M5.kp⟩,g6,e6,⟨M6,L4.b1 M6 fun _ _ _ _ _ _ _=>rfl⟩,⟨A6,I6,M6.kp⟩,g7,e7,⟨M7,L4.b1 M7 fun _ _ _ _ _ _ _=>rfl⟩,⟨A7,I7,M7.kp⟩,g8,e8,⟨M8,L4.b1 M8 fun _ _ _ _ _ _ _=>rfl⟩,⟨A8,I8,M8.kp⟩,g9,e9,⟨M9,L4.b3 M9 fun _ _ _ _ _ _ _ _ _=>rfl⟩,g10,e10,⟨M10,L4.b1 M10 fun _ _ _ _ _ _ _=>rfl⟩,⟨A10,I10,M10.kp⟩,g11,e11,⟨M11,L4.b3 M11 fun _ _ _ _ _ _ _ _ _=>rfl⟩,⟨A11,I11,M11.kp⟩,g12,e12,⟨M12,L4.b1 M12 fun _ _ _ _ _ _ _=>rfl⟩,⟨A12,I12,M12.kp⟩,⟨c1.makes,A9,I9,c1.kp⟩,c1.fld 0 _ rfl,c1.fld 1 _ rfl,c1.fld 2 _ rfl,c1.fld 3 _ rfl,c1.fld 4 _ rfl,c1.fld 5 _ rfl,C2,c2.cls,Aq X G c2.g,g13,e13,⟨M13,L4.b3 M13 fun _ _ _ _ _ _ _ _ _=>rfl⟩,⟨A13,I13,M13.kp⟩,g14,e14,⟨M14,L4.b2 M14 fun _ _ _ _ _ _ _ _=>rfl⟩,⟨A14,I14,M14.kp⟩,g15,e15,⟨M15,L4.b3 M15 fun _ _ _ _ _ _ _ _ _=>rfl⟩,⟨c2.makes,A15,I15,c2.kp⟩,c2.fld 0 _ rfl,c2.fld 1 _ rfl,Bv X G (L4.bare_at S 0 rfl),Bv X G (L4.bare_at S 1 rfl),Bv X G (L4.bare_at S 2 rfl),Bv X G (L4.bare_at S 3 rfl),Bv X G (L4.bare_at S 4 rfl),Bv X G (L4.bare_at S 5 rfl),Bv X G (L4.bare_at S 6 rfl),Bv X G (L4.bare_at S 7 rfl),Bv X G (L4.bare_at S 8 rfl),Bv X G (L4.bare_at S 9 rfl),Bv X G (L4.bare_at S 10 rfl),Bv X G (L4.bare_at S 11 rfl),Bv X G (L4.bare_at S 12 rfl),Bv X G (L4.bare_at S 13 rfl),Bv X G (L4.bare_at S 14 rfl),Bv X G (L4.bare_at S 15 rfl),Bv X G (L4.bare_at S 16 rfl),t0,Aq X G v0,t1,Aq X G v1,t2,Aq X G v2,t3,Aq X G v3,t4,Aq X G v4,t5,Aq X G v5,t6,Aq X G v6,t7,Aq X G v7,t8,Aq X G v8,t9,Aq X G v9,t10,Aq X G v10⟩,trivial⟩
def d_law:PySem.DefRec:=⟨"law",EM (zV 58),CK (zV 58),zA (zV 58),⟨362,0,382,92⟩⟩
end My
open PySem PySem.W PyProof.Rows
set_option maxRecDepth 100000 in
set_option maxHeartbeats 0 in
theorem PySem.Challenge.cw_dueyard_k23_whole_greatest_flow_holds : PySem.Challenge.rw_dueyard_k23_whole_greatest_flow.Holds := by
 w_on;o_law
 refine PySem.W.holds_open (q:=L4.lawView My.ask PySem.Challenge.pw_dueyard_k23_whole_greatest_flow) (loose:=L4.looseOf PySem.Challenge.pw_dueyard_k23_whole_greatest_flow) (Xt:=fun _=>true) (XP:=fun _ _=>True) (YP:=fun _ h=> ∃K:Frag,K.In h/\L4.seenK My.ask K=L4.good PySem.Challenge.pw_dueyard_k23_whole_greatest_flow My.ask) (d:=My.d_law) (kwd:=[]) (N:=20000) (L4.left_one (good:=L4.good PySem.Challenge.pw_dueyard_k23_whole_greatest_flow My.ask) (by kernel_rfl) (by decide) (fun _=>rfl) My.one) (fun w s e=>L4.seen_ok w s e) (fun w h h'=>L4.seen_keeps w h h') (fun _ _=>trivial) (fun _ _ _ _ _=>trivial) (by kernel_rfl) (by kernel_rfl) rfl (fun _ _=>recFacts_nil rfl) rfl (by assumption) (by decide+kernel) ⟨rfl,rfl,rfl,rfl,rfl,by decide+kernel⟩ ?hw ?hc
 case hw=>w_witness2
 case hc=>
  refine L4.walk_one (l:=PySem.Challenge.rw_dueyard_k23_whole_greatest_flow) (n:=63) (k:=8) (x:="_law_script") (CX:=fun w=>L2.XT PySem.Challenge.rw_dueyard_k23_whole_greatest_flow.prog w) (sp:=L3.spL) rfl (by decide) rfl ⟨rfl,by decide,by decide⟩ ?F (fun _ _ a ns hl hO hS=>⟨a,ns,rfl,hl,hS,hO,fun _=>rfl⟩) fun _ _ _ _ _ z=>L3.noX z
  intro w mg fa h K KX G S hmg;obtain⟨T,_⟩:=My.txt KX G S;have e:=hmg.symm.trans T.d_law.g;cases e;exact⟨T.fd_law,L4.binds_law T.d_law.F fun _ _ _ _ _ _ _=>rfl,fun base _ _=>(My.G_law (P:=PySem.Challenge.rw_dueyard_k23_whole_greatest_flow.prog) (w:=w) (base:=base) T).imp (sp':=L3.spL K) fun vs H Q E h=>L3.spL_of (κ:=My.kx T) My.law_true h⟩
