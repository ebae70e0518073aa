import PyProof.Rows.All
import Wide.All
import OpenK.AllK
import Wide.FinOn
import Lean
import PyProof.EqAt
import PyProof.EqKinds
import PyProof.TupleCall
import KE.KSortTup
import KE.KUnpack
import PyProof.DictRoadsH
import PyProof.EnumFor
import PyProof.EnumStmt
import PyProof.EnumMake
import PyProof.MaxThree
import KE.KDictList
import PyProof.ExcBaseAll.ValueError
import PyProof.Rows.Catch
import PyProof.NsDelKeeps
import PyProof.NeKinds
import KE.KxText
import PyProof.WalkInts
import PyProof.SeqI3
import KE.KRevIter
import PyProof.DictIter
import PyProof.DictWalks
import PyProof.DictItems
import PyProof.DictItemsLoops
import PyProof.Calls
import PySem.Challenge.RW_dueyard_k24_just_the_reached
abbrev VP:=PySem.Value->PySem.Shared->Prop
abbrev AL:=List (PySem.Addr×PySem.Obj)
abbrev AO:=List (Option PySem.Addr)
abbrev FG:=PySem.W.Frag
set_option linter.all false
def Aa:=@PySem.wpAny_bind
def Ab:=@if_pos
def Ac:=@if_neg
def Ad:=@PySem.wpAny_pure
def Ae:=@List.length_map
def Af:=@Nat.le_refl
def Ag:=@List.mem_cons
def Ah:=@List.map_cons
def Ai:=@PySem.Heap.lt_size
def Aj:=@List.mem_map
def Ak:=@List.mem_cons_self
def Al:=@List.mem_of_getElem?
def Am:=@List.size_toArray
def An:=@List.getElem?_eq_some_iff
def Ao:=@List.mem_singleton
def Ap:=@List.mem_cons_of_mem
def Aq:=@Option.map_some
def Ar:=@List.length_append
def As:=@List.mem_append
def Au:=@PySem.W.mg_of
def Av:=@Nat.ne_of_lt
def Aw:=@PySem.Heap.get?_push_of_some
def Ax:=@List.map_append
def Ay:=@List.mem_range
def Az:=@List.getElem?_map
def Ba:=@Bool.false_ne_true
def Bb:=@List.length_cons
def Bc:=@List.getElem?_append_left
def Be:=@List.length_take
def Bf:=@PySem.Heap.get?_push_size
def Bg:=@List.map_map
def Bh:=@decide_eq_false
def Bi:=@Bool.and_eq_true
def Bj:=@List.map_nil
def Bk:=@Nat.lt_of_lt_of_le
def Bl:=@List.getElem?_append_right
def Bm:=@Array.getElem?_eq_getElem
def Bn:=@List.nodup_cons
def Bo:=@Array.getElem?_toList
def Bp:=@or_false
def Bq:=@List.length_range
def Br:=@List.mem_filter
def Bs:=@Nat.le_trans
def Bt:=@PySem.wpAny_holding
def Bu:=@List.mem_append_right
def Bv:=@if_false
def Bw:=@if_true
def Bx:=@Nat.zero_le
def By:=@List.not_mem_nil
def Bz:=@Array.length_toList
def B1:=@List.append_nil
def B2:=@decide_eq_true
def B3:=@Int.toNat_natCast
def B4:=@PySem.W.mg_none_of
def B5:=@List.append_assoc
def B6:=@List.getElem?_of_mem
def B7:=@Nat.lt_irrefl
def B8:=@List.mem_append_left
def B9:=@PySem.wpAny_mono
def Ca:=@PySem.wpAny_call_entry
def Cb:=@List.getD_eq_getElem?_getD
def Cc:=@PySem.sizeLine_eq
def Cd:=@PySem.wpAny_newObj_type
def Ce:=@List.length_set
def Cf:=@Ne.symm
def Cg:=@PySem.wpAny_truthy_bool
def Ci:=@List.length_singleton
def Cj:=@Option.some.injEq
def Ck:=@Bool.false_eq_true
def Cm:=@List.lookup_cons
def Cn:=@List.nodup_append
def Co:=@PySem.Heap.size_push
def Cp:=@PySem.W.kia_one
def Cq:=@List.getElem?_take_of_lt
def Cr:=@decide_eq_true_eq
def Cs:=@PySem.wpAny_rule
def Ct:=@List.mem_of_mem_take
def Cu:=@PySem.F.slot_list_append
def Cv:=@PySem.F.type_list_append
def Cw:=@List.length_filter_le
def Cy:=@beq_iff_eq
def Cz:=@Option.map_eq_some_iff
def C4:=@List.getElem?_set
def C5:=@List.drop_length
def C6:=@PySem.boot_len
def C7:=@List.take_length
def C8:=@Nat.ne_of_gt
def C9:=@Bool.false_and
def Da:=@PySem.mem_of_lookup
def Db:=@List.getElem_mem
def Dd:=@PySem.Heap.SameBut.update
def De:=@Nat.lt_or_ge
def Df:=@PySem.wpAny_setState_of
def Dg:=@Nat.le_succ
def Dh:=@List.any_eq_true
def Di:=@Bool.not_true
def Dj:=@PySem.wpAny_ite_split
def Dk:=@List.find?_cons
def Dl:=@List.nodup_nil
def Dm:=@PySem.F.called_set
def Do:=@Bool.true_and
def Dp:=@PySem.wpAny_passesOwn
def Dq:=@Nat.lt_succ_self
def Dr:=@List.length_replicate
def Ds:=@PySem.wpAny_callSpecial?_slot
def Dt:=@PySem.Heap.get?_update_self
def Du:=@List.replicate_succ
def Dv:=@List.flatten_cons
def Dw:=@List.nil_append
def Dx:=@Prod.mk.injEq
def Dy:=@List.ext_getElem
def Dz:=@PySem.wpAny_dictEpoch
def D0:=@List.map_congr_left
def D1:=@List.getElem?_cons_succ
def D2:=@beq_eq_false_iff_ne
def D4:=@Nat.le_of_lt
def D5:=@List.mem_filterMap
def D6:=@PySem.codeAny_mono
def D7:=@PySem.wpAny_Call_Name_kw
def D8:=@Bool.or_false
def D9:=@PySem.call_meets
def Ea:=@List.eq_nil_of_length_eq_zero
def Eb:=@Nat.lt_succ_of_lt
def Ec:=@List.getElem?_cons_zero
def Ed:=@Bool.true_or
def Ee:=@List.length_nil
def Ef:=@PySem.wpAny_fieldsOf
def Eg:=@List.getElem?_eq_none
def Eh:=@PySem.codeAny_builtin
def Ei:=@PySem.wpAny_setField_rec
def Ej:=@Bool.not_false
def Ek:=@List.set_append_right
def El:=@PyProof.Rows.callWith_type1
def Em:=@List.length_drop
def En:=@Bool.and_false
def Eo:=@List.all_eq_true
def Ep:=@PySem.wpAny_dictEntries
def Er:=@of_decide_eq_true
def Es:=@List.drop_eq_getElem_cons
def Et:=@List.all_cons
def Eu:=@PySem.PassesOwn.leaving
def Ev:=@Int.zero_add
def Ew:=@PySem.F.slot_dict_keyiterator_next
def Ex:=@List.pairwise_cons
def Ey:=@PySem.Around.under_plainId
def Ez:=@PySem.plainId_quiet
def E1:=@PyProof.Rows.boot_isinstance
def E2:=@PyProof.Rows.boot_list
def E4:=@List.pairwise_map
def E5:=@List.filter_sublist
def E6:=@List.filterMap_cons
def E7:=@PySem.wpAny_execs_nil
def E8:=@PySem.wpAny_pyIter_list
def E9:=@List.any_eq_false
def Fa:=@Array.mem_toList_iff
def Fb:=@PySem.Heap.get?_update_other
def Fc:=@List.foldl_cons
def Fd:=@beq_self_eq_true
def Fe:=@Bool.eq_iff_iff
def Ff:=@List.mem_iff_getElem?
def Fg:=@Option.bind_some
def Fh:=@PySem.wpAny_pyIter_slot
def Fi:=@PySem.wpAny_typeNameOfWhole_keyiter
def Fj:=@PySem.wpAny_typeNameOf_keyiter
def Fo:=@Array.getElem?_eq_none
def Fp:=@List.take_of_length_le
def Fq:=@PySem.wpAny_askSetting
def Fs:=@PyProof.Rows.boot_sorted
def Ft:=@List.set_cons_succ
def Fu:=@List.drop_zero
def Fv:=@Int.emod_nonneg
def Fw:=@Int.emod_lt_of_pos
def Fx:=@Int.mul_nonneg
def Fy:=@List.isEmpty_nil
def Fz:=@List.take_append_drop
def Ga:=@List.set_append_left
def Gb:=@List.find?_cons_of_pos
def Gc:=@List.find?_cons_of_neg
def Gd:=@PySem.W.hideAll_none
def Ge:=@List.getElem?_replicate
def Gf:=@PyProof.Rows.slot_tuple_getitem
def Gg:=@List.mem_iff_getElem
def Gh:=@Array.getElem?_eq_none_iff
def Gi:=@List.Pairwise.filter
def Gj:=@Classical.byContradiction
def Gk:=@PySem.F.plainAttrs_list
def Gm:=@PySem.wpAny_isOneOf_keyiter
def Gn:=@List.pairwise_iff_getElem
def Go:=@List.pairwise_lt_range
def Gp:=@PyProof.Rows.F.plain_set_update_loop
def Gq:=@PySem.builtinLookup_eq_fast
def Gr:=@PySem.F.slot_list_extend
def Gs:=@PySem.F.type_list_extend
def Gu:=@PyProof.Rows.boot_min
def Gv:=@List.concat_eq_append
def Gw:=@List.filter_cons_of_neg
def Gx:=@PyProof.Rows.F.entry_set_update_loop
universe u
noncomputable section
def zI {α:Type u} {l:List α} {i:Nat} (h:i<l.length):l[i]?=some l[i]:=List.getElem?_eq_getElem h
def zd {a b:Prop} (h:a) (k:b):a/\b:=⟨h,k⟩
set_option Elab.async false
set_option compiler.extract_closed false
set_option bootstrap.genMatcherCode false
set_option genSizeOfSpec false
set_option genSizeOf false
local macro_rules | `(tactic|lia)=>`(tactic|first|assumption|lia (splits:=9)|omega)
set_option linter.all false
set_option maxRecDepth 100000
namespace L2
open PySem PySem.Spec PyProof.Rows
abbrev zM:=Sum Int Str
def jx:zM->Value->Bool
 |.inl k,v=>Value.isInt k v
 |.inr x,v=>Value.isStrOf x v
noncomputable def keyH (w:World):zM->Int
 |.inl k=>hashInt k
 |.inr x=>hashStr w x
def qR:∀{k:zM} {v:Value},jx k v=true->(∃i t,k=Sum.inl i/\v=Value.int i t)\/(∃x t,k=Sum.inr x/\v=Value.str x t)
 |.inl i,v,h=>by
  obtain⟨t,e⟩:=Value.isInt_shape (k:=i) (v:=v) h;exact .inl ⟨i,t,rfl,e⟩
 |.inr x,v,h=>by
  obtain⟨t,e⟩:=Value.isStrOf_shape (x:=x) (v:=v) h;exact .inr ⟨x,t,rfl,e⟩
def Lf (i:Int) (t:Tok):jx (.inl i) (.int i t)=true:=by simp[jx,Value.isInt]
def Lg (x:Str) (t:Tok):jx (.inr x) (.str x t)=true:=by simp[jx,Value.isStrOf]
def P2 (a b:Int):decide ((Sum.inl a:zM)=Sum.inl b)=(a==b):=by
 by_cases e:a=b
 .subst e;simp
 .have h: ¬(Sum.inl a:zM)=Sum.inl b:=fun q=>e (Sum.inl.inj q)
  rw[Bh h];exact (D2.mpr e).symm
def P4 (a b:Str):decide ((Sum.inr a:zM)=Sum.inr b)=decide (a=b):=by
 by_cases e:a=b
 .subst e;simp
 .have h: ¬(Sum.inr a:zM)=Sum.inr b:=fun q=>e (Sum.inr.inj q)
  rw[Bh h,Bh e]
def P5 (a:Int) (b:Str):decide ((Sum.inl a:zM)=Sum.inr b)=false:=Bh (fun q=>nomatch q)
def P6 (a:Str) (b:Int):decide ((Sum.inr a:zM)=Sum.inl b)=false:=Bh (fun q=>nomatch q)
def yr (prog:Program) (w:World):PySem.KeyKind prog w zM where
 is:=jx
 hash:=keyH w
 inj:=fun v a b ha hb=>by
  rcases qR ha with ⟨i,t,rfl,rfl⟩|⟨x,t,rfl,rfl⟩
  .rcases qR hb with ⟨j,u,rfl,e⟩|⟨y,u,rfl,e⟩
   .injection e with e1 _;rw[e1]
   .exact nomatch e
  .rcases qR hb with ⟨j,u,rfl,e⟩|⟨y,u,rfl,e⟩
   .exact nomatch e
   .injection e with e1 _;rw[e1]
 byValue:=fun k v h=>by
  rcases qR h with ⟨i,t,rfl,rfl⟩|⟨x,t,rfl,rfl⟩<;>rfl
 pyHash:=fun hv h=>by
  rcases qR hv with ⟨i,t,rfl,rfl⟩|⟨x,t,rfl,rfl⟩
  .exact wpAny_pyHash_int h
  .exact wpAny_pyHash_str h
 eqBool:=fun hu hv h=>by
  rcases qR hu with ⟨i,t,rfl,rfl⟩|⟨x,t,rfl,rfl⟩
  .rcases qR hv with ⟨j,u,rfl,rfl⟩|⟨y,u,rfl,rfl⟩
   .rw[P2]at h;exact wpAny_eqBool_int h
   .rw[P5]at h;exact SeqAt.EqAt.int_str i t y u _ _ _ _ h
  .rcases qR hv with ⟨j,u,rfl,rfl⟩|⟨y,u,rfl,rfl⟩
   .rw[P6]at h;exact SeqAt.EqAt.str_int x t j u _ _ _ _ h
   .rw[P4]at h;exact wpAny_eqBool_str h
 «strs» :=fun k x t v h=>by
  rcases qR h with ⟨i,u,rfl,e⟩|⟨y,u,rfl,e⟩
  .exact nomatch e
  .injection e with e1 _
   subst e1;cases v<;>rfl
def P7 (prog:Program) (w:World) (i:Int) (t:Tok):(yr prog w).is (.inl i) (.int i t)=true:=Lf i t
def P8 (prog:Program) (w:World) (x:Str) (t:Tok):(yr prog w).is (.inr x) (.str x t)=true:=Lg x t
inductive V where
 |non|bl (b:Bool)|int (i:Int)|str (x:Str)|byt (b:Array UInt8)|flt (b:UInt64)|ref (a:Addr)|ty (n:String)
 deriving DecidableEq
def RelV:V->Value->Prop
 |.non,u=>u=Value.none
 |.bl b,u=>u=Value.bool b
 |.int i,u=> ∃t,u=Value.int i t
 |.str x,u=> ∃t,u=Value.str x t
 |.byt b,u=> ∃t,u=Value.bytes b t
 |.flt b,u=> ∃t,u=Value.float b t
 |.ref a,u=>u=Value.ref a
 |.ty n,u=>u=Value.type n
abbrev Vals:List V->List Value->Prop:=Paired RelV
theorem Vals.length {xs:List V} {us:List Value} (r:Vals xs us):xs.length=us.length:=Paired.length r
theorem Vals.get:∀{xs:List V} {us:List Value} {i:Nat} {x:V},Vals xs us->xs[i]? =some x->∃u,us[i]? =some u/\RelV x u
 |_,_,_,_,.nil,e=>by simp at e
 |_,_,0,_,.cons r _,e=>by simp at e;subst e;exact⟨_,rfl,r⟩
 |_,_,i+1,x,.cons _ t,e=>by
  obtain⟨u,h1,h2⟩:=Vals.get (i:=i) (x:=x) t (by simpa using e)
  exact⟨u,by simpa using h1,h2⟩
theorem Vals.set {x:V} {u:Value} (r:RelV x u):∀{xs:List V} {us:List Value} (i:Nat),Vals xs us->Vals (xs.set i x) (us.set i u)
 |_,_,_,.nil=>.nil
 |_,_,0,.cons _ t=>.cons r t
 |_,_,i+1,.cons q t=>.cons q (Vals.set r i t)
theorem Vals.append:∀{xs ys:List V} {us ws:List Value},Vals xs us->Vals ys ws->Vals (xs++ys) (us++ws)
 |_,_,_,_,.nil,s=>s
 |_,_,_,_,.cons r t,s=>.cons r (Vals.append t s)
theorem Vals.take:∀{xs:List V} {us:List Value} (n:Nat),Vals xs us->Vals (xs.take n) (us.take n)
 |_,_,0,_=>.nil
 |_,_,_+1,.nil=>.nil
 |_,_,n+1,.cons r t=>.cons r (Vals.take n t)
theorem Vals.drop:∀{xs:List V} {us:List Value} (n:Nat),Vals xs us->Vals (xs.drop n) (us.drop n)
 |_,_,0,r=>r
 |_,_,_+1,.nil=>.nil
 |_,_,n+1,.cons _ t=>Vals.drop n t
def RelO:Option V->Option Value->Prop
 |some v,some u=>RelV v u
 |none,none=>True
 |_,_=>False
def KV {κ:Type}:List (κ×V)->List (κ×Value)->Prop:=Paired fun (p:κ×V) (q:κ×Value)=>p.1=q.1/\RelV p.2 q.2
def kV:zM->V
 |.inl i=>.int i
 |.inr x=>.str x
inductive MK where
 |one (k:zM)
 |tup (ks:List zM)
 deriving DecidableEq
def MK.hash (P:Program) (w:World):MK->Int
 |.one k=>(yr P w).hash k
 |.tup ks=>tupleKeyHash (yr P w) ks
def yq (P:Program) (w:World) (x:MK×Value×Value):DictEntry:=⟨x.1.hash P w,x.2.1,x.2.2⟩
inductive HO where
 |lst (xs:List V)
 |tup (xs:List V)
 |dK (kvs:List (zM×V))|dT (kvs:List (MK×V))
 |set (S:Int->Bool) (n:Nat)
 |ins (C dx:Addr) (fs:List (Str×V))
 |own (x:Addr)
 |xd (fs:List (Str×V))
 |met (f x:Addr)
 |rng (lo hi:Int)
 |frz (o:Obj) (u:HO)
 |tbl (ps:Array Value)
 |ext (φ:Heap->Prop)
abbrev Hp:=Addr->Option HO
def KyV (H:Hp):MK->Value->Prop
 |.one k,u=>RelV (kV k) u
 |.tup ks,u=> ∃b,u=.ref b/\H b=some (.tup (ks.map kV))
def KyV.mono {H H':Hp} (ht:∀b xs,H b=some (.tup xs)->H' b=some (.tup xs)):∀{k:MK} {u:Value},KyV H k u->KyV H' k u
 |.one _,_,h=>h
 |.tup _,_,⟨b,e,q⟩=>⟨b,e,ht _ _ q⟩
noncomputable def zk (H:Hp) (a:Addr) (o:HO):Hp:=fun b=>if b=a then some o else H b
def yM {H:Hp} {a:Addr} {o:HO}:zk H a o a=some o:=by unfold zk;rw[Ab rfl]
def zQ {H:Hp} {a b:Addr} {o:HO} (h:b≠a):zk H a o b=H b:=by unfold zk;rw[Ac h]
def P9 {H:Hp} {a b:Addr} {o u:HO} (h:H a=some o) (h':H b=some u) (d:o≠u):a≠b:=by
 intro e;subst e;rw[h]at h';exact d (Option.some.inj h')
def qk {H:Hp} {a b:Addr} {o:HO} (h:H a=some o) (h':H b=none):a≠b:=by
 intro e;subst e;rw[h]at h';cases h'
section
variable (P:Program) (w:World)
def ObjOk (H:Hp) (h:Heap) (a:Addr):HO->Prop
 |.lst xs=>xs.length<=sizeLine/\∃(its:List Value) (n:Nat),Vals xs its/\h.get? a=some {cls:= .type "list",data:= .seq its.toArray n}
 |.tup xs=>xs.length<=sizeLine/\∃its:List Value,Vals xs its/\IsTup h a its.toArray
 |.dK kvs=>kvs.length<=sizeLine/\(a==sysModules)=false/\∃vs,KV kvs vs/\h.DictOf (yr P w) a vs
 |.dT kvs=>kvs.length<=sizeLine/\(a==sysModules)=false/\∃xs:List (MK×Value×Value),Paired (fun (p:MK×V) (q:MK×Value×Value)=>p.1=q.1/\KyV H p.1 q.2.1/\RelV p.2 q.2.2) kvs xs/\
  ∃o es ep,h.get? a=some o/\o.ExactDict/\o.data=.dict es ep/\es.toList=xs.map (yq P w)/\(xs.map (·.1)).Nodup/\ep=xs.length
 |.set S n=>h.SetOf (intKind P w) a S n
 |.ins C dx fs=>H dx=some (.own a)/\fs.length<=1000/\dx≠a/\h.get? a=some (PySem.W.instObj C dx)/\
  ∃mA,h.Ns1 dx mA/\(∀f,RelO (fs.lookup f) (mA f))/\PySem.Within mA (fs.map (·.1))
 |.own _=> ∃o,h.get? a=some o
 |.xd fs=> ∃mA,h.Ns1 a mA/\∀f,RelO (fs.lookup f) (mA f)
 |.rng lo hi=> ∃t u v,h.get? a=some {cls:= .type "range",data:= .fields #[.int lo t,.int hi u,.int 1 v]}
 |.frz o u=>h.get? a=some o/\ObjOk H h a u
 |.tbl ps=>h.get? a=some {cls:= .none,data:= .fields ps}
 |.met f x=>h.get? a=some (PySem.W.methodObj (.ref f) (.ref x))
 |.ext φ=>φ h/\(∃o,h.get? a=some o)/\∀h1 h2:Heap,φ h1->(∀o,h1.get? a=some o->h2.get? a=some o)->φ h2
def HOk (H:Hp) (h:Heap):Prop:=∀a o,H a=some o->ObjOk P w H h a o
end
section
variable {P:Program} {w:World} {H H':Hp} {h h':Heap} {a:Addr} {o:HO}
theorem ObjOk.lt (x:ObjOk P w H h a o):a<h.objs.size:=by
 cases o with
 |lst xs=>obtain⟨_,_,_,_,e⟩:=x;exact Ai e
 |tup xs=>obtain⟨_,_,_,p⟩:=x;exact p.lt
 |dK kvs=>obtain⟨_,_,_,_,o,_,_,e,_⟩:=x;exact Ai e
 |dT kvs=>obtain⟨_,_,_,_,o,_,_,e,_⟩:=x;exact Ai e
 |set S n=>obtain⟨o,_,_,_,e,_⟩:=x;exact Ai e
 |ins C dx fs=>obtain⟨_,_,_,e,_⟩:=x;exact Ai e
 |own y=>obtain⟨_,e⟩:=x;exact Ai e
 |xd fs=>obtain⟨_,⟨_,_,_,e,_⟩,_⟩:=x;exact Ai e
 |rng lo hi=>obtain⟨_,_,_,e⟩:=x;exact Ai e
 |frz ob u=>obtain⟨e,_⟩:=x;exact Ai e
 |tbl ps=>exact Ai (show h.get? a=some _ from x)
 |met f y=>exact Ai (show h.get? a=some _ from x)
 |ext φ=>obtain⟨_,⟨_,e⟩,_⟩:=x;exact Ai e
theorem Paired.mapP {α β:Type} {F G:α->β->Prop}:∀{l₁:List α} {l₂:List β},Paired F l₁ l₂->(∀a b,F a b->G a b)->Paired G l₁ l₂
 |_,_,.nil,_=>.nil
 |_,_,.cons r t,f=>.cons (f _ _ r) (Paired.mapP t f)
def ObjOk.stay (x:ObjOk P w H h a o) (k:∀b u,(b=a\/H b=some (.own a))->h.get? b=some u->h'.get? b=some u)
  (ho:∀b,H b=some (.own a)->H' b=some (.own a)) (ht:∀b xs,H b=some (.tup xs)->H' b=some (.tup xs)):ObjOk P w H' h' a o:=by
 induction o with
 |lst xs=>obtain⟨z,its,n,r,e⟩:=x;exact⟨z,its,n,r,k _ _ (.inl rfl) e⟩
 |tup xs=>obtain⟨z,its,r,ob,e,c⟩:=x;exact⟨z,its,r,ob,k _ _ (.inl rfl) e,c⟩
 |dK kvs=>obtain⟨z,y,vs,r,ob,es,ep,e,c⟩:=x;exact⟨z,y,vs,r,ob,es,ep,k _ _ (.inl rfl) e,c⟩
 |dT kvs=>
  obtain⟨z,y,xs,r,ob,es,ep,e,c⟩:=x;exact⟨z,y,xs,Paired.mapP r fun p q z=>⟨z.1,z.2.1.mono ht,z.2.2⟩,ob,es,ep,k _ _ (.inl rfl) e,c⟩
 |set S n=>obtain⟨ob,es,ep,t,e,c⟩:=x;exact⟨ob,es,ep,t,k _ _ (.inl rfl) e,c⟩
 |ins C dx fs=>
  obtain⟨d,z,ne,e,mA,⟨od,es,ep,e2,c⟩,r⟩:=x;exact⟨ho _ d,z,ne,k _ _ (.inl rfl) e,mA,⟨od,es,ep,k _ _ (.inr d) e2,c⟩,r⟩
 |own y=>obtain⟨ob,e⟩:=x;exact⟨ob,k _ _ (.inl rfl) e⟩
 |xd fs=>obtain⟨mA,⟨od,es,ep,e,c⟩,r⟩:=x;exact⟨mA,⟨od,es,ep,k _ _ (.inl rfl) e,c⟩,r⟩
 |rng lo hi=>obtain⟨t,u,v,e⟩:=x;exact⟨t,u,v,k _ _ (.inl rfl) e⟩
 |frz ob u ih=>obtain⟨e,q⟩:=x;exact⟨k _ _ (.inl rfl) e,ih q⟩
 |tbl ps=>
  have e:h.get? a=some {cls:= .none,data:= .fields ps}:=x;show h'.get? a=some {cls:= .none,data:= .fields ps};exact k a _ (.inl rfl) e
 |met f y=>
  have e:h.get? a=some (PySem.W.methodObj (.ref f) (.ref y)):=x;show h'.get? a=some (PySem.W.methodObj (.ref f) (.ref y));exact k a _ (.inl rfl) e
 |ext φ=>obtain⟨p,⟨o,e⟩,st⟩:=x;exact⟨st _ _ p fun o q=>k _ _ (.inl rfl) q,⟨o,k _ _ (.inl rfl) e⟩,st⟩
theorem HOk.lt (x:HOk P w H h) (e:H a=some o):a<h.objs.size:=(x a o e).lt
def HOk.fresh (x:HOk P w H h) (e:h.objs.size<=a):H a=none:=by
 cases q:H a with
 |none=>rfl
 |some u=>exact absurd (Bk (x.lt q) e) (B7 _)
def HOk.kept (x:HOk P w H h) (k:∀b u,h.get? b=some u->h'.get? b=some u):HOk P w H h':=fun a o e=>
 (x a o e).stay (fun b u _ q=>k b u q) (fun _ q=>q) fun _ _ q=>q
def HOk.laid (x:HOk P w H h) (k:∀b u,h.get? b=some u->h'.get? b=some u) (hp:h.objs.size<=a) (new:ObjOk P w (zk H a o) h' a o):HOk P w (zk H a o) h':=fun b u e=>by
 have hn:=x.fresh hp
 by_cases hb:b=a
 .subst hb;rw[yM]at e;cases e;exact new
 .rw[zQ hb]at e
  exact (x b u e).stay (fun c v _ q=>k c v q) (fun c q=>by rw[zQ (qk q hn)];exact q) fun c xs q=>by rw[zQ (qk q hn)];exact q
end
def Rd (H:Hp) (a:Addr) (u:HO):Prop:=H a=some u\/∃o,H a=some (.frz o u)
def Rd.ok {P:Program} {w:World} {H:Hp} {h:Heap} {a:Addr} {u:HO} (r:Rd H a u) (x:HOk P w H h):ObjOk P w H h a u:=by
 rcases r with r|⟨o,r⟩
 .exact x a u r
 .obtain⟨_,q⟩:=x a _ r
  exact q
def Mut:Option HO->Prop
 |some (.lst _)=>True
 |some (.dK _)=>True
 |some (.dT _)=>True
 |some (.set _ _)=>True
 |some (.ins _ _ _)=>True
 |some (.ext _)=>True
 |_=>False
section
variable {P:Program} {w:World} {H:Hp} {h h':Heap} {x e:Addr} {o':HO}
def HOk.write (ok:HOk P w H h) (mu:Mut (H x)) (he:e=x\/H e=some (.own x)) (k:∀b u,b≠e->h.get? b=some u->h'.get? b=some u) (heo:∃u,h'.get? e=some u)
  (new:ObjOk P w (zk H x o') h' x o'):HOk P w (zk H x o') h':=fun b u q=>by
 have nown:∀c y,H c=some (.own y)->c≠x:=fun c y r z=>by subst z;rw[r]at mu;exact mu
 have ntup:∀c xs,H c=some (.tup xs)->c≠x:=fun c xs r z=>by subst z;rw[r]at mu;exact mu
 by_cases hb:b=x
 .subst hb;rw[yM]at q;cases q;exact new
 .rw[zQ hb]at q
  by_cases hbe:b=e
  .have q':H b=some (.own x):=by
    rcases he with z|z
    .exact absurd (hbe.trans z) hb
    .rw[hbe];exact z
   rw[q]at q';cases q';obtain⟨v,hv⟩:=heo;exact⟨v,by rw[hbe];exact hv⟩
  .refine (ok b u q).stay (fun c v hc r=>k c v ?_ r) (fun c r=>by rw[zQ (nown c b r)];exact r) fun c xs r=>by rw[zQ (ntup c xs r)];exact r
   rcases hc with rfl|hc
   .exact hbe
   .rintro rfl
    rcases he with z|z
    .exact nown c b hc z
    .rw[hc]at z;cases z;exact hb rfl
end
structure Un (fs ex:List Addr) (H H':Hp) (h h':Heap):Prop where
 keep:∀b o,h.get? b=some o->H b=none->b∉fs->b∉ex->h'.get? b=some o
 slot:∀b o,h.get? b=some o->H b=none->b∈fs->b∉ex->∃sl,h'.get? b=some {o with slots:=sl}
 free:∀b o,h.get? b=some o->H b=none->b∉ex->H' b=none
 there:∀b o,h.get? b=some o->b∉ex->∃o',h'.get? b=some o'
 tups:∀b xs,H b=some (.tup xs)->H' b=some (.tup xs)
 frzs:∀b o u,H b=some (.frz o u)->H' b=some (.frz o u)
 tbls:∀b ps,H b=some (.tbl ps)->∃more,H' b=some (.tbl (ps++more))
section
variable {fs fs' ex ex':List Addr} {H H1 H2:Hp} {h h1 h2 h':Heap} {a x e:Addr} {o:HO}
def Un.any (u:Un fs ex H H1 h h1) {b:Addr} {ob:Obj} (q:h.get? b=some ob) (n:H b=none) (hx:b∉ex):∃sl,h1.get? b=some {ob with slots:=sl}:=by
 by_cases hb:b∈fs
 .exact u.slot b ob q n hb hx
 .exact⟨ob.slots,u.keep b ob q n hb hx⟩
def Un.kept (k:∀b u,h.get? b=some u->h'.get? b=some u):Un fs ex H H h h':=
 ⟨fun b ob q _ _ _=>k b ob q,fun b ob q _ _ _=>⟨ob.slots,k b ob q⟩,fun _ _ _ n _=>n,fun b ob q _=>⟨ob,k b ob q⟩,fun _ _ q=>q,fun _ _ _ q=>q,fun _ ps q=>⟨#[],by rw[q];simp⟩⟩
def Un.refl:Un fs ex H H h h:=Un.kept fun _ _ q=>q
def Un.laid (k:∀b u,h.get? b=some u->h'.get? b=some u) (hp:h.objs.size<=a) (hn:H a=none):Un fs ex H (zk H a o) h h' where
 keep:=fun b u q _ _ _=>k b u q
 slot:=fun b u q _ _ _=>⟨u.slots,k b u q⟩
 free:=fun b u q n _=>by rw[zQ (Av (Bk (Ai q) hp))];exact n
 there:=fun b u q _=>⟨u,k b u q⟩
 tups:=fun b xs q=>by rw[zQ (qk q hn)];exact q
 frzs:=fun b u xs q=>by rw[zQ (qk q hn)];exact q
 tbls:=fun b ps q=>⟨#[],by rw[zQ (qk q hn),q];simp⟩
def Un.write (mu:Mut (H x)) (he:e=x\/H e=some (.own x)) (k:∀b u,b≠e->h.get? b=some u->h'.get? b=some u) (heo:∃u,h'.get? e=some u):Un fs ex H (zk H x o) h h':=by
 have hx:∀b,H b=none->b≠x:=fun b n z=>by subst z;rw[n]at mu;exact mu
 have hb:∀b,H b=none->b≠e:=fun b n z=>by
  subst z
  rcases he with r|r
  .exact hx b n r
  .rw[n]at r;cases r
 have hm:∀b u,H b=some u->¬Mut (some u)->b≠x:=fun b u q nm z=>by subst z;rw[q]at mu;exact nm mu
 refine⟨fun b u q n _ _=>k b u (hb b n) q,fun b u q n _ _=>⟨u.slots,k b u (hb b n) q⟩,fun b u q n _=>by rw[zQ (hx b n)];exact n,fun b u q _=>?_,
  fun b xs q=>by rw[zQ (hm b _ q fun z=>z)];exact q,fun b u xs q=>by rw[zQ (hm b _ q fun z=>z)];exact q,fun b ps q=>⟨#[],by rw[zQ (hm b _ q fun z=>z),q];simp⟩⟩
 by_cases hbe:b=e
 .subst hbe;exact heo
 .exact⟨u,k b u hbe q⟩
end
noncomputable def trk (h:Heap) (H:Hp):List Addr:=(List.range h.objs.size).filter fun a=>(H a).isSome
def hidT (h:Heap) (H:Hp):Heap:=PySem.W.hideAll h (trk h H)
def PB (h:Heap) (H:Hp):(hidT h H).objs.size=h.objs.size:=PySem.W.hideAll_size _ _
def PC {h:Heap} {H:Hp} {b:Addr} {o:Obj} (e:h.get? b=some o) (n:H b=none):(hidT h H).get? b=some o:=
 PySem.W.hideAll_get _ e fun hm=>by
  have q:(H b).isSome=true:=(Br.mp hm).2;rw[n]at q;simp at q
def PD {h:Heap} {H:Hp} {b:Addr} {o:Obj} (e:(hidT h H).get? b=some o):h.get? b=some o/\H b=none:=by
 have e':h.get? b=some o:=PySem.W.of_hideAll (trk h H) e
 refine⟨e',?_⟩
 cases q:H b with
 |none=>rfl
 |some x=>
  have hm:b∈trk h H:=Br.mpr ⟨Ay.mpr (Ai e'),by simp[q]⟩
  have z:(hidT h H).get? b=none:=Gd (trk h H) hm;rw[z]at e;cases e
structure Mod (K:FG) (mg:Str->Option Value) (base:Heap):Prop where
 kin:K.In base
 glob:base.Ns mainGlobals mg
 blt:∃mb,base.Ns builtinsNs mb/\∀x:Str,x≠"__name__" ->mb x=bootBuiltins x
 nolimit:base.NoLimit
structure Cx where
 prog:Program
 w:World
 K:FG
 mg:Str->Option Value
 base:Heap
 A:Around
 N:List Str
 s₀:Shared
 H₀:Hp
 env:Env
 outer:List Env
 stack:List Env
 ex:List Addr
 fn:Str->Bool
 calm:Bool
 pn:AL
 xe:VP
abbrev SE (X:Cx) (e:Expr) (es:List Expr):Prop:=starEach (e::es) X.env=(false,eval e X.env)::starEach es X.env
abbrev BA (X:Cx) (pos:Pos) (es:List Expr):Prop:=(backTo pos (starEach es X.env)).any (·.1)=false
def yQ (l:List Env):List Addr:=l.filterMap (·.frame)
abbrev Cx.fs (X:Cx):List Addr:=yQ X.outer
def Vis (sc:Scope) (x:Str):Prop:=sc.names.lookup x=some .local\/sc.names.lookup x=some .cell\/sc.names.lookup x=some .free
def jD (sc:Scope) (x:Str):Prop:=sc.names.lookup x=some .local\/sc.names.lookup x=some .cell
def Look (env:Env) (h:Heap) (m:Str->Option Value) (x:Str) (u:Value):Prop:=
 (env.kindOf x=some .local/\m x=some u)\/((env.kindOf x=some .cell\/env.kindOf x=some .free)/\∃c,env.cells.lookup x=some c/\h.IsCell c (some u))
structure Cx.Ok (X:Cx):Prop where
 mod:Mod X.K X.mg X.base
 kind:X.env.scope.kind=.function
 glob:X.env.globals=mainGlobals
 blt:X.env.builtins=builtinsNs
 above:X.s₀.heap.objs.size<=X.env.locals
 inj:∀x y c,X.env.cells.lookup x=some c->X.env.cells.lookup y=some c->x=y
 has:∀x,(X.env.kindOf x=some .cell\/X.env.kindOf x=some .free)->∃c,X.env.cells.lookup x=some c
 cab:∀x c,X.fn x=true->X.env.cells.lookup x=some c->X.s₀.heap.objs.size<=c
 hd:X.calm=true->X.A.handled=none
 frames:X.A.frames=some X.stack
 stk:X.stack=X.outer\/(X.stack=X.env::X.outer/\X.env.frame=some X.env.locals)
 exf:∀b∈X.ex,b≠X.env.locals/\∀x c,X.env.cells.lookup x=some c->c≠b
 bs:∀b o,X.base.get? b=some o->X.s₀.heap.get? b=some o/\X.H₀ b=none
 bsz:X.base.objs.size<=X.s₀.heap.objs.size
 noex:∀b o,X.base.get? b=some o->b∉X.ex
 exfs:∀b∈X.ex,b∉X.fs
 funs:X.s₀.heap.FunFrames X.base X.outer
 frf:∀b∈X.fs,X.H₀ b=none
structure Inv (X:Cx) (pins:AL) (σ:List (Option V)) (H:Hp) (s:Shared):Prop where
 ok:X.Ok
 os:s.os=X.s₀.os
 bare:AllBare s.gens
 base:Un X.fs X.ex X.H₀ H X.s₀.heap s.heap
 loc:∃m,s.heap.Ns X.env.locals m/\∀(i:Nat) (x:Str) (v:V),X.N[i]? =some x->σ[i]? =some (some v)->Vis X.env.scope x->∃u,RelV v u/\Look X.env s.heap m x u
 cell:∀x c,X.env.cells.lookup x=some c->∃v,s.heap.IsCell c v
 free:H X.env.locals=none
 freeC:∀x c,X.env.cells.lookup x=some c->H c=none
 pin:∀p∈X.pn++pins,s.heap.get? p.1=some p.2/\H p.1=none/\p.1≠X.env.locals/\p.1∉X.fs/\∀v,p.2.data≠ .cell v
 hok:HOk X.prog X.w H s.heap
 len:σ.length=X.N.length
section
variable {X:Cx} {pins:AL} {σ:List (Option V)} {H H':Hp} {s:Shared} {h':Heap}
def Cx.Ok.nofr (ok:X.Ok) {b:Addr} {o:Obj} (e:X.base.get? b=some o):b∉X.fs:=fun hb=>by
 have:=(ok.funs.mem hb).1;rw[e]at this;cases this
theorem Inv.bs (I:Inv X pins σ H s):∀b o,X.base.get? b=some o->s.heap.get? b=some o/\H b=none:=fun b o e=>
 ⟨I.base.keep b o (I.ok.bs b o e).1 (I.ok.bs b o e).2 (I.ok.nofr e) (I.ok.noex b o e),I.base.free b o (I.ok.bs b o e).1 (I.ok.bs b o e).2 (I.ok.noex b o e)⟩
def Inv.bk (I:Inv X pins σ H s):∀b o,X.base.get? b=some o->s.heap.get? b=some o:=fun b o e=>(I.bs b o e).1
theorem Inv.mod (I:Inv X pins σ H s):Mod X.K X.mg X.base:=I.ok.mod
def Inv.kIn (I:Inv X pins σ H s):X.K.In s.heap:=I.ok.mod.kin.keeps I.bk
theorem Inv.lt (I:Inv X pins σ H s):X.env.locals<s.heap.objs.size:=let ⟨_,hn,_⟩:=I.loc;hn.lt
def Inv.sz (I:Inv X pins σ H s):X.s₀.heap.objs.size<=s.heap.objs.size:=Bs I.ok.above (D4 I.lt)
def Inv.nofs (I:Inv X pins σ H s) {a:Addr} (h:s.heap.objs.size<=a):a∉X.fs:=fun hb=>by
 obtain⟨_,o,ho,_⟩:=I.ok.funs.mem hb;exact absurd (Bk (Ai ho) (Bs I.sz h)) (B7 _)
def Inv.cne (I:Inv X pins σ H s):∀x c,X.env.cells.lookup x=some c->c≠X.env.locals:=fun x c e z=>by
 obtain⟨v,o,ho,hd⟩:=I.cell x c e;obtain⟨m,⟨o',es,ep,ho',hd',_⟩,_⟩:=I.loc;rw[z,ho']at ho;cases ho;rw[hd']at hd;cases hd
theorem Inv.funs (I:Inv X pins σ H s):s.heap.FunFrames X.base X.outer:=by
 have all:∀(l:List Env),(∀b∈yQ l,b∈X.fs)->X.s₀.heap.FunFrames X.base l->s.heap.FunFrames X.base l:=by
  intro l
  induction l with
  |nil=>intro _ _;trivial
  |cons env r ih=>
   intro hs hl;obtain⟨hk,⟨L,o,hf,hn,ho,hd⟩,hr⟩:=hl;have hL:L∈X.fs:=hs L (by unfold yQ;rw[E6,hf];exact Ak)
   obtain⟨sl,e⟩:=I.base.slot L o ho (I.ok.frf L hL) hL fun z=>I.ok.exfs L z hL
   exact⟨hk,⟨L,_,hf,hn,e,hd⟩,ih (fun b hb=>hs b (by unfold yQ;rw[E6,hf];exact Ap _ hb)) hr⟩
 exact all X.outer (fun _ hb=>hb) I.ok.funs
theorem Inv.stack (I:Inv X pins σ H s):s.heap.FunFrames X.base X.stack:=by
 rcases I.ok.stk with e|⟨e,hf⟩
 .rw[e];exact I.funs
 .rw[e]
  obtain⟨m,hn,_⟩:=I.loc
  refine .cons (by rw[I.ok.kind];decide) hf hn ?_ I.funs
  exact Heap.get?_none_of_le (Bs I.ok.bsz I.ok.above)
def Inv.stkSub (I:Inv X pins σ H s):∀b∈yQ X.stack,b∈X.env.locals::X.fs:=fun b hb=>by
 rcases I.ok.stk with e|⟨e,hf⟩
 .rw[e]at hb;exact Ap _ hb
 .rw[e]at hb
  unfold yQ at hb;rw[E6,hf]at hb;exact hb
def Inv.stkFree (I:Inv X pins σ H s):∀b∈yQ X.stack,H b=none:=fun b hb=>by
 rcases Ag.mp (I.stkSub b hb) with e|hb
 .rw[e];exact I.free
 .obtain⟨_,o,ho,_⟩:=I.ok.funs.mem hb
  exact I.base.free b o ho (I.ok.frf b hb) fun z=>I.ok.exfs b z hb
def Inv.step {g':Array GenState} {t':Nat} {d':Drawn} {ch:List Addr} (I:Inv X pins σ H s)
  (hch:∀b∈ch,(b∈X.ex\/X.s₀.heap.objs.size<=b)/\b≠X.env.locals/\(∀x c,X.env.cells.lookup x=some c->c≠b)/\∀p∈X.pn++pins,p.1≠b)
  (keep:∀b o,b≠X.env.locals->b∉X.fs->b∉ch->s.heap.get? b=some o->H b=none->h'.get? b=some o)
  (slot:∀b o,b≠X.env.locals->b∈X.fs->b∉ch->s.heap.get? b=some o->H b=none->∃sl,h'.get? b=some {o with slots:=sl}) (free:∀b o,b∉ch->s.heap.get? b=some o->H b=none->H' b=none)
  (there:∀b o,b∉ch->s.heap.get? b=some o->∃o',h'.get? b=some o')
  (tups:∀b xs,H b=some (.tup xs)->H' b=some (.tup xs)) (frzs:∀b o u,H b=some (.frz o u)->H' b=some (.frz o u)) (tbls:∀b ps,H b=some (.tbl ps)->∃more,H' b=some (.tbl (ps++more)))
  (ns:∀m,s.heap.Ns X.env.locals m->h'.Ns X.env.locals m) (hok:HOk X.prog X.w H' h') (hg:AllBare g'):
  Inv X pins σ H' {s with heap:=h',gens:=g',drawn:=d',toks:=t'}:=by
 have neL:∀b o,X.s₀.heap.get? b=some o->b≠X.env.locals:=fun b o e=>Av (Bk (Ai e) I.ok.above)
 have neC:∀b o,X.s₀.heap.get? b=some o->b∉X.ex->b∉ch:=fun b o e hx hb=>by
  rcases (hch b hb).1 with z|z
  .exact hx z
  .exact absurd (Bk (Ai e) z) (B7 _)
 have cellK:∀x c,X.env.cells.lookup x=some c->∀v,s.heap.IsCell c v->h'.IsCell c v:=fun x c e v ⟨o,ho,hd⟩=>by
  have nch:c∉ch:=fun z=>(hch c z).2.2.1 x c e rfl
  by_cases hc:c∈X.fs
  .obtain⟨sl,q⟩:=slot c o (I.cne x c e) hc nch ho (I.freeC x c e)
   exact⟨_,q,hd⟩
  .exact⟨o,keep c o (I.cne x c e) hc nch ho (I.freeC x c e),hd⟩
 refine⟨I.ok,I.os,hg,⟨fun b o e n hb hx=>?_,fun b o e n hb hx=>?_,fun b o e n hx=>?_,fun b o e hx=>?_,fun b xs e=>tups b xs (I.base.tups b xs e),fun b o xs e=>frzs b o xs (I.base.frzs b o xs e),fun b ps e=>?_⟩,?_,fun x c e=>?_,?_,fun x c e=>?_,fun p hp=>?_,hok,I.len⟩
 .exact keep b o (neL b o e) hb (neC b o e hx) (I.base.keep b o e n hb hx) (I.base.free b o e n hx)
 .obtain⟨sl,e1⟩:=I.base.slot b o e n hb hx
  obtain⟨sl',e2⟩:=slot b _ (neL b o e) hb (neC b o e hx) e1 (I.base.free b o e n hx);exact⟨sl',e2⟩
 .obtain⟨o',e1⟩:=I.base.there b o e hx
  exact free b o' (neC b o e hx) e1 (I.base.free b o e n hx)
 .obtain⟨o',e1⟩:=I.base.there b o e hx
  exact there b o' (neC b o e hx) e1
 .obtain⟨m1,e1⟩:=I.base.tbls b ps e
  obtain⟨m2,e2⟩:=tbls b _ e1;exact⟨m1++m2,by rw[e2,Array.append_assoc]⟩
 .obtain⟨m,hn,hl⟩:=I.loc
  refine⟨m,ns m hn,fun i x v e1 e2 e3=>?_⟩
  obtain⟨u,r,l⟩:=hl i x v e1 e2 e3
  refine⟨u,r,?_⟩
  rcases l with l|⟨k,c,e,z⟩
  .exact .inl l
  .exact .inr ⟨k,c,e,cellK x c e _ z⟩
 .obtain⟨v,z⟩:=I.cell x c e
  exact⟨v,cellK x c e v z⟩
 .obtain⟨m,⟨o,_,_,ho,_⟩,_⟩:=I.loc
  exact free _ o (fun z=>(hch _ z).2.1 rfl) ho I.free
 .obtain⟨v,o,ho,hd⟩:=I.cell x c e
  exact free c o (fun z=>(hch c z).2.2.1 x c e rfl) ho (I.freeC x c e)
 .obtain⟨e,n,ne,nf,d⟩:=I.pin p hp
  have nch:p.1∉ch:=fun z=>(hch p.1 z).2.2.2 p hp rfl
  exact⟨keep p.1 p.2 ne nf nch e n,free p.1 p.2 nch e n,ne,nf,d⟩
def Inv.un {t':Nat} (I:Inv X pins σ H s) (u:Un X.fs [] H H' s.heap h') (hok:HOk X.prog X.w H' h'):Inv X pins σ H' {s with heap:=h',toks:=t'}:=by
 obtain⟨m,⟨o,es,ep,ho,r⟩,_⟩:=id I.loc;obtain⟨sl,hL⟩:=u.any ho I.free (by simp)
 exact I.step (g':=s.gens) (d':=s.drawn) (ch:=[]) (fun _ z=>nomatch z) (fun b o _ hb _ e n=>u.keep b o e n hb (by simp)) (fun b o _ hb _ e n=>u.slot b o e n hb (by simp)) (fun b o _ e n=>u.free b o e n (by simp)) (fun b o _ e=>u.there b o e (by simp)) u.tups u.frzs u.tbls (fun m' hm=>by
  obtain⟨o',es',ep',ho',r'⟩:=hm;rw[ho]at ho';cases ho';exact⟨_,es',ep',hL,r'⟩) hok I.bare
def Inv.call {g':Array GenState} {t':Nat} {d':Drawn} {ch:List Addr} (I:Inv X pins σ H s) (u:Un (yQ X.stack) ch H H' s.heap h') (hok:HOk X.prog X.w H' h') (hg:AllBare g')
  (hch:∀b∈ch,(b∈X.ex\/X.s₀.heap.objs.size<=b)/\b≠X.env.locals/\(∀x c,X.env.cells.lookup x=some c->c≠b)/\∀p∈X.pn++pins,p.1≠b):
  Inv X pins σ H' {s with heap:=h',gens:=g',drawn:=d',toks:=t'}:=by
 obtain⟨m,⟨o,es,ep,ho,r⟩,_⟩:=id I.loc;obtain⟨sl,hL⟩:=u.any ho I.free fun z=>(hch _ z).2.1 rfl
 exact I.step (ch:=ch) hch (fun b o hL hb hc e n=>u.keep b o e n (fun z=>(Ag.mp (I.stkSub b z)).elim hL hb) hc) (fun b o _ _ hc e n=>u.any e n hc) (fun b o hc e n=>u.free b o e n hc) (fun b o hc e=>u.there b o e hc) u.tups u.frzs u.tbls (fun m' hm=>by
  obtain⟨o',es',ep',ho',r'⟩:=hm;rw[ho]at ho';cases ho';exact⟨_,es',ep',hL,r'⟩) hok hg
def Inv.turned {t':Nat} {it:Addr} (I:Inv X pins σ H s) (k:∀b o,b≠it->s.heap.get? b=some o->h'.get? b=some o) (hn:H it=none) (hL:it≠X.env.locals)
  (h1:it∈X.ex\/X.s₀.heap.objs.size<=it) (h2:∀x c,X.env.cells.lookup x=some c->c≠it) (h3:∀p∈X.pn++pins,p.1≠it):Inv X pins σ H {s with heap:=h',toks:=t'}:=by
 have nit:∀b u,H b=some u->b≠it:=fun b u e z=>by rw[z,hn]at e;cases e
 refine I.step (g':=s.gens) (d':=s.drawn) (ch:=[it]) (fun b hb=>?_) (fun b o _ _ hc e _=>k b o (fun z=>hc (by simp[z])) e) (fun b o _ _ hc e _=>⟨o.slots,k b o (fun z=>hc (by simp[z])) e⟩) (fun _ _ _ _ n=>n)
  (fun b o hc e=>⟨o,k b o (fun z=>hc (by simp[z])) e⟩) (fun _ _ e=>e) (fun _ _ _ e=>e) (fun b ps e=>⟨#[],by rw[e];simp⟩) (fun m hm=>?_) (fun b u e=>?_) I.bare
 .have e:b=it:=by simpa using hb
  subst e;exact⟨h1,hL,h2,h3⟩
 .obtain⟨o,es,ep,ho,r⟩:=hm
  exact⟨o,es,ep,k _ o (Cf hL) ho,r⟩
 .refine (I.hok b u e).stay (fun c v hc q=>k c v ?_ q) (fun _ q=>q) fun _ _ q=>q
  rcases hc with z|z
  .rw[z];exact nit b u e
  .exact nit c _ z
def Inv.tok (I:Inv X pins σ H s) (t:Nat):Inv X pins σ H {s with toks:=t}:=I.un (h':=s.heap) (t':=t) Un.refl I.hok
theorem Inv.kept {t':Nat} (I:Inv X pins σ H s) (k:∀b u,s.heap.get? b=some u->h'.get? b=some u):Inv X pins σ H {s with heap:=h',toks:=t'}:=I.un (Un.kept k) (I.hok.kept k)
theorem Inv.laid {a:Addr} {o:HO} {t':Nat} (I:Inv X pins σ H s) (k:∀b u,s.heap.get? b=some u->h'.get? b=some u) (hp:s.heap.objs.size<=a) (new:ObjOk X.prog X.w (zk H a o) h' a o):
 Inv X pins σ (zk H a o) {s with heap:=h',toks:=t'}:=I.un (Un.laid k hp (I.hok.fresh hp)) (I.hok.laid k hp new)
theorem Inv.write {x e:Addr} {o:HO} {t':Nat} (I:Inv X pins σ H s) (mu:Mut (H x)) (he:e=x\/H e=some (.own x)) (k:∀b u,b≠e->s.heap.get? b=some u->h'.get? b=some u) (heo:∃u,h'.get? e=some u)
 (new:ObjOk X.prog X.w (zk H x o) h' x o):Inv X pins σ (zk H x o) {s with heap:=h',toks:=t'}:=I.un (Un.write mu he k heo) (I.hok.write mu he k heo new)
def Inv.pins_of {pins':AL} (I:Inv X pins σ H s) (h:∀p∈pins',s.heap.get? p.1=some p.2/\H p.1=none/\p.1≠X.env.locals/\p.1∉X.fs/\∀v,p.2.data≠ .cell v):Inv X pins' σ H s:=
 ⟨I.ok,I.os,I.bare,I.base,I.loc,I.cell,I.free,I.freeC,fun p hp=>(As.mp hp).elim (fun z=>I.pin p (B8 _ z)) (h p),I.hok,I.len⟩
def Lh {N:List Str} (hN:N.Nodup) {i j:Nat} {x:Str} (a:N[i]? =some x) (b:N[j]? =some x):i=j:=by
 obtain⟨h1,e1⟩:=An.mp a;obtain⟨h2,e2⟩:=An.mp b;exact (List.getElem_inj hN).mp (e1.trans e2.symm)
def PF {M:Model} {A:Around} {E:VP} {i:Nat} {x:Str} {v:V} {u:Value} {Q:Unit->Shared->Prop} (I:Inv X pins σ H s) (hN:X.N.Nodup) (hi:X.N[i]? =some x) (hx:jD X.env.scope x) (r:RelV v u)
  (h:∀s',Inv X pins (σ.set i (some v)) H s'->(∃a,Heap.SameBut a s.heap s'.heap/\(a=X.env.locals\/X.env.cells.lookup x=some a))->Q () s') (hf:X.fn x=true\/X.env.scope.names.lookup x=some .local:=by first|exact .inl rfl|exact .inr rfl|assumption):wpAny M A (storeName X.env x u) Q E s:=by
 obtain⟨m,hn,hl⟩:=id I.loc;have hcls:(X.env.scope.kind== .class || (X.env.scope.kind== .module && X.env.locals !=X.env.globals))=false:=by rw[I.ok.kind];rfl
 have hiσ:i<σ.length:=by rw[I.len];exact (An.mp hi).1
 have cne:=I.cne;have tracked:∀{a:Addr} {h':Heap},(∃o,s.heap.get? a=some o/\H a=none)->Heap.SameBut a s.heap h'->HOk X.prog X.w H h':=fun {a h'} ha hs b ob e=>by
  obtain⟨_,_,hfree⟩:=ha
  refine (I.hok b ob e).stay (fun c w' hc q=>(hs.2 c ?_).trans q) (fun _ q=>q) fun _ _ q=>q
  rintro rfl
  rcases hc with rfl|hc
  .rw[hfree]at e;cases e
  .rw[hfree]at hc;cases hc
 rcases hx with hk|hk
 .refine wpAny_storeName_local hk hn (fun h' hn' hs=>?_) hcls
  obtain⟨oL,_,_,hoL,_⟩:=id hn
  refine h _ ⟨I.ok,I.os,I.bare,⟨fun b o e n hb hx=>?_,fun b o e n hb hx=>?_,I.base.free,fun b o e hx=>?_,I.base.tups,I.base.frzs,I.base.tbls⟩,⟨_,hn',fun j y v' e1 e2 e3=>?_⟩,fun y c e=>?_,I.free,I.freeC,fun p hp=>?_,tracked ⟨oL,hoL,I.free⟩ hs,by simpa using I.len⟩ ⟨_,hs,.inl rfl⟩
  .exact (hs.2 b (Av (Bk (Ai e) I.ok.above))).trans (I.base.keep b o e n hb hx)
  .obtain⟨sl,e1⟩:=I.base.slot b o e n hb hx
   exact⟨sl,(hs.2 b (Av (Bk (Ai e) I.ok.above))).trans e1⟩
  .obtain⟨o',e1⟩:=I.base.there b o e hx
   exact⟨o',(hs.2 b (Av (Bk (Ai e) I.ok.above))).trans e1⟩
  .by_cases hj:j=i
   .subst hj
    rw[hi]at e1;cases e1;rw[List.getElem?_set_self hiσ]at e2
    cases e2;exact⟨u,r,.inl ⟨hk,by simp⟩⟩
   .rw[List.getElem?_set_ne (Cf hj)]at e2
    obtain⟨u',r',q⟩:=hl j y v' e1 e2 e3
    refine⟨u',r',?_⟩
    rcases q with ⟨k,e⟩|⟨k,c,e,z⟩
    .refine .inl ⟨k,?_⟩
     have:y≠x:=fun e=>hj (Lh hN e1 (e ▸ hi))
     simp[this,e]
    .exact .inr ⟨k,c,e,z.sameBut hs (cne y c e)⟩
  .obtain⟨w',z⟩:=I.cell y c e
   exact⟨w',z.sameBut hs (cne y c e)⟩
  .obtain⟨e,n,ne,nf,d⟩:=I.pin p hp
   exact⟨(hs.2 p.1 ne).trans e,n,ne,nf,d⟩
 .have hfn:X.fn x=true:=by
   rcases hf with z|z
   .exact z
   .rw[z]at hk;cases hk
  obtain⟨c,hc⟩:=I.ok.has x (.inl hk);obtain⟨w',z⟩:=I.cell x c hc
  refine wpAny_storeName_cell I.ok.kind hk hc z (fun h' hc' hs=>?_)
  obtain⟨oc,hoc,hocd⟩:=id z
  refine h {s with heap:=h'} ⟨I.ok,I.os,I.bare,⟨fun b o e n hb hx=>?_,fun b o e n hb hx=>?_,I.base.free,fun b o e hx=>?_,I.base.tups,I.base.frzs,I.base.tbls⟩,⟨m,hn.sameBut hs (Cf (cne x c hc)),fun j y v' e1 e2 e3=>?_⟩,fun y c' e=>?_,I.free,I.freeC,fun p hp=>?_,tracked ⟨oc,hoc,I.freeC x c hc⟩ hs,by simpa using I.len⟩ ⟨c,hs,.inr hc⟩
  .exact (hs.2 b (Av (Bk (Ai e) (I.ok.cab x c hfn hc)))).trans (I.base.keep b o e n hb hx)
  .obtain⟨sl,e1⟩:=I.base.slot b o e n hb hx
   exact⟨sl,(hs.2 b (Av (Bk (Ai e) (I.ok.cab x c hfn hc)))).trans e1⟩
  .obtain⟨o',e1⟩:=I.base.there b o e hx
   exact⟨o',(hs.2 b (Av (Bk (Ai e) (I.ok.cab x c hfn hc)))).trans e1⟩
  .by_cases hj:j=i
   .subst hj
    rw[hi]at e1;cases e1;rw[List.getElem?_set_self hiσ]at e2
    cases e2;exact⟨u,r,.inr ⟨.inl hk,c,hc,hc'⟩⟩
   .rw[List.getElem?_set_ne (Cf hj)]at e2
    obtain⟨u',r',q⟩:=hl j y v' e1 e2 e3
    refine⟨u',r',?_⟩
    rcases q with q|⟨k,c',e,z'⟩
    .exact .inl q
    .refine .inr ⟨k,c',e,z'.sameBut hs ?_⟩
     rintro rfl;exact hj (Lh hN e1 (I.ok.inj _ _ _ e hc ▸ hi))
  .by_cases hcc:c'=c
   .subst hcc;exact⟨_,hc'⟩
   .obtain⟨w2,z2⟩:=I.cell y c' e
    exact⟨w2,z2.sameBut hs hcc⟩
  .obtain⟨e,n,ne,nf,d⟩:=I.pin p hp
   refine⟨(hs.2 p.1 ?_).trans e,n,ne,nf,d⟩
   intro q;rw[q,hoc]at e;have q':oc=p.2:=Option.some.inj e;exact d w' (by rw[<-q'];exact hocd)
def GU {M:Model} {A:Around} {E:VP} {i:Nat} {x:Str} {v:V} {u:Value} {Q:Unit->Shared->Prop} (I:Inv X pins σ H s) (hN:X.N.Nodup) (hi:X.N[i]? =some x) (hx:jD X.env.scope x) (r:RelV v u)
  (h:∀s',Inv X pins (σ.set i (some v)) H s'->Q () s') (hf:X.fn x=true\/X.env.scope.names.lookup x=some .local:=by first|exact .inl rfl|exact .inr rfl|assumption):wpAny M A (storeName X.env x u) Q E s:=
 PF I hN hi hx r (fun s' I' _=>h s' I') hf
def Inv.call' {s':Shared} {ch:List Addr} (I:Inv X pins σ H s) (ho:s'.os=s.os) (u:Un (yQ X.stack) ch H H' s.heap s'.heap) (hok:HOk X.prog X.w H' s'.heap) (hg:AllBare s'.gens)
  (hch:∀b∈ch,(b∈X.ex\/X.s₀.heap.objs.size<=b)/\b≠X.env.locals/\(∀x c,X.env.cells.lookup x=some c->c≠b)/\∀p∈X.pn++pins,p.1≠b):Inv X pins σ H' s':=by
 obtain⟨h',g',d',t',o'⟩:=s';have e:o'=s.os:=ho;subst e;exact I.call (g':=g') (t':=t') (d':=d') u hok hg hch
end
abbrev XK:=Value->Option Addr->Hp->Prop
abbrev St:=List (Option V)
abbrev VK:=V->Hp->Prop
abbrev TE:=St->Hp->VK->Prop
abbrev TT:=St->Hp->(Bool->Hp->Prop)->Prop
abbrev TA:=St->Hp->(List V->Hp->Prop)->Prop
structure Ends where
 nx:St->Hp->Prop
 rt:VK
 bk:St->Hp->Prop:=fun _ _=>False
 ct:St->Hp->Prop:=fun _ _=>False
abbrev TS:=Ends->St->Hp->Prop
def EP (X:Cx) (pins:AL) (σ:St) (Q:VK) (u:Value) (s':Shared):Prop:=∃v H',Inv X pins σ H' s'/\RelV v u/\Q v H'
def TP (X:Cx) (pins:AL) (σ:St) (Q:Bool->Hp->Prop) (b:Bool) (s':Shared):Prop:=∃H',Inv X pins σ H' s'/\Q b H'
def AP (X:Cx) (pins:AL) (σ:St) (Q:List V->Hp->Prop) (us:List Value) (s':Shared):Prop:=∃vs H',Inv X pins σ H' s'/\Vals vs us/\Q vs H'
def SP (X:Cx) (pins:AL) (D:Ends) (f:Flow) (s':Shared):Prop:=
 match f with
 |.next=> ∃σ' H',Inv X pins σ' H' s'/\D.nx σ' H'
 |.brk=> ∃σ' H',Inv X pins σ' H' s'/\D.bk σ' H'
 |.cont=> ∃σ' H',Inv X pins σ' H' s'/\D.ct σ' H'
 |.ret u=> ∃v σ' H',Inv X pins σ' H' s'/\RelV v u/\D.rt v H'
def PE (X:Cx) (e:Expr) (t:TE):Prop:=
 ∀(pins:AL) (s:Shared) (σ:St) (H:Hp) (Q:VK),Inv X pins σ H s->t σ H Q->wpAny (model X.prog X.w) X.A (eval e X.env) (EP X pins σ Q) X.xe s
def PT (X:Cx) (e:Expr) (t:TT):Prop:=
 ∀(pins:AL) (s:Shared) (σ:St) (H:Hp) (Q:Bool->Hp->Prop),Inv X pins σ H s->t σ H Q->wpAny (model X.prog X.w) X.A (isTrue e X.env (eval e X.env)) (TP X pins σ Q) X.xe s
def PW (X:Cx) (e:Expr) (t:TT):Prop:=
 ∀(whole:Sem Value) (pins:AL) (s:Shared) (σ:St) (H:Hp) (Q:Bool->Hp->Prop),Inv X pins σ H s->t σ H Q->wpAny (model X.prog X.w) X.A (isTrue e X.env whole) (TP X pins σ Q) X.xe s
def PW.pt {X:Cx} {e:Expr} {t:TT} (h:PW X e t):PT X e t:=h _
def PA (X:Cx) (es:List Expr) (t:TA):Prop:=
 ∀(pos:Pos) (pins:AL) (s:Shared) (σ:St) (H:Hp) (Q:List V->Hp->Prop),Inv X pins σ H s->t σ H Q->wpAny (model X.prog X.w) X.A (spliced (backTo pos (starEach es X.env))) (AP X pins σ Q) X.xe s
def PS (X:Cx) (st:Stmt) (t:TS):Prop:=
 ∀(pins:AL) (s:Shared) (σ:St) (H:Hp) (D:Ends),Inv X pins σ H s->t D σ H->wpAny (model X.prog X.w) X.A (exec st X.env) (SP X pins D) X.xe s
def yS (X:Cx) (st:List Stmt) (t:TS):Prop:=
 ∀(pins:AL) (s:Shared) (σ:St) (H:Hp) (D:Ends),Inv X pins σ H s->t D σ H->wpAny (model X.prog X.w) X.A (execs st X.env) (SP X pins D) X.xe s
def thn {α:Type} {t:Sem α} {Q Q':α->Shared->Prop} {M:Model} {A:Around} {E:VP} {s:Shared} (h:wpAny M A t Q E s) (hQ:∀a s,Q a s->Q' a s):wpAny M A t Q' E s:=B9 h hQ fun _ _ x=>x
section
variable {X:Cx}
def tVar (i:Nat):TE:=fun σ H Q=> ∃v,σ[i]? =some (some v)/\Q v H
def tC (v:V):TE:=fun _ H Q=>Q v H
def PH {i:Nat} {x:Str} {pos:Pos} (hN:X.N[i]? =some x) (hv:Vis X.env.scope x) (hd:(x==("__debug__" :Str))=false:=by decide) (hcd:(x==("__classdict__" :Str))=false:=by decide):PE X (.Name x pos) (tVar i):=by
 intro pins s σ H Q I h;obtain⟨v,e,h⟩:=h;obtain⟨m,hn,hl⟩:=I.loc;obtain⟨u,r,l⟩:=hl i x v hN e hv;have fin:EP X pins σ Q u s:=⟨v,H,I,r,h⟩
 rcases l with ⟨hk,hm⟩|⟨hk,c,hc,hcell⟩
 .exact wpAny_Name (wpAny_loadName_local I.ok.kind hk hn hm fin) hd
 .rcases hk with hk|hk
  .exact wpAny_Name (wpAny_loadName_cell I.ok.kind hk hc hcell fin) hd
  .exact wpAny_Name (wpAny_loadName_free I.ok.kind hk hc hcell fin hcd) hd
def PJ {i j pos}:PE X (.Constant (.int i) j pos) (tC (.int i)):=fun _ _ _ H _ I h=>wpAny_Constant_int ⟨.int i,H,I.tok _,⟨_,rfl⟩,h⟩
def PK {b j pos}:PE X (.Constant (.bool b) j pos) (tC (.bl b)):=fun _ _ _ H _ I h=>Constant_bool ⟨.bl b,H,I,rfl,h⟩
def PL {j pos}:PE X (.Constant .none j pos) (tC .non):=fun _ _ _ H _ I h=>Constant_none ⟨.non,H,I,rfl,h⟩
def PM {x j pos}:PE X (.Constant (.str x) j pos) (tC (.str x)):=fun _ _ _ H _ I h=>Calls.Constant_str ⟨.str x,H,I.tok _,⟨_,rfl⟩,h⟩
def Gl (X:Cx) (x:Str):Prop:=X.env.kindOf x=some .globalImplicit
def Iz {E:VP} {pins:AL} {s:Shared} {σ:St} {H:Hp} {x:Str} {u:Value} {pos:Pos} {Q:VP} (I:Inv X pins σ H s) (hg:Gl X x) (hm:X.mg x=some u) (h:Q u s)
  (hd:(x==("__debug__" :Str))=false:=by decide):wpAny (model X.prog X.w) X.A (eval (.Name x pos) X.env) Q E s:=
 Calls.Name_function_global I.ok.kind hg (Calls.loadGlobal_global (by rw[I.ok.glob];exact I.mod.glob.keeps I.bk) hm h) hd
def BL {E:VP} {pins:AL} {s:Shared} {σ:St} {H:Hp} {x:Str} {u:Value} {pos:Pos} {Q:VP} (I:Inv X pins σ H s) (hg:Gl X x) (hm:X.mg x=none) (hv:bootBuiltins x=some u) (h:Q u s)
  (hn:x≠"__name__" :=by decide) (hd:(x==("__debug__" :Str))=false:=by decide):wpAny (model X.prog X.w) X.A (eval (.Name x pos) X.env) Q E s:=by
 obtain⟨mb,h1,h2⟩:=I.mod.blt;exact Calls.Name_function_global I.ok.kind hg (Calls.loadGlobal_builtin (by rw[I.ok.glob];exact I.mod.glob.keeps I.bk) hm (by rw[I.ok.blt];exact h1.keeps I.bk) ((h2 x hn).trans hv) h) hd
def ji {x:Str} {v:V} {u:Value} {pos:Pos} (hg:Gl X x) (hm:X.mg x=some u) (r:RelV v u) (hd:(x==("__debug__" :Str))=false:=by decide):PE X (.Name x pos) (tC v):=
 fun _ _ _ H _ I h=>Iz I hg hm ⟨v,H,I,r,h⟩ hd
def EE {x:Str} {v:V} {u:Value} {pos:Pos} (hg:Gl X x) (hm:X.mg x=none) (hv:bootBuiltins x=some u) (r:RelV v u) (hn:x≠"__name__" :=by decide) (hd:(x==("__debug__" :Str))=false:=by decide):PE X (.Name x pos) (tC v):=
 fun _ _ _ H _ I h=>BL I hg hm hv ⟨v,H,I,r,h⟩ hn hd
variable {a b:Expr} {ta tb:TE} {pos:Pos}
def tB (t:TE):TT:=fun σ H Q=>t σ H fun x H1=> ∃c,x=.bl c/\Q c H1
def PN {e:Expr} {t:TE} (h:PE X e t) (he:∀whole,isTrue e X.env whole=(do let v <-whole;standAt e.pos;holding [v] (truthy v)):=by intro _;rfl):PT X e (tB t):=by
 intro pins s σ H Q I hw
 refine isTrue_plain (thn (h pins s σ H _ I hw) fun v s1 ⟨x,H1,I1,r1,q1⟩=>?_) (he _)
 obtain⟨d,rfl,q⟩:=q1;cases r1;exact Cg ⟨H1,I1,q⟩
variable {tA tB':TT} {rest:List Expr}
def tAnd (t u:TT):TT:=fun σ H Q=>t σ H fun c H1=>if c=true then u σ H1 Q else Q false H1
def tOr (t u:TT):TT:=fun σ H Q=>t σ H fun c H1=>if c=true then Q true H1 else u σ H1 Q
def tNot (t:TT):TT:=fun σ H Q=>t σ H fun c H1=>Q (!c) H1
def PP (ha:PT X a tA):PW X (.BoolOp .And [a] pos) tA:=by
 intro wh pins s σ H Q I h
 refine isTrue_and (thn (ha pins s σ H Q I h) fun c s1 e=>?_)
 cases c with
 |true=>exact isTrue_and_nil e
 |false=>exact e
def PQ (ha:PT X a tA):PW X (.BoolOp .Or [a] pos) tA:=by
 intro wh pins s σ H Q I h
 refine isTrue_or (thn (ha pins s σ H Q I h) fun c s1 e=>?_)
 cases c with
 |false=>exact isTrue_or_nil e
 |true=>exact e
def PR (ha:PT X a tA) (hb:PW X (.BoolOp .And (b::rest) pos) tB'):PW X (.BoolOp .And (a::b::rest) pos) (tAnd tA tB'):=by
 intro wh pins s σ H Q I h
 refine isTrue_and (thn (ha pins s σ H _ I h) fun c s1 ⟨H1,I1,q1⟩=>?_)
 cases c with
 |true=>exact hb wh pins s1 σ H1 Q I1 q1
 |false=>exact⟨H1,I1,q1⟩
def PU (ha:PT X a tA) (hb:PW X (.BoolOp .Or (b::rest) pos) tB'):PW X (.BoolOp .Or (a::b::rest) pos) (tOr tA tB'):=by
 intro wh pins s σ H Q I h
 refine isTrue_or (thn (ha pins s σ H _ I h) fun c s1 ⟨H1,I1,q1⟩=>?_)
 cases c with
 |true=>exact⟨H1,I1,q1⟩
 |false=>exact hb wh pins s1 σ H1 Q I1 q1
def PV (ha:PT X a tA):PT X (.UnaryOp .Not a pos) (tNot tA):=by
 intro pins s σ H Q I h;exact isTrue_not (ha pins s σ H (fun c H1=>Q (!c) H1) I h)
def PX (ta tb:TE):TE:=fun σ H Q=>ta σ H fun x H1=> ∃c,x=.bl c/\if c=true then tb σ H1 Q else Q (.bl false) H1
def PY (ta:TE):TE:=fun σ H Q=>ta σ H fun x H1=> ∃c,x=.bl c/\Q (.bl (!c)) H1
def PZ {op} {t:TE} (h:PE X a t):PE X (.BoolOp op [a] pos) t:=fun pins s σ H Q I hw=>BoolOp_one (h pins s σ H Q I hw)
def Qa (ha:PE X a ta) (hb:PE X (.BoolOp .And (b::rest) pos) tb):PE X (.BoolOp .And (a::b::rest) pos) (PX ta tb):=by
 intro pins s σ H Q I h
 refine BoolOp_and (thn (ha pins s σ H _ I h) fun v s1 ⟨x,H1,I1,r1,q1⟩=>?_)
 obtain⟨c,rfl,q1⟩:=q1;cases r1
 refine Cg ?_
 cases c with
 |true=>exact hb pins s1 σ H1 Q I1 q1
 |false=>exact⟨.bl false,H1,I1,rfl,q1⟩
def Qb (ha:PE X a ta):PE X (.UnaryOp .Not a pos) (PY ta):=by
 intro pins s σ H Q I h
 refine UnaryOp_ (thn (ha pins s σ H _ I h) fun v s1 ⟨x,H1,I1,r1,q1⟩=>?_)
 obtain⟨c,rfl,q1⟩:=q1;cases r1;exact not_of (Cg ⟨.bl (!c),H1,I1,rfl,q1⟩)
end
def SqL (K:FG) (H:Hp) (a:Addr) (xs:List V):Prop:=
 Rd H a (.lst xs)\/
  ∃(o:Obj) (its:Array Value) (n:Nat),K.lookup a=some o/\o.cls=.type "list" /\o.dict=none/\o.data=.seq its n/\its.size<=sizeLine/\Vals xs its.toList
def SqT (K:FG) (H:Hp) (a:Addr) (xs:List V):Prop:=
 Rd H a (.tup xs)\/
  ∃(o:Obj) (its:Array Value) (n:Nat),K.lookup a=some o/\o.cls=.type "tuple" /\o.data=.seq its n/\its.size<=sizeLine/\Vals xs its.toList
noncomputable def absV:Value->Option V
 |.none=>some .non
 |.bool b=>some (.bl b)
 |.int i _=>some (.int i)
 |.str x _=>some (.str x)
 |.bytes b _=>some (.byt b)
 |.float b _=>some (.flt b)
 |.ref a=>some (.ref a)
 |.type n=>some (.ty n)
 |_=>none
def RelV.abs {x:V} {u:Value} (r:RelV x u):absV u=some x:=by
 cases x with
 |non=>cases r;rfl
 |bl _=>cases r;rfl
 |int _=>obtain⟨t,rfl⟩:=r;rfl
 |str _=>obtain⟨t,rfl⟩:=r;rfl
 |byt _=>obtain⟨t,rfl⟩:=r;rfl
 |flt _=>obtain⟨t,rfl⟩:=r;rfl
 |ref _=>cases r;rfl
 |ty _=>cases r;rfl
theorem RelV.inj {x y:V} {u:Value} (r:RelV x u) (q:RelV y u):x=y:=Option.some.inj (r.abs.symm.trans q.abs)
theorem Vals.inj:∀{xs ys:List V} {us:List Value},Vals xs us->Vals ys us->xs=ys
 |_,_,_,.nil,.nil=>rfl
 |_,_,_,.cons r t,.cons r' t'=>by rw[r.inj r',Vals.inj t t']
section
variable {X:Cx} {pins:AL} {σ:St} {H:Hp} {s:Shared} {a:Addr} {xs ys:List V}
def SqL.of {K:FG} (h:H a=some (.lst xs)):SqL K H a xs:= .inl (.inl h)
def SqT.of {K:FG} (h:H a=some (.tup xs)):SqT K H a xs:= .inl (.inl h)
def Inv.list (I:Inv X pins σ H s) (h:SqL X.K H a xs):∃its:List Value,Vals xs its/\PlainL s.heap a its.toArray/\xs.length<=sizeLine:=by
 rcases h with h|⟨o,its,n,hk,hc,hd,hs,hz,r⟩
 .obtain⟨z,its,n,r,e⟩:=h.ok I.hok
  exact⟨its,r,⟨_,n,e,rfl,rfl,rfl⟩,z⟩
 .refine⟨its.toList,r,⟨o,n,I.kIn a o hk,hc,hd,by simpa using hs⟩,?_⟩
  have e:=r.length;simp only[Bz]at e;lia
def Inv.tuple (I:Inv X pins σ H s) (h:SqT X.K H a xs):∃its:List Value,Vals xs its/\IsTup s.heap a its.toArray/\xs.length<=sizeLine:=by
 rcases h with h|⟨o,its,n,hk,hc,hs,hz,r⟩
 .obtain⟨z,its,r,p⟩:=h.ok I.hok
  exact⟨its,r,p,z⟩
 .refine⟨its.toList,r,⟨o,I.kIn a o hk,hc,n,by simpa using hs⟩,?_⟩
  have e:=r.length;simp only[Bz]at e;lia
def Inv.list_inj (I:Inv X pins σ H s) (h:SqL X.K H a xs) (h':SqL X.K H a ys):xs=ys:=by
 obtain⟨its,r,⟨o,n,e,_,_,d⟩,_⟩:=I.list h;obtain⟨its',r',⟨o',n',e',_,_,d'⟩,_⟩:=I.list h';rw[e]at e';cases e';rw[d]at d';injection d' with d1 _
 have:its=its':=by simpa using congrArg Array.toList d1
 subst this;exact r.inj r'
end
section
variable {X:Cx} {st:Stmt} {rest:List Stmt} {t u:TS} {e:Expr} {te:TE} {pos:Pos}
def Qc:TS:=fun D σ H=>D.nx σ H
def tSeq (t u:TS):TS:=fun D σ H=>t {D with nx:=u D} σ H
def Qd:yS X [] Qc:=fun _ _ σ H _ I h=>E7 ⟨σ,H,I,h⟩
def Qe (h1:PS X st t) (h2:yS X rest u):yS X (st::rest) (tSeq t u):=by
 intro pins s σ H D I h
 refine wpAny_execs_cons (thn (h1 pins s σ H {D with nx:=u D} I h) fun f s1 q=>?_)
 cases f with
 |next=>
  obtain⟨σ',H',I',q⟩:=q;exact h2 pins s1 σ' H' D I' q
 |ret v=>exact q
 |brk=>exact q
 |cont=>exact q
def Qf (h1:PS X st t):yS X [st] t:=by
 intro pins s σ H D I h
 refine wpAny_execs_cons (thn (h1 pins s σ H D I h) fun f s1 q=>?_)
 cases f with
 |next=>exact E7 q
 |ret v=>exact q
 |brk=>exact q
 |cont=>exact q
def Inv.quiet {pins:AL} {σ:St} {H:Hp} {s:Shared} (I:Inv X pins σ H s):interactive X.env=false:=by simp[interactive,I.ok.kind]
def Qg (te:TE):TS:=fun D σ H=>te σ H fun _ H1=>D.nx σ H1
def IA (he:PE X e te) (hs:swapsWith e none pos.line X.env=pure false:=by rfl):PS X (.Expr e pos) (Qg te):=by
 intro pins s σ H D I h;exact wpAny_Expr_any (thn (he pins s σ H _ I h) fun v s1 ⟨x,H1,I1,r1,q1⟩=>⟨σ,H1,I1,q1⟩) I.quiet hs
def tRet (te:TE):TS:=fun D σ H=>te σ H D.rt
def Li (he:PE X e te):PS X (.Return (some e) pos) (tRet te):=by
 intro pins s σ H D I h;exact wpAny_Return_some (thn (he pins s σ H _ I h) fun v s1 ⟨x,H1,I1,r1,q1⟩=>⟨x,σ,H1,I1,r1,q1⟩)
def tIfS (c:TT) (t u:TS):TS:=fun D σ H=>c σ H fun b H1=>if b=true then t D σ H1 else u D σ H1
def Qh {c:Expr} {a b:List Stmt} {tc:TT} (hc:PT X c tc) (ha:yS X a t) (hb:yS X b u):PS X (.If c a b pos) (tIfS tc t u):=by
 intro pins s σ H D I h
 refine wpAny_If (thn (hc pins s σ H _ I h) fun d s1 ⟨H1,I1,q1⟩=>?_)
 cases d with
 |true=>exact ha pins s1 σ H1 D I1 q1
 |false=>exact hb pins s1 σ H1 D I1 q1
def Qi:TS:=fun _ _ _=>False
def Qj:PS X st Qi:=fun _ _ _ _ _ _ h=>h.elim
end
abbrev TG:=V->St->Hp->(St->Hp->Prop)->Prop
abbrev jI:=List V->St->Hp->(St->Hp->Prop)->Prop
def PG (X:Cx) (target:Expr) (t:TG):Prop:=
 ∀(pins:AL) (s:Shared) (σ:St) (H:Hp) (v:V) (u:Value) (Q:St->Hp->Prop),Inv X pins σ H s->RelV v u->t v σ H Q->
  wpAny (model X.prog X.w) X.A (assign target X.env u) (fun _ s'=> ∃σ' H',Inv X pins σ' H' s'/\Q σ' H') X.xe s
def jg (X:Cx) (ts:List Expr) (t:jI):Prop:=
 ∀(pins:AL) (s:Shared) (σ:St) (H:Hp) (vs:List V) (us:List Value) (Q:St->Hp->Prop),Inv X pins σ H s->Vals vs us->t vs σ H Q->
  wpAny (model X.prog X.w) X.A (assignInOrder ((assignEach ts X.env).map (·.2)) us) (fun _ s'=> ∃σ' H',Inv X pins σ' H' s'/\Q σ' H') X.xe s
abbrev TSet:=V->V->V->Hp->(Hp->Prop)->Prop
def PSet (X:Cx) (t:TSet):Prop:=
 ∀(pins:AL) (s:Shared) (σ:St) (H:Hp) (o i v:V) (ov iv u:Value) (Q:Hp->Prop),Inv X pins σ H s->RelV o ov->RelV i iv->RelV v u->t o i v H Q->
  wpAny (model X.prog X.w) X.A (setItem ov iv u) (fun _ s'=> ∃H',Inv X pins σ H' s'/\Q H') X.xe s
abbrev TIp:=V->V->Hp->VK->Prop
def PIp (X:Cx) (op:Operator) (t:TIp):Prop:=
 ∀(pins:AL) (s:Shared) (σ:St) (H:Hp) (x y:V) (v u:Value) (Q:VK),Inv X pins σ H s->RelV x v->RelV y u->t x y H Q->
  wpAny (model X.prog X.w) X.A (inplaceOp op v u) (EP X pins σ Q) X.xe s
section
variable {X:Cx} {pos:Pos}
def EF (i:Nat):TG:=fun v σ H Q=>Q (σ.set i (some v)) H
def IB {i:Nat} {x:Str} (hN:X.N.Nodup) (hi:X.N[i]? =some x) (hx:jD X.env.scope x) (hf:X.fn x=true\/X.env.scope.names.lookup x=some .local:=by first|exact .inl rfl|exact .inr rfl|assumption):PG X (.Name x pos) (EF i):=by
 intro pins s σ H v u Q I r h;exact wpAny_assign_Name (GU I hN hi hx r (fun s' I'=>⟨_,H,I',h⟩) hf)
def gNil:jI:=fun vs σ H Q=>vs=[]/\Q σ H
def Lk (t:TG) (u:jI):jI:=fun vs σ H Q=> ∃v r,vs=v::r/\t v σ H fun σ' H'=>u r σ' H' Q
def Qk:jg X [] gNil:=by
 intro pins s σ H vs us Q I r h;obtain⟨e,h⟩:=h;subst e;cases r;exact assignInOrder_nil ⟨σ,H,I,h⟩
def zV {e:Expr} {es:List Expr} {t:TG} {u:jI} (h1:PG X e t) (h2:jg X es u)
  (hs:(assignEach (e::es) X.env).map (·.2)=assign e X.env::(assignEach es X.env).map (·.2):=by rfl):jg X (e::es) (Lk t u):=by
 intro pins s σ H vs us Q I r h;obtain⟨v,vr,e1,h⟩:=h;subst e1;cases r with
 |cons r rr=>
  rw[hs]
  refine assignInOrder_cons (thn (h1 pins s σ H _ _ _ I r h) fun _ s1 ⟨σ1,H1,I1,q1⟩=>?_)
  exact h2 pins s1 σ1 H1 _ _ Q I1 rr q1
def gTup (K:FG) (n:Nat) (t:jI):TG:=fun v σ H Q=> ∃a xs,v=.ref a/\SqT K H a xs/\xs.length=n/\t xs σ H Q
def jL {es:List Expr} {k:Nat} {t:jI} {n:Nat} (hc:X.calm=true) (h:jg X es t)
  (hn:(assignEach es X.env).length=n:=by rfl) (hst:(assignEach es X.env).findIdx? (·.1)=none:=by rfl):PG X (.Tuple es k pos) (gTup X.K n t):=by
 intro pins s σ H v u Q I r hw;obtain⟨a,xs,e1,hq,hl,hw⟩:=hw;subst e1;cases r;obtain⟨its,rv,ht,hz⟩:=I.tuple hq
 refine assign_Tuple_tuple (I.ok.hd hc) ht (by simp[hn,<-hl,rv.length]) hst fun h' hx=>?_
 have I1:Inv X pins σ H {s with heap:=h'}:=I.kept (t':=s.toks) fun b o e=>hx b o (Av (Ai e)) e
 exact h pins _ σ H xs _ Q I1 (by simpa using rv) hw
def gSub (to ti:TE) (t:TSet):TG:=fun v σ H Q=>to σ H fun o H1=>ti σ H1 fun i H2=>t o i v H2 fun H3=>Q σ H3
def Ql {o i:Expr} {to ti:TE} {t:TSet} (ho:PE X o to) (hi:PE X i ti) (hs:PSet X t)
  (ha:∀v,assign (.Subscript o i pos) X.env v=(do
   let ov <-holding [v] (eval o X.env)
   let iv <-holding [v,ov] (eval i X.env)
   standAt pos
   holding [v,ov,iv] (setItem ov iv v)
   release [v,ov,iv] []):=by intro _;rfl):PG X (.Subscript o i pos) (gSub to ti t):=by
 intro pins s σ H v u Q I r h;rw[ha]
 refine Aa (Bt (thn (ho pins s σ H _ I h) fun ov s1 ⟨x,H1,I1,r1,q1⟩=>?_))
 refine Aa (Bt (thn (hi pins s1 σ H1 _ I1 q1) fun iv s2 ⟨y,H2,I2,r2,q2⟩=>?_))
 refine Aa (wpAny_standAt (Aa (Bt (thn (hs pins s2 σ H2 x y v ov iv u _ I2 r1 r2 r q2) fun _ s3 ⟨H3,I3,q3⟩=>?_))))
 exact wpAny_release ⟨σ,H3,I3,q3⟩
def tAsg (te:TE) (g:TG):TS:=fun D σ H=>te σ H fun x H1=>g x σ H1 D.nx
def IC {tg e:Expr} {te:TE} {g:TG} (he:PE X e te) (hg:PG X tg g) (hs:swapsWithSole [tg] e pos.line X.env=pure false:=by rfl) (hw:swappedStores [tg] e X.env=pure none:=by rfl)
  (h1:(assignEach [tg] X.env).map (·.2)=[assign tg X.env]:=by rfl):PS X (.Assign [tg] e pos) (tAsg te g):=by
 intro pins s σ H D I h
 refine wpAny_Assign_stores (thn (he pins s σ H _ I h) fun v s1 ⟨x,H1,I1,r1,q1⟩=>?_) hs hw
 rw[h1];exact thn (hg pins s1 σ H1 x v _ I1 r1 q1) fun _ s2 q=>q
def Ll {i:Nat} {x:Str} {e:Expr} {te:TE} {pos':Pos} (hN:X.N.Nodup) (hi:X.N[i]? =some x) (hx:jD X.env.scope x) (he:PE X e te) (hs:swapsWith e (some (.Name x pos')) pos.line X.env=pure false:=by rfl) (hf:X.fn x=true\/X.env.scope.names.lookup x=some .local:=by first|exact .inl rfl|exact .inr rfl|assumption):
  PS X (.Assign [.Name x pos'] e pos) (tAsg te (EF i)):=by
 intro pins s σ H D I h
 refine wpAny_Assign_Name (thn (he pins s σ H _ I h) fun v s1 ⟨y,H1,I1,r1,q1⟩=>?_) hs
 exact GU I1 hN hi hx r1 (fun s2 I2=>⟨_,H1,I2,q1⟩) hf
def tAug (i:Nat) (te:TE) (ti:TIp):TS:=fun D σ H=> ∃x,σ[i]? =some (some x)/\te σ H fun y H1=>ti x y H1 fun z H2=>D.nx (σ.set i (some z)) H2
def Lm {i:Nat} {x:Str} {e:Expr} {te:TE} {op:Operator} {ti:TIp} {pos':Pos} (hN:X.N.Nodup) (hi:X.N[i]? =some x) (hx:jD X.env.scope x) (he:PE X e te) (ho:PIp X op ti) (hf:X.fn x=true\/X.env.scope.names.lookup x=some .local:=by first|exact .inl rfl|exact .inr rfl|assumption):
  PS X (.AugAssign (.Name x pos') op e pos) (tAug i te ti):=by
 intro pins s σ H D I h;obtain⟨v,e1,h⟩:=h;obtain⟨m,hn,hl⟩:=I.loc;have vis:Vis X.env.scope x:=by rcases hx with k|k;exact .inl k;exact .inr (.inl k)
 obtain⟨u,r,l⟩:=hl i x v hi e1 vis
 refine wpAny_AugAssign_Name ?_
 have go:wpAny (model X.prog X.w) X.A (eval e X.env) (fun w s₂=>wpAny (model X.prog X.w) X.A (inplaceOp op u w) (fun r s₃=>wpAny (model X.prog X.w) X.A (storeName X.env x r) (fun _=>SP X pins D .next) X.xe s₃) X.xe s₂) X.xe s:=by
  refine thn (he pins s σ H _ I h) fun w s1 ⟨y,H1,I1,r1,q1⟩=>?_
  refine thn (ho pins s1 σ H1 v y u w _ I1 r r1 q1) fun z s2 ⟨zv,H2,I2,r2,q2⟩=>?_
  exact GU I2 hN hi hx r2 (fun s3 I3=>⟨_,H2,I3,q2⟩) hf
 rcases l with ⟨hk,hm⟩|⟨hk,c,hc,hcell⟩
 .exact wpAny_loadName_local I.ok.kind hk hn hm go
 .rcases hk with hk|hk
  .exact wpAny_loadName_cell I.ok.kind hk hc hcell go
  .rcases hx with k|k
   .have:X.env.scope.names.lookup x=some .free:=hk
    rw[k]at this;cases this
   .have:X.env.scope.names.lookup x=some .free:=hk
    rw[k]at this;cases this
def Ln (to ti te:TE) (tget:V->V->Hp->VK->Prop) (tip:TIp) (tset:TSet):TS:=fun D σ H=>to σ H fun o H1=>ti σ H1 fun i H2=>tget o i H2 fun x H3=>te σ H3 fun y H4=>tip x y H4 fun z H5=>tset o i z H5 fun H6=>D.nx σ H6
def PGet (X:Cx) (t:V->V->Hp->VK->Prop):Prop:=
 ∀(pins:AL) (s:Shared) (σ:St) (H:Hp) (o i:V) (ov iv:Value) (Q:VK),Inv X pins σ H s->RelV o ov->RelV i iv->t o i H Q->
  wpAny (model X.prog X.w) X.A (getItem ov iv) (EP X pins σ Q) X.xe s
def Qm {o i e:Expr} {to ti te:TE} {tget:V->V->Hp->VK->Prop} {tip:TIp} {tset:TSet} {op:Operator} {tpos:Pos} (ho:PE X o to) (hi:PE X i ti) (hg:PGet X tget) (he:PE X e te) (hp:PIp X op tip) (hs:PSet X tset)
  (ha:∀ov iv new,augStore i ov iv new=(do holding [new,ov,iv] (setItem ov iv new);release [new,ov,iv] [];pure .next):=by intros;rfl):PS X (.AugAssign (.Subscript o i tpos) op e pos) (Ln to ti te tget tip tset):=by
 intro pins s σ H D I h
 refine wpAny_AugAssign_SubscriptAny (thn (ho pins s σ H _ I h) fun ov s1 ⟨x1,H1,I1,r1,q1⟩=>?_) ha
 refine thn (hi pins s1 σ H1 _ I1 q1) fun iv s2 ⟨x2,H2,I2,r2,q2⟩=>?_
 refine thn (hg pins s2 σ H2 x1 x2 ov iv _ I2 r1 r2 q2) fun old s3 ⟨x3,H3,I3,r3,q3⟩=>?_
 refine thn (he pins s3 σ H3 _ I3 q3) fun v s4 ⟨x4,H4,I4,r4,q4⟩=>?_
 refine thn (hp pins s4 σ H4 x3 x4 old v _ I4 r3 r4 q4) fun new s5 ⟨x5,H5,I5,r5,q5⟩=>?_
 exact thn (hs pins s5 σ H5 x1 x2 x5 ov iv new _ I5 r1 r2 r5 q5) fun _ s6 ⟨H6,I6,q6⟩=>⟨σ,H6,I6,q6⟩
def ipI (f:Int->Int->Int):TIp:=fun x y H Q=> ∃i j,x=.int i/\y=.int j/\Q (.int (f i j)) H
def ID:PIp X .Add (ipI fun i j=>i+j):=by
 intro pins s σ H x y v u Q I r1 r2 h;obtain⟨i,j,e1,e2,q⟩:=h;subst e1;subst e2;obtain⟨t,rfl⟩:=r1;obtain⟨t',rfl⟩:=r2;exact iadd_int ⟨.int _,H,I.tok _,⟨_,rfl⟩,q⟩
def IE:PIp X .Sub (ipI fun i j=>i-j):=by
 intro pins s σ H x y v u Q I r1 r2 h;obtain⟨i,j,e1,e2,q⟩:=h;subst e1;subst e2;obtain⟨t,rfl⟩:=r1;obtain⟨t',rfl⟩:=r2;exact isub_int ⟨.int _,H,I.tok _,⟨_,rfl⟩,q⟩
end
section
variable {X:Cx} {pos:Pos}
def Lo (c:TT) (tb:TS):TS:=fun D σ H=> ∃W:Nat->St->Hp->Prop,(∃m,W m σ H)/\∀m σ H,W m σ H->
 c σ H fun b H1=>if b=true then ∃N:St->Hp->Prop,(∀σ' H',N σ' H'->∃m',m' < m/\W m' σ' H')/\tb {D with nx:=N,ct:=N,bk:=D.nx} σ H1 else D.nx σ H1
def Qn {c:Expr} {body:List Stmt} {tc:TT} {tb:TS} (hp:PassesOwn (model X.prog X.w) X.A X.env X.xe) (hc:PT X c tc) (hb:yS X body tb):PS X (.While c body [] pos) (Lo tc tb):=by
 intro pins s σ H D I h;obtain⟨W,⟨m0,w0⟩,turn⟩:=h
 refine wpAny_While (codeAny_whileLoop (fun n s'=> ∃σ' H',Inv X pins σ' H' s'/\W n σ' H') ?_ m0 ⟨σ,H,I,w0⟩)
 rintro n s1 ⟨σ1,H1,I1,w1⟩
 refine Dp hp (thn (hc pins s1 σ1 H1 _ I1 (turn n σ1 H1 w1)) fun b s2 ⟨H2,I2,q2⟩=>?_)
 cases b with
 |true=>
  obtain⟨N,hN,q2⟩:=q2;rw[Ab rfl]
  refine Dp hp (thn (hb pins s2 σ1 H2 _ I2 q2) fun f s3 q3=>?_)
  cases f with
  |next=>
   obtain⟨σ3,H3,I3,n3⟩:=q3;obtain⟨m',hm,w3⟩:=hN σ3 H3 n3;exact⟨m',hm,σ3,H3,I3,w3⟩
  |cont=>
   obtain⟨σ3,H3,I3,n3⟩:=q3;obtain⟨m',hm,w3⟩:=hN σ3 H3 n3;exact⟨m',hm,σ3,H3,I3,w3⟩
  |brk=>exact q3
  |ret v=>exact q3
 |false=>
  rw[Ac Ba];exact E7 ⟨σ1,H2,I2,q2⟩
end
structure It where
 go:Nat->Hp->Prop
 yld:Nat->Hp->V->Hp->Prop
 stop:Nat->Hp->Prop
def yN (X:Cx) (pins:AL) (H:Hp) (b:Addr):Prop:=
 H b=none/\b≠X.env.locals/\b∉X.fs/\(b∈X.ex\/X.s₀.heap.objs.size<=b)/\(∀x c,X.env.cells.lookup x=some c->c≠b)/\∀p∈X.pn++pins,p.1≠b
def Inv.fpOk {X:Cx} {pins:AL} {σ:St} {H H':Hp} {s:Shared} {b:Addr} (I:Inv X pins σ H s) (hb:s.heap.objs.size<=b) (hn:H' b=none):yN X pins H' b:=by
 refine⟨hn,C8 (Bk I.lt hb),I.nofs hb,.inr (Bs I.sz hb),fun x c e z=>?_,fun p hp z=>?_⟩
 .obtain⟨v,q⟩:=I.cell x c e
  exact absurd (Bk q.lt (by rw[z];exact hb)) (B7 _)
 .exact absurd (Bk (Ai (I.pin p hp).1) (by rw[z];exact hb)) (B7 _)
structure Turn (P:Program) (w:World) (K:FG) (tg:Expr) (J:It) (fp:List Addr) (it:Addr) (tn:Nat->Heap->Prop):Prop where
 mem:it∈fp
 obj:∀i h,tn i h->∀b∈fp,∃o,h.get? b=some o/\∀v,o.data≠ .cell v
 keep:∀i h h',tn i h->(∀b∈fp,∀o,h.get? b=some o->h'.get? b=some o)->tn i h'
 item:∀(X:Cx),X.prog=P->X.w=w->X.K=K->X.calm=true->∀(i:Nat) (pins:AL) (s:Shared) (σ:St) (H:Hp) (E:VP),Inv X pins σ H s->(∀b∈fp,yN X pins H b)->tn i s.heap->J.go i H->
  wpAny (model P w) X.A (pyNext (.ref it)) (fun r s1=> ∃u,r=some u/\
   wpAny (model P w) X.A (letOwnedTupleGo tg (.ref it) u) (fun _ s2=> ∃x H',Inv X pins σ H' s2/\RelV x u/\J.yld i H x H'/\tn (i+1) s2.heap/\∀b∈fp,H' b=none) E s1) E s
 done:∀(X:Cx),X.prog=P->X.w=w->X.K=K->X.calm=true->∀(i:Nat) (pins:AL) (s:Shared) (σ:St) (H:Hp) (E:VP),Inv X pins σ H s->(∀b∈fp,yN X pins H b)->tn i s.heap->J.stop i H->
  wpAny (model P w) X.A (pyNext (.ref it)) (fun r s1=>r=none/\Inv X pins σ H s1) E s
 self:∀(A:Around) (i:Nat) (s:Shared) (Q:VP) (E:VP),tn i s.heap->Q (.ref it) s->wpAny (model P w) A (pyIter (.ref it)) Q E s
abbrev TI:=St->Hp->(It->Hp->Prop)->Prop
def PIE (X:Cx) (pins:AL) (σ:St) (tg:Expr) (R:It->Hp->Prop) (itv:Value) (s2:Shared):Prop:=
 ∃(it:Addr) (fp:List Addr) (tn:Nat->Heap->Prop) (J:It) (H':Hp),itv=.ref it/\Inv X pins σ H' s2/\Turn X.prog X.w X.K tg J fp it tn/\tn 0 s2.heap/\(∀b∈fp,yN X pins H' b)/\R J H'
def PI (X:Cx) (tg iter:Expr) (wi:TI):Prop:=
 ∀(pins:AL) (s:Shared) (σ:St) (H:Hp) (R:It->Hp->Prop),Inv X pins σ H s->wi σ H R->
  wpAny (model X.prog X.w) X.A (eval iter X.env) (fun v s1=>wpAny (model X.prog X.w) X.A (pyIter v) (PIE X pins σ tg R) X.xe s1) X.xe s
def EG {M:Model} {A:Around} {E:VP} {s:Shared} {tg:Expr} {it:Addr} {u:Value} {o:Obj} {n:String} {vs:Array Value} {Q:Unit->Shared->Prop} (ho:s.heap.get? it=some o) (hc:o.cls=.type n) (hd:o.data=.fields vs)
    (hn:["enumerate","zip","dict_itemiterator","dict_reverseitemiterator","odict_iterator","itertools.zip_longest","itertools.pairwise"].contains n=false) (hQ:Q () s):wpAny M A (letOwnedTupleGo tg (.ref it) u) Q E s:=by
  unfold letOwnedTupleGo;cases tg<;>first
    |exact Ad hQ
    | (cases u<;>first
        |exact Ad hQ
        | (refine Aa (wpAny_load ho ?_)
           rw[hc,hd];show wpAny M A (if (["enumerate","zip","dict_itemiterator","dict_reverseitemiterator","odict_iterator","itertools.zip_longest","itertools.pairwise"].contains n && vs[0]? ==some (rawInt _))=true then _ else _) Q E s
           rw[Ac (by intro h;rw[hn,C9]at h;cases h)]
           exact Ad hQ))
def Itl (K:FG) (a:Addr):It:=
 ⟨fun i H=> ∃xs x,SqL K H a xs/\xs[i]? =some x,fun i H x H'=>H'=H/\∀xs,SqL K H a xs->xs[i]? =some x,fun i H=> ∃xs,SqL K H a xs/\xs.length<=i⟩
def Itr (lo:Int) (n:Nat):It:=⟨fun i _=>i<n,fun i H x H'=>H'=H/\x=.int (lo+i),fun i _=>n<=i⟩
def Qo {P:Program} {w:World} {K:FG} {tg:Expr} (a it:Addr):Turn P w K tg (Itl K a) [it] it (fun i h=>h.IsListIter it a i) where
 mem:=by simp
 obj:=fun i h st b hb=>by
  have e:b=it:=by simpa using hb
  subst e;obtain⟨o,e,c,d⟩:=st;exact⟨o,e,fun v z=>by rw[d]at z;cases z⟩
 keep:=fun i h h' st k=>st.at fun o e=>k it (by simp) o e
 item:=by
  intro X hP hw hK hc i pins s σ H E I hf st hg;subst hP hw hK;obtain⟨xs,x,hq,hx⟩:=hg;obtain⟨its,rv,p,hz⟩:=I.list hq;obtain⟨u,hu,ru⟩:=rv.get hx;obtain⟨f0,f1,f2,f3,f4,f5⟩:=hf it (by simp)
  refine wpAny_pyNext_list_item st p.isList (x:=u) (by simpa using hu) fun h' st' sb=>?_
  have I1:Inv X pins σ H {s with heap:=h'}:=I.turned (t':=s.toks) (fun b o hb e=>(sb.2 b hb).trans e) f0 f1 f3 f4 f5
  obtain⟨o,e,c,d⟩:=id st';exact⟨u,rfl,EG (s:={s with heap:=h'}) e c d (by decide) ⟨x,H,I1,ru,⟨rfl,fun ys hy=>by rw[I.list_inj hy hq];exact hx⟩,st',fun b hb=>(hf b hb).1⟩⟩
 done:=by
  intro X hP hw hK hc i pins s σ H E I hf st hg;subst hP hw hK;obtain⟨xs,hq,hx⟩:=hg;obtain⟨its,rv,p,hz⟩:=I.list hq;obtain⟨f0,f1,f2,f3,f4,f5⟩:=hf it (by simp)
  have hl:=rv.length;exact wpAny_pyNext_list_end (I.ok.hd hc) st p.isList (by simp;lia) fun h' eb=>⟨rfl,I.turned (t':=s.toks) (fun b o hb e=>eb b o hb e) f0 f1 f3 f4 f5⟩
 self:=fun _ _ _ _ _ st h=>wpAny_pyIter_listiter st h
def Qp {P:Program} {w:World} {K:FG} {tg:Expr} (it:Addr) (lo:Int) (n:Nat):Turn P w K tg (Itr lo n) [it] it (fun i h=>IsRangeIter h it (lo+(i:Nat)*1) ((n:Int)-(i:Nat)) 1) where
 mem:=by simp
 obj:=fun i h st b hb=>by
  have e:b=it:=by simpa using hb
  subst e;exact⟨_,st,fun v z=>by
   have z':Data.fields _=Data.cell v:=z;cases z'⟩
 keep:=fun i h h' st k=>k it (by simp) _ st
 item:=by
  intro X hP hw hK hc i pins s σ H E I hf st hg;subst hP hw hK;obtain⟨f0,f1,f2,f3,f4,f5⟩:=hf it (by simp)
  have W:=Walks.range (prog:=X.prog) (w:=X.w) (I.ok.hd hc) it lo 1 n
  refine W.item i s _ _ hg st fun v h' tk hv st' kk=>?_
  obtain⟨t,rfl⟩:=hv;have I1:Inv X pins σ H {s with heap:=h',toks:=tk}:=I.turned (fun b o hb e=>kk b o (by simpa using hb) e) f0 f1 f3 f4 f5
  refine⟨_,rfl,EG (s:={s with heap:=h',toks:=tk}) (n:="range_iterator") st' rfl rfl (by decide) ⟨.int (lo+i),H,I1,⟨t,?_⟩,⟨rfl,rfl⟩,st',fun b hb=>(hf b hb).1⟩⟩
  rw[Int.mul_one]
 done:=by
  intro X hP hw hK hc i pins s σ H E I hf st hg;subst hP hw hK;obtain⟨f0,f1,f2,f3,f4,f5⟩:=hf it (by simp)
  exact wpAny_pyNext_range_end (I.ok.hd hc) st (by have:n<=i:=hg;lia) fun h' eb=>⟨rfl,I.turned (t':=s.toks) (fun b o hb e=>eb b o hb e) f0 f1 f3 f4 f5⟩
 self:=fun _ _ _ _ _ st h=>wpAny_pyIter_rangeiter st h
section
variable {X:Cx} {tg:Expr}
def Qq (K:FG) (tl:TE):TI:=fun σ H R=>tl σ H fun x H1=> ∃a,x=.ref a/\(∃xs,SqL K H1 a xs)/\R (Itl K a) H1
def Qr {l:Expr} {tl:TE} (hl:PE X l tl):PI X tg l (Qq X.K tl):=by
 intro pins s σ H R I h
 refine thn (hl pins s σ H _ I h) fun v s1 ⟨x,H1,I1,r1,q1⟩=>?_
 obtain⟨a,e,⟨xs,hq⟩,q⟩:=q1;subst e;cases r1;obtain⟨its,rv,p,hz⟩:=I1.list hq
 refine E8 p.isList ?_
 refine⟨s1.heap.objs.size,[s1.heap.objs.size],_,_,H1,rfl,I1.kept (t':=s1.toks) fun b o e=>Aw _ e,Qo a _,⟨_,Bf _ rfl,rfl,rfl⟩,fun b hb=>?_,q⟩
 have e:b=s1.heap.objs.size:=by simpa using hb
 subst e;exact I1.fpOk (Af _) (I1.hok.fresh (Af _))
def Qs {pins:AL} {σ:St} {H:Hp} {s:Shared} {R:It->Hp->Prop} {E:VP} {lo hi:Int} {t u v:Tok} {tk:Nat} (I:Inv X pins σ H s) (h1: -(2 ^ 62)<=lo) (h2:lo<2 ^ 62) (h3: -(2 ^ 62)<=hi) (h4:hi<2 ^ 62)
  (q:R (Itr lo (hi-lo).toNat) H):wpAny (model X.prog X.w) X.A (pyIter (.ref s.heap.objs.size)) (PIE X pins σ tg R) E {s with heap:=s.heap.push {cls:= .type "range",data:= .fields #[.int lo t,.int hi u,.int 1 v]},toks:=tk}:=by
 refine wpAny_pyIter_range (IsRange.new ..) (small_one h1 h2 h3 h4) ?_
 have I1:Inv X pins σ H {s with heap:=s.heap.push {cls:= .type "range",data:= .fields #[.int lo t,.int hi u,.int 1 v]},toks:=tk}:=I.kept fun b o e=>Aw _ e
 refine⟨(s.heap.push {cls:= .type "range",data:= .fields #[.int lo t,.int hi u,.int 1 v]}).objs.size,[(s.heap.push {cls:= .type "range",data:= .fields #[.int lo t,.int hi u,.int 1 v]}).objs.size],_,_,H,rfl,
  I1.kept (t':=tk) fun b o e=>Aw _ e,Qp _ lo (hi-lo).toNat,?_,fun b hb=>?_,q⟩
 .have e1:lo+((0:Nat):Int)*1=lo:=by simp
  have e2:(((hi-lo).toNat:Nat):Int)-((0:Nat):Int)=Builtin.Range.rangeSize lo hi 1:=by rw[rangeSize_one];split<;>lia
  show IsRangeIter _ _ (lo+((0:Nat):Int)*1) ((((hi-lo).toNat:Nat):Int)-((0:Nat):Int)) 1;rw[e1,e2];exact Bf _ rfl
 .have e:b=(s.heap.push {cls:= .type "range",data:= .fields #[.int lo t,.int hi u,.int 1 v]}).objs.size:=by simpa using hb
  subst e;exact I1.fpOk (Af _) (I1.hok.fresh (Af _))
def Qt (ta:TA):TI:=fun σ H R=>ta σ H fun vs H1=> ∃j:Int,vs=[.int j]/\ -(2 ^ 62)<=j/\j<2 ^ 62/\R (Itr 0 j.toNat) H1
def Qu {a:Expr} {ta:TA} {p pos:Pos} (hg:Gl X "range") (hm:X.mg "range" =none) (ha:PA X [a] ta) (hs:starEach [a] X.env=[(false,eval a X.env)]:=by rfl):PI X tg (.Call (.Name "range" p) [a] [] pos) (Qt ta):=by
 intro pins s σ H R I h
 refine Call_ (BL I hg hm boot_range (El (thn (ha pos pins s σ H _ I h) fun us s1 ⟨vs,H1,I1,r1,q1⟩=>?_) hs rfl))
 obtain⟨j,e,q1,q2,q⟩:=q1;subst e;cases r1 with
 |cons r rr=>
  cases rr;obtain⟨t,rfl⟩:=r;exact call_range_1 (Qs I1 (by lia) (by lia) q1 q2 (by simpa using q))
def tFor (wi:TI) (g:TG) (tb:TS):TS:=fun D σ H=>wi σ H fun J H1=> ∃W:Nat->Nat->St->Hp->Prop,(∃m,W 0 m σ H1)/\∀i m σ H,W i m σ H->
 (J.stop i H/\D.nx σ H)\/(J.go i H/\∃N:St->Hp->Prop,(∀σ' H',N σ' H'->∃m',m' < m/\W (i+1) m' σ' H')/\∀x H',J.yld i H x H'->g x σ H' fun σ2 H2=>tb {D with nx:=N,ct:=N,bk:=D.nx} σ2 H2)
def EH (fp:List Addr) (h:Heap):AL:=fp.filterMap fun b=>(h.get? b).map fun o=>(b,o)
def GV {fp:List Addr} {h:Heap} {b:Addr} {o:Obj} (hb:b∈fp) (e:h.get? b=some o):(b,o)∈EH fp h:=D5.mpr ⟨b,hb,by rw[e];rfl⟩
def Qv {fp:List Addr} {h:Heap} {p:Addr×Obj} (hp:p∈EH fp h):p.1∈fp/\h.get? p.1=some p.2:=by
 obtain⟨b,hb,e⟩:=D5.mp hp;cases q:h.get? b with
 |none=>rw[q]at e;cases e
 |some o=>
  rw[q]at e;have e':(b,o)=p:=Option.some.inj e;subst e';exact⟨hb,q⟩
def Inv.pinned {pins:AL} {σ:St} {H:Hp} {s:Shared} {fp:List Addr} (I:Inv X pins σ H s) (hf:∀b∈fp,yN X pins H b) (ho:∀b∈fp,∃o,s.heap.get? b=some o/\∀v,o.data≠ .cell v):Inv X (pins++EH fp s.heap) σ H s:=
 I.pins_of fun p hp=>(As.mp hp).elim (fun z=>I.pin p (Bu _ z)) fun z=>by
  obtain⟨hb,e⟩:=Qv z;obtain⟨f0,f1,f2,_⟩:=hf p.1 hb;obtain⟨o,e',d⟩:=ho p.1 hb;rw[e]at e';cases e';exact⟨e,f0,f1,f2,d⟩
def Inv.unpinned {pins pl:AL} {σ:St} {H:Hp} {s:Shared} (I:Inv X (pins++pl) σ H s):Inv X pins σ H s:=I.pins_of fun p hp=>I.pin p (Bu _ (B8 _ hp))
def Qw {iter:Expr} {body:List Stmt} {wi:TI} {g:TG} {tb:TS} {pos:Pos} (hp:PassesOwn (model X.prog X.w) X.A X.env X.xe) (hc:X.calm=true) (hi:PI X tg iter wi) (hg:PG X tg g) (hb:yS X body tb)
  (hs:∀x,foldedSetIterable iter X.env x=pure x:=by intro _;rfl):PS X (.For tg iter body [] pos) (tFor wi g tb):=by
 intro pins s σ H D I h
 refine wpAny_For (thn (hi pins s σ H _ I h) fun v s1 h1=>thn h1 fun itv s2 h2=>?_) hs
 obtain⟨it,fp,tn,J,H2,e,I2,T,st2,f2,W,⟨m0,w0⟩,turn⟩:=h2;subst e;have stat:∀{H':Hp},(∀b∈fp,H' b=none)->∀b∈fp,yN X pins H' b:=fun hn b hb=>⟨hn b hb,(f2 b hb).2⟩
 refine codeAny_forLoop_any (fun n s'=> ∃i σ' H',Inv X pins σ' H' s'/\tn i s'.heap/\(∀b∈fp,H' b=none)/\W i n σ' H') ?_ m0 ⟨0,σ,H2,I2,st2,fun b hb=>(f2 b hb).1,w0⟩
 rintro n s3 ⟨i,σ3,H3,I3,st3,fr3,w3⟩
 rcases turn i n σ3 H3 w3 with ⟨stop,qn⟩|⟨go,N,hN,step⟩
 .refine Dp hp (thn (T.done X rfl rfl rfl hc i pins s3 σ3 H3 X.xe I3 (stat fr3) st3 stop) fun r s4 ⟨hr,I4⟩=>?_)
  subst hr;exact E7 ⟨σ3,H3,I4,qn⟩
 .refine Dp hp (thn (T.item X rfl rfl rfl hc i pins s3 σ3 H3 X.xe I3 (stat fr3) st3 go) fun r s4 ⟨u,hr,h4⟩=>?_)
  subst hr
  refine Dp hp (thn h4 fun _ s5 ⟨x,H5,I5,r5,y5,st5,fr5⟩=>?_)
  have I5':=I5.pinned (stat fr5) (T.obj _ _ st5)
  refine Dp hp (thn (hg _ s5 σ3 H5 x u _ I5' r5 (step x H5 y5)) fun _ s6 ⟨σ6,H6,I6,q6⟩=>?_)
  refine Dp hp (thn (hb _ s6 σ6 H6 _ I6 q6) fun f s7 q7=>?_)
  have again:∀{σ7:St} {H7:Hp},Inv X (pins++EH fp s5.heap) σ7 H7 s7->N σ7 H7->∃m,m<n/\∃i σ' H',Inv X pins σ' H' s7/\tn i s7.heap/\(∀b∈fp,H' b=none)/\W i m σ' H':=fun {σ7 H7} I7 n7=>by
   obtain⟨m',hm,w7⟩:=hN σ7 H7 n7
   refine⟨m',hm,i+1,σ7,H7,I7.unpinned,T.keep _ _ _ st5 fun b hb o e=>(I7.pin (b,o) (Bu _ (Bu _ (GV hb e)))).1,fun b hb=>?_,w7⟩
   obtain⟨o,e,d⟩:=T.obj _ _ st5 b hb;exact (I7.pin (b,o) (Bu _ (Bu _ (GV hb e)))).2.1
  cases f with
  |next=>obtain⟨σ7,H7,I7,n7⟩:=q7;exact again I7 n7
  |cont=>obtain⟨σ7,H7,I7,n7⟩:=q7;exact again I7 n7
  |brk=>obtain⟨σ7,H7,I7,q7⟩:=q7;exact⟨σ7,H7,I7.unpinned,q7⟩
  |ret v=>obtain⟨x7,σ7,H7,I7,r7,q7⟩:=q7;exact⟨x7,σ7,H7,I7.unpinned,r7,q7⟩
end
abbrev R2:=V->V->Hp->VK->Prop
def OpR (X:Cx) (f:Value->Value->Sem Value) (r:R2):Prop:=
 ∀(pins:AL) (s:Shared) (σ:St) (H:Hp) (x y:V) (v u:Value) (Q:VK),Inv X pins σ H s->RelV x v->RelV y u->r x y H Q->
  wpAny (model X.prog X.w) X.A (f v u) (EP X pins σ Q) X.xe s
def UnR (X:Cx) (f:Value->Sem Value) (r:V->Hp->VK->Prop):Prop:=
 ∀(pins:AL) (s:Shared) (σ:St) (H:Hp) (x:V) (v:Value) (Q:VK),Inv X pins σ H s->RelV x v->r x H Q->
  wpAny (model X.prog X.w) X.A (f v) (EP X pins σ Q) X.xe s
def qc (X:Cx) (f:Value) (r:List V->Hp->VK->Prop):Prop:=
 ∀(pins:AL) (s:Shared) (σ:St) (H:Hp) (xs:List V) (us:List Value) (Q:VK),Inv X pins σ H s->Vals xs us->r xs H Q->
  wpAny (model X.prog X.w) X.A (call f us) (EP X pins σ Q) X.xe s
def TruR (X:Cx) (r:V->Hp->(Bool->Hp->Prop)->Prop):Prop:=
 ∀(pins:AL) (s:Shared) (σ:St) (H:Hp) (x:V) (v:Value) (Q:Bool->Hp->Prop),Inv X pins σ H s->RelV x v->r x H Q->
  wpAny (model X.prog X.w) X.A (truthy v) (TP X pins σ Q) X.xe s
def tOp (r:R2) (ta tb:TE):TE:=fun σ H Q=>ta σ H fun x H1=>tb σ H1 fun y H2=>r x y H2 Q
def tUn (r:V->Hp->VK->Prop) (ta:TE):TE:=fun σ H Q=>ta σ H fun x H1=>r x H1 Q
def rI (C:Int->Int->Prop) (g:Int->Int->V):R2:=fun x y H Q=> ∃i j,x=.int i/\y=.int j/\C i j/\Q (g i j) H
def qq (g:Int->Int->V):R2:=fun x y H Q=> ∃i j,x=.int i/\y=.int j/\Q (g i j) H
def rU (g:Int->V):V->Hp->VK->Prop:=fun x H Q=> ∃i,x=.int i/\Q (g i) H
section
variable {X:Cx} {a b c:Expr} {ta tb tc:TE} {pos:Pos}
def binT (ha:PE X a ta) (hb:PE X b tb) {pins:AL} {s:Shared} {σ:St} {H:Hp} {R:V->V->Hp->Prop} (I:Inv X pins σ H s)
  (h:ta σ H fun x H1=>tb σ H1 fun y H2=>R x y H2) {Q:VP} {f:Value->Value->Sem Value}
  (hf:∀v u s2 x y H2,Inv X pins σ H2 s2->RelV x v->RelV y u->R x y H2->wpAny (model X.prog X.w) X.A (f v u) Q X.xe s2):
  wpAny (model X.prog X.w) X.A (eval a X.env) (fun v s₁=>wpAny (model X.prog X.w) X.A (eval b X.env) (fun u s₂=>wpAny (model X.prog X.w) X.A (f v u) Q X.xe s₂) X.xe s₁) X.xe s:=by
 refine thn (ha pins s σ H _ I h) fun v s1 ⟨x,H1,I1,r1,q1⟩=>?_
 refine thn (hb pins s1 σ H1 _ I1 q1) fun u s2 ⟨y,H2,I2,r2,q2⟩=>?_
 exact hf v u s2 x y H2 I2 r1 r2 q2
def Qx {op:Operator} {r:R2} (ho:OpR X (binaryOp op) r) (ha:PE X a ta) (hb:PE X b tb):PE X (.BinOp a op b pos) (tOp r ta tb):=by
 intro pins s σ H Q I h;exact wpAny_BinOp (binT ha hb I h fun v u s2 x y H2 I2 rx ry q=>ho pins s2 σ H2 x y v u Q I2 rx ry q)
def Qy {op:UnaryOp} {r:V->Hp->VK->Prop} (ho:UnR X (unaryOp op) r) (ha:PE X a ta):PE X (.UnaryOp op a pos) (tUn r ta):=by
 intro pins s σ H Q I h;exact UnaryOp_ (thn (ha pins s σ H _ I h) fun v s1 ⟨x,H1,I1,r1,q1⟩=>ho pins s1 σ H1 x v Q I1 r1 q1)
def opI {f:Value->Value->Sem Value} {C:Int->Int->Prop} {g:Int->Int->Int}
  (rule:∀(i j:Int) (t u:Tok) (s:Shared) (Q:VP) (E:VP),C i j->Q (.int (g i j) s.toks) {s with toks:=s.toks+1}->wpAny (model X.prog X.w) X.A (f (.int i t) (.int j u)) Q E s):
  OpR X f (rI C fun i j=>.int (g i j)):=by
 intro pins s σ H x y v u Q I rx ry h;obtain⟨i,j,rfl,rfl,hc,q⟩:=h;obtain⟨t,rfl⟩:=rx;obtain⟨t',rfl⟩:=ry;exact rule i j t t' s _ _ hc ⟨.int (g i j),H,I.tok _,⟨_,rfl⟩,q⟩
def opI0 {f:Value->Value->Sem Value} {g:Int->Int->Int}
  (rule:∀(i j:Int) (t u:Tok) (s:Shared) (Q:VP) (E:VP),Q (.int (g i j) s.toks) {s with toks:=s.toks+1}->wpAny (model X.prog X.w) X.A (f (.int i t) (.int j u)) Q E s):
  OpR X f (qq fun i j=>.int (g i j)):=by
 intro pins s σ H x y v u Q I rx ry h;obtain⟨i,j,rfl,rfl,q⟩:=h;obtain⟨t,rfl⟩:=rx;obtain⟨t',rfl⟩:=ry;exact rule i j t t' s _ _ ⟨.int (g i j),H,I.tok _,⟨_,rfl⟩,q⟩
def opB0 {f:Value->Value->Sem Value} {g:Int->Int->Bool}
  (rule:∀(i j:Int) (t u:Tok) (s:Shared) (Q:VP) (E:VP),Q (.bool (g i j)) s->wpAny (model X.prog X.w) X.A (f (.int i t) (.int j u)) Q E s):
  OpR X f (qq fun i j=>.bl (g i j)):=by
 intro pins s σ H x y v u Q I rx ry h;obtain⟨i,j,rfl,rfl,q⟩:=h;obtain⟨t,rfl⟩:=rx;obtain⟨t',rfl⟩:=ry;exact rule i j t t' s _ _ ⟨.bl (g i j),H,I,rfl,q⟩
def CDiv (i j:Int):Prop:=0<j/\j<1073741824
def CPow (i j:Int):Prop:=0<=j/\j<=1000000/\i.natAbs<2 ^ 64
def CMul (i j:Int):Prop:=(-(2 ^ 64)<i/\i<2 ^ 64)\/(-(2 ^ 64)<j/\j<2 ^ 64)
def CMul.ok {i j:Int} (h:CMul i j):IntMulOk i j:=by
 rcases h with ⟨h1,h2⟩|⟨h1,h2⟩
 .exact .of_left (intBits_le_64 h1 h2)
 .exact .of_right (intBits_le_64 h1 h2)
def Qz (k:Nat):(0:Int)<=2 ^ k:=by
 rw[two_pow_cast];exact Int.natCast_nonneg _
def op_add:OpR X (binaryOp .Add) (qq fun i j=>.int (i+j)):=opI0 fun _ _ _ _ _ _ _ q=>add_int q
def BM:OpR X (binaryOp .Sub) (qq fun i j=>.int (i-j)):=opI0 fun _ _ _ _ _ _ _ q=>sub_int q
def op_mul:OpR X (binaryOp .Mult) (rI CMul fun i j=>.int (i*j)):=opI fun _ _ _ _ _ _ _ hc q=>mul_int q hc.ok
def qC:OpR X (binaryOp .FloorDiv) (rI CDiv fun i j=>.int (i / j)):=opI fun i j _ _ _ _ _ hc q=>by
 have h1:(0:Int)<j:=hc.1;have h2:j<1073741824:=hc.2;exact floordiv_int (by lia) (by rw[Int.fdiv_eq_ediv_of_nonneg i (by lia)];exact q) (.inl (PyProof.noPylong_small (by lia)))
def yB:OpR X (binaryOp .Mod) (rI (fun _ j=>0<j) fun i j=>.int (i%j)):=opI fun i j _ _ _ _ _ hc q=>by
 have h1:(0:Int)<j:=hc;exact mod_int' (by lia) (by rw[Int.fmod_eq_emod_of_nonneg i (by lia)];exact q)
def Q0:OpR X (binaryOp .Pow) (rI CPow fun i j=>.int (i ^ j.toNat)):=opI fun _ _ _ _ _ _ _ hc q=>pow_int_small hc.1 hc.2.1 hc.2.2 q
def Q1:OpR X (binaryOp .RShift) (rI (fun _ j=>0<=j) fun i j=>.int (i / 2 ^ j.toNat)):=opI fun i j _ _ _ _ _ hc q=>
 rshift_int hc (by rw[Int.fdiv_eq_ediv_of_nonneg i (Qz _)];exact q)
def Q2:OpR X (binaryOp .BitAnd) (qq fun i j=>.int (Builtin.bitAnd i j)):=opI0 fun _ _ _ _ _ _ _ q=>and_int q
def unI {f:Value->Sem Value} {g:Int->Int}
  (rule:∀(i:Int) (t:Tok) (s:Shared) (Q:VP) (E:VP),Q (.int (g i) s.toks) {s with toks:=s.toks+1}->wpAny (model X.prog X.w) X.A (f (.int i t)) Q E s):
  UnR X f (rU fun i=>.int (g i)):=by
 intro pins s σ H x v Q I rx h;obtain⟨i,rfl,q⟩:=h;obtain⟨t,rfl⟩:=rx;exact rule i t s _ _ ⟨.int (g i),H,I.tok _,⟨_,rfl⟩,q⟩
def Q3:UnR X (unaryOp .USub) (rU fun i=>.int (-i)):=unI fun _ _ _ _ _ q=>neg_int q
end
section
variable {X:Cx} {a b c:Expr} {ta tb tc:TE} {pos:Pos}
def Lp {pins:AL} {σ:St} {H:Hp} {s:Shared} {Q:VK} {k k':Bool} (I:Inv X pins σ H s) (q:Q (.bl k) H) (e:k=k'):EP X pins σ Q (.bool k') s:=by
 subst e;exact⟨.bl k,H,I,rfl,q⟩
def BN:OpR X (compareOp .Lt) (qq fun i j=>.bl (decide (i<j))):=opB0 fun _ _ _ _ _ _ _ q=>lt_int q
def AV:OpR X (compareOp .LtE) (qq fun i j=>.bl (decide (i<=j))):=opB0 fun _ _ _ _ _ _ _ q=>le_int q
def AW:OpR X (compareOp .Gt) (qq fun i j=>.bl (decide (j<i))):=opB0 fun _ _ _ _ _ _ _ q=>gt_int q
def Lq:OpR X (compareOp .In) (fun x y H Q=> ∃i j,x=.str i/\y=.str j/\Q (.bl (!(Builtin.Str.occurrences j i 0 j.length 1).isEmpty)) H):=by
 intro pins s σ H x y v u Q I rx ry h;obtain⟨i,j,rfl,rfl,q⟩:=h;obtain⟨t,rfl⟩:=rx;obtain⟨t',rfl⟩:=ry;exact in_str (Lp I q rfl)
def IF:OpR X (compareOp .IsNot) (fun x y H Q=>y=.non/\Q (.bl (!decide (x=.non))) H):=by
 intro pins s σ H x y v u Q I rx ry h;obtain⟨rfl,q⟩:=h;cases ry
 refine isnot_none_gen (Lp I q ?_)
 cases x<;>first
  | (cases rx;rfl)
  | (obtain⟨t,rfl⟩:=rx;rfl)
def OpR.or {f:Value->Value->Sem Value} {r r':R2} (h:OpR X f r) (h':OpR X f r'):OpR X f (fun x y H Q=>r x y H Q\/r' x y H Q):=by
 intro pins s σ H x y v u Q I rx ry q
 rcases q with q|q
 .exact h pins s σ H x y v u Q I rx ry q
 .exact h' pins s σ H x y v u Q I rx ry q
def yj (b:Expr) {op:CmpOp} (h:op≠ .In:=by decide) (h2:op≠ .NotIn:=by decide):behindInMarks op b=false:=by
 have e1:(op==CmpOp.In)=false:=by cases op<;>first|rfl|exact absurd rfl h
 have e2:(op==CmpOp.NotIn)=false:=by cases op<;>first|rfl|exact absurd rfl h2
 cases b<;>simp[behindInMarks,e1,e2]
def Q4 {op:CmpOp} {r:R2} (ho:OpR X (compareOp op) r) (ha:PE X a ta) (hb:PE X b tb) (hm:behindInMarks op b=false):PE X (.Compare a [op] [b] pos) (tOp r ta tb):=by
 intro pins s σ H Q I h;exact wpAny_Compare1 (binT ha hb I h fun v u s2 x y H2 I2 rx ry q=>ho pins s2 σ H2 x y v u Q I2 rx ry q) hm
def Lr (t:TE):TT:=fun σ H Q=>t σ H fun x H'=> ∃k,x=.bl k/\Q k H'
def Q5 {op:CmpOp} {r:R2} (ho:OpR X (compareOp op) r) (ha:PE X a ta) (hb:PE X b tb) (hm:behindInMarks op b=false):PT X (.Compare a [op] [b] pos) (Lr (tOp r ta tb)):=by
 intro pins s σ H Q I h
 refine wpAny_isTrue_Compare1 (thn (ha pins s σ H _ I h) fun v s1 ⟨x,H1,I1,r1,q1⟩=>thn (hb pins s1 σ H1 _ I1 q1) fun u s2 ⟨y,H2,I2,r2,q2⟩=>
  thn (ho pins s2 σ H2 x y v u _ I2 r1 r2 q2) fun c s3 ⟨z,H3,I3,r3,k,e,q3⟩=>?_) hm
 subst e;cases r3;exact Cg ⟨H3,I3,q3⟩
def IG (r r':R2) (ta tb tc:TE):TE:=fun σ H Q=>ta σ H fun x H1=>tb σ H1 fun y H2=>r x y H2 fun z H3=> ∃k,z=.bl k/\
 (if k=true then tc σ H3 fun w' H4=>r' y w' H4 Q else Q (.bl false) H3)
def Q6 {op op':CmpOp} {r r':R2} (ho:OpR X (compareOp op) r) (ho':OpR X (compareOp op') r') (ha:PE X a ta) (hb:PE X b tb) (hc:PE X c tc)
  (hm:lastMarks [op,op'] [b,c]=false:=by with_unfolding_all rfl):PE X (.Compare a [op,op'] [b,c] pos) (IG r r' ta tb tc):=by
 intro pins s σ H Q I h
 refine Compare_chain (thn (ha pins s σ H _ I h) fun v s1 ⟨x,H1,I1,r1,q1⟩=>chain_link (thn (hb pins s1 σ H1 _ I1 q1) fun u s2 ⟨y,H2,I2,r2,q2⟩=>
  thn (ho pins s2 σ H2 x y v u _ I2 r1 r2 q2) fun d s3 ⟨z,H3,I3,r3,k,e,q3⟩=>?_)) hm
 subst e;cases r3
 refine Cg ?_
 cases k with
 |false=>exact ite_ff ⟨.bl false,H3,I3,rfl,q3⟩
 |true=>exact ite_tt (chain_last (thn (hc pins s3 σ H3 _ I3 q3) fun w' s4 ⟨z',H4,I4,r4,q4⟩=>ho' pins s4 σ H4 y z' u w' Q I4 r2 r4 q4))
def Q7 {op op':CmpOp} {r r':R2} (ho:OpR X (compareOp op) r) (ho':OpR X (compareOp op') r') (ha:PE X a ta) (hb:PE X b tb) (hc:PE X c tc)
  (hm:lastMarks [op,op'] [b,c]=false:=by with_unfolding_all rfl):PT X (.Compare a [op,op'] [b,c] pos) (Lr (IG r r' ta tb tc)):=by
 intro pins s σ H Q I h
 refine isTrue_chain (thn (ha pins s σ H _ I h) fun v s1 ⟨x,H1,I1,r1,q1⟩=>test_link (thn (hb pins s1 σ H1 _ I1 q1) fun u s2 ⟨y,H2,I2,r2,q2⟩=>
  thn (ho pins s2 σ H2 x y v u _ I2 r1 r2 q2) fun d s3 ⟨z,H3,I3,r3,k,e,q3⟩=>?_)) hm
 subst e;cases r3
 refine Cg ?_
 cases k with
 |false=>
  obtain⟨k',e',q'⟩:=q3;cases e';exact ite_ff ⟨H3,I3,q'⟩
 |true=>
  refine ite_tt (test_last (thn (hc pins s3 σ H3 _ I3 q3) fun w' s4 ⟨z',H4,I4,r4,q4⟩=>thn (ho' pins s4 σ H4 y z' u w' _ I4 r2 r4 q4) fun d' s5 ⟨z2,H5,I5,r5,k2,e2,q5⟩=>?_))
  subst e2;cases r5;exact Cg ⟨H5,I5,q5⟩
def TruV (K:FG) (x:V) (H:Hp) (k:Bool):Prop:=
 match x with
 |.non=>k=false
 |.bl b=>k=b
 |.int i=>k=(i !=0)
 |.str y=>y.length<=sizeLine/\k=((y.length:Int) !=0)
 |.byt y=>y.size<=sizeLine/\k=((y.size:Int) !=0)
 |.ref p=>(∃xs,SqL K H p xs/\k= !xs.isEmpty)\/(∃xs,SqT K H p xs/\k= !xs.isEmpty)\/∃kvs,H p=some (.dK kvs)/\k= !kvs.isEmpty
 |_=>False
def Q8 {κ:Type} {kvs:List (κ×V)} {vs:List (κ×Value)} (r:KV kvs vs):(!vs.isEmpty)= !kvs.isEmpty:=by
 cases r<;>rfl
def Ls {xs:List V} {its:List Value} (r:Vals xs its):(!its.toArray.isEmpty)= !xs.isEmpty:=by
 cases r<;>simp
def CF:(sizeLine:Nat)<2 ^ 63:=by rw[Cc];decide
def Q9:TruR X (fun x H Q=> ∃k,TruV X.K x H k/\Q k H):=by
 intro pins s σ H x v Q I rx h;obtain⟨k,e,q⟩:=h;have hl:=CF;have hs:sizeLine=16777216:=Cc;cases x with
 |non=>
  cases rx;have e':k=false:=e;subst e';exact truthy_none ⟨H,I,q⟩
 |bl b=>
  cases rx;have e':k=b:=e;subst e';exact Cg ⟨H,I,q⟩
 |int i=>
  obtain⟨t,rfl⟩:=rx;have e':k=(i !=0):=e;subst e';exact PySem.P.truthy_int ⟨H,I,q⟩
 |str y=>
  obtain⟨t,rfl⟩:=rx;obtain⟨hy,e'⟩:y.length<=sizeLine/\k=((y.length:Int) !=0):=e;subst e';exact PySem.P.truthy_str (by lia) ⟨H,I.tok _,q⟩
 |byt y=>
  obtain⟨t,rfl⟩:=rx;obtain⟨hy,e'⟩:y.size<=sizeLine/\k=((y.size:Int) !=0):=e;subst e';exact PySem.W.truthy_bytes (by lia) ⟨H,I.tok _,q⟩
 |ref p=>
  cases rx;have e':(∃xs,SqL X.K H p xs/\k= !xs.isEmpty)\/(∃xs,SqT X.K H p xs/\k= !xs.isEmpty)\/∃kvs,H p=some (.dK kvs)/\k= !kvs.isEmpty:=e
  rcases e' with ⟨xs,hx,e'⟩|⟨xs,hx,e'⟩|⟨kvs,hx,e'⟩
  .subst e'
   obtain⟨its,r,pl,hz⟩:=I.list hx;have hlen:=r.length;exact wpAny_truthy_list pl.isList (by simp only[Am];lia) ⟨H,I.tok _,by rw[Ls r];exact q⟩
  .subst e'
   obtain⟨its,r,pl,hz⟩:=I.tuple hx;have hlen:=r.length;exact truthy_tuple pl (by simp only[Am];lia) ⟨H,I.tok _,by rw[Ls r];exact q⟩
  .subst e'
   obtain⟨hz,hS,vs,r,m⟩:kvs.length<=sizeLine/\(p==sysModules)=false/\∃vs,KV kvs vs/\s.heap.DictOf (yr X.prog X.w) p vs:=I.hok p _ hx;have hlen:kvs.length=vs.length:=Paired.length r;exact wpAny_truthy_dict hS m (by lia) ⟨H,I.tok _,by rw[Q8 r];exact q⟩
 |_=>exact (show False from e).elim
def QA (ha:PE X a ta) (he:∀whole,isTrue a X.env whole=(do let v <-whole;standAt a.pos;holding [v] (truthy v))):
  PT X a (fun σ H Q=>ta σ H fun x H'=> ∃k,TruV X.K x H' k/\Q k H'):=by
 intro pins s σ H Q I h;exact isTrue_plain (thn (ha pins s σ H _ I h) fun v s1 ⟨x,H1,I1,r1,q1⟩=>Q9 pins s1 σ H1 x v Q I1 r1 q1) (he _)
def op_add_str:OpR X (binaryOp .Add) (fun x y H Q=> ∃i j,x=.str i/\y=.str j/\i.length+j.length<=sizeLine/\Q (.str (i++j)) H):=by
 intro pins s σ H x y v u Q I rx ry h;obtain⟨i,j,rfl,rfl,hz,q⟩:=h;obtain⟨t,rfl⟩:=rx;obtain⟨t',rfl⟩:=ry;exact add_str (fun t' tk=>⟨.str (i++j),H,I.tok _,⟨_,rfl⟩,q⟩) hz
def AX {x:V} {us:List Value} (r:Vals [x] us):∃u,us=[u]/\RelV x u:=by
 cases r with
 |cons r1 r2=>cases r2;exact⟨_,rfl,r1⟩
def GW {x y:V} {us:List Value} (r:Vals [x,y] us):∃u w',us=[u,w']/\RelV x u/\RelV y w':=by
 cases r with
 |cons r1 r2=>
  cases r2 with
  |cons r3 r4=>cases r4;exact⟨_,_,rfl,r1,r3⟩
def QB (hc:X.calm=true):qc X (.builtin "max") (fun xs H Q=> ∃i j,xs=[.int i,.int j]/\Q (.int (if j > i then j else i)) H):=by
 intro pins s σ H xs us Q I r h;obtain⟨i,j,rfl,q⟩:=h;obtain⟨u,w',rfl,⟨t,rfl⟩,⟨t',rfl⟩⟩:=GW r
 refine max_two_ints (I.ok.hd hc) fun h' tk k=>⟨_,H,I.kept k,?_,q⟩
 by_cases hj:j > i
 .rw[Ab hj,Ab hj];exact⟨_,rfl⟩
 .rw[Ac hj,Ac hj];exact⟨_,rfl⟩
def IH (hc:X.calm=true):qc X (.builtin "min") (fun xs H Q=> ∃i j,xs=[.int i,.int j]/\Q (.int (if j<i then j else i)) H):=by
 intro pins s σ H xs us Q I r h;obtain⟨i,j,rfl,q⟩:=h;obtain⟨u,w',rfl,⟨t,rfl⟩,⟨t',rfl⟩⟩:=GW r
 refine min_two_ints (I.ok.hd hc) fun h' tk k=>⟨_,H,I.kept k,?_,q⟩
 by_cases hj:j<i
 .rw[Ab hj,Ab hj];exact⟨_,rfl⟩
 .rw[Ac hj,Ac hj];exact⟨_,rfl⟩
def LenV (K:FG) (x:V) (H:Hp) (n:Nat):Prop:=
 match x with
 |.str y=>y.length<=sizeLine/\n=y.length
 |.byt y=>y.size<=sizeLine/\n=y.size
 |.ref p=>(∃xs,SqL K H p xs/\n=xs.length)\/∃xs,SqT K H p xs/\n=xs.length
 |_=>False
def QC:qc X (.builtin "len") (fun xs H Q=> ∃x n,xs=[x]/\LenV X.K x H n/\Q (.int n) H):=by
 intro pins s σ H xs us Q I r h;obtain⟨x,n,rfl,e,q⟩:=h;obtain⟨u,rfl,rx⟩:=AX r;have hl:=CF;have hs:sizeLine=16777216:=Cc;cases x with
 |str y=>
  obtain⟨t,rfl⟩:=rx;obtain⟨hy,e'⟩:y.length<=sizeLine/\n=y.length:=e;subst e';exact len_str (by lia) ⟨.int _,H,I.tok _,⟨_,rfl⟩,q⟩
 |byt y=>
  obtain⟨t,rfl⟩:=rx;obtain⟨hy,e'⟩:y.size<=sizeLine/\n=y.size:=e;subst e';exact PySem.W.len_bytes (by lia) ⟨.int _,H,I.tok _,⟨_,rfl⟩,q⟩
 |ref p=>
  cases rx;have e':(∃xs,SqL X.K H p xs/\n=xs.length)\/∃xs,SqT X.K H p xs/\n=xs.length:=e
  rcases e' with ⟨xs,hx,e'⟩|⟨xs,hx,e'⟩
  .subst e'
   obtain⟨its,r',pl,hz⟩:=I.list hx;have hlen:=r'.length;exact Calls.call_len_list pl.isList (by simp only[Am];lia) ⟨.int xs.length,H,I.tok _,⟨_,by simp only[Am];rw[hlen]⟩,q⟩
  .subst e'
   obtain⟨its,r',pl,hz⟩:=I.tuple hx;have hlen:=r'.length;exact len_tuple pl (by simp only[Am];lia) ⟨.int xs.length,H,I.tok _,⟨_,by simp only[Am];rw[hlen]⟩,q⟩
 |_=>exact (show False from e).elim
end
structure ObjM (h:Heap) (x dx C:Addr) (mA:Str->Option Value):Prop where
 obj:h.get? x=some (PySem.W.instObj C dx)
 ns:h.Ns1 dx mA
 ne:dx≠x
def QD {h:Heap} {dx:Addr} {mA:Str->Option Value} (n:h.Ns1 dx mA):∃od,h.get? dx=some od/\∀name,PySem.W.lookIn name od=some (mA name):=by
 obtain⟨o,es,ep,ho,hd,hk,_,hm⟩:=n
 refine⟨o,ho,fun name=>?_⟩
 have e:=hm name;unfold nsFind findBy at e;rw[<-Array.find?_toList]at e
 unfold PySem.W.lookIn;rw[hd];dsimp only
 split
 .rename_i y q
  rw[q]at e;exact congrArg some e
 .rename_i q
  rw[q]at e;have a:es.toList.any (·.refKey)=false:=by
   rw[E9];intro y hy;obtain⟨z,t,hkey⟩:=hk y (Fa.mp hy);simp[DictEntry.refKey,hkey]
  have a': ¬es.toList.any (·.refKey)=true:=by rw[a];exact Ba
  rw[Ac a'];exact congrArg some e
def ObjM.look {h:Heap} {x dx C:Addr} {mA:Str->Option Value} (I:ObjM h x dx C mA):∃od,PySem.W.InstAt h x (PySem.W.instObj C dx) C (some od)/\∀name,PySem.W.lookIn name od=some (mA name):=
 let ⟨od,ho,hl⟩:=QD I.ns
 ⟨od,⟨I.obj,rfl,rfl,ho⟩,hl⟩
section
variable {prog:Program} {w:World} {A:Around} {E:VP} {s:Shared} {K:FG} {x dx C f:Addr} {mA:Str->Option Value} {name:Str} {v:Value}
def QE {expr:Bool} {Q:VP} (X:K.In s.heap) (I:ObjM s.heap x dx C mA) (hg:PySem.W.plainGet K C name=true) (hh:PySem.W.hasDictIn K C=true)
  (ha:PySem.W.findIn K (.ref C) name=some none) (hv:mA name=some v) (hv':PySem.W.handedIn v=true) (h:Q v {s with toks:=s.toks+1}):
  wpAny (model prog w) A (getAttr (.ref x) name expr) Q E s:=by
 obtain⟨od,J,hl⟩:=I.look;exact PySem.W.get_value X J (PySem.W.plainGet_of hg).1 (PySem.W.findObj_own hh ha rfl (by rw[hl,hv])) hv' h
def QF {pl:Sem Bool} {Q:Value×List Value->Shared->Prop} (X:K.In s.heap) (I:ObjM s.heap x dx C mA) (hg:PySem.W.plainGet K C name=true)
  (hf:PySem.W.findIn K (.ref C) name=some (some (.ref f))) (ht:PySem.W.isFn K (.ref f)=true) (hv:mA name=none) (h:Q (.ref f,[.ref x]) s):
  wpAny (model prog w) A (getMethod (.ref x) name pl) Q E s:=by
 obtain⟨od,J,hl⟩:=I.look;exact PySem.W.method_fn X J (PySem.W.plainGet_of hg).1 (PySem.W.plainGet_of hg).2 hf (Cy.mp ht) (by show (PySem.W.lookIn name od).map (·.isSome)=some false;rw[hl,hv];rfl) h
def QG {ns:List Str} {Q:Unit->Shared->Prop} (X:K.In s.heap) (I:ObjM s.heap x dx C mA)
  (hs:PySem.W.findIn K (.ref C) "__setattr__" =some (some (.builtin "object.__setattr__"))) (hp:PySem.W.plainOver K C=true) (ht:PySem.W.takerIn K C name=some none) (hh:PySem.W.hasDictIn K C=true)
  (hw:PySem.Within mA ns) (hsz:ns.length<=sizeLine)
  (h:∀h',ObjM h' x dx C (fun y=>if y=name then some v else mA y)->Heap.SameBut dx s.heap h'->Q () {s with heap:=h',toks:=s.toks+2}):
  wpAny (model prog w) A (setAttr (.ref x) name v) Q E s:=by
 obtain⟨od,J,hl⟩:=I.look
 refine PySem.W.set_plain X J hs (PySem.W.osa_open (s:={s with toks:=s.toks+1}) (r:=none) X J hp ht fun b=>?_)
 obtain⟨cd,hc,hd'⟩:=PySem.W.any_some hh;have hx:s.heap.get? x=some ⟨.ref C,some dx,.plain,#[]⟩:=I.obj
 refine Aa (Ad (Aa (Aa (wpAny_loadPart hx (Aa (PySem.W.Looks.here (s:={s with toks:=s.toks+1}) (PySem.W.looks_clsIn X hc) ?_))))))
 rw[hd']
 refine Ad (a:=some dx) (Aa (Ad (Aa ?_)))
 refine wpAny_nsSet1 (s:={s with toks:=s.toks+1}) I.ns fun h' hn2 hs2=>?_
 obtain⟨oD,esD,epD,hoD,hdD,hcD⟩:=hn2.count (PySem.Within.cons name v hw)
 refine Aa (wpAny_lookBehind hoD (by rw[hdD];exact pastItsLine_dict (Bs hcD (by rw[Bb];lia))) ?_)
 exact Ad (h _ ⟨(hs2.2 _ (Cf I.ne)).trans I.obj,hn2,I.ne⟩ hs2)
def QH {R:Result->Shared->Prop} {vs:List Value} {kw:List (Str×Value)} (X:K.In s.heap) (hm:PySem.W.makesIn K C=true)
  (hi:PySem.W.findIn K (.ref C) "__init__" =some (some (.ref f))) (hf:PySem.W.typeIn K (.ref f)=some (.type "function"))
  (h:codeAny (model prog w) (A.under (.builtin "type.__call__" ⟨.ref C::vs,kw⟩)) (.call (.ref f) ⟨.ref (s.heap.objs.size+1)::vs,kw⟩) (PySem.W.InitBack (s.heap.objs.size+1) R)
   {s with heap:=(s.heap.push PySem.W.emptyDict).push (PySem.W.instObj C s.heap.objs.size)}):
  codeAny (model prog w) A (.call (.ref C) ⟨vs,kw⟩) R s:=by
 obtain⟨hh,g,d,t,os⟩:=s;exact PySem.W.make_core (PySem.W.makes_of X hm) (PySem.W.looks_findIn X hi) (fun self=>PySem.W.bind_fn X self hf) (.inl rfl) h
end
noncomputable def putF (f:Str) (v:V):List (Str×V)->List (Str×V)
 | []=>[(f,v)]
 | (g,x)::r=>if g=f then (g,v)::r else (g,x)::putF f v r
theorem Lu (f g:Str) (v:V):∀fs:List (Str×V),(putF f v fs).lookup g=if g=f then some v else fs.lookup g
 | []=>by
  show List.lookup g [(f,v)]=_
  by_cases h:g=f
  .have hb:(g==f)=true:=Cy.mpr h
   simp only[List.lookup,hb,Ab h]
  .have hb:(g==f)=false:=D2.mpr h
   simp only[List.lookup,hb,Ac h]
 | (k,x)::r=>by
  have ih:=Lu f g v r;rw[show putF f v ((k,x)::r)=(if k=f then (k,v)::r else (k,x)::putF f v r) from rfl]
  by_cases hk:k=f
  .rw[Ab hk]
   by_cases h:g=k
   .have hb:(g==k)=true:=Cy.mpr h
    simp only[List.lookup,hb,Ab (h.trans hk)]
   .have hb:(g==k)=false:=D2.mpr h
    simp only[List.lookup,hb,Ac (fun e:g=f=>h (e.trans hk.symm))]
  .rw[Ac hk]
   by_cases h:g=k
   .have hb:(g==k)=true:=Cy.mpr h
    simp only[List.lookup,hb,Ac (fun e:g=f=>hk (h.symm.trans e))]
   .have hb:(g==k)=false:=D2.mpr h
    simp only[List.lookup,hb];exact ih
theorem II (f:Str) (v:V):∀fs:List (Str×V),f∈(putF f v fs).map (·.1)/\∀g,g∈fs.map (·.1)->g∈(putF f v fs).map (·.1)
 | []=>⟨by simp[putF],fun g h=>by simp at h⟩
 | (k,x)::r=>by
  obtain⟨i1,i2⟩:=II f v r;rw[show putF f v ((k,x)::r)=(if k=f then (k,v)::r else (k,x)::putF f v r) from rfl]
  by_cases hk:k=f
  .rw[Ab hk]
   subst hk;exact⟨by simp,fun g h=>by simpa using h⟩
  .rw[Ac hk]
   refine⟨?_,fun g h=>?_⟩
   .rw[Ah]
    exact Ap _ i1
   .rw[Ah]at h ⊢
    rcases Ag.mp h with e|e
    .exact Ag.mpr (.inl e)
    .exact Ap _ (i2 g e)
theorem Lv (f:Str) (v:V):∀fs:List (Str×V),(putF f v fs).length<=fs.length+1
 | []=>by simp[putF]
 | (k,x)::r=>by
  have ih:=Lv f v r;rw[show putF f v ((k,x)::r)=(if k=f then (k,v)::r else (k,x)::putF f v r) from rfl]
  by_cases hk:k=f
  .rw[Ab hk,Bb,Bb];lia
  .rw[Ac hk,Bb,Bb];lia
def RelO.some_of {v:V} {o:Option Value} (r:RelO (some v) o):∃u,o=some u/\RelV v u:=by
 cases o with
 |none=>exact (show False from r).elim
 |some u=>exact⟨u,rfl,r⟩
def RelO.none_of {o:Option Value} (r:RelO none o):o=none:=by
 cases o with
 |none=>rfl
 |some u=>exact (show False from r).elim
def QI {v:V} {u:Value} (r:RelV v u):PySem.W.handedIn u=true:=by
 cases v with
 |non=>cases (show u=Value.none from r);rfl
 |bl b=>cases (show u=Value.bool b from r);rfl
 |int i=>obtain⟨t,e⟩:=(show ∃t,u=Value.int i t from r);cases e;rfl
 |str x=>obtain⟨t,e⟩:=(show ∃t,u=Value.str x t from r);cases e;rfl
 |byt b=>obtain⟨t,e⟩:=(show ∃t,u=Value.bytes b t from r);cases e;rfl
 |flt b=>obtain⟨t,e⟩:=(show ∃t,u=Value.float b t from r);cases e;rfl
 |ref a=>cases (show u=Value.ref a from r);rfl
 |ty n=>cases (show u=Value.type n from r);rfl
section
variable {P:Program} {w:World} {H H':Hp} {h h':Heap} {a C dx:Addr} {fs fs':List (Str×V)}
def GX (hok:HOk P w H h) (e:H a=some (.ins C dx fs)):∃mA,ObjM h a dx C mA/\(∀f,RelO (fs.lookup f) (mA f))/\PySem.Within mA (fs.map (·.1))/\fs.length<=1000/\H dx=some (.own a):=by
 obtain⟨d,z,ne,ob,mA,n,r,q⟩:=(show ObjOk P w H h a (.ins C dx fs) from hok a _ e)
 exact⟨mA,⟨ob,n,ne⟩,r,q,z,d⟩
end
structure Cls (K:FG) (C:Addr):Prop where
 pg:PySem.W.plainGet K C Str.empty=true
 hd:PySem.W.hasDictIn K C=true
 po:PySem.W.plainOver K C=true
 sa:PySem.W.findIn K (.ref C) "__setattr__" =some (some (.builtin "object.__setattr__"))
def Cls.get {K:FG} {C:Addr} (c:Cls K C) (f:Str):PySem.W.plainGet K C f=true:=c.pg
def NoAttr (K:FG) (C:Addr) (f:Str):Prop:=PySem.W.findIn K (.ref C) f=some none
def NoAttr.taker {K:FG} {C:Addr} {f:Str} (n:NoAttr K C f):PySem.W.takerIn K C f=some none:=by
 unfold PySem.W.takerIn;rw[show PySem.W.findIn K (.ref C) f=some none from n]
 rfl
structure Meth (K:FG) (C:Addr) (m:Str) (f:Addr):Prop where
 at_:PySem.W.findIn K (.ref C) m=some (some (.ref f))
 fn:PySem.W.isFn K (.ref f)=true
 kp:PySem.W.keepIn K (.ref f)=true
section
variable {X:Cx} {pins:AL} {σ:St} {H:Hp} {s:Shared} {a C dx:Addr} {fs:List (Str×V)} {f:Str} {v:V} {A:Around} {E:VP}
def QJ {b:Bool} {Q:VP} (I:Inv X pins σ H s) (e:H a=some (.ins C dx fs)) (c:Cls X.K C) (n:NoAttr X.K C f) (l:fs.lookup f=some v)
  (h:∀u s',Inv X pins σ H s'->RelV v u->Q u s'):wpAny (model X.prog X.w) A (getAttr (.ref a) f b) Q E s:=by
 obtain⟨mA,O,r,_,_,_⟩:=GX I.hok e;obtain⟨u,hu,ru⟩:=RelO.some_of (v:=v) (o:=mA f) (by rw[<-l];exact r f)
 exact QE I.kIn O (c.get f) c.hd n hu (QI ru) (h u _ (I.tok _) ru)
def Lw {m:Str} {g:Addr} {pl:Sem Bool} {Q:Value×List Value->Shared->Prop} (I:Inv X pins σ H s) (e:H a=some (.ins C dx fs)) (c:Cls X.K C) (k:Meth X.K C m g) (l:fs.lookup m=none)
  (h:Q (.ref g,[.ref a]) s):wpAny (model X.prog X.w) A (getMethod (.ref a) m pl) Q E s:=by
 obtain⟨mA,O,r,_,_,_⟩:=GX I.hok e;have hn:mA m=none:=RelO.none_of (by rw[<-l];exact r m)
 exact QF I.kIn O (c.get m) k.at_ k.fn hn h
def QK {y:V} {u:Value} {Q:Unit->Shared->Prop} (I:Inv X pins σ H s) (e:H a=some (.ins C dx fs)) (c:Cls X.K C) (n:NoAttr X.K C f) (hl:fs.length<1000) (ry:RelV y u)
  (h:∀s',Inv X pins σ (zk H a (.ins C dx (putF f y fs))) s'->Q () s'):wpAny (model X.prog X.w) A (setAttr (.ref a) f u) Q E s:=by
 obtain⟨mA,O,r,wi,_,ho⟩:=GX I.hok e;have hz:(fs.map (·.1)).length<=sizeLine:=by rw[Ae,Cc];lia
 refine QG I.kIn O c.sa c.po n.taker c.hd wi hz fun h' O' sb=>h _ ?_
 have hd:∃o,h'.get? dx=some o:=let ⟨o,_,_,e',_⟩:=O'.ns;⟨o,e'⟩
 refine I.write (x:=a) (e:=dx) (by rw[e];exact True.intro) (.inr ho) (fun b q hb z=>(sb.2 b hb).trans z) hd ?_
 refine⟨by rw[zQ O.ne];exact ho,?_,O.ne,O'.obj,_,O'.ns,fun g=>?_,fun g hg=>?_⟩
 .have:=Lv f y fs;lia
 .show RelO ((putF f y fs).lookup g) (if g=f then some u else mA g)
  rw[Lu]
  by_cases q:g=f
  .rw[Ab q,Ab q];exact ry
  .rw[Ac q,Ac q];exact r g
 .by_cases q:g=f
  .rw[q];exact (II f y fs).1
  .refine (II f y fs).2 g (wi g fun z=>hg ?_)
   show (if g=f then some u else mA g)=none
   rw[Ac q];exact z
def Inv.made (I:Inv X pins σ H s):Inv X pins σ (zk (zk H s.heap.objs.size (.own (s.heap.objs.size+1))) (s.heap.objs.size+1) (.ins C s.heap.objs.size []))
  {s with heap:=(s.heap.push PySem.W.emptyDict).push (PySem.W.instObj C s.heap.objs.size)}:=by
 have e1:(s.heap.push PySem.W.emptyDict).get? s.heap.objs.size=some PySem.W.emptyDict:=Bf s.heap rfl;have e2:((s.heap.push PySem.W.emptyDict).push (PySem.W.instObj C s.heap.objs.size)).get? (s.heap.objs.size+1)=some (PySem.W.instObj C s.heap.objs.size):=by
  have:=Bf (s.heap.push PySem.W.emptyDict) (o:=PySem.W.instObj C s.heap.objs.size) rfl
  rwa [Co]at this
 have e3:(s.heap.push PySem.W.emptyDict).Ns s.heap.objs.size (fun _=>none):=⟨PySem.W.emptyDict,#[],_,e1,rfl,(fun e he=>absurd he (by simp)),fun _=>rfl⟩
 have I1:=I.laid (a:=s.heap.objs.size) (o:= .own (s.heap.objs.size+1)) (h':=s.heap.push PySem.W.emptyDict) (t':=s.toks) (fun b u q=>Aw _ q) (Af _) ⟨_,e1⟩
 refine I1.laid (a:=s.heap.objs.size+1) (o:= .ins C s.heap.objs.size []) (t':=s.toks) (fun b u q=>Aw _ q) (Nat.le_of_eq (Co _ _)) ?_
 have ne:s.heap.objs.size≠s.heap.objs.size+1:=Av (Dq _)
 refine⟨by rw[zQ ne,yM],Bx _,ne,e2,fun _=>none,(Heap.Ns1.of_empty e3).at fun o q=>Aw _ q,fun _=>True.intro,fun y hy=>absurd rfl hy⟩
def QL {prog:Program} {w:World} {env:Env} {e:Expr} {f:Str} {pos:Pos} {s:Shared} {Q:VP} (hb:attributeBase e f env (eval e env)=eval e env)
  (h:wpAny (model prog w) A (eval e env) (fun o s₁=>wpAny (model prog w) A (getAttr o f true) Q E s₁) E s):wpAny (model prog w) A (eval (.Attribute e f pos) env) Q E s:=
 Attribute_any_ h (by rw[arm_eval_Attribute,hb])
end
def tFld (K:FG) (ta:TE) (f:Str):TE:=fun σ H Q=>ta σ H fun x H1=> ∃a C dx fs v,x=.ref a/\H1 a=some (.ins C dx fs)/\Cls K C/\NoAttr K C f/\fs.lookup f=some v/\Q v H1
def sFld (K:FG) (ta tv:TE) (f:Str):TS:=fun D σ H=>tv σ H fun y H1=>ta σ H1 fun x H2=> ∃a C dx fs,x=.ref a/\H2 a=some (.ins C dx fs)/\Cls K C/\NoAttr K C f/\fs.length<1000/\
 D.nx σ (zk H2 a (.ins C dx (putF f y fs)))
section
variable {X:Cx} {o e value:Expr} {f:Str} {pos pos' tpos:Pos} {ta tv:TE}
def QM (he:PE X e ta) (hb:attributeBase e f X.env (eval e X.env)=eval e X.env):PE X (.Attribute e f pos) (tFld X.K ta f):=by
 intro pins s σ H Q I h
 refine QL hb (thn (he pins s σ H _ I h) fun u s1 ⟨x,H1,I1,rx,a,C,dx,fs,v,ex,ea,c,n,l,q⟩=>?_)
 subst ex;obtain rfl:u=Value.ref a:=rx;exact QJ I1 ea c n l fun u' s2 I2 ru=>⟨v,H1,I2,ru,q⟩
def QN (ha:PE X o ta) (hv:PE X value tv) (hs:swapsWith value (some (.Attribute o f pos')) pos.line X.env=pure false):PS X (.Assign [.Attribute o f pos'] value pos) (sFld X.K ta tv f):=by
 intro pins s σ H D I h
 refine plainObj_wpAny_Assign_Attribute (thn (hv pins s σ H _ I h) fun u s1 ⟨y,H1,I1,ry,q⟩=>thn (ha pins s1 σ H1 _ I1 q) fun ov s2 ⟨x,H2,I2,rx,a,C,dx,fs,ex,ea,c,n,l,q2⟩=>?_) hs
 subst ex;obtain rfl:ov=Value.ref a:=rx;exact QK I2 ea c n l ry fun s3 I3=>⟨σ,_,I3,q2⟩
end
section
variable {X:Cx} {pins:AL} {σ:St} {H:Hp} {s:Shared} {A:Around} {E:VP} {Q:VP} {c:Value} {b:Bool}
inductive TyOf (K:FG) (H:Hp):V->Value->Prop where
 |non:TyOf K H .non (.type "NoneType")
 |bl (x:Bool):TyOf K H (.bl x) (.type "bool")
 |int (i:Int):TyOf K H (.int i) (.type "int")
 |str (x:Str):TyOf K H (.str x) (.type "str")
 |flt (x:UInt64):TyOf K H (.flt x) (.type "float")
 |lst {a:Addr} {xs:List V} (e:H a=some (.lst xs)):TyOf K H (.ref a) (.type "list")
 |frz {a:Addr} {o:Obj} {xs:List V} (e:H a=some (.frz o (.lst xs))):TyOf K H (.ref a) (.type "list")
 |tup {a:Addr} {xs:List V} (e:H a=some (.tup xs)):TyOf K H (.ref a) (.type "tuple")
 |dK {a:Addr} {kvs:List (zM×V)} (e:H a=some (.dK kvs)):TyOf K H (.ref a) (.type "dict")
 |dT {a:Addr} {kvs:List (MK×V)} (e:H a=some (.dT kvs)):TyOf K H (.ref a) (.type "dict")
 |ins {a C dx:Addr} {fs:List (Str×V)} (e:H a=some (.ins C dx fs)) (cl:Cls K C) (ha:PySem.W.findIn K (.ref C) "__class__" =some (some (.builtin "object.__class__")))
  (hn:PySem.W.specialIn K (.builtin "object.__class__") "__get__" =some (some (.builtin "getset_descriptor.__get__"))) (htk:PySem.W.takesIn K (.builtin "object.__class__")=some true)
  (hm:PySem.W.mroIn K C (.type "object")=some true):TyOf K H (.ref a) (.ref C)
def QO {x:V} {u t:Value} (I:Inv X pins σ H s) (rx:RelV x u) (ty:TyOf X.K H x t) (e:PySem.W.kitOne X.K t c=some b) (h:∀tk,Q (.bool b) {s with toks:=tk}):
  wpAny (model X.prog X.w) A (call (.builtin "isinstance") [u,c]) Q E s:=by
 cases ty with
 |non=>cases (show u=Value.none from rx);exact Cp PySem.W.kitx_none I.kIn True.intro e (fun z=>nomatch z) h
 |bl y=>cases (show u=Value.bool y from rx);exact Cp PySem.W.kitx_bool I.kIn True.intro e (fun z=>nomatch z) h
 |int i=>obtain⟨t,q⟩:=(show ∃t,u=Value.int i t from rx);cases q;exact Cp PySem.W.kitx_int I.kIn True.intro e (fun z=>nomatch z) h
 |str y=>obtain⟨t,q⟩:=(show ∃t,u=Value.str y t from rx);cases q;exact Cp PySem.W.kitx_str I.kIn True.intro e (fun z=>nomatch z) h
 |flt y=>obtain⟨t,q⟩:=(show ∃t,u=Value.float y t from rx);cases q;exact Cp PySem.W.kitx_float I.kIn True.intro e (fun z=>nomatch z) h
 | @lst a xs ea=>
  cases (show u=Value.ref a from rx)
  obtain⟨_,_,n,_,h1⟩:=(show ObjOk X.prog X.w H s.heap a (.lst xs) from I.hok a _ ea)
  exact Cp PySem.W.kitx_list I.kIn ⟨_,h1,rfl⟩ e (fun z=>nomatch z) h
 | @frz a ob xs ea=>
  cases (show u=Value.ref a from rx)
  obtain⟨_,_,_,n,_,h1⟩:=(show ObjOk X.prog X.w H s.heap a (.frz ob (.lst xs)) from I.hok a _ ea)
  exact Cp PySem.W.kitx_list I.kIn ⟨_,h1,rfl⟩ e (fun z=>nomatch z) h
 | @tup a xs ea=>
  cases (show u=Value.ref a from rx)
  obtain⟨_,_,_,p⟩:=(show ObjOk X.prog X.w H s.heap a (.tup xs) from I.hok a _ ea)
  obtain⟨o,h1,h2,_⟩:=p;exact Cp PySem.W.kitx_tuple I.kIn ⟨o,h1,h2⟩ e (fun z=>nomatch z) h
 | @dK a kvs ea=>
  cases (show u=Value.ref a from rx)
  obtain⟨_,_,vs,_,p⟩:=(show ObjOk X.prog X.w H s.heap a (.dK kvs) from I.hok a _ ea)
  obtain⟨o,es,ep,h1,h2,_⟩:=p;exact Cp PySem.W.kitx_dict I.kIn ⟨o,h1,h2.1⟩ e (fun z=>nomatch z) h
 | @dT a kvs ea=>
  cases (show u=Value.ref a from rx)
  obtain⟨_,_,xs,_,o,es,ep,h1,h2,_⟩:=(show ObjOk X.prog X.w H s.heap a (.dT kvs) from I.hok a _ ea)
  exact Cp PySem.W.kitx_dict I.kIn ⟨o,h1,h2.1⟩ e (fun z=>nomatch z) h
 | @ins a C dx fs ea cl ha hn htk hm=>
  cases (show u=Value.ref a from rx)
  obtain⟨mA,O,_⟩:=GX I.hok ea;obtain⟨od,J,_⟩:=O.look;exact Cp (PySem.W.kitx_own (cl.get _) cl.hd ha hn htk hm) I.kIn J e (fun z=>nomatch z) h
end
structure Room (k:Nat) (A:Around):Prop where
 hd:A.handled=none
 dp:A.depth+3*k+5<recursionLimit
 un:A.units+16*k+200<cLine
def Room.mono {j k:Nat} {A:Around} (r:Room k A) (h:j<=k):Room j A:=⟨r.hd,by have:=r.dp;lia,by have:=r.un;lia⟩
theorem Room.deeper {k:Nat} {A:Around} (r:Room (k+1) A) (env:Env):Room k (A.deeper env):=
 ⟨r.hd,by have:=r.dp;show A.depth+1+3*k+5<_;lia,by have:=r.un;show A.units+3+16*k+200<_;lia⟩
def QP {A:Around} {C:Addr} {us:List Value} {kw:List (Str×Value)}:(A.under (.builtin "type.__call__" ⟨.ref C::us,kw⟩)).depth=A.depth+1:=by
 first|rfl|simp[Around.under,Code.weight,Code.isCreation,Code.isGuard,Code.isCaller,Code.frames,Code.isFrame,guardIds]
def QQ {A:Around} {C:Addr} {us:List Value} {kw:List (Str×Value)}:(A.under (.builtin "type.__call__" ⟨.ref C::us,kw⟩)).units=A.units+1:=by
 first|rfl|simp[Around.under,Code.cUnits,Code.frames,Code.isFrame]
def Room.make {k:Nat} {A:Around} (r:Room (k+1) A) (C:Addr) (us:List Value) (kw:List (Str×Value)):Room k (A.under (.builtin "type.__call__" ⟨.ref C::us,kw⟩)):=
 ⟨r.hd,by have:=r.dp;rw[QP];lia,by have:=r.un;rw[QQ];lia⟩
theorem Room.depth {k:Nat} {A:Around} (r:Room k A):A.depth<recursionLimit:=by have:=r.dp;lia
theorem Room.units {k:Nat} {A:Around} (r:Room k A):A.units+64<cLine:=by have:=r.un;lia
def tNil:TA:=fun _ H Q=>Q [] H
def QR (ta:TE) (tr:TA):TA:=fun σ H Q=>ta σ H fun x H1=>tr σ H1 fun xs H2=>Q (x::xs) H2
section
variable {X:Cx} {e:Expr} {es:List Expr} {te:TE} {t:TA} {pos:Pos}
def QS:PA X [] tNil:=fun _ _ _ _ H Q I h=>Calls.spliced_nil ⟨[],H,I,.nil,h⟩
def QT (ha:PE X e te) (hr:PA X es t) (hs:SE X e es:=by rfl):PA X (e::es) (QR te t):=by
 intro pos pins s σ H Q I h;rw[hs];show wpAny _ _ (spliced ((false,eval e X.env)::backTo pos (starEach es X.env))) _ _ s
 refine Calls.spliced_cons (thn (ha pins s σ H _ I h) fun u s1 ⟨x,H1,I1,r1,q1⟩=>?_)
 exact thn (hr pos pins s1 σ H1 _ I1 q1) fun us s2 ⟨xs,H2,I2,r2,q2⟩=>⟨x::xs,H2,I2,.cons r1 r2,q2⟩
def tTup (t:TA):TE:=fun σ H Q=>t σ H fun xs H1=>xs.length<=sizeLine/\∀p,H1 p=none->Q (.ref p) (zk H1 p (.tup xs))
def tLst (t:TA):TE:=fun σ H Q=>t σ H fun xs H1=>xs.length<=sizeLine/\∀p,H1 p=none->Q (.ref p) (zk H1 p (.lst xs))
def QU {x1} (h:PA X es t):PE X (.Tuple es x1 pos) (tTup t):=by
 intro pins s σ H Q I hq
 refine wpAny_Tuple_spliced (thn (h pos pins s σ H _ I hq) fun us s1 ⟨xs,H1,I1,r,z,q⟩=>⟨by rw[<-r.length];exact z,?_⟩)
 have hf:H1 s1.heap.objs.size=none:=I1.hok.fresh (Af _)
 refine⟨.ref s1.heap.objs.size,zk H1 s1.heap.objs.size (.tup xs),I1.laid (t':=s1.toks) (fun b u e=>Aw _ e) (Af _) ?_,rfl,q _ hf⟩
 exact⟨z,us,r,⟨_,Bf _ rfl,rfl,_,rfl⟩⟩
def QV (h:PA X es t):PE X (.List es pos) (tLst t):=by
 intro pins s σ H Q I hq
 refine wpAny_List_spliced (thn (h pos pins s σ H _ I hq) fun us s1 ⟨xs,H1,I1,r,z,q⟩=>⟨by rw[<-r.length];exact z,?_⟩)
 have hf:H1 s1.heap.objs.size=none:=I1.hok.fresh (Af _)
 refine⟨.ref s1.heap.objs.size,zk H1 s1.heap.objs.size (.lst xs),I1.laid (t':=s1.toks) (fun b u e=>Aw _ e) (Af _) ?_,rfl,q _ hf⟩
 exact⟨z,us,0,r,Bf _ rfl⟩
end
abbrev Sp:=List V->Hp->VK->XK->Prop
abbrev jz:=List Env->Hp->Shared->XK->VP
structure Env0 (P:Program) (w:World) (K:FG) (mg:Str->Option Value) (base:Heap) (A:Around) (outer:List Env) (s:Shared) (H:Hp):Prop where
 frames:A.frames=some outer
 mod:Mod K mg base
 bs:∀b o,base.get? b=some o->s.heap.get? b=some o/\H b=none
 bsz:base.objs.size<=s.heap.objs.size
 funs:s.heap.FunFrames base outer
 frf:∀b∈yQ outer,H b=none
 hok:HOk P w H s.heap
 bare:AllBare s.gens
def CE (outer:List Env) (P:Program) (w:World) (H:Hp) (s:Shared) (Q:VK) (u:Value) (s':Shared):Prop:=
 ∃v H',s'.os=s.os/\AllBare s'.gens/\Un (yQ outer) [] H H' s.heap s'.heap/\HOk P w H' s'.heap/\RelV v u/\Q v H'
def CR (CX:jz) (outer:List Env) (P:Program) (w:World) (H:Hp) (s:Shared) (Q:VK) (E:XK) (r:Result) (s':Shared):Prop:=
 match r with
 |.ok (.ret u)=>CE outer P w H s Q u s'
 |.ok _=>False
 |.error e=>CX outer H s E e s'
structure FnOk (P:Program) (w:World) (K:FG) (mg:Str->Option Value) (base:Heap) (CX:jz) (k:Nat) (f:Addr) (fd:FuncData) (ps:List Str) (sp:Sp):Prop where
 len:∀vs H Q E,sp vs H Q E->vs.length=ps.length
 run:∀(A:Around) (outer:List Env) (s:Shared) (H:Hp) (args:Args) (us:List Value) (vs:List V) (Q:VK) (E:XK),Room k A->Env0 P w K mg base A outer s H->BindsTo s fd args (ps.zip us)->Vals vs us->sp vs H Q E->
  codeAny (model P w) A (.call (.ref f) args) (CR CX outer P w H s Q E) s
def FnOk.imp {P:Program} {w:World} {K:FG} {mg:Str->Option Value} {base:Heap} {CX:jz} {k:Nat} {f:Addr} {fd:FuncData} {ps:List Str} {sp sp':Sp} (F:FnOk P w K mg base CX k f fd ps sp)
  (h:∀vs H Q E,sp' vs H Q E->sp vs H Q E):FnOk P w K mg base CX k f fd ps sp':=
 ⟨fun vs H Q E q=>F.len vs H Q E (h _ _ _ _ q),fun A outer s H args us vs Q E hr he hb hv hs=>F.run A outer s H args us vs Q E hr he hb hv (h _ _ _ _ hs)⟩
def Env0.make {P:Program} {w:World} {K:FG} {mg:Str->Option Value} {base:Heap} {A:Around} {outer:List Env} {s:Shared} {H:Hp} (e:Env0 P w K mg base A outer s H) (C:Addr) (us:List Value) (kw:List (Str×Value)):
 Env0 P w K mg base (A.under (.builtin "type.__call__" ⟨.ref C::us,kw⟩)) outer s H:=⟨by first|exact e.frames|(simpa[Around.under,Code.envs,Code.isFrame,pushEnvs] using e.frames),e.mod,e.bs,e.bsz,e.funs,e.frf,e.hok,e.bare⟩
section
variable {X:Cx} {pins:AL} {σ:St} {H:Hp} {s s':Shared}
def Inv.env0 (I:Inv X pins σ H s):Env0 X.prog X.w X.K X.mg X.base X.A X.stack s H:=
 ⟨I.ok.frames,I.ok.mod,I.bs,Bs I.ok.bsz I.sz,I.stack,I.stkFree,I.hok,I.bare⟩
def Inv.after {Q:VK} {u:Value} (I:Inv X pins σ H s) (h:CE X.stack X.prog X.w H s Q u s'):EP X pins σ Q u s':=by
 obtain⟨v,H',os,bare,un,hok,r,q⟩:=h;obtain⟨hh,g,d,t,os'⟩:=s';obtain rfl:os'=s.os:=os;exact⟨v,H',I.call (h':=hh) (g':=g) (d':=d) (t':=t) (ch:=[]) un hok bare (fun b z=>absurd z (by simp)),r,q⟩
end
def Lx (sp:Sp) (dvs:List V) (E:XK) (t:TA):TE:=fun σ H Q=>t σ H fun vs H1=>sp (vs++dvs) H1 Q E
def IJ (C:Addr) (m:Str) (sp:Sp) (dvs:List V) (E:XK) (ta:TE) (t:TA):TE:=fun σ H Q=>ta σ H fun x H1=> ∃a dx fs,x=.ref a/\H1 a=some (.ins C dx fs)/\fs.lookup m=none/\
 t σ H1 fun vs H2=>sp (x::(vs++dvs)) H2 Q E
def Ly (C:Addr) (sp:Sp) (dvs:List V) (E:XK) (t:TA):TE:=fun σ H Q=>t σ H fun vs H1=> ∀x dx,H1 x=none->H1 dx=none->dx≠x->
 sp (.ref x::(vs++dvs)) (zk (zk H1 dx (.own x)) x (.ins C dx [])) (fun v H2=>v=.non/\Q (.ref x) H2) E
def Binds (K:FG) (fd:FuncData) (ps:List Str) (ds:List Value):Prop:=
 ∀(s:Shared) (us:List Value),K.In s.heap->(us++ds).length=ps.length->BindsTo s fd ⟨us,[]⟩ (ps.zip (us++ds))
def Binds.all {K:FG} {fd:FuncData} {ps:List Str} (h:∀us:List Value,us.length=ps.length->bindArgs fd ⟨us,[]⟩=pure (ps.zip us)):Binds K fd ps []:=fun s us _ hl=>by
 rw[B1]at hl ⊢;exact .of_eq (h us hl)
def qN (CX:jz) (X:Cx) (E:XK):Prop:=∀(pins:AL) (σ:St) (H:Hp) (s:Shared) (e:Value) (s':Shared),Inv X pins σ H s->CX X.stack H s E e s'->X.xe e s'
section
variable {X:Cx} {CX:jz} {k:Nat} {f C:Addr} {fd:FuncData} {ps:List Str} {sp:Sp} {dvs:List V} {ds:List Value} {E:XK} {x m:Str} {p pos apos:Pos} {e o:Expr} {es:List Expr} {ta:TE} {t:TA}
def IK {pins:AL} {σ:St} {H:Hp} {s:Shared} {Q:VK} {us:List Value} {vs:List V} (F:FnOk X.prog X.w X.K X.mg X.base CX k f fd ps sp) (hr:Room k X.A) (hb:Binds X.K fd ps ds) (hd:Vals dvs ds) (hx:qN CX X E)
  (I:Inv X pins σ H s) (r:Vals vs us) (h:sp (vs++dvs) H Q E):wpAny (model X.prog X.w) X.A (call (.ref f) us) (EP X pins σ Q) X.xe s:=by
 have r2:Vals (vs++dvs) (us++ds):=r.append hd;have hl:(us++ds).length=ps.length:=by rw[<-r2.length];exact F.len _ _ _ _ h
 refine wpAny_call (D6 (F.run X.A X.stack s H ⟨us,[]⟩ (us++ds) (vs++dvs) Q E hr I.env0 (hb s us I.kIn hl) r2 h) fun r s' hq=>?_)
 cases r with
 |error e=>exact hx pins σ H s e s' I hq
 |ok fl=>
  cases fl with
  |ret u=>exact I.after hq
  |next=>exact False.elim hq
  |brk=>exact False.elim hq
  |cont=>exact False.elim hq
def QW (F:FnOk X.prog X.w X.K X.mg X.base CX k f fd ps sp) (hr:Room k X.A) (hg:Gl X x) (hm:X.mg x=some (.ref f)) (hk:PySem.W.keepIn X.K (.ref f)=true) (hb:Binds X.K fd ps ds) (hd:Vals dvs ds) (hx:qN CX X E)
  (ha:PA X (e::es) t) (hdb:(x==("__debug__" :Str))=false:=by decide) (he:SE X e es:=by rfl) (hpl:BA X pos es:=by rfl):
  PE X (.Call (.Name x p) (e::es) [] pos) (Lx sp dvs E t):=by
 intro pins s σ H Q I h
 refine D7 (Iz I hg hm ?_ hdb)
 refine PySem.W.callWith_K (h₀:=X.base) I.ok.mod.kin hk (thn (ha pos pins s σ H _ I h) fun us s1 ⟨vs,H1,I1,r,q⟩=>⟨I1.kIn,?_⟩) he hpl
 exact IK F hr hb hd hx I1 r q
def QX {pl:Sem Bool} (he:PE X o ta) (c:Cls X.K C) (hm:Meth X.K C m f) (F:FnOk X.prog X.w X.K X.mg X.base CX k f fd ps sp) (hr:Room k X.A) (hb:Binds X.K fd ps ds) (hd:Vals dvs ds) (hx:qN CX X E) (ha:PA X (e::es) t)
  (hst:SE X e es:=by rfl) (hpl:BA X pos es:=by rfl)
  (ht:eval (.Call (.Attribute o m apos) (e::es) [] pos) X.env=(do
   let ov <-eval o X.env
   standAt apos.atName
   let (f,first) <-holding [ov] (getMethod ov m pl)
   callWith pos f first (backTo pos (starEach (e::es) X.env)) (backToKw pos (keywordEach [] X.env))):=by rfl):
  PE X (.Call (.Attribute o m apos) (e::es) [] pos) (IJ C m sp dvs E ta t):=by
 intro pins s σ H Q I h
 refine PySem.W.methodCall_KW (pl:=pl) (thn (he pins s σ H _ I h) fun u s1 ⟨x,H1,I1,rx,a,dx,fs,ex,ea,l,q⟩=>?_) ht
 subst ex;obtain rfl:u=Value.ref a:=rx
 refine Lw I1 ea c hm l ?_
 refine PySem.W.callWith_K (first:=[.ref a]) (h₀:=X.base) I.ok.mod.kin hm.kp (thn (ha pos pins s1 σ H1 _ I1 q) fun us s2 ⟨vs,H2,I2,r,q2⟩=>⟨I2.kIn,?_⟩) hst hpl
 exact IK (us:= .ref a::us) (vs:= .ref a::vs) F hr hb hd hx I2 (.cons rfl r) q2
def QY {pl:Sem Bool} (he:PE X o ta) (c:Cls X.K C) (hm:Meth X.K C m f) (F:FnOk X.prog X.w X.K X.mg X.base CX k f fd ps sp) (hr:Room k X.A) (hb:Binds X.K fd ps ds) (hd:Vals dvs ds) (hx:qN CX X E)
  (ht:eval (.Call (.Attribute o m apos) [] [] pos) X.env=(do
   let ov <-eval o X.env
   standAt apos.atName
   let (f,first) <-holding [ov] (getMethod ov m pl)
   callWith pos f first (backTo pos (starEach [] X.env)) (backToKw pos (keywordEach [] X.env))):=by rfl):
  PE X (.Call (.Attribute o m apos) [] [] pos) (IJ C m sp dvs E ta tNil):=by
 intro pins s σ H Q I h
 refine PySem.W.methodCall_KW (pl:=pl) (thn (he pins s σ H _ I h) fun u s1 ⟨x,H1,I1,rx,a,dx,fs,ex,ea,l,q⟩=>?_) ht
 subst ex;obtain rfl:u=Value.ref a:=rx
 refine Lw I1 ea c hm l ?_
 exact PySem.W.callWith_K0 (first:=[.ref a]) I1.kIn hm.kp (IK (us:=[.ref a]) (vs:=[.ref a]) F hr hb hd hx I1 (.cons rfl .nil) q)
structure Mk (K:FG) (C f:Addr):Prop where
 makes:PySem.W.makesIn K C=true
 init:PySem.W.findIn K (.ref C) "__init__" =some (some (.ref f))
 fn:PySem.W.isFn K (.ref f)=true
 kp:PySem.W.keepIn K (.ref C)=true
def QZ {pins:AL} {σ:St} {H:Hp} {s:Shared} {Q:VK} {us:List Value} {vs:List V} (M:Mk X.K C f) (F:FnOk X.prog X.w X.K X.mg X.base CX k f fd ps sp) (hr:Room (k+1) X.A) (hb:Binds X.K fd ps ds) (hd:Vals dvs ds)
  (hx:qN CX X E) (I:Inv X pins σ H s) (r:Vals vs us)
  (h:∀x dx,H x=none->H dx=none->dx≠x->sp (.ref x::(vs++dvs)) (zk (zk H dx (.own x)) x (.ins C dx [])) (fun v H2=>v=.non/\Q (.ref x) H2) E):
  wpAny (model X.prog X.w) X.A (call (.ref C) us) (EP X pins σ Q) X.xe s:=by
 have hq:=h (s.heap.objs.size+1) s.heap.objs.size (I.hok.fresh (Dg _)) (I.hok.fresh (Af _)) (Av (Dq _));have I2:=Inv.made (C:=C) I;have r2:Vals (V.ref (s.heap.objs.size+1)::(vs++dvs)) (Value.ref (s.heap.objs.size+1)::(us++ds)):= .cons rfl (r.append hd);have hl:(Value.ref (s.heap.objs.size+1)::us++ds).length=ps.length:=by
  have e:=r2.length;rw[F.len _ _ _ _ hq]at e;exact e.symm
 refine wpAny_call (QH (f:=f) I.kIn M.makes M.init (Cy.mp M.fn) (D6 (F.run _ X.stack _ _ ⟨Value.ref (s.heap.objs.size+1)::us,[]⟩ (Value.ref (s.heap.objs.size+1)::(us++ds)) _ _ E (hr.make C us [])
  (I2.env0.make C us []) (hb _ (Value.ref (s.heap.objs.size+1)::us) I2.kIn hl) r2 hq) fun r s' hq'=>?_))
 cases r with
 |error e=>exact hx pins σ _ _ e s' I2 hq'
 |ok fl=>
  cases fl with
  |ret u=>
   obtain⟨v,H',I3,rv,ev,q3⟩:=I2.after hq';subst ev;exact⟨rv,⟨V.ref (s.heap.objs.size+1),H',I3,rfl,q3⟩⟩
  |next=>exact False.elim hq'
  |brk=>exact False.elim hq'
  |cont=>exact False.elim hq'
def Ra (M:Mk X.K C f) (F:FnOk X.prog X.w X.K X.mg X.base CX k f fd ps sp) (hr:Room (k+1) X.A) (hg:Gl X x) (hm:X.mg x=some (.ref C)) (hb:Binds X.K fd ps ds) (hd:Vals dvs ds) (hx:qN CX X E)
  (ha:PA X (e::es) t) (hdb:(x==("__debug__" :Str))=false:=by decide) (he:SE X e es:=by rfl) (hpl:BA X pos es:=by rfl):
  PE X (.Call (.Name x p) (e::es) [] pos) (Ly C sp dvs E t):=by
 intro pins s σ H Q I h
 refine D7 (Iz I hg hm ?_ hdb)
 refine PySem.W.callWith_K (h₀:=X.base) I.ok.mod.kin M.kp (thn (ha pos pins s σ H _ I h) fun us s1 ⟨vs,H1,I1,r,q⟩=>⟨I1.kIn,?_⟩) he hpl
 exact QZ M F hr hb hd hx I1 r q
end
structure FnScope (N P:List Str) (sc:Scope):Prop where
 kind:sc.kind=.function
 co:sc.isCoroutine=false
 gen:sc.isGenerator=false
 nd:N.Nodup
 pre:N.take P.length=P
 par:∀x∈P,sc.names.lookup x=some .local\/sc.names.lookup x=some .cell
 nofree:∀y∈sc.names,y.2≠ .free
theorem Lz {kindOf:Str->Option NameKind} {x:Str}:∀{binds:List (Str×Value)} {m:Str->Option Value},(∀v,(x,v)∉binds)->bindL kindOf binds m x=m x
 | [],_,_=>rfl
 | (n,v)::r,m,h=>by
  unfold bindL;rw[Lz fun w hw=>h w (Ap _ hw)]
  split
  .have:x≠n:=by rintro rfl;exact h v Ak
   simp[this]
  .rfl
theorem L0 {kindOf:Str->Option NameKind} {x:Str}:∀{binds:List (Str×Value)} {m:Str->Option Value},(∀v,(x,v)∉binds)->bindC kindOf binds m x=m x
 | [],_,_=>rfl
 | (n,v)::r,m,h=>by
  unfold bindC;rw[L0 fun w hw=>h w (Ap _ hw)]
  split
  .rfl
  .have:x≠n:=by rintro rfl;exact h v Ak
   simp[this]
theorem L5 {kindOf:Str->Option NameKind} {x:Str} {v:Value}:∀{P:List Str} {vs:List Value} {i:Nat} {m:Str->Option Value},P.Nodup->P[i]? =some x->vs[i]? =some v->kindOf x=some .local->
  bindL kindOf (P.zip vs) m x=some v
 | [],_,_,_,_,h,_,_=>by simp at h
 |_::_,[],_,_,_,_,h,_=>by simp at h
 |p::P,w::vs,0,m,nd,h1,h2,hk=>by
  simp at h1 h2;subst h1;subst h2;show bindL kindOf ((p,w)::P.zip vs) m p=_;unfold bindL;rw[Lz fun v hv=>(Bn.mp nd).1 (List.of_mem_zip hv).1,Ab hk]
  simp
 |p::P,w::vs,i+1,m,nd,h1,h2,hk=>by
  show bindL kindOf ((p,w)::P.zip vs) m x=_;unfold bindL;exact L5 (i:=i) (Bn.mp nd).2 (by simpa using h1) (by simpa using h2) hk
theorem L6 {kindOf:Str->Option NameKind} {x:Str} {v:Value}:∀{P:List Str} {vs:List Value} {i:Nat} {m:Str->Option Value},P.Nodup->P[i]? =some x->vs[i]? =some v->kindOf x≠some .local->
  bindC kindOf (P.zip vs) m x=some v
 | [],_,_,_,_,h,_,_=>by simp at h
 |_::_,[],_,_,_,_,h,_=>by simp at h
 |p::P,w::vs,0,m,nd,h1,h2,hk=>by
  simp at h1 h2;subst h1;subst h2;show bindC kindOf ((p,w)::P.zip vs) m p=_;unfold bindC;rw[L0 fun v hv=>(Bn.mp nd).1 (List.of_mem_zip hv).1,Ac hk]
  simp
 |p::P,w::vs,i+1,m,nd,h1,h2,hk=>by
  show bindC kindOf ((p,w)::P.zip vs) m x=_;unfold bindC;exact L6 (i:=i) (Bn.mp nd).2 (by simpa using h1) (by simpa using h2) hk
noncomputable def start (N:List Str) (vs:List V):St:=vs.map some++List.replicate (N.length-vs.length) none
noncomputable def cxOf (CX:jz) (P:Program) (w:World) (K:FG) (mg:Str->Option Value) (base:Heap) (N:List Str) (qual:Str) (scope:Scope) (f:Addr) (cd:Value) (A:Around) (outer:List Env) (s:Shared) (H:Hp) (E:XK):Cx where
 prog:=P
 w:=w
 K:=K
 mg:=mg
 base:=base
 A:=A.deeper (envOfC qual scope s.heap.objs.size f cd)
 N:=N
 s₀:=s
 H₀:=H
 env:=envOfC qual scope s.heap.objs.size f cd
 outer:=outer
 stack:=envOfC qual scope s.heap.objs.size f cd::outer
 ex:=[]
 calm:=true
 fn:=fun _=>true
 pn:=[]
 xe:=fun e s'=>wpAny (model P w) (A.deeper (envOfC qual scope s.heap.objs.size f cd)) (leaving (envOfC qual scope s.heap.objs.size f cd) e) (fun _ s''=>CX outer H s E e s'') (fun e' s''=>CX outer H s E e' s'') s'
def L7 {sc:Scope} {n:Nat} {x:Str} (h:sc.names.lookup x=some .cell):∃c,(cellsFrom n sc.names []).lookup x=some c:=by
 have q:=PySem.W.cellsFrom_some sc.names n [] (.inl h);exact Option.isSome_iff_exists.mp q
def Rb {CX:jz} {P:Program} {w:World} {K:FG} {mg:Str->Option Value} {base:Heap} {N ps:List Str} {qual:Str} {scope:Scope} {f:Addr} {cd:Value} {A:Around} {outer:List Env} {s s1:Shared} {H:Hp} {E:XK} {us:List Value} {vs:List V}
  (S:FnScope N ps scope) (hd:A.handled=none) (e0:Env0 P w K mg base A outer s H) (hl:vs.length=ps.length) (r:Vals vs us)
  (x:InCallC s s.heap.objs.size (bindL (envOfC qual scope s.heap.objs.size f cd).kindOf (ps.zip us) fun _=>none) (cellsFrom (s.heap.objs.size+1) scope.names []) (bindC (envOfC qual scope s.heap.objs.size f cd).kindOf (ps.zip us) fun _=>none) s1):
  Inv (cxOf CX P w K mg base N qual scope f cd A outer s H E) [] (start N vs) H s1:=by
 have hpl:ps.length<=N.length:=by have:=congrArg List.length S.pre;rw[Be]at this;lia
 obtain⟨h1,tk,rfl,hk⟩:=x.done;have noA:∀b:Addr,b∉(cxOf CX P w K mg base N qual scope f cd A outer s H E).ex:=fun b z=>absurd (show b∈([]:List Addr) from z) (by simp)
 refine⟨⟨e0.mod,S.kind,rfl,rfl,Af _,fun y z c h1 h2=>?_,fun y hy=>?_,fun y c _ h=>?_,fun _=>hd,Around.frames_deeper e0.frames,.inr ⟨rfl,rfl⟩,fun b z=>absurd z (noA b),e0.bs,e0.bsz,fun b _ _=>noA b,fun b z=>absurd z (noA b),e0.funs,e0.frf⟩,
  rfl,e0.bare,Un.kept hk,⟨_,x.toInCall.ns,fun i y v h1 h2 h3=>?_⟩,fun y c h=>⟨_,x.cell y c h⟩,e0.hok.fresh (Af _),fun y c h=>?_,fun p hp=>absurd (show p∈([]:AL) from hp) (by simp),e0.hok.kept hk,?_⟩
 .exact name_of_addr x.apart (Da h1) (Da h2)
 .have hy:scope.names.lookup y=some .cell\/scope.names.lookup y=some .free:=hy
  rcases hy with hy|hy
  .exact L7 hy
  .exact absurd rfl (S.nofree _ (Da hy))
 .exact D4 (x.above y c (Da h))
 .have hi:i<vs.length:=by
   unfold start at h2
   by_cases hi:i<vs.length
   .exact hi
   .rw[Bl (by simpa using hi)]at h2
    rw[Ge]at h2
    split at h2<;>cases h2
  have ha:vs[i]? =some v:=by
   unfold start at h2;rw[Bc (by simpa using hi),Az]at h2
   cases e:vs[i]? with
   |none=>rw[e]at h2;cases h2
   |some a=>rw[e]at h2;cases h2;rfl
  obtain⟨u,hu,rv⟩:=r.get ha;have hp:ps[i]? =some y:=by
   rw[<-S.pre,Cq (by lia)];exact h1
  have ndP:ps.Nodup:=by rw[<-S.pre];exact S.nd.sublist (List.take_sublist _ _)
  refine⟨u,rv,?_⟩
  rcases S.par y (Al hp) with k|k
  .exact .inl ⟨k,L5 ndP hp hu k⟩
  .obtain⟨c,e⟩:=L7 (n:=s.heap.objs.size+1) k
   refine .inr ⟨.inl k,c,e,?_⟩
   have q:=x.cell y c e;rw[L6 ndP hp hu (by show scope.names.lookup y≠_;rw[k];decide)]at q
   exact q
 .exact e0.hok.fresh (D4 (x.above y c (Da h)))
 .unfold start
  show _=N.length;rw[Ar,Ae,Dr];lia
def Rc {CX:jz} {P:Program} {w:World} {K:FG} {mg:Str->Option Value} {base:Heap} {k:Nat} {f:Addr} {name qual:Str} {params:Arguments} {body:List Stmt} {scope:Scope} {dV kV doc pm cdv ct oc:Value} {an od:Option Addr}
  {osl:Array (Option Value)} {N ps:List Str} {sp:Sp} (lk:K.lookup f=some ⟨oc,od,.func (PySem.W.fnOf name qual params body scope dV kV doc pm an cdv ct),osl⟩) (hcd:PySem.W.codeIn K cdv qual=true) (S:FnScope N ps scope)
  (len:∀vs H Q E,sp vs H Q E->vs.length=ps.length)
  (hbody:∀(A:Around) (outer:List Env) (s:Shared) (H:Hp) (vs:List V) (Q:VK) (E:XK),Room k (A.deeper (envOfC qual scope s.heap.objs.size f cdv))->sp vs H Q E->
   ∃t,yS (cxOf CX P w K mg base N qual scope f cdv A outer s H E) body t/\t {nx:=fun _ H'=>Q .non H',rt:=Q} (start N vs) H):
  FnOk P w K mg base CX (k+1) f (PySem.W.fnOf name qual params body scope dV kV doc pm an cdv ct) ps sp:=by
 refine⟨len,fun A outer s H args us vs Q E hr e0 hb r hsp=>?_⟩
 have hl:=len _ _ _ _ hsp;have KX:K.In s.heap:=e0.mod.kin.keeps fun b o e=>(e0.bs b o e).1
 have lim:s.heap.NoLimit:=e0.mod.nolimit.keeps fun b o e=>(e0.bs b o e).1
 have hkind:∀y∈ps.zip us,scope.names.lookup y.1=some .local\/(scope.names.lookup y.1=some .cell/\((cellsFrom (s.heap.objs.size+1) scope.names []).lookup y.1).isSome=true):=fun ⟨n,v⟩ hy=>by
  rcases S.par n (List.of_mem_zip hy).1 with q|q
  .exact .inl q
  .exact .inr ⟨q,PySem.W.cellsFrom_some _ _ _ (.inl q)⟩
 refine codeAny_call_function hr.depth (KX _ _ lk) rfl S.co S.gen rfl (PySem.W.codeRec_of KX hcd) (hb _ _ _ _ ?_)
 refine wpAny_newFunctionEnv_cells S.kind hkind fun env he s1 x=>?_
 subst he
 refine⟨lim.keeps x.toInCall.keep,codeAny_func ?_⟩
 obtain⟨t,ht,hq⟩:=hbody A outer s H vs Q E (hr.deeper _) hsp;have I:Inv (cxOf CX P w K mg base N qual scope f cdv A outer s H E) [] (start N vs) H s1:=Rb S hr.hd e0 hl r x
 refine B9 (ht [] s1 (start N vs) H _ I hq) (fun fl s' hs=>?_) fun e s' hs=>hs
 have fin:∀{σ':St} {H':Hp} {v:V} {u:Value},Inv (cxOf CX P w K mg base N qual scope f cdv A outer s H E) [] σ' H' s'->RelV v u->Q v H'->CE outer P w H s Q u s':=
  fun {σ' H' v u} J rv q=>⟨v,H',J.os,J.bare,J.base,J.hok,rv,q⟩
 cases fl with
 |ret u=>
  obtain⟨v,σ',H',J,rv,q⟩:=hs;exact fin J rv q
 |next=>
  obtain⟨σ',H',J,q⟩:=hs;exact fin (v:=V.non) (u:=Value.none) J rfl q
 |brk=>
  obtain⟨_,_,_,q⟩:=hs;exact False.elim q
 |cont=>
  obtain⟨_,_,_,q⟩:=hs;exact False.elim q
section
variable {X:Cx} {x:Str} {p pos:Pos} {e:Expr} {es:List Expr} {t:TA} {id T:String} {r:List V->Hp->VK->Prop}
def tCB (r:List V->Hp->VK->Prop) (t:TA):TE:=fun σ H Q=>t σ H fun vs H1=>r vs H1 Q
def Re (hc:qc X (.builtin id) r) (hg:Gl X x) (hm:X.mg x=none) (hv:bootBuiltins x=some (.builtin id)) (ha:PA X (e::es) t) (hn:x≠"__name__" :=by decide) (hdb:(x==("__debug__" :Str))=false:=by decide)
  (he:SE X e es:=by rfl) (hpl:BA X pos es:=by rfl):PE X (.Call (.Name x p) (e::es) [] pos) (tCB r t):=by
 intro pins s σ H Q I h
 refine D7 (BL I hg hm hv ?_ hn hdb)
 exact PyProof.Rows.callWith_builtin1 (thn (ha pos pins s σ H _ I h) fun us s1 ⟨vs,H1,I1,r1,q1⟩=>hc pins s1 σ H1 vs us Q I1 r1 q1) he hpl
def Rg (hc:qc X (.type T) r) (hg:Gl X x) (hm:X.mg x=none) (hv:bootBuiltins x=some (.type T)) (ha:PA X (e::es) t) (hn:x≠"__name__" :=by decide) (hdb:(x==("__debug__" :Str))=false:=by decide)
  (he:SE X e es:=by rfl) (hpl:BA X pos es:=by rfl):PE X (.Call (.Name x p) (e::es) [] pos) (tCB r t):=by
 intro pins s σ H Q I h
 refine D7 (BL I hg hm hv ?_ hn hdb)
 exact El (thn (ha pos pins s σ H _ I h) fun us s1 ⟨vs,H1,I1,r1,q1⟩=>hc pins s1 σ H1 vs us Q I1 r1 q1) he hpl
end
end L2
namespace HT
open PySem PyProof.Rows
section
variable {prog:Program} {w:World} {A:Around} {E:VP} {s:Shared}
noncomputable def sIx (n d:Nat):Option Int->Nat
 |none=>d
 |some v=>if v<0 then (v+(n:Int)).toNat else min v.toNat n
def Rh (n d:Nat) (hd:d<=n) (o:Option Int):sIx n d o<=n:=by
 cases o with
 |none=>exact hd
 |some v=>
  show (if v<0 then (v+(n:Int)).toNat else min v.toNat n)<=n
  by_cases hv:v<0
  .rw[Ab hv];lia
  .rw[Ac hv];exact Nat.min_le_right _ _
def L8 (v:Int) (n d:Nat):(if v<0 then max (v+(n:Int)) 0 else min v (n:Int))=((sIx n d (some v):Nat):Int):=by
 show (if v<0 then max (v+(n:Int)) 0 else min v (n:Int))=(((if v<0 then (v+(n:Int)).toNat else min v.toNat n):Nat):Int)
 by_cases hv:v<0
 .simp only[Ab hv];lia
 .simp only[Ac hv];lia
def Ri (lo hi:Option Int) (n:Nat):Builtin.Slice.sliceAdjust lo hi 1 (n:Int)=(((sIx n 0 lo:Nat):Int),((sIx n n hi:Nat):Int)):=by
 have h1: ¬((1:Int)<0):=by lia
 unfold Builtin.Slice.sliceAdjust;simp only[h1,Bv]
 refine Prod.ext ?_ ?_
 .cases lo with
  |none=>rfl
  |some v=>exact L8 v n 0
 .cases hi with
  |none=>rfl
  |some v=>exact L8 v n n
def Rj (i j:Nat):Builtin.Slice.slicePlaces (i:Int) (j:Int) 1=j-i:=by
 unfold Builtin.Slice.slicePlaces;have h1:(1:Int) > 0:=by lia
 simp only[h1,Bw,Int.ediv_one]
 split<;>lia
def L9 {v:Value} {o:Option Int} {Q:Option Int->Shared->Prop} (p:IsPart v o) (h:Q o s):wpAny (model prog w) A (Builtin.Slice.slicePartIndex v) Q E s:=by
 cases p with
 |none=>exact slicePart_none h
 |int i t=>exact slicePart_int h
def Rk {sl:Addr} {vl vu:Value} {lo hi:Option Int} {n:Nat} {Q:Int×Int×Nat->Shared->Prop} (hs:s.heap.IsSliceOf sl vl vu .none) (pl:IsPart vl lo) (pu:IsPart vu hi)
  (h:Q (((sIx n 0 lo:Nat):Int),1,sIx n n hi-sIx n 0 lo) s):wpAny (model prog w) A (Builtin.Slice.sliceApplied (.ref sl) (pure (n:Int))) Q E s:=by
 obtain⟨os,hos,hcs,hds⟩:=id hs;unfold Builtin.Slice.sliceApplied Builtin.Slice.sliceFields
 refine Aa (Aa (wpAny_field hos hds (x:=vl) rfl (Aa (wpAny_field hos hds (x:=vu) rfl (Aa (wpAny_field hos hds (x:= .none) rfl (Ad ?_)))))))
 refine Aa (slicePart_none ?_)
 show wpAny _ _ (if ((1:Int)==0)=true then _ else _) _ _ s
 rw[Ac (by decide)]
 refine Aa (L9 pl (Aa (L9 pu (Aa (Ad ?_)))))
 show wpAny _ _ (match Builtin.Slice.sliceAdjust lo hi 1 (n:Int) with|(lo,hi)=>pure (lo,(1:Int),Builtin.Slice.slicePlaces lo hi 1)) _ _ s
 rw[Ri lo hi n];show wpAny _ _ (pure (((sIx n 0 lo:Nat):Int),(1:Int),Builtin.Slice.slicePlaces ((sIx n 0 lo:Nat):Int) ((sIx n n hi:Nat):Int) 1)) _ _ s;rw[Rj];exact Ad h
def Rl (xs:Array Value) (i k:Nat):((List.range k).filterMap fun (m:Nat)=>xs[((i:Int)+(m:Int)*1).toNat]?).toArray=((xs.toList.drop i).take k).toArray:=by
 have e:(fun (m:Nat)=>xs[((i:Int)+(m:Int)*1).toNat]?)=fun m=>xs[i+m]? :=by
  funext m
  have:((i:Int)+(m:Int)*1).toNat=i+m:=by lia
  rw[this]
 rw[e];have:=pick_run xs i k;rw[List.filterMap_map]at this;have e2:((fun x=>xs[x]?)∘fun x=>i+x)=fun m=>xs[i+m]? :=rfl
 rw[e2]at this;rw[this]
def getItem_tuple_cut {t sl:Addr} {items:Array Value} {vl vu:Value} {lo hi:Option Int} {Q:VP} (ht:IsTup s.heap t items) (hs:s.heap.IsSliceOf sl vl vu .none) (pl:IsPart vl lo) (pu:IsPart vu hi)
  (hw: ¬(sIx items.size 0 lo=0/\sIx items.size items.size hi=items.size))
  (h:Q (.ref s.heap.objs.size) {s with heap:=s.heap.push {cls:= .type "tuple",data:= .seq ((items.toList.drop (sIx items.size 0 lo)).take (sIx items.size items.size hi-sIx items.size 0 lo)).toArray}})
  (hsz:items.size<=sizeLine):wpAny (model prog w) A (getItem (.ref t) (.ref sl)) Q E s:=by
 have htake:sizeOk (.seq ((items.toList.drop (sIx items.size 0 lo)).take (sIx items.size items.size hi-sIx items.size 0 lo)).toArray):=by
  show ((items.toList.drop (sIx items.size 0 lo)).take (sIx items.size items.size hi-sIx items.size 0 lo)).toArray.size<=sizeLine;rw[Am,Be,Em,Bz];lia
 have hj:sIx items.size items.size hi<=items.size:=Rh _ _ (Af _) hi;obtain⟨os,hos,hcs,hds⟩:=id hs;have hTs:s.TypeIs (.ref sl) "slice" :=⟨os,hos,hcs⟩;unfold getItem
 try with_reducible refine Bt ?_
 first|refine Aa (Ad ?_)|skip
 refine Aa (wpAny_sequenceKey ht.typeIs (by decide) ?_)
 refine Aa (Ds (name:=Str.ofString "__getitem__") ht.typeIs Gf
  (Ca Gf ht.typeIs entry_tuple_getitem ?_ (args_tuple_getitem _ _)))
 show wpAny _ _ (Builtin.Tuple.tupleItemsOf (.ref t) >>=_) _ _ s
 refine Aa (tupleItemsOf_ ht ?_)
 refine Aa (wpAny_typeOf hTs ?_)
 rw[Ab (by decide)]
 refine Aa (Rk hs pl pu ?_)
 have hno: ¬((((sIx items.size 0 lo:Nat):Int)==0 && (1:Int)==1 && (sIx items.size items.size hi-sIx items.size 0 lo)==items.size)=true):=by
  intro q;rw[Bi,Bi]at q;have q1:((sIx items.size 0 lo:Nat):Int)=0:=eq_of_beq q.1.1;have q2:sIx items.size items.size hi-sIx items.size 0 lo=items.size:=eq_of_beq q.2;exact hw ⟨by lia,by lia⟩
 show wpAny _ _ (if (((sIx items.size 0 lo:Nat):Int)==0 && (1:Int)==1 && (sIx items.size items.size hi-sIx items.size 0 lo)==items.size)=true then _ else _) _ _ s
 rw[Ac hno,Rl]
 first
  |exact Aa (m:=Builtin.Tuple.tupleExact _) (Cd (Ad ⟨_,rfl,Ad h⟩) htake)
  |exact Aa (m:=Builtin.Tuple.tupleExact _) (Cd (Aa (Ad (Ad ⟨_,rfl,Ad h⟩))) htake)
  |exact Aa (Aa (m:=Builtin.Tuple.tupleExact _) (Cd (Ad (Ad ⟨_,rfl,Ad h⟩)) htake))
  |exact Aa (Aa (m:=Builtin.Tuple.tupleExact _) (Cd (Ad ⟨_,rfl,Ad h⟩) htake))
end
end HT
namespace L2
open PySem PySem.Spec PyProof.Rows
abbrev TO:=St->Hp->(Option Int->Hp->Prop)->Prop
def PO (X:Cx) (e:Option Expr) (t:TO):Prop:=
 ∀(pins:AL) (s:Shared) (σ:St) (H:Hp) (Q:Option Int->Hp->Prop),Inv X pins σ H s->t σ H Q->
  wpAny (model X.prog X.w) X.A (evalPart e X.env) (fun u s'=> ∃o H',Inv X pins σ H' s'/\IsPart u o/\Q o H') X.xe s
def Rm:TO:=fun _ H Q=>Q none H
def Rn (t:TE):TO:=fun σ H Q=>t σ H fun x H1=> ∃i,x=.int i/\Q (some i) H1
section
variable {X:Cx} {e:Expr} {te:TE} {lo hi:Option Expr} {tl th:TO} {pos p2:Pos}
def Ro:PO X none Rm:=by
 intro pins s σ H Q I h;rw[evalPart_none];exact Ad ⟨none,H,I,.none,h⟩
def Rq (h:PE X e te):PO X (some e) (Rn te):=by
 intro pins s σ H Q I hw;rw[evalPart_some]
 refine thn (h pins s σ H _ I hw) fun u s1 ⟨x,H1,I1,r1,q1⟩=>?_
 obtain⟨i,rfl,q⟩:=q1;obtain⟨t,rfl⟩:=r1;exact⟨some i,H1,I1,.int i t,q⟩
def SlR (X:Cx) (r:V->Option Int->Option Int->Hp->VK->Prop):Prop:=
 ∀(pins:AL) (s:Shared) (σ:St) (H:Hp) (x:V) (v vl vu:Value) (lo hi:Option Int) (sl:Addr) (Q:VK),Inv X pins σ H s->RelV x v->s.heap.IsSliceOf sl vl vu .none->IsPart vl lo->IsPart vu hi->r x lo hi H Q->
  ∃T id,typeLookup (.type T) "__getitem__" =pure (some (.builtin id))/\s.TypeIs v T/\wpAny (model X.prog X.w) X.A (getItem v (.ref sl)) (EP X pins σ Q) X.xe s
def SlR.or {r r':V->Option Int->Option Int->Hp->VK->Prop} (h:SlR X r) (h':SlR X r'):SlR X (fun x lo hi H Q=>r x lo hi H Q\/r' x lo hi H Q):=by
 intro pins s σ H x v vl vu lo hi sl Q I rx hs pl pu q
 rcases q with q|q
 .exact h pins s σ H x v vl vu lo hi sl Q I rx hs pl pu q
 .exact h' pins s σ H x v vl vu lo hi sl Q I rx hs pl pu q
def tSl (r:V->Option Int->Option Int->Hp->VK->Prop) (te:TE) (tl th:TO):TE:=fun σ H Q=>te σ H fun x H1=>tl σ H1 fun l H2=>th σ H2 fun u H3=>r x l u H3 Q
theorem Rr {r:V->Option Int->Option Int->Hp->VK->Prop} (hr:SlR X r) (he:PE X e te) (hl:PO X lo tl) (hu:PO X hi th):PE X (.Subscript e (.Slice lo hi none p2) pos) (tSl r te tl th):=by
 intro pins s σ H Q I h
 refine Subscript_ (thn (he pins s σ H _ I h) fun v s1 ⟨x,H1,I1,r1,q1⟩=>?_)
 refine wpAny_Slice (thn (hl pins s1 σ H1 _ I1 q1) fun vl s2 ⟨l,H2,I2,pl,q2⟩=>thn (hu pins s2 σ H2 _ I2 q2) fun vu s3 ⟨u,H3,I3,pu,q3⟩=>?_)
 rw[evalPart_none]
 refine Ad ?_
 have I4:Inv X pins σ H3 {s3 with heap:=s3.heap.push {cls:= .type "slice",data:= .fields #[vl,vu,.none]}}:=I3.kept (t':=s3.toks) fun b ob q=>Aw _ q
 obtain⟨T,id,hT,ht,hg⟩:=hr pins {s3 with heap:=s3.heap.push {cls:= .type "slice",data:= .fields #[vl,vu,.none]}} σ H3 x v vl vu l u s3.heap.objs.size Q I4 r1 (Heap.IsSliceOf.new ..) pl pu q3
 show wpAny (model X.prog X.w) X.A (subscriptTail e (.Slice lo hi none p2) v (.ref s3.heap.objs.size)) (EP X pins σ Q) X.xe {s3 with heap:=s3.heap.push {cls:= .type "slice",data:= .fields #[vl,vu,.none]}}
 exact tail_any (ops:=[.ref s3.heap.objs.size,v]) ht hT hg (by with_unfolding_all rfl)
def cutV (xs:List V) (lo hi:Option Int):List V:=(xs.drop (HT.sIx xs.length 0 lo)).take (HT.sIx xs.length xs.length hi-HT.sIx xs.length 0 lo)
def LA (xs:List V) (lo hi:Option Int):(cutV xs lo hi).length<=xs.length:=by
 unfold cutV;rw[Be,Em];lia
def rSlT (K:FG):V->Option Int->Option Int->Hp->VK->Prop:=fun x lo hi H Q=> ∃a xs,x=.ref a/\SqT K H a xs/\
 ¬(HT.sIx xs.length 0 lo=0/\HT.sIx xs.length xs.length hi=xs.length)/\∀p,H p=none->Q (.ref p) (zk H p (.tup (cutV xs lo hi)))
def sl_tup:SlR X (rSlT X.K):=by
 intro pins s σ H x v vl vu lo hi sl Q I rx hs pl pu h;obtain⟨a,xs,rfl,hx,hw,q⟩:=h;cases rx;obtain⟨its,r,ht,hz⟩:=I.tuple hx;have hlen:its.toArray.size=xs.length:=by rw[Am];exact r.length.symm
 refine⟨"tuple",_,Gf.lookup,ht.typeIs,?_⟩
 refine HT.getItem_tuple_cut ht hs pl pu (by rw[hlen];exact hw) ?_ (by rw[hlen];exact hz)
 rw[hlen]
 refine⟨.ref s.heap.objs.size,_,I.laid (t':=s.toks) (o:= .tup (cutV xs lo hi)) (fun b ob q=>Aw _ q) (Af _) ?_,rfl,q _ (I.hok.fresh (Af _))⟩
 exact⟨Bs (LA xs lo hi) hz,_,(r.drop (HT.sIx xs.length 0 lo)).take (HT.sIx xs.length xs.length hi-HT.sIx xs.length 0 lo),IsTup.new _ _⟩
end
noncomputable def qp (n:Nat) (i:Int):Option Nat:=if 0<=i then (if i<n then some i.toNat else none) else if -(n:Int)<=i then some (i+n).toNat else none
def atI {α:Type} (xs:List α) (i:Int):Option α:=(qp xs.length i).bind fun j=>xs[j]?
def LB {n:Nat} {i:Int} {j:Nat} (h:qp n i=some j):seqIndex? i n=some j/\j<n/\ -(n:Int)<=i/\i<n:=by
 unfold qp at h
 by_cases h0:0<=i
 .rw[Ab h0]at h
  by_cases h1:i<n
  .rw[Ab h1]at h
   have e:i.toNat=j:=Option.some.inj h;exact⟨by rw[seqIndex_of h0 h1,e],by lia,by lia,h1⟩
  .rw[Ac h1]at h;cases h
 .rw[Ac h0]at h
  by_cases h1: -(n:Int)<=i
  .rw[Ab h1]at h
   have e:(i+n).toNat=j:=Option.some.inj h;exact⟨by rw[seqIndex_neg (by lia) h1,e],by lia,h1,by lia⟩
  .rw[Ac h1]at h;cases h
def GY {α:Type} {xs:List α} {i:Int} {v:α} (h:atI xs i=some v):∃j,seqIndex? i xs.length=some j/\xs[j]? =some v/\j<xs.length/\ -(xs.length:Int)<=i/\i<xs.length:=by
 unfold atI at h;cases e:qp xs.length i with
 |none=>rw[e]at h;cases h
 |some j=>
  rw[e]at h;obtain⟨h1,h2,h3,h4⟩:=LB e;exact⟨j,h1,h,h2,h3,h4⟩
def jk {α:Type} {xs:List α} {j:Nat} {v:α} (h:xs[j]? =some v):atI xs (j:Int)=some v:=by
 have hj:j<xs.length:=(An.mp h).1;have e:qp xs.length (j:Int)=some j:=by
  unfold qp;rw[Ab (by lia),Ab (by lia)];simp
 unfold atI;rw[e];exact h
def Rt {α:Type} (xs:List α) (v:α):atI (xs++[v]) (-1)=some v:=by
 have hl:(xs++[v]).length=xs.length+1:=by simp
 have e:qp (xs++[v]).length (-1)=some xs.length:=by
  unfold qp;rw[hl,Ac (by decide),Ab (by lia)]
  congr 1
  lia
 unfold atI;rw[e];show (xs++[v])[xs.length]? =some v;simp
def GZ (b:Expr):Prop:=∀o i,subscripted b false o i=operate [o,i] (getItem o i)
def IxR (X:Cx) (r:R2):Prop:=
 ∀(value slice:Expr) (pins:AL) (s:Shared) (σ:St) (H:Hp) (x y:V) (v u:Value) (Q:VK),Inv X pins σ H s->RelV x v->RelV y u->r x y H Q->
  subscripted slice false v u=operate [v,u] (getItem v u)->wpAny (model X.prog X.w) X.A (subscriptTail value slice v u) (EP X pins σ Q) X.xe s
def MtR (X:Cx) (id:String) (r:V->List V->Hp->VK->Prop):Prop:=
 ∀(pins:AL) (s:Shared) (σ:St) (H:Hp) (x:V) (xs:List V) (v:Value) (us:List Value) (Q:VK),Inv X pins σ H s->RelV x v->Vals xs us->r x xs H Q->
  wpAny (model X.prog X.w) X.A (call (.builtin id) (v::us)) (EP X pins σ Q) X.xe s
section
variable {X:Cx} {a b:Expr} {ta tb:TE} {pos:Pos}
def IxR.or {r r':R2} (h:IxR X r) (h':IxR X r'):IxR X (fun x y H Q=>r x y H Q\/r' x y H Q):=by
 intro value slice pins s σ H x y v u Q I rx ry q hs
 rcases q with q|q
 .exact h value slice pins s σ H x y v u Q I rx ry q hs
 .exact h' value slice pins s σ H x y v u Q I rx ry q hs
def Ru {r:R2} (hr:IxR X r) (ha:PE X a ta) (hb:PE X b tb) (hs:GZ b):PE X (.Subscript a b pos) (tOp r ta tb):=by
 intro pins s σ H Q I h;exact Subscript_ (binT ha hb I h fun v u s2 x y H2 I2 rx ry q=>hr a b pins s2 σ H2 x y v u Q I2 rx ry q (hs _ _))
def rIxL (K:FG):R2:=fun x y H Q=> ∃p xs i v,x=.ref p/\y=.int i/\SqL K H p xs/\atI xs i=some v/\Q v H
def rIxT (K:FG):R2:=fun x y H Q=> ∃p xs i v,x=.ref p/\y=.int i/\SqT K H p xs/\atI xs i=some v/\Q v H
def rIxS:R2:=fun x y H Q=> ∃z i c,x=.str z/\y=.int i/\z.length<=sizeLine/\atI z.cps.toList i=some c/\Q (.str ⟨#[c]⟩) H
def ix_list:IxR X (rIxL X.K):=by
 intro value slice pins s σ H x y v u Q I rx ry h hs;obtain⟨p,xs,i,z,rfl,rfl,hq,he,q⟩:=h;cases rx;obtain⟨t,rfl⟩:=ry;obtain⟨its,r,pl,hz⟩:=I.list hq;obtain⟨j,h1,h2,h3,h4,h5⟩:=GY he;obtain⟨w,ew,rw'⟩:=r.get h2;have hl:=r.length;have hn:=CF;have fin:EP X pins σ Q w s:=⟨z,H,I,rw',q⟩
 by_cases h0:0<=i
 .have hj:i.toNat=j:=by
   rw[seqIndex_of h0 h5]at h1;exact Option.some.inj h1
  exact item_listR pl.isList h0 (by lia) (by rw[hj];simpa using ew) fin hs
 .have hj:(i+(its.toArray.size:Int)).toNat=j:=by
   rw[seqIndex_neg (by lia) h4]at h1
   rw[Am,<-hl];exact Option.some.inj h1
  exact subscriptTail_builtinR (x:=w) pl.isList.typeIs slot_list_getitem.lookup
   (wpAny_getItem_list_neg (Q:=fun r s'=>r=w/\EP X pins σ Q r s') pl.isList (by lia) (by rw[Am]<;>lia) (by lia) (by rw[hj];simpa using ew) ⟨rfl,fin⟩) hs
def ix_tup:IxR X (rIxT X.K):=by
 intro value slice pins s σ H x y v u Q I rx ry h hs;obtain⟨p,xs,i,z,rfl,rfl,hq,he,q⟩:=h;cases rx;obtain⟨t,rfl⟩:=ry;obtain⟨its,r,pl,hz⟩:=I.tuple hq;obtain⟨j,h1,h2,h3,h4,h5⟩:=GY he;obtain⟨w,ew,rw'⟩:=r.get h2;have hl:=r.length;have hn:=CF;have fin:EP X pins σ Q w s:=⟨z,H,I,rw',q⟩;exact subscriptTail_builtinR (x:=w) pl.typeIs slot_tuple_getitem.lookup
  (getItem_tuple (j:=j) (Q:=fun r s'=>r=w/\EP X pins σ Q r s') pl (by lia) (by lia) (by rw[Am,<-hl];exact h1) (by simpa using ew) ⟨rfl,fin⟩) hs
def Rv:IxR X rIxS:=by
 intro value slice pins s σ H x y v u Q I rx ry h hs;obtain⟨z,i,c,rfl,rfl,hz,he,q⟩:=h;obtain⟨t,rfl⟩:=rx;obtain⟨t',rfl⟩:=ry;obtain⟨j,h1,h2,h3,h4,h5⟩:=GY he;have hl:z.cps.toList.length=z.length:=by simp[Str.length]
 rw[hl]at h1 h4 h5;have hn:=CF;exact tail_any (typeIs_str s z t) slot_str_getitem.lookup (getItem_str (c:=c) (by
  have e1:decide (i < -(2 ^ 63:Int))=false:=Bh (by lia)
  have e2:decide (i≥2 ^ 63)=false:=Bh (by lia)
  rw[e1,e2,D8]) (by rw[h1];simpa using h2) ⟨.str ⟨#[c]⟩,H,I.tok _,⟨_,rfl⟩,q⟩) hs
def Rw (its:List Value) (n j:Nat) (u:Value):Obj.mapSeq (·.setIfInBounds j u) {cls:= .type "list",data:= .seq its.toArray n}={cls:= .type "list",data:= .seq (its.set j u).toArray n}:=by
 simp[Obj.mapSeq]
theorem Inv.lst {pins:AL} {σ:St} {H:Hp} {s:Shared} {p:Addr} {xs:List V} (I:Inv X pins σ H s) (h:H p=some (.lst xs)):
  ∃(its:List Value) (n:Nat),Vals xs its/\s.heap.get? p=some {cls:= .type "list",data:= .seq its.toArray n}/\xs.length<=sizeLine:=by
 obtain⟨z,its,n,r,e⟩:=I.hok p _ h;exact⟨its,n,r,e,z⟩
def Inv.lstUpd {pins:AL} {σ:St} {H:Hp} {s:Shared} {p:Addr} {xs ys:List V} {its its':List Value} {n n':Nat} {f:Obj->Obj} (I:Inv X pins σ H s) (h:H p=some (.lst xs))
  (ho:s.heap.get? p=some {cls:= .type "list",data:= .seq its.toArray n}) (hf:f {cls:= .type "list",data:= .seq its.toArray n}={cls:= .type "list",data:= .seq its'.toArray n'}) (r:Vals ys its') (hz:ys.length<=sizeLine) (t:Nat):
  Inv X pins σ (zk H p (.lst ys)) {s with heap:=s.heap.update p f,toks:=t}:=by
 have e:(s.heap.update p f).get? p=some {cls:= .type "list",data:= .seq its'.toArray n'}:=by
  rw[Dt f ho (by rw[hf]<;>rfl),hf]
 refine I.write (x:=p) (e:=p) (by rw[h];trivial) (.inl rfl) (fun b u hb q=>(Fb _ _ (Cf hb)).trans q) ⟨_,e⟩ ?_
 exact⟨hz,its',n',r,e⟩
def Ha:V->V->V->Hp->(Hp->Prop)->Prop:=fun o i v H Q=> ∃p xs k j,o=.ref p/\i=.int k/\H p=some (.lst xs)/\qp xs.length k=some j/\Q (zk H p (.lst (xs.set j v)))
def LC:PSet X Ha:=by
 intro pins s σ H o i v ov iv u Q I ro ri rv h;obtain⟨p,xs,k,j,rfl,rfl,hp,hj,q⟩:=h;cases ro;obtain⟨t,rfl⟩:=ri;obtain⟨its,n,r,ho,hz⟩:=I.lst hp;obtain⟨h1,h2,h3,h4⟩:=LB hj;have hl:=r.length;have hn:=CF;have I':Inv X pins σ (zk H p (.lst (xs.set j v))) {s with heap:=s.heap.update p (Obj.mapSeq (·.setIfInBounds j u))}:=
  I.lstUpd hp ho (Rw its n j u) (r.set rv j) (by rw[Ce];exact hz) s.toks
 by_cases h0:0<=k
 .have hk:k.toNat=j:=by
   rw[seqIndex_of h0 h4]at h1;exact Option.some.inj h1
  exact PySem.W.ki_setAt ho h0 (by lia) (by rw[Am,<-hl];exact h4) (by rw[hk];exact⟨_,I',q⟩)
 .have hk:(k+(its.toArray.size:Int)).toNat=j:=by
   rw[seqIndex_neg (by lia) h3]at h1
   rw[Am,<-hl];exact Option.some.inj h1
  exact PySem.W.ki_setBack ho (by lia) (by rw[Am,<-hl];exact h3) (by lia) (by rw[hk];exact⟨_,I',q⟩)
def Rx (lo hi:Option Int) (n:Nat):(sliceBounds lo hi none n).1=((HT.sIx n 0 lo:Nat):Int)/\(sliceBounds lo hi none n).2.1=((HT.sIx n n hi:Nat):Int)/\(sliceBounds lo hi none n).2.2=1:=by
 refine⟨?_,?_,rfl⟩
 .cases lo with
  |none=>simp[sliceBounds,HT.sIx]
  |some i=>
   simp only[sliceBounds,HT.sIx,Option.getD_none,show (1:Int) > 0 by decide,Bw]
   by_cases h:i<0
   .simp only[h,Bw]<;>lia
   .simp only[h,Bv]<;>lia
 .cases hi with
  |none=>simp[sliceBounds,HT.sIx]
  |some i=>
   simp only[sliceBounds,HT.sIx,Option.getD_none,show (1:Int) > 0 by decide,Bw]
   by_cases h:i<0
   .simp only[h,Bw]<;>lia
   .simp only[h,Bv]<;>lia
def Ry (its:List Value) (lo hi:Option Int):slicePick its.toArray lo hi none=((its.drop (HT.sIx its.length 0 lo)).take (HT.sIx its.length its.length hi-HT.sIx its.length 0 lo)).toArray:=by
 obtain⟨h1,h2,h3⟩:=Rx lo hi its.toArray.size;unfold slicePick;rw[h1,h2,h3];simp only[sliceRange_one,pick_run,Am]<;>rfl
def rSlL (K:FG):V->Option Int->Option Int->Hp->VK->Prop:=fun x lo hi H Q=> ∃a xs,x=.ref a/\SqL K H a xs/\∀p,H p=none->Q (.ref p) (zk H p (.lst (cutV xs lo hi)))
def sl_list:SlR X (rSlL X.K):=by
 intro pins s σ H x v vl vu lo hi sl Q I rx hs pl pu h;obtain⟨a,xs,rfl,hx,q⟩:=h;cases rx;obtain⟨its,r,ht,hz⟩:=I.list hx;have hlen:=r.length
 refine⟨"list",_,slot_list_getitem.lookup,ht.isList.typeIs,?_⟩
 refine wpAny_getItem_list_slice ht.isList hs pl pu .none (by simp) ?_ (by rw[Am]<;>lia)
 rw[Ry,<-hlen]
 refine⟨.ref s.heap.objs.size,_,I.laid (t':=s.toks) (o:= .lst (cutV xs lo hi)) (fun b ob q=>Aw _ q) (Af _) ?_,rfl,q _ (I.hok.fresh (Af _))⟩
 exact⟨Bs (LA xs lo hi) hz,_,0,(r.drop (HT.sIx xs.length 0 lo)).take (HT.sIx xs.length xs.length hi-HT.sIx xs.length 0 lo),Bf _ rfl⟩
def AY:V->Bool
 |.non=>true
 |.bl _=>true
 |.int _=>true
 |.str _=>true
 |_=>false
noncomputable def eqV:V->V->Bool
 |.non,.non=>true
 |.bl a,.bl b=>a==b
 |.bl a,.int b=>(if a then 1 else 0)==b
 |.int a,.bl b=>a==(if b then 1 else 0)
 |.int a,.int b=>a==b
 |.str a,.str b=>a==b
 |_,_=>false
def LD {A:Around} {s:Shared} {y x:V} {u v:Value} (ry:RelV y u) (rx:RelV x v) (fy:AY y=true) (fx:AY x=true):SeqAt.EqAt A s u v (eqV y x):=by
 cases y with
 |non=>
  cases ry;cases x with
  |non=>cases rx;exact SeqAt.EqAt.same _
  |bl b=>cases rx;exact SeqAt.EqAt.none_bool b
  |int b=>obtain⟨t,rfl⟩:=rx;exact SeqAt.EqAt.none_int b t
  |str b=>obtain⟨t,rfl⟩:=rx;exact SeqAt.EqAt.none_str b t
  |_=>exact absurd (show false=true from fx) Ba
 |bl a=>
  cases ry;cases x with
  |non=>cases rx;exact SeqAt.EqAt.bool_none a
  |bl b=>cases rx;exact SeqAt.EqAt.bool_bool a b
  |int b=>obtain⟨t,rfl⟩:=rx;exact SeqAt.EqAt.bool_int a b t
  |str b=>obtain⟨t,rfl⟩:=rx;exact SeqAt.EqAt.bool_str a b t
  |_=>exact absurd (show false=true from fx) Ba
 |int a=>
  obtain⟨t',rfl⟩:=ry;cases x with
  |non=>cases rx;exact SeqAt.EqAt.int_none a t'
  |bl b=>cases rx;exact SeqAt.EqAt.int_bool a t' b
  |int b=>obtain⟨t,rfl⟩:=rx;exact SeqAt.EqAt.int_int a t' b t
  |str b=>obtain⟨t,rfl⟩:=rx;exact SeqAt.EqAt.int_str a t' b t
  |_=>exact absurd (show false=true from fx) Ba
 |str a=>
  obtain⟨t',rfl⟩:=ry;cases x with
  |non=>cases rx;exact SeqAt.EqAt.str_none a t'
  |bl b=>cases rx;exact SeqAt.EqAt.str_bool a t' b
  |int b=>obtain⟨t,rfl⟩:=rx;exact SeqAt.EqAt.str_int a t' b t
  |str b=>obtain⟨t,rfl⟩:=rx;exact SeqAt.EqAt.str_str a t' b t
  |_=>exact absurd (show false=true from fx) Ba
 |_=>exact absurd (show false=true from fy) Ba
def Rz:qc X (.type "list") (fun xs H Q=> ∃p ys,xs=[.ref p]/\(SqL X.K H p ys\/SqT X.K H p ys)/\∀l,H l=none->Q (.ref l) (zk H l (.lst ys))):=by
 intro pins s σ H xs us Q I r h;obtain⟨p,ys,rfl,hq,q⟩:=h;obtain⟨u,rfl,rx⟩:=AX r;cases rx;have fin:∀(its:List Value),Vals ys its->ys.length<=sizeLine->∀(h':Heap) (c':Nat),(∀b o',s.heap.get? b=some o'->h'.get? b=some o')->
   h'.get? s.heap.objs.size=some {cls:= .type "list",dict:=none,data:= .seq its.toArray c',slots:= #[]}->EP X pins σ Q (.ref s.heap.objs.size) {s with heap:=h'}:=fun its r' hz h' c' kp e=>
  ⟨.ref s.heap.objs.size,_,I.laid (t':=s.toks) kp (Af _) (show ObjOk X.prog X.w _ h' _ (.lst ys) from ⟨hz,its,c',r',e⟩),rfl,q _ (I.hok.fresh (Af _))⟩
 rcases hq with hq|hq
 .obtain⟨its,r',pl,hz⟩:=I.list hq
  have hlen:=r'.length;obtain⟨o,ho,hc,n,hd⟩:=pl.isList;exact call_list_seq p (.inl rfl) ho hc hd (fun h' c' kp e=>fin its r' hz h' c' kp e) (by simp only[Am]<;>lia)
 .obtain⟨its,r',pl,hz⟩:=I.tuple hq
  have hlen:=r'.length;obtain⟨o,ho,hc,n,hd⟩:=pl;exact call_list_seq p (.inr rfl) ho hc hd (fun h' c' kp e=>fin its r' hz h' c' kp e) (by simp only[Am]<;>lia)
def tyV (K:FG) (T:String) (x:V) (H:Hp):Prop:=match x with
 |.str _=>T="str"
 |.int _=>T="int"
 |.ref p=>(T="list" /\∃xs,SqL K H p xs)\/(T="tuple" /\∃o,K.lookup p=some o/\o.cls=.type "tuple" /\o.dict=none)\/
  (T="dict" /\((∃kvs,H p=some (.dK kvs))\/∃kvs,H p=some (.dT kvs)))\/(T="set" /\∃S n,H p=some (.set S n))
 |_=>False
def LF {pins:AL} {σ:St} {H:Hp} {s:Shared} {T:String} {x:V} {v:Value} (I:Inv X pins σ H s) (r:RelV x v) (ty:tyV X.K T x H):
  s.TypeIs v T/\∀a,v=.ref a->∃ob,s.heap.get? a=some ob/\ob.dict=none:=by
 cases x with
 |str z=>
  obtain⟨t,rfl⟩:=r;cases (show T="str" from ty)
  exact⟨typeIs_str s z t,fun _ e=>nomatch e⟩
 |int i=>
  obtain⟨t,rfl⟩:=r;cases (show T="int" from ty)
  exact⟨typeIs_int s i t,fun _ e=>nomatch e⟩
 |ref p=>
  cases r
  rcases ty with ⟨rfl,xs,hq⟩|⟨rfl,o,hk,hc,hd⟩|⟨rfl,hk⟩|⟨rfl,S,n,hk⟩
  .obtain⟨its,_,pl,_⟩:=I.list hq
   refine⟨pl.isList.typeIs,fun a e=>?_⟩
   cases e;obtain⟨o,n,e,c,hd,_⟩:=pl;exact⟨o,e,hd⟩
  .refine⟨⟨o,I.kIn p o hk,hc⟩,fun a e=>?_⟩
   cases e;exact⟨o,I.kIn _ o hk,hd⟩
  .have z:∃o,s.heap.get? p=some o/\o.ExactDict:=by
    rcases hk with ⟨kvs,hk⟩|⟨kvs,hk⟩
    .obtain⟨_,_,_,_,o,_,_,e,ex,_⟩:=I.hok p _ hk
     exact⟨o,e,ex⟩
    .obtain⟨_,_,_,_,o,_,_,e,ex,_⟩:=I.hok p _ hk
     exact⟨o,e,ex⟩
   obtain⟨o,e,ex⟩:=z
   refine⟨⟨o,e,ex.1⟩,fun a e2=>?_⟩
   cases e2;exact⟨o,e,ex.2.1⟩
  .obtain⟨o,_,_,_,e,ex,_⟩:=I.hok p _ hk
   refine⟨⟨o,e,ex.1⟩,fun a e2=>?_⟩
   cases e2;exact⟨o,e,ex.2.1⟩
 |_=>exact False.elim ty
def tBM0 (K:FG) (T:String) (r:V->List V->Hp->VK->Prop) (to:TE):TE:=fun σ H Q=>to σ H fun x H1=>tyV K T x H1/\r x [] H1 Q
def tBM (K:FG) (T:String) (r:V->List V->Hp->VK->Prop) (to:TE) (t:TA):TE:=fun σ H Q=>to σ H fun x H1=>tyV K T x H1/\t σ H1 fun xs H2=>r x xs H2 Q
variable {o e:Expr} {es:List Expr} {to:TE} {t:TA} {name:Str} {apos cpos:Pos} {T id:String} {r:V->List V->Hp->VK->Prop}
def R0 (pa:PlainAttrs T) (slot:Slot T name id) (hty:typeOf (.builtin id)=pure (.type "method_descriptor")) (hm:MtR X id r) (ho:PE X o to)
  (hbase:attributeBase o name X.env (eval o X.env)=eval o X.env:=by rfl) (hline:(apos.endLine==cpos.line)=true:=by rfl):PE X (.Call (.Attribute o name apos) [] [] cpos) (tBM0 X.K T r to):=by
 intro pins s σ H Q I h
 refine wpAny_Call_method0_late hbase hline (thn (ho pins s σ H _ I h) fun v s1 ⟨x,H1,I1,r1,ty,q1⟩=>?_)
 obtain⟨h1,h2⟩:=LF I1 r1 ty;exact⟨T,id,pa,slot,hty,h1,h2,Calls.callWith_builtin rfl (PySem.evalArgs_none (hm pins s1 σ H1 x [] v [] Q I1 r1 .nil q1))⟩
def IL (pa:PlainAttrs T) (slot:Slot T name id) (hty:typeOf (.builtin id)=pure (.type "method_descriptor")) (hm:MtR X id r) (ho:PE X o to) (ha:PA X (e::es) t)
  (hbase:attributeBase o name X.env (eval o X.env)=eval o X.env:=by rfl)
  (hfew:((backTo cpos (starEach (e::es) X.env)).all (fun x=> !x.1) && (backToKw cpos (keywordEach [] X.env)).all (fun x=>x.1.isSome)
   && decide ((e::es).length+([]:List Keyword).length+(if ([]:List Keyword).isEmpty then 0 else 1)<30))=true:=by rfl)
  (hline:(apos.endLine==cpos.line)=true:=by rfl) (hs:SE X e es:=by rfl) (hplain:(backTo cpos (starEach es X.env)).any (·.1)=false:=by rfl):
  PE X (.Call (.Attribute o name apos) (e::es) [] cpos) (tBM X.K T r to t):=by
 intro pins s σ H Q I h
 refine wpAny_Call_method_late hbase hfew hline rfl (thn (ho pins s σ H _ I h) fun v s1 ⟨x,H1,I1,r1,ty,q1⟩=>?_)
 obtain⟨h1,h2⟩:=LF I1 r1 ty
 refine⟨T,id,pa,slot,hty,h1,h2,?_⟩
 have hA:=ha cpos pins s1 σ H1 _ I1 q1;rw[hs]at hA ⊢
 refine Calls.callWith_builtin (by show (false || (backTo cpos (starEach es X.env)).any (·.1))=false;rw[hplain]<;>rfl) (Calls.evalArgs_plain ?_)
 exact thn hA fun us s2 ⟨vs,H2,I2,r2,q2⟩=>hm pins s2 σ H2 x vs v us Q I2 r1 r2 q2
end
def MtM (X:Cx) (id:String) (r:V->List V->Hp->VK->Prop):Prop:=
 ∀(pins:AL) (s:Shared) (σ:St) (H:Hp) (x:V) (xs:List V) (v:Value) (us:List Value) (Q:VK),Inv X pins σ H s->RelV x v->Vals xs us->r x xs H Q->
  wpAny (model X.prog X.w) X.A (call (.builtin id) (v::us)) (EP X pins σ Q) X.xe s
def Vals.one:∀{x:V} {us:List Value},Vals [x] us->∃u,us=[u]/\RelV x u
 |_,_,.cons r .nil=>⟨_,rfl,r⟩
def Vals.zero:∀{us:List Value},Vals [] us->us=[]
 |_,.nil=>rfl
theorem Vals.dropLast {xs:List V} {us:List Value} (h:Vals xs us):Vals xs.dropLast us.dropLast:=by
 induction h with
 |nil=>exact .nil
 |cons r t ih=>
  cases t with
  |nil=>exact .nil
  |cons q t'=>exact .cons r ih
theorem Vals.eraseIdx:∀{xs:List V} {us:List Value} (i:Nat),Vals xs us->Vals (xs.eraseIdx i) (us.eraseIdx i)
 |_,_,_,.nil=>.nil
 |_,_,0,.cons _ t=>t
 |_,_,i+1,.cons r t=>.cons r (Vals.eraseIdx i t)
theorem Vals.rep {xs:List V} {us:List Value} (h:Vals xs us):∀k:Nat,Vals (List.replicate k xs).flatten (List.replicate k us).flatten
 |0=>.nil
 |k+1=>by
  rw[Du,Du,Dv,Dv];exact Vals.append h (Vals.rep h k)
def R1 {α:Type} (l:List α):l.eraseIdx (l.length-1)=l.dropLast:=by
 induction l with
 |nil=>rfl
 |cons a r ih=>
  cases r with
  |nil=>rfl
  |cons b r=>
   have e:(a::b::r).length-1=((b::r).length-1)+1:=by
    have h1:(a::b::r).length=r.length+2:=rfl;have h2:(b::r).length=r.length+1:=rfl;lia
   rw[e,List.eraseIdx_cons_succ,ih]
   all_goals rfl
theorem LG {α:Type}:∀(l:List α) (i:Nat),(l.eraseIdx i).length<=l.length
 | [],_=>Af _
 |_::_,0=>Dg _
 |_::r,i+1=>Nat.succ_le_succ (LG r i)
theorem LH (its:List Value):∀(k:Nat) (acc:List Value),
  List.foldl (fun x1 x2=>x1++x2) acc.toArray (List.replicate k its.toArray)=(acc++(List.replicate k its).flatten).toArray
 |0,acc=>by simp
 |k+1,acc=>by
  have e:acc.toArray++its.toArray=(acc++its).toArray:=by simp
  have e2:(acc++its)++(List.replicate k its).flatten=acc++(List.replicate (k+1) its).flatten:=by
   rw[Du,Dv,B5]
  rw[<-e2,<-LH its k (acc++its),<-e,Du,Fc]
section
variable {X:Cx} {pins:AL} {σ:St} {H:Hp} {s:Shared} {l b:Addr} {xs ys zs:List V}
def Inv.lset {its its':List Value} {n:Nat} {f:Array Value->Array Value} {t':Nat} (I:Inv X pins σ H s) (hH:H l=some (.lst xs))
  (e:s.heap.get? l=some {cls:= .type "list",data:= .seq its.toArray n}) (hf:f its.toArray=its'.toArray) (hv:Vals ys its') (hz:ys.length<=sizeLine):
  Inv X pins σ (zk H l (.lst ys)) {s with heap:=s.heap.update l (Obj.mapSeq f),toks:=t'}:=by
 have q:=PySem.IsL.update e f;rw[hf]at q
 refine I.write (x:=l) (e:=l) (by rw[hH];exact trivial) (.inl rfl) (fun b' u hb hu=>(Fb s.heap (Obj.mapSeq f) (Cf hb)).trans hu) ⟨_,q⟩ ?_
 exact⟨hz,its',_,hv,q⟩
def Inv.lnew {its:List Value} {t':Nat} (I:Inv X pins σ H s) (hv:Vals ys its) (hz:ys.length<=sizeLine):
  Inv X pins σ (zk H s.heap.objs.size (.lst ys)) {s with heap:=s.heap.push {cls:= .type "list",data:= .seq its.toArray},toks:=t'}:=
 I.laid (fun _ _ q=>Aw _ q) (Af _) ⟨hz,its,0,hv,Bf _ rfl⟩
theorem Inv.fresh (I:Inv X pins σ H s):H s.heap.objs.size=none:=I.hok.fresh (Af _)
def Inv.lstM (I:Inv X pins σ H s) (hH:H l=some (.lst xs)):xs.length<=sizeLine/\∃(its:List Value) (n:Nat),Vals xs its/\xs.length=its.length/\s.heap.get? l=some {cls:= .type "list",data:= .seq its.toArray n}:=by
 obtain⟨z,its,n,r,e⟩:=I.hok l _ hH;exact⟨z,its,n,r,r.length,e⟩
def LI {n:Nat} (h:n<=sizeLine):Builtin.List.listTooLong n=false:=by
 unfold Builtin.List.listTooLong;exact Bh (by lia)
end
section
variable {X:Cx}
def LJ:V->List V->Hp->VK->Prop:=fun x vs H Q=> ∃l xs y,x=.ref l/\vs=[y]/\H l=some (.lst xs)/\xs.length<sizeLine/\Q .non (zk H l (.lst (xs++[y])))
def qY:MtM X "list.append" LJ:=by
 intro pins s σ H x vs v us Q I rx rv h;obtain⟨l,xs,y,rfl,rfl,hH,hz,q⟩:=h;cases rx;obtain⟨u,rfl,ru⟩:=rv.one;obtain⟨z,its,n,r,hl,e⟩:=I.lstM hH
 refine D9 F.slot_list_append ⟨_,e,rfl⟩ F.entry_list_append (F.args_list_append_2 _ _) (PySem.list_append l its.toArray n u (by rw[Am];lia)) ⟨e,?_⟩
 refine⟨.non,_,I.lset (its':=its++[u]) hH e (by simp) (r.append (.cons ru .nil)) ?_,rfl,q⟩
 rw[Ar,Ci];lia
def LK:V->List V->Hp->VK->Prop:=fun x vs H Q=> ∃l b xs zs,x=.ref l/\vs=[.ref b]/\H l=some (.lst xs)/\H b=some (.lst zs)/\xs.length+zs.length<=sizeLine/\Q .non (zk H l (.lst (xs++zs)))
def IM:MtM X "list.extend" LK:=by
 intro pins s σ H x vs v us Q I rx rv h;obtain⟨l,b,xs,zs,rfl,rfl,hH,hB,hz,q⟩:=h;cases rx;obtain⟨u,rfl,ru⟩:=rv.one;cases ru;obtain⟨z,its,n,r,hl,e⟩:=I.lstM hH;obtain⟨z2,its2,n2,r2,hl2,e2⟩:=I.lstM hB;have hsz:its.toArray.size+its2.toArray.size<=sizeLine:=by rw[Am,Am];lia
 have hlong: ¬(!its.toArray.isEmpty && Builtin.List.listTooLong (its.toArray.size+its2.toArray.size))=true:=by
  rw[LI hsz,En];exact Ba
 refine D9 F.slot_list_extend ⟨_,e,rfl⟩ F.entry_list_extend (F.args_list_extend_2 _ _)
  (AutoSeq1.list_extend_list_list_0 l its.toArray n b its2.toArray n2 hlong (by rw[Am];lia) (by lia)) ⟨e,e2,?_⟩
 refine⟨.non,_,I.lset (its':=its++its2) hH e (by simp) (r.append r2) ?_,rfl,q⟩
 rw[Ar];lia
def rPop:V->List V->Hp->VK->Prop:=fun x vs H Q=> ∃l xs y,x=.ref l/\vs=[]/\H l=some (.lst xs)/\xs[xs.length-1]? =some y/\Q y (zk H l (.lst xs.dropLast))
def R3:MtM X "list.pop" rPop:=by
 intro pins s σ H x vs v us Q I rx rv h;obtain⟨l,xs,y,rfl,rfl,hH,hy,q⟩:=h;cases rx;have hus:=rv.zero;subst hus;obtain⟨z,its,n,r,hl,e⟩:=I.lstM hH;obtain⟨u,hu,ru⟩:=r.get hy;have hy':its.toArray[its.toArray.size-1]? =some u:=by
  show its.toArray[its.length-1]? =some u;rw[<-Bo,<-hl];exact hu
 refine D9 F.slot_list_pop ⟨_,e,rfl⟩ F.entry_list_pop (F.args_list_pop_1 _) (MeetsSeq.list_pop_last l its.toArray n u hy' (by rw[Am];lia)) ⟨e,?_⟩
 refine⟨y,_,I.lset (its':=its.dropLast) hH e ?_ r.dropLast ?_,ru,q⟩
 .show its.toArray.eraseIdxIfInBounds (its.toArray.size-1)=its.dropLast.toArray
  rw[Am,List.eraseIdxIfInBounds_toArray,R1]
 .rw[List.length_dropLast]
  lia
def LL:V->List V->Hp->VK->Prop:=fun x vs H Q=> ∃l xs i k y,x=.ref l/\vs=[.int i]/\H l=some (.lst xs)/\ -(2 ^ 63)<=i/\i<2 ^ 63/\seqIndex? i xs.length=some k/\xs[k]? =some y/\Q y (zk H l (.lst (xs.eraseIdx k)))
def R4:MtM X "list.pop" LL:=by
 intro pins s σ H x vs v us Q I rx rv h;obtain⟨l,xs,i,k,y,rfl,rfl,hH,h1,h2,hk,hy,q⟩:=h;cases rx;obtain⟨u,rfl,ru⟩:=rv.one;obtain⟨t,rfl⟩:=ru;obtain⟨z,its,n,r,hl,e⟩:=I.lstM hH;obtain⟨w,hw,rw'⟩:=r.get hy
 refine D9 F.slot_list_pop ⟨_,e,rfl⟩ F.entry_list_pop (F.args_list_pop_2 _ _)
  (MeetsSeq.list_pop_at l its.toArray n i t k w (fitsIndex_both h1 h2) (by rw[Am,<-hl];exact hk) (by rw[<-Bo];exact hw) (by rw[Am];lia)) ⟨e,?_⟩
 refine⟨y,_,I.lset (its':=its.eraseIdx k) hH e ?_ (r.eraseIdx k) ?_,rw',q⟩
 .show its.toArray.eraseIdxIfInBounds k=(its.eraseIdx k).toArray
  rw[List.eraseIdxIfInBounds_toArray]
 .have:=LG xs k
  lia
def rCat:R2:=fun x y H Q=> ∃l b xs zs,x=.ref l/\y=.ref b/\H l=some (.lst xs)/\H b=some (.lst zs)/\xs.length+zs.length<=sizeLine/\∀p,H p=none->Q (.ref p) (zk H p (.lst (xs++zs)))
def R5:OpR X (binaryOp .Add) rCat:=by
 intro pins s σ H x y v u Q I rx ry h;obtain⟨l,b,xs,zs,rfl,rfl,hH,hB,hz,q⟩:=h;cases rx;cases ry;obtain⟨z,its,n,r,hl,e⟩:=I.lstM hH;obtain⟨z2,its2,n2,r2,hl2,e2⟩:=I.lstM hB
 refine PySem.P.add_list e e2 ?_ (by rw[Am,Am];lia)
 have ea:its.toArray++its2.toArray=(its++its2).toArray:=by simp
 rw[ea];exact⟨.ref _,_,I.lnew (t':=s.toks) (r.append r2) (by rw[Ar];lia),rfl,q _ I.fresh⟩
def rRep:R2:=fun x y H Q=> ∃l k xs,x=.ref l/\y=.int k/\H l=some (.lst xs)/\ -(2 ^ 63)<=k/\k<2 ^ 63/\xs.length*k.toNat<=sizeLine/\
 ∀p,H p=none->Q (.ref p) (zk H p (.lst (List.replicate k.toNat xs).flatten))
def R6 {α:Type} (xs:List α) (k:Nat):(List.replicate k xs).flatten.length=k*xs.length:=by
 induction k with
 |zero=>simp
 |succ k ih=>rw[Du,Dv,Ar,ih,Nat.succ_mul,Nat.add_comm]
def R7:OpR X (binaryOp .Mult) rRep:=by
 intro pins s σ H x y v u Q I rx ry h;obtain⟨l,k,xs,rfl,rfl,hH,h1,h2,hz,q⟩:=h;cases rx;obtain⟨t,rfl⟩:=ry;obtain⟨z,its,n,r,hl,e⟩:=I.lstM hH;have hlen:its.toArray.size*k.toNat<=sizeLine:=by rw[Am,<-hl];exact hz
 have hcap: ¬its.toArray.size*k.toNat > (2 ^ 63-1) / 8:=by
  have:(sizeLine:Nat)<=(2 ^ 63-1) / 8:=by decide
  lia
 have hfit: ¬(!Builtin.List.listFitsIndex k)=true:=by
  rw[fitsIndex_both h1 h2];exact Ba
 have hlong: ¬Builtin.List.listTooLong (its.toArray.size*k.toNat)=true:=by
  rw[LI hlen];exact Ba
 have hnew:List.foldl (fun x1 x2=>x1++x2) #[] (List.replicate (if its.toArray.isEmpty=true then 0 else k.toNat) its.toArray)=(List.replicate k.toNat its).flatten.toArray:=by
  have f0:∀m:Nat,List.foldl (fun x1 x2=>x1++x2) #[] (List.replicate m its.toArray)=(List.replicate m its).flatten.toArray:=fun m=>by
   have:=LH its m [];rw[Dw]at this;exact this
  rw[f0];cases its with
  |nil=>simp
  |cons a r'=>rw[Ac (by simp)]
 refine wpAny_binaryOp_repeat_ref (T:="list") (U:="int") (by decide) ⟨_,e,rfl⟩ (fun s'=>typeIs_int s' k t) noFill_list_mul F.fills_int_mul F.slot_int_rmul repeat_list F.slot_int_index.lookup
  (D9 F.slot_int_rmul (typeIs_int s k t) F.entry_int_rmul (F.args_int_rmul_2 _ _) (int___rmul___int_list k t l its.toArray n)
   ⟨e,rfl,⟨_,e,rfl⟩,D9 F.slot_list_mul ⟨_,e,rfl⟩ F.entry_list_mul (F.args_list_mul_2 _ _) (AutoListH.list___mul___list_int_3 l its.toArray n k t hfit hcap hlong) ⟨e,?_⟩⟩)
 rw[hnew];exact⟨.ref _,_,I.lnew (t':=s.toks) (r.rep k.toNat) (by rw[R6,Nat.mul_comm];exact hz),rfl,q _ I.fresh⟩
end
section
variable {prog:Program} {w:World} {A:Around} {E:VP} {s:Shared}
set_option maxRecDepth 100000 in
end
end L2
namespace Att
open PySem PySem.W PySem.Calls PyProof.Rows
def R8 {P:Params} {h:Heap}:∀(ns:List Int) (vs:List Value),WellAll P h vs (ns.map WData.int)->IntsAre vs ns:=by
 intro ns
 induction ns with
 |nil=>
  intro vs w;rw[Bj]at w;cases w;exact .nil
 |cons n ns ih=>
  intro vs w;rw[Ah]at w;cases w with
  |cons a b=>
   cases a;exact .cons _ _ (ih _ b)
def R9 {l:OpenLaw} {n:Nat} (hn:l.most=some n) {P:Params} {h:Heap} {args:List WData} {vals:List Value}
  (hpre:l.row.toRowW.claim.pre args=true) (hwl:WellAll P h vals args):
  ∃a vs ns,vals=[Value.ref a]/\args=[WData.list (ns.map WData.int)]/\h.get? a=some {cls:= .type "list",data:= .seq vs.toArray}/\IntsAre vs ns/\ns.length<=n:=by
 have hsh:WShape.hasAll [] args [.list .int]=true:=(pre_splitW hpre).1;have hc:l.pre.holds [] {args:=args}=true:=(pre_splitW hpre).2;obtain⟨d,r,rfl,h1,h2⟩:=hasAllW_cons hsh;obtain rfl:=hasAllW_nil h2;obtain⟨xs,rfl,h3⟩:=hasW_list h1;obtain⟨ns,rfl⟩:=items_int h3;have hlen:ns.length<=n:=by
  unfold OpenLaw.pre at hc;have h4:(WTm.not (.lt (.lit (.int (n:Int))) (.len (.arg 0)))).holds [] {args:=[.list (ns.map .int)]}=true:=by
   have h4:=(holds_andW hc).1;rw[hn]at h4;exact h4
  have h5:=condW_of h4 (w_not (w_lt w_lit (w_len_list (w_arg rfl))));rw[Ae]at h5
  refine Nat.le_of_not_lt fun q=>?_
  have q':(n:Int)<((ns.length:Nat):Int):=by lia
  first
   | (rw[B2 q']at h5;exact absurd h5 (by decide))
   | (simp at h5;lia)
 cases hwl with
 |cons w1 w2=>
  cases w2;cases w1 with
  |list ho hall=>exact⟨_,_,ns,rfl,rfl,ho,R8 ns _ hall,hlen⟩
def RA (l:OpenLaw) (args:List WData):l.row.toRowW.claim.post args (.bool true) args=true:=
 postW_of (r:=l.row.toRowW) (X:=(true==true))
  (show WShape.has [] (.bool true) .bool=true by first|rfl|decide|simp[WShape.has,WShape.arms,WShape.armsAll])
  (show (WTm.eq .res (.lit (.bool true))).value [] {args:=args,res:=some (.bool true),after:=args}=some (.bool (true==true)) from w_eq_bool (w_res rfl) w_lit) rfl
def attach_call {l:OpenLaw} {n:Nat} {q:Program} {loose:List Str} {XP:(Str->Option Value)->Heap->Prop} {YP:World->Heap->Prop} {d:DefRec}
  (hn:l.most=some n) (hdf:d.params.defaults=[])
  (call:∀(w:World) (s₀ s₁:Shared) (mg mb:Str->Option Value) (fa:Addr) (o:Obj) (pm cd doc:Value) (a:Addr) (vs:List Value) (ns:List Int),
   Ground q loose [] XP w s₀ mg mb s₁.heap->YP w s₁.heap->
   s₁.heap.get? fa=some o->o.data=.func (docDef d.name d.params d.body d.scope pm cd doc)->s₁.heap.CodeRec cd d.name->mg d.name=some (.ref fa)->
   s₁.heap.get? a=some {cls:= .type "list",data:= .seq vs.toArray}->IntsAre vs ns->ns.length<=n->s₁.gens= #[]->
   codeAny (model l.prog w) callerA (.call (.ref fa) ⟨[.ref a],[]⟩) (fun r s'=>r=.ok (.ret (.bool true))/\OldK s₁.heap s'.heap/\s'.os=s₁.os/\AllBare s'.gens) s₁):
  WalkO q loose XP YP l.row.toRowW d [] (fun f vs=>PySem.call f vs):=by
 intro w s₀ s₁ mg mb G Y fa o pm cd doc dV kV ho hd hcd hD hmg hg args vals as hpre hlay hrd hwl hlo;obtain rfl:dV=.none:=Dflts.none hD hdf;obtain rfl:kV=.none:=Dflts.noKw hD;obtain⟨a,vs,ns,rfl,rfl,hobj,hints,hlen⟩:=R9 hn hpre hwl
 refine enter_call (D6 (call w s₀ s₁ mg mb fa o pm cd doc a vs ns G Y ho (fd_plain hd) hcd hmg hobj hints hlen hg) fun r s' hq=>?_)
 obtain⟨rfl,h2,h3,h4⟩:=hq;exact⟨.inl ⟨.bool true,.bool true,[],rfl,fun _=>rfl,.bool true,RA l _,fun _=>⟨List.Pairwise.nil,fun _ hm=>(nomatch hm)⟩⟩,h2,h3,h4⟩
end Att
namespace L2
open PySem PySem.Spec PyProof.Rows
theorem LM:∀{vs:List Value} {ns:List Int},IntsAre vs ns->Vals (ns.map V.int) vs
 |_,_,.nil=>.nil
 |_,_,.cons n t h=>.cons ⟨t,rfl⟩ (LM h)
def Only (H:Hp):Prop:=∀b,H b=none\/∃o xs,H b=some (.frz o (.lst xs))
def RB {P:Program} {w:World} {K:FG} {mg mb:Str->Option Value} {CX:jz} {k:Nat} {fa a:Addr} {fd:FuncData} {x:Str} {sp:Sp} {s₁:Shared} {vs:List Value} {ns:List Int}
  (KX:K.In s₁.heap) (hns:s₁.heap.Ns mainGlobals mg) (hb:s₁.heap.Ns builtinsNs mb) (hbb:∀x:Str,x≠"__name__" ->mb x=bootBuiltins x) (hlim:s₁.heap.NoLimit) (hg:s₁.gens= #[])
  (ha:s₁.heap.get? a=some {cls:= .type "list",data:= .seq vs.toArray}) (hi:IntsAre vs ns) (hl:ns.length<=sizeLine) (hr:Room k callerA)
  (F:∀base:Heap,K.In base->base.Ns mainGlobals mg->FnOk P w K mg base CX k fa fd [x] sp) (hbind:∀(s:Shared) (u:Value),BindsTo s fd ⟨[u],[]⟩ [(x,u)])
  (hsp:∀H:Hp,Only H->SqL K H a (ns.map V.int)->sp [.ref a] H (fun v _=>v=.bl true) fun _ _ _=>False)
  (hCX:∀H e s',CX [] H s₁ (fun _ _ _=>False) e s'->False):
  codeAny (model P w) callerA (.call (.ref fa) ⟨[.ref a],[]⟩) (fun r s'=>r=.ok (.ret (.bool true))/\OldK s₁.heap s'.heap/\s'.os=s₁.os/\AllBare s'.gens) s₁:=by
 have rv:=LM hi;have lenV:=hi.length;have core:∀H:Hp,Only H->SqL K H a (ns.map V.int)->HOk P w H s₁.heap->(∀b,H b≠none->b=a)->(H a≠none->K.lookup a=none)->
   codeAny (model P w) callerA (.call (.ref fa) ⟨[.ref a],[]⟩) (fun r s'=>r=.ok (.ret (.bool true))/\OldK s₁.heap s'.heap/\s'.os=s₁.os/\AllBare s'.gens) s₁:=by
  intro H hO hS hok hA hK;have base_of:∀{b:Addr} {o:Obj},s₁.heap.get? b=some o->H b=none->(hidT s₁.heap H).get? b=some o:=fun e n=>PC e n
  have noA:∀{b:Addr} {o:Obj} {es:Array DictEntry} {ep:Nat},s₁.heap.get? b=some o->o.data=.dict es ep->H b=none:=fun {b o es ep} e d=>by
   cases q:H b with
   |none=>rfl
   |some u=>
    have e':b=a:=hA b (by rw[q];simp)
    subst e';rw[ha]at e;cases e;have d':Data.seq vs.toArray _=Data.dict es ep:=d;cases d'
  have nsK:∀{b:Addr} {m:Str->Option Value},s₁.heap.Ns b m->(hidT s₁.heap H).Ns b m:=fun {b m} ⟨o,es,ep,e,d,r⟩=>⟨o,es,ep,base_of e (noA e d),d,r⟩
  have hKb:K.In (hidT s₁.heap H):=fun b o e=>base_of (KX b o e) (by
   cases q:H b with
   |none=>rfl
   |some u=>
    have e':b=a:=hA b (by rw[q];simp)
    subst e';rw[hK (by rw[q];simp)]at e;cases e)
  have hM:Mod K mg (hidT s₁.heap H):=⟨hKb,nsK hns,⟨mb,nsK hb,hbb⟩,let ⟨mc,h1,h2⟩:=hlim;⟨mc,nsK h1,h2⟩⟩;have e0:Env0 P w K mg (hidT s₁.heap H) callerA [] s₁ H:=⟨rfl,hM,fun b o e=>PD e,Nat.le_of_eq (PB _ _),trivial,fun b hb=>absurd (show b∈([]:List Addr) from hb) (by simp),hok,.of_eq hg⟩
  refine D6 ((F _ hKb (nsK hns)).run callerA [] s₁ H ⟨[.ref a],[]⟩ [.ref a] [.ref a] _ _ hr e0 (hbind s₁ (.ref a)) (.cons rfl .nil) (hsp H hO hS)) fun r s' h=>?_
  cases r with
  |error e=>exact (hCX H e s' h).elim
  |ok fl=>
   cases fl with
   |next=>exact False.elim h
   |brk=>exact False.elim h
   |cont=>exact False.elim h
   |ret u=>
    obtain⟨v,H',os,bare,un,hok',r',q⟩:=h;have q':v=.bl true:=q;subst q';obtain rfl:u=Value.bool true:=r'
    refine⟨rfl,OldK.of_keep fun b o e=>?_,os,bare⟩
    cases q:H b with
    |none=>exact un.keep b o e q (by intro z;exact absurd (show b∈([]:List Addr) from z) (by simp)) (by simp)
    |some u=>
     rcases hO b with z|⟨ob,xs,z⟩
     .rw[q]at z;cases z
     .have z2:=un.frzs b ob _ z
      obtain⟨e1,_⟩:=hok b _ z;obtain⟨e2,_⟩:=hok' b _ z2;rw[e]at e1;cases e1;exact e2
 cases hk:K.lookup a with
 |some o=>
  have e:=KX a o hk;rw[ha]at e;cases e
  refine core (fun _=>none) (fun _=>.inl rfl) (.inr ⟨_,vs.toArray,_,hk,rfl,rfl,rfl,by rw[Am,lenV];exact hl,by simpa using rv⟩) (fun b u z=>by have z':(none:Option HO)=some u:=z;cases z') (fun b z=>absurd rfl z) fun z=>absurd rfl z
 |none=>
  refine core (fun b=>if b=a then some (.frz {cls:= .type "list",data:= .seq vs.toArray} (.lst (ns.map V.int))) else none) (fun b=>?_) (.inl (.inr ⟨{cls:= .type "list",data:= .seq vs.toArray},Ab rfl⟩)) (fun b u z=>?_) (fun b z=>?_) fun _=>hk
  .by_cases hb:b=a
   .exact .inr ⟨_,_,Ab hb⟩
   .exact .inl (Ac hb)
  .by_cases hb:b=a
   .have z':=(Ab hb).symm.trans z
    cases z';subst hb;exact⟨ha,by rw[Ae];exact hl,vs,_,rv,ha⟩
   .have z':=(Ac hb).symm.trans z
    cases z'
  .by_cases hb:b=a
   .exact hb
   .exact absurd (Ac hb) z
noncomputable def ql (s:Stmt) (j:Nat):Stmt:=match s with
 |.ClassDef _ _ _ body _ _ _ _ _ _ _=>body.getD j (.Pass ⟨0,0,0,0⟩)
 |_=> .Pass ⟨0,0,0,0⟩
noncomputable def EJ (s:Stmt):Arguments:=match s with
 |.FunctionDef _ a _ _ _ _ _ _ _ _=>a
 |_=>{posonlyargs:=[],args:=[],vararg:=none,kwonlyargs:=[],kw_defaults:=[],kwarg:=none,defaults:=[]}
noncomputable def CG (s:Stmt):List Stmt:=match s with
 |.FunctionDef _ _ b _ _ _ _ _ _ _=>b
 |_=>[]
noncomputable def zC (s:Stmt):Scope:=match s with
 |.FunctionDef _ _ _ _ _ _ sc _ _ _=>sc
 |_=>{kind:= .function,names:=[],isGenerator:=false,isCoroutine:=false}
abbrev E0:XK:=fun _ _ _=>False
structure Fun (K:FG) (x qual:Str) (st:Stmt) (f:Addr) (fd:FuncData):Prop where
 ex:∃(oc:Value) (od:Option Addr) (kV doc pm:Value) (an:Option Addr) (cdv ct:Value) (osl:Array (Option Value)),
  fd=PySem.W.fnOf x qual (EJ st) (CG st) (zC st) .none kV doc pm an cdv ct/\K.lookup f=some ⟨oc,od,.func fd,osl⟩/\PySem.W.codeIn K cdv qual=true
 kp:PySem.W.keepIn K (.ref f)=true
section
variable {P:Program} {w:World} {K:FG} {mg:Str->Option Value} {base:Heap}
def Fun.binds {x qual:Str} {st:Stmt} {f:Addr} {fd:FuncData} {ps:List Str} (F:Fun K x qual st f fd)
  (h:∀(kV doc pm:Value) (an:Option Addr) (cdv ct:Value) (us:List Value),us.length=ps.length->bindArgs (PySem.W.fnOf x qual (EJ st) (CG st) (zC st) .none kV doc pm an cdv ct) ⟨us,[]⟩=pure (ps.zip us)):Binds K fd ps []:=by
 obtain⟨oc,od,kV,doc,pm,an,cdv,ct,osl,rfl,lk,hcd⟩:=F.ex;exact .all (h kV doc pm an cdv ct)
end
section
variable {X:Cx}
def pv (i:Nat) {x:Str} {pos:Pos} (hN:X.N[i]? =some x:=by rfl) (hv:Vis X.env.scope x:=by first|exact Or.inl rfl|exact Or.inr (Or.inl rfl)|exact Or.inr (Or.inr rfl)) (hd:(x==("__debug__" :Str))=false:=by decide)
 (hcd:(x==("__classdict__" :Str))=false:=by decide):PE X (.Name x pos) (tVar i):=PH hN hv hd hcd
end
end L2
set_option maxHeartbeats 0
namespace L4
open PySem PySem.W PyProof.Rows L2
noncomputable def Hb (tb:String->Option Builtin) (p:Program) (w:World) (m:Nat) (ann:Option Value):Nat->SharedT->Thread->Option SharedT
 |0,_,_=>none
 |n+1,s,t=>match through t with
  |true=>some s
  |false=>match stepOk m ann t with
   |false=>none
   |true=>match stepT (denote tb) p w s t with
    |some (s',t')=>Hb tb p w m ann n s' t'
    |none=>none
theorem LN {tb:String->Option Builtin} {p:Program} {w:World} {m:Nat} {ann:Option Value}:∀{n:Nat} {s s':SharedT} {t:Thread},Hb tb p w m ann n s t=some s'->topRun tb p w m ann n s.abs t=some s'.abs
 |0,_,_,_,h=>by cases h
 |n+1,s,s',t,h=>by
  unfold Hb at h;unfold topRun;cases he:through t with
  |true=>rw[he]at h;cases h;rfl
  |false=>
   rw[he]at h;cases hk:stepOk m ann t with
   |false=>rw[hk]at h;cases h
   |true=>
    rw[hk]at h;cases hs:stepT (denote tb) p w s t with
    |none=>rw[hs]at h;cases h
    |some r=>
     obtain⟨s2,t2⟩:=r;rw[hs]at h;rw[stepT_spec hs];exact LN h
def LO:List Obj->Nat->BT->BT
 | [],_,t=>t
 |o::r,n,t=>LO r (n+1) (t.ins n o)
def boot (P:Params) (os:OsState):SharedT:=⟨LO (boot_heap P).objs.toList 0 .nil,11,(boot_heap P).life,Array.mk [],boot_drawn,boot_toks,os⟩
def RC (P:Params) (os:OsState):(boot P os).abs=⟨boot_heap P,Array.mk [],boot_drawn,boot_toks,os⟩:=by kernel_rfl
def RD (P:Params):((boot_heap P).isNs mainGlobals,(boot_heap P).objs.size,(boot_heap P).nsMap mainGlobals "__annotations__")=(true,11,some (.ref 6)):=by kernel_rfl
section
variable (p q:Program) (loose:List Str) {β:Type} (obs:Heap->β)
def LP (P:Params) (s:Shared):=
 ((staticsOk (importedModules p.main.body) (boot_heap P) s.heap && namesBound p s.heap && gensDone s && laidKept (boot_heap P) s.heap),openSeen q loose (importedModules p.main.body) (fun _=>true) true s,obs s.heap)
def LQ (N:Nat) (w:World) (os:OsState):=(Hb treeTable p w 11 (some (.ref 6)) N (boot w.params os) (topStub p)).map fun s=>LP p q loose obs w.params s.abs
end
def left_one {p q:Program} {loose:List Str} {β:Type} {obs:Heap->β} {good:β} {N:Nat} (e:opening p=plainProg p.main.scope.names) (hN:Nat.ble 600 N=true) (f:∀s,fenceModules? p s=some s)
  (h:∀w os,LQ p q loose obs N w os=some (true,openGood q loose,good)):LeftO p q loose (fun _=>true) (fun s=>obs s.heap) (fun _=>good) N:=fun w=>by
 obtain⟨⟨h0,gs,d,k,os⟩,e1,e2⟩:=Cz.mp (boot_open e hN f w);obtain⟨rfl,rfl,rfl,rfl⟩:h0=boot_heap w.params/\gs=Array.mk []/\d=boot_drawn/\k=boot_toks:=by simpa using e2
 obtain⟨s1,r1,r2⟩:=Cz.mp (h w os);have r3:=LN r1;rw[RC]at r3;obtain⟨z1,z2,z3⟩:_/\_/\_:=by simpa only[Dx] using RD w.params
 obtain⟨l1,l2,l3⟩:_/\_/\_:=by simpa only[LP,Dx] using r2
 have t:topFrom treeTable p w N ⟨boot_heap w.params,Array.mk [],boot_drawn,boot_toks,os⟩=some s1.abs:=by
  unfold topFrom;dsimp only;rw[z1,z2,z3,r3];show (match staticsOk (importedModules p.main.body) (boot_heap w.params) s1.abs.heap && namesBound p s1.abs.heap && gensDone s1.abs && laidKept (boot_heap w.params) s1.abs.heap with|true=>_|false=>_)=_
  rw[l1]
 unfold openEnds;rw[e1];show (topFrom treeTable p w N _).map _=_;rw[t];exact congrArg some (Prod.ext l2 l3)
def frag (as:List Addr) (h:Heap):Frag:=as.filterMap fun a=>(h.get? a).map fun o=>(a,o)
def RE {as:List Addr} {h:Heap}:(frag as h).In h:=by
 intro a o e
 induction as with
 |nil=>cases e
 |cons b r ih=>
  unfold frag at e;rw[E6]at e;cases hb:h.get? b with
  |none=>rw[hb]at e;exact ih e
  |some ob=>
   rw[hb]at e;simp only[Aq,List.lookup]at e
   split at e
   .rename_i q;cases e;rw[Cy.mp q];exact hb
   .exact ih e
noncomputable def LR:Value->Bool
 |.none=>true
 |_=>false
def RF {v:Value} (h:LR v=true):v=.none:=by cases v<;>first|rfl|cases h
def Hc (K:Frag) (qual:Str):Option (Option Value)->Option (Str×Str×Arguments×FuncBody×Scope×Bool)
 |some (some (.ref f))=>match K.lookup f with
  |some ⟨_,_,.func fd,_⟩=>some (fd.name,fd.qualname,fd.params,fd.body,fd.scope,(Nat.beq fd.globals mainGlobals && fd.closure.isEmpty && LR fd.defaults && Nat.beq fd.builtins builtinsNs && codeIn K fd.code qual && isFn K (.ref f)))
  |_=>none
 |_=>none
def Hd (x qual:Str) (st:Stmt):Option (Str×Str×Arguments×FuncBody×Scope×Bool):=some (x,qual,EJ st,.stmts (CG st),zC st,true)
def LS {K:Frag} {x qual:Str} {st:Stmt} {v:Option (Option Value)} (e:Hc K qual v=Hd x qual st):
  ∃f fd,v=some (some (.ref f))/\Fun K x qual st f fd/\isFn K (.ref f)=true:=by
 unfold Hc at e
 split at e
 .rename_i f
  split at e
  .rename_i oc od fd sl hl
   unfold Hd at e;simp only[Cj,Dx,Bi]at e;obtain⟨e1,e2,e3,e4,e5,⟨⟨⟨⟨h1,h2⟩,h3⟩,h4⟩,h5⟩,h6⟩:=e
   refine⟨f,fd,rfl,⟨⟨oc,od,fd.kwdefaults,fd.doc,fd.pyModule,fd.annotations,fd.code,fd.closureTuple,sl,?_,hl,h5⟩,?_⟩,h6⟩
   .obtain⟨a1,a2,a3,a4,a5,a6,a7,a8,a9,a10,a11,a12,a13,a14,a15⟩:=fd
    simp only at e1 e2 e3 e4 e5 h1 h2 h3 h4;have h1:=Nat.eq_of_beq_eq_true h1;have h2:=List.isEmpty_iff.mp h2;have h3:=RF h3;have h4:=Nat.eq_of_beq_eq_true h4;subst e1 e2 e3 e4 e5 h1 h2 h3 h4;rfl
   .unfold keepIn
    simp only[hl]
  .cases e
 .cases e
inductive KV where
 |int (i:Int)
 |str (s:Str)
noncomputable def EK:Option (Option Value)->Option KV
 |some (some (.int i _))=>some (.int i)
 |some (some (.str s _))=>some (.str s)
 |_=>none
def RG {v:Option (Option Value)} {i:Int} (e:EK v=some (.int i)):∃t,v=some (some (.int i t)):=by
 unfold EK at e
 split at e
 .simp only[Cj,KV.int.injEq]at e;subst e;exact⟨_,rfl⟩
 .simp at e
 .cases e
def RH {v:Option (Option Value)} {i:Str} (e:EK v=some (.str i)):∃t,v=some (some (.str i t)):=by
 unfold EK at e
 split at e
 .simp at e
 .simp only[Cj,KV.str.injEq]at e;subst e;exact⟨_,rfl⟩
 .cases e
def He:Option (Option Value)->Bool
 |some none=>true
 |_=>false
def LU {v:Option (Option Value)} (e:He v=true):v=some none:=by
 unfold He at e
 split at e
 .rfl
 .cases e
noncomputable def EL (p:Program) (i:Nat):Stmt:=p.main.body.getD i (.Pass ⟨0,0,0,0⟩)
structure Ask where
 law:Nat
 at_:List Addr
 defs:List (Str×Nat)
 cls:List (Str×Nat×List (Str×Str×Nat)×List Str)
 bare:List Str
 con:List (Str×KV)
noncomputable def LV (K:Frag) (C:Addr):Bool:=
 plainGet K C Str.empty && hasDictIn K C && plainOver K C && (findIn K (.ref C) "__setattr__" ==some (some (.builtin "object.__setattr__"))) && makesIn K C && keepIn K (.ref C)
def LW (K:Frag) (c:Str×Nat×List (Str×Str×Nat)×List Str):Option Value->Option (List (Option (Str×Str×Arguments×FuncBody×Scope×Bool))×Bool×List Bool)
 |some (.ref C)=>some (c.2.2.1.map (fun m=>Hc K m.2.1 (findIn K (.ref C) m.1)),LV K C,c.2.2.2.map fun a=>He (findIn K (.ref C) a))
 |_=>none
def seenK (A:Ask) (K:Frag):=
 (A.defs.map (fun d=>Hc K d.1 (nsIn K mainGlobals d.1)),A.cls.map (fun c=>LW K c (nsIn K mainGlobals c.1).join),A.bare.map (fun b=>He (nsIn K mainGlobals b)),A.con.map fun c=>EK (nsIn K mainGlobals c.1))
def seen (A:Ask) (h:Heap):=seenK A (frag A.at_ h)
def good (p:Program) (A:Ask):=
 (A.defs.map (fun d=>Hd d.1 d.1 (EL p d.2)),
  A.cls.map (fun c=>some (c.2.2.1.map (fun m=>Hd m.1 m.2.1 (ql (EL p c.2.1) m.2.2)),true,c.2.2.2.map fun _=>true)),
  A.bare.map (fun _=>true),A.con.map fun c=>some c.2)
def lawView (A:Ask) (p:Program):Program:={p with main:={p.main with body:=[EL p A.law]}}
def looseOf (p:Program):List Str:=(p.main.scope.names.map (·.1)).filter fun x=> !(x=="law")
def claim (A:Ask) (N:Nat) (p:Program) (w:World) (os:OsState):=LQ p (lawView A p) (looseOf p) (seen A) N w os
def goal (A:Ask) (p:Program):=some (true,openGood (lawView A p) (looseOf p),good p A)
section
variable {p:Program} {A:Ask} {K:Frag}
def CH {α β:Type} {f g:α->β} {l:List α} {i:Nat} {a:α} (e:l.map f=l.map g) (h:l[i]? =some a):f a=g a:=by
 have:=congrArg (fun z=>z[i]?) e
 simp only[Az,h,Aq,Cj]at this;exact this
def def_at (S:seenK A K=good p A) (i:Nat) {d:Str×Nat} (h:A.defs[i]? =some d):∃f fd,nsIn K mainGlobals d.1=some (some (.ref f))/\Fun K d.1 d.1 (EL p d.2) f fd:=by
 obtain⟨f,fd,e,F,_⟩:=LS (CH (congrArg (fun z=>z.1) S) h)
 exact⟨f,fd,e,F⟩
def bare_at (S:seenK A K=good p A) (i:Nat) {b:Str} (h:A.bare[i]? =some b):nsIn K mainGlobals b=some none:=LU (CH (congrArg (fun z=>z.2.2.1) S) h)
def int_at (S:seenK A K=good p A) (i:Nat) {x:Str} {n:Int} (h:A.con[i]? =some (x,.int n)):∃t,nsIn K mainGlobals x=some (some (.int n t)):=RG (CH (congrArg (fun z=>z.2.2.2) S) h)
def str_at (S:seenK A K=good p A) (i:Nat) {x:Str} {n:Str} (h:A.con[i]? =some (x,.str n)):∃t,nsIn K mainGlobals x=some (some (.str n t)):=RH (CH (congrArg (fun z=>z.2.2.2) S) h)
structure ClsAt (p:Program) (K:Frag) (c:Str×Nat×List (Str×Str×Nat)×List Str) (C:Addr):Prop where
 g:nsIn K mainGlobals c.1=some (some (.ref C))
 cls:Cls K C
 makes:makesIn K C=true
 kp:keepIn K (.ref C)=true
 meth:∀(j:Nat) (m:Str×Str×Nat),c.2.2.1[j]? =some m->∃f fd,findIn K (.ref C) m.1=some (some (.ref f))/\Fun K m.1 m.2.1 (ql (EL p c.2.1) m.2.2) f fd/\isFn K (.ref f)=true
 fld:∀(j:Nat) (a:Str),c.2.2.2[j]? =some a->NoAttr K C a
def RI {v:Option (Option Value)} {x:Value} (h:v.join=some x):v=some (some x):=by
 cases v with
 |none=>cases h
 |some v=>cases h;rfl
def cls_at (S:seenK A K=good p A) (i:Nat) {c:Str×Nat×List (Str×Str×Nat)×List Str} (h:A.cls[i]? =some c):∃C,ClsAt p K c C:=by
 have e:=CH (congrArg (fun z=>z.2.1) S) h
 unfold LW at e
 split at e
 .rename_i C hC
  simp only[Cj,Dx]at e;obtain⟨e1,e2,e3⟩:=e;unfold LV at e2;simp only[Bi]at e2;obtain⟨⟨⟨⟨⟨h1,h2⟩,h3⟩,h4⟩,h5⟩,h6⟩:=e2
  refine⟨C,RI hC,⟨h1,h2,h3,?_⟩,h5,h6,fun j m hm=>?_,fun j a ha=>?_⟩
  .exact Cy.mp h4
  .exact LS (CH e1 hm)
  .exact LU (CH e3 ha)
 .cases e
end
section
variable {K:Frag} {x qual:Str} {st:Stmt} {f:Addr} {fd:FuncData} {p1 p2 p3 p4 p5 p6 p7 p8:Str}
abbrev Bd (x qual:Str) (st:Stmt) (us:List Value) (r:List (Str×Value)):Prop:=∀(kV doc pm:Value) (an:Option Addr) (cdv ct:Value),bindArgs (fnOf x qual (EJ st) (CG st) (zC st) .none kV doc pm an cdv ct) ⟨us,[]⟩=pure r
def AA {us:List Value} {n:Nat} (h:us.length=n+1):∃a r,us=a::r/\r.length=n:=by
 cases us with
 |nil=>cases h
 |cons a r=>exact⟨a,r,rfl,by simpa using h⟩
theorem b1 (F:Fun K x qual st f fd) (h:∀a,Bd x qual st [a] [(p1,a)]):Binds K fd [p1] []:=F.binds fun _ _ _ _ _ _ us h0=>by
 obtain⟨a,u1,rfl,h1⟩:=AA h0;obtain rfl:u1=[]:=Ea h1;exact h _ _ _ _ _ _ _
theorem b2 (F:Fun K x qual st f fd) (h:∀a b,Bd x qual st [a,b] [(p1,a),(p2,b)]):Binds K fd [p1,p2] []:=F.binds fun _ _ _ _ _ _ us h0=>by
 obtain⟨a,u1,rfl,h1⟩:=AA h0;obtain⟨b,u2,rfl,h2⟩:=AA h1;obtain rfl:u2=[]:=Ea h2;exact h _ _ _ _ _ _ _ _
theorem b3 (F:Fun K x qual st f fd) (h:∀a b c,Bd x qual st [a,b,c] [(p1,a),(p2,b),(p3,c)]):Binds K fd [p1,p2,p3] []:=F.binds fun _ _ _ _ _ _ us h0=>by
 obtain⟨a,u1,rfl,h1⟩:=AA h0;obtain⟨b,u2,rfl,h2⟩:=AA h1;obtain⟨c,u3,rfl,h3⟩:=AA h2;obtain rfl:u3=[]:=Ea h3;exact h _ _ _ _ _ _ _ _ _
theorem b4 (F:Fun K x qual st f fd) (h:∀a b c d,Bd x qual st [a,b,c,d] [(p1,a),(p2,b),(p3,c),(p4,d)]):Binds K fd [p1,p2,p3,p4] []:=F.binds fun _ _ _ _ _ _ us h0=>by
 obtain⟨a,u1,rfl,h1⟩:=AA h0;obtain⟨b,u2,rfl,h2⟩:=AA h1;obtain⟨c,u3,rfl,h3⟩:=AA h2;obtain⟨d,u4,rfl,h4⟩:=AA h3;obtain rfl:u4=[]:=Ea h4;exact h _ _ _ _ _ _ _ _ _ _
theorem binds_law (F:Fun K x qual st f fd) (h:∀a,Bd x qual st [a] [(p1,a)]) (s:Shared) (u:Value):BindsTo s fd ⟨[u],[]⟩ [(p1,u)]:=by
 obtain⟨oc,od,kV,doc,pm,an,cdv,ct,osl,rfl,lk,hcd⟩:=F.ex;exact .of_eq (h u _ _ _ _ _ _)
end
def walk_one {l:OpenLaw} {n k:Nat} {q:Program} {loose:List Str} {XP:(Str->Option Value)->Heap->Prop} {A:Ask} {d:DefRec} {CX:World->jz} {sp:Frag->Sp} {x:Str}
  (hn:l.most=some n) (hn2:n<=sizeLine) (hdf:d.params.defaults=[]) (hr:Room k callerA)
  (F:∀(w:World) (mg:Str->Option Value) (fa:Addr) (h:Heap) (K:Frag),K.In h->h.Ns mainGlobals mg->seenK A K=good l.prog A->mg d.name=some (.ref fa)->
   ∃fd:FuncData,(∀(s:Shared) (u:Value),BindsTo s fd ⟨[u],[]⟩ [(x,u)])/\∀base:Heap,K.In base->base.Ns mainGlobals mg->FnOk l.prog w K mg base (CX w) k fa fd [x] (sp K))
  (hsp:∀(K:Frag) (H:Hp) (a:Addr) (ns:List Int),ns.length<=n->Only H->SqL K H a (ns.map V.int)->sp K [.ref a] H (fun v _=>v=.bl true) fun _ _ _=>False)
  (hCX:∀(w:World) (H:Hp) (s:Shared) (e:Value) (s':Shared),CX w [] H s (fun _ _ _=>False) e s'->False):
  WalkO q loose XP (fun _ h=> ∃K:Frag,K.In h/\seenK A K=good l.prog A) l.row.toRowW d [] (fun f vs=>PySem.call f vs):=by
 refine Att.attach_call hn hdf fun w s0 s1 mg mb fa o pm cd doc a vs ns G Y ho hd hcd hmg hobj hints hlen hg=>?_
 obtain⟨K,KX,S⟩:=Y;obtain⟨fd,hb,hF⟩:=F w mg fa _ K KX G.T.g S hmg;exact RB KX G.T.g G.T.b G.T.builtins G.T.nolimit hg hobj hints (Bs hlen hn2) hr hF hb (fun H hO hS=>hsp K H a ns hlen hO hS) fun H e s'=>hCX w H s1 e s'
def seen_ok {A:Ask} {p:Program} (w:World) (s:Shared) (e:seen A s.heap=good p A):∃K:Frag,K.In s.heap/\seenK A K=good p A:=⟨_,RE,e⟩
def seen_keeps {A:Ask} {p:Program} (w:World) (h h':Heap) (y:∃K:Frag,K.In h/\seenK A K=good p A) (k:∀b o,h.get? b=some o->h'.get? b=some o):∃K:Frag,K.In h'/\seenK A K=good p A:=
 let ⟨K,a,b⟩:=y
 ⟨K,a.keeps k,b⟩
end L4
namespace L2
open PySem PySem.Spec PyProof.Rows
noncomputable def y8 (X:Cx) (N:List Str) (scope:Scope) (cl:List (Str×Addr)) (C:Addr) (s:Shared) (H:Hp) (ex:List Addr):Cx where
 prog:=X.prog
 w:=X.w
 K:=X.K
 mg:=X.mg
 base:=X.base
 A:=X.A
 N:=N
 s₀:=s
 H₀:=H
 env:=compEnvC scope cl C X.env
 outer:=X.stack
 stack:=X.stack
 ex:=ex
 fn:=fun _=>false
 calm:=X.calm
 pn:=[]
 xe:=fun _ _=>False
theorem IQ {env:Env}:∀(names:List (Str×NameKind)) (acc:List (Str×Addr)),(∀y∈names,y.2=.free->∃c,env.cells.lookup y.1=some c)->
  ∃cl,(forIn names acc (fun x cs=>match x with|(name,kind)=>if (kind==NameKind.free)=true then (do let a <-cellOf env name;pure (ForInStep.yield ((name,a)::cs))) else pure (ForInStep.yield cs)):Sem (List (Str×Addr)))=pure cl/\
   (∀p∈cl,p∈acc\/env.cells.lookup p.1=some p.2)/\(∀y∈names,y.2=.free->∃c,(y.1,c)∈cl)/\∀p∈acc,p∈cl
 | [],acc,_=>⟨acc,by rw[List.forIn_nil],fun p hp=>.inl hp,fun _ h=>(nomatch h),fun _ h=>h⟩
 | (n,k)::r,acc,h=>by
  rw[List.forIn_cons]
  by_cases hk:k=.free
  .subst hk
   obtain⟨c,hc⟩:=h (n,.free) Ak rfl;obtain⟨cl,e,h1,h2,h3⟩:=IQ r ((n,c)::acc) fun y hy=>h y (Ap _ hy)
   have ec:cellOf env n=pure c:=by unfold cellOf;rw[hc]
   refine⟨cl,?_,fun p hp=>?_,fun y hy hf=>?_,fun p hp=>h3 p (Ap _ hp)⟩
   .simp only[Fd,Bw,ec,pure_bind]
    exact e
   .rcases h1 p hp with q|q
    .rcases Ag.mp q with rfl|q
     .exact .inr hc
     .exact .inl q
    .exact .inr q
   .rcases Ag.mp hy with rfl|hy
    .exact⟨c,h3 _ Ak⟩
    .exact h2 y hy hf
  .obtain⟨cl,e,h1,h2,h3⟩:=IQ r acc fun y hy=>h y (Ap _ hy)
   have hb:(k==NameKind.free)=false:=by simpa using hk
   refine⟨cl,?_,h1,fun y hy hf=>?_,h3⟩
   .simp only[hb,Ck,Bv,pure_bind]
    exact e
   .rcases Ag.mp hy with rfl|hy
    .exact absurd hf hk
    .exact h2 y hy hf
theorem LX {α:Type}:∀{l:List (Str×α)} {x:Str} {c:α},(x,c)∈l->∃d,l.lookup x=some d
 | (y,e)::r,x,c,h=>by
  rw[Cm];cases hb:x==y with
  |true=>exact⟨e,rfl⟩
  |false=>
   rcases Ag.mp h with q|q
   .cases q;simp at hb
   .exact LX q
def LY {scope:Scope} {env:Env} (h:∀y∈scope.names,y.2=.free->∃c,env.cells.lookup y.1=some c):
  ∃cl,closureFor scope env=pure cl/\(∀x c,cl.lookup x=some c->env.cells.lookup x=some c)/\∀y∈scope.names,y.2=.free->∃c,cl.lookup y.1=some c:=by
 obtain⟨cl,e,h1,h2,_⟩:=IQ (env:=env) scope.names [] h
 refine⟨cl,?_,fun x c q=>?_,fun y hy hf=>?_⟩
 .simp only[closureFor]
  rw[e];rfl
 .rcases h1 _ (Da q) with z|z
  .cases z
  .exact z
 .obtain⟨c,hc⟩:=h2 y hy hf
  exact LX hc
section
variable {prog:Program} {w:World} {A:Around} {R:Result->Shared->Prop} {s:Shared}
def RJ {elt target iter:Expr} {ifs:List Expr} {scope:Scope} {pos:Pos} {it acc:Value} {env:Env} (I:Nat->Shared->Prop)
  (turn:∀n s,I n s->wpAny (model prog w) A (pyNext it) (fun r s₁=>match r with
   |none=>R (.ok .next) s₁
   |some v=>wpAny (model prog w) A (letOwnedTupleGo target it v) (fun _ s₁'=>wpAny (model prog w) A (assign target env v) (fun _ s₂=>
    wpAny (model prog w) A (forIn ifs true fun c r=>if r=true then do let ok <-isTrue c env (eval c env);pure (ForInStep.yield ok) else pure (ForInStep.yield r)) (fun ok s₃=>
     if ok=true then wpAny (model prog w) A (eval elt env) (fun x s₄=>
      wpAny (model prog w) A (call (.builtin "list.append") [acc,x]) (fun _ s₅=> ∃m,m<n/\I m s₅) (fun _ _=>False) s₄) (fun _ _=>False) s₃
     else ∃m,m<n/\I m s₃) (fun _ _=>False) s₂) (fun _ _=>False) s₁') (fun _ _=>False) s₁) (fun _ _=>False) s)
  (n:Nat) (h:I n s):codeAny (model prog w) A (.compLoop (.ListComp elt [⟨target,iter,ifs,0⟩] scope pos) 0 it acc env) R s:=by
 refine codeAny_loop rfl I (fun n s hI=>?_) n h
 show wpAny _ A ((compTurn (.ListComp elt [⟨target,iter,ifs,0⟩] scope pos) 0 it acc env).onRaise (fun x=>do noteFrame x env;theTreesLotGoes x)) _ _ s
 refine wpAny_noted ?_
 rw[compTurn_list]
 refine Aa (wpAny_standAt (Aa (B9 (turn n s hI) (fun r s₁ h₁=>?_) fun _ _ f=>f.elim)))
 cases r with
 |none=>exact Ad h₁
 |some v=>
  refine Aa (B9 h₁ (fun _ s₁' h₁'=>?_) fun _ _ f=>f.elim)
  refine Aa (B9 h₁' (fun _ s₂ h₂=>Aa (B9 h₂ (fun ok s₃ h₃=>?_) fun _ _ f=>f.elim)) fun _ _ f=>f.elim)
  cases ok with
  |false=>exact Ad ⟨rfl,h₃⟩
  |true=>
   exact Aa (Aa (B9 h₃ (fun x s₄ h₄=>Aa (B9 h₄ (fun _ s₅ h₅=>Ad (Ad ⟨rfl,h₅⟩)) fun _ _ f=>f.elim)) fun _ _ f=>f.elim))
end
def cst (k:Nat) (fr:List Nat) (σ:St):St:=List.replicate k none++fr.map fun j=>(σ[j]?).join
structure CompScope (X:Cx) (loc free:List Str) (fr:List Nat) (scope:Scope):Prop where
 kind:scope.kind=.function
 cell:∀y∈scope.names,y.2≠ .cell
 names:∀y∈scope.names,y.2=.local->scope.names.lookup y.1=some .local
 frees:∀y∈scope.names,y.2=.free->X.env.kindOf y.1=some .cell\/X.env.kindOf y.1=some .free
 at_:∀(i j:Nat) (x:Str),fr[i]? =some j->free[i]? =some x->X.N[j]? =some x/\scope.names.lookup x=some .free
 len:fr.length=free.length
theorem LZ {env:Env}:∀{names:List (Str×NameKind)} {x:Str},(∀y∈names,y.2≠ .cell)->
    ((names.map fun (n,k)=>if (k==NameKind.free && env.scope.kind== .function && env.kindOf n==some .cell) then (n,NameKind.cell) else (n,k)).lookup x=some .cell\/
     (names.map fun (n,k)=>if (k==NameKind.free && env.scope.kind== .function && env.kindOf n==some .cell) then (n,NameKind.cell) else (n,k)).lookup x=some .free)->names.lookup x=some .free
  | [],_,_,h=>by simp at h
  | (n,k)::r,x,hc,h=>by
    have ih:= @LZ env r x fun y hy=>hc y (Ap _ hy)
    rw[Ah]at h;rw[Cm];cases hx:x==n with
    |true=>
      have hk:k≠ .cell:=hc (n,k) Ak;dsimp only at h ⊢
      by_cases hb:(k==NameKind.free && env.scope.kind== .function && env.kindOf n==some .cell)=true
      · have:k=.free:=by
          rw[Bi,Bi]at hb;simpa using hb.1.1
        rw[this]
      · rw[Ac hb,Cm,hx]at h
        rcases h with h|h
        · have:k=.cell:=Option.some.inj h
          exact absurd this hk
        · exact h
    |false=>
      dsimp only at h ⊢
      refine ih ?_
      by_cases hb:(k==NameKind.free && env.scope.kind== .function && env.kindOf n==some .cell)=true
      · rw[Ab hb,Cm,hx]at h;exact h
      · rw[Ac hb,Cm,hx]at h;exact h
theorem Ma {env:Env}:∀{names:List (Str×NameKind)} {x:Str},names.lookup x=some .free->
    ((names.map fun (n,k)=>if (k==NameKind.free && env.scope.kind== .function && env.kindOf n==some .cell) then (n,NameKind.cell) else (n,k)).lookup x=some .cell\/
     (names.map fun (n,k)=>if (k==NameKind.free && env.scope.kind== .function && env.kindOf n==some .cell) then (n,NameKind.cell) else (n,k)).lookup x=some .free)
  | [],_,h=>by simp at h
  | (n,k)::r,x,h=>by
    have ih:= @Ma env r x;rw[Ah];rw[Cm]at h;cases hx:x==n with
    |true=>
      rw[hx]at h;have hk:k=.free:=Option.some.inj h;subst hk;dsimp only
      by_cases hb:(NameKind.free==NameKind.free && env.scope.kind== .function && env.kindOf n==some .cell)=true
      · rw[Ab hb,Cm,hx];exact .inl rfl
      · rw[Ac hb,Cm,hx];exact .inr rfl
    |false=>
      rw[hx]at h;have:=ih h;dsimp only
      by_cases hb:(k==NameKind.free && env.scope.kind== .function && env.kindOf n==some .cell)=true
      · rw[Ab hb,Cm,hx];exact this
      · rw[Ac hb,Cm,hx];exact this
section
variable {X:Cx} {pins:AL} {σ:St} {H:Hp} {s:Shared}
def RK {loc free:List Str} {fr:List Nat} {scope:Scope} {cl:List (Str×Addr)} {h1:Heap} {t1:Nat} {fp:List Addr} (S:CompScope X loc free fr scope) (I:Inv X pins σ H s)
  (hc1:∀x c,cl.lookup x=some c->X.env.cells.lookup x=some c) (hc2:∀y∈scope.names,y.2=.free->∃c,cl.lookup y.1=some c)
  (hns:h1.Ns s.heap.objs.size (fun _=>none)) (hk:∀b o,s.heap.get? b=some o->h1.get? b=some o)
  (hfp:∀b∈fp,yN X pins H b) (hfo:∀b∈fp,∃o,s.heap.get? b=some o):
  Inv (y8 X (loc++free) scope cl s.heap.objs.size s H fp) [] (cst loc.length fr σ) H {s with heap:=h1,toks:=t1}:=by
 have fpb:∀b∈fp,b<s.heap.objs.size:=fun b hb=>let ⟨o,e⟩:=hfo b hb;Ai e
 refine⟨⟨I.ok.mod,S.kind,I.ok.glob,I.ok.blt,Af _,fun x y c e1 e2=>I.ok.inj x y c (hc1 _ _ e1) (hc1 _ _ e2),fun x hx=>?_,fun x c f=>(nomatch f),I.ok.hd,I.ok.frames,.inl rfl,fun b hb=>?_,I.bs,Bs I.ok.bsz I.sz,fun b o e hb=>?_,fun b hb z=>?_,I.stack,I.stkFree⟩,
  rfl,I.bare,Un.kept hk,⟨_,hns,fun i x v e1 e2 e3=>?_⟩,fun x c e=>?_,I.hok.fresh (Af _),fun x c e=>I.freeC x c (hc1 x c e),fun p hp=>absurd (show p∈([]:AL) from hp) (by simp),I.hok.kept hk,?_⟩
 .have q:scope.names.lookup x=some .free:=LZ S.cell hx
  exact hc2 (x,.free) (Da q) rfl
 .exact⟨Av (fpb b hb),fun x c e=>(hfp b hb).2.2.2.2.1 x c (hc1 x c e)⟩
 .rcases (hfp b hb).2.2.2.1 with z|z
  .exact I.ok.noex b o e z
  .exact absurd (Bk (Ai e) (Bs I.ok.bsz z)) (B7 _)
 .rcases Ag.mp (I.stkSub b z) with e|e
  .exact (hfp b hb).2.1 e
  .exact (hfp b hb).2.2.1 e
 .have e1':(loc++free)[i]? =some x:=e1
  unfold cst at e2
  by_cases hi:i<loc.length
  .rw[Bc (by simpa using hi),Ge]at e2
   rw[Ab hi]at e2;cases e2
  .have hi':loc.length<=i:=Nat.le_of_not_lt hi
   rw[Bl (by simpa using hi'),Dr,Az]at e2
   rw[Bl hi']at e1';cases hj:fr[i-loc.length]? with
   |none=>rw[hj]at e2;cases e2
   |some j=>
    rw[hj]at e2;have e2':(σ[j]?).join=some v:=Option.some.inj e2;obtain⟨n1,n2⟩:=S.at_ _ j x hj e1';have e4:σ[j]? =some (some v):=by
     cases q:σ[j]? with
     |none=>rw[q]at e2';cases e2'
     |some z=>rw[q]at e2';exact congrArg some e2'
    have kf:=S.frees (x,.free) (Da n2) rfl;obtain⟨m,hn,hl⟩:=I.loc;obtain⟨u,r,l⟩:=hl j x v n1 e4 (kf.elim (fun z=>.inr (.inl z)) fun z=>.inr (.inr z))
    refine⟨u,r,.inr ⟨Ma n2,?_⟩⟩
    obtain⟨c,hc⟩:=hc2 (x,.free) (Da n2) rfl;have hcx:=hc1 x c hc
    rcases l with ⟨hk',_⟩|⟨_,c',hc',hcell⟩
    .rcases kf with z|z<;>(rw[hk']at z;cases z)
    .rw[hcx]at hc'
     cases hc';obtain⟨o,ho,hd⟩:=hcell;exact⟨c,hc,o,hk _ _ ho,hd⟩
 .obtain⟨v,o,ho,hd⟩:=I.cell x c (hc1 x c e)
  exact⟨v,o,hk _ _ ho,hd⟩
 .show (cst loc.length fr σ).length=(loc++free).length
  unfold cst;rw[Ar,Dr,Ae,Ar,S.len]
abbrev RL (J:It) (g:TG) (tc:TT) (te:TE) (σ0:St) (H:Hp) (Q:VK) (D:Addr):Prop:=
 ∃W:Nat->Nat->List V->St->Hp->Prop,(∃m,W 0 m [] σ0 (zk H D (.lst [])))/\∀i m acc σ' H',W i m acc σ' H'->H' D=some (.lst acc)/\
  ((J.stop i H'/\Q (.ref D) H')\/(J.go i H'/\∃N:List V->St->Hp->Prop,(∀acc' σ3 H5,N acc' σ3 H5->∃m',m' < m/\W (i+1) m' acc' σ3 H5)/\∀x H2,J.yld i H' x H2->g x σ' H2 fun σ3 H3=>tc σ3 H3 fun b H4=>
   if b=true then te σ3 H4 fun v H5=>H5 D=some (.lst acc)/\acc.length<sizeLine/\N (acc++[v]) σ3 (zk H5 D (.lst (acc++[v])))
   else N acc σ3 H4))
def Hf (wi:TI) (k:Nat) (fr:List Nat) (g:TG) (tc:TT) (te:TE):TE:=fun σ H Q=>wi σ H fun J H1=> ∀D,H1 D=none->RL J g tc te (cst k fr σ) H1 Q D
def RM:TT:=fun _ H Q=>Q true H
def PTs (X:Cx) (ifs:List Expr) (t:TT):Prop:=
 ∀(pins:AL) (s:Shared) (σ:St) (H:Hp) (Q:Bool->Hp->Prop),Inv X pins σ H s->t σ H Q->
  wpAny (model X.prog X.w) X.A (forIn ifs true fun c r=>if r=true then do let ok <-isTrue c X.env (eval c X.env);pure (ForInStep.yield ok) else pure (ForInStep.yield r)) (TP X pins σ Q) X.xe s
def RN:PTs X [] RM:=fun pins s σ H Q I h=>wpAny_tests_nil ⟨H,I,h⟩
def RO {c:Expr} {t:TT} (h:PT X c t):PTs X [c] t:=fun pins s σ H Q I q=>wpAny_tests_one (h pins s σ H Q I q)
structure CompEnd (X:Cx) (pins:AL) (σ:St) (Q:VK) (D C:Addr) (s6:Shared):Prop where
 inv:∃H5,Inv X pins σ H5 s6/\H5 C=none/\Q (.ref D) H5
 ns:∃m,s6.heap.Ns C m
 neL:C≠X.env.locals
 nfs:C∉X.fs
 new:X.s₀.heap.objs.size<=C
 cel:∀x c,X.env.cells.lookup x=some c->c≠C
 pin:∀p∈X.pn++pins,p.1≠C
def Mb {elt tg iter:Expr} {ifs:List Expr} {loc free:List Str} {fr:List Nat} {scope:Scope} {pos:Pos} {wi:TI} {g:TG} {tc:TT} {te:TE} (hc:X.calm=true) (S:CompScope X loc free fr scope) (hi:PI X tg iter wi)
  (hg:∀cl C s H ex,PG (y8 X (loc++free) scope cl C s H ex) tg g) (ht:∀cl C s H ex,PTs (y8 X (loc++free) scope cl C s H ex) ifs tc) (he:∀cl C s H ex,PE (y8 X (loc++free) scope cl C s H ex) elt te)
  (I:Inv X pins σ H s) {Q:VK} (h:Hf wi loc.length fr g tc te σ H Q) {cl:List (Str×Addr)} (hc1:∀x c,cl.lookup x=some c->X.env.cells.lookup x=some c) (hc2:∀y∈scope.names,y.2=.free->∃c,cl.lookup y.1=some c)
  {RR:Value->Addr->Result->Shared->Prop} (hRR:∀D C s6,CompEnd X pins σ Q D C s6->RR (.ref D) C (.ok .next) s6):
  wpAny (model X.prog X.w) X.A (eval iter X.env) (fun x s1=>wpAny (model X.prog X.w) X.A (pyIter x) (fun it s2=>wpAny (model X.prog X.w) X.A (newList []) (fun acc s3=>
   wpAny (model X.prog X.w) X.A (newFunctionEnv scope X.env.globals cl [] X.env.qual none .none (some X.env)) (fun cenv s4=>
    codeAny (model X.prog X.w) X.A (.compStart (.ListComp elt [⟨tg,iter,ifs,0⟩] scope pos) 0 it acc {cenv with scope:=relabel scope X.env}) (RR acc cenv.locals) s4) X.xe s3) X.xe s2) X.xe s1) X.xe s:=by
 refine thn (hi pins s σ H _ I h) fun v s1 h1=>thn h1 fun itv s2 h2=>?_
 obtain⟨it,fp,tn,J,H2,e,I2,T,st2,f2,q2⟩:=h2;subst e;have hD:H2 s2.heap.objs.size=none:=I2.hok.fresh (Af _);obtain⟨W,⟨m0,w0⟩,turn⟩:=q2 s2.heap.objs.size hD
 refine Cd ?_
 generalize hs3:({s2 with heap:=s2.heap.push {cls:= .type "list",dict:=none,data:= .seq ([]:List Value).toArray}}:Shared)=s3
 have I3:Inv X pins σ (zk H2 s2.heap.objs.size (.lst [])) s3:=by
  rw[<-hs3];exact I2.lnew (its:=[]) (t':=s2.toks) .nil (Bx _)
 have k23:∀b o,s2.heap.get? b=some o->s3.heap.get? b=some o:=fun b o q=>by rw[<-hs3];exact Aw _ q
 have f3:∀b∈fp,yN X pins (zk H2 s2.heap.objs.size (.lst [])) b:=fun b hb=>by
  obtain⟨o,e,_⟩:=T.obj _ _ st2 b hb;exact⟨by rw[zQ (Av (Ai e))];exact (f2 b hb).1,(f2 b hb).2⟩
 have o3:∀b∈fp,∃o,s3.heap.get? b=some o:=fun b hb=>let ⟨o,e,_⟩:=T.obj _ _ st2 b hb;⟨o,k23 b o e⟩
 have st3:tn 0 s3.heap:=T.keep _ _ _ st2 fun b _ o e=>k23 b o e
 refine wpAny_newFunctionEnv S.cell (by intro y hy;simp at hy) (fun h4 hns hsb=>?_) S.kind
 try dsimp only at hns hsb ⊢
 have k34:∀b o,s3.heap.get? b=some o->h4.get? b=some o:=fun b o q=>hsb.extBut b o (Av (Ai q)) (Aw _ q)
 have I4:=RK (t1:=s3.toks+([]:List (Str×Value)).length) S I3 hc1 hc2 hns k34 f3 o3;have hgC:=hg cl s3.heap.objs.size s3 (zk H2 s2.heap.objs.size (.lst [])) fp;have htC:=ht cl s3.heap.objs.size s3 (zk H2 s2.heap.objs.size (.lst [])) fp;have heC:=he cl s3.heap.objs.size s3 (zk H2 s2.heap.objs.size (.lst [])) fp;have st4:tn 0 h4:=T.keep _ _ _ st3 fun b _ o e=>k34 b o e
 generalize hY:y8 X (loc++free) scope cl s3.heap.objs.size s3 (zk H2 s2.heap.objs.size (.lst [])) fp=Y at I4 hgC htC heC;have fY:∀{H':Hp},(∀b∈fp,H' b=none)->∀b∈fp,yN Y [] H' b:=fun hn b hb=>by
  subst hY
  refine⟨hn b hb,?_,fun z=>?_,.inl hb,fun x c e=>(f3 b hb).2.2.2.2.1 x c (hc1 x c e),fun p hp=>absurd (show p∈([]:AL) from hp) (by simp)⟩
  .obtain⟨o,e⟩:=o3 b hb
   exact Av (Ai e)
  .rcases Ag.mp (I3.stkSub b z) with e|e
   .exact (f3 b hb).2.1 e
   .exact (f3 b hb).2.2.1 e
 have hYp:Y.prog=X.prog:=by rw[<-hY];rfl
 have hYw:Y.w=X.w:=by rw[<-hY];rfl
 have hYK:Y.K=X.K:=by rw[<-hY];rfl
 have hYA:Y.A=X.A:=by rw[<-hY];rfl
 have hYe:Y.env=compEnvC scope cl s3.heap.objs.size X.env:=by rw[<-hY];rfl
 have hYx:Y.xe=fun _ _=>False:=by rw[<-hY];rfl
 have hYc:Y.calm=true:=by rw[<-hY];exact hc
 have loop:codeAny (model X.prog X.w) X.A (.compLoop (.ListComp elt [⟨tg,iter,ifs,0⟩] scope pos) 0 (.ref it) (.ref s2.heap.objs.size) (compEnvC scope cl s3.heap.objs.size X.env))
   (RR (.ref s2.heap.objs.size) s3.heap.objs.size) {s3 with heap:=h4,toks:=s3.toks+([]:List (Str×Value)).length}:=by
  refine RJ (fun n s'=> ∃i acc σ' H',Inv Y [] σ' H' s'/\tn i s'.heap/\(∀b∈fp,H' b=none)/\W i n acc σ' H') ?_ m0 ⟨0,[],_,_,I4,st4,fun b hb=>(f3 b hb).1,w0⟩
  rintro n s5 ⟨i,acc,σ5,H5,I5,st5,fr5,w5⟩;obtain⟨hacc,turn5⟩:=turn i n acc σ5 H5 w5
  rcases turn5 with ⟨stop,qn⟩|⟨go,N,hN,step⟩
  .have d:=T.done Y hYp hYw hYK hYc i [] s5 σ5 H5 (fun _ _=>False) I5 (fY fr5) st5 stop
   rw[hYA]at d
   refine thn d fun r s6 ⟨hr,I6⟩=>?_
   subst hr;obtain⟨m,hn,_⟩:=id I6.loc;rw[hYe]at hn;have fC:H5 s3.heap.objs.size=none:=by
    have:=I6.free;rw[hYe]at this;exact this
   have hok6:HOk X.prog X.w H5 s6.heap:=by
    have:=I6.hok;rw[hYp,hYw]at this;exact this
   have un6:Un (yQ X.stack) fp (zk H2 s2.heap.objs.size (.lst [])) H5 s3.heap s6.heap:=by
    have:=I6.base;subst hY;exact this
   have os6:s6.os=s3.os:=by
    have:=I6.os;subst hY;exact this
   have IX:Inv X pins σ H5 s6:=I3.call' (ch:=fp) os6 un6 hok6 I6.bare fun b hb=>⟨(f3 b hb).2.2.2.1,(f3 b hb).2.1,(f3 b hb).2.2.2.2.1,(f3 b hb).2.2.2.2.2⟩
   refine hRR _ _ s6 ⟨⟨H5,IX,fC,qn⟩,⟨m,hn⟩,C8 I3.lt,I3.nofs (Af _),I3.sz,fun x c e z=>?_,fun p hp z=>?_⟩
   .obtain⟨v,q⟩:=I3.cell x c e
    exact absurd q.lt (by rw[z];exact B7 _)
   .exact absurd (Ai (I3.pin p hp).1) (by rw[z];exact B7 _)
  .have d:=T.item Y hYp hYw hYK hYc i [] s5 σ5 H5 (fun _ _=>False) I5 (fY fr5) st5 go
   rw[hYA]at d
   refine thn d fun r s6 ⟨u,hr,h6⟩=>?_
   subst hr
   refine thn h6 fun _ s7 ⟨x,H7,I7,r7,y7,st7,fr7⟩=>?_
   have I7':=I7.pinned (fY fr7) (T.obj _ _ st7);have g7:=hgC _ s7 σ5 H7 x u _ I7' r7 (step x H7 y7);rw[hYp,hYw,hYA,hYe,hYx]at g7
   refine thn g7 fun _ s8 ⟨σ8,H8,I8,q8⟩=>?_
   have t8:=htC _ s8 σ8 H8 _ I8 q8;rw[hYp,hYw,hYA,hYe,hYx]at t8;have back:∀{σ9:St} {H9:Hp} {s9:Shared} {acc':List V},Inv Y ([]++EH fp s7.heap) σ9 H9 s9->N acc' σ9 H9->∃m,m<n/\∃i acc σ' H',Inv Y [] σ' H' s9/\tn i s9.heap/\(∀b∈fp,H' b=none)/\W i m acc σ' H':=fun {σ9 H9 s9 acc'} I9 w9=>by
    obtain⟨m',hm,w9⟩:=hN _ _ _ w9
    refine⟨m',hm,i+1,acc',σ9,H9,I9.unpinned,T.keep _ _ _ st7 fun b hb o e=>(I9.pin (b,o) (Bu _ (Bu _ (GV hb e)))).1,fun b hb=>?_,w9⟩
    obtain⟨o,e,d⟩:=T.obj _ _ st7 b hb;exact (I9.pin (b,o) (Bu _ (Bu _ (GV hb e)))).2.1
   refine thn t8 fun ok s9 ⟨H9,I9,q9⟩=>?_
   cases ok with
   |false=>
    rw[Ac (by simp)]at q9 ⊢
    exact back I9 q9
   |true=>
    rw[Ab rfl]at q9 ⊢;have e9:=heC _ s9 σ8 H9 _ I9 q9;rw[hYp,hYw,hYA,hYe,hYx]at e9
    refine thn e9 fun y s10 ⟨z,H10,I10,r10,hacc10,hlen,w10⟩=>?_
    have a10:=qY (X:=Y) _ s10 σ8 H10 (.ref s2.heap.objs.size) [z] (.ref s2.heap.objs.size) [y] (fun _ H'=>N (acc++[z]) σ8 H') I10 rfl (.cons r10 .nil) ⟨_,_,z,rfl,rfl,hacc10,hlen,w10⟩
    rw[hYp,hYw,hYA,hYx]at a10;exact thn a10 fun _ s11 ⟨_,H11,I11,_,w11⟩=>back I11 w11
 exact codeAny_compStart_list loop (T.self X.A 0 _ _ _ st4 loop)
def RP {elt tg iter:Expr} {ifs:List Expr} {loc free:List Str} {fr:List Nat} {scope:Scope} {pos:Pos} {wi:TI} {g:TG} {tc:TT} {te:TE} (hc:X.calm=true) (S:CompScope X loc free fr scope) (hi:PI X tg iter wi)
  (hg:∀cl C s H ex,PG (y8 X (loc++free) scope cl C s H ex) tg g) (ht:∀cl C s H ex,PTs (y8 X (loc++free) scope cl C s H ex) ifs tc) (he:∀cl C s H ex,PE (y8 X (loc++free) scope cl C s H ex) elt te)
  (hs:∀x,foldedSetIterable iter X.env x=pure x:=by intro _;rfl):PE X (.ListComp elt [⟨tg,iter,ifs,0⟩] scope pos) (Hf wi loc.length fr g tc te):=by
 intro pins s σ H Q I h;rw[eval_ListComp];obtain⟨cl,hcl,hc1,hc2⟩:=LY (scope:=scope) (env:=X.env) fun y hy hf=>I.ok.has y.1 (S.frees y hy hf)
 refine wpAny_comprehension_free (use:=none) rfl hs hcl S.kind S.names ?_
 refine Mb (RR:=fun acc C=>compPost (model X.prog X.w) X.A X.xe none (EP X pins σ Q) acc C) hc S hi hg ht he I h hc1 hc2 fun D C s6 ce=>?_
 obtain⟨H5,IX,fC,q⟩:=ce.inv;obtain⟨m,hn⟩:=ce.ns;exact⟨m,hn,fun h7 hs7=>⟨.ref D,H5,IX.turned (t':=s6.toks) (fun b o hb e=>hs7.extBut b o hb e) fC ce.neL (.inr ce.new) ce.cel ce.pin,rfl,q⟩⟩
def Mc {i:Nat} {y:Str} {py:Pos} {spos:Pos} {elt tg iter:Expr} {ifs:List Expr} {loc free:List Str} {fr:List Nat} {scope:Scope} {pos:Pos} {wi:TI} {g:TG} {tc:TT} {te:TE} (hN:X.N.Nodup) (hi':X.N[i]? =some y) (hx:X.env.scope.names.lookup y=some .local)
  (hc:X.calm=true) (S:CompScope X loc free fr scope) (hi:PI X tg iter wi)
  (hg:∀cl C s H ex,PG (y8 X (loc++free) scope cl C s H ex) tg g) (ht:∀cl C s H ex,PTs (y8 X (loc++free) scope cl C s H ex) ifs tc) (he:∀cl C s H ex,PE (y8 X (loc++free) scope cl C s H ex) elt te)
  (hs:∀x,foldedSetIterable iter X.env x=pure x:=by intro _;rfl)
  (hsw:swapsWith (.ListComp elt [⟨tg,iter,ifs,0⟩] scope pos) (some (.Name y py)) spos.line X.env=pure true:=by rfl):
  PS X (.Assign [.Name y py] (.ListComp elt [⟨tg,iter,ifs,0⟩] scope pos) spos) (tAsg (Hf wi loc.length fr g tc te) (EF i)):=by
 intro pins s σ H D I h;obtain⟨cl,hcl,hc1,hc2⟩:=LY (scope:=scope) (env:=X.env) fun y hy hf=>I.ok.has y.1 (S.frees y hy hf)
 rw[exec_Assign_Name_used _ _ _ _ hsw]
 refine Aa (wpAny_standAt (Aa ?_))
 show wpAny _ X.A (do let _ <-comprehension (.ListComp elt [⟨tg,iter,ifs,0⟩] scope pos) scope X.env _ (newList []) false (eval iter X.env) (some (assign (.Name y py) X.env))) _ _ s
 refine Aa (B9 (wpAny_comprehension_free (use:=some (assign (.Name y py) X.env)) (Q:=fun _ s'=>SP X pins D .next s') rfl hs hcl S.kind S.names ?_) (fun _ s' hq=>Ad (Ad hq)) fun _ _ e=>e)
 refine Mb (RR:=fun acc C=>compPost (model X.prog X.w) X.A X.xe (some (assign (.Name y py) X.env)) (fun _ s'=>SP X pins D .next s') acc C) hc S hi hg ht he I h hc1 hc2 fun L C s6 ce=>?_
 obtain⟨H5,IX,fC,q⟩:=ce.inv;obtain⟨m,oC,es,ep,ho,hd,hk⟩:=ce.ns;show wpAny _ X.A (assign (.Name y py) X.env (.ref L)) _ _ s6;have IP:Inv X (pins++[(C,oC)]) σ H5 s6:=IX.pins_of fun p hp=>(As.mp hp).elim (fun z=>IX.pin p (Bu _ z)) fun z=>by
  rw[Ao.mp z];exact⟨ho,fC,ce.neL,ce.nfs,fun v e=>by rw[hd]at e;cases e⟩
 refine wpAny_assign_Name (GU IP hN hi' (.inl hx) (v:= .ref L) rfl (fun s' I'=>?_) (.inr hx))
 have pc:=I'.pin (C,oC) (Bu _ (Bu _ Ak))
 refine⟨m,⟨oC,es,ep,pc.1,hd,hk⟩,fun h7 hs7=>?_⟩
 exact⟨_,H5,I'.unpinned.turned (t':=s'.toks) (fun b o hb e=>hs7.extBut b o hb e) fC ce.neL (.inr ce.new) ce.cel ce.pin,q⟩
end
end L2
namespace Srt
open PySem PySem.W PyProof.Rows
def Spec {α:Type} (lt:Nat->Nat->Bool) (n:Nat):KasT α->(α->Prop)->Prop
 |.ret a,Q=>Q a
 |.ask i j k,Q=>i<n/\j<n/\Spec lt n (k (lt i j)) Q
theorem Spec.bind {α β:Type} {lt:Nat->Nat->Bool} {n:Nat} {f:α->KasT β} {Q:β->Prop}:∀{t:KasT α},Spec lt n t (fun a=>Spec lt n (f a) Q)->Spec lt n (t.bind f) Q
 |.ret _,h=>h
 |.ask i j k,h=>⟨h.1,h.2.1,Spec.bind (t:=k (lt i j)) h.2.2⟩
theorem Spec.wp {α:Type} {lt:Nat->Nat->Bool} {n:Nat} {cmp:Nat->Nat->(Bool->Shared->Prop)->Shared->Prop} {s:Shared} (hc:∀i j C,i<n->j<n->C (lt i j) s->cmp i j C s) {Q:α->Shared->Prop}:
  ∀{t:KasT α},Spec lt n t (fun a=>Q a s)->t.kasWp cmp Q s
 |.ret a,h=>h
 |.ask i j k,h=>hc i j _ h.1 h.2.1 (Spec.wp hc (t:=k (lt i j)) h.2.2)
structure Ord {κ:Type} (lt:κ->κ->Bool):Prop where
 trans:∀a b c,lt b a=false->lt c b=false->lt c a=false
 asym:∀a b,lt a b=true->lt b a=false
section
variable {κ:Type} {lt:κ->κ->Bool} (O:Ord lt) (f:Nat->κ) {n:Nat}
noncomputable abbrev ky (p:Array Nat) (i:Nat):κ:=f (p.getD i 0)
def Up (lt:κ->κ->Bool) (f:Nat->κ) (p:Array Nat) (m:Nat):Prop:=∀i j,i<=j->j<m->lt (ky f p j) (ky f p i)=false
def Dn (lt:κ->κ->Bool) (f:Nat->κ) (p:Array Nat) (m:Nat):Prop:=∀i j,i<=j->j<m->lt (ky f p i) (ky f p j)=false
structure Pm (n:Nat) (p:Array Nat):Prop where
 perm:p.toList.Perm (List.range n)
theorem Pm.size {p:Array Nat} (h:Pm n p):p.size=n:=by
 have:=h.perm.length_eq;simpa using this
def Pm.blw {p:Array Nat} (h:Pm n p) {i:Nat} (hi:i<n):p.getD i 0<n:=by
 have hs:i<p.size:=by rw[h.size];exact hi
 have e:p.getD i 0=p[i]:=by simp[Array.getD,hs]
 rw[e];exact Ay.mp (h.perm.mem_iff.mp (Array.getElem_mem_toList hs))
def Pm.of {p q:Array Nat} (h:Pm n p) (e:q.Perm p):Pm n q:=⟨(Array.perm_iff_toList_perm.mp e).trans h.perm⟩
def EM {p q:Array Nat} {i j:Nat} (h:p[i]? =q[j]?):p.getD i 0=q.getD j 0:=by
 rw[Array.getD_eq_getD_getElem?,Array.getD_eq_getD_getElem?,h]
include O
theorem irr (a:κ):lt a a=false:=by
 cases h:lt a a with
 |false=>rfl
 |true=>have:=O.asym a a h;rw[h]at this;exact this
theorem RQ {p:Array Nat} {m:Nat} (h:Up lt f p m) (h1:1<=m) (h2:lt (ky f p m) (ky f p (m-1))=false):Up lt f p (m+1):=by
 intro i j hij hj
 by_cases e:j=m
 .subst e
  by_cases e2:i=j
  .subst e2;exact irr O _
  .exact O.trans _ _ _ (h i (j-1) (by lia) (by lia)) h2
 .exact h i j hij (by lia)
theorem asc {p:Array Nat} (P:Pm n p):∀(fu m:Nat) {Q:Nat->Prop},1<=m->m+fu<=n->Up lt f p m->
  (∀r,m<=r->r<=m+fu->Up lt f p r->(r=m+fu\/lt (ky f p r) (ky f p (r-1))=true)->Q r)->Spec (fun i j=>lt (f i) (f j)) n (kas_asc p fu m) Q
 |0,m,Q,h1,hn,hu,h=>h m (Af _) (Af _) hu (.inl rfl)
 |fu+1,m,Q,h1,hn,hu,h=>by
  refine⟨P.blw (by lia),P.blw (by lia),?_⟩
  dsimp only;cases e:lt (f (p.getD m 0)) (f (p.getD (m-1) 0)) with
  |true=>rw[Ab rfl];exact h m (Af _) (by lia) hu (.inr e)
  |false=>
   rw[Ac (by simp)]
   exact asc P fu (m+1) (by lia) (by lia) (RQ O f hu h1 e) fun r a b c d=>h r (by lia) (by lia) c (by rcases d with d|d;exact .inl (by lia);exact .inr d)
theorem BO {p:Array Nat} {i j:Nat} (hj:j<=p.size) (k:Nat):ky f (kas_rev p i j) k=if i<=k/\k<j then ky f p (i+j-1-k) else ky f p k:=by
 unfold ky kas_rev;have e:=getElem?_mirror_all (xs:=p) (i:=i) hj k
 by_cases h:i<=k/\k<j
 .rw[Ab h]at e ⊢;rw[EM e]
 .rw[Ac h]at e ⊢;rw[EM e]
theorem EN {p:Array Nat} (P:Pm n p) (i j:Nat):Pm n (kas_rev p i j):=P.of (mirror_perm _ _ _ _)
def EO (lt:κ->κ->Bool) (f:Nat->κ) (p:Array Nat) (a b:Nat):Prop:=∀i j,a<=i->i<b->a<=j->j<b->lt (ky f p i) (ky f p j)=false
theorem Md {p:Array Nat} {a m:Nat} (hm:m<=p.size) (ha:a<=m) (h:Dn lt f p m) (al:EO lt f p a m):Dn lt f (kas_rev p a m) m:=by
 intro i j hij hj;rw[BO O f hm,BO O f hm]
 by_cases hi:a<=i/\i<m
 .rw[Ab hi,Ab ⟨by lia,hj⟩]
  exact al _ _ (by lia) (by lia) (by lia) (by lia)
 .rw[Ac hi]
  by_cases hj2:a<=j/\j<m
  .rw[Ab hj2];exact h _ _ (by lia) (by lia)
  .rw[Ac hj2];exact h i j hij hj
theorem desc:∀(fu:Nat) (p:Array Nat) (m q:Nat) {Q:Array Nat×Nat×Nat->Prop},Pm n p->1<=m->m+fu<=n->q+1<=m->Dn lt f p m->EO lt f p (m-(q+1)) m->
  (∀p' m' q',Pm n p'->m<=m'->m'<=m+fu->q'+1<=m'->Dn lt f p' m'->EO lt f p' (m' - (q'+1)) m'->Q (p',m',q'))->Spec (fun i j=>lt (f i) (f j)) n (kas_desc fu p m q) Q
 |0,p,m,q,Q,P,h1,hn,hq,hd,al,h=>h p m q P (Af _) (Af _) hq hd al
 |fu+1,p,m,q,Q,P,h1,hn,hq,hd,al,h=>by
  have dsucc:∀{p:Array Nat},Dn lt f p m->lt (ky f p (m-1)) (ky f p m)=false->Dn lt f p (m+1):=fun {p} hd e i j hij hj=>by
   by_cases ej:j=m
   .subst ej
    by_cases e2:i=j
    .subst e2;exact irr O _
    .exact O.trans _ _ _ e (hd i (j-1) (by lia) (by lia))
   .exact hd i j hij (by lia)
  have one:∀p:Array Nat,EO lt f p (m+1-(0+1)) (m+1):=fun p i j a b c d=>by
   have:i=j:=by lia
   subst this;exact irr O _
  refine⟨P.blw (by lia),P.blw (by lia),?_⟩
  dsimp only;cases e:lt (f (p.getD m 0)) (f (p.getD (m-1) 0)) with
  |true=>
   rw[Ab rfl];have e':lt (ky f p (m-1)) (ky f p m)=false:=O.asym _ _ e
   by_cases hq0:q > 0
   .rw[Ab hq0]
    have hs:m<=p.size:=by rw[P.size];lia
    have hd':=Md O f hs (by lia) hd al
    refine desc fu _ (m+1) 0 (EN O P _ _) (by lia) (by lia) (by lia) (dsucc hd' ?_) (one _) fun p' m' q' a b c d=>h p' m' q' a (by lia) (by lia) d
    rw[BO O f hs,BO O f hs,Ab ⟨by lia,by lia⟩,Ac (by lia)]
    exact O.trans _ _ _ e' (al _ _ (by lia) (by lia) (by lia) (by lia))
   .rw[Ac hq0]
    exact desc fu p (m+1) 0 P (by lia) (by lia) (by lia) (dsucc hd e') (one _) fun p' m' q' a b c d=>h p' m' q' a (by lia) (by lia) d
  |false=>
   rw[Ac (by simp)]
   refine⟨P.blw (by lia),P.blw (by lia),?_⟩
   dsimp only;cases e2:lt (f (p.getD (m-1) 0)) (f (p.getD m 0)) with
   |true=>rw[Ab rfl];exact h p m q P (Af _) (by lia) hq hd al
   |false=>
    rw[Ac (by simp)]
    refine desc fu p (m+1) (q+1) P (by lia) (by lia) (by lia) (dsucc hd e2) (fun i j a b c d=>?_) fun p' m' q' a b c d=>h p' m' q' a (by lia) (by lia) d
    have l1:∀i,m-(q+1)<=i->i<m+1->lt (ky f p i) (ky f p (m-1))=false/\lt (ky f p (m-1)) (ky f p i)=false:=fun i a b=>by
     by_cases ei:i=m
     .subst ei;exact⟨e,e2⟩
     .exact⟨al i (m-1) a (by lia) (by lia) (by lia),al (m-1) i (by lia) (by lia) a (by lia)⟩
    exact O.trans _ _ _ (l1 j (by lia) d).2 (l1 i (by lia) b).1
theorem Me {p:Array Nat} {m:Nat} {Q:Nat×Array Nat->Prop} (P:Pm n p) (h1:1<=m) (hm:m<=n) (hd:Dn lt f p m)
  (h:∀r p',Pm n p'->1<=r->r<=n->Up lt f p' r->Q (r,p')):Spec (fun i j=>lt (f i) (f j)) n (kas_tail3 m n p) Q:=by
 have hs:m<=p.size:=by rw[P.size];lia
 refine Spec.bind (asc O f (EN O P 0 m) (n-m) m h1 (by lia) ?_ fun r a b c _=>h r _ (EN O P 0 m) (by lia) (by lia) c)
 intro i j hij hj;rw[BO O f hs,BO O f hs,Ab ⟨by lia,by lia⟩,Ab ⟨by lia,by lia⟩]
 exact hd _ _ (by lia) (by lia)
theorem Mf {p:Array Nat} {m:Nat} {Q:Nat×Array Nat->Prop} (P:Pm n p) (h1:1<=m) (hm:m+1<=n) (hd:Dn lt f p (m+1))
  (h:∀r p',Pm n p'->1<=r->r<=n->Up lt f p' r->Q (r,p')):Spec (fun i j=>lt (f i) (f j)) n (kas_descPart m n p) Q:=by
 refine Spec.bind (desc O f (n-(m+1)) p (m+1) 0 P (by lia) (by lia) (by lia) hd (fun i j a b c d=>?_) fun p' m' q' P' a b c d al=>?_)
 .have:i=j:=by lia
  subst this;exact irr O _
 .dsimp only
  by_cases hq:q' > 0
  .rw[Ab hq]
   exact Me O f (EN O P' _ _) (by lia) (by lia) (Md O f (by rw[P'.size];lia) (by lia) d al) h
  .rw[Ac hq]
   exact Me O f P' (by lia) (by lia) d h
theorem count {p:Array Nat} {Q:Nat×Array Nat->Prop} (P:Pm n p) (h1:1<=n) (h:∀r p',Pm n p'->1<=r->r<=n->Up lt f p' r->Q (r,p')):
  Spec (fun i j=>lt (f i) (f j)) n (kas_count n p) Q:=by
 refine Spec.bind (asc O f P (n-1) 1 (Af _) (by lia) (fun i j a b=>?_) fun r a b c d=>?_)
 .have:i=j:=by lia
  subst this;exact irr O _
 .by_cases hr:(r==n)=true
  .rw[Ab hr];exact h r p P a (by lia) c
  .rw[Ac hr]
   have hne:r≠n:=by simpa using hr
   have hlt:lt (ky f p r) (ky f p (r-1))=true:=by
    rcases d with d|d
    .lia
    .exact d
   by_cases h2:r > 1
   .rw[Ab h2]
    refine⟨P.blw (by lia),P.blw (by lia),?_⟩
    dsimp only;cases e:lt (f (p.getD 0 0)) (f (p.getD (r-1) 0)) with
    |true=>rw[Ab rfl];exact h r p P a (by lia) c
    |false=>
     rw[Ac (by simp)]
     have hs:r<=p.size:=by rw[P.size];lia
     have al:EO lt f p 0 r:=fun i j _ b1 _ b2=>by
      have h1:lt (ky f p i) (ky f p 0)=false:=c 0 i (Bx _) b1;have h2:lt (ky f p (r-1)) (ky f p j)=false:=c j (r-1) (by lia) (by lia)
      exact O.trans _ _ _ (O.trans _ _ _ h2 e) h1
     refine Mf O f (EN O P 0 r) (by lia) (by lia) (fun i j hij hj=>?_) h
     rw[BO O f hs,BO O f hs]
     by_cases ej:j=r
     .subst ej
      rw[Ac (show ¬(0<=j/\j<j) by lia)]
      by_cases ei:i=j
      .subst ei;rw[Ac (show ¬(0<=i/\i<i) by lia)];exact irr O _
      .rw[Ab ⟨by lia,by lia⟩]
       have:=O.asym _ _ hlt;exact O.trans _ _ _ this (al _ _ (by lia) (by lia) (by lia) (by lia))
     .rw[Ab ⟨by lia,by lia⟩,Ab ⟨by lia,by lia⟩]
      exact al _ _ (by lia) (by lia) (by lia) (by lia)
   .rw[Ac h2]
    have er:r=1:=by lia
    subst er
    refine Mf O f P (by lia) (by lia) (fun i j hij hj=>?_) h
    by_cases ei:i=j
    .subst ei;exact irr O _
    .have:i=0:=by lia
     have:j=1:=by lia
     subst i j;exact O.asym _ _ hlt
theorem place {p:Array Nat} {k:Nat} (P:Pm n p) (hk:k<n) (hu:Up lt f p k):∀(fu l r:Nat) {Q:Nat->Prop},r-l<=fu->l<=r->r<=k->
  (∀i,i<l->lt (ky f p k) (ky f p i)=false)->(∀i,r<=i->i<k->lt (ky f p k) (ky f p i)=true)->
  (∀m,m<=k->(∀i,i<m->lt (ky f p k) (ky f p i)=false)->(∀i,m<=i->i<k->lt (ky f p k) (ky f p i)=true)->Q m)->Spec (fun i j=>lt (f i) (f j)) n (kas_place p k fu l r) Q
 |0,l,r,Q,h1,h2,h3,ha,hb,h=>h l (by lia) ha fun i a b=>hb i (by lia) b
 |fu+1,l,r,Q,h1,h2,h3,ha,hb,h=>by
  unfold kas_place
  by_cases hlr:l≥r
  .rw[Ab hlr];exact h l (by lia) ha fun i a b=>hb i (by lia) b
  .rw[Ac hlr]
   refine⟨P.blw hk,P.blw (by lia),?_⟩
   dsimp only;have hm1:l<=(l+r) / 2:=by lia
   have hm2:(l+r) / 2<r:=by lia
   generalize (l+r) / 2=c at hm1 hm2;cases e:lt (f (p.getD k 0)) (f (p.getD c 0)) with
   |true=>
    rw[Ab rfl]
    refine place P hk hu fu l c (by lia) (by lia) (by lia) ha (fun i a b=>?_) h
    cases e3:lt (ky f p k) (ky f p i) with
    |true=>rfl
    |false=>
     have:lt (ky f p k) (ky f p c)=false:=O.trans _ _ _ (hu c i a b) e3;rw[show lt (ky f p k) (ky f p c)=true from e]at this
     cases this
   |false=>
    rw[Ac (by simp)]
    refine place P hk hu fu (c+1) r (by lia) (by lia) h3 (fun i a=>?_) hb h
    exact O.trans _ _ _ (hu i c (by lia) (by lia)) e
theorem bin:∀(fu:Nat) (p:Array Nat) (k:Nat) {Q:Array Nat->Prop},Pm n p->k+fu=n->Up lt f p k->(∀p',Pm n p'->Up lt f p' n->Q p')->Spec (fun i j=>lt (f i) (f j)) n (kas_bin fu p k) Q
 |0,p,k,Q,P,hk,hu,h=>h p P (by rw[<-hk];exact hu)
 |fu+1,p,k,Q,P,hk,hu,h=>by
  refine Spec.bind (place O f P (by lia) hu k 0 k (by lia) (by lia) (Af _) (fun i a=>by lia) (fun i a b=>by lia) fun l hl ha hb=>?_)
  have hs:k<p.size:=by rw[P.size];lia
  refine bin fu _ (k+1) (P.of (bubble_perm _ _ _)) (by lia) (fun i j hij hj=>?_) h
  have kb:∀i,ky f (bubble p k (k-l)) i=if i=l then ky f p k else if l<i/\i<=k then ky f p (i-1) else ky f p i:=fun i=>by
   have e:=getElem?_bubble hs (k-l) (by lia) i
   rw[show k-(k-l)=l by lia]at e
   unfold ky
   by_cases h1:i=l
   .rw[Ab h1]at e ⊢;rw[EM e]
   .rw[Ac h1]at e ⊢
    by_cases h2:l<i/\i<=k
    .rw[Ab h2]at e ⊢;rw[EM e]
    .rw[Ac h2]at e ⊢;rw[EM e]
  rw[kb,kb]
  by_cases hi:i=l
  .rw[Ab hi]
   by_cases hjl:j=l
   .rw[Ab hjl];exact irr O _
   .rw[Ac hjl,Ab ⟨by lia,by lia⟩]
    exact O.asym _ _ (hb (j-1) (by lia) (by lia))
  .rw[Ac hi]
   by_cases hi2:l<i/\i<=k
   .rw[Ab hi2,Ac (show ¬j=l by lia),Ab ⟨by lia,by lia⟩]
    exact hu _ _ (by lia) (by lia)
   .rw[Ac hi2]
    by_cases hjl:j=l
    .rw[Ab hjl];exact ha i (by lia)
    .rw[Ac hjl]
     by_cases hj2:l<j/\j<=k
     .rw[Ab hj2];exact hu _ _ (by lia) (by lia)
     .rw[Ac hj2];exact hu _ _ hij (by lia)
theorem sort {Q:Array Nat->Prop} (h1:1<=n) (h:∀p,Pm n p->Up lt f p n->Q p):Spec (fun i j=>lt (f i) (f j)) n (kas_sort n) Q:=by
 refine Spec.bind (count O f ⟨by simp⟩ h1 fun r p P a b c=>?_)
 dsimp only
 by_cases hr:r<n
 .rw[Ab hr]
  have e:max r 1=r:=by lia
  rw[e];exact bin O f (n-r) p r P (by lia) c h
 .rw[Ac hr]
  have e:r=n:=by lia
  subst e;exact h p P c
end
end Srt
namespace L2
open PySem PySem.Spec PyProof.Rows
section
variable {X:Cx} {pins:AL} {σ:St} {H:Hp} {s:Shared} {h':Heap}
def Inv.turnLay {ch:List Addr} {a:Addr} {o:HO} {t':Nat} (I:Inv X pins σ H s) (k:∀b u,b∉ch->s.heap.get? b=some u->h'.get? b=some u) (hch:∀b∈ch,yN X pins H b)
  (hp:s.heap.objs.size<=a) (new:ObjOk X.prog X.w (zk H a o) h' a o):Inv X pins σ (zk H a o) {s with heap:=h',toks:=t'}:=by
 have hn:H a=none:=I.hok.fresh hp;have ne:∀b u,s.heap.get? b=some u->b≠a:=fun b u e=>Av (Bk (Ai e) hp)
 have nc:∀b u,H b=some u->b∉ch:=fun b u e hb=>by have:=(hch b hb).1;rw[e]at this;cases this
 refine I.step (g':=s.gens) (d':=s.drawn) (ch:=ch) (fun b hb=>⟨(hch b hb).2.2.2.1,(hch b hb).2.1,(hch b hb).2.2.2.2.1,(hch b hb).2.2.2.2.2⟩) (fun b u _ _ hc e _=>k b u hc e) (fun b u _ _ hc e _=>⟨u.slots,k b u hc e⟩)
  (fun b u _ e n=>by rw[zQ (ne b u e)];exact n) (fun b u hc e=>⟨u,k b u hc e⟩) (fun b xs e=>by rw[zQ (qk e hn)];exact e) (fun b u v e=>by rw[zQ (qk e hn)];exact e)
  (fun b ps e=>⟨#[],by rw[zQ (qk e hn)];rw[e];simp⟩) (fun m hm=>?_) (fun b u e=>?_) I.bare
 .obtain⟨ob,es,ep,ho,r⟩:=hm
  refine⟨ob,es,ep,k _ ob (fun hb=>(hch _ hb).2.1 rfl) ho,r⟩
 .by_cases hb:b=a
  .subst hb;rw[yM]at e;cases e;exact new
  .rw[zQ hb]at e
   refine (I.hok b u e).stay (fun c v hc q=>k c v ?_ q) (fun c q=>by rw[zQ (qk q hn)];exact q) fun c xs q=>by rw[zQ (qk q hn)];exact q
   rcases hc with z|z
   .rw[z];exact nc b u e
   .exact nc c _ z
def Inv.turnedL {ch:List Addr} {t':Nat} (I:Inv X pins σ H s) (k:∀b u,b∉ch->s.heap.get? b=some u->h'.get? b=some u) (hch:∀b∈ch,yN X pins H b):Inv X pins σ H {s with heap:=h',toks:=t'}:=by
 have nc:∀b u,H b=some u->b∉ch:=fun b u e hb=>by have:=(hch b hb).1;rw[e]at this;cases this
 refine I.step (g':=s.gens) (d':=s.drawn) (ch:=ch) (fun b hb=>⟨(hch b hb).2.2.2.1,(hch b hb).2.1,(hch b hb).2.2.2.2.1,(hch b hb).2.2.2.2.2⟩) (fun b u _ _ hc e _=>k b u hc e) (fun b u _ _ hc e _=>⟨u.slots,k b u hc e⟩)
  (fun b u _ e n=>n) (fun b u hc e=>⟨u,k b u hc e⟩) (fun b xs e=>e) (fun b u v e=>e) (fun b ps e=>⟨#[],by rw[e];simp⟩) (fun m hm=>?_) (fun b u e=>?_) I.bare
 .obtain⟨ob,es,ep,ho,r⟩:=hm
  refine⟨ob,es,ep,k _ ob (fun hb=>(hch _ hb).2.1 rfl) ho,r⟩
 .refine (I.hok b u e).stay (fun c v hc q=>k c v ?_ q) (fun c q=>q) fun c xs q=>q
  rcases hc with z|z
  .rw[z];exact nc b u e
  .exact nc c _ z
end
section
variable {X:Cx}
def RS:qc X (.builtin "isinstance") (fun xs H Q=> ∃x T t b,xs=[x,.ty T]/\TyOf X.K H x t/\PySem.W.kitOne X.K t (.type T)=some b/\Q (.bl b) H):=by
 intro pins s σ H xs us Q I r h;obtain⟨x,T,t,b,rfl,ty,e,q⟩:=h;obtain⟨u,v,rfl,rx,ry⟩:=GW r;cases ry;exact QO I rx ty e fun tk=>⟨.bl b,H,I.tok tk,rfl,q⟩
def Mg {A:Around} (h:A.handled=none):A.in1.handled=none:=h
def RT (hc:X.calm=true):qc X (.builtin "all") (fun xs H Q=> ∃(p:Addr) (bs:List Bool),xs=[.ref p]/\SqL X.K H p (bs.map V.bl)/\Q (.bl (bs.all id)) H):=by
 intro pins s σ H xs us Q I r h;obtain⟨p,bs,rfl,hq,q⟩:=h;obtain⟨u,rfl,rx⟩:=AX r;cases rx;obtain⟨its,rv,pl,hz⟩:=I.list hq
 refine call_all_walk (E8 pl.isList ?_)
 have hp:p<s.heap.objs.size:=by obtain⟨o,n,e,_⟩:=pl;exact Ai e
 have hlen:its.length=bs.length:=by rw[<-rv.length,Ae]
 refine⟨s.heap.objs.size,_,_,_,_,_,fun i=>bs.getD i true,rfl,Walks.list (Mg (I.ok.hd hc)) _ p (Av hp) its.toArray,⟨⟨_,Bf _ rfl,rfl,rfl⟩,pl.isList.push _⟩,?_,fun h' tk k=>?_⟩
 .intro i v s' Q' E' hv hQ
  have hv':its[i]? =some v:=by simpa using hv
  have hi:i<bs.length:=by rw[<-hlen];exact (An.mp hv').1
  obtain⟨u,hu,ru⟩:=rv.get (i:=i) (x:= .bl bs[i]) (by simp[hi])
  rw[hv']at hu;cases hu;cases ru
  refine Cg ?_
  have e:bs.getD i true=bs[i]:=by simp[hi]
  dsimp only at hQ;rw[e]at hQ;exact hQ
 .refine⟨.bl _,H,I.kept (t':=tk) (fun b o e=>k b o (by simpa using Av (Ai e)) (Aw _ e)),?_,q⟩
  show Value.bool _=Value.bool _
  congr 1
  rw[Am,hlen];have:∀(bs:List Bool) (n:Nat),n=bs.length->(List.range n).all (fun i=>bs.getD i true)=bs.all id:=by
   intro bs n hn;rw[Fe,Eo,Eo]
   constructor
   .intro h x hx
    obtain⟨i,hi,rfl⟩:=Gg.mp hx;have:=h i (Ay.mpr (by lia))
    simpa[hi] using this
   .intro h i hi
    have hi':i<bs.length:=by have:=Ay.mp hi;lia
    have:=h bs[i] (Db hi');simpa[hi'] using this
  exact this bs _ rfl
def RU (hc:X.calm=true):qc X (.builtin "any") (fun xs H Q=> ∃(p:Addr) (bs:List Bool),xs=[.ref p]/\SqL X.K H p (bs.map V.bl)/\Q (.bl (bs.any id)) H):=by
 intro pins s σ H xs us Q I r h;obtain⟨p,bs,rfl,hq,q⟩:=h;obtain⟨u,rfl,rx⟩:=AX r;cases rx;obtain⟨its,rv,pl,hz⟩:=I.list hq
 refine call_any_walk (E8 pl.isList ?_)
 have hp:p<s.heap.objs.size:=by obtain⟨o,n,e,_⟩:=pl;exact Ai e
 have hlen:its.length=bs.length:=by rw[<-rv.length,Ae]
 refine⟨s.heap.objs.size,_,_,_,_,_,fun i=>bs.getD i false,rfl,Walks.list (Mg (I.ok.hd hc)) _ p (Av hp) its.toArray,⟨⟨_,Bf _ rfl,rfl,rfl⟩,pl.isList.push _⟩,?_,fun h' tk k=>?_⟩
 .intro i v s' Q' E' hv hQ
  have hv':its[i]? =some v:=by simpa using hv
  have hi:i<bs.length:=by rw[<-hlen];exact (An.mp hv').1
  obtain⟨u,hu,ru⟩:=rv.get (i:=i) (x:= .bl bs[i]) (by simp[hi])
  rw[hv']at hu;cases hu;cases ru
  refine Cg ?_
  have e:bs.getD i false=bs[i]:=by simp[hi]
  dsimp only at hQ;rw[e]at hQ;exact hQ
 .refine⟨.bl _,H,I.kept (t':=tk) (fun b o e=>k b o (by simpa using Av (Ai e)) (Aw _ e)),?_,q⟩
  show Value.bool _=Value.bool _
  congr 1
  rw[Am,hlen];have:∀(bs:List Bool) (n:Nat),n=bs.length->(List.range n).any (fun i=>bs.getD i false)=bs.any id:=by
   intro bs n hn;rw[Fe,Dh,Dh]
   constructor
   .rintro⟨i,hi,h⟩
    have hi':i<bs.length:=by have:=Ay.mp hi;lia
    exact⟨bs[i],Db hi',by simpa[hi'] using h⟩
   .rintro⟨x,hx,h⟩
    obtain⟨i,hi,rfl⟩:=Gg.mp hx;exact⟨i,Ay.mpr (by lia),by simpa[hi] using h⟩
  exact this bs _ rfl
end
end L2
namespace L2
open PySem PySem.W PySem.Spec PyProof.Rows
section
variable {prog:Program} {w:World} {A:Around} {E:VP} {s:Shared}
def RV {a:Addr} {vs:List Value} {n:Nat} {P:PySem.Fin->Shared->Prop} {κt:Type} {lt:κt->κt->Bool} (O:Srt.Ord lt) (f:Nat->κt) (κ0:SortKind) (ho:s.heap.get? a=some (seqObj "list" vs.toArray n)) (h64:vs.length<64)
  (hkind:∀(h6:Heap) (Q:SortKind->Shared->Prop),(∀b o,b≠a->s.heap.get? b=some o->h6.get? b=some o)->2<=vs.length->Q κ0 {s with heap:=h6}->wpAny (model prog w) A (keyKind' vs.toArray) Q (fun _ _=>False) {s with heap:=h6})
  (hask:∀(h6:Heap) (i j:Nat) (C:Bool->Shared->Prop),(∀b o,b≠a->s.heap.get? b=some o->h6.get? b=some o)->i<vs.length->j<vs.length->C (lt (f i) (f j)) {s with heap:=h6}->kas_ask prog w A κ0 vs i j C {s with heap:=h6})
  (h:∀p:Array Nat,Srt.Pm vs.length p->Srt.Up lt f p vs.length->P (.done (.ret .none)) {s with heap:=sortedHeap s.heap a vs (List.toArray (p.toList.map fun i=>vs.getD i Value.none))}):
  wpAny (model prog w) A (Builtin.«list.sort» ⟨[.ref a],[]⟩) P E s:=by
 have ha:a<s.heap.objs.size:=Ai ho;have z1:=Dd s.heap a (Obj.mapSeq fun _=>(#[]:Array Value))
 obtain⟨e1,ho1⟩:∃e1,(s.heap.update a (Obj.mapSeq fun _=>(#[]:Array Value))).get? a=some (seqObj "list" #[] e1):=⟨_,get?_update_seq ho fun _=> #[]⟩
 have ho6:(((s.heap.update a (Obj.mapSeq fun _=>(#[]:Array Value))).push (seqObj "tuple" vs.toArray 0)).push (seqObj "list" #[] 0)).get? a=some (seqObj "list" #[] e1):=
  Aw _ (Aw _ ho1)
 have k6:∀b o,b≠a->s.heap.get? b=some o->(((s.heap.update a (Obj.mapSeq fun _=>(#[]:Array Value))).push (seqObj "tuple" vs.toArray 0)).push (seqObj "list" #[] 0)).get? b=some o:=fun b o hb e=>
  Aw _ (Aw _ ((z1.2 b hb).trans e))
 have fin:∀(st':SortSt) (p:Array Nat),Srt.Pm vs.length p->Srt.Up lt f p vs.length->(arrOf st').map (·.2)=List.toArray (p.toList.map fun i=>vs.getD i Value.none)->failedOf st'=none->
   wpAny (model prog w) A (do
    let touched:=(<-seqEpoch a) !=e1
    Builtin.List.listUpdate (.ref a) fun _=>(arrOf st').map (·.2)
    if let some e:=failedOf st' then rule "list.sort.comparison-raised";throw e
    if touched then rule "list.sort.modified";raiseError "ValueError" "list modified during sort"
    ret .none) P E {s with heap:=(((s.heap.update a (Obj.mapSeq fun _=>(#[]:Array Value))).push (seqObj "tuple" vs.toArray 0)).push (seqObj "list" #[] 0))}:=fun st' p Pp Up hout hf=>by
  have hsz:(List.toArray (p.toList.map fun i=>vs.getD i Value.none)).size=vs.length:=by rw[Am,Ae,Bz,Pp.size]
  rw[hout]
  refine Aa (seqEpoch_at ho6 rfl ?_)
  refine Aa (listUpdate_at ho6 rfl ?_ (Bx _) (Bs (Nat.le_of_eq hsz) (by rw[Cc];lia)))
  rw[hf];simp only[bne_self_eq_false,Ck,Bv];exact Ad (h p Pp Up)
 rw[list_sort_plain]
 refine Aa (listItems_at ho rfl ?_)
 refine Aa (listUpdate_at ho rfl ?_ (by rw[Am,Cc];lia) (Bx _))
 refine Aa (seqEpoch_at ho1 rfl ?_)
 refine Aa (wpAny_newTuple ?_ (by show vs.length<=_;rw[Cc];lia))
 refine Aa (wpAny_newList ?_ (Bx _))
 refine Bt ?_
 show wpAny (model prog w) A _ P E {s with heap:=((s.heap.update a (Obj.mapSeq fun _=>(#[]:Array Value))).push (seqObj "tuple" vs.toArray 0)).push (seqObj "list" #[] 0)}
 dsimp only
 by_cases h2:vs.length<2
 .have h2':vs.toArray.size<2:=by simpa using h2
  rw[Ab h2',Ab h2']
  refine Aa (Ad ?_)
  rw[StateT.run_pure]
  refine Aa (Ad ?_)
  dsimp only
  refine fin (SortSt.mk' general' (vs.toArray.zip vs.toArray) #[] 7 none) (List.toArray (List.range vs.length)) ⟨by simp⟩ (fun i j hij hj=>?_) ?_ rfl
  .have:i=j:=by lia
   subst this;exact Srt.irr O _
  .have e:=kas_range (vs.toArray.zip vs.toArray)
   rw[show (vs.toArray.zip vs.toArray).size=vs.length by simp]at e
   exact kat_snds (ks:=vs) rfl e.symm
 .have h2': ¬vs.toArray.size<2:=by simpa using h2
  rw[Ac h2',Ac h2']
  refine Aa (B9 (hkind _ (fun κ s'=>κ=κ0/\s'={s with heap:=((s.heap.update a (Obj.mapSeq fun _=>(#[]:Array Value))).push (seqObj "tuple" vs.toArray 0)).push (seqObj "list" #[] 0)}) k6 (by lia) ⟨rfl,rfl⟩) (fun κ s' hk=>?_) fun _ _ x=>x.elim)
  obtain⟨rfl,rfl⟩:=hk
  refine Aa (B9 (kat_run (Q:=fun st' s'=>s'={s with heap:=((s.heap.update a (Obj.mapSeq fun _=>(#[]:Array Value))).push (seqObj "tuple" vs.toArray 0)).push (seqObj "list" #[] 0)}/\∃p:Array Nat,Srt.Pm vs.length p/\Srt.Up lt f p vs.length/\arrOf st'=p.map (kas_item (vs.toArray.zip vs.toArray))/\failedOf st'=none)
   (G:=fun p s'=>s'={s with heap:=((s.heap.update a (Obj.mapSeq fun _=>(#[]:Array Value))).push (seqObj "tuple" vs.toArray 0)).push (seqObj "list" #[] 0)}/\Srt.Pm vs.length p/\Srt.Up lt f p vs.length)
   rfl (by lia) h64 (fun p st' s' a1 a2 a3 a4=>⟨a4.1,p,a4.2.1,a4.2.2,a2,a3⟩) ?_) ?_ fun _ _ e=>e)
  .exact Srt.Spec.wp (lt:=fun i j=>lt (f i) (f j)) (fun i j C hi hj hC=>hask _ i j C k6 hi hj hC) (Srt.sort O f (by lia) fun p Pp Up=>⟨rfl,Pp,Up⟩)
  .rintro⟨⟨⟩,st'⟩ s' ⟨rfl,p,Pp,Up,har,hf⟩
   dsimp only;exact fin st' p Pp Up (kat_snds rfl har) hf
def RW {l:Addr} {vs:List Value} {Q:VP} {κt:Type} {lt:κt->κt->Bool} (O:Srt.Ord lt) (f:Nat->κt) (κ0:SortKind) (hl:s.heap.IsList l vs.toArray) (h64:vs.length<64)
  (hkind:∀(h6:Heap) (Q:SortKind->Shared->Prop),(∀b o,s.heap.get? b=some o->h6.get? b=some o)->2<=vs.length->Q κ0 {s with heap:=h6}->wpAny (model prog w) A.in1.in1 (keyKind' vs.toArray) Q (fun _ _=>False) {s with heap:=h6})
  (hask:∀(h6:Heap) (i j:Nat) (C:Bool->Shared->Prop),(∀b o,s.heap.get? b=some o->h6.get? b=some o)->i<vs.length->j<vs.length->C (lt (f i) (f j)) {s with heap:=h6}->kas_ask prog w A.in1.in1 κ0 vs i j C {s with heap:=h6})
  (h:∀p:Array Nat,Srt.Pm vs.length p->Srt.Up lt f p vs.length->Q (.ref (s.heap.objs.size+1)) {s with heap:=sortedAll s.heap vs (List.toArray (p.toList.map fun i=>vs.getD i Value.none))}):
  wpAny (model prog w) A (call (.builtin "sorted") [.ref l]) Q E s:=by
 refine Calls.call_function_entry kind_sorted plain_sorted entry_sorted (args_sorted1 _) ?_
 unfold Builtin.«sorted»
 refine Aa (m:=checkCount "sorted" 1 1 _) (Ad ?_)
 refine Aa (collect_list hl ?_ (by rw[Cc];lia))
 refine Aa (wpAny_newList ?_ (by rw[Cc];lia))
 have hsz:((s.heap.push (seqObj "list" #[] 0)).update s.heap.objs.size (Obj.mapSeq (· ++vs.toArray))).objs.size=s.heap.objs.size+1:=by
  rw[Heap.size_update,size_push']
 have hoL:(((s.heap.push (seqObj "list" #[] 0)).update s.heap.objs.size (Obj.mapSeq (· ++vs.toArray))).push (seqObj "list" vs.toArray 0)).get? (s.heap.objs.size+1)=some (seqObj "list" vs.toArray 0):=by
  rw[<-hsz];exact Bf _ rfl
 have keep:∀b o,s.heap.get? b=some o->b≠s.heap.objs.size+1/\(((s.heap.push (seqObj "list" #[] 0)).update s.heap.objs.size (Obj.mapSeq (· ++vs.toArray))).push (seqObj "list" vs.toArray 0)).get? b=some o:=fun b o q=>by
  have hlt:b<s.heap.objs.size:=Ai q
  refine⟨Av (Eb hlt),?_⟩
  rw[Heap.get?_push_ne _ _ _ (by rw[hsz];exact Av (Eb hlt)),Heap.get?_update_ne _ _ _ _ (Av hlt),Heap.get?_push_ne _ _ _ (Av hlt)]
  exact q
 show wpAny _ _ _ _ _ {s with heap:=((s.heap.push (seqObj "list" #[] 0)).update s.heap.objs.size (Obj.mapSeq (· ++vs.toArray))).push (seqObj "list" vs.toArray 0)}
 rw[hsz]
 refine Aa (Bt (Ca slot_list_sort ⟨_,hoL,rfl⟩ entry_list_sort ?body (args_list_sort _)))
 case body=>
  refine RV (s:={s with heap:=((s.heap.push (seqObj "list" #[] 0)).update s.heap.objs.size (Obj.mapSeq (· ++vs.toArray))).push (seqObj "list" vs.toArray 0)}) O f κ0 hoL h64
   (fun h6 Q' k6 h2 q=>hkind h6 Q' (fun b o e=>k6 b o (keep b o e).1 (keep b o e).2) h2 q) (fun h6 i j C k6 hi hj hC=>hask h6 i j C (fun b o e=>k6 b o (keep b o e).1 (keep b o e).2) hi hj hC) fun p Pp Up=>⟨_,rfl,?_⟩
  exact Ad ⟨_,rfl,h p Pp Up⟩
end
def RX {α:Type} (l:List α) (d:α):(List.range l.length).map (fun i=>l.getD i d)=l:=by
 apply Dy
 .simp
 .intro i h1 h2
  simp[h2]
section
variable {X:Cx}
theorem Paired.mapL {α β γ:Type} {F:α->β->Prop} {f:γ->α} {g:γ->β}:∀{l:List γ},(∀c∈l,F (f c) (g c))->Paired F (l.map f) (l.map g)
 | [],_=>.nil
 |c::l,h=>.cons (h c Ak) (Paired.mapL fun d hd=>h d (Ap _ hd))
end
def Itz (K:FG) (a b:Addr):It:=
 ⟨fun i H=> ∃(xs ys:List V) (x y:V),SqL K H a xs/\SqL K H b ys/\xs[i]? =some x/\ys[i]? =some y,
  fun i H v H'=> ∃(T:Addr) (x y:V),v=.ref T/\H T=none/\H'=zk H T (.tup [x,y])/\(∀xs,SqL K H a xs->xs[i]? =some x)/\∀ys,SqL K H b ys->ys[i]? =some y,
  fun i H=> ∃xs ys,SqL K H a xs/\SqL K H b ys/\(xs.length<=i\/ys.length<=i)⟩
def RY (z TI TO i1 i2 a b:Addr) (i:Nat) (h:Heap):Prop:=
 IsZip h z TI TO .none/\IsPair h TI (.ref i1) (.ref i2)/\(∃u v,IsPair h TO u v)/\h.IsListIter i1 a i/\h.IsListIter i2 b i
def RZ {P:Program} {w:World} {K:FG} {elts:List Expr} {x1} {tp:Pos} {z TI TO i1 i2 a b:Addr} (D:ZipApart z TI TO i1 i2 a b):
  Turn P w K (.Tuple elts x1 tp) (Itz K a b) [z,TI,TO,i1,i2] z (RY z TI TO i1 i2 a b) where
 mem:=by simp
 obj:=fun i h st c hc=>by
  obtain⟨hz,hTI,⟨u,v,hTO⟩,⟨o1,e1,_,d1⟩,⟨o2,e2,_,d2⟩⟩:=st;simp only[Ag,By,Bp]at hc
  rcases hc with rfl|rfl|rfl|rfl|rfl
  .exact⟨_,hz,fun v e=>by cases e⟩
  .exact⟨_,hTI,fun v e=>by cases e⟩
  .exact⟨_,hTO,fun v e=>by cases e⟩
  .exact⟨_,e1,fun v e=>by rw[d1]at e;cases e⟩
  .exact⟨_,e2,fun v e=>by rw[d2]at e;cases e⟩
 keep:=fun i h h' st k=>by
  obtain⟨hz,hTI,⟨u,v,hTO⟩,h1,h2⟩:=st;exact⟨k z (by simp) _ hz,k TI (by simp) _ hTI,⟨u,v,k TO (by simp) _ hTO⟩,h1.at fun o e=>k i1 (by simp) o e,h2.at fun o e=>k i2 (by simp) o e⟩
 item:=fun X hp hw hK hc i pins s σ H E I fp st go=>by
  subst hp hw hK;obtain⟨hz,hTI,⟨u,v,hTO⟩,h1,h2⟩:=st;obtain⟨xs,ys,x,y,qa,qb,ex,ey⟩:=go;obtain⟨vs,rv,pv,_⟩:=I.list qa;obtain⟨us,ru,pu,_⟩:=I.list qb;obtain⟨vx,evx,rvx⟩:=rv.get ex;obtain⟨uy,euy,ruy⟩:=ru.get ey
  refine wpAny_pyNext_zip_item D hz hTI hTO h1 h2 pv.isList pu.isList (x:=vx) (y:=uy) (by simpa using evx) (by simpa using euy) fun h' a1 a2 a3 a4 a5 a6 hk=>?_
  refine⟨_,rfl,wpAny_letOwnedTupleGo_zip a1 fun h'' b1 b2=>?_⟩
  have nz:s.heap.objs.size≠z:=C8 (Ai hz);have k2:∀c o,c∉[z,TO,i1,i2]->s.heap.get? c=some o->h''.get? c=some o:=fun c o hcn e=>by
   simp only[Ag,By,Bp,not_or]at hcn;exact b2.extBut _ _ hcn.1 (hk c o hcn.1 hcn.2.1 hcn.2.2.1 hcn.2.2.2 e)
  have I':Inv X pins σ (zk H s.heap.objs.size (.tup [x,y])) {s with heap:=h'',toks:=s.toks}:=
   I.turnLay (ch:=[z,TO,i1,i2]) k2 (fun c hcn=>fp c (by simp only[Ag,By,Bp]at hcn ⊢;rcases hcn with h|h|h|h<;>simp[h])) (Af _)
    ⟨by show 2<=sizeLine;decide,[vx,uy],.cons rvx (.cons ruy .nil),⟨_,b2.extBut _ _ nz a5,rfl,_,rfl⟩⟩
  have nf:H s.heap.objs.size=none:=I.hok.fresh (Af _)
  refine⟨.ref s.heap.objs.size,_,I',rfl,⟨_,x,y,rfl,nf,rfl,fun xs' q=>?_,fun ys' q=>?_⟩,⟨b1,b2.extBut _ _ D.TIz (hk _ _ D.TIz D.TITO D.TIi1 D.TIi2 hTI),⟨_,_,b2.extBut _ _ D.TOz a2⟩,a3.extBut b2.extBut D.i1z,a4.extBut b2.extBut D.i2z⟩,fun c hcn=>?_⟩
  .rw[I.list_inj q qa];exact ex
  .rw[I.list_inj q qb];exact ey
  .have hc1:=fp c hcn
   have:c≠s.heap.objs.size:=by
    have hlt:c<s.heap.objs.size:=by
     simp only[Ag,By,Bp]at hcn
     rcases hcn with rfl|rfl|rfl|rfl|rfl
     .exact Ai hz
     .exact Ai hTI
     .exact Ai hTO
     .obtain⟨_,e,_⟩:=h1;exact Ai e
     .obtain⟨_,e,_⟩:=h2;exact Ai e
    exact Av hlt
   rw[zQ this];exact hc1.1
 done:=fun X hp hw hK hc i pins s σ H E I fp st stop=>by
  subst hp hw hK;obtain⟨hz,hTI,⟨u,v,hTO⟩,h1,h2⟩:=st;obtain⟨xs,ys,qa,qb,hend⟩:=stop;obtain⟨vs,rv,pv,_⟩:=I.list qa;obtain⟨us,ru,pu,_⟩:=I.list qb;have l1:=rv.length;have l2:=ru.length
  refine wpAny_pyNext_zip_end (I.ok.hd hc) D hz hTI hTO h1 h2 pv.isList pu.isList ?_ fun h' hk=>⟨rfl,?_⟩
  .rcases hend with h|h
   .exact .inl (by rw[Gh,Am];lia)
   .exact .inr (by rw[Gh,Am];lia)
  .refine I.turnedL (ch:=[z,TO,i1,i2]) (t':=s.toks) (fun c o hcn e=>?_) (fun c hcn=>fp c (by simp only[Ag,By,Bp]at hcn ⊢;rcases hcn with h|h|h|h<;>simp[h]))
   simp only[Ag,By,Bp,not_or]at hcn;exact hk c o hcn.1 hcn.2.1 hcn.2.2.1 hcn.2.2.2 e
 self:=fun A i s Q E st h=>wpAny_pyIter_zip st.1 h
def iZip (K:FG) (ta:TA):TI:=fun σ H R=>ta σ H fun vs H1=> ∃(a b:Addr) (xs ys:List V),vs=[.ref a,.ref b]/\SqL K H1 a xs/\SqL K H1 b ys/\R (Itz K a b) H1
def Sa {X:Cx} {elts:List Expr} {x1} {tp:Pos} {e1 e2:Expr} {ta:TA} {p pos:Pos} (hg:Gl X "zip") (hm:X.mg "zip" =none) (ha:PA X [e1,e2] ta) (hs:starEach [e1,e2] X.env=[(false,eval e1 X.env),(false,eval e2 X.env)]:=by rfl) (hs2:starEach [e2] X.env=[(false,eval e2 X.env)]:=by rfl):
  PI X (.Tuple elts x1 tp) (.Call (.Name "zip" p) [e1,e2] [] pos) (iZip X.K ta):=by
 intro pins s σ H R I h
 refine Call_ (BL I hg hm (by rfl) (El (thn (ha pos pins s σ H _ I h) fun us s1 ⟨vs,H1,I1,r1,q1⟩=>?_) (by rw[hs,hs2]) (by rw[hs2];rfl)))
 obtain⟨a,b,xs,ys,rfl,qa,qb,q⟩:=q1;obtain⟨u,v,rfl,ru,rv⟩:=GW r1;cases ru;cases rv;obtain⟨vs,rva,pa,_⟩:=I1.list qa;obtain⟨us,rvb,pb,_⟩:=I1.list qb;have la:a<s1.heap.objs.size:=by obtain⟨o,n,e,_⟩:=pa;exact Ai e
 have lb:b<s1.heap.objs.size:=by obtain⟨o,n,e,_⟩:=pb;exact Ai e
 refine call_zip_2 pa.isList pb.isList fun h' hz hTI hTO hi1 hi2 hsz hk=>?_
 refine wpAny_pyIter_zip hz ?_
 have I2:Inv X pins σ H1 {s1 with heap:=h'}:=I1.kept (t':=s1.toks) hk
 refine⟨_,[s1.heap.objs.size+4,s1.heap.objs.size+2,s1.heap.objs.size+3,s1.heap.objs.size,s1.heap.objs.size+1],_,_,H1,rfl,I2,RZ (zipApart_new la lb),⟨hz,hTI,⟨_,_,hTO⟩,hi1,hi2⟩,fun c hc=>?_,q⟩
 have hge:s1.heap.objs.size<=c:=by
  simp only[Ag,By,Bp]at hc
  rcases hc with rfl|rfl|rfl|rfl|rfl
  all_goals first|exact Af _|exact Nat.le_add_right _ _
 exact I1.fpOk hge (I1.hok.fresh hge)
noncomputable def Mh (sc:Scope) (N loc free:List Str) (fr:List Nat) (scope:Scope):Bool:=
 decide (scope.kind=.function) && scope.names.all (fun y=>decide (y.2≠ .cell)) && scope.names.all (fun y=>decide (y.2≠ .local) || decide (scope.names.lookup y.1=some .local)) &&
 scope.names.all (fun y=>decide (y.2≠ .free) || (decide (sc.names.lookup y.1=some .cell) || decide (sc.names.lookup y.1=some .free))) && decide (fr.length=free.length) &&
 (List.range fr.length).all fun i=>match fr[i]?,free[i]? with
  |some j,some x=>decide (N[j]? =some x) && decide (scope.names.lookup x=some .free)
  |_,_=>true
def qB {X:Cx} {sc:Scope} {N loc free:List Str} {fr:List Nat} {scope:Scope} (e1:X.env.scope=sc) (e2:X.N=N) (h:Mh sc N loc free fr scope=true):CompScope X loc free fr scope:=by
 unfold Mh at h;simp only[Bi,Eo,Bool.or_eq_true,Cr]at h;obtain⟨⟨⟨⟨⟨h1,h2⟩,h3⟩,h4⟩,h5⟩,h6⟩:=h
 refine⟨h1,fun y hy=>h2 y hy,fun y hy hl=>(h3 y hy).elim (fun z=>absurd hl z) id,fun y hy hf=>?_,fun i j x a b=>?_,h5⟩
 .show X.env.scope.names.lookup y.1=some .cell\/X.env.scope.names.lookup y.1=some .free
  rw[e1];exact (h4 y hy).elim (fun z=>absurd hf z) id
 .have hi:i<fr.length:=(An.mp a).1
  have:=h6 i (Ay.mpr hi);rw[a,b]at this;simp only[Bi,Cr]at this;rw[e2];exact this
def pgc {X:Cx} {x:Str} {pos:Pos} (i:Nat) (N:List Str) (nd:N.Nodup) (eN:X.N=N) (hi:N[i]? =some x) (hx:jD X.env.scope x) (hl:X.env.scope.names.lookup x=some .local):PG X (.Name x pos) (EF i):=
 IB (eN ▸ nd) (by rw[eN];exact hi) hx (.inr hl)
structure Dfn (K:FG) (mg:Str->Option Value) (x:Str) (st:Stmt) (ps:List Str) (f:Addr) (fd:FuncData):Prop where
 F:Fun K x x st f fd
 b:Binds K fd ps []
 g:mg x=some (.ref f)
structure DfnM (K:FG) (x qual:Str) (st:Stmt) (ps:List Str) (f:Addr) (fd:FuncData):Prop where
 F:Fun K x qual st f fd
 b:Binds K fd ps []
section
variable {X:Cx} {K:FG}
def pgT {pos:Pos} {es:List Expr} {k:Nat} {t:jI} (n:Nat) (hK:X.K=K) (hc:X.calm=true) (h:jg X es t) (hn:(assignEach es X.env).length=n:=by rfl) (hst:(assignEach es X.env).findIdx? (·.1)=none:=by rfl):PG X (.Tuple es k pos) (gTup K n t):=by
 subst hK;exact jL hc h hn hst
end
end L2
namespace L2
open PySem PySem.Spec PyProof.Rows
section
variable {P:Program} {w:World} {h h':Heap}
def yI (P:Program) (w:World) (h:Heap):MK->Value->Prop
 |.one k,u=>(yr P w).is k u=true
 |.tup ks,u=> ∃b,u=.ref b/\IsTupleKey (yr P w) h ks b
def IT {k:zM} {u:Value} (q:yI P w h (.one k) u):carriedByValue u=true:=(yr P w).byValue k u q
def Mi:∀{x y:MK} {u:Value},yI P w h x u->yI P w h y u->x=y
 |.one a,.one b,_,p,q=>by rw[(yr P w).inj _ _ _ p q]
 |.tup a,.tup b,_,⟨c,e,p⟩,⟨d,e',q⟩=>by subst e;cases e';rw[p.inj q]
 |.one a,.tup b,_,p,⟨c,e,_⟩=>by subst e;have:=IT (h:=h) p;cases this
 |.tup a,.one b,_,⟨c,e,_⟩,p=>by subst e;have:=IT (h:=h) p;cases this
def IU {d:Addr} {o:Obj} {es ep} (ho:h.get? d=some o) (hd:o.data=.dict es ep) (hs:Heap.SameBut d h h'):∀{k:MK} {u:Value},yI P w h k u->yI P w h' k u
 |.one _,_,q=>q
 |.tup _,_,⟨b,e,q⟩=>⟨b,e,q.keeps ho hd hs⟩
end
section
variable {P:Program} {w:World} {A:Around} {E:VP} {s:Shared}
def Mj {u:Value} {Q:Int->Shared->Prop} (hu:A.units<cLine):∀{k:MK},yI P w s.heap k u->(∀t,Q (k.hash P w) {s with toks:=t})->wpAny (model P w) A (pyHash u) Q E s
 |.one k,q,f=>(yr P w).pyHash q (f _)
 |.tup ks,⟨b,e,q⟩,f=>by subst e;exact wpAny_pyHash_tuple hu q (f _)
def Ml {ks:List zM} {b:Addr} (q:IsTupleKey (yr P w) s.heap ks b):∃its,s.heap.IsTuple b its:=by
 obtain⟨o,its,n,h1,h2,h3,_⟩:=q;exact⟨its,o,h1,h2,n,h3⟩
def Mm {u v:Value} {Q:Bool->Shared->Prop} (hu:A.units<cLine):∀{x y:MK},yI P w s.heap x u->yI P w s.heap y v->Q (decide (x=y)) s->wpAny (model P w) A (eqBool u v) Q E s
 |.one a,.one b,p,q,f=>(yr P w).eqBool p q (by rw[show decide (a=b)=decide (MK.one a=MK.one b) by simp];exact f)
 |.tup a,.tup b,⟨c,e,p⟩,⟨d,e',q⟩,f=>by
  subst e e';exact wpAny_eqBool_tuple hu p q (by rw[show decide (a=b)=decide (MK.tup a=MK.tup b) by simp];exact f)
 |.one a,.tup b,p,⟨c,e,q⟩,f=>by
  subst e;obtain⟨its,q⟩:=Ml q;have f:Q false s:=by simpa using f
  rcases qR (show jx a u=true from p) with ⟨i,t,rfl,rfl⟩|⟨i,t,rfl,rfl⟩
  .exact SeqAt.EqAt.int_tuple i t q hu _ _ _ _ f
  .exact SeqAt.EqAt.str_tuple i t q hu _ _ _ _ f
 |.tup a,.one b,⟨c,e,q⟩,p,f=>by
  subst e;obtain⟨its,q⟩:=Ml q;have f:Q false s:=by simpa using f
  rcases qR (show jx b v=true from p) with ⟨i,t,rfl,rfl⟩|⟨i,t,rfl,rfl⟩
  .exact SeqAt.EqAt.tuple_int i t q hu _ _ _ _ f
  .exact SeqAt.EqAt.tuple_str i t q hu _ _ _ _ f
def Mn {u:Value} {Q:Bool->Shared->Prop}:∀{k:MK},yI P w s.heap k u->Q true s->wpAny (model P w) A (eqIsQuiet 8 u) Q E s
 |.one k,q,f=>by rw[eqIsQuiet_byValue 8 (IT (h:=s.heap) q)];exact Ad f
 |.tup ks,⟨b,e,q⟩,f=>by subst e;exact wpAny_eqIsQuiet_tuple q f
def Sb {u:Value} {k:MK} {st:List Value} {Q:Bool->Shared->Prop} (q:yI P w s.heap k u) (hst:∀v∈st,∃k',yI P w s.heap k' v) (f:Q false s):wpAny (model P w) A (tableMayTell u st) Q E s:=by
 unfold tableMayTell
 split
 .exact Ad f
 .refine Aa (Mn q ?_)
  simp only[Di,Ck,Bv]
  refine Aa ?_
  refine wpAny_forIn_list _ (fun rest r t=>t=s/\r=(none,())/\∀v∈rest,∃k',yI P w s.heap k' v) _ ?_ ?_ _ _ ⟨rfl,rfl,hst⟩
  .rintro x rest r t ⟨rfl,rfl,hr⟩
   obtain⟨k',hb⟩:=hr x Ak
   refine Aa (Mn hb ?_)
   simp only[Di,Ck,Bv];exact Ad ⟨rfl,rfl,fun v hv=>hr v (Ap _ hv)⟩
  .rintro r t ⟨rfl,rfl,_⟩
   exact Ad f
end
abbrev Tr:=List (MK×Value×Value)
noncomputable def z8 (xs:Tr) (k:MK):Option Value:=(xs.find? fun x=>decide (x.1=k)).map (·.2.2)
def BP (xs:Tr) (k:MK) (u v:Value):Tr:=if (z8 xs k).isSome then xs.map fun x=>if x.1=k then (x.1,x.2.1,v) else x else xs++[(k,u,v)]
def DictM (P:Program) (w:World) (h:Heap) (d:Addr) (xs:Tr):Prop:=
 ∃o es ep,h.get? d=some o/\o.ExactDict/\o.data=.dict es ep/\es.toList=xs.map (yq P w)/\((xs.map (·.1)).Nodup/\ep=xs.length)/\∀x∈xs,yI P w h x.1 x.2.1
def Mo {xs:Tr} (hn:(xs.map (·.1)).Nodup) {i j:Nat} {k:MK} {p q:Value×Value} (hi:xs[i]? =some (k,p)) (hj:xs[j]? =some (k,q)):i=j:=by
 have a:(xs.map (·.1))[i]? =some k:=by rw[Az,hi];rfl
 have b:(xs.map (·.1))[j]? =some k:=by rw[Az,hj];rfl
 exact (List.getElem?_inj (An.mp a).1 hn).mp (a.trans b.symm)
def Mp {xs:Tr} (hn:(xs.map (·.1)).Nodup) {i:Nat} {k:MK} {p:Value×Value} (hi:xs[i]? =some (k,p)):z8 xs k=some p.2:=by
 unfold z8;cases e:xs.find? (fun x=>decide (x.1=k)) with
 |none=>have:=List.find?_eq_none.mp e _ (Al hi);simp at this
 |some y=>
  have hk:=List.find?_some e
  have hk:y.1=k:=by simpa using hk
  obtain⟨j,hj⟩:=Ff.mp (List.mem_of_find?_eq_some e)
  obtain⟨y1,y2⟩:=y;have hk:y1=k:=hk;subst hk;have:=Mo hn hi hj;subst this;rw[hi]at hj;cases hj;rfl
def Mq {xs:Tr} {k:MK} (hi:∀(i:Nat) (p:Value×Value),xs[i]? ≠some (k,p)):z8 xs k=none:=by
 unfold z8;cases e:xs.find? (fun x=>decide (x.1=k)) with
 |none=>rfl
 |some y=>
  have hk:=List.find?_some e
  have hk:y.1=k:=by simpa using hk
  obtain⟨j,hj⟩:=Ff.mp (List.mem_of_find?_eq_some e)
  obtain⟨y1,y2⟩:=y;have hk:y1=k:=hk;subst hk;exact absurd hj (hi j y2)
section
variable {P:Program} {w:World} {A:Around} {E:VP} {s:Shared} {d:Addr} {o:Obj} {es:Array DictEntry} {ep:Nat} {xs:Tr} {k:MK} {u:Value}
def Hg (he:es.toList=xs.map (yq P w)) (j:Nat):es[j]? =(xs[j]?).map (yq P w):=by rw[<-Bo,he,Az]
def ER (he:es.toList=xs.map (yq P w)):es.size=xs.length:=by rw[<-Bz,he,Ae]
def mem_places {n:Nat} {f:Nat->Option Int} {c:Int} {i:Nat}:i∈placesWithHash n f c↔i<n/\f i=some c:=by
 unfold placesWithHash;rw[Br,Ay];simp
def Sd {n:Nat} {f:Nat->Option Int} {c:Int}:(placesWithHash n f c).Nodup:=Gi _ List.nodup_range
def Mr {Q:Option Nat->Shared->Prop} (hu:A.units<cLine) (hk:yI P w s.heap k u) (ho:s.heap.get? d=some o) (hd:o.data=.dict es ep) (he:es.toList=xs.map (yq P w)) (hn:(xs.map (·.1)).Nodup) (hx:∀x∈xs,yI P w s.heap x.1 x.2.1)
  (h0:(∀(j:Nat) (p:Value×Value),xs[j]? ≠some (k,p))->Q none s) (h1:∀(j:Nat) (p:Value×Value),xs[j]? =some (k,p)->Q (some j) s):
  wpAny (model P w) A (dictFind d u (k.hash P w)) Q E s:=by
 have at_:∀i,i<es.size->∃k' u' v',xs[i]? =some (k',u',v')/\es[i]? =some ⟨k'.hash P w,u',v'⟩/\yI P w s.heap k' u':=fun i hi=>by
  have hi':i<xs.length:=by rw[<-ER he];exact hi
  refine⟨xs[i].1,xs[i].2.1,xs[i].2.2,by rw[zI hi'],?_,hx _ (Db hi')⟩
  rw[Hg he,zI hi'];rfl
 have pl:∀(j:Nat) (p:Value×Value),xs[j]? =some (k,p)->j∈placesWithHash es.size (fun i=>es[i]?.map (·.hash)) (k.hash P w):=fun j p hj=>by
  refine mem_places.mpr ⟨by rw[ER he];exact (An.mp hj).1,?_⟩
  rw[Hg he,hj];rfl
 have hst:∀v∈(placesWithHash es.size (fun i=>es[i]?.map (·.hash)) (k.hash P w)).filterMap (fun i=>es[i]?.map (·.key)),∃k',yI P w s.heap k' v:=fun v hv=>by
  obtain⟨i,hi,e⟩:=D5.mp hv;obtain⟨k',u',v',_,e2,e3⟩:=at_ i (mem_places.mp hi).1;rw[e2]at e;cases e;exact⟨k',e3⟩
 by_cases flat:(∀x∈xs,∃k',x.1=.one k')/\∃k',k=.one k'
 ·
  obtain⟨fl,k',rfl⟩:=flat;have hks:KeysOf (yr P w) es:=fun e hin=>by
   obtain⟨i,hi,e1⟩:=Array.mem_iff_getElem.mp hin;obtain⟨k2,u2,v2,e2,e3,e4⟩:=at_ i hi;obtain⟨k3,e5⟩:=fl _ (Al e2);have e5:k2=.one k3:=e5;subst e5;rw[Bm hi,e1]at e3;cases e3;exact⟨k3,e4,rfl⟩
  refine wpAny_dictFind_of (knd:=yr P w) (k:=k') hk ho hd hks ?_
  cases e:es.findIdx? (fun e=>(yr P w).is k' e.key) with
  |none=>
   refine h0 fun j p hj=>?_
   have hj':j<es.size:=by rw[ER he];exact (An.mp hj).1
   have:=Array.findIdx?_eq_none_iff.mp e (es[j]) (Array.getElem_mem hj')
   have e6:=Hg he j;rw[hj,Bm hj']at e6;rw[Option.some.inj e6]at this;have q:=hx _ (Al hj);have q:(yr P w).is k' p.1=true:=q;have this:(yr P w).is k' p.1=false:=by simpa[yq] using this
   rw[q]at this;cases this
  |some j=>
   obtain⟨hj,e7,_⟩:=Array.findIdx?_eq_some_iff_getElem.mp e
   obtain⟨k2,u2,v2,e2,e3,e4⟩:=at_ j hj;rw[Bm hj]at e3;rw[Option.some.inj e3]at e7;have e8:yI P w s.heap (.one k') u2:=e7;have:=Mi e4 e8;subst this;exact h1 j _ e2
 .unfold dictFind
  refine Bt (Aa (Ep ho hd ?_))
  dsimp only;have notStrs:∀x t,u=.str x t->¬(es.all fun e=>isExactStrKey e.key)=true:=fun x t eu hall=>by
   subst eu
   refine flat ⟨fun y hy=>?_,?_⟩
   .obtain⟨i,hi⟩:=Ff.mp hy
    have hi':i<es.size:=by rw[ER he];exact (An.mp hi).1
    obtain⟨k2,u2,v2,e2,e3,e4⟩:=at_ i hi';rw[hi]at e2;cases e2;cases k2 with
    |one k3=>exact⟨k3,rfl⟩
    |tup ks=>
     obtain⟨b,rfl,_⟩:=e4;rw[<-Array.all_toList,Eo]at hall;have:=hall _ (Fa.mpr (Array.mem_of_getElem? e3));cases this
   .cases k with
    |one k3=>exact⟨k3,rfl⟩
    |tup ks=>obtain⟨b,e,_⟩:=hk;cases e
  have plain:wpAny (model P w) A (dictWalkPlain d u (k.hash P w) es (placesWithHash es.size (fun i=>es[i]?.map (·.hash)) (k.hash P w))) Q E s:=by
   unfold dictWalkPlain
   refine Aa ?_
   refine wpAny_forIn_list _ (fun rest b t=>t=s/\b=(none,())/\∃dn,placesWithHash es.size (fun i=>es[i]?.map (·.hash)) (k.hash P w)=dn++rest/\∀j∈dn,∀p,xs[j]? ≠some (k,p)) _ ?_ ?_ _ _ ⟨rfl,rfl,[],rfl,fun j hj=>nomatch hj⟩
   .rintro x rest b t ⟨rfl,rfl,dn,e,hdn⟩
    have hx':x∈placesWithHash es.size (fun i=>es[i]?.map (·.hash)) (k.hash P w):=by rw[e];simp
    obtain⟨a1,a2⟩:=mem_places.mp hx';obtain⟨k2,u2,v2,e2,e3,e4⟩:=at_ x a1;rw[e3]at a2;have a2:k2.hash P w=k.hash P w:=Option.some.inj a2;rw[e3];dsimp only;rw[Ab (by simpa using a2)]
    refine Aa (Dz ho hd (Aa (Mm hu e4 hk (Aa (Dz ho hd ?_)))))
    rw[Ac (by simp)]
    by_cases hkk:k2=k
    .rw[B2 hkk]
     subst hkk;simp only[Bw];exact Aa (Cs (Ad (Ad (h1 x _ e2))))
    .rw[Bh hkk]
     simp only[Ck,Bv]
     refine Aa (Cs (Ad ⟨rfl,rfl,dn++[x],by rw[e];simp,fun j hj p=>?_⟩))
     rcases As.mp hj with hj|hj
     .exact hdn j hj p
     .rw[Ao.mp hj,e2]
      intro z;cases z;exact hkk rfl
   .rintro b t ⟨rfl,rfl,dn,e,hdn⟩
    rw[B1]at e;exact Ad (h0 fun j p hj=>hdn j (by rw[<-e];exact pl j p hj) p hj)
  have hany:∀b,u=.ref b->¬(es.any fun e=>e.key==u && e.hash !=k.hash P w)=true:=fun b eb hq=>by
   rw[<-Array.any_toList,Dh]at hq;obtain⟨e,hin,hc⟩:=hq;obtain⟨i,hi,e1⟩:=Array.mem_iff_getElem.mp (Fa.mp hin);obtain⟨k2,u2,v2,e2,e3,e4⟩:=at_ i hi;rw[Bm hi,e1]at e3;cases e3;simp only[Bi,Cy,bne_iff_ne,ne_eq]at hc;obtain⟨c1,c2⟩:=hc;subst c1;exact c2 (by rw[Mi e4 hk])
  have hcase:(∃i t,u=.int i t)\/(∃x t,u=.str x t)\/∃b,u=.ref b:=by
   cases k with
   |one k3=>
    rcases qR (show jx k3 u=true from hk) with ⟨i,t,rfl,rfl⟩|⟨i,t,rfl,rfl⟩
    .exact .inl ⟨_,_,rfl⟩
    .exact .inr (.inl ⟨_,_,rfl⟩)
   |tup ks=>obtain⟨b,rfl,_⟩:=hk;exact .inr (.inr ⟨b,rfl⟩)
  rcases hcase with ⟨i,t,eu⟩|⟨i,t,eu⟩|⟨b,eu⟩<;>subst eu<;>dsimp only
  case' inr.inl=>rw[Ac (notStrs _ _ rfl)]
  case' inr.inr=>skip
  all_goals refine Dj (fun _=>plain) fun _=>?_
  case' inr.inr=>refine Dj (fun z=>absurd z (hany _ rfl)) fun _=>?_
  all_goals refine Dj (fun _=>?_) fun _=>?_
  all_goals (
    (first|refine Aa (Ad ?_)|refine Aa (Sb hk hst ?_))
    rw[Ac (by simp)]
    refine Aa ?_
    refine wpAny_forIn_list _ (fun rest b t=>t=s/\∃hit,b=(none,hit)/\∃dn,placesWithHash es.size (fun i=>es[i]?.map (·.hash)) (k.hash P w)=dn++rest/\
     ((hit=none/\∀j∈dn,∀p,xs[j]? ≠some (k,p))\/∃j p,hit=some j/\j∈dn/\xs[j]? =some (k,p))) _ ?_ ?_ _ _ ⟨rfl,none,rfl,[],rfl,.inl ⟨rfl,fun j hj=>nomatch hj⟩⟩
    .rintro x rest b t ⟨rfl,hit,rfl,dn,e,hH⟩
     have hx':x∈placesWithHash es.size (fun i=>es[i]?.map (·.hash)) (k.hash P w):=by rw[e];simp
     obtain⟨a1,a2⟩:=mem_places.mp hx';obtain⟨k2,u2,v2,e2,e3,e4⟩:=at_ x a1;rw[e3]at a2;have a2:k2.hash P w=k.hash P w:=Option.some.inj a2;have hnd:= @Sd es.size (fun i=>es[i]?.map (·.hash)) (k.hash P w)
     rw[e]at hnd;rw[e3];dsimp only;rw[Ab (by simpa using a2)]
     refine Aa (Dz ho hd (Aa (Mm hu e4 hk (Aa (Dz ho hd ?_)))))
     rw[Ac (by simp)]
     by_cases hkk:k2=k
     .rw[B2 hkk]
      subst hkk
      rcases hH with ⟨rfl,_⟩|⟨j,p,_,hj,hjx⟩
      .rw[Ab rfl]
       refine Dj (fun hz=>absurd hz (by simp)) fun _=>?_
       refine Aa (Cs ?_)
       split
       .exact Ad (Ad (h1 x _ e2))
       .exact Ad ⟨rfl,some x,rfl,dn++[x],by rw[e];simp,.inr ⟨x,_,rfl,by simp,e2⟩⟩
      .have z:=Mo hn hjx e2
       subst z;exact absurd hnd (by rw[Cn];intro z;exact z.2.2 j hj j Ak rfl)
     .rw[Bh hkk]
      rw[Ac (by simp)]
      refine Aa (Cs ?_)
      rw[Ac (by simp)]
      refine Ad ⟨rfl,hit,rfl,dn++[x],by rw[e];simp,?_⟩
      rcases hH with ⟨hz,hno⟩|⟨j,p,hz,hj,hjx⟩
      .refine .inl ⟨hz,fun j hj p=>?_⟩
       rcases As.mp hj with hj|hj
       .exact hno j hj p
       .rw[Ao.mp hj,e2]
        intro z;cases z;exact hkk rfl
      .exact .inr ⟨j,p,hz,B8 _ hj,hjx⟩
    .rintro b t ⟨rfl,hit,rfl,dn,e,hH⟩
     rw[B1]at e
     rcases hH with ⟨rfl,hno⟩|⟨j,p,rfl,_,hjx⟩
     .exact Ad (h0 fun j p hj=>hno j (by rw[<-e];exact pl j p hj) p hj)
     .exact Ad (h1 j p hjx))
def Ms {Q:Option Value->Shared->Prop} (hu:A.units<cLine) (hk:yI P w s.heap k u) (hm:DictM P w s.heap d xs) (f:∀t,Q (z8 xs k) {s with toks:=t}):wpAny (model P w) A (dictGet d u) Q E s:=by
 obtain⟨o,es,ep,ho,_,hd,he,⟨hn,_⟩,hx⟩:=hm;unfold dictGet
 refine Bt (Aa (Mj hu hk fun t=>Aa (Mr (s:={s with toks:=t}) hu hk ho hd he hn hx (fun hz=>?_) fun j p hj=>?_)))
 .have f:=f t
  rw[Mq hz]at f;exact Ad f
 .have f:=f t
  rw[Mp hn hj]at f
  refine Aa (Ep (s:={s with toks:=t}) ho hd ?_)
  rw[Hg he j,hj];exact Ad f
theorem Mt {k:MK} {v:Value}:∀{xs:Tr} {j:Nat} {p:Value×Value},(xs.map (·.1)).Nodup->xs[j]? =some (k,p)->(xs.map (yq P w)).modify j (fun e=>{e with val:=v})=(xs.map fun x=>if x.1=k then (x.1,x.2.1,v) else x).map (yq P w)
 | [],_,_,_,hj=>by simp at hj
 |x::r,0,p,hn,hj=>by
  simp only[Ec,Cj]at hj;subst hj;have hn:(k∉r.map (·.1))/\(r.map (·.1)).Nodup:=by simpa using hn
  have e:(r.map fun x=>if x.1=k then (x.1,x.2.1,v) else x)=r:=by
   conv=>rhs;rw[<-List.map_id r]
   refine D0 fun y hy=>?_
   rw[Ac (fun z=>hn.1 (Aj.mpr ⟨y,hy,z⟩))]
   rfl
  simp[e,yq]
 |x::r,j+1,p,hn,hj=>by
  simp only[D1]at hj;have hn:(x.1∉r.map (·.1))/\(r.map (·.1)).Nodup:=by rw[Ah,Bn]at hn;exact hn
  have ne: ¬x.1=k:=fun z=>hn.1 (Aj.mpr ⟨(k,p),Al hj,z.symm⟩)
  simp only[Ah,List.modify_succ_cons,Ac ne,Mt hn.2 hj]
def Sf {v:Value} {Q:Unit->Shared->Prop} (hu:A.units<cLine) (hk:yI P w s.heap k u) (hm:DictM P w s.heap d xs) (hz:xs.length<=sizeLine)
  (f:∀h' t,DictM P w h' d (BP xs k u v)->Heap.SameBut d s.heap h'->Q () {s with heap:=h',toks:=t}):wpAny (model P w) A (dictSet d u v) Q E s:=by
 obtain⟨o,es,ep,ho,hc,hd,he,⟨hn,hep⟩,hx⟩:=hm;unfold dictSet
 refine Bt (Aa (Mj hu hk fun t=>?_))
 unfold dictSetHashed
 refine Bt (Aa (Mr (s:={s with toks:=t}) hu hk ho hd he hn hx (fun hz'=>?_) fun j p hj=>?_))
 .have e0:BP xs k u v=xs++[(k,u,v)]:=by unfold BP;rw[Mq hz'];rfl
  have f:=fun h'=>f h' t
  rw[e0]at f
  refine Aa (Cs (wpAny_updateDictKeys (hz:=by have:=ER he;lia) (s:={s with toks:=t}) ho hd (f _ ⟨_,_,ep+1,Dt _ ho (Obj.isFreed_of_dict (Obj.data_mapDictKeys hd _)),hc.mapDictKeys _,Obj.data_mapDictKeys hd _,?_,?_,?_⟩ (Dd ..))))
  .simp[he,yq]
  .refine⟨?_,by rw[Ar,hep];rfl⟩
   rw[Ax,Cn]
   refine⟨hn,by simp,fun x hx y hy=>?_⟩
   have hy:y=k:=by simpa using hy
   subst hy;intro z;subst z;obtain⟨q,hq,e⟩:=Aj.mp hx;obtain⟨i,hi⟩:=Ff.mp hq;obtain⟨q1,q2⟩:=q;have e:q1=x:=e;subst e;exact hz' i q2 hi
  .intro x hx'
   rcases As.mp hx' with hx' | hx'
   .exact IU ho hd (Dd ..) (hx x hx')
   .rw[Ao.mp hx']
    exact IU ho hd (Dd ..) hk
 .have e0:BP xs k u v=xs.map fun x=>if x.1=k then (x.1,x.2.1,v) else x:=by unfold BP;rw[Mp hn hj];rfl
  have f:=fun h'=>f h' t
  rw[e0]at f
  refine Aa (Cs (Aa (wpAny_updateDict (s:={s with toks:=t}) ho hd (wpAny_point (f _ ⟨_,_,ep,Dt _ ho (Obj.isFreed_of_dict (Obj.data_mapDict hd _)),hc.mapDict _,Obj.data_mapDict hd _,?_,?_,?_⟩ (Dd ..))))))
  .have q:=Mt (P:=P) (w:=w) (v:=v) hn hj
   rw[<-he]at q;obtain⟨l⟩:=es;simpa using q
  .have e1:(xs.map fun x=>if x.1=k then (x.1,x.2.1,v) else x).map (·.1)=xs.map (·.1):=by
    rw[Bg]
    refine D0 fun y _=>?_
    simp only[Function.comp]
    split<;>rfl
   rw[e1];exact⟨hn,by rw[Ae];exact hep⟩
  .intro x hx'
   obtain⟨y,hy,rfl⟩:=Aj.mp hx'
   split<;>exact IU ho hd (Dd ..) (hx y hy)
def DictM.typeIs (hm:DictM P w s.heap d xs):s.TypeIs (.ref d) "dict" :=let ⟨o,_,_,ho,hc,_⟩:=hm;⟨o,ho,hc.1⟩
def Sg {Q:Bool->Shared->Prop} (hu:A.units+1<cLine) (hk:yI P w s.heap k u) (lo:(d==sysModules)=false) (hm:DictM P w s.heap d xs) (f:∀t,Q (z8 xs k).isSome {s with toks:=t}):
  wpAny (model P w) A (contains (.ref d) u) Q E s:=by
 have hT:=hm.typeIs;unfold contains
 refine Bt (Aa (wpAny_specialOf hT slot_dict_contains.lookup ?_))
 refine Dj (fun z=>absurd z (by rw[beq_builtin_none];exact Ba)) fun _=>?_
 refine Aa (wpAny_callSpecialUnlessNone?_slot (name:=Str.ofString "__contains__") hT slot_dict_contains (Ca slot_dict_contains hT entry_dict_contains ?_ (args_dict_contains _ _)))
 show wpAny _ _ (dictGet d u >>=_) _ _ s
 refine Aa (Ms (A:=A.in1) hu hk hm fun t=>?_)
 have f:=f t;cases hf:z8 xs k with
 |some v=>
  rw[hf]at f;show wpAny _ _ (ret (.bool true)) _ _ _;exact Ad ⟨_,rfl,Cg f⟩
 |none=>
  rw[hf]at f;show wpAny _ _ (Builtin.Dict.pendingKey? d u >>=_) _ _ _;exact Aa (wpAny_pendingKey_other lo (Ad ⟨_,rfl,Cg f⟩))
def Sh {Q:VP} (hu:A.units+1<cLine) (hk:yI P w s.heap k u) (lo:(d==sysModules)=false) (hm:DictM P w s.heap d xs) (f:∀t,Q (.bool (!(z8 xs k).isSome)) {s with toks:=t}):
  wpAny (model P w) A (compareOp .NotIn u (.ref d)) Q E s:=by
 show wpAny _ _ (do return .bool (!(<-contains (.ref d) u))) Q E s
 exact Aa (Sg hu hk lo hm fun t=>Ad (f t))
def Si {v:Value} {Q:VP} (hu:A.units+1<cLine) (hk:yI P w s.heap k u) (hm:DictM P w s.heap d xs) (hv:z8 xs k=some v) (f:∀t,Q v {s with toks:=t}):wpAny (model P w) A (getItem (.ref d) u) Q E s:=by
 have hT:=hm.typeIs;unfold getItem
 refine Bt (Aa (wpAny_sequenceKey hT (by decide) ?_))
 refine Aa (Ds (name:=Str.ofString "__getitem__") hT slot_dict_getitem (Ca slot_dict_getitem hT entry_dict_getitem ?_ (args_dict_getitem _ _)))
 show wpAny _ _ (dictGet d u >>=_) _ _ s
 refine Aa (Ms (A:=A.in1) hu hk hm fun t=>?_)
 rw[hv];exact Ad ⟨v,rfl,Ad (f t)⟩
def Sj {v:Value} {Q:Unit->Shared->Prop} (hu:A.units+1<cLine) (hk:yI P w s.heap k u) (hm:DictM P w s.heap d xs) (hz:xs.length<=sizeLine)
  (f:∀h' t,DictM P w h' d (BP xs k u v)->Heap.SameBut d s.heap h'->Q () {s with heap:=h',toks:=t}):wpAny (model P w) A (setItem (.ref d) u v) Q E s:=by
 have hT:=hm.typeIs;unfold setItem
 refine Bt (Aa (wpAny_sequenceKey hT (by decide) ?_))
 refine Aa (Ds (name:=Str.ofString "__setitem__") hT slot_dict_setitem (Ca slot_dict_setitem hT entry_dict_setitem ?_ (args_dict_setitem _ _ _)))
 show wpAny _ _ (Builtin.Dict.notOrdered "__setitem__" ⟨[.ref d,u,v],[]⟩ >>=_) _ _ s
 refine Aa (wpAny_notOrdered_dict hT ?_)
 show wpAny _ _ (dictSet d u v >>=_) _ _ s;exact Aa (Sf (A:=A.in1) hu hk hm hz fun h' t a b=>Ad ⟨.none,rfl,Ad (f h' t a b)⟩)
end
section
variable {κ:Type} [DecidableEq κ]
noncomputable def yc (kvs:List (κ×V)) (k:κ):Option V:=(kvs.find? fun kv=>decide (kv.1=k)).map (·.2)
noncomputable def yi (kvs:List (κ×V)) (k:κ) (v:V):List (κ×V):=
 if (kvs.any fun kv=>decide (kv.1=k))=true then kvs.map (fun kv=>if kv.1=k then (kv.1,v) else kv) else kvs++[(k,v)]
def IV {p:κ×V} {r:List (κ×V)} {k:κ} (e:p.1=k):yc (p::r) k=some p.2:=by simp[yc,Dk,e]
def IW {p:κ×V} {r:List (κ×V)} {k:κ} (e: ¬p.1=k):yc (p::r) k=yc r k:=by simp[yc,Dk,e]
theorem Mu (k:κ):∀kvs:List (κ×V),(kvs.any fun kv=>decide (kv.1=k))=(yc kvs k).isSome
 | []=>rfl
 |p::r=>by
  rw[List.any_cons]
  by_cases e:p.1=k
  .simp only[IV e,B2 e,Ed,Option.isSome_some]
  .rw[IW e,Bh e,Bool.false_or];exact Mu k r
def Mv (kvs:List (κ×V)) (k:κ) (v:V):(yi kvs k v).length<=kvs.length+1:=by
 unfold yi
 split
 .rw[Ae];lia
 .rw[Ar,Bb,Ee];lia
def RelO.isSome_eq {o:Option V} {u:Option Value} (r:RelO o u):o.isSome=u.isSome:=by
 cases o with
 |none=>cases u with
  |none=>rfl
  |some _=>exact (show False from r).elim
 |some _=>cases u with
  |none=>exact (show False from r).elim
  |some _=>rfl
def KV.val {kvs:List (κ×V)} {vs:List (κ×Value)} (r:KV kvs vs) (k:κ):RelO (yc kvs k) (valueAt vs k):=by
 unfold KV at r
 induction r with
 |nil=>exact True.intro
 | @cons p q ps qs h t ih=>
  obtain⟨h1,h2⟩:=h
  by_cases e:p.1=k
  .have e':q.1=k:=h1.symm.trans e
   have b:valueAt (q::qs) k=some q.2:=by simp[valueAt,Dk,e']
   rw[IV e,b];exact h2
  .have e': ¬q.1=k:=fun z=>e (h1.trans z)
   have b:valueAt (q::qs) k=valueAt qs k:=by simp[valueAt,Dk,e']
   rw[IW e,b];exact ih
theorem KV.any {kvs:List (κ×V)} {vs:List (κ×Value)} (r:KV kvs vs) (k:κ):(kvs.any fun kv=>decide (kv.1=k))=vs.any fun kv=>decide (kv.1=k):=by
 unfold KV at r
 induction r with
 |nil=>rfl
 |cons h t ih=>rw[List.any_cons,List.any_cons,ih,h.1]
def KV.repl {kvs:List (κ×V)} {vs:List (κ×Value)} (r:KV kvs vs) (k:κ) {y:V} {u:Value} (ry:RelV y u):
  KV (kvs.map fun kv=>if kv.1=k then (kv.1,y) else kv) (vs.map fun kv=>if kv.1=k then (kv.1,u) else kv):=by
 unfold KV at r ⊢
 induction r with
 |nil=>exact .nil
 | @cons p q ps qs h t ih=>
  rw[Ah,Ah]
  refine .cons ?_ ih
  obtain⟨h1,h2⟩:=h
  by_cases e:p.1=k
  .rw[Ab e,Ab (h1.symm.trans e)];exact⟨h1,ry⟩
  .rw[Ac e,Ac (fun z=>e (h1.trans z))];exact⟨h1,h2⟩
def KV.put {kvs:List (κ×V)} {vs:List (κ×Value)} (r:KV kvs vs) (k:κ) {y:V} {u:Value} (ry:RelV y u):KV (yi kvs k y) (stored vs k u):=by
 unfold yi stored;rw[r.any k]
 by_cases e:(vs.any fun kv=>decide (kv.1=k))=true
 .rw[Ab e,Ab e];exact r.repl k ry
 .rw[Ac e,Ac e];exact Paired.snoc r ⟨rfl,ry⟩
theorem KV.length {kvs:List (κ×V)} {vs:List (κ×Value)} (r:KV kvs vs):kvs.length=vs.length:=Paired.length r
end
def ES {P:Program} {w:World} {k:zM} {u:Value} (r:RelV (kV k) u):(yr P w).is k u=true:=by
 cases k with
 |inl i=>obtain⟨t,e⟩:=(show ∃t,u=Value.int i t from r);subst e;exact P7 P w i t
 |inr x=>obtain⟨t,e⟩:=(show ∃t,u=Value.str x t from r);subst e;exact P8 P w x t
theorem Mw {P:Program} {w:World}:∀{ks:List zM} {us:List Value},Vals (ks.map kV) us->ItemsAre (yr P w) ks us
 | [],_,r=>by rw[Bj]at r;cases r;exact .nil
 |k::ks,_,r=>by
  rw[Ah]at r;cases r with
  |cons h t=>exact .cons (ES h) (Mw t)
abbrev KT (H:Hp):List (MK×V)->Tr->Prop:=Paired fun p q=>p.1=q.1/\KyV H p.1 q.2.1/\RelV p.2 q.2.2
def KT.val {H:Hp} {l:List (MK×V)} {m:Tr} (r:KT H l m) (k:MK):RelO (yc l k) (z8 m k):=by
 induction r with
 |nil=>exact True.intro
 | @cons p q ps qs z _ ih=>
  obtain⟨z1,_,z2⟩:=z
  by_cases e:p.1=k
  .rw[IV e,show z8 (q::qs) k=some q.2.2 by simp[z8,Dk,<-z1,e]];exact z2
  .rw[IW e,show z8 (q::qs) k=z8 qs k by simp[z8,Dk,<-z1,e]];exact ih
def KT.put {H:Hp} {l:List (MK×V)} {m:Tr} (r:KT H l m) {k:MK} {u v:Value} {y:V} (hk:KyV H k u) (ry:RelV y v):KT H (yi l k y) (BP m k u v):=by
 have e:(l.any fun kv=>decide (kv.1=k))=(z8 m k).isSome:=by rw[Mu,(r.val k).isSome_eq]
 unfold yi BP;rw[e]
 by_cases c:(z8 m k).isSome=true
 .rw[Ab c,Ab c]
  clear e c
  induction r with
  |nil=>exact .nil
  | @cons p q ps qs z _ ih=>
   refine .cons ?_ ih
   obtain⟨z1,z2,z3⟩:=z;dsimp only
   by_cases g:p.1=k
   .rw[Ab g,Ab (z1.symm.trans g)];exact⟨z1,z2,ry⟩
   .rw[Ac g,Ac fun x=>g (z1.trans x)];exact⟨z1,z2,z3⟩
 .rw[Ac c,Ac c];exact Paired.snoc r ⟨rfl,hk,ry⟩
def KT.keeps {H H':Hp} {l:List (MK×V)} {m:Tr} (r:KT H l m) (ht:∀b ys,H b=some (.tup ys)->H' b=some (.tup ys)):KT H' l m:=Paired.mapP r fun _ _ z=>⟨z.1,z.2.1.mono ht,z.2.2⟩
section
variable {P:Program} {w:World} {H:Hp} {h:Heap} {a:Addr}
def Mx {u:HO} (ok:HOk P w H h) (e:Rd H a u):ObjOk P w H h a u:=e.ok ok
def Hh {kvs:List (zM×V)} (ok:HOk P w H h) (e:Rd H a (.dK kvs)):kvs.length<=sizeLine/\(a==sysModules)=false/\∃vs,KV kvs vs/\h.DictOf (yr P w) a vs:=
 show ObjOk P w H h a (.dK kvs) from Mx ok e
def Sk {kvs:List (zM×V)} (ok:HOk P w H h) (e:H a=some (.dK kvs)):kvs.length<=sizeLine/\(a==sysModules)=false/\∃vs,KV kvs vs/\h.DictOf (yr P w) a vs:=Hh ok (.inl e)
def Sl {ks:List zM} (ok:HOk P w H h) (e:H a=some (.tup (ks.map kV))):(tupleKind (yr P w)).is h ks a:=by
 obtain⟨_,its,r,o,h1,h2,n,h3⟩:=(show ObjOk P w H h a (.tup (ks.map kV)) from ok a _ e)
 exact⟨o,its.toArray,n,h1,h2,h3,by simpa using Mw r⟩
def Hi (ok:HOk P w H h):∀{k:MK} {u:Value},KyV H k u->yI P w h k u
 |.one _,_,r=>ES r
 |.tup _,_,⟨b,e,q⟩=>⟨b,e,Sl ok q⟩
def Hj {kvs:List (MK×V)} (ok:HOk P w H h) (e:Rd H a (.dT kvs)):kvs.length<=sizeLine/\(a==sysModules)=false/\∃xs,KT H kvs xs/\DictM P w h a xs:=by
 obtain⟨z,y,xs,r,o,es,ep,g1,g2,g3,g4,g5,g6⟩:=(show ObjOk P w H h a (.dT kvs) from Mx ok e)
 refine⟨z,y,xs,r,o,es,ep,g1,g2,g3,g4,⟨g5,g6⟩,?_⟩
 have all:∀{l:List (MK×V)} {m:Tr},KT H l m->∀x∈m,yI P w h x.1 x.2.1:=fun {l m} q=>by
  induction q with
  |nil=>intro x hx;exact nomatch hx
  |cons hq _ ih=>
   intro x hx
   rcases Ag.mp hx with e|hx
   .rw[e,<-hq.1];exact Hi ok hq.2.1
   .exact ih x hx
 exact all r
def DG {kvs:List (MK×V)} (ok:HOk P w H h) (e:H a=some (.dT kvs)):kvs.length<=sizeLine/\(a==sysModules)=false/\∃xs,KT H kvs xs/\DictM P w h a xs:=Hj ok (.inl e)
end
def KyT (H:Hp):MK->V->Prop
 |.one k,y=>y=kV k
 |.tup ks,y=> ∃b,y=.ref b/\H b=some (.tup (ks.map kV))
def KyT.val {H:Hp}:∀{k:MK} {y:V} {u:Value},KyT H k y->RelV y u->KyV H k u
 |.one k,y,u,e,r=>by have e:y=kV k:=e;subst e;exact r
 |.tup _,_,_,⟨b,e,q⟩,r=>by subst e;exact⟨b,r,q⟩
def DGet (H:Hp) (a:Addr) (y:V) (r:Option V):Prop:=(∃kvs k,Rd H a (.dK kvs)/\y=kV k/\r=yc kvs k)\/∃kvs k,Rd H a (.dT kvs)/\KyT H k y/\r=yc kvs k
def DPut (H:Hp) (a:Addr) (y v:V) (H':Hp):Prop:=(∃kvs k,H a=some (.dK kvs)/\y=kV k/\kvs.length<sizeLine/\H'=zk H a (.dK (yi kvs k v)))\/
 ∃kvs k,H a=some (.dT kvs)/\KyT H k y/\kvs.length<sizeLine/\H'=zk H a (.dT (yi kvs k v))
theorem DGet.k {H:Hp} {a:Addr} {kvs:List (zM×V)} {k:zM} (e:H a=some (.dK kvs)):DGet H a (kV k) (yc kvs k):= .inl ⟨kvs,k,.inl e,rfl,rfl⟩
def DGet.t {H:Hp} {a:Addr} {y:V} {l:List (MK×V)} {k:MK} (e:H a=some (.dT l)) (hk:KyT H k y):DGet H a y (yc l k):= .inr ⟨l,k,.inl e,hk,rfl⟩
theorem DPut.k {H:Hp} {a:Addr} {kvs:List (zM×V)} {k:zM} {v:V} (e:H a=some (.dK kvs)) (hl:kvs.length<sizeLine):DPut H a (kV k) v (zk H a (.dK (yi kvs k v))):= .inl ⟨kvs,k,e,rfl,hl,rfl⟩
def DPut.t {H:Hp} {a:Addr} {y v:V} {l:List (MK×V)} {k:MK} (e:H a=some (.dT l)) (hk:KyT H k y) (hl:l.length<sizeLine):DPut H a y v (zk H a (.dT (yi l k v))):= .inr ⟨l,k,e,hk,hl,rfl⟩
section
variable {X:Cx} {pins:AL} {σ:St} {H:Hp} {s:Shared} {a:Addr} {y v:V} {u r:Value} {o:Option V} {A:Around} {E:VP}
def Inv.big (I:Inv X pins σ H s):sysModules<s.heap.objs.size:=by
 have h:mainGlobals<s.heap.objs.size:=(I.mod.glob.keeps I.bk).lt;exact Nat.lt_trans (by decide) h
def Sm {Q:VP} (hu:A.units+1<cLine) (I:Inv X pins σ H s) (g:DGet H a y (some v)) (ry:RelV y u) (h:∀w' s',Inv X pins σ H s'->RelV v w'->Q w' s'):
  wpAny (model X.prog X.w) A (getItem (.ref a) u) Q E s:=by
 rcases g with ⟨kvs,k,e,ey,l⟩|⟨kvs,k,e,ek,l⟩
 .subst ey
  obtain⟨z,hd,vs,rel,dd⟩:=Hh I.hok e;obtain⟨w',hw,rw'⟩:=RelO.some_of (v:=v) (o:=valueAt vs k) (by rw[l];exact rel.val k)
  exact wpAny_getItem_of (ES ry) dd.mapOf hw (h w' _ (I.tok _) rw')
 .obtain⟨z,hd,xs,rel,dd⟩:=Hj I.hok e
  obtain⟨x,hx,rx⟩:=RelO.some_of (v:=v) (o:=z8 xs k) (by rw[l];exact rel.val k)
  exact Si hu (Hi I.hok (ek.val ry)) dd hx fun t=>h x _ (I.tok _) rx
def Sn {Q:VP} (hu:A.units+1<cLine) (I:Inv X pins σ H s) (g:DGet H a y o) (ry:RelV y u) (h:∀s',Inv X pins σ H s'->Q (.bool (!o.isSome)) s'):
  wpAny (model X.prog X.w) A (compareOp .NotIn u (.ref a)) Q E s:=by
 rcases g with ⟨kvs,k,e,ey,l⟩|⟨kvs,k,e,ek,l⟩
 .subst ey
  obtain⟨z,hd,vs,rel,dd⟩:=Hh I.hok e
  refine wpAny_notIn_of (ES ry) hd dd.mapOf ?_
  rw[<-(rel.val k).isSome_eq,<-l];exact h _ (I.tok _)
 .obtain⟨z,hd,xs,rel,dd⟩:=Hj I.hok e
  refine Sh hu (Hi I.hok (ek.val ry)) hd dd fun t=>?_
  rw[<-(rel.val k).isSome_eq,<-l];exact h _ (I.tok _)
def Mz {h':Heap} {t':Nat} {ob:HO} (I:Inv X pins σ H s) (mu:Mut (H a)) (hs:Heap.SameBut a s.heap h') (he:∃q,h'.get? a=some q) (new:ObjOk X.prog X.w (zk H a ob) h' a ob):
  Inv X pins σ (zk H a ob) {s with heap:=h',toks:=t'}:=
 I.write (x:=a) (e:=a) mu (.inl rfl) (fun b q hb z=>(hs.2 b hb).trans z) he new
def So {P:Program} {w:World} {H':Hp} {h':Heap} {kvs:List (zM×V)} {vs:List (zM×Value)} (z:kvs.length<=sizeLine) (hd:(a==sysModules)=false) (rel:KV kvs vs) (dd:h'.DictOf (yr P w) a vs):
 ObjOk P w H' h' a (.dK kvs):=⟨z,hd,vs,rel,dd⟩
def Sq {H':Hp} {Q:Unit->Shared->Prop} (hu:A.units+1<cLine) (I:Inv X pins σ H s) (g:DPut H a y v H') (ry:RelV y u) (rv:RelV v r) (h:∀s',Inv X pins σ H' s'->Q () s'):
  wpAny (model X.prog X.w) A (setItem (.ref a) u r) Q E s:=by
 rcases g with ⟨kvs,k,e,ey,l,eH⟩|⟨kvs,k,e,ek,l,eH⟩
 .subst ey eH
  obtain⟨z,hd,vs,rel,dd⟩:=Sk I.hok e;have hz:vs.length<=sizeLine:=by rw[<-rel.length];exact z
  have hl:(yi kvs k v).length<=sizeLine:=by have:=Mv kvs k v;lia
  refine wpAny_setItem_pairs (hsz:=hz) (ES ry) dd fun h' dd' hs=>h _ ?_
  have he:∃q,h'.get? a=some q:=let ⟨q,_,_,hq,_⟩:=dd';⟨q,hq⟩;exact Mz I (by rw[e];exact True.intro) hs he (So hl hd (rel.put k rv) dd')
 .subst eH
  obtain⟨z,hd,xs,rel,dd⟩:=DG I.hok e;have hl:(yi kvs k v).length<=sizeLine:=by have:=Mv kvs k v;lia
  refine Sj hu (Hi I.hok (ek.val ry)) dd (by rw[<-Paired.length rel];exact z) fun h' t dd' hs=>h _ ?_
  obtain⟨q,es,ep,q1,q2,q3,q4,q5,_⟩:=dd'
  refine Mz I (by rw[e];exact True.intro) hs ⟨q,q1⟩ ⟨hl,hd,_,(rel.put (ek.val ry) rv).keeps fun c ys ec=>?_,q,es,ep,q1,q2,q3,q4,q5⟩
  rw[zQ (P9 ec e (fun z=>nomatch z))];exact ec
end
def NoSl (i:Expr):Prop:=∀ov iv,subscripted i false ov iv=operate [ov,iv] (getItem ov iv)
def Sr {prog:Program} {w:World} {A:Around} {E:VP} {s:Shared} {env:Env} {value slice:Expr} {pos:Pos} {T id:String} {Q:VP}
  (hl:typeLookup (.type T) "__getitem__" =pure (some (.builtin id))) (hs:NoSl slice)
  (h:wpAny (model prog w) A (eval value env) (fun o s₁=>wpAny (model prog w) A (eval slice env) (fun i s₂=>s₂.TypeIs o T/\wpAny (model prog w) A (getItem o i) Q E s₂) E s₁) E s):
  wpAny (model prog w) A (eval (.Subscript value slice pos) env) Q E s:=by
 refine Subscript_ (B9 h (fun o s₁ h₁=>B9 h₁ (fun i s₂ h₂=>?_) fun _ _ x=>x) fun _ _ x=>x)
 obtain⟨hT,h₂⟩:=h₂;unfold subscriptTail
 refine Aa ?_
 rw[getitemInPython_of_ne hT.not_modules]
 refine Aa (wpAny_specialOf hT hl ?_)
 have fin:wpAny (model prog w) A (subscripted slice false o i) (fun r s₃=>wpAny (model prog w) A (letTemporaryGo value o r >>=fun _=>pure r) Q E s₃) E s₂:=by
  rw[hs o i];exact wpAny_operating (B9 h₂ (fun r s₃ h₃=>Aa (wpAny_letTemporaryGo (Ad h₃))) fun _ _ x=>x)
 first
  |exact Ad (Aa fin)
  |exact Aa (Ad (Aa fin))
  |exact Aa fin
def Ss {X:Cx} {pins:AL} {σ:St} {H:Hp} {s:Shared} {a:Addr} {y:V} {o:Option V} (I:Inv X pins σ H s) (g:DGet H a y o):s.TypeIs (.ref a) "dict" :=by
 rcases g with ⟨kvs,k,e,_,_⟩|⟨kvs,k,e,_,_⟩
 .obtain⟨_,_,vs,_,dd⟩:=Hh I.hok e
  exact dd.typeIs
 .obtain⟨_,_,xs,_,dd⟩:=Hj I.hok e;exact dd.typeIs
def Su (td ty:TE):TE:=fun σ H Q=>td σ H fun x H1=>ty σ H1 fun y H2=> ∃a v,x=.ref a/\DGet H2 a y (some v)/\Q v H2
def MA (td ty tv:TE):TS:=fun D σ H=>tv σ H fun v H1=>td σ H1 fun x H2=>ty σ H2 fun y H3=> ∃a H4,x=.ref a/\DPut H3 a y v H4/\D.nx σ H4
section
variable {X:Cx} {o i e value:Expr} {pos pos' tpos:Pos} {td ty tv:TE}
def Sv (hu:X.A.units+1<cLine) (ho:PE X o td) (hi:PE X i ty) (hs:NoSl i):PE X (.Subscript o i pos) (Su td ty):=by
 intro pins s σ H Q I h
 refine Sr PySem.F.slot_dict_getitem.lookup hs (thn (ho pins s σ H _ I h) fun u s1 ⟨x,H1,I1,rx,q1⟩=>thn (hi pins s1 σ H1 _ I1 q1) fun iv s2 ⟨y,H2,I2,ry,a,v,ex,g,q2⟩=>?_)
 subst ex;obtain rfl:u=Value.ref a:=rx;exact⟨Ss I2 g,Sm hu I2 g ry fun w' s3 I3 rw'=>⟨v,H2,I3,rw',q2⟩⟩
def Sw (hu:X.A.units+1<cLine) (ho:PE X o td) (hi:PE X i ty) (hv:PE X value tv) (hs:swapsWith value (some (.Subscript o i pos')) pos.line X.env=pure false):
  PS X (.Assign [.Subscript o i pos'] value pos) (MA td ty tv):=by
 intro pins s σ H D I h
 refine wpAny_Assign_Subscript (thn (hv pins s σ H _ I h) fun r s1 ⟨v,H1,I1,rv,q1⟩=>thn (ho pins s1 σ H1 _ I1 q1) fun u s2 ⟨x,H2,I2,rx,q2⟩=>thn (hi pins s2 σ H2 _ I2 q2) fun iv s3 ⟨y,H3,I3,ry,a,H4,ex,g,q3⟩=>?_) hs
 subst ex;obtain rfl:u=Value.ref a:=rx;exact Sq hu I3 g ry rv fun s4 I4=>⟨σ,H4,I4,q3⟩
end
def Sx {P:Program} {w:World} {H:Hp} (h:Heap) (hb:sysModules<h.objs.size):ObjOk P w H (h.push {cls:= .type "dict",data:= .dict #[]}) h.objs.size (.dT []):=
 ⟨Bx _,D2.mpr (Cf (Av hb)),[],.nil,_,#[],0,Bf _ rfl,⟨rfl,rfl,rfl⟩,rfl,rfl,Dl,rfl⟩
def Sy:TE:=fun _ H Q=> ∀p,H p=none->Q (.ref p) (zk H p (.dT []))
section
variable {X:Cx} {pos:Pos}
def Sz:PE X (.Dict [] [] pos) Sy:=fun pins s σ H Q I h=>
 wpAny_Dict_empty ⟨.ref s.heap.objs.size,_,I.laid (a:=s.heap.objs.size) (o:= .dT []) (t':=s.toks) (fun _ _ q=>Aw _ q) (Af _) (Sx s.heap I.big),rfl,h _ (I.hok.fresh (Af _))⟩
end
structure M2 (X:Cx) (o:Expr) (m:Str) (apos:Pos) (e f:Expr) (cpos:Pos):Prop where
 base:attributeBase o m X.env (eval o X.env)=eval o X.env
 few:((backTo cpos (starEach [e,f] X.env)).all (fun x=> !x.1) && (backToKw cpos (keywordEach [] X.env)).all (fun x=>x.1.isSome)
  && decide (([e,f]:List Expr).length+([]:List Keyword).length+(if ([]:List Keyword).isEmpty then 0 else 1)<30))=true
 line:(apos.endLine==cpos.line)=true
 trees:backTo cpos (starEach [e,f] X.env)=[(false,eval e X.env),(false,eval f X.env)]
def Its (z:Str):It:=⟨fun i _=>i<z.length,fun i H x H'=>H'=H/\∃c,z.cps[i]? =some c/\x=.str ⟨#[c]⟩,fun i _=>z.length<=i⟩
def S0 {P:Program} {w:World} {K:FG} {tg:Expr} (it:Addr) (z:Str) (t:Tok):Turn P w K tg (Its z) [it] it (fun i h=>h.IsStrIter it "str_ascii_iterator" z t i) where
 mem:=by simp
 obj:=fun i h st b hb=>by
  have e:b=it:=by simpa using hb
  subst e;obtain⟨o,e,c,d⟩:=st;exact⟨o,e,fun v y=>by rw[d]at y;cases y⟩
 keep:=fun i h h' st k=>by
  obtain⟨o,e,r⟩:=st;exact⟨o,k it (by simp) o e,r⟩
 item:=by
  intro X hP hw hK hc i pins s σ H E I hf st hg;subst hP hw hK;have hi:i<z.cps.size:=hg;obtain⟨f0,f1,f2,f3,f4,f5⟩:=hf it (by simp)
  refine wpAny_pyNext_ascii_item st (c:=z.cps[i]) (by simp[hi]) fun h' st' sb=>?_
  have I1:Inv X pins σ H {s with heap:=h',toks:=s.toks+1}:=I.turned (fun b o hb e=>(sb.2 b hb).trans e) f0 f1 f3 f4 f5
  obtain⟨o,e,c,d⟩:=id st';exact⟨_,rfl,EG (s:={s with heap:=h',toks:=s.toks+1}) e c d (by decide) ⟨.str ⟨#[z.cps[i]]⟩,H,I1,⟨_,rfl⟩,⟨rfl,_,by simp[hi],rfl⟩,st',fun b hb=>(hf b hb).1⟩⟩
 done:=by
  intro X hP hw hK hc i pins s σ H E I hf st hg;subst hP hw hK;have hi:z.cps.size<=i:=hg;obtain⟨f0,f1,f2,f3,f4,f5⟩:=hf it (by simp)
  exact wpAny_pyNext_ascii_end (I.ok.hd hc) st (by simp[hi]) fun h' eb=>⟨rfl,I.turned (t':=s.toks) (fun b o hb e=>eb b o hb e) f0 f1 f3 f4 f5⟩
 self:=fun _ _ _ _ _ st h=>wpAny_pyIter_striter_ascii st h
def S2 {P:Program} {w:World} {K:FG} {tg:Expr} (it:Addr) (z:Str) (t:Tok):Turn P w K tg (Its z) [it] it (fun i h=>h.IsStrIter it "str_iterator" z t i) where
 mem:=by simp
 obj:=fun i h st b hb=>by
  have e:b=it:=by simpa using hb
  subst e;obtain⟨o,e,c,d⟩:=st;exact⟨o,e,fun v y=>by rw[d]at y;cases y⟩
 keep:=fun i h h' st k=>by
  obtain⟨o,e,r⟩:=st;exact⟨o,k it (by simp) o e,r⟩
 item:=by
  intro X hP hw hK hc i pins s σ H E I hf st hg;subst hP hw hK;have hi:i<z.cps.size:=hg;obtain⟨f0,f1,f2,f3,f4,f5⟩:=hf it (by simp)
  refine wpAny_pyNext_wide_item st (c:=z.cps[i]) (by simp[hi]) fun h' st' sb=>?_
  have I1:Inv X pins σ H {s with heap:=h',toks:=s.toks+1}:=I.turned (fun b o hb e=>(sb.2 b hb).trans e) f0 f1 f3 f4 f5
  obtain⟨o,e,c,d⟩:=id st';exact⟨_,rfl,EG (s:={s with heap:=h',toks:=s.toks+1}) e c d (by decide) ⟨.str ⟨#[z.cps[i]]⟩,H,I1,⟨_,rfl⟩,⟨rfl,_,by simp[hi],rfl⟩,st',fun b hb=>(hf b hb).1⟩⟩
 done:=by
  intro X hP hw hK hc i pins s σ H E I hf st hg;subst hP hw hK;have hi:z.cps.size<=i:=hg;obtain⟨f0,f1,f2,f3,f4,f5⟩:=hf it (by simp)
  exact wpAny_pyNext_wide_end (I.ok.hd hc) st (by simp[hi]) fun h' eb=>⟨rfl,I.turned (t':=s.toks) (fun b o hb e=>eb b o hb e) f0 f1 f3 f4 f5⟩
 self:=fun _ _ _ _ _ st h=>wpAny_pyIter_striter_wide st h
section
variable {X:Cx} {tg:Expr}
def iStr (tl:TE):TI:=fun σ H R=>tl σ H fun x H1=> ∃z,x=.str z/\R (Its z) H1
def S4 {l:Expr} {tl:TE} (hl:PE X l tl):PI X tg l (iStr tl):=by
 intro pins s σ H R I h
 refine thn (hl pins s σ H _ I h) fun v s1 ⟨x,H1,I1,r1,q1⟩=>?_
 obtain⟨z,e,q⟩:=q1;subst e;obtain⟨t,rfl⟩:=r1;have fp:∀b∈[s1.heap.objs.size],yN X pins H1 b:=fun b hb=>by
  have e:b=s1.heap.objs.size:=by simpa using hb
  subst e;exact I1.fpOk (Af _) (I1.hok.fresh (Af _))
 cases ha:z.cps.all (· < 128)
 .exact wpAny_pyIter_wide ha ⟨s1.heap.objs.size,[s1.heap.objs.size],_,_,H1,rfl,I1.kept (t':=s1.toks) fun b o e=>Aw _ e,S2 _ z t,⟨_,Bf _ rfl,rfl,rfl⟩,fp,q⟩
 .exact wpAny_pyIter_ascii ha ⟨s1.heap.objs.size,[s1.heap.objs.size],_,_,H1,rfl,I1.kept (t':=s1.toks) fun b o e=>Aw _ e,S0 _ z t,⟨_,Bf _ rfl,rfl,rfl⟩,fp,q⟩
def rSlS:V->Option Int->Option Int->Hp->VK->Prop:=fun x lo hi H Q=> ∃z,x=.str z/\z.length<=sizeLine/\Q (.str (Txt.slice z lo hi)) H
def MB {v:Value} {o:Option Int} (h:IsPart v o):∃p:Option (Int×Tok),v=partValue p/\p.map (·.1)=o:=by
 cases h with
 |none=>exact⟨none,rfl,rfl⟩
 |int i t=>exact⟨some (i,t),rfl,rfl⟩
def S5:SlR X rSlS:=by
 intro pins s σ H x v vl vu lo hi sl Q I rx hs pl pu h;obtain⟨z,rfl,hz,q⟩:=h;obtain⟨t,rfl⟩:=rx;obtain⟨p,rfl,rfl⟩:=MB pl;obtain⟨p',rfl,rfl⟩:=MB pu
 refine⟨"str",_,slot_str_getitem.lookup,typeIs_str _ _ _,?_⟩
 refine wpAny_getItem_str_slice (l:=p) (u:=p') (st:=none) hs rfl ?_
 exact post_val_or_str ⟨Bs (Txt.slice_le z _ _) hz,fun t' k=>⟨.str (Txt.slice z (p.map (·.1)) (p'.map (·.1))),H,I.tok k,⟨t',rfl⟩,q⟩⟩
end
def S6 (z:Str) (c:Nat):(!(Builtin.Str.occurrences z ⟨#[c]⟩ 0 z.length 1).isEmpty)=decide (c∈z.cps.toList):=StrLaws.found_one z c
end L2
namespace L2
open PySem PySem.Spec PySem.W PyProof.Rows
def Ite (K:FG) (a:Addr):It:=
 ⟨fun i H=> ∃(xs:List V) (x:V),SqL K H a xs/\xs[i]? =some x,
  fun i H v H'=> ∃(T:Addr) (x:V),v=.ref T/\H T=none/\H'=zk H T (.tup [.int i,x])/\∀xs,SqL K H a xs->xs[i]? =some x,
  fun i H=> ∃xs,SqL K H a xs/\xs.length<=i⟩
def EnSt (z i1 a:Addr) (i:Nat) (h:Heap):Prop:=(∃old,IsEnum h z i1 (i:Int) old)/\h.IsListIter i1 a i
def S7 {P:Program} {w:World} {K:FG} {elts:List Expr} {x1} {tp:Pos} {z i1 a:Addr} (hne:z≠i1):Turn P w K (.Tuple elts x1 tp) (Ite K a) [z,i1] z (EnSt z i1 a) where
 mem:=by simp
 obj:=fun i h st c hc=>by
  obtain⟨⟨old,hz⟩,⟨o1,e1,_,d1⟩⟩:=st;simp only[Ag,By,Bp]at hc
  rcases hc with rfl|rfl
  .exact⟨_,hz,fun v e=>by cases e⟩
  .exact⟨_,e1,fun v e=>by rw[d1]at e;cases e⟩
 keep:=fun i h h' st k=>by
  obtain⟨⟨old,hz⟩,h1⟩:=st;exact⟨⟨old,k z (by simp) _ hz⟩,h1.at fun o e=>k i1 (by simp) o e⟩
 item:=fun X hp hw hK hc i pins s σ H E I fp st go=>by
  subst hp hw hK;obtain⟨⟨old,hz⟩,h1⟩:=st;obtain⟨xs,x,qa,ex⟩:=go;obtain⟨vs,rv,pv,_⟩:=I.list qa;obtain⟨vx,evx,rvx⟩:=rv.get ex
  refine wpAny_pyNext_enum_item hz h1 pv.isList (x:=vx) (by simpa using evx) hne fun h' a1 a2 a3 a4 hk=>?_
  refine⟨_,rfl,wpAny_letOwnedTupleGo_enum a1 fun h'' b1 b2=>?_⟩
  have nz:s.heap.objs.size≠z:=C8 (Ai hz);have k2:∀c o,c∉[z,i1]->s.heap.get? c=some o->h''.get? c=some o:=fun c o hcn e=>by
   simp only[Ag,By,Bp,not_or]at hcn;exact b2.extBut _ _ hcn.1 (hk c o hcn.1 hcn.2 e)
  have I':Inv X pins σ (zk H s.heap.objs.size (.tup [.int i,x])) {s with heap:=h'',toks:=s.toks+1}:=
   I.turnLay (ch:=[z,i1]) k2 (fun c hcn=>fp c hcn) (Af _)
    ⟨by show 2<=sizeLine;decide,[.int i s.toks,vx],.cons ⟨_,rfl⟩ (.cons rvx .nil),⟨_,b2.extBut _ _ nz a3,rfl,_,rfl⟩⟩
  have nf:H s.heap.objs.size=none:=I.hok.fresh (Af _)
  refine⟨.ref s.heap.objs.size,_,I',rfl,⟨_,x,rfl,nf,rfl,fun xs' q=>?_⟩,⟨⟨_,b1⟩,a2.extBut b2.extBut hne.symm⟩,fun c hcn=>?_⟩
  .rw[I.list_inj q qa];exact ex
  .have hc1:=fp c hcn
   have:c≠s.heap.objs.size:=by
    have hlt:c<s.heap.objs.size:=by
     simp only[Ag,By,Bp]at hcn
     rcases hcn with rfl|rfl
     .exact Ai hz
     .obtain⟨_,e,_⟩:=h1;exact Ai e
    exact Av hlt
   rw[zQ this];exact hc1.1
 done:=fun X hp hw hK hc i pins s σ H E I fp st stop=>by
  subst hp hw hK;obtain⟨⟨old,hz⟩,h1⟩:=st;obtain⟨xs,qa,hend⟩:=stop;obtain⟨vs,rv,pv,_⟩:=I.list qa;have l1:=rv.length
  refine wpAny_pyNext_enum_end (I.ok.hd hc) hz h1 pv.isList (by rw[Gh,Am];lia) fun h' hk=>⟨rfl,?_⟩
  refine I.turnedL (ch:=[z,i1]) (t':=s.toks) (fun c o hcn e=>?_) (fun c hcn=>fp c hcn)
  simp only[Ag,By,Bp,not_or]at hcn;exact hk c o hcn.2 e
 self:=fun A i s Q E st h=>by
  obtain⟨⟨old,hz⟩,_⟩:=st;exact wpAny_pyIter_enum hz h
def S8 (K:FG) (ta:TA):TI:=fun σ H R=>ta σ H fun vs H1=> ∃(a:Addr) (xs:List V),vs=[.ref a]/\SqL K H1 a xs/\R (Ite K a) H1
def S9 {X:Cx} {elts:List Expr} {x1} {tp:Pos} {e1:Expr} {ta:TA} {p pos:Pos} (hg:Gl X "enumerate") (hm:X.mg "enumerate" =none) (ha:PA X [e1] ta) (hs:starEach [e1] X.env=[(false,eval e1 X.env)]:=by rfl):
  PI X (.Tuple elts x1 tp) (.Call (.Name "enumerate" p) [e1] [] pos) (S8 X.K ta):=by
 intro pins s σ H R I h
 refine Call_ (BL I hg hm (by rfl) (El (thn (ha pos pins s σ H _ I h) fun us s1 ⟨vs,H1,I1,r1,q1⟩=>?_) hs rfl))
 obtain⟨a,xs,rfl,qa,q⟩:=q1;obtain⟨u,rfl,ru⟩:=AX r1;cases ru;obtain⟨vs,rva,pa,_⟩:=I1.list qa
 refine call_enumerate_list pa.isList fun h' hz hi1 hsz hk=>?_
 refine wpAny_pyIter_enum hz ?_
 have I2:Inv X pins σ H1 {s1 with heap:=h'}:=I1.kept (t':=s1.toks) hk
 refine⟨_,[s1.heap.objs.size+1,s1.heap.objs.size],_,_,H1,rfl,I2,S7 (a:=a) (C8 (Dq _)),⟨⟨_,hz⟩,hi1⟩,fun c hc=>?_,q⟩
 have hge:s1.heap.objs.size<=c:=by
  simp only[Ag,By,Bp]at hc
  rcases hc with rfl|rfl
  all_goals first|exact Af _|exact Nat.le_add_right _ _
 exact I1.fpOk hge (I1.hok.fresh hge)
def ltI (a b:Int):Bool:=decide (a<b)
def ordI:Srt.Ord ltI:=⟨fun a b c h1 h2=>by
 have h1:=of_decide_eq_false h1;have h2:=of_decide_eq_false h2;exact Bh (by lia),fun a b h=>by
 have h:=Er h;exact Bh (by lia)⟩
def IY {a b:List Int} (p:a.Perm b) (ha:a.Pairwise (fun x y=>x<=y)) (hb:b.Pairwise (fun x y=>x<=y)):a=b:=
 p.eq_of_pairwise (fun x y _ _ h1 h2=>by lia) ha hb
end L2
namespace L3
open PySem L2
inductive V3 where
 |non|bl (b:Bool)|int (i:Int)|str (x:Str)|ty (n:String)
 |tup (xs:List V3)|lst (xs:List V3)|scr (ns:List Int)
 |dK (kvs:List (zM×V3))|dT (kvs:List (MK×V3))
 |obj (c:Str) (fs:List (Str×V3))|cls (c:Str)|fn (n:Str) (env:List V3)
 |loc (n:Nat)
inductive C3 where
 |lst (xs:List V3)|dK (kvs:List (zM×V3))|dT (kvs:List (MK×V3))|ins (c:Str) (fs:List (Str×V3))|dead
inductive Vl where
 |v (x:V3)|m (c:C3)
structure X3 where
 c:Str
 nm:Option V3
abbrev S3:=List (Option Vl)
abbrev H3:=List C3
inductive Res (α:Type) where
 |ok (r:α) (h:H3)|ex (x:X3) (h:H3)|no
abbrev E3:=S3->H3->Res Vl
noncomputable def C3.fz:C3->Option V3
 |.lst xs=>some (.lst xs)
 |.dK kvs=>some (.dK kvs)
 |.dT kvs=>some (.dT kvs)
 |.ins c fs=>some (.obj c fs)
 |.dead=>none
def Vl.fz:Vl->Option V3
 |.v x=>some x
 |.m c=>c.fz
noncomputable def Res.bind {α β:Type} (r:Res α) (k:α->H3->Res β):Res β:=match r with
 |.ok r h=>k r h
 |.ex x h=>.ex x h
 |.no=>.no
structure Kx where
 K:FG
 cl:Str->Option Addr
def KnL (K:FG) (a:Addr) (ns:List Int):Prop:=
 ∃(o:Obj) (its:Array Value) (n:Nat),K.lookup a=some o/\o.cls=.type "list" /\o.dict=none/\o.data=.seq its n/\its.size<=sizeLine/\Vals (ns.map V.int) its.toList
mutual
inductive Rep (κ:Kx) (β:AO) (O:Addr->Prop) (H:Hp):V3->V->Prop
 |non:Rep κ β O H .non .non
 |bl (b:Bool):Rep κ β O H (.bl b) (.bl b)
 |int (i:Int):Rep κ β O H (.int i) (.int i)
 |str (x:Str):Rep κ β O H (.str x) (.str x)
 |ty (n:String):Rep κ β O H (.ty n) (.ty n)
 |tup {xs:List V3} {ys:List V} {a:Addr}:H a=some (.tup ys)->some a∉β->¬O a->Reps κ β O H xs ys->Rep κ β O H (.tup xs) (.ref a)
 |lst {xs:List V3} {ys:List V} {a:Addr}:H a=some (.lst ys)->some a∉β->¬O a->Reps κ β O H xs ys->Rep κ β O H (.lst xs) (.ref a)
 |scr {ns:List Int} {a:Addr} {o:Obj}:H a=some (.frz o (.lst (ns.map V.int)))->some a∉β->¬O a->Rep κ β O H (.scr ns) (.ref a)
 |scrK {ns:List Int} {a:Addr}:KnL κ.K a ns->Rep κ β O H (.scr ns) (.ref a)
 |dK {kvs:List (zM×V3)} {ws:List (zM×V)} {a:Addr}:H a=some (.dK ws)->some a∉β->¬O a->RepP κ β O H kvs ws->Rep κ β O H (.dK kvs) (.ref a)
 |dT {kvs:List (MK×V3)} {ws:List (MK×V)} {a:Addr}:H a=some (.dT ws)->some a∉β->¬O a->RepP κ β O H kvs ws->Rep κ β O H (.dT kvs) (.ref a)
 |obj {c:Str} {C:Addr} {fs:List (Str×V3)} {gs:List (Str×V)} {a dx:Addr}:κ.cl c=some C->H a=some (.ins C dx gs)->some a∉β->¬O a->RepP κ β O H fs gs->Rep κ β O H (.obj c fs) (.ref a)
 |cls {c:Str} {C:Addr}:κ.cl c=some C->Rep κ β O H (.cls c) (.ref C)
 |loc {n:Nat} {v:V}:n<β.length->(∀a,β[n]? =some (some a)->v=.ref a)->Rep κ β O H (.loc n) v
inductive Reps (κ:Kx) (β:AO) (O:Addr->Prop) (H:Hp):List V3->List V->Prop
 |nil:Reps κ β O H [] []
 |cons {x:V3} {y:V} {xs:List V3} {ys:List V}:Rep κ β O H x y->Reps κ β O H xs ys->Reps κ β O H (x::xs) (y::ys)
inductive RepP (κ:Kx) (β:AO) (O:Addr->Prop) (H:Hp):{α:Type}->List (α×V3)->List (α×V)->Prop
 |nil {α:Type}:RepP κ β O H (α:=α) [] []
 |cons {α:Type} {k:α} {x:V3} {y:V} {xs:List (α×V3)} {ys:List (α×V)}:Rep κ β O H x y->RepP κ β O H xs ys->RepP κ β O H ((k,x)::xs) ((k,y)::ys)
end
structure Ext (M:Addr->Prop) (β:AO) (H:Hp) (β':AO) (H':Hp):Prop where
 keep:∀a o,H a=some o->some a∉β->¬M a->H' a=some o/\some a∉β'
 len:β.length<=β'.length
 bet:∀i a,i<β.length->β'[i]? =some (some a)->β[i]? =some (some a)
 there:∀a o,H a=some o->∃o',H' a=some o'
 nwb:∀(i:Nat) a,β.length<=i->β'[i]? =some (some a)->H a=none
def nwb0 {β:AO} {H:Hp}:∀(i:Nat) a,β.length<=i->β[i]? =some (some a)->H a=none:=fun i a h e=>by
 have:=(An.mp e).1;lia
abbrev No:Addr->Prop:=fun _=>False
def Ext.refl {M:Addr->Prop} {β:AO} {H:Hp}:Ext M β H β H:=⟨fun _ _ h n _=>⟨h,n⟩,Af _,fun _ _ _ h=>h,fun _ o h=>⟨o,h⟩,nwb0⟩
def MC {β β1 β2:AO} {H H1:Hp} (t:∀a o,H a=some o->∃o',H1 a=some o') (bet:∀i a,i<β1.length->β2[i]? =some (some a)->β1[i]? =some (some a)) (n1:∀(i:Nat) a,β.length<=i->β1[i]? =some (some a)->H a=none)
  (n2:∀(i:Nat) a,β1.length<=i->β2[i]? =some (some a)->H1 a=none):∀(i:Nat) a,β.length<=i->β2[i]? =some (some a)->H a=none:=fun i a hi h=>by
 by_cases h1:i<β1.length
 .exact n1 i a hi (bet i a h1 h)
 .cases w:H a with
  |none=>rfl
  |some o=>
   obtain⟨o',z⟩:=t a o w;rw[n2 i a (by lia) h]at z;cases z
def Ext.trans0 {β β1 β2:AO} {H H1 H2:Hp} (a:Ext No β H β1 H1) (b:Ext No β1 H1 β2 H2):Ext No β H β2 H2:=
 ⟨fun x o h n m=>let ⟨h1,n1⟩:=a.keep x o h n m;b.keep x o h1 n1 m,Bs a.len b.len,fun i x hi h=>a.bet i x hi (b.bet i x (Bk hi a.len) h),fun x o h=>let ⟨o1,h1⟩:=a.there x o h;b.there x o1 h1,MC a.there (fun i x hi h=>b.bet i x hi h) a.nwb b.nwb⟩
section
variable {κ:Kx} {β β':AO} {O O':Addr->Prop} {H H':Hp} {M:Addr->Prop}
mutual
theorem Rep.ext (e:Ext M β H β' H') (hM:∀a,M a->O a) (hO:∀a o,H a=some o->¬O a->¬O' a):∀{x:V3} {y:V},Rep κ β O H x y->Rep κ β' O' H' x y
 |_,_,.non=>.non
 |_,_,.bl b=>.bl b
 |_,_,.int i=>.int i
 |_,_,.str x=>.str x
 |_,_,.ty n=>.ty n
 |_,_,.tup h n o r=>let ⟨h1,n1⟩:=e.keep _ _ h n fun m=>o (hM _ m);.tup h1 n1 (hO _ _ h o) (Reps.ext e hM hO r)
 |_,_,.lst h n o r=>let ⟨h1,n1⟩:=e.keep _ _ h n fun m=>o (hM _ m);.lst h1 n1 (hO _ _ h o) (Reps.ext e hM hO r)
 |_,_,.scr h n o=>let ⟨h1,n1⟩:=e.keep _ _ h n fun m=>o (hM _ m);.scr h1 n1 (hO _ _ h o)
 |_,_,.scrK h=>.scrK h
 |_,_,.dK h n o r=>let ⟨h1,n1⟩:=e.keep _ _ h n fun m=>o (hM _ m);.dK h1 n1 (hO _ _ h o) (RepP.ext e hM hO r)
 |_,_,.dT h n o r=>let ⟨h1,n1⟩:=e.keep _ _ h n fun m=>o (hM _ m);.dT h1 n1 (hO _ _ h o) (RepP.ext e hM hO r)
 |_,_,.obj k h n o r=>let ⟨h1,n1⟩:=e.keep _ _ h n fun m=>o (hM _ m);.obj k h1 n1 (hO _ _ h o) (RepP.ext e hM hO r)
 |_,_,.cls k=>.cls k
 |_,_,.loc l h=>.loc (Bk l e.len) fun a q=>h a (e.bet _ _ l q)
theorem Reps.ext (e:Ext M β H β' H') (hM:∀a,M a->O a) (hO:∀a o,H a=some o->¬O a->¬O' a):∀{x:List V3} {y:List V},Reps κ β O H x y->Reps κ β' O' H' x y
 |_,_,.nil=>.nil
 |_,_,.cons a r=>.cons (Rep.ext e hM hO a) (Reps.ext e hM hO r)
theorem RepP.ext (e:Ext M β H β' H') (hM:∀a,M a->O a) (hO:∀a o,H a=some o->¬O a->¬O' a):∀{α:Type} {x:List (α×V3)} {y:List (α×V)},RepP κ β O H x y->RepP κ β' O' H' x y
 |_,_,_,.nil=>.nil
 |_,_,_,.cons a r=>.cons (Rep.ext e hM hO a) (RepP.ext e hM hO r)
end
end
section
variable {κ:Kx} {β β':AO} {O O':Addr->Prop} {H H':Hp} {M:Addr->Prop}
def Rep.sub (h:∀a,O' a->O a) {x:V3} {y:V} (r:Rep κ β O H x y):Rep κ β O' H x y:=r.ext (M:=No) Ext.refl (fun _ z=>z.elim) fun a _ _ n m=>n (h a m)
def Reps.sub (h:∀a,O' a->O a) {x:List V3} {y:List V} (r:Reps κ β O H x y):Reps κ β O' H x y:=r.ext (M:=No) Ext.refl (fun _ z=>z.elim) fun a _ _ n m=>n (h a m)
def RepP.sub (h:∀a,O' a->O a) {α:Type} {x:List (α×V3)} {y:List (α×V)} (r:RepP κ β O H x y):RepP κ β O' H x y:=r.ext (M:=No) Ext.refl (fun _ z=>z.elim) fun a _ _ n m=>n (h a m)
def Rep.ext0 (e:Ext No β H β' H') {x:V3} {y:V} (r:Rep κ β O H x y):Rep κ β' O H' x y:=r.ext e (fun _ z=>z.elim) fun _ _ _ n=>n
def Reps.ext0 (e:Ext No β H β' H') {x:List V3} {y:List V} (r:Reps κ β O H x y):Reps κ β' O H' x y:=r.ext e (fun _ z=>z.elim) fun _ _ _ n=>n
def RepP.ext0 (e:Ext No β H β' H') {α:Type} {x:List (α×V3)} {y:List (α×V)} (r:RepP κ β O H x y):RepP κ β' O H' x y:=r.ext e (fun _ z=>z.elim) fun _ _ _ n=>n
theorem Reps.length:∀{x:List V3} {y:List V},Reps κ β O H x y->x.length=y.length
 |_,_,.nil=>rfl
 |_,_,.cons _ r=>congrArg (· +1) r.length
theorem RepP.length {α:Type}:∀{x:List (α×V3)} {y:List (α×V)},RepP κ β O H x y->x.length=y.length
 |_,_,.nil=>rfl
 |_,_,.cons _ r=>congrArg (· +1) r.length
theorem Reps.get:∀{xs:List V3} {ys:List V} {i:Nat} {x:V3},Reps κ β O H xs ys->xs[i]? =some x->∃y,ys[i]? =some y/\Rep κ β O H x y
 |_,_,_,_,.nil,e=>by simp at e
 |_,_,0,_,.cons r _,e=>by simp at e;subst e;exact⟨_,rfl,r⟩
 |_,_,i+1,x,.cons _ t,e=>by
  obtain⟨u,h1,h2⟩:=Reps.get (i:=i) (x:=x) t (by simpa using e)
  exact⟨u,by simpa using h1,h2⟩
theorem Reps.get':∀{xs:List V3} {ys:List V} {i:Nat} {y:V},Reps κ β O H xs ys->ys[i]? =some y->∃x,xs[i]? =some x/\Rep κ β O H x y
 |_,_,_,_,.nil,e=>by simp at e
 |_,_,0,_,.cons r _,e=>by simp at e;subst e;exact⟨_,rfl,r⟩
 |_,_,i+1,x,.cons _ t,e=>by
  obtain⟨u,h1,h2⟩:=Reps.get' (i:=i) (y:=x) t (by simpa using e)
  exact⟨u,by simpa using h1,h2⟩
theorem Reps.append:∀{xs:List V3} {ys:List V} {xs':List V3} {ys':List V},Reps κ β O H xs ys->Reps κ β O H xs' ys'->Reps κ β O H (xs++xs') (ys++ys')
 |_,_,_,_,.nil,s=>s
 |_,_,_,_,.cons r t,s=>.cons r (Reps.append t s)
theorem Reps.set {x:V3} {u:V} (r:Rep κ β O H x u):∀{xs:List V3} {us:List V} (i:Nat),Reps κ β O H xs us->Reps κ β O H (xs.set i x) (us.set i u)
 |_,_,_,.nil=>.nil
 |_,_,0,.cons _ t=>.cons r t
 |_,_,i+1,.cons q t=>.cons q (Reps.set r i t)
theorem Reps.take:∀{xs:List V3} {us:List V} (n:Nat),Reps κ β O H xs us->Reps κ β O H (xs.take n) (us.take n)
 |_,_,0,_=>.nil
 |_,_,_+1,.nil=>.nil
 |_,_,n+1,.cons r t=>.cons r (Reps.take n t)
theorem Reps.drop:∀{xs:List V3} {us:List V} (n:Nat),Reps κ β O H xs us->Reps κ β O H (xs.drop n) (us.drop n)
 |_,_,0,r=>r
 |_,_,_+1,.nil=>.nil
 |_,_,n+1,.cons _ t=>Reps.drop n t
theorem Reps.eraseIdx:∀{xs:List V3} {us:List V} (i:Nat),Reps κ β O H xs us->Reps κ β O H (xs.eraseIdx i) (us.eraseIdx i)
 |_,_,_,.nil=>.nil
 |_,_,0,.cons _ t=>t
 |_,_,i+1,.cons q t=>.cons q (Reps.eraseIdx i t)
theorem Reps.dropLast {xs:List V3} {us:List V} (h:Reps κ β O H xs us):Reps κ β O H xs.dropLast us.dropLast:=by
 rw[List.dropLast_eq_take,List.dropLast_eq_take,h.length];exact h.take _
theorem Reps.rep {xs:List V3} {us:List V} (h:Reps κ β O H xs us):∀k:Nat,Reps κ β O H (List.replicate k xs).flatten (List.replicate k us).flatten
 |0=>.nil
 |k+1=>by
  rw[Du,Du,Dv,Dv];exact h.append (Reps.rep h k)
theorem RepP.lookup {α:Type} [BEq α] {f:α} {x:V3}:∀{xs:List (α×V3)} {ys:List (α×V)},RepP κ β O H xs ys->xs.lookup f=some x->∃y,ys.lookup f=some y/\Rep κ β O H x y
 |_,_,.nil,e=>by cases e
 |_,_,.cons (k:=k) r t,e=>by
  rw[Cm]at e ⊢;cases q:f==k with
  |true=>rw[q]at e;cases e;exact⟨_,rfl,r⟩
  |false=>rw[q]at e;exact RepP.lookup t e
theorem RepP.lookup_none {α:Type} [BEq α] {f:α}:∀{xs:List (α×V3)} {ys:List (α×V)},RepP κ β O H xs ys->xs.lookup f=none->ys.lookup f=none
 |_,_,.nil,_=>rfl
 |_,_,.cons (k:=k) r t,e=>by
  rw[Cm]at e ⊢;cases q:f==k with
  |true=>rw[q]at e;cases e
  |false=>rw[q]at e;exact RepP.lookup_none t e
end
def CellR (κ:Kx) (β:AO) (O:Addr->Prop) (H:Hp):C3->Addr->Prop
 |.lst xs,a=> ∃ys,H a=some (.lst ys)/\Reps κ β O H xs ys
 |.dK kvs,a=> ∃ws,H a=some (.dK ws)/\RepP κ β O H kvs ws
 |.dT kvs,a=> ∃ws,H a=some (.dT ws)/\RepP κ β O H kvs ws
 |.ins c fs,a=> ∃C dx gs,κ.cl c=some C/\H a=some (.ins C dx gs)/\RepP κ β O H fs gs
 |.dead,_=>False
structure RelH (κ:Kx) (O:Addr->Prop) (β:AO) (h:H3) (H:Hp):Prop where
 len:β.length=h.length
 inj:∀(i j:Nat) a,β[i]? =some (some a)->β[j]? =some (some a)->i=j
 off:∀a,O a->some a∉β
 trk:∀a,O a->∃o,H a=some o/\∀ys,o≠HO.tup ys
 btr:∀(i:Nat) a,β[i]? =some (some a)->∃o,H a=some o/\∀ys,o≠HO.tup ys
 cell:∀(i:Nat) c,h[i]? =some c->c=.dead\/∃a,β[i]? =some (some a)/\CellR κ β O H c a
structure Fr where
 Oi:Addr->Prop
 T:List Addr
 β:AO
 l:AO
 s:S3
 h:H3
def Fr.O (F:Fr):Addr->Prop:=fun a=>a∈F.T\/some a∈F.l\/F.Oi a
def SlotR (κ:Kx) (F:Fr) (H:Hp) (i:Nat):Vl->V->Prop
 |.v x,v=>Rep κ F.β F.O H x v
 |.m c,v=> ∃a,F.l[i]? =some (some a)/\v=.ref a/\CellR κ F.β F.O H c a
structure Rel (κ:Kx) (F:Fr) (σ:St) (H:Hp):Prop where
 heap:RelH κ F.O F.β F.h H
 slen:F.s.length=σ.length
 llen:F.l.length=F.s.length
 linj:∀(i j:Nat) a,F.l[i]? =some (some a)->F.l[j]? =some (some a)->i=j
 lt:∀a,some a∈F.l->a∉F.T
 lo:∀a,some a∈F.l->¬F.Oi a
 to:∀a∈F.T,¬F.Oi a
 tn:F.T.Nodup
 slot:∀(i:Nat) x,F.s[i]? =some (some x)->∃v,σ[i]? =some (some v)/\SlotR κ F H i x v
section
variable {κ:Kx} {β β':AO} {O O':Addr->Prop} {H H':Hp} {M:Addr->Prop} {c:C3} {a:Addr} {h:H3}
theorem CellR.sub (hs:∀a,O' a->O a) (r:CellR κ β O H c a):CellR κ β O' H c a:=by
 cases c with
 |lst xs=>obtain⟨_,q,r⟩:=r;exact⟨_,q,r.sub hs⟩
 |dK xs=>obtain⟨_,q,r⟩:=r;exact⟨_,q,r.sub hs⟩
 |dT xs=>obtain⟨_,q,r⟩:=r;exact⟨_,q,r.sub hs⟩
 |ins c fs=>obtain⟨_,_,_,k,q,r⟩:=r;exact⟨_,_,_,k,q,r.sub hs⟩
 |dead=>exact r
theorem CellR.ext (e:Ext M β H β' H') (hM:∀a,M a->O a) (hO:∀a o,H a=some o->¬O a->¬O' a) (hb:∀o,H a=some o->H' a=some o) (r:CellR κ β O H c a):CellR κ β' O' H' c a:=by
 cases c with
 |lst xs=>obtain⟨_,q,r⟩:=r;exact⟨_,hb _ q,r.ext e hM hO⟩
 |dK xs=>obtain⟨_,q,r⟩:=r;exact⟨_,hb _ q,r.ext e hM hO⟩
 |dT xs=>obtain⟨_,q,r⟩:=r;exact⟨_,hb _ q,r.ext e hM hO⟩
 |ins c fs=>obtain⟨_,_,_,k,q,r⟩:=r;exact⟨_,_,_,k,hb _ q,r.ext e hM hO⟩
 |dead=>exact r
theorem CellR.fz {x:V3} (hc:c.fz=some x) (hn:some a∉β) (ho: ¬O a) (r:CellR κ β O H c a):Rep κ β O H x (.ref a):=by
 cases c with
 |lst xs=>cases hc;obtain⟨_,q,r⟩:=r;exact .lst q hn ho r
 |dK xs=>cases hc;obtain⟨_,q,r⟩:=r;exact .dK q hn ho r
 |dT xs=>cases hc;obtain⟨_,q,r⟩:=r;exact .dT q hn ho r
 |ins c fs=>cases hc;obtain⟨_,_,_,k,q,r⟩:=r;exact .obj k q hn ho r
 |dead=>exact r.elim
theorem RelH.sub (hs:∀a,O' a->O a) (r:RelH κ O β h H):RelH κ O' β h H:=
 ⟨r.len,r.inj,fun a ha=>r.off a (hs a ha),fun a ha=>r.trk a (hs a ha),r.btr,fun i c hc=>(r.cell i c hc).imp id fun ⟨a,ha,q⟩=>⟨a,ha,q.sub hs⟩⟩
end
abbrev Fr.with (F:Fr) (p:Addr):Fr:={F with T:=p::F.T}
abbrev Fr.to (F:Fr) (β:AO) (h:H3):Fr:={F with β:=β,h:=h}
abbrev Nw (H:Hp):Addr->Prop:=fun p=>H p=none
def Post (κ:Kx) (N:Addr->Prop) (F:Fr) (σ:St) (H:Hp):Vl->V->Prop
 |.v x,v=>Rel κ F σ H/\Rep κ F.β F.O H x v
 |.m c,v=> ∃p,v=.ref p/\Rel κ (F.with p) σ H/\CellR κ F.β (F.with p).O H c p/\N p
def XOk (κ:Kx) (E:XK) (x:X3) (H:Hp):Prop:=∀C,κ.cl x.c=some C->E (.ref C) none H
abbrev Kd (α ω:Type):=Hp->Fr->St->Hp->α->ω->Prop
def BQ {α ω:Type} (K:Kd α ω):Prop:=∀(M:Addr->Prop) β H β1 H1 F σ H' a w,Ext M β H β1 H1->K H1 F σ H' a w->K H F σ H' a w
def Out {α ω:Type} (κ:Kx) (E:XK) (K:Kd α ω) (F:Fr) (σ:St) (H:Hp) (Q:ω->Hp->Prop):Res α->Prop
 |.ok a h'=> ∀β' w H',Ext No F.β H β' H'->K H (F.to β' h') σ H' a w->Q w H'
 |.ex x h'=> ∀β' H',Ext No F.β H β' H'->RelH κ F.Oi β' h' H'->XOk κ E x H'
 |.no=>False
def tOf {α ω:Type} (κ:Kx) (E:XK) (K:Kd α ω) (d:S3->H3->Res α) (σ:St) (H:Hp) (Q:ω->Hp->Prop):Prop:=∃F,Rel κ F σ H/\Out κ E K F σ H Q (d F.s F.h)
def kE (κ:Kx):Kd Vl V:=fun H F σ H' r v=>Post κ (Nw H) F σ H' r v
abbrev zh (κ:Kx) (E:XK) (d:E3):TE:=tOf κ E (kE κ) d
section
variable {κ:Kx} {E:XK} {F:Fr} {σ:St} {H H':Hp} {Q:VK} {p:Addr}
def Fr.O_with {a:Addr} (h:F.O a):(F.with p).O a:=h.imp (fun z=>Ap _ z) id
theorem SlotR.sub {F F':Fr} {i:Nat} {x:Vl} {v:V} (hb:F'.β=F.β) (hl:F'.l=F.l) (hs:∀a,F'.O a->F.O a) (h:SlotR κ F H i x v):SlotR κ F' H i x v:=by
 cases x with
 |v x=>show Rep κ F'.β F'.O H x v;rw[hb];exact Rep.sub hs h
 |m c=>obtain⟨a,h1,h2,h3⟩:=h;refine⟨a,by rw[hl];exact h1,h2,?_⟩;rw[hb];exact h3.sub hs
def Rel.drop (h:Rel κ (F.with p) σ H):Rel κ F σ H where
 heap:=h.heap.sub fun a ha=>Fr.O_with ha
 slen:=h.slen
 llen:=h.llen
 linj:=h.linj
 lt:=fun a ha z=>h.lt a ha (Ap _ z)
 lo:=h.lo
 to:=fun a ha=>h.to a (Ap _ ha)
 tn:=(Bn.mp h.tn).2
 slot:=fun i x e=>let ⟨v,a,b⟩:=h.slot i x e;⟨v,a,SlotR.sub (F:=F.with p) (F':=F) rfl rfl (fun a ha=>Fr.O_with ha) b⟩
def Rel.apart (h:Rel κ (F.with p) σ H): ¬F.O p:=fun z=>by
 rcases z with z|z|z
 .exact (Bn.mp h.tn).1 z
 .exact h.lt p z Ak
 .exact h.to p Ak z
def Rel.offp (h:Rel κ (F.with p) σ H):some p∉F.β:=h.heap.off p (.inl Ak)
theorem Post.fz {N:Addr->Prop} {x:Vl} {y:V3} {v:V} (h:Post κ N F σ H x v) (e:x.fz=some y):Rel κ F σ H/\Rep κ F.β F.O H y v:=by
 cases x with
 |v x=>cases e;exact h
 |m c=>
  obtain⟨p,rfl,r,q,_⟩:=h;exact⟨r.drop,(q.sub (O':=F.O) fun a ha=>Fr.O_with ha).fz e r.offp r.apart⟩
def Post.imp {N N':Addr->Prop} {x:Vl} {v:V} (h:Post κ N F σ H x v) (k:∀p,N p->N' p):Post κ N' F σ H x v:=by
 cases x with
 |v x=>exact h
 |m c=>obtain⟨p,h1,h2,h3,h4⟩:=h;exact⟨p,h1,h2,h3,k p h4⟩
def Ext.nw {M:Addr->Prop} {β β':AO} {H0 H1:Hp} (e:Ext M β H0 β' H1):∀p,Nw H1 p->Nw H0 p:=fun p h=>by
 cases w:H0 p with
 |none=>exact w
 |some o=>obtain⟨o',z⟩:=e.there p o w;rw[h]at z;cases z
def Rel.slotExt {β':AO} {h':H3} (r:Rel κ F σ H) (e:Ext No F.β H β' H') {i:Nat} {x:Vl} {v:V} (q:SlotR κ F H i x v):SlotR κ (F.to β' h') H' i x v:=by
 cases x with
 |v x=>exact Rep.ext0 e q
 |m c=>
  obtain⟨a,h1,h2,h3⟩:=q;have ha:F.O a:= .inr (.inl (Al h1));exact⟨a,h1,h2,h3.ext e (fun _ z=>z.elim) (fun _ _ _ n=>n) fun o ho=>(e.keep a o ho (r.heap.off a ha) fun z=>z).1⟩
def Rel.next {β':AO} {h':H3} (r:Rel κ F σ H) (e:Ext No F.β H β' H') (rh:RelH κ F.O β' h' H'):Rel κ (F.to β' h') σ H' where
 heap:=rh
 slen:=r.slen
 llen:=r.llen
 linj:=r.linj
 lt:=r.lt
 lo:=r.lo
 to:=r.to
 tn:=r.tn
 slot:=fun i x hx=>let ⟨v,a,b⟩:=r.slot i x hx;⟨v,a,r.slotExt e b⟩
def Out.move {α ω:Type} {K:Kd α ω} {Q:ω->Hp->Prop} {r:Res α} {β':AO} {h':H3} (hK:BQ K) (e:Ext No F.β H β' H') (o:Out κ E K F σ H Q r):Out κ E K (F.to β' h') σ H' Q r:=by
 cases r with
 |ok x h2=>exact fun β2 v H2 e2 p=>o β2 v H2 (e.trans0 e2) (hK _ _ _ _ _ _ _ _ _ _ e p)
 |ex x h2=>exact fun β2 H2 e2 p=>o β2 H2 (e.trans0 e2) p
 |no=>exact o
def zR:BQ (kE κ):=fun M β H β1 H1 F σ H' a w e h=>Post.imp h e.nw
def tOf.mono {α ω:Type} {K:Kd α ω} {Q Q':ω->Hp->Prop} {d:S3->H3->Res α} (h:tOf κ E K d σ H Q) (k:∀v H,Q v H->Q' v H):tOf κ E K d σ H Q':=by
 obtain⟨F,rel,o⟩:=h
 refine⟨F,rel,?_⟩
 cases q:d F.s F.h with
 |ok r h1=>rw[q]at o;exact fun β v H' e p=>k _ _ (o β v H' e p)
 |ex x h1=>rw[q]at o;exact o
 |no=>rw[q]at o;exact o
def z9 {α ω α' ω':Type} {K:Kd α ω} {K':Kd α' ω'} {Q:ω'->Hp->Prop} {a:S3->H3->Res α} {k:α->H3->Res α'} (hK:BQ K') (rel:Rel κ F σ H) (h:Out κ E K' F σ H Q ((a F.s F.h).bind k)):
  tOf κ E K a σ H (fun w H1=> ∃β1 h1 x,Ext No F.β H β1 H1/\K H (F.to β1 h1) σ H1 x w/\Out κ E K' (F.to β1 h1) σ H1 Q (k x h1)):=by
 refine⟨F,rel,?_⟩
 cases q:a F.s F.h with
 |no=>rw[q]at h;exact h
 |ex x h1=>rw[q]at h;exact h
 |ok r h1=>rw[q]at h;exact fun β1 v H1 e p=>⟨β1,h1,r,e,p,Out.move hK e h⟩
def yW {β:AO} {o:HO} (hp:H p=none):Ext No β H β (zk H p o):=
 ⟨fun a u ha hn _=>⟨by rw[zQ (qk ha hp)];exact ha,hn⟩,Af _,fun _ _ _ h=>h,fun a u ha=>⟨u,by rw[zQ (qk ha hp)];exact ha⟩,nwb0⟩
def RelH.trk' {O:Addr->Prop} {β:AO} {h:H3} (r:RelH κ O β h H) (a:Addr) (ha:O a):∃o,H a=some o:=let ⟨u,q,_⟩:=r.trk a ha;⟨u,q⟩
def RelH.btr' {O:Addr->Prop} {β:AO} {h:H3} (r:RelH κ O β h H) (i:Nat) (a:Addr) (e:β[i]? =some (some a)):∃o,H a=some o:=let ⟨u,q,_⟩:=r.btr i a e;⟨u,q⟩
def CellR.nt {β:AO} {O:Addr->Prop} {c:C3} {u:HO} {l:Addr} (h:CellR κ β O (zk H l u) c l):∀ys,u≠HO.tup ys:=by
 intro ys z;subst z;cases c with
 |lst xs=>obtain⟨_,e,_⟩:=h;rw[yM]at e;cases e
 |dK xs=>obtain⟨_,e,_⟩:=h;rw[yM]at e;cases e
 |dT xs=>obtain⟨_,e,_⟩:=h;rw[yM]at e;cases e
 |ins c fs=>obtain⟨_,_,_,_,e,_⟩:=h;rw[yM]at e;cases e
 |dead=>exact h
def RelH.off_new {O:Addr->Prop} {β:AO} {h:H3} (r:RelH κ O β h H) (hp:H p=none):some p∉β/\¬O p:=by
 refine⟨fun z=>?_,fun z=>?_⟩
 .obtain⟨i,hi⟩:=B6 z
  obtain⟨o,ho,_⟩:=r.btr i p hi;rw[hp]at ho;cases ho
 .obtain⟨o,ho,_⟩:=r.trk p z
  rw[hp]at ho;cases ho
def RelH.laid {O:Addr->Prop} {β:AO} {h:H3} {o:HO} (r:RelH κ O β h H) (hp:H p=none):RelH κ O β h (zk H p o):=by
 have k:∀a u,H a=some u->zk H p o a=some u:=fun a u ha=>by rw[zQ (qk ha hp)];exact ha
 exact⟨r.len,r.inj,r.off,fun a ha=>let ⟨u,q,n⟩:=r.trk a ha;⟨u,k a u q,n⟩,fun i a e=>let ⟨u,q,n⟩:=r.btr i a e;⟨u,k a u q,n⟩,
  fun i c hc=>(r.cell i c hc).imp id fun ⟨a,ha,q⟩=>⟨a,ha,q.ext (yW hp) (fun _ z=>z.elim) (fun _ _ _ n=>n) fun u hu=>k a u hu⟩⟩
theorem Rel.laid {o:HO} (r:Rel κ F σ H) (hp:H p=none):Rel κ F σ (zk H p o):=r.next (yW hp) (r.heap.laid hp)
def O_ne {a:Addr} (h:(F.with p).O a) (hne:a≠p):F.O a:=by
 rcases h with h|h
 .rcases Ag.mp h with h|h
  .exact absurd h hne
  .exact .inl h
 .exact .inr h
def Rel.new {o:HO} (r:Rel κ F σ H) (hp:H p=none) (ho:∀ys,o≠HO.tup ys:=by intro _ z;cases z):Rel κ (F.with p) σ (zk H p o)/\∀{x:V3} {y:V},Rep κ F.β F.O H x y->Rep κ F.β (F.with p).O (zk H p o) x y:=by
 obtain⟨n1,n2⟩:=r.heap.off_new hp;have e:Ext No F.β H F.β (zk H p o):=yW hp;have hM:∀a,No a->F.O a:=fun _ z=>z.elim
 have hO:∀a u,H a=some u->¬F.O a->¬(F.with p).O a:=fun a u ha n z=>n (O_ne z (qk ha hp))
 have k:∀a u,H a=some u->zk H p o a=some u:=fun a u ha=>by rw[zQ (qk ha hp)];exact ha
 refine⟨⟨⟨r.heap.len,r.heap.inj,fun a ha=>?_,fun a ha=>?_,fun i a q=>let ⟨u,z,n⟩:=r.heap.btr i a q;⟨u,k a u z,n⟩,fun i c hc=>(r.heap.cell i c hc).imp id fun ⟨a,ha,q⟩=>⟨a,ha,q.ext e hM hO fun u hu=>k a u hu⟩⟩,
  r.slen,r.llen,r.linj,?_,r.lo,?_,Bn.mpr ⟨fun z=>n2 (.inl z),r.tn⟩,fun i x q=>?_⟩,fun h=>h.ext e hM hO⟩
 .by_cases z:a=p
  .subst z;exact n1
  .exact r.heap.off a (O_ne ha z)
 .by_cases z:a=p
  .subst z;exact⟨o,yM,ho⟩
  .obtain⟨u,q,n⟩:=r.heap.trk a (O_ne ha z);exact⟨u,k a u q,n⟩
 .intro a ha z
  rcases Ag.mp z with z|z
  .subst z;exact n2 (.inr (.inl ha))
  .exact r.lt a ha z
 .intro a ha z
  rcases Ag.mp ha with h|h
  .subst h;exact n2 (.inr (.inr z))
  .exact r.to a h z
 .obtain⟨v,h1,h2⟩:=r.slot i x q
  refine⟨v,h1,?_⟩
  cases x with
  |v x=>exact Rep.ext e hM hO h2
  |m c=>
   obtain⟨a,a1,a2,a3⟩:=h2;exact⟨a,a1,a2,a3.ext e hM hO fun u hu=>k a u hu⟩
def Out.val {x:V3} {v:V} (o:Out κ E (kE κ) F σ H Q (.ok (.v x) F.h)) (rel:Rel κ F σ H) (r:Rep κ F.β F.O H x v):Q v H:=o F.β v H Ext.refl ⟨rel,r⟩
inductive Rf where
 |x (v:V3)|s (i:Nat)
abbrev P3:=S3->H3->Res Rf
noncomputable def pV (i:Nat):P3:=fun s h=>match s[i]? with
 |some (some (.v x))=>.ok (.x x) h
 |some (some (.m _))=>.ok (.s i) h
 |_=>.no
def pE (e:E3):P3:=fun s h=>(e s h).bind fun r h1=>match r.fz with
 |some x=>.ok (.x x) h1
 |none=>.no
def RfR (κ:Kx) (F:Fr) (H:Hp):Rf->V->Prop
 |.x y,v=>Rep κ F.β F.O H y v
 |.s i,v=> ∃a c,F.l[i]? =some (some a)/\v=.ref a/\F.s[i]? =some (some (.m c))/\CellR κ F.β F.O H c a
def kP (κ:Kx):Kd Rf V:=fun _ F σ H' f v=>Rel κ F σ H'/\RfR κ F H' f v
abbrev zi (κ:Kx) (E:XK) (d:P3):TE:=tOf κ E (kP κ) d
def km_P:BQ (kP κ):=fun _ _ _ _ _ _ _ _ _ _ _ h=>h
theorem RfR.ext {β':AO} {h':H3} {f:Rf} {v:V} (rel:Rel κ F σ H) (e:Ext No F.β H β' H') (r:RfR κ F H f v):RfR κ (F.to β' h') H' f v:=by
 cases f with
 |x y=>exact Rep.ext0 e r
 |s i=>
  obtain⟨a,c,h1,h2,h3,h4⟩:=r;have ha:F.O a:= .inr (.inl (Al h1));exact⟨a,c,h1,h2,h3,h4.ext e (fun _ z=>z.elim) (fun _ _ _ n=>n) fun o ho=>(e.keep a o ho (rel.heap.off a ha) fun z=>z).1⟩
noncomputable def rdl (s:S3) (h:H3):Rf->Option (List V3)
 |.x (.lst xs)=>some xs
 |.x (.scr ns)=>some (ns.map .int)
 |.x (.loc n)=>match h[n]? with
  |some (.lst xs)=>some xs
  |_=>none
 |.s i=>match s[i]? with
  |some (some (.m (.lst xs)))=>some xs
  |_=>none
 |_=>none
def jE {f:Rf} {v:V} {xs:List V3} (rel:Rel κ F σ H) (r:RfR κ F H f v) (e:rdl F.s F.h f=some xs):∃a ys,v=.ref a/\SqL κ.K H a ys/\Reps κ F.β F.O H xs ys:=by
 cases f with
 |s i=>
  obtain⟨a,c,h1,h2,h3,h4⟩:=r;simp only[rdl,h3]at e;cases c<;>simp at e
  subst e;obtain⟨ys,h5,h6⟩:=h4;exact⟨a,ys,h2,.of h5,h6⟩
 |x y=>
  cases y<;>simp[rdl]at e
  case lst zs=>
   subst e;cases r with
   |lst h1 h2 h3 h4=>exact⟨_,_,rfl,.of h1,h4⟩
  case scr ns=>
   subst e;have g:∀l:List Int,Reps κ F.β F.O H (l.map V3.int) (l.map V.int):=fun l=>by
    induction l with
    |nil=>exact .nil
    |cons x r ih=>exact .cons (.int x) ih
   cases r with
   |scr h1 h2 h3=>exact⟨_,_,rfl,.inl (.inr ⟨_,h1⟩),g ns⟩
   |scrK h=>exact⟨_,_,rfl,.inr h,g ns⟩
  case loc n=>
   cases r with
   |loc h1 h2=>
    cases q:F.h[n]? with
    |none=>rw[q]at e;cases e
    |some c=>
     rw[q]at e;cases c<;>simp at e
     subst e
     rcases rel.heap.cell n _ q with z|⟨a,ha,ys,h5,h6⟩
     .cases z
     .exact⟨a,ys,h2 a ha,.of h5,h6⟩
end
abbrev A3:=S3->H3->Res (List Rf)
def aNil:A3:=fun _ h=>.ok [] h
def aCons (p:P3) (a:A3):A3:=fun s h=>(p s h).bind fun f h1=>(a s h1).bind fun fs h2=>.ok (f::fs) h2
def kA (κ:Kx):Kd (List Rf) (List V):=fun _ F σ H' fs vs=>Rel κ F σ H'/\Paired (RfR κ F H') fs vs
abbrev zN (κ:Kx) (E:XK) (d:A3):TA:=tOf κ E (kA κ) d
noncomputable def vals3:List Rf->Option (List V3)
 | []=>some []
 |.x v::r=>(vals3 r).map (v:: ·)
 |.s _::_=>none
abbrev T3:=S3->H3->Res Bool
def kT (κ:Kx):Kd Bool Bool:=fun _ F σ H' b b'=>b'=b/\Rel κ F σ H'
abbrev zK (κ:Kx) (E:XK) (d:T3):TT:=tOf κ E (kT κ) d
section
variable {X:Cx} {κ:Kx} {E:XK} {F:Fr} {σ:St} {H H':Hp} {Q:VK} {p:Addr} {e a b:Expr} {pos:Pos} {i:Nat}
def km_A:BQ (kA κ):=fun _ _ _ _ _ _ _ _ _ _ _ h=>h
def km_T:BQ (kT κ):=fun _ _ _ _ _ _ _ _ _ _ _ h=>h
def yC {t t':TE} (h:PE X e t) (w:∀σ H Q,t' σ H Q->t σ H Q):PE X e t':=fun pins s σ H Q I q=>h pins s σ H Q I (w σ H Q q)
def PTw {t t':TT} (h:PT X e t) (w:∀σ H Q,t' σ H Q->t σ H Q):PT X e t':=fun pins s σ H Q I q=>h pins s σ H Q I (w σ H Q q)
def PWw {t t':TT} (h:PW X e t) (w:∀σ H Q,t' σ H Q->t σ H Q):PW X e t':=fun wh pins s σ H Q I q=>h wh pins s σ H Q I (w σ H Q q)
def PAw {es:List Expr} {t t':TA} (h:PA X es t) (w:∀σ H Q,t' σ H Q->t σ H Q):PA X es t':=fun pos pins s σ H Q I q=>h pos pins s σ H Q I (w σ H Q q)
noncomputable def eV (i:Nat):E3:=fun s h=>match s[i]? with
 |some (some (.v x))=>.ok (.v x) h
 |_=>.no
def eC (x:V3):E3:=fun _ h=>.ok (.v x) h
abbrev kJ (n:Int):P3:=pE (eC (.int n))
def r_v (hv:PE X e (tVar i)):PE X e (zh κ E (eV i)):=yC hv fun σ H Q ⟨F,rel,o⟩=>by
 unfold eV at o;cases q:F.s[i]? with
 |none=>rw[q]at o;exact o.elim
 |some z=>
  rw[q]at o
  match z,q,o with
  |none,q,o=>exact o.elim
  |some (.m c),q,o=>exact o.elim
  |some (.v x),q,o=>
   obtain⟨v,h1,h2⟩:=rel.slot i _ q;exact⟨v,h1,o.val rel h2⟩
def rp_v (hv:PE X e (tVar i)):PE X e (zi κ E (pV i)):=yC hv fun σ H Q ⟨F,rel,o⟩=>by
 unfold pV at o;cases q:F.s[i]? with
 |none=>rw[q]at o;exact o.elim
 |some z=>
  rw[q]at o
  match z,q,o with
  |none,q,o=>exact o.elim
  |some (.m c),q,o=>
   obtain⟨v,h1,a,h2,h3,h4⟩:=rel.slot i _ q;exact⟨v,h1,o F.β v H Ext.refl ⟨rel,a,c,h2,h3,q,h4⟩⟩
  |some (.v x),q,o=>
   obtain⟨v,h1,h2⟩:=rel.slot i _ q;exact⟨v,h1,o F.β v H Ext.refl ⟨rel,h2⟩⟩
def zb {d:E3} (h:PE X e (zh κ E d)):PE X e (zi κ E (pE d)):=yC h fun σ H Q ⟨F,rel,o⟩=>
 (z9 (K:=kE κ) km_P rel o).mono fun v H1 ⟨β1,h1,x,e1,p1,o1⟩=>by
  cases z:x.fz with
  |none=>simp only[z]at o1;exact o1.elim
  |some y=>
   simp only[z]at o1;obtain⟨r1,r2⟩:=Post.fz p1 z;exact o1 β1 v H1 Ext.refl ⟨r1,r2⟩
def yX {x:V3} {v:V} (hc:PE X e (tC v)) (r:∀β O H,Rep κ β O H x v):PE X e (zh κ E (eC x)):=yC hc fun σ H Q ⟨F,rel,o⟩=>o.val rel (r _ _ _)
def AZ {i j pos}:PE X (.Constant (.int i) j pos) (zh κ E (eC (.int i))):=yX PJ fun _ _ _=>.int i
def r_bl {b j pos}:PE X (.Constant (.bool b) j pos) (zh κ E (eC (.bl b))):=yX PK fun _ _ _=>.bl b
def ET {j pos}:PE X (.Constant .none j pos) (zh κ E (eC .non)):=yX PL fun _ _ _=>.non
def MD {x j pos}:PE X (.Constant (.str x) j pos) (zh κ E (eC (.str x))):=yX PM fun _ _ _=>.str x
def zj:PA X [] (zN κ E aNil):=PAw QS fun σ H Q ⟨F,rel,o⟩=>o F.β [] H Ext.refl ⟨rel,.nil⟩
def ze {es:List Expr} {d:P3} {t:A3} (ha:PE X e (zi κ E d)) (hr:PA X es (zN κ E t)) (hs:SE X e es:=by rfl):PA X (e::es) (zN κ E (aCons d t)):=
 PAw (QT ha hr hs) fun σ H Q ⟨F,rel,o⟩=>
  (z9 (K:=kP κ) km_A rel o).mono fun v H1 ⟨β1,h1,x,e1,⟨r1,rf1⟩,o1⟩=>
   (z9 (F:=F.to β1 h1) (K:=kA κ) km_A r1 o1).mono fun vs H2 ⟨β2,h2,fs,e2,⟨r2,rf2⟩,o2⟩=>o2 β2 (v::vs) H2 Ext.refl ⟨r2,.cons (RfR.ext (F:=F.to β1 h1) (β':=β2) (h':=h2) r1 e2 rf1) rf2⟩
theorem CI:∀{fs:List Rf} {vs:List V} {xs:List V3},Paired (RfR κ F H) fs vs->vals3 fs=some xs->Reps κ F.β F.O H xs vs
 |_,_,_,.nil,e=>by cases e;exact .nil
 |f::fs,v::vs,xs,.cons q t,e=>by
  cases f with
  |s i=>cases e
  |x y=>
   unfold vals3 at e;cases z:vals3 fs with
   |none=>rw[z]at e;cases e
   |some l=>rw[z]at e;cases e;exact .cons q (CI t z)
abbrev F2:=S3->H3->Rf->Rf->Option Vl
def opt (h:H3):Option Vl->Res Vl
 |some z=>.ok z h
 |none=>.no
def eOp (f:F2) (a b:P3):E3:=fun s h=>(a s h).bind fun x h1=>(b s h1).bind fun y h2=>opt h2 (f s h2 x y)
def OpSim (κ:Kx) (r:R2) (f:F2):Prop:=∀(F:Fr) (σ:St) (H:Hp) (x y:Rf) (z:Vl) (v w:V) (Q:VK),Rel κ F σ H->RfR κ F H x v->RfR κ F H y w->f F.s F.h x y=some z->
 (∀u H',Ext No F.β H F.β H'->Post κ (Nw H) F σ H' z u->Q u H')->r v w H Q
theorem Out.opt {o:Option Vl} {h:H3} (h0:F.h=h) (q:Out κ E (kE κ) F σ H Q (opt h o)):∃z,o=some z/\∀u H',Ext No F.β H F.β H'->Post κ (Nw H) F σ H' z u->Q u H':=by
 cases o with
 |none=>exact q.elim
 |some z=>subst h0;exact⟨z,rfl,fun u H' e p=>q F.β u H' e p⟩
def EU {r:R2} {f:F2} {a b:P3} (hs:OpSim κ r f) (h:zh κ E (eOp f a b) σ H Q):tOp r (zi κ E a) (zi κ E b) σ H Q:=by
 obtain⟨F,rel,o⟩:=h
 refine (z9 (K:=kP κ) zR rel o).mono fun v H1 ⟨β1,h1,f1,e1,⟨r1,rf1⟩,o1⟩=>?_
 refine (z9 (F:=F.to β1 h1) (K:=kP κ) zR r1 o1).mono fun w H2 ⟨β2,h2,f2,e2,⟨r2,rf2⟩,o2⟩=>?_
 obtain⟨z,q,k⟩:=Out.opt (F:=F.to β2 h2) rfl o2;exact hs (F.to β2 h2) σ H2 f1 f2 z v w Q r2 (RfR.ext (F:=F.to β1 h1) (β':=β2) (h':=h2) r1 e2 rf1) rf2 q k
def zp {op:Operator} {r:R2} {f:F2} {da db:P3} (hs:OpSim κ r f) (ho:OpR X (binaryOp op) r) (ha:PE X a (zi κ E da)) (hb:PE X b (zi κ E db)):PE X (.BinOp a op b pos) (zh κ E (eOp f da db)):=yC (Qx ho ha hb) fun _ _ _ h=>EU hs h
def Hk {op:CmpOp} {r:R2} {f:F2} {da db:P3} (hs:OpSim κ r f) (ho:OpR X (compareOp op) r) (hm:behindInMarks op b=false) (ha:PE X a (zi κ E da)) (hb:PE X b (zi κ E db)):PE X (.Compare a [op] [b] pos) (zh κ E (eOp f da db)):=yC (Q4 ho ha hb hm) fun _ _ _ h=>EU hs h
def r_ix {r:R2} {f:F2} {da db:P3} (hs:OpSim κ r f) (ho:IxR X r) (hm:GZ b) (ha:PE X a (zi κ E da)) (hb:PE X b (zi κ E db)):PE X (.Subscript a b pos) (zh κ E (eOp f da db)):=yC (Ru ho ha hb hm) fun _ _ _ h=>EU hs h
abbrev FB:=S3->H3->List Rf->Option Vl
def eB (f:FB) (a:A3):E3:=fun s h=>(a s h).bind fun fs h1=>opt h1 (f s h1 fs)
def qX (κ:Kx) (r:List V->Hp->VK->Prop) (f:FB):Prop:=∀(F:Fr) (σ:St) (H:Hp) (fs:List Rf) (z:Vl) (vs:List V) (Q:VK),Rel κ F σ H->Paired (RfR κ F H) fs vs->f F.s F.h fs=some z->
 (∀u H',Ext No F.β H F.β H'->Post κ (Nw H) F σ H' z u->Q u H')->r vs H Q
def te_b {r:List V->Hp->VK->Prop} {f:FB} {a:A3} (hs:qX κ r f) (h:zh κ E (eB f a) σ H Q):tCB r (zN κ E a) σ H Q:=by
 obtain⟨F,rel,o⟩:=h
 refine (z9 (K:=kA κ) zR rel o).mono fun vs H1 ⟨β1,h1,fs,e1,⟨r1,rf1⟩,o1⟩=>?_
 obtain⟨z,q,k⟩:=Out.opt (F:=F.to β1 h1) rfl o1;exact hs (F.to β1 h1) σ H1 fs z vs Q r1 rf1 q k
def ME {a:Addr} {u:HO} (hp:H p=none) (ha:H a=some u) (n: ¬F.O a): ¬(F.with p).O a:=fun z=>n (O_ne z (qk ha hp))
theorem Post.lst {xs:List V3} {ys:List V} (rel:Rel κ F σ H) (hp:H p=none) (r:Reps κ F.β F.O H xs ys):Post κ (Nw H) F σ (zk H p (.lst ys)) (.m (.lst xs)) (.ref p):=by
 obtain⟨r1,r2⟩:=rel.new (o:= .lst ys) hp;exact⟨p,rfl,r1,⟨ys,yM,r.ext (yW hp) (fun _ z=>z.elim) fun a u ha n=>ME hp ha n⟩,hp⟩
theorem Post.dT {xs:List (MK×V3)} {ys:List (MK×V)} (rel:Rel κ F σ H) (hp:H p=none) (r:RepP κ F.β F.O H xs ys):Post κ (Nw H) F σ (zk H p (.dT ys)) (.m (.dT xs)) (.ref p):=by
 obtain⟨r1,r2⟩:=rel.new (o:= .dT ys) hp;exact⟨p,rfl,r1,⟨ys,yM,r.ext (yW hp) (fun _ z=>z.elim) fun a u ha n=>ME hp ha n⟩,hp⟩
theorem Post.tup {xs:List V3} {ys:List V} {N:Addr->Prop} (rel:Rel κ F σ H) (hp:H p=none) (r:Reps κ F.β F.O H xs ys):Post κ N F σ (zk H p (.tup ys)) (.v (.tup xs)) (.ref p):=by
 obtain⟨n1,n2⟩:=rel.heap.off_new hp;exact⟨rel.laid hp,.tup yM n1 n2 (r.ext0 (yW hp))⟩
def eTup (a:A3):E3:=fun s h=>(a s h).bind fun fs h1=>match vals3 fs with
 |some xs=>if xs.length<=sizeLine then .ok (.v (.tup xs)) h1 else .no
 |none=>.no
def eLst (a:A3):E3:=fun s h=>(a s h).bind fun fs h1=>match vals3 fs with
 |some xs=>if xs.length<=sizeLine then .ok (.m (.lst xs)) h1 else .no
 |none=>.no
def AB {es:List Expr} {x1} {t:A3} (h:PA X es (zN κ E t)):PE X (.Tuple es x1 pos) (zh κ E (eTup t)):=yC (QU h) fun σ H Q ⟨F,rel,o⟩=>
 (z9 (K:=kA κ) zR rel o).mono fun vs H1 ⟨β1,h1,fs,e1,⟨r1,rf1⟩,o1⟩=>by
  cases q:vals3 fs with
  |none=>simp only[q]at o1;exact o1.elim
  |some xs=>
   simp only[q]at o1;have hr:=CI rf1 q
   by_cases hz:xs.length<=sizeLine
   .rw[Ab hz]at o1
    exact⟨by rw[<-hr.length];exact hz,fun p hp=>o1 β1 (.ref p) _ (yW hp) (Post.tup r1 hp hr)⟩
   .rw[Ac hz]at o1;exact o1.elim
def qz {es:List Expr} {t:A3} (h:PA X es (zN κ E t)):PE X (.List es pos) (zh κ E (eLst t)):=yC (QV h) fun σ H Q ⟨F,rel,o⟩=>
 (z9 (K:=kA κ) zR rel o).mono fun vs H1 ⟨β1,h1,fs,e1,⟨r1,rf1⟩,o1⟩=>by
  cases q:vals3 fs with
  |none=>simp only[q]at o1;exact o1.elim
  |some xs=>
   simp only[q]at o1;have hr:=CI rf1 q
   by_cases hz:xs.length<=sizeLine
   .rw[Ab hz]at o1
    exact⟨by rw[<-hr.length];exact hz,fun p hp=>o1 β1 (.ref p) _ (yW hp) (Post.lst r1 hp hr)⟩
   .rw[Ac hz]at o1;exact o1.elim
def tE (e:E3):T3:=fun s h=>(e s h).bind fun r h1=>match r with
 |.v (.bl b)=>.ok b h1
 |_=>.no
def EV {d:E3} {Q:Bool->Hp->Prop} (h:zK κ E (tE d) σ H Q):zh κ E d σ H (fun x H'=> ∃k,x=.bl k/\Q k H'):=by
 obtain⟨F,rel,o⟩:=h
 refine (z9 (K:=kE κ) km_T rel o).mono fun v H1 ⟨β1,h1,x,e1,p1,o1⟩=>?_
 match x,p1,o1 with
 |.v (.bl b),p1,o1=>
  obtain⟨r1,r2⟩:=p1;cases r2;exact⟨b,rfl,o1 β1 b H1 Ext.refl ⟨rfl,r1⟩⟩
def ye {op:CmpOp} {r:R2} {f:F2} {da db:P3} (hs:OpSim κ r f) (ho:OpR X (compareOp op) r) (hm:behindInMarks op b=false) (ha:PE X a (zi κ E da)) (hb:PE X b (zi κ E db)):PT X (.Compare a [op] [b] pos) (zK κ E (tE (eOp f da db))):=PTw (Q5 ho ha hb hm) fun _ _ _ h=>EU hs (EV h)
def jq {d:E3} (h:PE X e (zh κ E d)) (he:∀whole,isTrue e X.env whole=(do let v <-whole;standAt e.pos;holding [v] (truthy v)):=by intro _;rfl):PT X e (zK κ E (tE d)):=PTw (PN h he) fun _ _ _ q=>EV q
def tAnd3 (a b:T3):T3:=fun s h=>(a s h).bind fun c h1=>if c=true then b s h1 else .ok false h1
def tOr3 (a b:T3):T3:=fun s h=>(a s h).bind fun c h1=>if c=true then .ok true h1 else b s h1
def tNot3 (a:T3):T3:=fun s h=>(a s h).bind fun c h1=>.ok (!c) h1
def DH {t:T3} (ha:PT X a (zK κ E t)):PW X (.BoolOp .And [a] pos) (zK κ E t):=PP ha
def DI {t:T3} (ha:PT X a (zK κ E t)):PW X (.BoolOp .Or [a] pos) (zK κ E t):=PQ ha
def DJ {t u:T3} {rest:List Expr} (ha:PT X a (zK κ E t)) (hb:PW X (.BoolOp .And (b::rest) pos) (zK κ E u)):PW X (.BoolOp .And (a::b::rest) pos) (zK κ E (tAnd3 t u)):=PWw (PR ha hb) fun σ H Q ⟨F,rel,o⟩=>
 (z9 (K:=kT κ) km_T rel o).mono fun c H1 ⟨β1,h1,x,e1,⟨ec,r1⟩,o1⟩=>by
  subst ec;cases c with
  |true=>rw[Ab rfl]at o1 ⊢;exact⟨F.to β1 h1,r1,o1⟩
  |false=>rw[Ac Ba]at o1 ⊢;exact o1 β1 false H1 Ext.refl ⟨rfl,r1⟩
def DK {t u:T3} {rest:List Expr} (ha:PT X a (zK κ E t)) (hb:PW X (.BoolOp .Or (b::rest) pos) (zK κ E u)):PW X (.BoolOp .Or (a::b::rest) pos) (zK κ E (tOr3 t u)):=PWw (PU ha hb) fun σ H Q ⟨F,rel,o⟩=>
 (z9 (K:=kT κ) km_T rel o).mono fun c H1 ⟨β1,h1,x,e1,⟨ec,r1⟩,o1⟩=>by
  subst ec;cases c with
  |true=>rw[Ab rfl]at o1 ⊢;exact o1 β1 true H1 Ext.refl ⟨rfl,r1⟩
  |false=>rw[Ac Ba]at o1 ⊢;exact⟨F.to β1 h1,r1,o1⟩
def AC {t:T3} (ha:PT X a (zK κ E t)):PT X (.UnaryOp .Not a pos) (zK κ E (tNot3 t)):=PTw (PV ha) fun σ H Q ⟨F,rel,o⟩=>
 (z9 (K:=kT κ) km_T rel o).mono fun c H1 ⟨β1,h1,x,e1,⟨ec,r1⟩,o1⟩=>by
  subst ec;exact o1 β1 _ H1 Ext.refl ⟨rfl,r1⟩
def eAnd (a b:E3):E3:=fun s h=>(tE a s h).bind fun c h1=>if c=true then b s h1 else .ok (.v (.bl false)) h1
def eOr (a b:E3):E3:=fun s h=>(tE a s h).bind fun c h1=>if c=true then .ok (.v (.bl true)) h1 else b s h1
def eNot (a:E3):E3:=fun s h=>(tE a s h).bind fun c h1=>.ok (.v (.bl !c)) h1
def EW {d u:E3} {rest:List Expr} (ha:PE X a (zh κ E d)) (hb:PE X (.BoolOp .And (b::rest) pos) (zh κ E u)):PE X (.BoolOp .And (a::b::rest) pos) (zh κ E (eAnd d u)):=yC (Qa ha hb) fun σ H Q ⟨F,rel,o⟩=>by
 refine tOf.mono (EV (z9 (a:=tE d) (K:=kT κ) zR rel o)) fun x H1 ⟨k,ex,β1,h1,c,e1,⟨ec,r1⟩,o1⟩=>⟨k,ex,?_⟩
 subst ec;cases k with
 |true=>rw[Ab rfl]at o1 ⊢;exact⟨F.to β1 h1,r1,o1⟩
 |false=>rw[Ac Ba]at o1 ⊢;exact o1 β1 _ H1 Ext.refl ⟨r1,.bl false⟩
def SA {d:E3} (ha:PE X a (zh κ E d)):PE X (.UnaryOp .Not a pos) (zh κ E (eNot d)):=yC (Qb ha) fun σ H Q ⟨F,rel,o⟩=>by
 refine tOf.mono (EV (z9 (a:=tE d) (K:=kT κ) zR rel o)) fun x H1 ⟨k,ex,β1,h1,c,e1,⟨ec,r1⟩,o1⟩=>⟨k,ex,?_⟩
 subst ec;exact o1 β1 _ H1 Ext.refl ⟨r1,.bl _⟩
def EX {op} {d:E3} (h:PE X a (zh κ E d)):PE X (.BoolOp op [a] pos) (zh κ E d):=PZ h
def eIf (t:T3) (a b:E3):E3:=fun s h=>(t s h).bind fun c h1=>if c=true then a s h1 else b s h1
end
inductive O3 where
 |nx (s:S3) (h:H3)|rt (r:Vl) (h:H3)|bk (s:S3) (h:H3)|ct (s:S3) (h:H3)|ex (x:X3) (h:H3)|no
abbrev D3:=S3->H3->O3
structure SExt (F:Fr) (H:Hp) (F':Fr) (H':Hp):Prop where
 ext:Ext (fun a=>some a∈F.l) F.β H F'.β H'
 lam:∀a,some a∈F'.l->some a∈F.l\/H a=none
 oi:F'.Oi=F.Oi
 tt:F'.T=[]
abbrev NwS (F:Fr) (H:Hp):Addr->Prop:=fun p=>some p∈F.l\/H p=none
def SOut (κ:Kx) (E:XK) (F:Fr) (H:Hp) (D:Ends):O3->Prop
 |.nx s' h'=> ∀F' σ' H',SExt F H F' H'->F'.s=s'->F'.h=h'->Rel κ F' σ' H'->D.nx σ' H'
 |.bk s' h'=> ∀F' σ' H',SExt F H F' H'->F'.s=s'->F'.h=h'->Rel κ F' σ' H'->D.bk σ' H'
 |.ct s' h'=> ∀F' σ' H',SExt F H F' H'->F'.s=s'->F'.h=h'->Rel κ F' σ' H'->D.ct σ' H'
 |.rt r h'=> ∀F' σ' v H',SExt F H F' H'->F'.h=h'->Post κ (NwS F H) F' σ' H' r v->D.rt v H'
 |.ex x h'=> ∀F' H',SExt F H F' H'->RelH κ F'.Oi F'.β h' H'->XOk κ E x H'
 |.no=>False
def zo (κ:Kx) (E:XK) (d:D3):TS:=fun D σ H=> ∃F,Rel κ F σ H/\F.T=[]/\SOut κ E F H D (d F.s F.h)
section
variable {X:Cx} {κ:Kx} {E:XK} {F F1 F2:Fr} {σ σ':St} {H H1 H2 H':Hp} {Q:VK} {r:R} {p:Addr} {e a b:Expr} {pos:Pos} {i:Nat} {D:Ends}
theorem SExt.refl (ht:F.T=[]):SExt F H F H:=⟨Ext.refl,fun _ h=>.inl h,rfl,ht⟩
theorem SExt.trans (a:SExt F H F1 H1) (b:SExt F1 H1 F2 H2):SExt F H F2 H2 where
 ext:=⟨fun x o h n m=>(by
   obtain⟨h1,n1⟩:=a.ext.keep x o h n m
   refine b.ext.keep x o h1 n1 fun z=>?_
   rcases a.lam x z with q|q
   .exact m q
   .rw[h]at q;cases q),Bs a.ext.len b.ext.len,fun i x hi h=>a.ext.bet i x hi (b.ext.bet i x (Bk hi a.ext.len) h),fun x o h=>let ⟨o1,h1⟩:=a.ext.there x o h;b.ext.there x o1 h1,MC a.ext.there (fun i x hi h=>b.ext.bet i x hi h) a.ext.nwb b.ext.nwb⟩
 lam:=fun x h=>by
  rcases b.lam x h with q|q
  .exact a.lam x q
  .cases w:H x with
   |none=>exact .inr rfl
   |some o=>
    obtain⟨o',z⟩:=a.ext.there x o w;rw[q]at z;cases z
 oi:=b.oi.trans a.oi
 tt:=b.tt
def SExt.of0 {β':AO} {h':H3} (ht:F.T=[]) (e:Ext No F.β H β' H'):SExt F H (F.to β' h') H':=
 ⟨⟨fun x o h n _=>e.keep x o h n fun z=>z,e.len,e.bet,e.there,e.nwb⟩,fun _ h=>.inl h,rfl,ht⟩
theorem SOut.move {o:O3} (e:SExt F H F1 H1) (h:SOut κ E F H D o):SOut κ E F1 H1 D o:=by
 cases o with
 |nx s h'=>exact fun F2 σ2 H2 e2=>h F2 σ2 H2 (e.trans e2)
 |bk s h'=>exact fun F2 σ2 H2 e2=>h F2 σ2 H2 (e.trans e2)
 |ct s h'=>exact fun F2 σ2 H2 e2=>h F2 σ2 H2 (e.trans e2)
 |rt r h'=>exact fun F2 σ2 v H2 e2 eh q=>h F2 σ2 v H2 (e.trans e2) eh (q.imp fun p hp=>hp.elim (e.lam p) fun z=>.inr (e.ext.nw p z))
 |ex x h'=>exact fun F2 H2 e2=>h F2 H2 (e.trans e2)
 |no=>exact h
def qg {st:Stmt} {t t':TS} (h:PS X st t) (w:∀D σ H,t' D σ H->t D σ H):PS X st t':=fun pins s σ H D I q=>h pins s σ H D I (w D σ H q)
def PSsw {st:List Stmt} {t t':TS} (h:yS X st t) (w:∀D σ H,t' D σ H->t D σ H):yS X st t':=fun pins s σ H D I q=>h pins s σ H D I (w D σ H q)
def sSkip:D3:=fun s h=>.nx s h
def sSeq (a b:D3):D3:=fun s h=>match a s h with
 |.nx s1 h1=>b s1 h1
 |o=>o
def yx:yS X [] (zo κ E sSkip):=PSsw Qd fun D σ H ⟨F,rel,ht,o⟩=>o F σ H (.refl ht) rfl rfl rel
def zl {st:Stmt} {rest:List Stmt} {da db:D3} (h1:PS X st (zo κ E da)) (h2:yS X rest (zo κ E db)):yS X (st::rest) (zo κ E (sSeq da db)):=PSsw (Qe h1 h2) fun D σ H ⟨F,rel,ht,o⟩=>by
 refine⟨F,rel,ht,?_⟩
 unfold sSeq at o;cases q:da F.s F.h with
 |nx s1 h1=>
  rw[q]at o;intro F' σ' H' e es eh r'
  refine⟨F',r',e.tt,?_⟩
  rw[es,eh];exact SOut.move e o
 |rt r h=>rw[q]at o;exact o
 |bk s h=>rw[q]at o;exact o
 |ct s h=>rw[q]at o;exact o
 |ex x h=>rw[q]at o;exact o
 |no=>rw[q]at o;exact o
def zr {st:Stmt} {da:D3} (h1:PS X st (zo κ E da)):yS X [st] (zo κ E da):=Qf h1
def jC {α:Type} {l:List α} {i j:Nat} {x y:α} (h:(l.set i x)[j]? =some y):(i=j/\y=x)\/(i≠j/\l[j]? =some y):=by
 rw[C4]at h
 by_cases e:i=j
 .rw[Ab e]at h
  by_cases e2:i<l.length
  .rw[Ab e2]at h;exact .inl ⟨e,(Option.some.inj h).symm⟩
  .rw[Ac e2]at h;cases h
 .rw[Ac e]at h;exact .inr ⟨e,h⟩
def jA {l:AO} {i:Nat} {x:Option Addr} {a:Addr} (h:some a∈l.set i x):(x=some a)\/(some a∈l/\∃j,j≠i/\l[j]? =some (some a)):=by
 obtain⟨j,hj⟩:=B6 h
 rcases jC hj with ⟨_,e⟩|⟨n,e⟩
 .exact .inl e.symm
 .exact .inr ⟨Al e,j,fun z=>n z.symm,e⟩
noncomputable abbrev Fr.setV (F:Fr) (i:Nat) (x:V3):Fr:={F with s:=F.s.set i (some (.v x)),l:=F.l.set i none}
noncomputable abbrev Fr.setM (F:Fr) (i:Nat) (c:C3) (p:Addr):Fr:={F with s:=F.s.set i (some (.m c)),l:=F.l.set i (some p)}
noncomputable abbrev Fr.setN (F:Fr) (i:Nat):Fr:={F with s:=F.s.set i none,l:=F.l.set i none}
def EY {F:Fr} {i:Nat} {s:S3} {a:Addr} (h:({F with s:=s,l:=F.l.set i none}:Fr).O a):F.O a:=by
 rcases h with h|h|h
 .exact .inl h
 .rcases jA h with z|z
  .cases z
  .exact .inr (.inl z.1)
 .exact .inr (.inr h)
def Rel.setGen {F:Fr} {i:Nat} {s:S3} {σ':St} (rel:Rel κ F σ H) (hsl:s.length=F.s.length) (hσ:σ'.length=σ.length)
  (hslot:∀(j:Nat) x,s[j]? =some (some x)->(∃v,σ'[j]? =some (some v)/\SlotR κ ({F with s:=s,l:=F.l.set i none}:Fr) H j x v)):Rel κ {F with s:=s,l:=F.l.set i none} σ' H where
 heap:=rel.heap.sub fun a ha=>EY ha
 slen:=by show s.length=_;rw[hsl,hσ];exact rel.slen
 llen:=by show (F.l.set i none).length=s.length;rw[Ce,hsl];exact rel.llen
 linj:=fun j k a h1 h2=>by
  rcases jC h1 with ⟨_,z⟩|⟨_,z1⟩
  .cases z
  .rcases jC h2 with ⟨_,z⟩|⟨_,z2⟩
   .cases z
   .exact rel.linj j k a z1 z2
 lt:=fun a ha=>by
  rcases jA ha with z|z
  .cases z
  .exact rel.lt a z.1
 lo:=fun a ha=>by
  rcases jA ha with z|z
  .cases z
  .exact rel.lo a z.1
 to:=rel.to
 tn:=rel.tn
 slot:=hslot
def Rel.slotNe {F:Fr} {i j:Nat} {s:S3} {x:Vl} {v:V} (hn:i≠j) (q:SlotR κ F H j x v):SlotR κ ({F with s:=s,l:=F.l.set i none}:Fr) H j x v:=by
 cases x with
 |v x=>exact Rep.sub (fun a ha=>EY ha) q
 |m c=>
  obtain⟨a,h1,h2,h3⟩:=q
  refine⟨a,?_,h2,h3.sub fun a ha=>EY ha⟩
  show (F.l.set i none)[j]? =_;rw[C4,Ac hn];exact h1
theorem Rel.setV {x:V3} {v:V} (rel:Rel κ F σ H) (hr:Rep κ F.β F.O H x v) (hi:i<F.s.length):Rel κ (F.setV i x) (σ.set i (some v)) H:=by
 refine rel.setGen (by rw[Ce]) (by rw[Ce]) fun j y hj=>?_
 rcases jC hj with ⟨e,z⟩|⟨n,z⟩
 .subst e;cases z
  refine⟨v,?_,Rep.sub (fun a ha=>EY ha) hr⟩
  rw[C4,Ab rfl,Ab (by rw[<-rel.slen];exact hi)]
 .obtain⟨w,h1,h2⟩:=rel.slot j y z
  exact⟨w,by rw[C4,Ac n];exact h1,Rel.slotNe n h2⟩
theorem Rel.setN {i:Nat} (rel:Rel κ F σ H):Rel κ (F.setN i) σ H:=by
 refine rel.setGen (by rw[Ce]) rfl fun j y hj=>?_
 rcases jC hj with ⟨e,z⟩|⟨n,z⟩
 .cases z
 .obtain⟨w,h1,h2⟩:=rel.slot j y z
  exact⟨w,h1,Rel.slotNe n h2⟩
def Hl {F:Fr} {i:Nat} {s:S3} {a p:Addr} (h:({F with s:=s,l:=F.l.set i (some p)}:Fr).O a):(F.with p).O a:=by
 rcases h with h|h|h
 .exact .inl (Ap _ h)
 .rcases jA h with z|z
  .cases z;exact .inl Ak
  .exact .inr (.inl z.1)
 .exact .inr (.inr h)
theorem Rel.setM {c:C3} (rel:Rel κ (F.with p) σ H) (hr:CellR κ F.β (F.with p).O H c p) (hi:i<F.s.length):Rel κ (F.setM i c p) (σ.set i (some (.ref p))) H where
 heap:=rel.heap.sub fun a ha=>Hl ha
 slen:=by show (F.s.set i _).length=_;rw[Ce,Ce];exact rel.slen
 llen:=by show (F.l.set i _).length=(F.s.set i _).length;rw[Ce,Ce];exact rel.llen
 linj:=fun j k a h1 h2=>by
  rcases jC h1 with ⟨e1,z1⟩|⟨n1,z1⟩<;>rcases jC h2 with ⟨e2,z2⟩|⟨n2,z2⟩
  .lia
  .cases z1;exact absurd Ak (rel.lt p (Al z2))
  .cases z2;exact absurd Ak (rel.lt p (Al z1))
  .exact rel.linj j k a z1 z2
 lt:=fun a ha z=>by
  rcases jA ha with q|q
  .cases q;exact (Bn.mp rel.tn).1 z
  .exact rel.lt a q.1 (Ap _ z)
 lo:=fun a ha=>by
  rcases jA ha with q|q
  .cases q;exact rel.to p Ak
  .exact rel.lo a q.1
 to:=fun a ha=>rel.to a (Ap _ ha)
 tn:=(Bn.mp rel.tn).2
 slot:=fun j y hj=>by
  rcases jC hj with ⟨e,z⟩|⟨n,z⟩
  .subst e;cases z
   refine⟨.ref p,?_,p,?_,rfl,hr.sub fun a ha=>Hl ha⟩
   .rw[C4,Ab rfl,Ab (by rw[<-rel.slen];exact hi)]
   .show (F.l.set i _)[i]? =_
    rw[C4,Ab rfl,Ab (by have h:=rel.llen;show i<F.l.length;rw[show F.l.length=F.s.length from h];exact hi)]
  .obtain⟨w,h1,h2⟩:=rel.slot j y z
   refine⟨w,by rw[C4,Ac n];exact h1,?_⟩
   cases y with
   |v x=>exact Rep.sub (fun a ha=>Hl ha) h2
   |m c=>
    obtain⟨a,q1,q2,q3⟩:=h2
    refine⟨a,?_,q2,q3.sub fun a ha=>Hl ha⟩
    show (F.l.set i _)[j]? =_;rw[C4,Ac n];exact q1
def SExt.setN {s:S3} (ht:F.T=[]):SExt F H ({F with s:=s,l:=F.l.set i none}:Fr) H:=
 ⟨Ext.refl,fun a h=>by
  rcases jA h with z|z
  .cases z
  .exact .inl z.1,rfl,ht⟩
noncomputable def Res.bindS {α:Type} (r:Res α) (k:α->H3->O3):O3:=match r with
 |.ok r h=>k r h
 |.ex x h=>.ex x h
 |.no=>.no
theorem bindS {α ω:Type} {K:Kd α ω} {a:S3->H3->Res α} {k:α->H3->O3} (rel:Rel κ F σ H) (ht:F.T=[]) (o:SOut κ E F H D ((a F.s F.h).bindS k)):
  tOf κ E K a σ H (fun w H1=> ∃β1 h1 x,Ext No F.β H β1 H1/\K H (F.to β1 h1) σ H1 x w/\SOut κ E F H D (k x h1)):=by
 refine⟨F,rel,?_⟩
 cases q:a F.s F.h with
 |no=>rw[q]at o;exact o
 |ex x h1=>rw[q]at o;exact fun β' H' e r=>o (F.to β' h1) H' (SExt.of0 ht e) r
 |ok r h1=>rw[q]at o;exact fun β1 v H1 e p=>⟨β1,h1,r,e,p,o⟩
def sSet (i:Nat) (e:E3):D3:=fun s h=>(e s h).bindS fun r h1=>if i<s.length then .nx (s.set i (some r)) h1 else .no
def IZ {d:E3} (h:zo κ E (sSet i d) D σ H):zh κ E d σ H (fun v H1=>D.nx (σ.set i (some v)) H1):=by
 obtain⟨F,rel,ht,o⟩:=h
 refine (bindS (K:=kE κ) rel ht o).mono fun v H1 ⟨β1,h1,r,e1,p1,o⟩=>?_
 by_cases hi:i<F.s.length
 .rw[Ab hi]at o
  cases r with
  |v x=>
   obtain⟨r1,r2⟩:=p1;exact o ((F.to β1 h1).setV i x) _ H1 ((SExt.of0 (h':=h1) ht e1).trans (SExt.setN ht)) rfl rfl (r1.setV r2 hi)
  |m c=>
   obtain⟨p,rfl,r1,r2,hp⟩:=p1
   refine o ((F.to β1 h1).setM i c p) _ H1 ?_ rfl rfl (r1.setM r2 hi)
   exact⟨(SExt.of0 (h':=h1) ht e1).ext,fun a ha=>by
    rcases jA ha with z|z
    .cases z;exact .inr hp
    .exact .inl z.1,rfl,ht⟩
 .rw[Ac hi]at o;exact o.elim
def CJ {x:Str} {pos':Pos} {d:E3} (hN:X.N.Nodup) (hi:X.N[i]? =some x) (hx:jD X.env.scope x) (he:PE X e (zh κ E d)) (hs:swapsWith e (some (.Name x pos')) pos.line X.env=pure false:=by rfl)
 (hf:X.fn x=true\/X.env.scope.names.lookup x=some .local:=by first|exact .inl rfl|exact .inr rfl|assumption):PS X (.Assign [.Name x pos'] e pos) (zo κ E (sSet i d)):=qg (Ll hN hi hx he hs hf) fun D σ H h=>IZ h
def sExp (e:E3):D3:=fun s h=>(e s h).bindS fun _ h1=>.nx s h1
def EZ {d:E3} (he:PE X e (zh κ E d)) (hs:swapsWith e none pos.line X.env=pure false:=by rfl):PS X (.Expr e pos) (zo κ E (sExp d)):=qg (IA he hs) fun D σ H ⟨F,rel,ht,o⟩=>
 (bindS (K:=kE κ) rel ht o).mono fun v H1 ⟨β1,h1,r,e1,p1,o⟩=>by
  have r1:Rel κ (F.to β1 h1) σ H1:=by
   cases r with
   |v x=>exact p1.1
   |m c=>obtain⟨p,_,r1,_⟩:=p1;exact Rel.drop r1
  exact o (F.to β1 h1) σ H1 (SExt.of0 ht e1) rfl rfl r1
def sRet (e:E3):D3:=fun s h=>(e s h).bindS fun r h1=>.rt r h1
def yh {d:E3} (he:PE X e (zh κ E d)):PS X (.Return (some e) pos) (zo κ E (sRet d)):=qg (Li he) fun D σ H ⟨F,rel,ht,o⟩=>
 (bindS (K:=kE κ) rel ht o).mono fun v H1 ⟨β1,h1,r,e1,p1,o⟩=>o (F.to β1 h1) σ v H1 (SExt.of0 ht e1) rfl (p1.imp fun p hp=>.inr hp)
def sRetN:D3:=fun _ h=>.rt (.v .non) h
def Rel.take {c:C3} (rel:Rel κ F σ H) (hl:F.l[i]? =some (some p)):Rel κ ((F.setN i).with p) σ H:=by
 have r1:=rel.setN (i:=i);have ho:∀a,((F.setN i).with p).O a->F.O a:=fun a ha=>by
  rcases ha with z|z
  .rcases Ag.mp z with z|z
   .subst z;exact .inr (.inl (Al hl))
   .exact .inl z
  .rcases z with z|z
   .rcases jA z with w|w
    .cases w
    .exact .inr (.inl w.1)
   .exact .inr (.inr z)
 have hb:∀a,some a∈F.l.set i none->a≠p:=fun a ha z=>by
  subst z
  rcases jA ha with w|⟨_,j,hj,w⟩
  .cases w
  .exact hj (rel.linj j i a w hl)
 refine⟨rel.heap.sub ho,r1.slen,r1.llen,r1.linj,fun a ha z=>?_,r1.lo,fun a ha z=>?_,Bn.mpr ⟨fun z=>rel.lt p (Al hl) z,rel.tn⟩,fun j y hj=>?_⟩
 .rcases Ag.mp z with z|z
  .exact hb a ha z
  .exact r1.lt a ha z
 .rcases Ag.mp ha with h|h
  .subst h;exact rel.lo a (Al hl) z
  .exact rel.to a h z
 .rcases jC hj with ⟨_,z⟩|⟨n,z⟩
  .cases z
  .obtain⟨w,h1,h2⟩:=rel.slot j y z
   refine⟨w,h1,?_⟩
   cases y with
   |v x=>exact Rep.sub ho h2
   |m c=>
    obtain⟨a,q1,q2,q3⟩:=h2
    refine⟨a,?_,q2,q3.sub ho⟩
    show (F.l.set i none)[j]? =_;rw[C4,Ac n];exact q1
def SB {a:Addr} (hl:F.l[i]? =some (some p)) (ha:((F.setN i).with p).O a):F.O a:=by
 rcases ha with z|z
 .rcases Ag.mp z with z|z
  .subst z;exact .inr (.inl (Al hl))
  .exact .inl z
 .rcases z with z|z
  .rcases jA z with w|w
   .cases w
   .exact .inr (.inl w.1)
  .exact .inr (.inr z)
noncomputable def sRetS (i:Nat):D3:=fun s h=>match s[i]? with
 |some (some r)=>.rt r h
 |_=>.no
def AD (hv:PE X e (tVar i)):PS X (.Return (some e) pos) (zo κ E (sRetS i)):=qg (Li hv) fun D σ H ⟨F,rel,ht,o⟩=>by
 unfold sRetS at o;cases q:F.s[i]? with
 |none=>rw[q]at o;exact o.elim
 |some z=>
  rw[q]at o
  match z,q,o with
  |none,q,o=>exact o.elim
  |some (.v x),q,o=>
   obtain⟨v,h1,h2⟩:=rel.slot i _ q;exact⟨v,h1,o F σ v H (.refl ht) rfl ⟨rel,h2⟩⟩
  |some (.m c),q,o=>
   obtain⟨v,h1,a,h2,h3,h4⟩:=rel.slot i _ q;subst h3;exact⟨_,h1,o (F.setN i) σ (.ref a) H (SExt.setN ht) rfl ⟨a,rfl,Rel.take (c:=c) rel h2,h4.sub fun b hb=>SB h2 hb,.inl (Al h2)⟩⟩
def sFz (i:Nat):D3:=fun s h=>match s[i]? with
 |some (some (.m c))=>match c.fz with
  |some x=>.nx (s.set i (some (.v x))) h
  |none=>.no
 |_=>.nx s h
def SC {d:D3} (h:zo κ E (sSeq (sFz i) d) D σ H):zo κ E d D σ H:=by
 obtain⟨F,rel,ht,o⟩:=h;unfold sSeq sFz at o;have same:(match (F.s[i]? :Option (Option Vl)) with|some (some (.m c))=>False|_=>True)->SOut κ E F H D (d F.s F.h)->zo κ E d D σ H:=fun _ o=>⟨F,rel,ht,o⟩
 cases q:F.s[i]? with
 |none=>rw[q]at o same;exact same trivial o
 |some z=>
  rw[q]at o same
  match z,q,o,same with
  |none,q,o,same=>exact same trivial o
  |some (.v x),q,o,same=>exact same trivial o
  |some (.m c),q,o,same=>
   cases z:c.fz with
   |none=>simp only[z]at o;exact o.elim
   |some x=>
    simp only[z]at o;obtain⟨v,h1,a,h2,h3,h4⟩:=rel.slot i _ q;subst h3;have hi:i<F.s.length:=(An.mp q).1;have rt:=Rel.take (c:=c) rel h2;have rep:Rep κ F.β (F.setN i).O H x (.ref a):=(h4.sub (O':=(F.setN i).O) fun b hb=>EY hb).fz z rt.offp rt.apart
    have r2:=(rel.setN (i:=i)).setV (i:=i) (x:=x) (v:= .ref a) rep (by show i<(F.s.set i none).length;rw[Ce];exact hi)
    have e1:(F.setN i).setV i x=F.setV i x:=by
     show ({F with s:=(F.s.set i none).set i _,l:=(F.l.set i none).set i none}:Fr)={F with s:=F.s.set i _,l:=F.l.set i none}
     rw[List.set_set,List.set_set]
    have e2:σ.set i (some (.ref a))=σ:=by
     apply List.ext_getElem?;intro j
     rw[C4]
     by_cases hj:i=j
     .subst hj;rw[Ab rfl,Ab (by rw[<-rel.slen];exact hi),h1]
     .rw[Ac hj]
    rw[e1,e2]at r2;exact⟨F.setV i x,r2,ht,SOut.move (SExt.setN ht) o⟩
def y9 {sts:List Stmt} {d:D3} (i:Nat) (h:yS X sts (zo κ E d)):yS X sts (zo κ E (sSeq (sFz i) d)):=PSsw h fun D σ H q=>SC q
def sIf (t:T3) (a b:D3):D3:=fun s h=>(t s h).bindS fun c h1=>if c=true then a s h1 else b s h1
def yt {c:Expr} {sa sb:List Stmt} {t:T3} {da db:D3} (hc:PT X c (zK κ E t)) (ha:yS X sa (zo κ E da)) (hb:yS X sb (zo κ E db)):PS X (.If c sa sb pos) (zo κ E (sIf t da db)):=qg (Qh hc ha hb) fun D σ H ⟨F,rel,ht,o⟩=>
 (bindS (K:=kT κ) rel ht o).mono fun c H1 ⟨β1,h1,x,e1,⟨ec,r1⟩,o1⟩=>by
  subst ec;have mv:=SExt.of0 (h':=h1) ht e1;cases c with
  |true=>rw[Ab rfl]at o1 ⊢;exact⟨F.to β1 h1,r1,ht,SOut.move mv o1⟩
  |false=>rw[Ac Ba]at o1 ⊢;exact⟨F.to β1 h1,r1,ht,SOut.move mv o1⟩
def sNever:D3:=fun _ _=>.no
def FA {st:Stmt}:PS X st (zo κ E sNever):=qg Qj fun D σ H ⟨F,rel,ht,o⟩=>o
abbrev G3:=V3->S3->Option S3
abbrev Gs3:=List V3->S3->Option S3
noncomputable def gN (i:Nat):G3:=fun x s=>if i<s.length then some (s.set i (some (.v x))) else none
def gsNil:Gs3:=fun xs s=>match xs with
 | []=>some s
 |_=>none
noncomputable def gsCons (g:G3) (gs:Gs3):Gs3:=fun xs s=>match xs with
 |x::r=>(g x s).bind fun s1=>gs r s1
 | []=>none
def gT (gs:Gs3):G3:=fun x s=>match x with
 |.tup xs=>gs xs s
 |_=>none
def gL (gs:Gs3):G3:=fun x s=>match x with
 |.lst xs=>gs xs s
 |_=>none
def yy (κ:Kx) (g:G3):TG:=fun v σ H Q=> ∃F x s',Rel κ F σ H/\F.T=[]/\Rep κ F.β F.O H x v/\g x F.s=some s'/\∀F' σ',SExt F H F' H->F'.β=F.β->F'.s=s'->F'.h=F.h->Rel κ F' σ' H->Q σ' H
def Hn (κ:Kx) (g:Gs3):jI:=fun vs σ H Q=> ∃F xs s',Rel κ F σ H/\F.T=[]/\Reps κ F.β F.O H xs vs/\g xs F.s=some s'/\∀F' σ',SExt F H F' H->F'.β=F.β->F'.s=s'->F'.h=F.h->Rel κ F' σ' H->Q σ' H
def PGw {tg:Expr} {t t':TG} (h:PG X tg t) (w:∀v σ H Q,t' v σ H Q->t v σ H Q):PG X tg t':=fun pins s σ H v u Q I r q=>h pins s σ H v u Q I r (w v σ H Q q)
def PGsw {tg:List Expr} {t t':jI} (h:jg X tg t) (w:∀v σ H Q,t' v σ H Q->t v σ H Q):jg X tg t':=fun pins s σ H v u Q I r q=>h pins s σ H v u Q I r (w v σ H Q q)
def MF {a:Addr} {o:HO} (e:SExt F H F' H') (ha:H a=some o) (n: ¬F.O a): ¬F'.O a:=fun z=>by
 rcases z with z|z|z
 .rw[e.tt]at z;cases z
 .rcases e.lam a z with w|w
  .exact n (.inr (.inl w))
  .rw[ha]at w;cases w
 .rw[e.oi]at z;exact n (.inr (.inr z))
def Rep.sext {x:V3} {v:V} (e:SExt F H F' H') (r:Rep κ F.β F.O H x v):Rep κ F'.β F'.O H' x v:=r.ext e.ext (fun a h=>.inr (.inl h)) fun a o ha n=>MF e ha n
def Reps.sext {x:List V3} {v:List V} (e:SExt F H F' H') (r:Reps κ F.β F.O H x v):Reps κ F'.β F'.O H' x v:=r.ext e.ext (fun a h=>.inr (.inl h)) fun a o ha n=>MF e ha n
def Ja {tg:Expr} (h:PG X tg (EF i)):PG X tg (yy κ (gN i)):=PGw h fun v σ H Q ⟨F,x,s',rel,ht,r,e,k⟩=>by
 unfold gN at e
 by_cases hi:i<F.s.length
 .rw[Ab hi]at e;cases e
  exact k (F.setV i x) _ (SExt.setN ht) rfl rfl rfl (rel.setV r hi)
 .rw[Ac hi]at e;cases e
def qt:jg X [] (Hn κ gsNil):=PGsw Qk fun v σ H Q ⟨F,xs,s',rel,ht,r,e,k⟩=>by
 cases r with
 |nil=>cases e;exact⟨rfl,k F σ (.refl ht) rfl rfl rfl rel⟩
 |cons _ _=>cases e
theorem zU {es:List Expr} {g:G3} {gs:Gs3} (h1:PG X e (yy κ g)) (h2:jg X es (Hn κ gs)) (hh:∀{t:TG} {u:jI},PG X e t->jg X es u->jg X (e::es) (Lk t u)):jg X (e::es) (Hn κ (gsCons g gs)):=PGsw (hh h1 h2) fun v σ H Q ⟨F,xs,s',rel,ht,r,e,k⟩=>by
 cases r with
 |nil=>cases e
 | @cons x y xs ys a b=>
  cases q:g x F.s with
  |none=>simp only[gsCons,q]at e;cases e
  |some s1=>
   simp only[gsCons,q]at e
   refine⟨y,ys,rfl,F,x,s1,rel,ht,a,q,fun F1 σ1 e1 b1 s1' h1 r1=>?_⟩
   have e:gs xs s1=some s':=e
   refine⟨F1,xs,s',r1,e1.tt,b.sext e1,by rw[s1'];exact e,fun F2 σ2 e2 b2 s2' h2 r2=>?_⟩
   exact k F2 σ2 (e1.trans e2) (b2.trans b1) s2' (h2.trans h1) r2
def qx {tg:Expr} {gs:Gs3} {n:Nat} (h:PG X tg (gTup X.K n (Hn κ gs))) (hn:∀xs s s',gs xs s=some s'->xs.length=n):PG X tg (yy κ (gT gs)):=PGw h fun v σ H Q ⟨F,x,s',rel,ht,r,e,k⟩=>by
 unfold gT at e;cases x<;>first|cases e|skip
 cases r with
 |tup h1 h2 h3 h4=>exact⟨_,_,rfl,.of h1,by rw[<-h4.length];exact hn _ _ _ e,F,_,s',rel,ht,h4,e,k⟩
def sAsg (g:G3) (e:E3):D3:=fun s h=>(e s h).bindS fun r h1=>match r.fz with
 |some x=>match g x s with
  |some s1=>.nx s1 h1
  |none=>.no
 |none=>.no
def SF {d:E3} {g:G3} (h:zo κ E (sAsg g d) D σ H):tAsg (zh κ E d) (yy κ g) D σ H:=by
 obtain⟨F,rel,ht,o⟩:=h
 refine (bindS (K:=kE κ) rel ht o).mono fun v H1 ⟨β1,h1,r,e1,p1,o⟩=>?_
 cases z:r.fz with
 |none=>simp only[z]at o;exact o.elim
 |some x=>
  simp only[z]at o;cases w:g x F.s with
  |none=>rw[w]at o;exact o.elim
  |some s1=>
   rw[w]at o;obtain⟨r1,r2⟩:=Post.fz p1 z;exact⟨F.to β1 h1,x,s1,r1,ht,r2,w,fun F' σ' e' b' s' h' r'=>o F' σ' H1 ((SExt.of0 (h':=h1) ht e1).trans e') s' h' r'⟩
def MG {tg:Expr} {d:E3} {g:G3} (he:PE X e (zh κ E d)) (hg:PG X tg (yy κ g)) (hh:∀{te:TE} {g:TG},PE X e te->PG X tg g->PS X (.Assign [tg] e pos) (tAsg te g)):PS X (.Assign [tg] e pos) (zo κ E (sAsg g d)):=qg (hh he hg) fun D σ H h=>SF h
end
structure It3 where
 its:List V3
 xs:List V3
 ok:H3->Prop
def IR (κ:Kx) (it:It3) (vs:List V) (J:It):Prop:=∀(F:Fr) (σ:St) (H:Hp),Rel κ F σ H->Reps κ F.β F.O H it.its vs->it.ok F.h->∀i:Nat,
 (i<it.xs.length->J.go i H/\∀x H',J.yld i H x H'->∃x3,it.xs[i]? =some x3/\Ext No F.β H F.β H'/\Rel κ F σ H'/\Rep κ F.β F.O H' x3 x)/\(it.xs.length<=i->J.stop i H)
abbrev I3:=S3->H3->Res It3
def kI (κ:Kx):Kd It3 It:=fun _ F σ H' it J=>Rel κ F σ H'/\∃vs,Reps κ F.β F.O H' it.its vs/\IR κ it vs J
abbrev yp (κ:Kx) (E:XK) (d:I3):TI:=tOf κ E (kI κ) d
open Classical in
def zP (ok:H3->Prop) (g:G3) (b:D3):List V3->S3->H3->O3
 | [],s,h=>if ok h then .nx s h else .no
 |x::r,s,h=>if ok h then match g x s with
  |none=>.no
  |some s1=>match b s1 h with
   |.nx s2 h2=>zP ok g b r s2 h2
   |.ct s2 h2=>zP ok g b r s2 h2
   |.bk s2 h2=>.nx s2 h2
   |o=>o
  else .no
def zw (it:I3) (g:G3) (b:D3):D3:=fun s h=>(it s h).bindS fun I h1=>zP I.ok g b I.xs s h1
noncomputable def qD (t:T3) (b:D3):Nat->S3->H3->Option O3
 |0,_,_=>none
 |n+1,s,h=>match t s h with
  |.no=>some .no
  |.ex x h1=>some (.ex x h1)
  |.ok false h1=>some (.nx s h1)
  |.ok true h1=>match b s h1 with
   |.nx s2 h2=>qD t b n s2 h2
   |.ct s2 h2=>qD t b n s2 h2
   |.bk s2 h2=>some (.nx s2 h2)
   |o=>some o
open Classical in
def jK (t:T3) (b:D3):D3:=fun s h=>if hh:∃o n,qD t b n s h=some o then Classical.choose hh else .no
section
variable {X:Cx} {κ:Kx} {E:XK} {F F1 F2 F':Fr} {σ σ':St} {H H1 H2 H':Hp} {Q:VK} {p:Addr} {e a b:Expr} {pos:Pos} {i:Nat} {D:Ends}
def km_I:BQ (kI κ):=fun _ _ _ _ _ _ _ _ _ _ _ h=>h
theorem SH {it:I3} {g:G3} {b:D3} (h:zo κ E (zw it g b) D σ H):tFor (yp κ E it) (yy κ g) (zo κ E b) D σ H:=by
 obtain⟨F,rel,ht,o⟩:=h
 refine (bindS (K:=kI κ) rel ht o).mono fun J H1 ⟨β1,h1,I,e1,⟨r1,vs,rv,ir⟩,o1⟩=>?_
 refine⟨fun i m σ H=>m=I.xs.length-i/\i<=I.xs.length/\∃Fk,Rel κ Fk σ H/\Fk.T=[]/\Reps κ Fk.β Fk.O H I.its vs/\SOut κ E Fk H D (zP I.ok g b (I.xs.drop i) Fk.s Fk.h),⟨_,rfl,Bx _,F.to β1 h1,r1,ht,rv,SOut.move (SExt.of0 (h':=h1) ht e1) o1⟩,?_⟩
 rintro i m σ' H' ⟨rfl,hi,Fk,rk,tk,vk,ok⟩
 by_cases hok:I.ok Fk.h
 case neg=>
  exfalso
  cases q:I.xs.drop i with
  |nil=>rw[q]at ok;unfold zP at ok;rw[Ac hok]at ok;exact ok
  |cons x r=>rw[q]at ok;unfold zP at ok;rw[Ac hok]at ok;exact ok
 obtain⟨i1,i2⟩:=ir Fk σ' H' rk vk hok i
 by_cases hlt:i<I.xs.length
 .obtain⟨go,yl⟩:=i1 hlt
  refine .inr ⟨go,fun σ2 H2=> ∃F2,Rel κ F2 σ2 H2/\F2.T=[]/\Reps κ F2.β F2.O H2 I.its vs/\SOut κ E F2 H2 D (zP I.ok g b (I.xs.drop (i+1)) F2.s F2.h),fun σ2 H2 n2=>⟨_,by lia,rfl,hlt,n2⟩,fun x H'' y=>?_⟩
  obtain⟨x3,ex,ey,ry,rp⟩:=yl x H'' y;have hd:I.xs.drop i=x3::I.xs.drop (i+1):=by
   rw[Es hlt]
   congr 1
   rw[zI hlt]at ex;exact Option.some.inj ex
  rw[hd]at ok;have ok:=SOut.move (SExt.of0 (h':=Fk.h) tk ey) ok;unfold zP at ok;rw[Ab hok]at ok;cases w:g x3 Fk.s with
  |none=>simp only[w]at ok;exact ok.elim
  |some s1=>
   simp only[w]at ok
   refine⟨Fk,x3,s1,ry,tk,rp,w,fun F3 σ3 e3 b3 s3 h3 r3=>?_⟩
   refine⟨F3,r3,e3.tt,?_⟩
   rw[s3,h3];have ok:=SOut.move e3 ok;have ev:Reps κ F3.β F3.O H'' I.its vs:=(vk.ext0 ey).sext e3;cases q:b s1 Fk.h with
   |nx s2 h2=>simp only[q]at ok;exact fun F4 σ4 H4 e4 s4 h4 r4=>⟨F4,r4,e4.tt,ev.sext e4,by rw[s4,h4];exact SOut.move e4 ok⟩
   |ct s2 h2=>simp only[q]at ok;exact fun F4 σ4 H4 e4 s4 h4 r4=>⟨F4,r4,e4.tt,ev.sext e4,by rw[s4,h4];exact SOut.move e4 ok⟩
   |bk s2 h2=>simp only[q]at ok;exact ok
   |rt r h2=>simp only[q]at ok;exact ok
   |ex x h2=>simp only[q]at ok;exact ok
   |no=>simp only[q]at ok;exact ok
 .have hi:i=I.xs.length:=by lia
  subst hi;rw[C5]at ok;unfold zP at ok;rw[Ab hok]at ok;exact .inl ⟨i2 (Af _),ok Fk σ' H' (.refl tk) rfl rfl rk⟩
def SJ {tg iter:Expr} {body:List Stmt} {it:I3} {g:G3} {b:D3} (hp:PassesOwn (model X.prog X.w) X.A X.env X.xe) (hc:X.calm=true) (hi:PI X tg iter (yp κ E it)) (hg:PG X tg (yy κ g)) (hb:yS X body (zo κ E b))
 (hs:∀x,foldedSetIterable iter X.env x=pure x:=by intro _;rfl):PS X (.For tg iter body [] pos) (zo κ E (zw it g b)):=qg (Qw hp hc hi hg hb hs) fun D σ H h=>SH h
theorem Ho {t:T3} {b:D3}:∀{n k:Nat} {s:S3} {h:H3} {o:O3},n<=k->qD t b n s h=some o->qD t b k s h=some o
 |0,_,_,_,_,_,e=>by cases e
 |n+1,0,_,_,_,l,_=>by lia
 |n+1,k+1,s,h,o,l,e=>by
  unfold qD at e ⊢;cases q:t s h with
  |no=>rw[q]at e;exact e
  |ex x h1=>rw[q]at e;exact e
  |ok c h1=>
   rw[q]at e;cases c with
   |false=>exact e
   |true=>
    cases z:b s h1 with
    |nx s2 h2=>simp only[z]at e ⊢;exact Ho (by lia) e
    |ct s2 h2=>simp only[z]at e ⊢;exact Ho (by lia) e
    |bk s2 h2=>simp only[z]at e ⊢;exact e
    |rt r h2=>simp only[z]at e ⊢;exact e
    |ex x h2=>simp only[z]at e ⊢;exact e
    |no=>simp only[z]at e ⊢;exact e
def SK {t:T3} {b:D3} {n:Nat} {s:S3} {h:H3} {o:O3} (e:qD t b n s h=some o):jK t b s h=o:=by
 unfold jK;have hh:∃o n,qD t b n s h=some o:=⟨o,n,e⟩;rw[dif_pos hh];obtain⟨k,hk⟩:=Classical.choose_spec hh;have h1:=Ho (Nat.le_max_left n k) e;have h2:=Ho (Nat.le_max_right n k) hk;exact Option.some.inj (h2.symm.trans h1)
def SL {t:T3} {b:D3} (h:zo κ E (jK t b) D σ H):Lo (zK κ E t) (zo κ E b) D σ H:=by
 obtain⟨F,rel,ht,o⟩:=h;unfold jK at o
 by_cases hh:∃o n,qD t b n F.s F.h=some o
 .rw[dif_pos hh]at o
  obtain⟨n,hn⟩:=Classical.choose_spec hh;generalize Classical.choose hh=w at o hn
  refine⟨fun m σ H=> ∃F,Rel κ F σ H/\F.T=[]/\∃w,qD t b m F.s F.h=some w/\SOut κ E F H D w,⟨n,F,rel,ht,w,hn,o⟩,?_⟩
  rintro m σ1 H1 ⟨F1,r1,t1,w1,hw,o1⟩;cases m with
  |zero=>cases hw
  |succ m=>
   unfold qD at hw
   refine⟨F1,r1,?_⟩
   cases q:t F1.s F1.h with
   |no=>rw[q]at hw;cases hw;exact o1
   |ex x h1=>rw[q]at hw;cases hw;exact fun β' H' e r=>o1 (F1.to β' h1) H' (SExt.of0 t1 e) r
   |ok c h2=>
    rw[q]at hw;rintro β2 c' H2 e2 ⟨rfl,r2⟩;have mv:=SExt.of0 (h':=h2) t1 e2;cases c' with
    |false=>rw[Ac Ba];cases hw;exact o1 (F1.to β2 h2) σ1 H2 mv rfl rfl r2
    |true=>
     rw[Ab rfl]
     refine⟨fun σ3 H3=> ∃F3,Rel κ F3 σ3 H3/\F3.T=[]/\∃w,qD t b m F3.s F3.h=some w/\SOut κ E F3 H3 D w,fun σ3 H3 n3=>⟨m,Dq _,n3⟩,F1.to β2 h2,r2,t1,?_⟩
     have o2:=SOut.move mv o1;show SOut κ E (F1.to β2 h2) H2 _ (b F1.s h2);cases z:b F1.s h2 with
     |nx s3 h3=>simp only[z]at hw;exact fun F4 σ4 H4 e4 s4 h4 r4=>⟨F4,r4,e4.tt,w1,by rw[s4,h4];exact hw,SOut.move e4 o2⟩
     |ct s3 h3=>simp only[z]at hw;exact fun F4 σ4 H4 e4 s4 h4 r4=>⟨F4,r4,e4.tt,w1,by rw[s4,h4];exact hw,SOut.move e4 o2⟩
     |bk s3 h3=>simp only[z]at hw;cases hw;exact o2
     |rt r h3=>simp only[z]at hw;cases hw;exact o2
     |ex x h3=>simp only[z]at hw;cases hw;exact o2
     |no=>simp only[z]at hw;cases hw;exact o2
 .rw[dif_neg hh]at o;exact o.elim
def Hq {c:Expr} {body:List Stmt} {t:T3} {b:D3} (hp:PassesOwn (model X.prog X.w) X.A X.env X.xe) (hc:PT X c (zK κ E t)) (hb:yS X body (zo κ E b)):PS X (.While c body [] pos) (zo κ E (jK t b)):=qg (Qn hp hc hb) fun D σ H h=>SL h
noncomputable def yA (h:H3):V3->Option (List V3×(H3->Prop))
 |.lst xs=>some (xs,fun _=>True)
 |.scr ns=>some (ns.map .int,fun _=>True)
 |.loc n=>match h[n]? with
  |some (.lst xs)=>some (xs,fun h=>h[n]? =some (.lst xs))
  |_=>none
 |_=>none
def SM {F:Fr} {σ:St} {H:Hp} {x:V3} {xs:List V3} {v:V} (rel:Rel κ F σ H) (r:Rep κ F.β F.O H x v) (e:rdl F.s F.h (.x x)=some xs):∃a ys,v=.ref a/\SqL κ.K H a ys/\Reps κ F.β F.O H xs ys:=jE (f:= .x x) rel r e
def CK {h:H3} {x:V3} {xs:List V3} {ok:H3->Prop} (e:yA h x=some (xs,ok)):ok h/\∀s h',ok h'->rdl s h' (.x x)=some xs:=by
 cases x<;>simp[yA]at e
 case lst zs=>obtain⟨rfl,rfl⟩:=e;exact⟨trivial,fun _ _ _=>rfl⟩
 case scr ns=>obtain⟨rfl,rfl⟩:=e;exact⟨trivial,fun _ _ _=>rfl⟩
 case loc n=>
  cases q:h[n]? with
  |none=>rw[q]at e;cases e
  |some c=>
   rw[q]at e;cases c<;>simp at e
   obtain⟨rfl,rfl⟩:=e;exact⟨q,fun s h' hh=>by simp only[rdl,hh]⟩
def BR {F:Fr} {σ:St} {H:Hp} {h:H3} {x:V3} {xs:List V3} {ok:H3->Prop} {v:V} (e:yA h x=some (xs,ok)) (rel:Rel κ F σ H) (r:Rep κ F.β F.O H x v) (hk:ok F.h):∃a ys,v=.ref a/\SqL κ.K H a ys/\Reps κ F.β F.O H xs ys:=SM rel r ((CK e).2 _ _ hk)
def PIw {tg iter:Expr} {t t':TI} (h:PI X tg iter t) (w:∀σ H R,t' σ H R->t σ H R):PI X tg iter t':=fun pins s σ H R I q=>h pins s σ H R I (w σ H R q)
def iL (p:P3):I3:=fun s h=>(p s h).bind fun f h1=>match f with
 |.x x=>match yA h1 x with
  |some (xs,ok)=>.ok ⟨[x],xs,ok⟩ h1
  |none=>.no
 |_=>.no
def SN {tg l:Expr} {d:P3} (hK:X.K=κ.K) (hl:PE X l (zi κ E d)):PI X tg l (yp κ E (iL d)):=PIw (Qr hl) fun σ H R ⟨F,rel,o⟩=>
 (z9 (K:=kP κ) km_I rel o).mono fun v H1 ⟨β1,h1,f,e1,⟨r1,rf⟩,o1⟩=>by
  rw[hK]
  match f,rf,o1 with
  |.s _,rf,o1=>exact o1.elim
  |.x x,rf,o1=>
   cases q:yA h1 x with
   |none=>simp only[q]at o1;exact o1.elim
   |some w=>
    obtain⟨xs,ok⟩:=w;simp only[q]at o1;have rf:Rep κ β1 F.O H1 x v:=rf;obtain⟨a,ys,ev,sq,rs⟩:=BR (F:=F.to β1 h1) q r1 rf (CK q).1;subst ev
    refine⟨a,rfl,⟨ys,sq⟩,o1 β1 _ H1 Ext.refl ⟨r1,[.ref a],.cons rf .nil,fun F' σ' H' rel' r' hk i=>?_⟩⟩
    cases r' with
    |cons r'' _=>
     obtain⟨a',ys',ev',sq',rs'⟩:=BR q rel' r'' hk;cases ev'
     refine⟨fun hi=>⟨?_,fun y H' ⟨e,yl⟩=>?_⟩,fun hi=>⟨ys',sq',by rw[<-rs'.length];exact hi⟩⟩
     .obtain⟨y,hy,_⟩:=rs'.get (i:=i) (zI hi)
      exact⟨ys',y,sq',hy⟩
     .subst e
      obtain⟨x3,h1,h2⟩:=rs'.get' (yl ys' sq');exact⟨x3,h1,Ext.refl,rel',h2⟩
end
end L3
namespace L2
open PySem PySem.Spec PyProof.Rows
def Trc (h:Heap) (a T:Addr) (cls a0:Value):Prop:=
 ∃oe vs oT ts,h.get? a=some oe/\(oe.cls=cls/\vs[0]? =some a0)/\oe.data=.fields vs/\vs[1]? =some (.ref T)/\T≠a/\h.get? T=some oT/\oT.data=.fields ts/\ts[3]? =some .none
structure Left (l:List Env) (hid:List Addr) (a T':Addr) (cls a0:Value) (h h':Heap):Prop where
 keep:∀b o,h.get? b=some o->b∉hid->h'.get? b=some o
 slot:∀b o,h.get? b=some o->b∈yQ l->∃sl,h'.get? b=some {o with slots:=sl}
 trc:Trc h' a T' cls a0
 new:∀b o,h.get? b=some o->b∉hid->b≠T'
 nfr:T'∉yQ l
section
variable {M:Model} {A:Around} {E:VP} {s:Shared} {base:Heap} {env:Env} {outer:List Env} {L a T:Addr} {cls a0:Value} {Q:Unit->Shared->Prop}
def SO {l:List Env}:∀env∈l,∀b,env.frame=some b->b∈yQ l:=fun env he b hb=>D5.mpr ⟨env,he,hb⟩
theorem SQ {l:List Env} {hid:List Addr} {h h':Heap} (hf:∀b∈yQ l,b∈hid) (hl:h.FunFrames base l) (x:Heap.LeftW (PySem.W.hideAll h hid) l a cls a0 h h'):∃T',Left l hid a T' cls a0 h h':=by
 obtain⟨x1,x2,x3,x4⟩:=x;obtain⟨oe,vs,T',oT,ts,t1,t2,t3,t4,t5,t6,t7,t8,t9⟩:=x3;have kp:∀b o,h.get? b=some o->b∉hid->(PySem.W.hideAll h hid).get? b=some o:=fun b o e n=>PySem.W.hideAll_get hid e n
 refine⟨T',fun b o e n=>x1 b o (kp b o e n),fun b o e hb=>?_,⟨oe,vs,oT,ts,t1,t2,t3,t4,t6,t7,t8,t9⟩,fun b o e n z=>?_,fun hb=>?_⟩
 .refine x4 b o e fun vs hv=>?_
  obtain⟨_,o',ho',hn⟩:=hl.mem hb;rw[e]at ho';cases ho';exact hn vs hv
 .have:=kp b o e n
  rw[z,t5]at this;cases this
 .obtain⟨_,o',ho',hn⟩:=x2.mem hb
  rw[t7]at ho';cases ho';exact hn ts t8
theorem SR (hfr:A.frames=some (env::outer)) (hl:s.heap.FunFrames base (env::outer)) (hf:env.frame=some L) (tr:Trc s.heap a T cls a0)
  (hQ:∀h' T',Left (env::outer) (a::T::yQ (env::outer)) a T' cls a0 s.heap h'->Q () {s with heap:=h'}):wpAny M A (leaving env (.ref a)) Q E s:=by
 obtain⟨oe,vs,oT,ts,t1,t2,t3,t4,t6,t7,t8,t9⟩:=tr;have hid:∀b∈yQ (env::outer),b∈a::T::yQ (env::outer):=fun b hb=>.tail _ (.tail _ hb)
 refine wpAny_leaving_nextW (base:=PySem.W.hideAll s.heap (a::T::yQ (env::outer))) (cls:=cls) (a0:=a0) hfr (PySem.W.funFrames_hide hl fun e he b hb=>hid b (SO e he b hb)) hf
  ⟨oe,vs,T,oT,ts,t1,t2,t3,t4,Gd _ (.tail _ (.head _)),t6,t7,t8,t9⟩ (fun b o q=>PySem.W.of_hideAll _ q) (Gd _ (.head _)) fun h' x=>?_
 obtain⟨T',y⟩:=SQ hid hl x;exact hQ h' T' y
end
def HOk.there {P:Program} {w:World} {H:Hp} {h:Heap} {a:Addr} {o:HO} (x:HOk P w H h) (q:H a=some o):∃ob,h.get? a=some ob:=by
 have this:=x a o q;cases e:h.get? a with
 |some ob=>exact⟨ob,rfl⟩
 |none=>
  exfalso
  cases o with
  |lst xs=>obtain⟨_,_,_,_,z⟩:=this;rw[e]at z;cases z
  |tup xs=>obtain⟨_,_,_,o1,z,_⟩:=this;rw[e]at z;cases z
  |dK kvs=>obtain⟨_,_,_,_,o,_,_,z,_⟩:=this;rw[e]at z;cases z
  |dT kvs=>obtain⟨_,_,_,_,o,_,_,z,_⟩:=this;rw[e]at z;cases z
  |set S n=>obtain⟨o,_,_,_,z,_⟩:=this;rw[e]at z;cases z
  |ins C dx fs=>obtain⟨_,_,_,z,_⟩:=this;rw[e]at z;cases z
  |own y=>obtain⟨_,z⟩:=this;rw[e]at z;cases z
  |xd fs=>obtain⟨_,⟨_,_,_,z,_⟩,_⟩:=this;rw[e]at z;cases z
  |rng lo hi=>obtain⟨_,_,_,z⟩:=this;rw[e]at z;cases z
  |frz ob u=>obtain⟨z,_⟩:=this;rw[e]at z;cases z
  |tbl ps=>have z:h.get? a=some _:=this;rw[e]at z;cases z
  |met f y=>have z:h.get? a=some _:=this;rw[e]at z;cases z
  |ext φ=>obtain⟨_,⟨_,z⟩,_⟩:=this;rw[e]at z;cases z
def XT (P:Program) (w:World):jz:=fun outer H s E e s'=> ∃(a T:Addr) (cls a0:Value) (H':Hp),e=.ref a/\s'.os=s.os/\AllBare s'.gens/\Un (yQ outer) [] H H' s.heap s'.heap/\HOk P w H' s'.heap/\
 s.heap.get? a=none/\s.heap.get? T=none/\H' a=none/\H' T=none/\Trc s'.heap a T cls a0/\E cls none H'
section
variable {P:Program} {w:World} {K:FG} {mg:Str->Option Value} {base:Heap} {N:List Str} {qual:Str} {scope:Scope} {f:Addr} {cd:Value} {A:Around} {outer:List Env} {s0:Shared} {H0:Hp} {E:XK}
def Inv.left {X:Cx} {pins:AL} {σ:St} {H:Hp} {s:Shared} {hid:List Addr} {a T':Addr} {cls a0:Value} {h':Heap} (hst:X.stack=X.env::X.outer) (hex:X.ex=[]) (I:Inv X pins σ H s) (y:Left X.stack hid a T' cls a0 s.heap h')
  (hh:∀b∈hid,(b∈yQ X.stack\/X.s₀.heap.get? b=none)/\H b=none):
  Un X.fs [] X.H₀ H X.s₀.heap h'/\HOk X.prog X.w H h'/\X.s₀.heap.get? T'=none/\H T'=none:=by
 have hfo:∀b o,X.s₀.heap.get? b=some o->b∉X.fs->b∉yQ X.stack:=fun b o e n hb=>by
  rcases Ag.mp (I.stkSub b hb) with z|z
  .have h1:=Ai e
   have h2:=I.ok.above;rw[z]at h1;exact absurd (Bk h1 h2) (B7 _)
  .exact n z
 have nh:∀b o,X.s₀.heap.get? b=some o->b∉X.fs->b∉hid:=fun b o e n hb=>by
  rcases (hh b hb).1 with z|z
  .exact hfo b o e n z
  .rw[e]at z;cases z
 have fsub:∀b∈X.fs,b∈yQ X.stack:=fun b hb=>by
  rw[hst];obtain⟨v,hv,e⟩:=D5.mp hb;exact D5.mpr ⟨v,.tail _ hv,e⟩
 have U:=I.base;rw[hex]at U;have no:∀b:Addr,b∉([]:List Addr):=fun b z=>nomatch z
 have anyway:∀b o,s.heap.get? b=some o->(b∉hid\/b∈yQ X.stack)->∃o',h'.get? b=some o':=fun b o e d=>by
  rcases d with d|d
  .exact⟨o,y.keep b o e d⟩
  .obtain⟨sl,q⟩:=y.slot b o e d
   exact⟨_,q⟩
 refine⟨⟨fun b o e n hb _=>y.keep b o (U.keep b o e n hb (no b)) (nh b o e hb),fun b o e n hb _=>?_,U.free,fun b o e _=>?_,U.tups,U.frzs,U.tbls⟩,fun b o e=>?_,?_,?_⟩
 .obtain⟨sl,q⟩:=U.slot b o e n hb (no b)
  obtain⟨sl',q'⟩:=y.slot b _ q (fsub b hb);exact⟨sl',q'⟩
 .obtain⟨o',q⟩:=U.there b o e (no b)
  refine anyway b o' q ?_
  by_cases z:b∈X.fs
  .exact .inr (fsub b z)
  .exact .inl (nh b o e z)
 .refine (I.hok b o e).stay (fun c u hc ec=>y.keep c u ec fun hm=>?_) (fun _ z=>z) fun _ _ z=>z
  have:=(hh c hm).2
  rcases hc with z|z
  .rw[z,e]at this;cases this
  .rw[z]at this;cases this
 .cases q:X.s₀.heap.get? T' with
  |none=>rfl
  |some o=>
   exfalso
   obtain⟨o',q'⟩:=U.there T' o q (no T')
   by_cases z:T'∈X.fs
   .exact y.nfr (fsub _ z)
   .exact y.new T' o' q' (nh T' o q z) rfl
 .cases q:H T' with
  |none=>rfl
  |some o=>
   exfalso
   obtain⟨ob,hob⟩:=I.hok.there q
   refine y.new T' ob hob (fun hm=>?_) rfl
   have:=(hh T' hm).2;rw[q]at this;cases this
theorem qO:qN (XT P w) (cxOf (XT P w) P w K mg base N qual scope f cd A outer s0 H0 E) E:=by
 intro pins σ H s e s' I hx;obtain⟨a,T,cls,a0,H',rfl,os,bare,un,hok,na,nT,ha,hT,tr,q⟩:=hx;have I':Inv (cxOf (XT P w) P w K mg base N qual scope f cd A outer s0 H0 E) pins σ H' s':=I.call' os un hok bare fun b z=>nomatch z
 have old:∀b,s.heap.get? b=none->s0.heap.get? b=none:=fun b e=>by
  cases z:s0.heap.get? b with
  |none=>rfl
  |some o=>
   obtain⟨o',q'⟩:=I.base.there b o z fun y=>nomatch y
   rw[e]at q';cases q'
 refine SR (base:=base) (L:=s0.heap.objs.size) I'.ok.frames I'.stack rfl tr fun h' T' y=>?_
 obtain⟨u,hk,n1,n2⟩:=I'.left rfl rfl y fun b hb=>by
  rcases Ag.mp hb with z|hb
  .rw[z];exact⟨.inr (old a na),ha⟩
  .rcases Ag.mp hb with z|hb
   .rw[z];exact⟨.inr (old T nT),hT⟩
   .exact⟨.inl hb,I'.stkFree b hb⟩
 exact⟨a,T',cls,a0,H',rfl,I'.os,I'.bare,u,hk,old a na,n1,ha,n2,y.trc,q⟩
end
def Fun.okX {P:Program} {w:World} {K:FG} {mg:Str->Option Value} {base:Heap} {x qual:Str} {st:Stmt} {f:Addr} {fd:FuncData} {N ps:List Str} {k:Nat} {sp:Sp} (F:Fun K x qual st f fd) (S:FnScope N ps (zC st)) (len:∀vs H Q E,sp vs H Q E->vs.length=ps.length)
  (hbody:∀(cdv:Value) (A:Around) (outer:List Env) (s:Shared) (H:Hp) (vs:List V) (Q:VK) (E:XK),Room k (A.deeper (envOfC qual (zC st) s.heap.objs.size f cdv))->sp vs H Q E->
   ∃t,yS (cxOf (XT P w) P w K mg base N qual (zC st) f cdv A outer s H E) (CG st) t/\t {nx:=fun _ H'=>Q .non H',rt:=Q} (start N vs) H):FnOk P w K mg base (XT P w) (k+1) f fd ps sp:=by
 obtain⟨oc,od,kV,doc,pm,an,cdv,ct,osl,rfl,lk,hcd⟩:=F.ex;exact Rc lk hcd S len fun A outer s H vs Q E hr hsp=>hbody cdv A outer s H vs Q E hr hsp
end L2
namespace L3
open PySem PySem.Spec PyProof.Rows L2
abbrev F3:=List V3->H3->Res Vl
noncomputable def start3 (n:Nat) (vs:List V3):S3:=vs.map (fun x=>some (.v x))++List.replicate (n-vs.length) none
noncomputable def O3.res:O3->Res Vl
 |.nx _ h=>.ok (.v .non) h
 |.rt r h=>.ok r h
 |.ex x h=>.ex x h
 |_=>.no
def fun3 (k n:Nat) (b:D3):F3:=fun vs h=>if vs.length=k then (b (start3 n vs) h).res else .no
def SS (κ:Kx) (N:Addr->Prop) (O:Addr->Prop) (β:AO) (h:H3) (H:Hp):Vl->V->Prop
 |.v x,v=>RelH κ O β h H/\Rep κ β O H x v
 |.m c,v=> ∃p,v=.ref p/\RelH κ (fun a=>a=p\/O a) β h H/\CellR κ β (fun a=>a=p\/O a) H c p/\N p/\¬O p
def FOut (κ:Kx) (E:XK) (O:Addr->Prop) (β:AO) (H:Hp) (Q:VK):Res Vl->Prop
 |.ok r h'=> ∀β' v H',Ext No β H β' H'->SS κ (Nw H) O β' h' H' r v->Q v H'
 |.ex x h'=> ∀β' H',Ext No β H β' H'->RelH κ O β' h' H'->XOk κ E x H'
 |.no=>False
def zm (κ:Kx) (k:Nat) (f:F3):Sp:=fun vs H Q E=> ∃O β vs3 h3,vs.length=k/\RelH κ O β h3 H/\Reps κ β O H vs3 vs/\FOut κ E O β H Q (f vs3 h3)
section
variable {X:Cx} {κ:Kx} {E:XK} {F F1 F2 F':Fr} {σ σ':L2.St} {H H1 H2 H':Hp} {Q:VK} {p:Addr} {e a b o:Expr} {pos apos np:Pos} {i:Nat} {D:Ends}
def jt {a:Addr} {n:Nat}:some a∉List.replicate n (none:Option Addr):=fun h=>by cases (List.mem_replicate.mp h).2
def SU {n:Nat} {vs3:List V3} {i:Nat} {x:Vl} (h:(start3 n vs3)[i]? =some (some x)):∃y,vs3[i]? =some y/\x=.v y:=by
 unfold start3 at h
 by_cases hi:i<vs3.length
 .rw[Bc (by simpa using hi),Az]at h
  cases q:vs3[i]? with
  |none=>rw[q]at h;cases h
  |some y=>rw[q]at h;cases h;exact⟨y,rfl,rfl⟩
 .rw[Bl (by simpa using hi)]at h
  have:=List.mem_replicate.mp (Al h);cases this.2
def SV {O:Addr->Prop} {β:AO} {vs3:List V3} {vs:List V} {h3:H3} {N:List Str} (rh:RelH κ O β h3 H) (rv:Reps κ β O H vs3 vs) (hN:vs.length<=N.length):
  Rel κ ⟨O,[],β,List.replicate N.length none,start3 N.length vs3,h3⟩ (L2.start N vs) H:=by
 have hO:∀a,(⟨O,[],β,List.replicate N.length none,start3 N.length vs3,h3⟩:Fr).O a->O a:=fun a ha=>by
  rcases ha with z|z|z
  .cases z
  .exact absurd z jt
  .exact z
 have hl:=rv.length
 refine⟨rh.sub hO,?_,?_,fun i j a h=>?_,fun a ha=>absurd ha jt,fun a ha=>absurd ha jt,fun a ha=>(by cases ha),Dl,fun i x hx=>?_⟩
 .show (start3 N.length vs3).length=_
  unfold start3 L2.start;simp only[Ar,Ae,Dr];lia
 .show (List.replicate N.length (none:Option Addr)).length=(start3 N.length vs3).length
  unfold start3;simp only[Ar,Ae,Dr];lia
 .exact absurd (Al h) jt
 .obtain⟨y,hy,rfl⟩:=SU hx
  obtain⟨v,hv,r⟩:=rv.get hy
  refine⟨v,?_,Rep.sub hO r⟩
  unfold L2.start;have hi:i<vs.length:=(An.mp hv).1;rw[Bc (by simpa using hi),Az,hv];rfl
def z6 {P:Program} {w:World} {K:FG} {mg:Str->Option Value} {base:Heap} {x qual:Str} {st:Stmt} {f:Addr} {fd:FuncData} {N ps:List Str} {k:Nat} {b:D3} (Fn:Fun K x qual st f fd) (S:FnScope N ps (zC st))
  (hb:∀(cdv:Value) (A:Around) (outer:List Env) (s:Shared) (H:Hp) (E:XK),Room k (A.deeper (envOfC qual (zC st) s.heap.objs.size f cdv))->
   yS (cxOf (XT P w) P w K mg base N qual (zC st) f cdv A outer s H E) (CG st) (zo κ E b)):FnOk P w K mg base (XT P w) (k+1) f fd ps (zm κ ps.length (fun3 ps.length N.length b)):=by
 refine Fn.okX S (fun vs H Q E h=>?_) fun cdv A outer s H vs Q E hr h=>?_
 .obtain⟨_,_,_,_,h,_⟩:=h;exact h
 .obtain⟨O,β,vs3,h3,hl,rh,rv,o⟩:=h
  have hpl:ps.length<=N.length:=by have:=congrArg List.length S.pre;rw[Be]at this;lia
  have rel:=SV (N:=N) rh rv (by lia)
  refine⟨zo κ E b,hb cdv A outer s H E hr,_,rel,rfl,?_⟩
  unfold fun3 at o;rw[Ab (by rw[rv.length];exact hl)]at o
  generalize hF:(⟨O,[],β,List.replicate N.length none,start3 N.length vs3,h3⟩:Fr)=F0 at rel;have e0:F0.s=start3 N.length vs3/\F0.h=h3/\F0.β=β/\F0.Oi=O/\∀a,some a∉F0.l:=by subst hF;exact⟨rfl,rfl,rfl,rfl,fun a=>jt⟩
  obtain⟨es,eh,eb,eo,el⟩:=e0;rw[es,eh];have ext:∀{F':Fr} {H':Hp},SExt F0 H F' H'->Ext No β H F'.β H':=fun {F' H'} se=>⟨fun a u h n _=>se.ext.keep a u h (by rw[eb];exact n) (el a),by rw[<-eb];exact se.ext.len,fun i a hi h=>by
   have:=se.ext.bet i a (by rw[eb];exact hi) h
   rw[eb]at this;exact this,se.ext.there,fun i a hi h=>se.ext.nwb i a (by rw[eb];exact hi) h⟩
  have hO:∀{F':Fr} {H':Hp},SExt F0 H F' H'->∀a,O a->F'.O a:=fun {F' H'} se a ha=>.inr (.inr (by rw[se.oi,eo];exact ha))
  cases q:b (start3 N.length vs3) h3 with
  |nx s1 h1=>
   rw[q]at o;exact fun F' σ' H' se _ h' r'=>o F'.β .non H' (ext se) ⟨by rw[<-h'];exact r'.heap.sub (hO se),.non⟩
  |rt r h1=>
   rw[q]at o;intro F' σ' v H' se h' p
   refine o F'.β v H' (ext se) ?_
   cases r with
   |v x=>exact⟨by rw[<-h'];exact p.1.heap.sub (hO se),Rep.sub (hO se) p.2⟩
   |m c=>
    obtain⟨p,h1,h2,h3',h4⟩:=p;have hs:∀a,a=p\/O a->(F'.with p).O a:=fun a ha=>ha.elim (fun z=>.inl (by rw[z];exact Ak)) fun z=>Fr.O_with (hO se a z)
    refine⟨p,h1,by rw[<-h'];exact h2.heap.sub hs,h3'.sub hs,h4.elim (fun z=>absurd z (el p)) id,fun z=>h2.apart (hO se p z)⟩
  |bk s1 h1=>rw[q]at o;exact (show False from o).elim
  |ct s1 h1=>rw[q]at o;exact (show False from o).elim
  |no=>rw[q]at o;exact o
  |ex x h1=>
   rw[q]at o;intro F' H' se r';exact o F'.β H' (ext se) (by rw[se.oi,eo]at r';exact r')
def Rel.nextNew {β':AO} {h':H3} (r:Rel κ F σ H) (e:Ext No F.β H β' H') (rh:RelH κ (fun a=>a=p\/F.O a) β' h' H') (hp:H p=none):Rel κ ((F.to β' h').with p) σ H':=by
 have n2: ¬F.O p:=(r.heap.off_new hp).2;have ho:∀a,((F.to β' h').with p).O a->a=p\/F.O a:=fun a ha=>by
  rcases ha with z|z
  .rcases Ag.mp z with z|z
   .exact .inl z
   .exact .inr (.inl z)
  .exact .inr (.inr z)
 have hO:∀a u,H a=some u->¬F.O a->¬((F.to β' h').with p).O a:=fun a u ha n z=>(ho a z).elim (fun w=>by subst w;rw[hp]at ha;cases ha) n
 refine⟨rh.sub ho,r.slen,r.llen,r.linj,fun a ha z=>?_,r.lo,fun a ha z=>?_,Bn.mpr ⟨fun z=>n2 (.inl z),r.tn⟩,fun i x q=>?_⟩
 .rcases Ag.mp z with z|z
  .subst z;exact n2 (.inr (.inl ha))
  .exact r.lt a ha z
 .rcases Ag.mp ha with h|h
  .subst h;exact n2 (.inr (.inr z))
  .exact r.to a h z
 .obtain⟨v,h1,h2⟩:=r.slot i x q
  refine⟨v,h1,?_⟩
  cases x with
  |v x=>exact Rep.ext e (fun _ z=>z.elim) hO h2
  |m c=>
   obtain⟨a,a1,a2,a3⟩:=h2;have ha:F.O a:= .inr (.inl (Al a1));exact⟨a,a1,a2,a3.ext e (fun _ z=>z.elim) hO fun u hu=>(e.keep a u hu (r.heap.off a ha) fun z=>z).1⟩
def FOut.of {r:Res Vl} (rel:Rel κ F σ H) (o:Out κ E (kE κ) F σ H Q r):FOut κ E F.O F.β H Q r:=by
 cases r with
 |no=>exact o
 |ex x h'=>exact fun β' H' e r'=>o β' H' e (r'.sub fun a ha=>.inr (.inr ha))
 |ok r h'=>
  intro β' v H' e q
  refine o β' v H' e ?_
  cases r with
  |v x=>exact⟨rel.next e q.1,q.2⟩
  |m c=>
   obtain⟨p,h1,h2,h3,h4,h5⟩:=q;have ho:∀a,((F.to β' h').with p).O a->a=p\/F.O a:=fun a ha=>by
    rcases ha with z|z
    .rcases Ag.mp z with z|z
     .exact .inl z
     .exact .inr (.inl z)
    .exact .inr (.inr z)
   exact⟨p,h1,rel.nextNew e h2 h4,h3.sub ho,h4⟩
def eCall (f:F3) (a:A3):E3:=fun s h=>(a s h).bind fun fs h1=>match vals3 fs with
 |some vs=>f vs h1
 |none=>.no
def zn (f:F3) (k:Nat):Prop:=∀vs h,vs.length≠k->f vs h=.no
def zy {k n:Nat} {b:D3}:zn (fun3 k n b) k:=fun vs h e=>Ac e
def SW {f:F3} {t:A3} {k:Nat} (hf:zn f k) (h:zh κ E (eCall f t) σ H Q):Lx (zm κ k f) [] E (zN κ E t) σ H Q:=by
 obtain⟨F,rel,o⟩:=h
 refine (z9 (K:=kA κ) zR rel o).mono fun vs H1 ⟨β1,h1,fs,e1,⟨r1,rf1⟩,o1⟩=>?_
 cases q:vals3 fs with
 |none=>simp only[q]at o1;exact o1.elim
 |some xs=>
  simp only[q]at o1;have hr:=CI rf1 q;rw[B1]
  refine⟨F.O,β1,xs,h1,?_,r1.heap,hr,FOut.of r1 o1⟩
  refine Gj fun n=>?_
  rw[hf xs h1 (by rw[hr.length];exact n)]at o1
  exact o1
def Hr {x:Str} {es:List Expr} {f:F3} {t:A3} {k:Nat} {fa:Addr} {fd:FuncData} {ps:List Str} {n:Nat} (hf:zn f n) (Fk:FnOk X.prog X.w X.K X.mg X.base (XT X.prog X.w) k fa fd ps (zm κ n f)) (hr:Room k X.A) (hg:Gl X x) (hm:X.mg x=some (.ref fa)) (hk:PySem.W.keepIn X.K (.ref fa)=true) (hb:Binds X.K fd ps []) (hx:qN (XT X.prog X.w) X E)
 (ha:PA X (e::es) (zN κ E t)) (hdb:(x==("__debug__" :Str))=false:=by decide) (he:SE X e es:=by rfl) (hpl:BA X pos es:=by rfl):
 PE X (.Call (.Name x np) (e::es) [] pos) (zh κ E (eCall f t)):=yC (QW Fk hr hg hm hk hb .nil hx ha hdb he hpl) fun _ _ _ h=>SW hf h
def FC:qN (XT X.prog X.w) X E0:=fun pins σ H s e s' I h=>by
 obtain⟨_,_,_,_,_,_,_,_,_,_,_,_,_,_,_,q⟩:=h;exact q.elim
end
section
variable {X:Cx} {κ:Kx} {E:XK} {F:Fr} {σ:L2.St} {H H':Hp} {Q:VK} {p:Addr} {pos:Pos} {i:Nat}
noncomputable def oI (g:Int->Int->Option V3):F2:=fun _ _ x y=>match x,y with
 |.x (.int i),.x (.int j)=>(g i j).map .v
 |_,_=>none
def MH {g:Int->Int->Option V3} {s:S3} {h:H3} {x y:Rf} {z:Vl} (e:oI g s h x y=some z):∃i j w,x=.x (.int i)/\y=.x (.int j)/\g i j=some w/\z=.v w:=by
 unfold oI at e
 split at e
 .rename_i i j
  cases q:g i j with
  |none=>rw[q]at e;cases e
  |some w=>rw[q]at e;cases e;exact⟨i,j,w,rfl,rfl,q,rfl⟩
 .cases e
def DL {gv:Int->Int->V} {g:Int->Int->Option V3} (hg:∀i j z,g i j=some z->∀β O H,Rep κ β O H z (gv i j)):OpSim κ (qq gv) (oI g):=fun F σ H x y z v w Q rel rx ry e k=>by
 obtain⟨i,j,u,rfl,rfl,q,rfl⟩:=MH e;cases (show Rep κ F.β F.O H (.int i) v from rx)
 cases (show Rep κ F.β F.O H (.int j) w from ry)
 exact⟨i,j,rfl,rfl,k _ H Ext.refl ⟨rel,hg i j u q _ _ _⟩⟩
def FD {C:Int->Int->Prop} {gv:Int->Int->V} {g:Int->Int->Option V3} (hg:∀i j z,g i j=some z->C i j/\∀β O H,Rep κ β O H z (gv i j)):OpSim κ (rI C gv) (oI g):=fun F σ H x y z v w Q rel rx ry e k=>by
 obtain⟨i,j,u,rfl,rfl,q,rfl⟩:=MH e;cases (show Rep κ F.β F.O H (.int i) v from rx)
 cases (show Rep κ F.β F.O H (.int j) w from ry)
 exact⟨i,j,rfl,rfl,(hg i j u q).1,k _ H Ext.refl ⟨rel,(hg i j u q).2 _ _ _⟩⟩
instance {i j:Int}:Decidable (CMul i j):=inferInstanceAs (Decidable (_\/_))
instance {i j:Int}:Decidable (CDiv i j):=inferInstanceAs (Decidable (_/\_))
instance {i j:Int}:Decidable (CPow i j):=inferInstanceAs (Decidable (_/\_))
def AE:F2:=oI fun i j=>some (.int (i+j))
def yg:F2:=oI fun i j=>some (.int (i-j))
def Hs:F2:=oI fun i j=>if CMul i j then some (.int (i*j)) else none
def z7:F2:=oI fun i j=>if CDiv i j then some (.int (i / j)) else none
def zD:F2:=oI fun i j=>if 0<j then some (.int (i%j)) else none
def oPow:F2:=oI fun i j=>if CPow i j then some (.int (i ^ j.toNat)) else none
def oShr:F2:=oI fun i j=>if 0<=j then some (.int (i / 2 ^ j.toNat)) else none
def Jb:F2:=oI fun i j=>some (.int (Builtin.bitAnd i j))
def qP:F2:=oI fun i j=>some (.bl (decide (i<j)))
def jr:F2:=oI fun i j=>some (.bl (decide (i<=j)))
def ju:F2:=oI fun i j=>some (.bl (decide (j<i)))
def oGe:F2:=oI fun i j=>some (.bl (decide (j<=i)))
def sim_addI:OpSim κ (qq fun i j=>.int (i+j)) AE:=DL fun i j z e=>by cases e;exact fun _ _ _=>.int _
def BB:OpSim κ (qq fun i j=>.int (i-j)) yg:=DL fun i j z e=>by cases e;exact fun _ _ _=>.int _
def SX:OpSim κ (qq fun i j=>.int (Builtin.bitAnd i j)) Jb:=DL fun i j z e=>by cases e;exact fun _ _ _=>.int _
def BS:OpSim κ (qq fun i j=>.bl (decide (i<j))) qP:=DL fun i j z e=>by cases e;exact fun _ _ _=>.bl _
def BC:OpSim κ (qq fun i j=>.bl (decide (i<=j))) jr:=DL fun i j z e=>by cases e;exact fun _ _ _=>.bl _
def BD:OpSim κ (qq fun i j=>.bl (decide (j<i))) ju:=DL fun i j z e=>by cases e;exact fun _ _ _=>.bl _
def qy {c:Prop} [Decidable c] {α:Type} {x z:α} (e:(if c then some x else none)=some z):c/\x=z:=by
 by_cases h:c
 .rw[Ab h]at e;exact⟨h,Option.some.inj e⟩
 .rw[Ac h]at e;cases e
def sim_mulI:OpSim κ (rI CMul fun i j=>.int (i*j)) Hs:=FD fun i j z e=>by obtain⟨h,rfl⟩:=qy e;exact⟨h,fun _ _ _=>.int _⟩
def qv:OpSim κ (rI CDiv fun i j=>.int (i / j)) z7:=FD fun i j z e=>by obtain⟨h,rfl⟩:=qy e;exact⟨h,fun _ _ _=>.int _⟩
def yE:OpSim κ (rI (fun _ j=>0<j) fun i j=>.int (i%j)) zD:=FD fun i j z e=>by obtain⟨h,rfl⟩:=qy e;exact⟨h,fun _ _ _=>.int _⟩
def SY:OpSim κ (rI CPow fun i j=>.int (i ^ j.toNat)) oPow:=FD fun i j z e=>by obtain⟨h,rfl⟩:=qy e;exact⟨h,fun _ _ _=>.int _⟩
def SZ:OpSim κ (rI (fun _ j=>0<=j) fun i j=>.int (i / 2 ^ j.toNat)) oShr:=FD fun i j z e=>by obtain⟨h,rfl⟩:=qy e;exact⟨h,fun _ _ _=>.int _⟩
def qi (f g:F2):F2:=fun s h x y=>match f s h x y with
 |some z=>some z
 |none=>g s h x y
def OpSim.or {r r':R2} {f g:F2} (hf:OpSim κ r f) (hg:OpSim κ r' g):OpSim κ (fun x y H Q=>r x y H Q\/r' x y H Q) (qi f g):=fun F σ H x y z v w Q rel rx ry e k=>by
 unfold qi at e;cases q:f F.s F.h x y with
 |some u=>rw[q]at e;cases e;exact .inl (hf F σ H x y _ v w Q rel rx ry q k)
 |none=>rw[q]at e;exact .inr (hg F σ H x y z v w Q rel rx ry e k)
noncomputable def FE:F2:=fun _ _ x y=>match x,y with
 |.x (.str i),.x (.str j)=>if i.length+j.length<=sizeLine then some (.v (.str (i++j))) else none
 |_,_=>none
def sim_addS:OpSim κ (fun x y H Q=> ∃i j,x=.str i/\y=.str j/\i.length+j.length<=sizeLine/\Q (.str (i++j)) H) FE:=fun F σ H x y z v w Q rel rx ry e k=>by
 unfold FE at e
 split at e
 .rename_i i j
  obtain⟨h,rfl⟩:=qy e;cases (show Rep κ F.β F.O H (.str i) v from rx)
  cases (show Rep κ F.β F.O H (.str j) w from ry)
  exact⟨i,j,rfl,rfl,h,k _ H Ext.refl ⟨rel,.str _⟩⟩
 .cases e
def rdm (s:S3) (h:H3):Rf->Option (List V3)
 |.x (.scr _)=>none
 |f=>rdl s h f
def CL {f:Rf} {v:V} {xs:List V3} (rel:Rel κ F σ H) (r:RfR κ F H f v) (e:rdm F.s F.h f=some xs):∃a ys,v=.ref a/\H a=some (.lst ys)/\Reps κ F.β F.O H xs ys:=by
 cases f with
 |s i=>
  have e:rdl F.s F.h (.s i)=some xs:=e;obtain⟨a,c,h1,h2,h3,h4⟩:=r;simp only[rdl,h3]at e;cases c<;>simp at e
  subst e;obtain⟨ys,h5,h6⟩:=h4;exact⟨a,ys,h2,h5,h6⟩
 |x y=>
  cases y<;>simp[rdm,rdl]at e
  case lst zs=>
   subst e;cases r with
   |lst h1 h2 h3 h4=>exact⟨_,_,rfl,h1,h4⟩
  case loc n=>
   cases r with
   |loc h1 h2=>
    cases q:F.h[n]? with
    |none=>rw[q]at e;cases e
    |some c=>
     rw[q]at e;cases c<;>simp at e
     subst e
     rcases rel.heap.cell n _ q with z|⟨a,ha,ys,h5,h6⟩
     .cases z
     .exact⟨a,ys,h2 a ha,h5,h6⟩
def oCat:F2:=fun s h x y=>match rdm s h x,rdm s h y with
 |some xs,some ys=>if xs.length+ys.length<=sizeLine then some (.m (.lst (xs++ys))) else none
 |_,_=>none
def Ta:OpSim κ rCat oCat:=fun F σ H x y z v w Q rel rx ry e k=>by
 unfold oCat at e;cases q1:rdm F.s F.h x with
 |none=>rw[q1]at e;cases e
 |some xs=>
  cases q2:rdm F.s F.h y with
  |none=>rw[q1,q2]at e;cases e
  |some ys=>
   rw[q1,q2]at e;obtain⟨h,rfl⟩:=qy e;obtain⟨a,us,rfl,ha,ra⟩:=CL rel rx q1;obtain⟨b,ws,rfl,hb,rb⟩:=CL rel ry q2;exact⟨a,b,us,ws,rfl,rfl,ha,hb,by rw[<-ra.length,<-rb.length];exact h,fun p hp=>k _ _ (yW hp) (Post.lst rel hp (ra.append rb))⟩
def zB:F2:=qi AE (qi FE oCat)
def yG:OpR X (binaryOp .Add) (fun x y H Q=>(qq fun i j=>.int (i+j)) x y H Q\/((fun x y H Q=> ∃i j,x=.str i/\y=.str j/\i.length+j.length<=sizeLine/\Q (.str (i++j)) H) x y H Q\/rCat x y H Q)):=op_add.or (op_add_str.or R5)
def yF:OpSim κ (fun x y H Q=>(qq fun i j=>.int (i+j)) x y H Q\/((fun x y H Q=> ∃i j,x=.str i/\y=.str j/\i.length+j.length<=sizeLine/\Q (.str (i++j)) H) x y H Q\/rCat x y H Q)) zB:=sim_addI.or (sim_addS.or Ta)
def oRep:F2:=fun s h x y=>match rdm s h x,y with
 |some xs,.x (.int k)=>if -(2 ^ 63)<=k/\k<2 ^ 63/\xs.length*k.toNat<=sizeLine then some (.m (.lst (List.replicate k.toNat xs).flatten)) else none
 |_,_=>none
def Tb:OpSim κ rRep oRep:=fun F σ H x y z v w Q rel rx ry e k=>by
 unfold oRep at e
 split at e
 .rename_i xs n q
  obtain⟨⟨h1,h2,h3⟩,rfl⟩:=qy e;obtain⟨a,us,rfl,ha,ra⟩:=CL rel rx q;cases (show Rep κ F.β F.O H (.int n) w from ry)
  exact⟨a,n,us,rfl,rfl,ha,h1,h2,by rw[<-ra.length];exact h3,fun p hp=>k _ _ (yW hp) (Post.lst rel hp (ra.rep _))⟩
 .cases e
def zZ:F2:=qi Hs oRep
def qF:OpR X (binaryOp .Mult) (fun x y H Q=>(rI CMul fun i j=>.int (i*j)) x y H Q\/rRep x y H Q):=op_mul.or R7
def qE:OpSim κ (fun x y H Q=>(rI CMul fun i j=>.int (i*j)) x y H Q\/rRep x y H Q) zZ:=sim_mulI.or Tb
theorem Reps.atI {xs:List V3} {ys:List V} {i:Int} {x:V3} (r:Reps κ F.β F.O H xs ys) (e:atI xs i=some x):∃y,L2.atI ys i=some y/\Rep κ F.β F.O H x y:=by
 unfold L2.atI at e ⊢;rw[<-r.length];cases q:qp xs.length i with
 |none=>rw[q]at e;cases e
 |some j=>
  rw[q]at e;exact r.get e
def yL:F2:=fun s h x y=>match y with
 |.x (.int i)=>match rdl s h x with
  |some xs=>(atI xs i).map .v
  |none=>none
 |_=>none
def oIxT:F2:=fun _ _ x y=>match x,y with
 |.x (.tup xs),.x (.int i)=>(atI xs i).map .v
 |_,_=>none
def oIxS:F2:=fun _ _ x y=>match x,y with
 |.x (.str z),.x (.int i)=>if z.length<=sizeLine then (atI z.cps.toList i).map fun c=>.v (.str ⟨#[c]⟩) else none
 |_,_=>none
def sim_ixL:OpSim κ (rIxL κ.K) yL:=fun F σ H x y z v w Q rel rx ry e k=>by
 unfold yL at e
 split at e
 .rename_i i
  cases (show Rep κ F.β F.O H (.int i) w from ry)
  cases q:rdl F.s F.h x with
  |none=>rw[q]at e;cases e
  |some xs=>
   rw[q]at e;cases q2:atI xs i with
   |none=>simp only[q2]at e;cases e
   |some u=>
    simp only[q2]at e;cases e;obtain⟨a,us,rfl,sq,ra⟩:=jE rel rx q;obtain⟨y,hy,ry'⟩:=Reps.atI ra q2;exact⟨a,us,i,y,rfl,rfl,sq,hy,k _ H Ext.refl ⟨rel,ry'⟩⟩
 .cases e
def sim_ixT:OpSim κ (rIxT κ.K) oIxT:=fun F σ H x y z v w Q rel rx ry e k=>by
 unfold oIxT at e
 split at e
 .rename_i xs i
  cases (show Rep κ F.β F.O H (.int i) w from ry)
  cases q2:atI xs i with
  |none=>rw[q2]at e;cases e
  |some u=>
   rw[q2]at e;cases e;cases (show Rep κ F.β F.O H (.tup xs) v from rx) with
   |tup h1 h2 h3 h4=>
    obtain⟨y,hy,ry'⟩:=Reps.atI h4 q2;exact⟨_,_,i,y,rfl,rfl,.of h1,hy,k _ H Ext.refl ⟨rel,ry'⟩⟩
 .cases e
def Tc:OpSim κ rIxS oIxS:=fun F σ H x y z v w Q rel rx ry e k=>by
 unfold oIxS at e
 split at e
 .rename_i zz i
  cases (show Rep κ F.β F.O H (.int i) w from ry)
  cases (show Rep κ F.β F.O H (.str zz) v from rx)
  obtain⟨h,e⟩:zz.length<=sizeLine/\((atI zz.cps.toList i).map fun c=>Vl.v (.str ⟨#[c]⟩))=some z:=by
   by_cases h:zz.length<=sizeLine
   .rw[Ab h]at e;exact⟨h,e⟩
   .rw[Ac h]at e;cases e
  cases q2:atI zz.cps.toList i with
  |none=>rw[q2]at e;cases e
  |some c=>
   rw[q2]at e;cases e;exact⟨zz,i,c,rfl,rfl,h,q2,k _ H Ext.refl ⟨rel,.str _⟩⟩
 .cases e
def zq:F2:=qi oIxT (qi yL oIxS)
def MI (hK:X.K=κ.K):IxR X (fun x y H Q=>rIxT κ.K x y H Q\/(fun x y H Q=>rIxL κ.K x y H Q\/rIxS x y H Q) x y H Q):=by
 rw[<-hK];exact ix_tup.or (ix_list.or Rv)
def MJ:OpSim κ (fun x y H Q=>rIxT κ.K x y H Q\/(fun x y H Q=>rIxL κ.K x y H Q\/rIxS x y H Q) x y H Q) zq:=sim_ixT.or (sim_ixL.or Tc)
noncomputable def oIsN (neg:Bool):F2:=fun _ _ x y=>match x,y with
 |.x .non,.x .non=>some (.v (.bl (!neg)))
 |.x (.loc _),_=>none
 |.x _,.x .non=>some (.v (.bl neg))
 |.s _,.x .non=>some (.v (.bl neg))
 |_,_=>none
def Td {x:V3} {v:V} (r:Rep κ F.β F.O H x v) (h:x≠ .non) (h2:∀n,x≠ .loc n):v≠ .non:=by
 cases r<;>first|(intro z;cases z;done)|(exact absurd rfl h)|(exact absurd rfl (h2 _))
def Te {neg:Bool} {s:S3} {h:H3} {x y:Rf} {z:Vl} {v w:V} (e:oIsN neg s h x y=some z) (rx:RfR κ F H x v) (ry:RfR κ F H y w):w=.non/\z=.v (.bl (if neg then !decide (v=.non) else decide (v=.non))):=by
 unfold oIsN at e
 split at e
 .cases e
  cases (show Rep κ F.β F.O H .non v from rx)
  cases (show Rep κ F.β F.O H .non w from ry)
  exact⟨rfl,by cases neg<;>simp⟩
 .cases e
 .rename_i x h1 h2
  cases e;cases (show Rep κ F.β F.O H .non w from ry)
  have hv:v≠ .non:=Td (show Rep κ F.β F.O H x v from rx) (fun z=>by subst z;exact h1 rfl) (fun n z=>by subst z;exact h2 n rfl)
  exact⟨rfl,by cases neg<;>simp[hv]⟩
 .cases e
  cases (show Rep κ F.β F.O H .non w from ry)
  obtain⟨a,c,_,h2,_⟩:=rx;have hv:v≠ .non:=by rw[h2];intro z;cases z
  exact⟨rfl,by cases neg<;>simp[hv]⟩
 .cases e
def Jc:OpSim κ (fun x y H Q=>y=.non/\Q (.bl (!decide (x=.non))) H) (oIsN true):=fun F σ H x y z v w Q rel rx ry e k=>by
 obtain⟨h1,rfl⟩:=Te e rx ry;exact⟨h1,k _ H Ext.refl ⟨rel,.bl _⟩⟩
end
inductive K3 where
 |f (a:V)|l (xs:List V3)|t (xs:List V3)|o
noncomputable def yn (h:H3):V3->K3
 |.non=>.f .non
 |.bl b=>.f (.bl b)
 |.int i=>.f (.int i)
 |.str x=>.f (.str x)
 |.lst xs=>.l xs
 |.tup xs=>.t xs
 |.loc n=>match h[n]? with
  |some (.lst xs)=>.l xs
  |_=>.o
 |_=>.o
noncomputable def yD (f:V3->V3->Option Bool):List V3->List V3->Option Bool
 |x::xs,y::ys=>match f x y,yD f xs ys with
  |some a,some b=>some (a && b)
  |_,_=>none
 |_,_=>some true
noncomputable def zJ (h:H3):Nat->V3->V3->Option Bool
 |0,x,y=>match yn h x,yn h y with
  |.f a,.f b=>some (eqV a b)
  |_,_=>none
 |n+1,x,y=>match yn h x,yn h y with
  |.f a,.f b=>some (eqV a b)
  |.l xs,.l ys=>if xs.length=ys.length then yD (zJ h n) xs ys else some false
  |.t xs,.t ys=>(yD (zJ h n) xs ys).map (· && xs.length==ys.length)
  |.o,_=>none
  |_,.o=>none
  |_,_=>some false
section
variable {X:Cx} {κ:Kx} {E:XK} {F:Fr} {σ:L2.St} {H H':Hp} {Q:VK} {p:Addr} {pos:Pos} {i:Nat}
theorem DM {f:V3->V3->Option Bool}:∀{xs ys:List V3} {b:Bool},yD f xs ys=some b->(∀(j:Nat) (x y:V3),xs[j]? =some x->ys[j]? =some y->∃c,f x y=some c)/\b=(List.range (min xs.length ys.length)).all fun j=>((xs[j]?).bind fun x=>(ys[j]?).bind fun y=>f x y).getD false
 | [],ys,b,e=>by
  unfold yD at e;cases e;exact⟨fun j x y h=>by simp at h,by simp⟩
 |x::xs,[],b,e=>by
  unfold yD at e;cases e;exact⟨fun j x y _ h=>by simp at h,by simp⟩
 |x::xs,y::ys,b,e=>by
  unfold yD at e;cases q1:f x y with
  |none=>simp only[q1]at e;cases e
  |some a=>
   cases q2:yD f xs ys with
   |none=>simp only[q1,q2]at e;cases e
   |some c=>
    simp only[q1,q2]at e;cases e;obtain⟨h1,h2⟩:=DM q2
    refine⟨fun j x' y' hx hy=>?_,?_⟩
    .cases j with
     |zero=>simp at hx hy;subst hx;subst hy;exact⟨a,q1⟩
     |succ j=>exact h1 j x' y' (by simpa using hx) (by simpa using hy)
    .rw[Bb,Bb,Nat.add_min_add_right,List.range_succ_eq_map,Et,List.all_map]
     simp only[Ec,Fg,q1,Option.getD_some,h2,Function.comp_def,D1]
def qZ {x:V3} {v:V} (rel:RelH κ F.O F.β F.h H) (r:Rep κ F.β F.O H x v):match yn F.h x with
  |.f a=>v=a/\AY a=true
  |.l xs=> ∃a ys,v=.ref a/\H a=some (.lst ys)/\Reps κ F.β F.O H xs ys
  |.t xs=> ∃a ys,v=.ref a/\H a=some (.tup ys)/\Reps κ F.β F.O H xs ys
  |.o=>True:=by
 cases r with
 |lst h1 h2 h3 h4=>exact⟨_,_,rfl,h1,h4⟩
 |tup h1 h2 h3 h4=>exact⟨_,_,rfl,h1,h4⟩
 | @loc n v h1 h2=>
  simp only[yn];cases q:F.h[n]? with
  |none=>trivial
  |some c=>
   cases c with
   |lst xs=>
    rcases rel.cell n _ q with z|⟨a,ha,ys,h5,h6⟩
    .cases z
    .exact⟨a,ys,h2 a ha,h5,h6⟩
   |_=>trivial
 |_=>first|exact⟨rfl,rfl⟩|trivial
def Vals.at {ys:List V} {us:List Value} {j:Nat} {y:V} (r:Vals ys us) (h:j<us.toArray.size) (e:ys[j]? =some y):RelV y us.toArray[j]:=by
 obtain⟨u,h1,h2⟩:=r.get e;have:=(An.mp h1).2;have e1:us.toArray[j]=u:=by simpa using this
 rw[e1];exact h2
def ML {n:Nat} (ih:∀{x y:V3} {v:V} {b:Bool},Rep κ F.β F.O H x v->Rep κ F.β F.O H y v->zJ F.h n x y=some b->b=true):∀{xs ys:List V3} {vs:List V} {b:Bool},Reps κ F.β F.O H xs vs->Reps κ F.β F.O H ys vs->yD (zJ F.h n) xs ys=some b->b=true:=by
 intro xs
 induction xs with
 |nil=>intro ys vs b _ _ e;unfold yD at e;cases e;rfl
 |cons x xs ihx=>
  intro ys vs b r1 r2 e;cases r1 with
  |cons a1 t1=>
   cases r2 with
   | @cons y _ ys _ a2 t2=>
    unfold yD at e;cases q1:zJ F.h n x y with
    |none=>simp only[q1]at e;cases e
    |some a=>
     cases q2:yD (zJ F.h n) xs ys with
     |none=>simp only[q1,q2]at e;cases e
     |some c=>
      simp only[q1,q2]at e;cases e;rw[ih a1 a2 q1,ihx t1 t2 q2];rfl
def MM {a:V} (h:AY a=true):eqV a a=true:=by cases a<;>simp[AY]at h<;>simp[eqV]
theorem Jd (rel:RelH κ F.O F.β F.h H):∀(n:Nat) {x y:V3} {v:V} {b:Bool},Rep κ F.β F.O H x v->Rep κ F.β F.O H y v->zJ F.h n x y=some b->b=true
 |0,x,y,v,b,rx,ry,e=>by
  have kx:=qZ rel rx;have ky:=qZ rel ry;unfold zJ at e;cases h1:yn F.h x<;>cases h2:yn F.h y<;>simp only[h1,h2]at e kx ky<;>try cases e
  obtain⟨e1,e2⟩:=kx;obtain⟨e3,_⟩:=ky;rw[<-e1,<-e3];rw[<-e1]at e2;exact MM e2
 |n+1,x,y,v,b,rx,ry,e=>by
  have kx:=qZ rel rx;have ky:=qZ rel ry;unfold zJ at e;cases h1:yn F.h x<;>cases h2:yn F.h y<;>simp only[h1,h2]at e kx ky<;>try cases e
  case f.f=>
   obtain⟨e1,e2⟩:=kx;obtain⟨e3,_⟩:=ky;rw[<-e1,<-e3];rw[<-e1]at e2;exact MM e2
  case f.l=>obtain⟨e1,e2⟩:=kx;obtain⟨a,ys,e3,_⟩:=ky;rw[<-e1,e3]at e2;cases e2
  case f.t=>obtain⟨e1,e2⟩:=kx;obtain⟨a,ys,e3,_⟩:=ky;rw[<-e1,e3]at e2;cases e2
  case l.f=>obtain⟨e1,e2⟩:=ky;obtain⟨a,ys,e3,_⟩:=kx;rw[<-e1,e3]at e2;cases e2
  case t.f=>obtain⟨e1,e2⟩:=ky;obtain⟨a,ys,e3,_⟩:=kx;rw[<-e1,e3]at e2;cases e2
  case l.t=>obtain⟨a,ys,e3,h5,_⟩:=kx;obtain⟨a',ys',e4,h6,_⟩:=ky;rw[e3]at e4;cases e4;rw[h5]at h6;cases h6
  case t.l=>obtain⟨a,ys,e3,h5,_⟩:=kx;obtain⟨a',ys',e4,h6,_⟩:=ky;rw[e3]at e4;cases e4;rw[h5]at h6;cases h6
  case l.l xs ys=>
   obtain⟨a,us,e3,h5,r5⟩:=kx;obtain⟨a',us',e4,h6,r6⟩:=ky;rw[e3]at e4;cases e4;rw[h5]at h6;cases h6;rw[Ab (by rw[r5.length,r6.length])]at e
   exact ML (fun a b c=>Jd rel n a b c) r5 r6 e
  case t.t xs ys=>
   obtain⟨a,us,e3,h5,r5⟩:=kx;obtain⟨a',us',e4,h6,r6⟩:=ky;rw[e3]at e4;cases e4;rw[h5]at h6;cases h6;cases q:yD (zJ F.h n) xs ys with
   |none=>rw[q]at e;cases e
   |some c=>
    rw[q]at e;cases e;rw[ML (fun a b c=>Jd rel n a b c) r5 r6 q,r5.length,r6.length]
    simp
def MN {s:Shared} {a c:V} {v u:Value} {A:Around} (r1:RelV a v) (r2:RelV c u) (f1:AY a=true) (f2:AY c=true):SeqAt.RcAt A s v u (eqV a c)/\SeqAt.RcNeAt A s v u (!eqV a c):=by
 cases a with
 |non=>
  cases r1;cases c with
  |non=>cases r2;exact⟨.none_none,.none_none⟩
  |bl c=>cases r2;exact⟨.none_bool _,.none_bool _⟩
  |int c=>obtain⟨tr2,rfl⟩:=r2;exact⟨.none_int _ _,.none_int _ _⟩
  |str c=>obtain⟨tr2,rfl⟩:=r2;exact⟨.none_str _ _,.none_str _ _⟩
  |_=>exact absurd (show false=true from f2) Ba
 |bl a=>
  cases r1;cases c with
  |non=>cases r2;exact⟨.bool_none _,.bool_none _⟩
  |bl c=>cases r2;exact⟨.bool_bool _ _,.bool_bool _ _⟩
  |int c=>obtain⟨tr2,rfl⟩:=r2;exact⟨.bool_int _ _ _,.bool_int _ _ _⟩
  |str c=>obtain⟨tr2,rfl⟩:=r2;exact⟨.bool_str _ _ _,.bool_str _ _ _⟩
  |_=>exact absurd (show false=true from f2) Ba
 |int a=>
  obtain⟨tr1,rfl⟩:=r1;cases c with
  |non=>cases r2;exact⟨.int_none _ _,.int_none _ _⟩
  |bl c=>cases r2;exact⟨.int_bool _ _ _,.int_bool _ _ _⟩
  |int c=>obtain⟨tr2,rfl⟩:=r2;exact⟨.int_int _ _ _ _,.int_int _ _ _ _⟩
  |str c=>obtain⟨tr2,rfl⟩:=r2;exact⟨.int_str _ _ _ _,.int_str _ _ _ _⟩
  |_=>exact absurd (show false=true from f2) Ba
 |str a=>
  obtain⟨tr1,rfl⟩:=r1;cases c with
  |non=>cases r2;exact⟨.str_none _ _,.str_none _ _⟩
  |bl c=>cases r2;exact⟨.str_bool _ _ _,.str_bool _ _ _⟩
  |int c=>obtain⟨tr2,rfl⟩:=r2;exact⟨.str_int _ _ _ _,.str_int _ _ _ _⟩
  |str c=>obtain⟨tr2,rfl⟩:=r2;exact⟨.str_str _ _ _ _,.str_str _ _ _ _⟩
  |_=>exact absurd (show false=true from f2) Ba
 |_=>exact absurd (show false=true from f1) Ba
def ans (h:H3) (n:Nat) (xs ys:List V3) (j:Nat):Bool:=((xs[j]?).bind fun x=>(ys[j]?).bind fun y=>zJ h n x y).getD false
def Je (rel:RelH κ F.O F.β F.h H):∀(n:Nat) {pins:AL} {s:Shared} {x y:V3} {v' u':V} {v u:Value} {b:Bool} {A:Around},Inv X pins σ H s->Rep κ F.β F.O H x v'->Rep κ F.β F.O H y u'->RelV v' v->RelV u' u->zJ F.h n x y=some b->A.units+n<cLine->
  (SeqAt.RcAt A s v u b/\SeqAt.RcNeAt A s v u (!b))/\SeqAt.EqAt A s v u b:=by
 intro n
 induction n with
 |zero=>
  intro pins s x y v' u' v u b A I rx ry rv ru e hu;have kx:=qZ rel rx;have ky:=qZ rel ry;unfold zJ at e;cases h1:yn F.h x<;>cases h2:yn F.h y<;>simp only[h1,h2]at e kx ky<;>try cases e
  obtain⟨e1,e2⟩:=kx;obtain⟨e3,e4⟩:=ky;subst e1;subst e3;exact⟨MN rv ru e2 e4,LD rv ru e2 e4⟩
 |succ n ih=>
  intro pins s x y v' u' v u b A I rx ry rv ru e hu;have kx:=qZ rel rx;have ky:=qZ rel ry;have e0:=e;unfold zJ at e;have items:∀{xs ys:List V3} {us ws:List V} {vs zs:List Value} {c:Bool},Reps κ F.β F.O H xs us->Reps κ F.β F.O H ys ws->Vals us vs->Vals ws zs->yD (zJ F.h n) xs ys=some c->∀j (h1:j<vs.toArray.size) (h2:j<zs.toArray.size),SeqAt.EqAt A.in1 s vs.toArray[j] zs.toArray[j] (ans F.h n xs ys j):=by
   intro xs ys us ws vs zs c r1 r2 v1 v2 q j h1 h2;have l1:=r1.length;have l2:=r2.length;have l3:=v1.length;have l4:=v2.length;have h1':j<xs.length:=by rw[l1,l3];simpa using h1
   have h2':j<ys.length:=by rw[l2,l4];simpa using h2
   obtain⟨y1,hy1,ry1⟩:=r1.get (zI h1');obtain⟨y2,hy2,ry2⟩:=r2.get (zI h2');obtain⟨d,hd⟩:=(DM q).1 j _ _ (zI h1') (zI h2');have ea:ans F.h n xs ys j=d:=by unfold ans;rw[zI h1',zI h2'];simp[hd]
   rw[ea];exact (ih I ry1 ry2 (Vals.at v1 h1 hy1) (Vals.at v2 h2 hy2) hd (by show A.units+1+n<cLine;lia)).2
  have wrap:∀{a a':Addr},v'=.ref a->u'=.ref a'->(SeqAt.RcAt A s v u b/\SeqAt.RcNeAt A s v u (!b))->(SeqAt.RcAt A s v u b/\SeqAt.RcNeAt A s v u (!b))/\SeqAt.EqAt A s v u b:=by
   intro a a' ea ea' h
   refine⟨h,?_⟩
   subst ea;subst ea';cases rv;cases ru
   by_cases z:a=a'
   .subst z
    rw[Jd rel (n+1) rx ry e0];exact SeqAt.EqAt.same _
   .exact SeqAt.EqAt.of_refs z h.1
  cases h1:yn F.h x<;>cases h2:yn F.h y<;>simp only[h1,h2]at e kx ky<;>try cases e
  case succ.f.f.refl=>
   obtain⟨e1,e2⟩:=kx;obtain⟨e3,e4⟩:=ky;subst e1;subst e3;exact⟨MN rv ru e2 e4,LD rv ru e2 e4⟩
  case succ.l.l xs ys=>
   obtain⟨a,us,rfl,h5,r5⟩:=kx;obtain⟨a',us',rfl,h6,r6⟩:=ky
   refine wrap rfl rfl ?_
   cases rv;cases ru;obtain⟨vs,rv,pl,_⟩:=I.list (SqL.of (K:=X.K) h5);obtain⟨zs,rz,pz,_⟩:=I.list (SqL.of (K:=X.K) h6);have l1:=r5.length;have l2:=r6.length;have l3:=rv.length;have l4:=rz.length
   by_cases hl:xs.length=ys.length
   .rw[Ab hl]at e
    have hsz:vs.toArray.size=zs.toArray.size:=by rw[Am,Am];lia
    have eb:b=(List.range vs.toArray.size).all (ans F.h n xs ys):=by
     rw[(DM e).2,<-hl,Nat.min_self,Am,<-l3,<-l1];rfl
    rw[eb];exact⟨.lists pl.isList pz.isList hsz (by lia) (items r5 r6 rv rz e),.lists pl.isList pz.isList hsz (by lia) (items r5 r6 rv rz e)⟩
   .rw[Ac hl]at e;cases e
    have hsz:(vs.toArray.size !=zs.toArray.size)=true:=by rw[Am,Am];simp;lia
    exact⟨.lists_lengths pl.isList pz.isList hsz (by lia),.lists_lengths pl.isList pz.isList hsz (by lia)⟩
  case succ.t.t xs ys=>
   obtain⟨a,us,rfl,h5,r5⟩:=kx;obtain⟨a',us',rfl,h6,r6⟩:=ky
   refine wrap rfl rfl ?_
   cases rv;cases ru;obtain⟨vs,rv,pl,_⟩:=I.tuple (SqT.of (K:=X.K) h5);obtain⟨zs,rz,pz,_⟩:=I.tuple (SqT.of (K:=X.K) h6);have l1:=r5.length;have l2:=r6.length;have l3:=rv.length;have l4:=rz.length;cases q:yD (zJ F.h n) xs ys with
   |none=>rw[q]at e;cases e
   |some c=>
    rw[q]at e;have eb:b=((List.range (min vs.toArray.size zs.toArray.size)).all (ans F.h n xs ys) && vs.toArray.size==zs.toArray.size):=by
     cases e;rw[(DM q).2,Am,Am,<-l3,<-l4,<-l1,<-l2];rfl
    rw[eb];exact⟨.tuples (show s.heap.IsTuple a vs.toArray from pl) (show s.heap.IsTuple a' zs.toArray from pz) (by lia) (items r5 r6 rv rz q),.tuples (show s.heap.IsTuple a vs.toArray from pl) (show s.heap.IsTuple a' zs.toArray from pz) (by lia) (items r5 r6 rv rz q)⟩
  case succ.l.t.refl xs ys=>
   obtain⟨a,us,rfl,h5,r5⟩:=kx;obtain⟨a',us',rfl,h6,r6⟩:=ky
   refine wrap rfl rfl ?_
   cases rv;cases ru;obtain⟨vs,rv,pl,_⟩:=I.list (SqL.of (K:=X.K) h5);obtain⟨zs,rz,pz,_⟩:=I.tuple (SqT.of (K:=X.K) h6);exact⟨.list_tuple pl.isList (show s.heap.IsTuple a' zs.toArray from pz) (by lia),.list_tuple pl.isList (show s.heap.IsTuple a' zs.toArray from pz) (by lia)⟩
  case succ.t.l.refl xs ys=>
   obtain⟨a,us,rfl,h5,r5⟩:=kx;obtain⟨a',us',rfl,h6,r6⟩:=ky
   refine wrap rfl rfl ?_
   cases rv;cases ru;obtain⟨vs,rv,pl,_⟩:=I.tuple (SqT.of (K:=X.K) h5);obtain⟨zs,rz,pz,_⟩:=I.list (SqL.of (K:=X.K) h6);exact⟨.tuple_list (show s.heap.IsTuple a vs.toArray from pl) pz.isList (by lia),.tuple_list (show s.heap.IsTuple a vs.toArray from pl) pz.isList (by lia)⟩
  case succ.l.f.refl xs a0=>
   obtain⟨a,us,rfl,h5,r5⟩:=kx;obtain⟨e3,e4⟩:=ky;subst e3;cases rv;obtain⟨vs,rv,pl,_⟩:=I.list (SqL.of (K:=X.K) h5);have hu':A.units<cLine:=by lia
   cases u' with
   |non=>cases ru;exact⟨⟨.list_none pl.isList hu',.list_none pl.isList hu'⟩,.list_none pl.isList hu'⟩
   |bl b=>cases ru;exact⟨⟨.list_bool b pl.isList hu',.list_bool b pl.isList hu'⟩,.list_bool b pl.isList hu'⟩
   |int b=>obtain⟨t,rfl⟩:=ru;exact⟨⟨.list_int b t pl.isList hu',.list_int b t pl.isList hu'⟩,.list_int b t pl.isList hu'⟩
   |str b=>obtain⟨t,rfl⟩:=ru;exact⟨⟨.list_str b t pl.isList hu',.list_str b t pl.isList hu'⟩,.list_str b t pl.isList hu'⟩
   |_=>exact absurd (show false=true from e4) Ba
  case succ.t.f.refl xs a0=>
   obtain⟨a,us,rfl,h5,r5⟩:=kx;obtain⟨e3,e4⟩:=ky;subst e3;cases rv;obtain⟨vs,rv,pl,_⟩:=I.tuple (SqT.of (K:=X.K) h5);have pl:s.heap.IsTuple a vs.toArray:=pl;have hu':A.units<cLine:=by lia
   cases u' with
   |non=>cases ru;exact⟨⟨.tuple_none pl hu',.tuple_none pl hu'⟩,.tuple_none pl hu'⟩
   |bl b=>cases ru;exact⟨⟨.tuple_bool b pl hu',.tuple_bool b pl hu'⟩,.tuple_bool b pl hu'⟩
   |int b=>obtain⟨t,rfl⟩:=ru;exact⟨⟨.tuple_int b t pl hu',.tuple_int b t pl hu'⟩,.tuple_int b t pl hu'⟩
   |str b=>obtain⟨t,rfl⟩:=ru;exact⟨⟨.tuple_str b t pl hu',.tuple_str b t pl hu'⟩,.tuple_str b t pl hu'⟩
   |_=>exact absurd (show false=true from e4) Ba
  case succ.f.l.refl a0 xs=>
   obtain⟨a,us,rfl,h5,r5⟩:=ky;obtain⟨e3,e4⟩:=kx;subst e3;cases ru;obtain⟨vs,ru,pl,_⟩:=I.list (SqL.of (K:=X.K) h5);have hu':A.units<cLine:=by lia
   cases v' with
   |non=>cases rv;exact⟨⟨.none_list pl.isList hu',.none_list pl.isList hu'⟩,.none_list pl.isList hu'⟩
   |bl b=>cases rv;exact⟨⟨.bool_list b pl.isList hu',.bool_list b pl.isList hu'⟩,.bool_list b pl.isList hu'⟩
   |int b=>obtain⟨t,rfl⟩:=rv;exact⟨⟨.int_list b t pl.isList hu',.int_list b t pl.isList hu'⟩,.int_list b t pl.isList hu'⟩
   |str b=>obtain⟨t,rfl⟩:=rv;exact⟨⟨.str_list b t pl.isList hu',.str_list b t pl.isList hu'⟩,.str_list b t pl.isList hu'⟩
   |_=>exact absurd (show false=true from e4) Ba
  case succ.f.t.refl a0 xs=>
   obtain⟨a,us,rfl,h5,r5⟩:=ky;obtain⟨e3,e4⟩:=kx;subst e3;cases ru;obtain⟨vs,ru,pl,_⟩:=I.tuple (SqT.of (K:=X.K) h5);have pl:s.heap.IsTuple a vs.toArray:=pl;have hu':A.units<cLine:=by lia
   cases v' with
   |non=>cases rv;exact⟨⟨.none_tuple pl hu',.none_tuple pl hu'⟩,.none_tuple pl hu'⟩
   |bl b=>cases rv;exact⟨⟨.bool_tuple b pl hu',.bool_tuple b pl hu'⟩,.bool_tuple b pl hu'⟩
   |int b=>obtain⟨t,rfl⟩:=rv;exact⟨⟨.int_tuple b t pl hu',.int_tuple b t pl hu'⟩,.int_tuple b t pl hu'⟩
   |str b=>obtain⟨t,rfl⟩:=rv;exact⟨⟨.str_tuple b t pl hu',.str_tuple b t pl hu'⟩,.str_tuple b t pl hu'⟩
   |_=>exact absurd (show false=true from e4) Ba
def eqO (s:S3) (h:H3) (x y:Rf):Option Bool:=match rdm s h x,rdm s h y with
 |some xs,some ys=>if xs.length=ys.length then yD (zJ h 8) xs ys else some false
 |_,_=>match x,y with
  |.x a,.x b=>zJ h 9 a b
  |_,_=>none
def y0:F2:=fun s h x y=>(eqO s h x y).map fun b=>.v (.bl b)
def oNe:F2:=fun s h x y=>(eqO s h x y).map fun b=>.v (.bl !b)
def rEqT (κ:Kx) (neg:Bool):R2:=fun v w H Q=> ∃F σ x y b,Rel κ F σ H/\RfR κ F H x v/\RfR κ F H y w/\eqO F.s F.h x y=some b/\Q (.bl (if neg then !b else b)) H
def MO {pins:AL} {s:Shared} {σ':L2.St} {x y:Rf} {v' u':V} {v u:Value} {b:Bool} {A:Around} (I:Inv X pins σ' H s) (rel:Rel κ F σ H) (rx:RfR κ F H x v') (ry:RfR κ F H y u') (rv:RelV v' v) (ru:RelV u' u) (e:eqO F.s F.h x y=some b) (hu:A.units+9<cLine):
  SeqAt.RcAt A s v u b/\SeqAt.RcNeAt A s v u (!b):=by
 unfold eqO at e
 split at e
 .rename_i xs ys q1 q2
  obtain⟨a,us,rfl,h5,r5⟩:=CL rel rx q1;obtain⟨a',us',rfl,h6,r6⟩:=CL rel ry q2;cases rv;cases ru;obtain⟨vs,rv,pl,_⟩:=I.list (SqL.of (K:=X.K) h5);obtain⟨zs,rz,pz,_⟩:=I.list (SqL.of (K:=X.K) h6);have l1:=r5.length;have l2:=r6.length;have l3:=rv.length;have l4:=rz.length
  by_cases hl:xs.length=ys.length
  .rw[Ab hl]at e
   have hsz:vs.toArray.size=zs.toArray.size:=by rw[Am,Am];lia
   have eb:b=(List.range vs.toArray.size).all (ans F.h 8 xs ys):=by
    rw[(DM e).2,<-hl,Nat.min_self,Am,<-l3,<-l1];rfl
   have items:∀j (h1:j<vs.toArray.size) (h2:j<zs.toArray.size),SeqAt.EqAt A.in1 s vs.toArray[j] zs.toArray[j] (ans F.h 8 xs ys j):=by
    intro j h1 h2;have h1':j<xs.length:=by rw[l1,l3];simpa using h1
    have h2':j<ys.length:=by rw[l2,l4];simpa using h2
    obtain⟨y1,hy1,ry1⟩:=r5.get (zI h1');obtain⟨y2,hy2,ry2⟩:=r6.get (zI h2');obtain⟨d,hd⟩:=(DM e).1 j _ _ (zI h1') (zI h2');have ea:ans F.h 8 xs ys j=d:=by unfold ans;rw[zI h1',zI h2'];simp[hd]
    rw[ea];exact (Je rel.heap 8 I ry1 ry2 (Vals.at rv h1 hy1) (Vals.at rz h2 hy2) hd (by show A.units+1+8<cLine;lia)).2
   rw[eb];exact⟨.lists pl.isList pz.isList hsz (by lia) items,.lists pl.isList pz.isList hsz (by lia) items⟩
  .rw[Ac hl]at e;cases e
   have hsz:(vs.toArray.size !=zs.toArray.size)=true:=by rw[Am,Am];simp;lia
   exact⟨.lists_lengths pl.isList pz.isList hsz (by lia),.lists_lengths pl.isList pz.isList hsz (by lia)⟩
 .split at e
  .exact (Je rel.heap 9 I (show Rep κ F.β F.O H _ v' from rx) (show Rep κ F.β F.O H _ u' from ry) rv ru e hu).1
  .cases e
def jG (hu:X.A.units+9<cLine):OpR X (compareOp .Eq) (rEqT κ false):=by
 intro pins s σ H x y v u Q I rx ry h;obtain⟨F,σ',x3,y3,b,rel,r1,r2,e,q⟩:=h;exact (MO I rel r1 r2 rx ry e hu).1 X.prog X.w X.xe _ ⟨.bl b,H,I,rfl,q⟩
def Tf (hu:X.A.units+9<cLine):OpR X (compareOp .NotEq) (rEqT κ true):=by
 intro pins s σ H x y v u Q I rx ry h;obtain⟨F,σ',x3,y3,b,rel,r1,r2,e,q⟩:=h;exact (MO I rel r1 r2 rx ry e hu).2 X.prog X.w X.xe _ ⟨.bl !b,H,I,rfl,q⟩
def jH:OpSim κ (rEqT κ false) y0:=fun F σ H x y z v w Q rel rx ry e k=>by
 unfold y0 at e;cases q:eqO F.s F.h x y with
 |none=>rw[q]at e;cases e
 |some b=>rw[q]at e;cases e;exact⟨F,σ,x,y,b,rel,rx,ry,q,k _ H Ext.refl ⟨rel,.bl _⟩⟩
def Tg:OpSim κ (rEqT κ true) oNe:=fun F σ H x y z v w Q rel rx ry e k=>by
 unfold oNe at e;cases q:eqO F.s F.h x y with
 |none=>rw[q]at e;cases e
 |some b=>rw[q]at e;cases e;exact⟨F,σ,x,y,b,rel,rx,ry,q,k _ H Ext.refl ⟨rel,.bl _⟩⟩
end
section
variable {X:Cx} {κ:Kx} {E:XK} {F:Fr} {σ:L2.St} {H H':Hp} {Q:VK} {p:Addr} {pos np:Pos} {i:Nat} {x:Str} {e:Expr} {es:List Expr} {t:A3}
def r_b {id:String} {r:List V->Hp->VK->Prop} {f:FB} (hs:qX κ r f) (hc:qc X (.builtin id) r) (hg:Gl X x) (hm:X.mg x=none) (hv:bootBuiltins x=some (.builtin id)) (ha:PA X (e::es) (zN κ E t)) (hn:x≠"__name__" :=by decide) (hdb:(x==("__debug__" :Str))=false:=by decide)
 (he:SE X e es:=by rfl) (hpl:BA X pos es:=by rfl):PE X (.Call (.Name x np) (e::es) [] pos) (zh κ E (eB f t)):=yC (Re hc hg hm hv ha hn hdb he hpl) fun _ _ _ h=>te_b hs h
def r_ty {T:String} {r:List V->Hp->VK->Prop} {f:FB} (hs:qX κ r f) (hc:qc X (.type T) r) (hg:Gl X x) (hm:X.mg x=none) (hv:bootBuiltins x=some (.type T)) (ha:PA X (e::es) (zN κ E t)) (hn:x≠"__name__" :=by decide) (hdb:(x==("__debug__" :Str))=false:=by decide)
 (he:SE X e es:=by rfl) (hpl:BA X pos es:=by rfl):PE X (.Call (.Name x np) (e::es) [] pos) (zh κ E (eB f t)):=yC (Rg hc hg hm hv ha hn hdb he hpl) fun _ _ _ h=>te_b hs h
def p1 {f:Rf} {vs:List V} (r:Paired (RfR κ F H) [f] vs):∃v,vs=[v]/\RfR κ F H f v:=by
 cases r with|cons a t=>cases t;exact⟨_,rfl,a⟩
def p2 {f g:Rf} {vs:List V} (r:Paired (RfR κ F H) [f,g] vs):∃v w,vs=[v,w]/\RfR κ F H f v/\RfR κ F H g w:=by
 cases r with|cons a t=>cases t with|cons b t=>cases t;exact⟨_,_,rfl,a,b⟩
def bLen:FB:=fun s h fs=>match fs with
 | [.x (.str y)]=>if y.length<=sizeLine then some (.v (.int y.length)) else none
 | [.x (.tup xs)]=>some (.v (.int xs.length))
 | [f]=>(rdl s h f).map fun xs=>.v (.int xs.length)
 |_=>none
def AF:qX κ (fun xs H Q=> ∃x n,xs=[x]/\LenV κ.K x H n/\Q (.int n) H) bLen:=fun F σ H fs z vs Q rel r e k=>by
 unfold bLen at e
 split at e
 .rename_i y
  obtain⟨v,rfl,rv⟩:=p1 r;cases (show Rep κ F.β F.O H (.str y) v from rv)
  obtain⟨h,rfl⟩:=qy e;exact⟨_,_,rfl,⟨h,rfl⟩,k _ H Ext.refl ⟨rel,.int _⟩⟩
 .rename_i xs
  obtain⟨v,rfl,rv⟩:=p1 r;cases e;cases (show Rep κ F.β F.O H (.tup xs) v from rv) with
  |tup h1 h2 h3 h4=>exact⟨_,_,rfl,.inr ⟨_,.of h1,rfl⟩,k _ H Ext.refl ⟨rel,by rw[h4.length];exact .int _⟩⟩
 .rename_i f _ _
  obtain⟨v,rfl,rv⟩:=p1 r;cases q:rdl F.s F.h f with
  |none=>rw[q]at e;cases e
  |some xs=>
   rw[q]at e;cases e;obtain⟨a,ys,rfl,sq,rs⟩:=jE rel rv q;exact⟨_,_,rfl,.inl ⟨_,sq,rfl⟩,k _ H Ext.refl ⟨rel,by rw[rs.length];exact .int _⟩⟩
 .cases e
def AG (hK:X.K=κ.K):qc X (.builtin "len") (fun xs H Q=> ∃x n,xs=[x]/\LenV κ.K x H n/\Q (.int n) H):=by rw[<-hK];exact QC
noncomputable def bMax:FB:=fun _ _ fs=>match fs with
 | [.x (.int i),.x (.int j)]=>some (.v (.int (max i j)))
 |_=>none
noncomputable def bMin:FB:=fun _ _ fs=>match fs with
 | [.x (.int i),.x (.int j)]=>some (.v (.int (min i j)))
 |_=>none
noncomputable def bMin3:FB:=fun _ _ fs=>match fs with
 | [.x (.int i),.x (.int j),.x (.int k)]=>some (.v (.int (min i (min j k))))
 |_=>none
def Th:qX κ (fun xs H Q=> ∃i j,xs=[.int i,.int j]/\Q (.int (if j > i then j else i)) H) bMax:=fun F σ H fs z vs Q rel r e k=>by
 unfold bMax at e
 split at e
 .rename_i i j
  cases e;obtain⟨v,w,rfl,rv,rw'⟩:=p2 r;cases (show Rep κ F.β F.O H (.int i) v from rv)
  cases (show Rep κ F.β F.O H (.int j) w from rw')
  refine⟨i,j,rfl,k _ H Ext.refl ⟨rel,?_⟩⟩
  have:(if j > i then j else i)=max i j:=by split<;>lia
  rw[this];exact .int _
 .cases e
def Jf:qX κ (fun xs H Q=> ∃i j,xs=[.int i,.int j]/\Q (.int (if j<i then j else i)) H) bMin:=fun F σ H fs z vs Q rel r e k=>by
 unfold bMin at e
 split at e
 .rename_i i j
  cases e;obtain⟨v,w,rfl,rv,rw'⟩:=p2 r;cases (show Rep κ F.β F.O H (.int i) v from rv)
  cases (show Rep κ F.β F.O H (.int j) w from rw')
  refine⟨i,j,rfl,k _ H Ext.refl ⟨rel,?_⟩⟩
  have:(if j<i then j else i)=min i j:=by split<;>lia
  rw[this];exact .int _
 .cases e
noncomputable def bInt:FB:=fun _ _ fs=>match fs with
 | [.x (.int i)]=>some (.v (.int i))
 | [.x (.bl b)]=>some (.v (.int (if b then 1 else 0)))
 |_=>none
def bList:FB:=fun s h fs=>match fs with
 | [.x (.tup xs)]=>some (.m (.lst xs))
 | [f]=>(rdl s h f).map fun xs=>.m (.lst xs)
 |_=>none
def Ht:qX κ (fun xs H Q=> ∃p ys,xs=[.ref p]/\(SqL κ.K H p ys\/SqT κ.K H p ys)/\∀l,H l=none->Q (.ref l) (zk H l (.lst ys))) bList:=fun F σ H fs z vs Q rel r e k=>by
 unfold bList at e
 split at e
 .rename_i xs
  cases e;obtain⟨v,rfl,rv⟩:=p1 r;cases (show Rep κ F.β F.O H (.tup xs) v from rv) with
  |tup h1 h2 h3 h4=>exact⟨_,_,rfl,.inr (.of h1),fun l hl=>k _ _ (yW hl) (Post.lst rel hl h4)⟩
 .rename_i f _
  obtain⟨v,rfl,rv⟩:=p1 r;cases q:rdl F.s F.h f with
  |none=>rw[q]at e;cases e
  |some xs=>
   rw[q]at e;cases e;obtain⟨a,ys,rfl,sq,rs⟩:=jE rel rv q;exact⟨_,_,rfl,.inl sq,fun l hl=>k _ _ (yW hl) (Post.lst rel hl rs)⟩
 .cases e
noncomputable def zu {α β:Type} (f:α->Option β):List α->Option (List β)
 | []=>some []
 |x::r=>match f x,zu f r with
  |some y,some l=>some (y::l)
  |_,_=>none
theorem CM {α β γ:Type} {f:α->Option β} {g:γ->α} {k:γ->β} (h:∀c,f (g c)=some (k c)):∀l:List γ,zu f (l.map g)=some (l.map k)
 | []=>rfl
 |x::r=>by simp only[Ah,zu,h x,CM h r]
def BU {α β:Type} {f:α->Option β} {x:α} {r:List α} {l:List β} (e:zu f (x::r)=some l):∃y l',f x=some y/\zu f r=some l'/\l=y::l':=by
 unfold zu at e;cases q1:f x with
 |none=>simp only[q1]at e;cases e
 |some y=>
  cases q2:zu f r with
  |none=>simp only[q1,q2]at e;cases e
  |some l'=>simp only[q1,q2]at e;cases e;exact⟨y,l',rfl,rfl,rfl⟩
def bl3:V3->Option Bool
 |.bl b=>some b
 |_=>none
def int3:V3->Option Int
 |.int i=>some i
 |_=>none
theorem MP:∀{xs:List V3} {ys:List V} {bs:List Bool},Reps κ F.β F.O H xs ys->zu bl3 xs=some bs->ys=bs.map V.bl
 |_,_,_,.nil,e=>by cases e;rfl
 |x::xs,y::ys,bs,.cons a r,e=>by
  obtain⟨b,l,h1,h2,rfl⟩:=BU e;cases x<;>simp[bl3]at h1
  subst h1;cases a;rw[Ah,MP r h2]
theorem Jg:∀{xs:List V3} {ys:List V} {bs:List Int},Reps κ F.β F.O H xs ys->zu int3 xs=some bs->ys=bs.map V.int
 |_,_,_,.nil,e=>by cases e;rfl
 |x::xs,y::ys,bs,.cons a r,e=>by
  obtain⟨b,l,h1,h2,rfl⟩:=BU e;cases x<;>simp[int3]at h1
  subst h1;cases a;rw[Ah,Jg r h2]
def bAll (q:List Bool->Bool):FB:=fun s h fs=>match fs with
 | [f]=>match rdl s h f with
  |some xs=>(zu bl3 xs).map fun bs=>.v (.bl (q bs))
  |none=>none
 |_=>none
def Jh {q:List Bool->Bool}:qX κ (fun xs H Q=> ∃(p:Addr) (bs:List Bool),xs=[.ref p]/\SqL κ.K H p (bs.map V.bl)/\Q (.bl (q bs)) H) (bAll q):=fun F σ H fs z vs Q rel r e k=>by
 unfold bAll at e
 split at e
 .rename_i f
  obtain⟨v,rfl,rv⟩:=p1 r;cases q1:rdl F.s F.h f with
  |none=>rw[q1]at e;cases e
  |some xs=>
   rw[q1]at e;cases q2:zu bl3 xs with
   |none=>simp only[q2]at e;cases e
   |some bs=>
    simp only[q2]at e;cases e;obtain⟨a,ys,rfl,sq,rs⟩:=jE rel rv q1;exact⟨a,bs,rfl,by rw[<-MP rs q2];exact sq,k _ H Ext.refl ⟨rel,.bl _⟩⟩
 .cases e
def MQ (hK:X.K=κ.K) (hc:X.calm=true):qc X (.builtin "all") (fun xs H Q=> ∃(p:Addr) (bs:List Bool),xs=[.ref p]/\SqL κ.K H p (bs.map V.bl)/\Q (.bl (bs.all id)) H):=by rw[<-hK];exact RT hc
def Ti (hK:X.K=κ.K) (hc:X.calm=true):qc X (.builtin "any") (fun xs H Q=> ∃(p:Addr) (bs:List Bool),xs=[.ref p]/\SqL κ.K H p (bs.map V.bl)/\Q (.bl (bs.any id)) H):=by rw[<-hK];exact RU hc
def Hu (hK:X.K=κ.K):qc X (.type "list") (fun xs H Q=> ∃p ys,xs=[.ref p]/\(SqL κ.K H p ys\/SqT κ.K H p ys)/\∀l,H l=none->Q (.ref l) (zk H l (.lst ys))):=by rw[<-hK];exact Rz
instance {x:Int}:Decidable (InLong x):=inferInstanceAs (Decidable (_/\_))
def ty3 (s:S3) (h:H3):Rf->Option String
 |.x .non=>some "NoneType"
 |.x (.bl _)=>some "bool"
 |.x (.int _)=>some "int"
 |.x (.str _)=>some "str"
 |.x (.tup _)=>some "tuple"
 |.x (.scr _)=>none
 |f=>(rdl s h f).map fun _=>"list"
noncomputable def isa (t T:String):Option Bool:=
 if T="int" then some (t=="int" || t=="bool") else if T="bool" \/T="str" \/T="list" \/T="tuple" then some (t==T) else none
def bIsT:FB:=fun s h fs=>match fs with
 | [f,.x (.ty T)]=>match ty3 s h f with
  |some t=>(isa t T).map fun b=>.v (.bl b)
  |none=>none
 |_=>none
def Tj {K:FG} {t T:String} {b:Bool} (ht:t∈["NoneType","bool","int","str","tuple","list"]) (e:isa t T=some b):PySem.W.kitOne K (.type t) (.type T)=some b:=by
 unfold isa at e;have hT:T∈["int","bool","str","list","tuple"]:=by
  by_cases h:T="int"
  .simp[h]
  .rw[Ac h]at e
   by_cases h2:T="bool" \/T="str" \/T="list" \/T="tuple"
   .simp only[Ag,By,Bp];exact .inr h2
   .rw[Ac h2]at e;cases e
 simp only[Ag,By,Bp]at ht hT
 rcases ht with rfl|rfl|rfl|rfl|rfl|rfl<;>rcases hT with rfl|rfl|rfl|rfl|rfl<;>(simp at e;subst e;rfl)
def Tn {f:Rf} {v:V} {t:String} (rel:Rel κ F σ H) (r:RfR κ F H f v) (e:ty3 F.s F.h f=some t):t∈["NoneType","bool","int","str","tuple","list"]/\TyOf κ.K H v (.type t):=by
 have lists:∀{f:Rf} {v:V} {t:String},RfR κ F H f v->(∀ns,f≠ .x (.scr ns))->((rdl F.s F.h f).map fun _=>"list")=some t->t∈["NoneType","bool","int","str","tuple","list"]/\TyOf κ.K H v (.type t):=by
  intro f v t r hf e;cases q:rdl F.s F.h f with
  |none=>rw[q]at e;cases e
  |some xs=>
   rw[q]at e;cases e;have q2:rdm F.s F.h f=some xs:=by
    unfold rdm
    split
    .rename_i ns;exact absurd rfl (hf ns)
    .exact q
   obtain⟨a,ys,rfl,ha,_⟩:=CL rel r q2;exact⟨by simp,.lst ha⟩
 cases f with
 |s i=>exact lists r (fun _ z=>nomatch z) e
 |x y=>
  cases y with
  |non=>cases e;cases (show Rep κ F.β F.O H .non v from r);exact⟨by simp,.non⟩
  |bl b=>cases e;cases (show Rep κ F.β F.O H (.bl b) v from r);exact⟨by simp,.bl b⟩
  |int b=>cases e;cases (show Rep κ F.β F.O H (.int b) v from r);exact⟨by simp,.int b⟩
  |str b=>cases e;cases (show Rep κ F.β F.O H (.str b) v from r);exact⟨by simp,.str b⟩
  |tup xs=>cases e;cases (show Rep κ F.β F.O H (.tup xs) v from r) with|tup h1 _ _ _=>exact⟨by simp,.tup h1⟩
  |scr ns=>cases e
  |lst xs=>exact lists r (fun _ z=>nomatch z) e
  |loc n=>exact lists r (fun _ z=>nomatch z) e
  |_=>cases e
def FF:qX κ (fun xs H Q=> ∃x T t b,xs=[x,.ty T]/\TyOf κ.K H x t/\PySem.W.kitOne κ.K t (.type T)=some b/\Q (.bl b) H) bIsT:=fun F σ H fs z vs Q rel r e k=>by
 unfold bIsT at e
 split at e
 .rename_i f T
  obtain⟨v,w,rfl,rv,rw'⟩:=p2 r;cases (show Rep κ F.β F.O H (.ty T) w from rw')
  cases q1:ty3 F.s F.h f with
  |none=>rw[q1]at e;cases e
  |some t=>
   rw[q1]at e;cases q2:isa t T with
   |none=>simp only[q2]at e;cases e
   |some b=>
    simp only[q2]at e;cases e;obtain⟨h1,h2⟩:=Tn rel rv q1;exact⟨v,T,_,b,rfl,h2,Tj h1 q2,k _ H Ext.refl ⟨rel,.bl _⟩⟩
 .cases e
def FH (hK:X.K=κ.K):qc X (.builtin "isinstance") (fun xs H Q=> ∃x T t b,xs=[x,.ty T]/\TyOf κ.K H x t/\PySem.W.kitOne κ.K t (.type T)=some b/\Q (.bl b) H):=by rw[<-hK];exact RS
def tru3 (s:S3) (h:H3):Rf->Option Bool
 |.x .non=>some false
 |.x (.bl b)=>some b
 |.x (.int i)=>some (i !=0)
 |.x (.str y)=>if y.length<=sizeLine then some ((y.length:Int) !=0) else none
 |.x (.tup xs)=>some (!xs.isEmpty)
 |f=>(rdl s h f).map fun xs=> !xs.isEmpty
def tP (p:P3):T3:=fun s h=>(p s h).bind fun f h1=>match tru3 s h1 f with
 |some b=>.ok b h1
 |none=>.no
def MR {xs:List V3} {ys:List V} (r:Reps κ F.β F.O H xs ys):xs.isEmpty=ys.isEmpty:=by cases r<;>rfl
def To {f:Rf} {v:V} {b:Bool} (rel:Rel κ F σ H) (r:RfR κ F H f v) (e:tru3 F.s F.h f=some b):TruV κ.K v H b:=by
 have lists:∀{f:Rf} {v:V} {b:Bool},RfR κ F H f v->((rdl F.s F.h f).map fun xs=> !xs.isEmpty)=some b->TruV κ.K v H b:=by
  intro f v b r e;cases q:rdl F.s F.h f with
  |none=>rw[q]at e;cases e
  |some xs=>
   rw[q]at e;cases e;obtain⟨a,ys,rfl,sq,rs⟩:=jE rel r q;exact .inl ⟨ys,sq,by show (!xs.isEmpty)=_;rw[MR rs]⟩
 cases f with
 |s i=>exact lists r e
 |x y=>
  cases y with
  |non=>cases e;cases (show Rep κ F.β F.O H .non v from r);rfl
  |bl b=>cases e;cases (show Rep κ F.β F.O H (.bl b) v from r);rfl
  |int b=>cases e;cases (show Rep κ F.β F.O H (.int b) v from r);rfl
  |str b=>cases (show Rep κ F.β F.O H (.str b) v from r);obtain⟨h,rfl⟩:=qy e;exact⟨h,rfl⟩
  |tup xs=>cases e;cases (show Rep κ F.β F.O H (.tup xs) v from r) with|tup h1 _ _ h4=>exact .inr (.inl ⟨_,.of h1,by rw[MR h4]⟩)
  |scr ns=>exact lists r e
  |lst xs=>exact lists r e
  |loc n=>exact lists r e
  |_=>cases e
def Hv {a:Expr} {d:P3} (hK:X.K=κ.K) (ha:PE X a (zi κ E d)) (he:∀whole,isTrue a X.env whole=(do let v <-whole;standAt a.pos;holding [v] (truthy v)):=by intro _;rfl):PT X a (zK κ E (tP d)):=PTw (QA ha he) fun σ H Q ⟨F,rel,o⟩=>
 (z9 (K:=kP κ) km_T rel o).mono fun v H1 ⟨β1,h1,f,e1,⟨r1,rf⟩,o1⟩=>by
  cases q:tru3 F.s h1 f with
  |none=>simp only[q]at o1;exact o1.elim
  |some b=>
   simp only[q]at o1;exact⟨b,by rw[hK];exact To (F:=F.to β1 h1) r1 rf q,o1 β1 b H1 Ext.refl ⟨rfl,r1⟩⟩
def jd (ns:List Int):List Int:=ns.mergeSort (fun a b=>decide (a<=b))
def jM (ns:List Int):(jd ns).Perm ns/\(jd ns).Pairwise (fun a b=>a<=b):=by
 refine⟨List.mergeSort_perm _ _,?_⟩
 have:=List.pairwise_mergeSort (le:=fun a b:Int=>decide (a<=b)) (fun a b c h1 h2=>by simp at*;lia) (fun a b=>by simp;lia) ns
 exact this.imp fun h=>by simpa using h
theorem Hw:∀l:List Int,Reps κ F.β F.O H (l.map V3.int) (l.map V.int)
 | []=>.nil
 |x::r=>.cons (.int x) (Hw r)
end
section
variable {X:Cx} {κ:Kx} {E:XK} {F F1 F2 F':Fr} {σ σ':L2.St} {H H1 H2 H':Hp} {Q:VK} {p:Addr} {e a b o:Expr} {pos apos np:Pos} {i:Nat} {D:Ends}
def qo (a:A3):I3:=fun s h=>(a s h).bind fun fs h1=>match fs with
 | [.x (.int j)]=>if -(2 ^ 62)<=j/\j<2 ^ 62 then .ok ⟨[],(List.range j.toNat).map fun k=>.int (0+(k:Nat)),fun _=>True⟩ h1 else .no
 |_=>.no
def Tp {lo:Int} {n:Nat}:IR κ ⟨[],(List.range n).map fun k=>.int (lo+(k:Nat)),fun _=>True⟩ [] (Itr lo n):=fun F σ H rel _ _ i=>by
 have el:((List.range n).map fun k=>V3.int (lo+(k:Nat))).length=n:=by simp
 refine⟨fun hi=>⟨show i<n by rw[el]at hi;exact hi,fun x H' ⟨e1,e2⟩=>?_⟩,fun hi=>show n<=i by rw[el]at hi;exact hi⟩
 subst e1;subst e2;have hi:i<n:=by simpa using hi
 exact⟨.int (lo+i),by simp[hi],Ext.refl,rel,.int _⟩
def BV {tg:Expr} {t:A3} (hg:Gl X "range") (hm:X.mg "range" =none) (ha:PA X [a] (zN κ E t)) (hs:starEach [a] X.env=[(false,eval a X.env)]:=by rfl):PI X tg (.Call (.Name "range" np) [a] [] pos) (yp κ E (qo t)):=PIw (Qu hg hm ha hs) fun σ H R ⟨F,rel,o⟩=>
 (z9 (K:=kA κ) km_I rel o).mono fun vs H1 ⟨β1,h1,fs,e1,⟨r1,rf⟩,o1⟩=>by
  match fs,rf,o1 with
  | [.x (.int j)],rf,o1=>
   obtain⟨v,rfl,rv⟩:=p1 rf;cases (show Rep κ β1 F.O H1 (.int j) v from rv)
   by_cases hj: -(2 ^ 62)<=j/\j<2 ^ 62
   .simp only[Ab hj]at o1
    exact⟨j,rfl,hj.1,hj.2,o1 β1 _ H1 Ext.refl ⟨r1,[],.nil,Tp⟩⟩
   .simp only[Ac hj]at o1;exact o1.elim
def AH (a:A3):I3:=fun s h=>(a s h).bind fun fs h1=>match fs with
 | [.x x]=>match yA h1 x with
  |some (xs,ok)=>.ok ⟨[x],(List.range xs.length).map fun k=>.tup [.int (k:Nat),xs.getD k .non],ok⟩ h1
  |none=>.no
 |_=>.no
def Ji (a:A3):I3:=fun s h=>(a s h).bind fun fs h1=>match fs with
 | [.x x,.x y]=>match yA h1 x,yA h1 y with
  |some (xs,ok),some (ys,ok')=>.ok ⟨[x,y],(xs.zip ys).map fun q=>.tup [q.1,q.2],fun h=>ok h/\ok' h⟩ h1
  |_,_=>.no
 |_=>.no
def Rel.tup2 {x y:V3} {v w:V} {T:Addr} (rel:Rel κ F σ H) (hT:H T=none) (rx:Rep κ F.β F.O H x v) (ry:Rep κ F.β F.O H y w):Ext No F.β H F.β (zk H T (.tup [v,w]))/\Rel κ F σ (zk H T (.tup [v,w]))/\Rep κ F.β F.O (zk H T (.tup [v,w])) (.tup [x,y]) (.ref T):=by
 have q:=Post.tup (N:=No) rel hT (.cons rx (.cons ry .nil));exact⟨yW hT,q.1,q.2⟩
def Hx {elts:List Expr} {x1} {tp:Pos} {t:A3} (hK:X.K=κ.K) (hg:Gl X "enumerate") (hm:X.mg "enumerate" =none) (ha:PA X [a] (zN κ E t)) (hs:starEach [a] X.env=[(false,eval a X.env)]:=by rfl):PI X (.Tuple elts x1 tp) (.Call (.Name "enumerate" np) [a] [] pos) (yp κ E (AH t)):=PIw (S9 hg hm ha hs) fun σ H R ⟨F,rel,o⟩=>
 (z9 (K:=kA κ) km_I rel o).mono fun vs H1 ⟨β1,h1,fs,e1,⟨r1,rf⟩,o1⟩=>by
  match fs,rf,o1 with
  | [.x x],rf,o1=>
   obtain⟨v,rfl,rv⟩:=p1 rf;have rv:Rep κ β1 F.O H1 x v:=rv;cases q:yA h1 x with
   |none=>simp only[q]at o1;exact o1.elim
   |some w=>
    obtain⟨xs,ok⟩:=w;simp only[q]at o1;obtain⟨c,ys,rfl,sq,rs⟩:=BR (F:=F.to β1 h1) q r1 rv (CK q).1;rw[hK]
    refine⟨c,ys,rfl,sq,o1 β1 _ H1 Ext.refl ⟨r1,[.ref c],.cons rv .nil,fun F' σ' H' rel' r' hk i=>?_⟩⟩
    cases r' with
    |cons r'' _=>
     obtain⟨c',ys',ec,sq',rs'⟩:=BR q rel' r'' hk;cases ec;have hl:=rs'.length;have el:(((List.range xs.length).map fun k=>V3.tup [.int (k:Nat),xs.getD k .non])).length=xs.length:=by simp
     refine⟨fun hi=>?_,fun hi=>⟨ys',sq',by rw[<-hl];rw[el]at hi;exact hi⟩⟩
     rw[el]at hi;obtain⟨y,hy,ry⟩:=rs'.get (zI hi)
     refine⟨⟨ys',y,sq',hy⟩,fun x' H'' yl=>?_⟩
     obtain⟨T,z,rfl,hT,rfl,hz⟩:=yl;have:=hz ys' sq';rw[hy]at this;cases this;obtain⟨q1,q2,q3⟩:=Rel.tup2 (x:= .int (i:Nat)) (v:= .int (i:Nat)) rel' hT (.int _) ry
     refine⟨.tup [.int (i:Nat),xs[i]],?_,q1,q2,q3⟩
     simp[hi]
def Tq {elts:List Expr} {x1} {tp:Pos} {t:A3} (hK:X.K=κ.K) (hg:Gl X "zip") (hm:X.mg "zip" =none) (ha:PA X [a,b] (zN κ E t)) (hs:starEach [a,b] X.env=[(false,eval a X.env),(false,eval b X.env)]:=by rfl) (hs2:starEach [b] X.env=[(false,eval b X.env)]:=by rfl):PI X (.Tuple elts x1 tp) (.Call (.Name "zip" np) [a,b] [] pos) (yp κ E (Ji t)):=PIw (Sa hg hm ha hs hs2) fun σ H R ⟨F,rel,o⟩=>
 (z9 (K:=kA κ) km_I rel o).mono fun vs H1 ⟨β1,h1,fs,e1,⟨r1,rf⟩,o1⟩=>by
  match fs,rf,o1 with
  | [.x x,.x y],rf,o1=>
   obtain⟨v,w,rfl,rv,rw'⟩:=p2 rf;have rv:Rep κ β1 F.O H1 x v:=rv;have rw':Rep κ β1 F.O H1 y w:=rw';cases q:yA h1 x with
   |none=>simp only[q]at o1;exact o1.elim
   |some w=>
    obtain⟨xs,ok⟩:=w;cases q2:yA h1 y with
    |none=>simp only[q,q2]at o1;exact o1.elim
    |some w'=>
     obtain⟨ys,ok'⟩:=w';simp only[q,q2]at o1;obtain⟨c,us,rfl,sq,rs⟩:=BR (F:=F.to β1 h1) q r1 rv (CK q).1;obtain⟨d,ws,rfl,sq2,rs2⟩:=BR (F:=F.to β1 h1) q2 r1 rw' (CK q2).1;rw[hK]
     refine⟨c,d,us,ws,rfl,sq,sq2,o1 β1 _ H1 Ext.refl ⟨r1,[.ref c,.ref d],.cons rv (.cons rw' .nil),fun F' σ' H' rel' r' hk i=>?_⟩⟩
     cases r' with
     |cons ra r''=>
      cases r'' with
      |cons rb _=>
       obtain⟨c',us',ec,sq',rs'⟩:=BR q rel' ra hk.1;cases ec;obtain⟨d',ws',ed,sq2',rs2'⟩:=BR q2 rel' rb hk.2;cases ed;have hl:=rs'.length;have hl2:=rs2'.length;have el:((xs.zip ys).map fun q=>V3.tup [q.1,q.2]).length=min xs.length ys.length:=by simp
       refine⟨fun hi=>?_,fun hi=>⟨us',ws',sq',sq2',by rw[<-hl,<-hl2];rw[el]at hi;lia⟩⟩
       rw[el]at hi;have h1:i<xs.length:=by lia
       have h2:i<ys.length:=by lia
       obtain⟨y1,hy1,ry1⟩:=rs'.get (zI h1);obtain⟨y2,hy2,ry2⟩:=rs2'.get (zI h2)
       refine⟨⟨us',ws',y1,y2,sq',sq2',hy1,hy2⟩,fun x' H'' yl=>?_⟩
       obtain⟨T,z1,z2,rfl,hT,rfl,hz1,hz2⟩:=yl;have t1:=hz1 us' sq';have t2:=hz2 ws' sq2';rw[hy1]at t1;cases t1;rw[hy2]at t2;cases t2;obtain⟨q1,q2,q3⟩:=Rel.tup2 rel' hT ry1 ry2
       refine⟨.tup [xs[i],ys[i]],?_,q1,q2,q3⟩
       rw[Az,(List.getElem?_zip_eq_some (z:=(xs[i],ys[i]))).mpr ⟨zI h1,zI h2⟩];rfl
def yd (n:Nat) (fr:List Nat) (s:S3):S3:=List.replicate n none++fr.map fun j=>match s[j]? with
 |some (some (.v x))=>some (.v x)
 |_=>none
open Classical in
def yV (ok:H3->Prop) (g:G3) (c:T3) (e:E3):List V3->List V3->S3->H3->Res (List V3)
 | [],acc,_,h=>if ok h then .ok acc h else .no
 |x::r,acc,s,h=>if ok h then match g x s with
  |none=>.no
  |some s1=>match c s1 h with
   |.ok true h1=>match e s1 h1 with
    |.ok v h2=>match v.fz with
     |some y=>if acc.length<sizeLine then yV ok g c e r (acc++[y]) s1 h2 else .no
     |none=>.no
    |_=>.no
   |.ok false h1=>yV ok g c e r acc s1 h1
   |_=>.no
  else .no
def yu (n:Nat) (fr:List Nat) (it:I3) (g:G3) (c:T3) (e:E3):E3:=fun s h=>(it s h).bind fun I h1=>(yV I.ok g c e I.xs [] (yd n fr s) h1).bind fun vs h2=>.ok (.m (.lst vs)) h2
def tTru:T3:=fun _ h=>.ok true h
def BE:PTs X [] (zK κ E tTru):=fun pins s σ H Q I ⟨F,rel,o⟩=>RN pins s σ H Q I (o F.β true H Ext.refl ⟨rfl,rel⟩)
def CN {c:Expr} {t:T3} (h:PT X c (zK κ E t)):PTs X [c] (zK κ E t):=RO h
def BW {β:AO} {d:Addr} {o:HO} (ho:∃u,H d=some u):Ext (fun a=>a=d) β H β (zk H d o):=
 ⟨fun a u ha hn m=>⟨by rw[zQ m];exact ha,hn⟩,Af _,fun _ _ _ h=>h,fun a u ha=>by
  by_cases z:a=d
  .subst z;exact⟨o,yM⟩
  .exact⟨u,by rw[zQ z];exact ha⟩,nwb0⟩
def RelH.wrO {O:Addr->Prop} {β:AO} {h:H3} {d:Addr} {u:HO} (r:RelH κ O β h H) (hd:O d) (hu:∀ys,u≠HO.tup ys:=by intro _ z;cases z):RelH κ O β h (zk H d u):=by
 have ex:=BW (β:=β) (o:=u) (r.trk' d hd);have th:∀a w,H a=some w->(∀ys,w≠HO.tup ys)->∃w,zk H d u a=some w/\∀ys,w≠HO.tup ys:=fun a w q n=>by
  by_cases z:a=d
  .subst z;exact⟨u,yM,hu⟩
  .exact⟨w,by rw[zQ z];exact q,n⟩
 refine⟨r.len,r.inj,r.off,fun a ha=>let ⟨w,q,n⟩:=r.trk a ha;th a w q n,fun i a q=>let ⟨w,z,n⟩:=r.btr i a q;th a w z n,fun i c hc=>(r.cell i c hc).imp id fun ⟨a,ha,q⟩=>⟨a,ha,q.ext ex (fun b hb=>by rw[hb];exact hd) (fun _ _ _ n=>n) fun w hw=>?_⟩⟩
 rw[zQ (fun z=>by subst z;exact r.off a hd (Al ha))];exact hw
def Rel.wrOi {d:Addr} {u:HO} (r:Rel κ F σ H) (hd:F.Oi d) (hu:∀ys,u≠HO.tup ys:=by intro _ z;cases z):Rel κ F σ (zk H d u) where
 heap:=r.heap.wrO (.inr (.inr hd)) hu
 slen:=r.slen
 llen:=r.llen
 linj:=r.linj
 lt:=r.lt
 lo:=r.lo
 to:=r.to
 tn:=r.tn
 slot:=fun i x q=>by
  have hO:F.O d:= .inr (.inr hd);have ex:=BW (β:=F.β) (o:=u) (r.heap.trk' d hO);obtain⟨v,h1,h2⟩:=r.slot i x q
  refine⟨v,h1,?_⟩
  cases x with
  |v x=>exact Rep.ext ex (fun b hb=>by rw[hb];exact hO) (fun _ _ _ n=>n) h2
  |m c=>
   obtain⟨a,a1,a2,a3⟩:=h2
   refine⟨a,a1,a2,a3.ext ex (fun b hb=>by rw[hb];exact hO) (fun _ _ _ n=>n) fun w hw=>?_⟩
   rw[zQ (fun z=>by subst z;exact r.lo a (Al a1) hd)];exact hw
def Ts {n:Nat} {fr:List Nat} {s:S3} {i:Nat} {x:Vl} (h:(yd n fr s)[i]? =some (some x)):∃j y,fr[i-n]? =some j/\n<=i/\s[j]? =some (some (.v y))/\x=.v y:=by
 unfold yd at h
 by_cases hi:i<n
 .rw[Bc (by simpa using hi),Ge]at h
  split at h<;>cases h
 .rw[Bl (by simpa using hi),Dr,Az]at h
  cases q:fr[i-n]? with
  |none=>rw[q]at h;cases h
  |some j=>
   rw[q]at h;simp only[Aq,Cj]at h
   split at h
   .rename_i y hy;cases h;exact⟨j,y,rfl,by lia,hy,rfl⟩
   .cases h
def Jj {n:Nat} {fr:List Nat} {it:I3} {g:G3} {c:T3} {d:E3} (h:zh κ E (yu n fr it g c d) σ H Q):Hf (yp κ E it) n fr (yy κ g) (zK κ E0 c) (zh κ E0 d) σ H Q:=by
 obtain⟨F,rel,o⟩:=h
 refine (z9 (K:=kI κ) zR rel o).mono fun J H1 ⟨β1,h1,I,e1,⟨r1,vs,rv,ir⟩,o1⟩=>fun D hD=>?_
 have hDH:H D=none:=e1.nw D hD
 let Oi:Addr->Prop:=fun a=>a=D\/F.O a
 have rn:=(r1.new (o:= .lst []) hD);have rh1:RelH κ Oi β1 h1 (zk H1 D (.lst [])):=rn.1.heap.sub fun a ha=>ha.elim (fun z=>.inl (by rw[z];exact Ak)) fun z=>Fr.O_with z
 have hO1:∀a u,H1 a=some u->¬F.O a->¬Oi a:=fun a u ha n z=>z.elim (fun w=>by subst w;rw[hD]at ha;cases ha) n
 let F0:Fr:=⟨Oi,[],β1,List.replicate (yd n fr F.s).length none,yd n fr F.s,h1⟩
 have sub0:∀(F':Fr),F'.T=[]->(∀a,some a∉F'.l)->F'.Oi=Oi->∀a,F'.O a->Oi a:=fun F' t l oi a ha=>by
  rcases ha with z|z|z
  .rw[t]at z;cases z
  .exact absurd z (l a)
  .rw[oi]at z;exact z
 have hlen:(yd n fr F.s).length=(cst n fr σ).length:=by unfold yd cst;simp
 have rel0:Rel κ F0 (cst n fr σ) (zk H1 D (.lst [])):=by
  refine⟨rh1.sub (sub0 F0 rfl (fun a=>jt) rfl),hlen,?_,fun i j a h=>absurd (Al h) jt,fun a ha=>absurd ha jt,fun a ha=>absurd ha jt,fun a ha=>(by cases ha),Dl,fun i x hx=>?_⟩
  .show (List.replicate (yd n fr F.s).length (none:Option Addr)).length=(yd n fr F.s).length
   simp
  .obtain⟨j,y,hj,hi,hy,rfl⟩:=Ts hx
   obtain⟨v,hv,rv⟩:=r1.slot j _ hy
   refine⟨v,?_,Rep.sub (sub0 F0 rfl (fun a=>jt) rfl) (Rep.ext (yW hD) (fun _ z=>z.elim) hO1 (show Rep κ β1 F.O H1 y v from rv))⟩
   unfold cst;rw[Bl (by simpa using hi),Dr,Az,hj]
   simp[hv]
 have rv0:Reps κ β1 Oi (zk H1 D (.lst [])) I.its vs:=rv.ext (yW hD) (fun _ z=>z.elim) hO1
 refine⟨fun i m acc σ' H'=>m=I.xs.length-i/\i<=I.xs.length/\H' D=some (.lst acc)/\∃(F':Fr) (acc3:List V3),Rel κ F' σ' H'/\F'.T=[]/\(∀a,some a∉F'.l)/\F'.Oi=Oi/\Reps κ F'.β Oi H' I.its vs/\Reps κ F'.β Oi H' acc3 acc/\Ext No β1 H1 F'.β H'/\
   Out κ E (kE κ) (F.to β1 h1) σ H1 Q ((yV I.ok g c d (I.xs.drop i) acc3 F'.s F'.h).bind fun vs h2=>.ok (.m (.lst vs)) h2),
  ⟨_,rfl,Bx _,yM,F0,[],rel0,rfl,fun a=>jt,rfl,rv0,.nil,yW hD,o1⟩,?_⟩
 rintro i m acc σ' H' ⟨rfl,hi,hacc,F',acc3,rel',ht,hl,hoi,rits,racc,ex,out⟩
 refine⟨hacc,?_⟩
 have hO:∀a,F'.O a↔Oi a:=fun a=>⟨sub0 F' ht hl hoi a,fun z=>.inr (.inr (by rw[hoi];exact z))⟩
 have eO:F'.O=Oi:=funext fun a=>propext (hO a)
 by_cases hok:I.ok F'.h
 case neg=>
  exfalso
  cases q:I.xs.drop i with
  |nil=>rw[q]at out;unfold yV at out;rw[Ac hok]at out;exact out
  |cons x r=>rw[q]at out;unfold yV at out;rw[Ac hok]at out;exact out
 obtain⟨i1,i2⟩:=ir F' σ' H' rel' (by rw[eO];exact rits) hok i
 by_cases hlt:i<I.xs.length
 .obtain⟨go,yl⟩:=i1 hlt
  refine .inr ⟨go,fun acc' σ3 H5=>H5 D=some (.lst acc')/\∃(F':Fr) (acc3:List V3),Rel κ F' σ3 H5/\F'.T=[]/\(∀a,some a∉F'.l)/\F'.Oi=Oi/\Reps κ F'.β Oi H5 I.its vs/\Reps κ F'.β Oi H5 acc3 acc'/\Ext No β1 H1 F'.β H5/\
   Out κ E (kE κ) (F.to β1 h1) σ H1 Q ((yV I.ok g c d (I.xs.drop (i+1)) acc3 F'.s F'.h).bind fun vs h2=>.ok (.m (.lst vs)) h2),fun acc' σ3 H5 n5=>⟨_,by lia,rfl,hlt,n5⟩,fun x H2 y=>?_⟩
  obtain⟨x3,ex3,ey,ry,rp⟩:=yl x H2 y;have hd:I.xs.drop i=x3::I.xs.drop (i+1):=by
   rw[Es hlt]
   congr 1
   rw[zI hlt]at ex3;exact Option.some.inj ex3
  rw[hd]at out;unfold yV at out;rw[Ab hok]at out;cases w:g x3 F'.s with
  |none=>simp only[w]at out;exact out.elim
  |some s1=>
   simp only[w]at out
   refine⟨F',x3,s1,ry,ht,rp,w,fun F3 σ3 e3 b3 s3 h3 r3=>?_⟩
   have hl3:∀a,some a∉F3.l:=fun a ha=>by
    rcases e3.lam a ha with z|z
    .exact hl a z
    .obtain⟨k,hk⟩:=B6 ha
     obtain⟨u,hu,_⟩:=r3.heap.trk a (.inr (.inl ha));rw[z]at hu;cases hu
   have hoi3:F3.Oi=Oi:=e3.oi.trans hoi;have eO3:F3.O=Oi:=funext fun a=>propext ⟨sub0 F3 e3.tt hl3 hoi3 a,fun z=>.inr (.inr (by rw[hoi3];exact z))⟩
   refine⟨F3,r3,?_⟩
   rw[s3,h3];cases q:c s1 F'.h with
   |no=>simp only[q]at out;exact out.elim
   |ex x h2=>simp only[q]at out;exact out.elim
   |ok cb h2=>
    simp only[q]at out;rintro β4 cb' H4 e4 ⟨rfl,r4⟩;have ex4:Ext No β1 H1 β4 H4:=(ex.trans0 ey).trans0 (by rw[b3]at e4;exact e4)
    have k4:∀{x:List V3} {v:List V},Reps κ F'.β Oi H' x v->Reps κ β4 Oi H4 x v:=fun r=>(r.ext0 ey).ext0 (by rw[b3]at e4;exact e4)
    have hD2:H2 D=some (.lst acc):=(ey.keep D _ hacc (rel'.heap.off D ((hO D).mpr (.inl rfl))) fun z=>z).1
    have hD4:H4 D=some (.lst acc):=(e4.keep D _ hD2 (r3.heap.off D (by rw[eO3];exact .inl rfl)) fun z=>z).1
    cases cb' with
    |false=>rw[Ac Ba];exact⟨hD4,F3.to β4 h2,acc3,r4,e3.tt,hl3,hoi3,k4 rits,k4 racc,ex4,by show Out _ _ _ _ _ _ _ ((yV I.ok g c d (I.xs.drop (i+1)) acc3 F3.s h2).bind _);rw[s3];exact out⟩
    |true=>
     rw[Ab rfl]
     refine⟨F3.to β4 h2,r4,?_⟩
     show Out κ E0 (kE κ) (F3.to β4 h2) σ3 H4 _ (d F3.s h2);rw[s3];cases q5:d s1 h2 with
     |no=>simp only[q5]at out;exact out.elim
     |ex x h5=>simp only[q5]at out;exact out.elim
     |ok r5 h5=>
      simp only[q5]at out;intro β5 v5 H5 e5 p5;cases z:r5.fz with
      |none=>simp only[z]at out;exact out.elim
      |some y5=>
       simp only[z]at out
       by_cases hsz:acc3.length<sizeLine
       .rw[Ab hsz]at out
        obtain⟨r6,rep6⟩:=Post.fz p5 z;have hD5:H5 D=some (.lst acc):=(e5.keep D _ hD4 (r4.heap.off D (.inr (.inr (by show F3.Oi D;rw[hoi3];exact .inl rfl)))) fun z=>z).1
        have ex6:Ext (fun a=>a=D) β5 H5 β5 (zk H5 D (.lst (acc++[v5]))):=BW ⟨_,hD5⟩
        have k6:∀{x:List V3} {v:List V},Reps κ β5 Oi H5 x v->Reps κ β5 Oi (zk H5 D (.lst (acc++[v5]))) x v:=fun r=>r.ext ex6 (fun b hb=>by rw[hb];exact .inl rfl) fun _ _ _ n=>n
        have rep6:Rep κ β5 Oi H5 y5 v5:=by
         have e:((F3.to β4 h2).to β5 h5).O=Oi:=eO3;have q:Rep κ β5 ((F3.to β4 h2).to β5 h5).O H5 y5 v5:=rep6;rw[e]at q;exact q
        have k45:∀{x:List V3} {v:List V},Reps κ β4 Oi H4 x v->Reps κ β5 Oi H5 x v:=fun r=>r.ext0 e5
        refine⟨hD5,by rw[<-racc.length];exact hsz,yM,(F3.to β4 h2).to β5 h5,acc3++[y5],Rel.wrOi r6 (by show F3.Oi D;rw[hoi3];exact .inl rfl),e3.tt,hl3,hoi3,k6 (k45 (k4 rits)),k6 ((k45 (k4 racc)).append (.cons rep6 .nil)),?_,?_⟩
        .have e45:=ex4.trans0 e5
         refine⟨fun a u ha hn _=>?_,e45.len,e45.bet,fun a u ha=>?_,e45.nwb⟩
         .obtain⟨q1,q2⟩:=e45.keep a u ha hn fun z=>z
          exact⟨by rw[zQ (fun z=>by subst z;rw[hD]at ha;cases ha)];exact q1,q2⟩
         .obtain⟨u',hu'⟩:=e45.there a u ha
          exact ex6.there a u' hu'
        .show Out _ _ _ _ _ _ _ ((yV I.ok g c d (I.xs.drop (i+1)) (acc3++[y5]) F3.s h5).bind _)
         rw[s3];exact out
       .rw[Ac hsz]at out;exact out.elim
 .have hi:i=I.xs.length:=by lia
  subst hi;rw[C5]at out;unfold yV at out;rw[Ab hok]at out
  refine .inl ⟨i2 (Af _),out F'.β (.ref D) H' ex ?_⟩
  have rh:RelH κ (fun a=>a=D\/(F.to β1 h1).O a) F'.β F'.h H':=rel'.heap.sub fun a ha=>(hO a).mpr ha
  refine⟨D,rfl,Rel.nextNew (F:=F.to β1 h1) r1 ex rh hD,⟨acc,hacc,racc.sub fun a ha=>?_⟩,hD⟩
  rcases ha with z|z
  .rcases Ag.mp z with z|z
   .exact .inl z
   .exact .inr (.inl z)
  .exact .inr (.inr z)
def qM {elt tg iter:Expr} {ifs:List Expr} {loc free:List Str} {fr:List Nat} {scope:Scope} {it:I3} {g:G3} {c:T3} {d:E3} (hc:X.calm=true) (S:CompScope X loc free fr scope) (hi:PI X tg iter (yp κ E it))
 (hg:∀cl C s H ex,PG (y8 X (loc++free) scope cl C s H ex) tg (yy κ g)) (ht:∀cl C s H ex,PTs (y8 X (loc++free) scope cl C s H ex) ifs (zK κ E0 c)) (he:∀cl C s H ex,PE (y8 X (loc++free) scope cl C s H ex) elt (zh κ E0 d))
 (hs:∀x,foldedSetIterable iter X.env x=pure x:=by intro _;rfl):PE X (.ListComp elt [⟨tg,iter,ifs,0⟩] scope pos) (zh κ E (yu loc.length fr it g c d)):=yC (RP hc S hi hg ht he hs) fun _ _ _ h=>Jj h
def Tt {y:Str} {py spos:Pos} {elt tg iter:Expr} {ifs:List Expr} {loc free:List Str} {fr:List Nat} {scope:Scope} {it:I3} {g:G3} {c:T3} {d:E3} (hN:X.N.Nodup) (hi':X.N[i]? =some y) (hx:X.env.scope.names.lookup y=some .local) (hc:X.calm=true) (S:CompScope X loc free fr scope) (hi:PI X tg iter (yp κ E it))
 (hg:∀cl C s H ex,PG (y8 X (loc++free) scope cl C s H ex) tg (yy κ g)) (ht:∀cl C s H ex,PTs (y8 X (loc++free) scope cl C s H ex) ifs (zK κ E0 c)) (he:∀cl C s H ex,PE (y8 X (loc++free) scope cl C s H ex) elt (zh κ E0 d))
 (hs:∀x,foldedSetIterable iter X.env x=pure x:=by intro _;rfl) (hsw:swapsWith (.ListComp elt [⟨tg,iter,ifs,0⟩] scope pos) (some (.Name y py)) spos.line X.env=pure true:=by rfl):
 PS X (.Assign [.Name y py] (.ListComp elt [⟨tg,iter,ifs,0⟩] scope pos) spos) (zo κ E (sSet i (yu loc.length fr it g c d))):=qg (Mc hN hi' hx hc S hi hg ht he hs hsw) fun D σ H h=>Jj (IZ h)
end
section
variable {X:Cx} {κ:Kx} {E:XK} {F F':Fr} {σ σ':L2.St} {H H1 H':Hp} {Q:VK} {p:Addr} {e a b c o:Expr} {pos apos np cpos:Pos} {i:Nat} {D:Ends}
def eNeg (p:P3):E3:=fun s h=>(p s h).bind fun f h1=>match f with
 |.x (.int i)=>.ok (.v (.int (-i))) h1
 |_=>.no
def CO {d:P3} (ha:PE X a (zi κ E d)):PE X (.UnaryOp .USub a pos) (zh κ E (eNeg d)):=yC (Qy Q3 ha) fun σ H Q ⟨F,rel,o⟩=>
 (z9 (K:=kP κ) zR rel o).mono fun v H1 ⟨β1,h1,f,e1,⟨r1,rf⟩,o1⟩=>by
  match f,rf,o1 with
  |.x (.int i),rf,o1=>
   cases (show Rep κ β1 F.O H1 (.int i) v from rf)
   exact⟨i,rfl,o1 β1 _ H1 Ext.refl ⟨r1,.int _⟩⟩
def eChain (f g:F2) (a b c:P3):E3:=fun s h=>(a s h).bind fun x h1=>(b s h1).bind fun y h2=>match f s h2 x y with
 |some (.v (.bl true))=>(c s h2).bind fun z h3=>opt h3 (g s h3 y z)
 |some (.v (.bl false))=>.ok (.v (.bl false)) h2
 |_=>.no
def MS {r r':R2} {f g:F2} {da db dc:P3} (hs:OpSim κ r f) (hs':OpSim κ r' g) (h:zh κ E (eChain f g da db dc) σ H Q):IG r r' (zi κ E da) (zi κ E db) (zi κ E dc) σ H Q:=by
 obtain⟨F,rel,o⟩:=h
 refine (z9 (K:=kP κ) zR rel o).mono fun v H1 ⟨β1,h1,f1,e1,⟨r1,rf1⟩,o1⟩=>?_
 refine (z9 (F:=F.to β1 h1) (K:=kP κ) zR r1 o1).mono fun w H2 ⟨β2,h2,f2,e2,⟨r2,rf2⟩,o2⟩=>?_
 have rf1':=RfR.ext (F:=F.to β1 h1) (β':=β2) (h':=h2) r1 e2 rf1;cases q:f F.s h2 f1 f2 with
 |none=>simp only[q]at o2;exact o2.elim
 |some z=>
  refine hs (F.to β2 h2) σ H2 f1 f2 z v w _ r2 rf1' rf2 q fun u H' e p=>?_
  match z,q,p with
  |.v (.bl true),q,p=>
   simp only[q]at o2;cases (show Rep κ β2 F.O H' (.bl true) u from p.2)
   refine⟨true,rfl,?_⟩
   rw[Ab rfl];have o3:=Out.move (F:=F.to β2 h2) (h':=h2) zR e o2
   refine (z9 (F:=F.to β2 h2) (K:=kP κ) zR p.1 o3).mono fun w3 H3 ⟨β3,h3,f3,e3,⟨r3,rf3⟩,o4⟩=>?_
   obtain⟨z',q',k⟩:=Out.opt (F:=F.to β3 h3) rfl o4;exact hs' (F.to β3 h3) σ H3 f2 f3 z' w w3 Q r3 (RfR.ext (F:=F.to β2 h2) (β':=β3) (h':=h3) p.1 e3 (RfR.ext (F:=F.to β2 h2) (β':=β2) (h':=h2) r2 e rf2)) rf3 q' k
  |.v (.bl false),q,p=>
   simp only[q]at o2;cases (show Rep κ β2 F.O H' (.bl false) u from p.2)
   refine⟨false,rfl,?_⟩
   rw[Ac Ba];exact o2 β2 _ H' e ⟨p.1,.bl _⟩
  |.v .non,q,p=>simp only[q]at o2;exact o2.elim
  |.v (.int _),q,p=>simp only[q]at o2;exact o2.elim
  |.v (.str _),q,p=>simp only[q]at o2;exact o2.elim
  |.v (.ty _),q,p=>simp only[q]at o2;exact o2.elim
  |.v (.tup _),q,p=>simp only[q]at o2;exact o2.elim
  |.v (.lst _),q,p=>simp only[q]at o2;exact o2.elim
  |.v (.scr _),q,p=>simp only[q]at o2;exact o2.elim
  |.v (.dK _),q,p=>simp only[q]at o2;exact o2.elim
  |.v (.dT _),q,p=>simp only[q]at o2;exact o2.elim
  |.v (.obj _ _),q,p=>simp only[q]at o2;exact o2.elim
  |.v (.cls _),q,p=>simp only[q]at o2;exact o2.elim
  |.v (.fn _ _),q,p=>simp only[q]at o2;exact o2.elim
  |.v (.loc _),q,p=>simp only[q]at o2;exact o2.elim
  |.m _,q,p=>simp only[q]at o2;exact o2.elim
def MT {op op':CmpOp} {r r':R2} {f g:F2} {da db dc:P3} (hs:OpSim κ r f) (hs':OpSim κ r' g) (ho:OpR X (compareOp op) r) (ho':OpR X (compareOp op') r') (ha:PE X a (zi κ E da)) (hb:PE X b (zi κ E db)) (hc:PE X c (zi κ E dc))
 (hm:lastMarks [op,op'] [b,c]=false:=by with_unfolding_all rfl):PE X (.Compare a [op,op'] [b,c] pos) (zh κ E (eChain f g da db dc)):=yC (Q6 ho ho' ha hb hc hm) fun _ _ _ h=>MS hs hs' h
def MU {op op':CmpOp} {r r':R2} {f g:F2} {da db dc:P3} (hs:OpSim κ r f) (hs':OpSim κ r' g) (ho:OpR X (compareOp op) r) (ho':OpR X (compareOp op') r') (ha:PE X a (zi κ E da)) (hb:PE X b (zi κ E db)) (hc:PE X c (zi κ E dc))
 (hm:lastMarks [op,op'] [b,c]=false:=by with_unfolding_all rfl):PT X (.Compare a [op,op'] [b,c] pos) (zK κ E (tE (eChain f g da db dc))):=PTw (Q7 ho ho' ha hb hc hm) fun _ _ _ h=>MS hs hs' (EV h)
abbrev Po3:=S3->H3->Res (Option Int)
def kO (κ:Kx):Kd (Option Int) (Option Int):=fun _ F σ H' i j=>j=i/\Rel κ F σ H'
def km_O:BQ (kO κ):=fun _ _ _ _ _ _ _ _ _ _ _ h=>h
abbrev toOf (κ:Kx) (E:XK) (d:Po3):TO:=tOf κ E (kO κ) d
def poN:Po3:=fun _ h=>.ok none h
def poS (p:P3):Po3:=fun s h=>(p s h).bind fun f h1=>match f with
 |.x (.int i)=>.ok (some i) h1
 |_=>.no
def POw {e:Option Expr} {t t':TO} (h:PO X e t) (w:∀σ H Q,t' σ H Q->t σ H Q):PO X e t':=fun pins s σ H Q I q=>h pins s σ H Q I (w σ H Q q)
def Hy:PO X none (toOf κ E poN):=POw Ro fun σ H Q ⟨F,rel,o⟩=>o F.β none H Ext.refl ⟨rfl,rel⟩
def Hz {d:P3} (ha:PE X a (zi κ E d)):PO X (some a) (toOf κ E (poS d)):=POw (Rq ha) fun σ H Q ⟨F,rel,o⟩=>
 (z9 (K:=kP κ) km_O rel o).mono fun v H1 ⟨β1,h1,f,e1,⟨r1,rf⟩,o1⟩=>by
  match f,rf,o1 with
  |.x (.int i),rf,o1=>
   cases (show Rep κ β1 F.O H1 (.int i) v from rf)
   exact⟨i,rfl,o1 β1 _ H1 Ext.refl ⟨rfl,r1⟩⟩
def cutL {α:Type} (xs:List α) (lo hi:Option Int):List α:=(xs.drop (HT.sIx xs.length 0 lo)).take (HT.sIx xs.length xs.length hi-HT.sIx xs.length 0 lo)
def oSl (s:S3) (h:H3) (lo hi:Option Int):Rf->Option Vl
 |.x (.tup xs)=>if HT.sIx xs.length 0 lo=0/\HT.sIx xs.length xs.length hi=xs.length then none else some (.v (.tup (cutL xs lo hi)))
 |.x (.str z)=>if z.length<=sizeLine then some (.v (.str (Txt.slice z lo hi))) else none
 |f=>(rdl s h f).map fun xs=>.m (.lst (cutL xs lo hi))
def eSl (p:P3) (lo hi:Po3):E3:=fun s h=>(p s h).bind fun f h1=>(lo s h1).bind fun l h2=>(hi s h2).bind fun u h3=>opt h3 (oSl s h3 l u f)
def MV {xs:List V3} {ys:List V} {lo hi:Option Int} (r:Reps κ F.β F.O H xs ys):Reps κ F.β F.O H (cutL xs lo hi) (cutV ys lo hi):=by
 unfold cutL cutV;rw[r.length];exact (r.drop _).take _
def r_sl {lo hi:Option Expr} {p2:Pos} {d:P3} {dl dh:Po3} (hK:X.K=κ.K) (he:PE X a (zi κ E d)) (hl:PO X lo (toOf κ E dl)) (hu:PO X hi (toOf κ E dh)):PE X (.Subscript a (.Slice lo hi none p2) pos) (zh κ E (eSl d dl dh)):=
 yC (Rr (sl_tup.or (sl_list.or S5)) he hl hu) fun σ H Q ⟨F,rel,o⟩=>
 (z9 (K:=kP κ) zR rel o).mono fun v H1 ⟨β1,h1,f,e1,⟨r1,rf⟩,o1⟩=>
 (z9 (F:=F.to β1 h1) (K:=kO κ) zR r1 o1).mono fun l H2 ⟨β2,h2,l',e2,⟨el,r2⟩,o2⟩=>
 (z9 (F:=F.to β2 h2) (K:=kO κ) zR r2 o2).mono fun u H3 ⟨β3,h3,u',e3,⟨eu,r3⟩,o3⟩=>by
  subst el;subst eu;obtain⟨z,q,k⟩:=Out.opt (F:=F.to β3 h3) rfl o3;have rf3:RfR κ (F.to β3 h3) H3 f v:=RfR.ext (F:=F.to β2 h2) (β':=β3) (h':=h3) r2 e3 (RfR.ext (F:=F.to β1 h1) (β':=β2) (h':=h2) r1 e2 rf);rw[hK];have lists:(rdl F.s h3 f).map (fun xs=>Vl.m (.lst (cutL xs l u)))=some z->rSlL κ.K v l u H3 Q:=fun q=>by
   cases q1:rdl F.s h3 f with
   |none=>rw[q1]at q;cases q
   |some xs=>
    rw[q1]at q;cases q;obtain⟨c,ys,rfl,sq,rs⟩:=jE (F:=F.to β3 h3) r3 rf3 q1;exact⟨c,ys,rfl,sq,fun p hp=>k _ _ (yW hp) (Post.lst r3 hp (MV rs))⟩
  match f,rf3,q,lists with
  |.s i,rf3,q,lists=>exact .inr (.inl (lists q))
  |.x (.lst _),rf3,q,lists=>exact .inr (.inl (lists q))
  |.x (.scr _),rf3,q,lists=>exact .inr (.inl (lists q))
  |.x (.loc _),rf3,q,lists=>exact .inr (.inl (lists q))
  |.x (.tup xs),rf3,q,lists=>
   have q:(if HT.sIx xs.length 0 l=0/\HT.sIx xs.length xs.length u=xs.length then none else some (Vl.v (.tup (cutL xs l u))))=some z:=q
   by_cases hw:HT.sIx xs.length 0 l=0/\HT.sIx xs.length xs.length u=xs.length
   .rw[Ab hw]at q;cases q
   .rw[Ac hw]at q;cases q
    cases (show Rep κ β3 F.O H3 (.tup xs) v from rf3) with
    |tup h1 h2 h3' h4=>exact .inl ⟨_,_,rfl,.of h1,by rw[<-h4.length];exact hw,fun p hp=>k _ _ (yW hp) (Post.tup r3 hp (MV (F:=F.to β3 h3) h4))⟩
  |.x (.str zz),rf3,q,lists=>
   obtain⟨hz,rfl⟩:=qy q;cases (show Rep κ β3 F.O H3 (.str zz) v from rf3)
   exact .inr (.inr ⟨zz,rfl,hz,k _ H3 Ext.refl ⟨r3,.str _⟩⟩)
noncomputable def wr3 (s:S3) (h:H3) (c:C3):Rf->Option (S3×H3)
 |.s i=>some (s.set i (some (.m c)),h)
 |.x (.loc n)=>some (s,h.set n c)
 |_=>none
def Rel.wrSlot {l:Addr} {c0 c':C3} {u:HO} (rel:Rel κ F σ H) (hl:F.l[i]? =some (some l)) (hs:F.s[i]? =some (some (.m c0))) (hc:CellR κ F.β F.O (zk H l u) c' l):
  Rel κ {F with s:=F.s.set i (some (.m c'))} σ (zk H l u):=by
 have hO:F.O l:= .inr (.inl (Al hl));have ex:=BW (β:=F.β) (o:=u) (rel.heap.trk' l hO)
 refine⟨rel.heap.wrO hO hc.nt,?_,?_,rel.linj,rel.lt,rel.lo,rel.to,rel.tn,fun j y hj=>?_⟩
 .show (F.s.set i _).length=_;rw[Ce];exact rel.slen
 .show F.l.length=(F.s.set i _).length;rw[Ce];exact rel.llen
 .rcases jC hj with ⟨e1,e2⟩|⟨n,z⟩
  .subst e1;cases e2
   obtain⟨v,h1,a,h2,h3,_⟩:=rel.slot i _ hs;rw[hl]at h2;cases h2;exact⟨v,h1,l,hl,h3,hc⟩
  .obtain⟨v,h1,h2⟩:=rel.slot j y z
   refine⟨v,h1,?_⟩
   cases y with
   |v x=>exact Rep.ext ex (fun b hb=>by rw[hb];exact hO) (fun _ _ _ n=>n) h2
   |m c=>
    obtain⟨a,a1,a2,a3⟩:=h2
    refine⟨a,a1,a2,a3.ext ex (fun b hb=>by rw[hb];exact hO) (fun _ _ _ n=>n) fun w hw=>?_⟩
    rw[zQ (fun z=>by subst z;exact n (rel.linj i j a hl a1))];exact hw
def HA {β:AO} {l:Addr} {o:HO} {n:Nat} (hb:β[n]? =some (some l)) (ho:∃u,H l=some u):Ext No β H β (zk H l o):=
 ⟨fun a u ha hn _=>⟨by rw[zQ (fun z=>by subst z;exact hn (Al hb))];exact ha,hn⟩,Af _,fun _ _ _ h=>h,fun a u ha=>by
  by_cases z:a=l
  .subst z;exact⟨o,yM⟩
  .exact⟨u,by rw[zQ z];exact ha⟩,nwb0⟩
def RelH.wrLoc {O:Addr->Prop} {β:AO} {h:H3} {l:Addr} {n:Nat} {c':C3} {u:HO} (r:RelH κ O β h H) (hb:β[n]? =some (some l)) (hc:CellR κ β O (zk H l u) c' l):RelH κ O β (h.set n c') (zk H l u):=by
 have ex:=HA (o:=u) hb (r.btr' n l hb);have th:∀a w,H a=some w->(∀ys,w≠HO.tup ys)->∃w,zk H l u a=some w/\∀ys,w≠HO.tup ys:=fun a w q n=>by
  by_cases z:a=l
  .subst z;exact⟨u,yM,hc.nt⟩
  .exact⟨w,by rw[zQ z];exact q,n⟩
 refine⟨by rw[Ce];exact r.len,r.inj,r.off,fun a ha=>let ⟨w,q,n⟩:=r.trk a ha;th a w q n,fun i a q=>let ⟨w,z,n⟩:=r.btr i a q;th a w z n,fun i c hi=>?_⟩
 rcases jC hi with ⟨e1,e2⟩|⟨ne,z⟩
 .subst e1;subst e2;exact .inr ⟨l,hb,hc⟩
 .refine (r.cell i c z).imp id fun ⟨a,ha,q⟩=>⟨a,ha,q.ext ex (fun _ z=>z.elim) (fun _ _ _ n=>n) fun w hw=>?_⟩
  rw[zQ (fun z=>by subst z;exact ne (r.inj n i a hb ha))];exact hw
def Jk {f:Rf} {v:V} {xs ys:List V3} {s':S3} {h':H3} (ht:F.T=[]) (rel:Rel κ F σ H) (r:RfR κ F H f v) (e:rdm F.s F.h f=some xs) (hw:wr3 F.s F.h (.lst ys) f=some (s',h')):
  ∃l us,v=.ref l/\H l=some (.lst us)/\Reps κ F.β F.O H xs us/\∀ws,Reps κ F.β F.O H ys ws->∃F',SExt F H F' (zk H l (.lst ws))/\F'.s=s'/\F'.h=h'/\Rel κ F' σ (zk H l (.lst ws)):=by
 cases f with
 |s i=>
  cases hw;obtain⟨a,c,h1,h2,h3,h4⟩:=r;have e:rdl F.s F.h (.s i)=some xs:=e;simp only[rdl,h3]at e;cases c<;>simp at e
  subst e;obtain⟨us,h5,h6⟩:=h4;have hO:F.O a:= .inr (.inl (Al h1))
  refine⟨a,us,h2,h5,h6,fun ws hr=>⟨{F with s:=F.s.set i (some (.m (.lst ys)))},⟨⟨fun b u hb hn m=>⟨by rw[zQ (fun z=>by subst z;exact m (Al h1))];exact hb,hn⟩,Af _,fun _ _ _ h=>h,(BW (β:=F.β) ⟨_,h5⟩).there,nwb0⟩,fun _ h=>.inl h,rfl,ht⟩,rfl,rfl,rel.wrSlot h1 h3 ⟨ws,yM,hr.ext (BW (β:=F.β) ⟨_,h5⟩) (fun b hb=>by rw[hb];exact hO) fun _ _ _ n=>n⟩⟩⟩
 |x y=>
  cases y<;>simp[wr3]at hw
  case loc n=>
   obtain⟨rfl,rfl⟩:=hw;cases r with
   |loc h1 h2=>
    have e:rdl F.s F.h (.x (.loc n))=some xs:=e;simp only[rdl]at e;cases q:F.h[n]? with
    |none=>rw[q]at e;cases e
    |some c=>
     rw[q]at e;cases c<;>simp at e
     subst e
     rcases rel.heap.cell n _ q with z|⟨a,ha,us,h5,h6⟩
     .cases z
     .have ex:=fun o=>HA (o:=o) ha ⟨_,h5⟩
      refine⟨a,us,h2 a ha,h5,h6,fun ws hr=>⟨F.to F.β (F.h.set n (.lst ys)),SExt.of0 ht (ex _),rfl,rfl,rel.next (ex _) (rel.heap.wrLoc ha ⟨ws,yM,hr.ext0 (ex _)⟩)⟩⟩
abbrev FM:=List V3->List V3->Option (List V3×V3)
def mtO (op:FM) (p:P3) (a:A3) (k:S3->H3->V3->O3):D3:=fun s h=>(p s h).bindS fun f h1=>match rdm s h1 f with
 |none=>.no
 |some _=>(a s h1).bindS fun fs h2=>match vals3 fs,rdm s h2 f with
  |some vs,some xs=>match op xs vs with
   |some (ys,r)=>match wr3 s h2 (.lst ys) f with
    |some (s3,h3)=>k s3 h3 r
    |none=>.no
   |none=>.no
  |_,_=>.no
def yR (op:FM) (p:P3) (a:A3):D3:=mtO op p a fun s h _=>.nx s h
def HB (j:Nat) (op:FM) (p:P3) (a:A3):D3:=mtO op p a fun s h r=>if j<s.length then .nx (s.set j (some (.v r))) h else .no
def BF (κ:Kx) (r:V->List V->Hp->VK->Prop) (op:FM):Prop:=∀(β:AO) (O:Addr->Prop) (H:Hp) (l:Addr) (xs ys vs:List V3) (us ws:List V) (rt:V3) (Q:VK),H l=some (.lst us)->Reps κ β O H xs us->Reps κ β O H vs ws->op xs vs=some (ys,rt)->
 (∀us' rt',Reps κ β O H ys us'->Rep κ β O H rt rt'->Q rt' (zk H l (.lst us')))->r (.ref l) ws H Q
def Jl {r:V->List V->Hp->VK->Prop} {op:FM} {dp:P3} {da:A3} {k:S3->H3->V3->O3} (hs:BF κ r op) (rel:Rel κ F σ H) (ht:F.T=[]) (o:SOut κ E F H D (mtO op dp da k F.s F.h)) {Q:VK}
  (hQ:∀F' rt Fm Hm v H3,SExt Fm Hm F' H3->F'.s.length=F.s.length->Rel κ F' σ H3->Rep κ F'.β F'.O H3 rt v->SOut κ E Fm Hm D (k F'.s F'.h rt)->Q v H3):
  tBM κ.K "list" r (zi κ E dp) (zN κ E da) σ H Q:=by
 refine (bindS (K:=kP κ) rel ht o).mono fun v H1 ⟨β1,h1,f,e1,⟨r1,rf⟩,o1⟩=>?_
 cases q:rdm F.s h1 f with
 |none=>simp only[q]at o1;exact o1.elim
 |some xs0=>
  simp only[q]at o1;obtain⟨a,ys,rfl,ha,_⟩:=CL (F:=F.to β1 h1) r1 rf q
  refine⟨.inl ⟨rfl,ys,.of ha⟩,?_⟩
  have s1:SExt F H (F.to β1 h1) H1:=SExt.of0 ht e1
  refine (bindS (F:=F.to β1 h1) (K:=kA κ) r1 ht (SOut.move s1 o1)).mono fun ws H2 ⟨β2,h2,fs,e2,⟨r2,rfs⟩,o2⟩=>?_
  have rf2:=RfR.ext (F:=F.to β1 h1) (β':=β2) (h':=h2) r1 e2 rf;have s2:SExt (F.to β1 h1) H1 (F.to β2 h2) H2:=SExt.of0 (F:=F.to β1 h1) ht e2;cases q1:vals3 fs with
  |none=>simp only[q1]at o2;exact o2.elim
  |some vs=>
   cases q2:rdm F.s h2 f with
   |none=>simp only[q1,q2]at o2;exact o2.elim
   |some xs=>
    simp only[q1,q2]at o2;cases q3:op xs vs with
    |none=>simp only[q3]at o2;exact o2.elim
    |some w=>
     obtain⟨zs,rt⟩:=w;simp only[q3]at o2;cases q4:wr3 F.s h2 (.lst zs) f with
     |none=>simp only[q4]at o2;exact o2.elim
     |some w=>
      obtain⟨s3,h3⟩:=w;simp only[q4]at o2;obtain⟨l,us,ev,hl,rs,wk⟩:=Jk (F:=F.to β2 h2) ht r2 rf2 q2 q4;cases ev
      refine hs β2 F.O H2 a xs zs vs us ws rt _ hl rs (CI rfs q1) q3 fun us' rt' r1' r2'=>?_
      obtain⟨F',e',es,eh,rel'⟩:=wk us' r1'
      refine hQ F' rt (F.to β2 h2) H2 _ _ e' (by rw[rel'.slen,<-rel.slen]) rel' (Rep.sext (F:=F.to β2 h2) e' r2') ?_
      rw[es,eh];exact SOut.move s2 o2
def qI {es:List Expr} {name:Str} {id:String} {r:V->List V->Hp->VK->Prop} {op:FM} {dp:P3} {da:A3} (hs:BF κ r op) (hK:X.K=κ.K) (slot:Slot "list" name id) (hty:typeOf (.builtin id)=pure (.type "method_descriptor")) (hm:MtR X id r) (ho:PE X o (zi κ E dp)) (ha:PA X (e::es) (zN κ E da))
  (hbase:attributeBase o name X.env (eval o X.env)=eval o X.env:=by rfl)
  (hfew:((backTo cpos (starEach (e::es) X.env)).all (fun x=> !x.1) && (backToKw cpos (keywordEach [] X.env)).all (fun x=>x.1.isSome)
   && decide ((e::es).length+([]:List Keyword).length+(if ([]:List Keyword).isEmpty then 0 else 1)<30))=true:=by rfl)
  (hline:(apos.endLine==cpos.line)=true:=by rfl) (hst:SE X e es:=by rfl) (hplain:(backTo cpos (starEach es X.env)).any (·.1)=false:=by rfl)
  (hsw:swapsWith (.Call (.Attribute o name apos) (e::es) [] cpos) none pos.line X.env=pure false:=by rfl):
  PS X (.Expr (.Call (.Attribute o name apos) (e::es) [] cpos) pos) (zo κ E (yR op dp da)):=qg (IA (IL Gk slot hty hm ho ha hbase hfew hline hst hplain) hsw) fun D σ H ⟨F,rel,ht,o⟩=>by
 rw[hK];exact Jl hs rel ht o fun F' rt Fm Hm v H3 e' _ rel' _ o'=>o' F' σ H3 e' rfl rfl rel'
def Tu {name:Str} {id:String} {r:V->List V->Hp->VK->Prop} {op:FM} {dp:P3} (hs:BF κ r op) (hK:X.K=κ.K) (slot:Slot "list" name id) (hty:typeOf (.builtin id)=pure (.type "method_descriptor")) (hm:MtR X id r) (ho:PE X o (zi κ E dp))
  (hbase:attributeBase o name X.env (eval o X.env)=eval o X.env:=by rfl) (hline:(apos.endLine==cpos.line)=true:=by rfl) (hsw:swapsWith (.Call (.Attribute o name apos) [] [] cpos) none pos.line X.env=pure false:=by rfl):
  PS X (.Expr (.Call (.Attribute o name apos) [] [] cpos) pos) (zo κ E (yR op dp aNil)):=qg (IA (R0 Gk slot hty hm ho hbase hline) hsw) fun D σ H ⟨F,rel,ht,o⟩=>by
 rw[hK]
 refine tOf.mono (Jl (Q:=fun _ H1=>D.nx σ H1) hs rel ht o fun F' rt Fm Hm v H3 e' _ rel' _ o'=>o' F' σ H3 e' rfl rfl rel') fun x H1 ⟨h1,F1,r1,h2⟩=>⟨h1,h2 F1.β [] H1 Ext.refl ⟨r1,.nil⟩⟩
def Tv {r:V->List V->Hp->VK->Prop} {op:FM} {dp:P3} {da:A3} {j:Nat} (hs:BF κ r op) (h:zo κ E (HB j op dp da) D σ H):tBM κ.K "list" r (zi κ E dp) (zN κ E da) σ H (fun v H1=>D.nx (σ.set j (some v)) H1):=by
 obtain⟨F,rel,ht,o⟩:=h
 refine Jl hs rel ht o fun F' rt Fm Hm v H3 e' hl rel' rp o'=>?_
 by_cases hj:j<F'.s.length
 .rw[Ab hj]at o'
  exact o' (F'.setV j rt) _ H3 (e'.trans (SExt.setN e'.tt)) rfl rfl (rel'.setV rp hj)
 .rw[Ac hj]at o';exact o'.elim
def Tw {j:Nat} {x:Str} {px:Pos} {es:List Expr} {name:Str} {id:String} {r:V->List V->Hp->VK->Prop} {op:FM} {dp:P3} {da:A3} (hs:BF κ r op) (hK:X.K=κ.K) (slot:Slot "list" name id) (hty:typeOf (.builtin id)=pure (.type "method_descriptor")) (hm:MtR X id r) (hN:X.N.Nodup) (hi:X.N[j]? =some x) (hx:jD X.env.scope x) (ho:PE X o (zi κ E dp)) (ha:PA X (e::es) (zN κ E da))
  (hbase:attributeBase o name X.env (eval o X.env)=eval o X.env:=by rfl)
  (hfew:((backTo cpos (starEach (e::es) X.env)).all (fun x=> !x.1) && (backToKw cpos (keywordEach [] X.env)).all (fun x=>x.1.isSome)
   && decide ((e::es).length+([]:List Keyword).length+(if ([]:List Keyword).isEmpty then 0 else 1)<30))=true:=by rfl)
  (hline:(apos.endLine==cpos.line)=true:=by rfl) (hst:SE X e es:=by rfl) (hplain:(backTo cpos (starEach es X.env)).any (·.1)=false:=by rfl)
  (hsw:swapsWith (.Call (.Attribute o name apos) (e::es) [] cpos) (some (.Name x px)) pos.line X.env=pure false:=by rfl)
  (hf:X.fn x=true\/X.env.scope.names.lookup x=some .local:=by first|exact .inl rfl|exact .inr rfl|assumption):
  PS X (.Assign [.Name x px] (.Call (.Attribute o name apos) (e::es) [] cpos) pos) (zo κ E (HB j op dp da)):=qg (Ll hN hi hx (IL Gk slot hty hm ho ha hbase hfew hline hst hplain) hsw hf) fun D σ H h=>by
 rw[hK];exact Tv hs h
noncomputable def yo:FM:=fun xs vs=>match vs with
 | [y]=>if xs.length<sizeLine then some (xs++[y],.non) else none
 |_=>none
def jv:BF κ LJ yo:=fun β O H l xs ys vs us ws rt Q hl rx rv e k=>by
 unfold yo at e
 split at e
 .obtain⟨h,e⟩:=qy e
  cases e;cases rv with
  |cons a t=>cases t;exact⟨l,us,_,rfl,rfl,hl,by rw[<-rx.length];exact h,k _ _ (rx.append (.cons a .nil)) .non⟩
 .cases e
noncomputable def mPop:FM:=fun xs vs=>match vs with
 | []=>match xs[xs.length-1]? with
  |some y=>some (xs.dropLast,y)
  |none=>none
 |_=>none
def Tx:BF κ rPop mPop:=fun β O H l xs ys vs us ws rt Q hl rx rv e k=>by
 unfold mPop at e
 split at e
 .cases rv
  cases q:xs[xs.length-1]? with
  |none=>rw[q]at e;cases e
  |some y=>
   rw[q]at e;cases e;obtain⟨u,hu,ru⟩:=rx.get q;exact⟨l,us,u,rfl,rfl,hl,by rw[<-rx.length];exact hu,k _ _ rx.dropLast ru⟩
 .cases e
noncomputable def DN:FM:=fun xs vs=>match vs with
 | [.int i]=>if -(2 ^ 63)<=i/\i<2 ^ 63 then match seqIndex? i xs.length with
   |some k=>match xs[k]? with
    |some y=>some (xs.eraseIdx k,y)
    |none=>none
   |none=>none
  else none
 |_=>none
def Tz:BF κ LL DN:=fun β O H l xs ys vs us ws rt Q hl rx rv e k=>by
 unfold DN at e
 split at e
 .rename_i i
  by_cases hi: -(2 ^ 63)<=i/\i<2 ^ 63
  .rw[Ab hi]at e
   cases q:seqIndex? i xs.length with
   |none=>rw[q]at e;cases e
   |some j=>
    simp only[q]at e;cases q2:xs[j]? with
    |none=>rw[q2]at e;cases e
    |some y=>
     rw[q2]at e;cases e;obtain⟨u,hu,ru⟩:=rx.get q2;cases rv with
     |cons a t=>
      cases t;cases a;exact⟨l,us,i,j,u,rfl,rfl,hl,hi.1,hi.2,by rw[<-rx.length];exact q,hu,k _ _ (rx.eraseIdx j) ru⟩
  .rw[Ac hi]at e;cases e
 .cases e
end
section
variable {X:Cx} {κ:Kx} {E:XK} {F F':Fr} {σ σ':L2.St} {H H1 H':Hp} {Q:VK} {p:Addr} {e a b c o:Expr} {pos apos np cpos:Pos} {i:Nat} {D:Ends}
noncomputable def jB:FM:=fun xs vs=>match vs with
 | [.lst zs]=>if xs.length+zs.length<=sizeLine then some (xs++zs,.non) else none
 |_=>none
def Jm:BF κ LK jB:=fun β O H l xs ys vs us ws rt Q hl rx rv e k=>by
 unfold jB at e
 split at e
 .obtain⟨h,e⟩:=qy e
  cases e;cases rv with
  |cons a t=>
   cases t;cases a with
   |lst h1 h2 h3 h4=>exact⟨l,_,us,_,rfl,rfl,hl,h1,by rw[<-rx.length,<-h4.length];exact h,k _ _ (rx.append h4) .non⟩
 .cases e
def HC (p i:P3) (e:E3):D3:=fun s h=>(e s h).bindS fun r h1=>match r.fz with
 |none=>.no
 |some y=>(p s h1).bindS fun f h2=>(i s h2).bindS fun j h3=>match j,rdm s h3 f with
  |.x (.int k),some xs=>match qp xs.length k with
   |some n=>match wr3 s h3 (.lst (xs.set n y)) f with
    |some (s',h')=>.nx s' h'
    |none=>.no
   |none=>.no
  |_,_=>.no
def T1 {dp di:P3} {d:E3} (h:zo κ E (HC dp di d) D σ H):tAsg (zh κ E d) (gSub (zi κ E dp) (zi κ E di) Ha) D σ H:=by
 obtain⟨F,rel,ht,o⟩:=h
 refine (bindS (K:=kE κ) rel ht o).mono fun v H1 ⟨β1,h1,r,e1,p1,o1⟩=>?_
 cases z:r.fz with
 |none=>simp only[z]at o1;exact o1.elim
 |some y=>
  simp only[z]at o1;obtain⟨r1,ry⟩:=Post.fz p1 z;have s1:SExt F H (F.to β1 h1) H1:=SExt.of0 ht e1
  refine (bindS (F:=F.to β1 h1) (K:=kP κ) r1 ht (SOut.move s1 o1)).mono fun ov H2 ⟨β2,h2,f,e2,⟨r2,rf⟩,o2⟩=>?_
  have s2:SExt (F.to β1 h1) H1 (F.to β2 h2) H2:=SExt.of0 (F:=F.to β1 h1) ht e2
  refine (bindS (F:=F.to β2 h2) (K:=kP κ) r2 ht (SOut.move s2 o2)).mono fun iv H3 ⟨β3,h3,j,e3,⟨r3,rj⟩,o3⟩=>?_
  have s3:SExt (F.to β2 h2) H2 (F.to β3 h3) H3:=SExt.of0 (F:=F.to β2 h2) ht e3;have rf3:=RfR.ext (F:=F.to β2 h2) (β':=β3) (h':=h3) r2 e3 rf;have ry3:Rep κ β3 F.O H3 y v:=(Rep.ext0 e3 (Rep.ext0 e2 ry))
  match j,rj,o3 with
  |.s _,rj,o3=>exact o3.elim
  |.x (.int k),rj,o3=>
   cases q:rdm F.s h3 f with
   |none=>simp only[q]at o3;exact o3.elim
   |some xs=>
    simp only[q]at o3;cases q2:qp xs.length k with
    |none=>simp only[q2]at o3;exact o3.elim
    |some n=>
     simp only[q2]at o3;cases q3:wr3 F.s h3 (.lst (xs.set n y)) f with
     |none=>simp only[q3]at o3;exact o3.elim
     |some w=>
      obtain⟨s',h'⟩:=w;simp only[q3]at o3;obtain⟨l,us,ev,hl,rs,wk⟩:=Jk (F:=F.to β3 h3) ht r3 rf3 q q3;subst ev;cases (show Rep κ β3 F.O H3 (.int k) iv from rj)
      obtain⟨F',e',es,eh,rel'⟩:=wk (us.set n v) (rs.set ry3 n);exact⟨l,us,k,n,rfl,rfl,hl,by rw[<-rs.length];exact q2,SOut.move s3 o3 F' σ _ e' es eh rel'⟩
def T2 {tp:Pos} {ii:Expr} {dp di:P3} {d:E3} (he:PE X e (zh κ E d)) (ho:PE X o (zi κ E dp)) (hi:PE X ii (zi κ E di))
 (hh:∀{te to ti:TE},PE X e te->PE X o to->PE X ii ti->PS X (.Assign [.Subscript o ii tp] e pos) (tAsg te (gSub to ti Ha))):PS X (.Assign [.Subscript o ii tp] e pos) (zo κ E (HC dp di d)):=qg (hh he ho hi) fun D σ H h=>T1 h
noncomputable def yw (h:H3):Rf->Option (Str×List (Str×V3))
 |.x (.obj c fs)=>some (c,fs)
 |.x (.loc n)=>match h[n]? with
  |some (.ins c fs)=>some (c,fs)
  |_=>none
 |_=>none
def MW {f:Rf} {v:V} {c:Str} {fs:List (Str×V3)} (rel:Rel κ F σ H) (r:RfR κ F H f v) (e:yw F.h f=some (c,fs)):∃a C dx gs,v=.ref a/\κ.cl c=some C/\H a=some (.ins C dx gs)/\RepP κ F.β F.O H fs gs:=by
 cases f with
 |s i=>cases e
 |x y=>
  cases y<;>simp[yw]at e
  case obj c' fs'=>
   obtain⟨rfl,rfl⟩:=e;cases (show Rep κ F.β F.O H (.obj c' fs') v from r) with
   |obj h1 h2 h3 h4 h5=>exact⟨_,_,_,_,rfl,h1,h2,h5⟩
  case loc n=>
   cases (show Rep κ F.β F.O H (.loc n) v from r) with
   |loc h1 h2=>
    cases q:F.h[n]? with
    |none=>rw[q]at e;cases e
    |some c0=>
     rw[q]at e;cases c0<;>simp at e
     obtain⟨rfl,rfl⟩:=e
     rcases rel.heap.cell n _ q with z|⟨a,ha,C,dx,gs,k1,k2,k3⟩
     .cases z
     .exact⟨a,C,dx,gs,h2 a ha,k1,k2,k3⟩
def Flds (X:Cx) (κ:Kx) (cs:List Str) (f:Str):Prop:=∀c∈cs,∀C,κ.cl c=some C->Cls X.K C/\NoAttr X.K C f
def Flds.nil {f:Str}:Flds X κ [] f:=fun c hc=>by cases hc
def zf (cs:List Str) (fl:Str) (p:P3):E3:=fun s h=>(p s h).bind fun f h1=>match yw h1 f with
 |some (c,fs)=>if c∈cs then match fs.lookup fl with
   |some x=>.ok (.v x) h1
   |none=>.no
  else .no
 |none=>.no
def MX {fl:Str} {cs:List Str} {d:P3} (hf:Flds X κ cs fl) (he:PE X e (zi κ E d)) (hb:attributeBase e fl X.env (eval e X.env)=eval e X.env:=by rfl):PE X (.Attribute e fl pos) (zh κ E (zf cs fl d)):=yC (QM he hb) fun σ H Q ⟨F,rel,o⟩=>
 (z9 (K:=kP κ) zR rel o).mono fun v H1 ⟨β1,h1,f,e1,⟨r1,rf⟩,o1⟩=>by
  cases q:yw h1 f with
  |none=>simp only[q]at o1;exact o1.elim
  |some w=>
   obtain⟨c,fs⟩:=w;simp only[q]at o1
   by_cases hc:c∈cs
   .rw[Ab hc]at o1
    cases q2:fs.lookup fl with
    |none=>simp only[q2]at o1;exact o1.elim
    |some x=>
     simp only[q2]at o1;obtain⟨a,C,dx,gs,rfl,k1,k2,k3⟩:=MW (F:=F.to β1 h1) r1 rf q;obtain⟨y,hy,ry⟩:=k3.lookup q2;exact⟨a,C,dx,gs,y,rfl,k2,(hf c hc C k1).1,(hf c hc C k1).2,hy,o1 β1 y H1 Ext.refl ⟨r1,ry⟩⟩
   .rw[Ac hc]at o1;exact o1.elim
noncomputable def AI (f:Str) (v:V3):List (Str×V3)->List (Str×V3)
 | []=>[(f,v)]
 | (g,x)::r=>if g=f then (g,v)::r else (g,x)::AI f v r
theorem RepP.putF {β:AO} {O:Addr->Prop} {f:Str} {x:V3} {y:V} (r:Rep κ β O H x y):∀{fs:List (Str×V3)} {gs:List (Str×V)},RepP κ β O H fs gs->RepP κ β O H (AI f x fs) (L2.putF f y gs)
 |_,_,.nil=>.cons r .nil
 |_,_,.cons (k:=k) q t=>by
  unfold AI L2.putF
  by_cases h:k=f
  .rw[Ab h,Ab h];exact .cons r t
  .rw[Ac h,Ac h];exact .cons q (RepP.putF r t)
def qh (cs:List Str) (fl:Str) (p:P3) (e:E3):D3:=fun s h=>(e s h).bindS fun r h1=>match r.fz with
 |none=>.no
 |some y=>(p s h1).bindS fun f h2=>match f with
  |.x (.loc n)=>match h2[n]? with
   |some (.ins c fs)=>if c∈cs/\fs.length<1000 then .nx s (h2.set n (.ins c (AI fl y fs))) else .no
   |_=>.no
  |_=>.no
def AJ {fl:Str} {pos':Pos} {cs:List Str} {dp:P3} {d:E3} {value:Expr} (hf:Flds X κ cs fl) (ha:PE X o (zi κ E dp)) (hv:PE X value (zh κ E d)) (hs:swapsWith value (some (.Attribute o fl pos')) pos.line X.env=pure false:=by rfl):PS X (.Assign [.Attribute o fl pos'] value pos) (zo κ E (qh cs fl dp d)):=qg (QN ha hv hs) fun D σ H ⟨F,rel,ht,o⟩=>by
 refine (bindS (K:=kE κ) rel ht o).mono fun v H1 ⟨β1,h1,r,e1,p1,o1⟩=>?_
 cases z:r.fz with
 |none=>simp only[z]at o1;exact o1.elim
 |some y=>
  simp only[z]at o1;obtain⟨r1,ry⟩:=Post.fz p1 z;have s1:SExt F H (F.to β1 h1) H1:=SExt.of0 ht e1
  refine (bindS (F:=F.to β1 h1) (K:=kP κ) r1 ht (SOut.move s1 o1)).mono fun ov H2 ⟨β2,h2,f,e2,⟨r2,rf⟩,o2⟩=>?_
  have s2:SExt (F.to β1 h1) H1 (F.to β2 h2) H2:=SExt.of0 (F:=F.to β1 h1) ht e2;have ry2:Rep κ β2 F.O H2 y v:=Rep.ext0 e2 ry
  match f,rf,o2 with
  |.x (.loc n),rf,o2=>
   cases q:h2[n]? with
   |none=>simp only[q]at o2;exact o2.elim
   |some c0=>
    match c0,q,o2 with
    |.ins c fs,q,o2=>
     simp only[q]at o2
     by_cases hc:c∈cs/\fs.length<1000
     .rw[Ab hc]at o2
      cases (show Rep κ β2 F.O H2 (.loc n) ov from rf) with
      |loc l1 l2=>
       rcases r2.heap.cell n _ q with w|⟨a,ha,C,dx,gs,k1,k2,k3⟩
       .cases w
       .have ev:=l2 a ha
        subst ev;have ex:=fun o=>HA (H:=H2) (β:=β2) (o:=o) ha ⟨_,k2⟩
        refine⟨a,C,dx,gs,rfl,k2,(hf c hc.1 C k1).1,(hf c hc.1 C k1).2,by rw[<-k3.length];exact hc.2,?_⟩
        refine SOut.move s2 o2 (F.to β2 (h2.set n (.ins c (AI fl y fs)))) σ _ (SExt.of0 (F:=F.to β2 h2) ht (ex _)) rfl rfl ?_
        exact Rel.next (F:=F.to β2 h2) r2 (ex _) (r2.heap.wrLoc ha ⟨C,dx,_,k1,yM,(RepP.putF ry2 k3).ext0 (ex _)⟩)
     .rw[Ac hc]at o2;exact o2.elim
    |.lst _,q,o2=>simp only[q]at o2;exact o2.elim
    |.dK _,q,o2=>simp only[q]at o2;exact o2.elim
    |.dT _,q,o2=>simp only[q]at o2;exact o2.elim
    |.dead,q,o2=>simp only[q]at o2;exact o2.elim
def zS (c m:Str) (f:F3) (p:P3) (a:A3):E3:=fun s h=>(p s h).bind fun g h1=>match g,yw h1 g with
 |.x x,some (c',fs)=>if c'=c/\fs.lookup m=none then (a s h1).bind fun gs h2=>match vals3 gs with
   |some vs=>f (x::vs) h2
   |none=>.no
  else .no
 |_,_=>.no
def MY {C:Addr} {c m:Str} {f:F3} {dp:P3} {t:A3} {k:Nat} (hC:κ.cl c=some C) (hf:zn f k) (h:zh κ E (zS c m f dp t) σ H Q):IJ C m (zm κ k f) [] E (zi κ E dp) (zN κ E t) σ H Q:=by
 obtain⟨F,rel,o⟩:=h
 refine (z9 (K:=kP κ) zR rel o).mono fun v H1 ⟨β1,h1,g,e1,⟨r1,rf⟩,o1⟩=>?_
 match g,rf,o1 with
 |.s i,rf,o1=>exact o1.elim
 |.x x,rf,o1=>
  cases q:yw h1 (.x x) with
  |none=>simp only[q]at o1;exact o1.elim
  |some w=>
   obtain⟨c',fs⟩:=w;simp only[q]at o1
   by_cases hc:c'=c/\fs.lookup m=none
   .rw[Ab hc]at o1
    obtain⟨a,C',dx,gs,rfl,k1,k2,k3⟩:=MW (F:=F.to β1 h1) r1 rf q;rw[hc.1,hC]at k1;cases k1
    refine⟨a,dx,gs,rfl,k2,k3.lookup_none hc.2,?_⟩
    refine (z9 (F:=F.to β1 h1) (K:=kA κ) zR r1 o1).mono fun vs H2 ⟨β2,h2,fs2,e2,⟨r2,rf2⟩,o2⟩=>?_
    cases q2:vals3 fs2 with
    |none=>simp only[q2]at o2;exact o2.elim
    |some xs=>
     simp only[q2]at o2;have hr:=CI rf2 q2;have rx:Rep κ β2 F.O H2 x (.ref a):=Rep.ext0 e2 rf;rw[B1]
     refine⟨F.O,β2,x::xs,h2,?_,r2.heap,.cons rx hr,FOut.of (F:=F.to β2 h2) r2 o2⟩
     refine Gj fun n=>?_
     rw[hf (x::xs) h2 (by rw[Bb,hr.length];exact n)]at o2
     exact o2
   .rw[Ac hc]at o1;exact o1.elim
def MZ {C fa:Addr} {c m:Str} {es:List Expr} {f:F3} {dp:P3} {t:A3} {k:Nat} {fd:FuncData} {ps:List Str} {n:Nat} {pl:Sem Bool} (hC:κ.cl c=some C) (hf:zn f n) (he:PE X o (zi κ E dp)) (cl:Cls X.K C) (hm:Meth X.K C m fa) (Fk:FnOk X.prog X.w X.K X.mg X.base (XT X.prog X.w) k fa fd ps (zm κ n f)) (hr:Room k X.A) (hb:Binds X.K fd ps []) (hx:qN (XT X.prog X.w) X E)
 (ha:PA X (e::es) (zN κ E t)) (hst:SE X e es:=by rfl) (hpl:BA X pos es:=by rfl)
 (ht:eval (.Call (.Attribute o m apos) (e::es) [] pos) X.env=(do
  let ov <-eval o X.env
  standAt apos.atName
  let (f,first) <-holding [ov] (getMethod ov m pl)
  callWith pos f first (backTo pos (starEach (e::es) X.env)) (backToKw pos (keywordEach [] X.env))):=by rfl):
 PE X (.Call (.Attribute o m apos) (e::es) [] pos) (zh κ E (zS c m f dp t)):=yC (QX he cl hm Fk hr hb .nil hx ha hst hpl ht) fun _ _ _ h=>MY hC hf h
def BG {C fa:Addr} {c m:Str} {f:F3} {dp:P3} {k:Nat} {fd:FuncData} {ps:List Str} {n:Nat} {pl:Sem Bool} (hC:κ.cl c=some C) (hf:zn f n) (he:PE X o (zi κ E dp)) (cl:Cls X.K C) (hm:Meth X.K C m fa) (Fk:FnOk X.prog X.w X.K X.mg X.base (XT X.prog X.w) k fa fd ps (zm κ n f)) (hr:Room k X.A) (hb:Binds X.K fd ps []) (hx:qN (XT X.prog X.w) X E)
  (ht:eval (.Call (.Attribute o m apos) [] [] pos) X.env=(do
   let ov <-eval o X.env
   standAt apos.atName
   let (f,first) <-holding [ov] (getMethod ov m pl)
   callWith pos f first (backTo pos (starEach [] X.env)) (backToKw pos (keywordEach [] X.env))):=by rfl):
  PE X (.Call (.Attribute o m apos) [] [] pos) (zh κ E (zS c m f dp aNil)):=yC (QY he cl hm Fk hr hb .nil hx ht) fun σ H Q h=>by
 refine tOf.mono (MY hC hf h) fun x H1 ⟨a,dx,fs,h1,h2,h3,h4⟩=>⟨a,dx,fs,h1,h2,h3,?_⟩
 obtain⟨F1,r1,h5⟩:=h4;exact h5 F1.β [] H1 Ext.refl ⟨r1,.nil⟩
def eNew (c:Str) (f:F3) (a:A3):E3:=fun s h=>(a s h).bind fun fs h1=>match vals3 fs with
 |some vs=>match f (.loc h1.length::vs) (h1++[.ins c []]) with
  |.ok (.v .non) h2=>.ok (.v (.loc h1.length)) h2
  |.ex x h2=>.ex x h2
  |_=>.no
 |none=>.no
def T4 {C:Addr} {c:Str} {f:F3} {t:A3} {k:Nat} (hC:κ.cl c=some C) (hf:zn f k) (h:zh κ E (eNew c f t) σ H Q):Ly C (zm κ k f) [] E (zN κ E t) σ H Q:=by
 obtain⟨F,rel,o⟩:=h
 refine (z9 (K:=kA κ) zR rel o).mono fun vs H1 ⟨β1,h1,fs,e1,⟨r1,rf1⟩,o1⟩=>fun x dx hx hdx hne=>?_
 cases q:vals3 fs with
 |none=>simp only[q]at o1;exact o1.elim
 |some xs=>
  simp only[q]at o1;have hr:Reps κ β1 F.O H1 xs vs:=CI (F:=F.to β1 h1) rf1 q;have hl:β1.length=h1.length:=r1.heap.len;have hdx2:(zk H1 dx (.own x)) x=none:=by rw[zQ (Cf hne)];exact hx
  have kp:∀a u,H1 a=some u->(zk (zk H1 dx (.own x)) x (.ins C dx [])) a=some u:=fun a u ha=>by rw[zQ (qk ha hx),zQ (qk ha hdx)];exact ha
  obtain⟨nx,nO⟩:=r1.heap.off_new hx;have ex:Ext No β1 H1 (β1++[some x]) (zk (zk H1 dx (.own x)) x (.ins C dx [])):=⟨fun a u ha hn _=>⟨kp a u ha,fun z=>by
    rcases As.mp z with z|z
    .exact hn z
    .have:=Ao.mp z
     cases this;rw[hx]at ha;cases ha⟩,by simp,fun i a hi h=>by rw[Bc hi]at h;exact h,fun a u ha=>⟨u,kp a u ha⟩,fun i a hi h=>by
    rw[Bl hi]at h;have:a=x:=by have:=Al h;simp at this;exact this
    rw[this];exact hx⟩
  have rh:RelH κ F.O (β1++[some x]) (h1++[.ins c []]) (zk (zk H1 dx (.own x)) x (.ins C dx [])):=by
   refine⟨by simp[hl],fun i j a h1' h2'=>?_,fun a ha z=>?_,fun a ha=>let ⟨u,q,n⟩:=r1.heap.trk a ha;⟨u,kp a u q,n⟩,fun i a q=>?_,fun i c' hc=>?_⟩
   .rcases De i β1.length with hi|hi<;>rcases De j β1.length with hj|hj
    .rw[Bc hi]at h1';rw[Bc hj]at h2';exact r1.heap.inj i j a h1' h2'
    .rw[Bc hi]at h1';rw[Bl hj]at h2'
     have:a=x:=by
      have:=Al h2';simp at this;exact this
     subst this;exact absurd (Al h1') nx
    .rw[Bl hi]at h1';rw[Bc hj]at h2'
     have:a=x:=by
      have:=Al h1';simp at this;exact this
     subst this;exact absurd (Al h2') nx
    .have hi2:i<(β1++[some x]).length:=(An.mp h1').1
     have hj2:j<(β1++[some x]).length:=(An.mp h2').1;simp at hi2 hj2;lia
   .rcases As.mp z with z|z
    .exact r1.heap.off a ha z
    .have:=Ao.mp z
     cases this;exact nO ha
   .rcases De i β1.length with hi|hi
    .rw[Bc hi]at q
     obtain⟨u,hu,n⟩:=r1.heap.btr i a q;exact⟨u,kp a u hu,n⟩
    .rw[Bl hi]at q
     have:a=x:=by have:=Al q;simp at this;exact this
     subst this;exact⟨_,yM,by intro _ z;cases z⟩
   .rcases De i h1.length with hi|hi
    .rw[Bc hi]at hc
     refine (r1.heap.cell i c' hc).imp id fun ⟨a,ha,q⟩=>⟨a,by rw[Bc (by rw[hl];exact hi)];exact ha,q.ext ex (fun _ z=>z.elim) (fun _ _ _ n=>n) fun u hu=>kp a u hu⟩
    .rw[Bl hi]at hc
     have hi2:i-h1.length=0:=by
      have:=(An.mp hc).1;simp at this;exact this
     rw[hi2]at hc;cases hc;have ei:i=h1.length:=by lia
     subst ei;exact .inr ⟨x,by rw[<-hl];simp,C,dx,[],hC,yM,.nil⟩
  have rloc:Rep κ (β1++[some x]) F.O (zk (zk H1 dx (.own x)) x (.ins C dx [])) (.loc h1.length) (.ref x):= .loc (by simp[hl]) fun a ha=>by rw[<-hl]at ha;simp at ha;rw[ha]
  rw[B1]
  refine⟨F.O,β1++[some x],.loc h1.length::xs,h1++[.ins c []],?_,rh,.cons rloc (hr.ext0 ex),?_⟩
  .refine Gj fun n=>?_
   rw[hf (.loc h1.length::xs) _ (by rw[Bb,hr.length];exact n)]at o1
   exact o1
  .cases q2:f (.loc h1.length::xs) (h1++[.ins c []]) with
   |no=>simp only[q2]at o1;exact o1
   |ex x' h2=>simp only[q2]at o1;exact fun β' H' e' r'=>o1 β' H' (ex.trans0 e') (r'.sub fun a ha=>.inr (.inr ha))
   |ok r h2=>
    match r,q2 with
    |.v .non,q2=>
     simp only[q2]at o1;intro β' v H' e' pf;obtain⟨rh',rn⟩:=pf;cases rn
     refine⟨rfl,o1 β' (.ref x) H' (ex.trans0 e') ⟨Rel.next (F:=F.to β1 h1) r1 (ex.trans0 e') rh',.loc ?_ fun a ha=>?_⟩⟩
     .show h1.length<β'.length;have:=e'.len;simp at this;lia
     .have:=e'.bet h1.length a (by simp[hl]) ha
      rw[<-hl]at this;simp at this;rw[this]
    |.m _,q2=>simp only[q2]at o1;exact o1.elim
    |.v (.bl _),q2=>simp only[q2]at o1;exact o1.elim
    |.v (.int _),q2=>simp only[q2]at o1;exact o1.elim
    |.v (.str _),q2=>simp only[q2]at o1;exact o1.elim
    |.v (.ty _),q2=>simp only[q2]at o1;exact o1.elim
    |.v (.tup _),q2=>simp only[q2]at o1;exact o1.elim
    |.v (.lst _),q2=>simp only[q2]at o1;exact o1.elim
    |.v (.scr _),q2=>simp only[q2]at o1;exact o1.elim
    |.v (.dK _),q2=>simp only[q2]at o1;exact o1.elim
    |.v (.dT _),q2=>simp only[q2]at o1;exact o1.elim
    |.v (.obj _ _),q2=>simp only[q2]at o1;exact o1.elim
    |.v (.cls _),q2=>simp only[q2]at o1;exact o1.elim
    |.v (.fn _ _),q2=>simp only[q2]at o1;exact o1.elim
    |.v (.loc _),q2=>simp only[q2]at o1;exact o1.elim
def Jn {C fI:Addr} {c x:Str} {es:List Expr} {f:F3} {t:A3} {k:Nat} {fd:FuncData} {ps:List Str} {n:Nat} (hC:κ.cl c=some C) (hf:zn f n) (M:Mk X.K C fI) (Fk:FnOk X.prog X.w X.K X.mg X.base (XT X.prog X.w) k fI fd ps (zm κ n f)) (hr:Room (k+1) X.A) (hg:Gl X x) (hm:X.mg x=some (.ref C)) (hb:Binds X.K fd ps []) (hx:qN (XT X.prog X.w) X E)
 (ha:PA X (e::es) (zN κ E t)) (hdb:(x==("__debug__" :Str))=false:=by decide) (he:SE X e es:=by rfl) (hpl:BA X pos es:=by rfl):
 PE X (.Call (.Name x np) (e::es) [] pos) (zh κ E (eNew c f t)):=yC (Ra M Fk hr hg hm hb .nil hx ha hdb he hpl) fun _ _ _ h=>T4 hC hf h
end
mutual
noncomputable def low (n:Nat):V3->Bool
 |.loc m=>decide (m<n)
 |.tup xs=>lows n xs
 |.lst xs=>lows n xs
 |.dK kvs=>lowK n kvs
 |.dT kvs=>lowT n kvs
 |.obj _ fs=>lowF n fs
 |.fn _ env=>lows n env
 |_=>true
noncomputable def lows (n:Nat):List V3->Bool
 | []=>true
 |x::r=>low n x && lows n r
noncomputable def lowK (n:Nat):List (zM×V3)->Bool
 | []=>true
 | (_,x)::r=>low n x && lowK n r
noncomputable def lowT (n:Nat):List (MK×V3)->Bool
 | []=>true
 | (_,x)::r=>low n x && lowT n r
noncomputable def lowF (n:Nat):List (Str×V3)->Bool
 | []=>true
 | (_,x)::r=>low n x && lowF n r
end
section
variable {X:Cx} {κ:Kx} {E:XK} {F F':Fr} {σ σ':L2.St} {H H1 H':Hp} {Q:VK} {p:Addr} {e a b c o:Expr} {pos apos np cpos:Pos} {i:Nat} {D:Ends} {β:AO} {O:Addr->Prop}
def yz {α:Type} (n:Nat) (kvs:List (α×V3)):Prop:=∀kv∈kvs,low n kv.2=true
theorem lowK_iff {n:Nat}:∀{kvs:List (zM×V3)},lowK n kvs=true↔yz n kvs
 | []=>by simp[lowK,yz]
 | (k,x)::r=>by simp[lowK,yz,Bi,lowK_iff (kvs:=r)]
theorem lowT_iff {n:Nat}:∀{kvs:List (MK×V3)},lowT n kvs=true↔yz n kvs
 | []=>by simp[lowT,yz]
 | (k,x)::r=>by simp[lowT,yz,Bi,lowT_iff (kvs:=r)]
theorem lowF_iff {n:Nat}:∀{kvs:List (Str×V3)},lowF n kvs=true↔yz n kvs
 | []=>by simp[lowF,yz]
 | (k,x)::r=>by simp[lowF,yz,Bi,lowF_iff (kvs:=r)]
mutual
theorem Rep.low:∀{x:V3} {v:V},Rep κ β O H x v->low β.length x=true
 |_,_,.non=>by simp[L3.low]
 |_,_,.bl _=>by simp[L3.low]
 |_,_,.int _=>by simp[L3.low]
 |_,_,.str _=>by simp[L3.low]
 |_,_,.ty _=>by simp[L3.low]
 |_,_,.tup _ _ _ r=>by simp only[L3.low];exact Reps.low r
 |_,_,.lst _ _ _ r=>by simp only[L3.low];exact Reps.low r
 |_,_,.scr _ _ _=>by simp[L3.low]
 |_,_,.scrK _=>by simp[L3.low]
 |_,_,.dK _ _ _ r=>by simp only[L3.low];exact lowK_iff.mpr (RepP.low r)
 |_,_,.dT _ _ _ r=>by simp only[L3.low];exact lowT_iff.mpr (RepP.low r)
 |_,_,.obj _ _ _ _ r=>by simp only[L3.low];exact lowF_iff.mpr (RepP.low r)
 |_,_,.cls _=>by simp[L3.low]
 |_,_,.loc h _=>by simp[L3.low,h]
theorem Reps.low:∀{x:List V3} {v:List V},Reps κ β O H x v->lows β.length x=true
 |_,_,.nil=>by simp[L3.lows]
 |_,_,.cons a r=>by simp only[L3.lows,Bi];exact⟨Rep.low a,Reps.low r⟩
theorem RepP.low:∀{α:Type} {x:List (α×V3)} {v:List (α×V)},RepP κ β O H x v->yz β.length x
 |_,_,_,.nil=>fun kv h=>by cases h
 |_,_,_,.cons a r=>fun kv h=>by
  rcases Ag.mp h with z|z
  .rw[z];exact Rep.low a
  .exact RepP.low r kv z
end
mutual
theorem Rep.cut {n:Nat}:∀{x:V3} {v:V},Rep κ β O H x v->low n x=true->Rep κ (β.take n) O H x v
 |_,_,.non,_=>.non
 |_,_,.bl b,_=>.bl b
 |_,_,.int i,_=>.int i
 |_,_,.str x,_=>.str x
 |_,_,.ty x,_=>.ty x
 |_,_,.tup h1 h2 h3 r,l=>.tup h1 (fun z=>h2 (Ct z)) h3 (Reps.cut r (by simpa only[L3.low] using l))
 |_,_,.lst h1 h2 h3 r,l=>.lst h1 (fun z=>h2 (Ct z)) h3 (Reps.cut r (by simpa only[L3.low] using l))
 |_,_,.scr h1 h2 h3,_=>.scr h1 (fun z=>h2 (Ct z)) h3
 |_,_,.scrK h,_=>.scrK h
 |_,_,.dK h1 h2 h3 r,l=>.dK h1 (fun z=>h2 (Ct z)) h3 (RepP.cut r (lowK_iff.mp (by simpa only[L3.low] using l)))
 |_,_,.dT h1 h2 h3 r,l=>.dT h1 (fun z=>h2 (Ct z)) h3 (RepP.cut r (lowT_iff.mp (by simpa only[L3.low] using l)))
 |_,_,.obj h0 h1 h2 h3 r,l=>.obj h0 h1 (fun z=>h2 (Ct z)) h3 (RepP.cut r (lowF_iff.mp (by simpa only[L3.low] using l)))
 |_,_,.cls h,_=>.cls h
 |_,_,.loc (n:=m) h1 h2,l=>by
  have hm:m<n:=by simpa[L3.low] using l
  exact .loc (by rw[Be];lia) fun a ha=>h2 a (by rw[Cq hm]at ha;exact ha)
theorem Reps.cut {n:Nat}:∀{x:List V3} {v:List V},Reps κ β O H x v->lows n x=true->Reps κ (β.take n) O H x v
 |_,_,.nil,_=>.nil
 |_,_,.cons a r,l=>by
  simp only[L3.lows,Bi]at l;exact .cons (Rep.cut a l.1) (Reps.cut r l.2)
theorem RepP.cut {n:Nat}:∀{α:Type} {x:List (α×V3)} {v:List (α×V)},RepP κ β O H x v->yz n x->RepP κ (β.take n) O H x v
 |_,_,_,.nil,_=>.nil
 |_,_,_,.cons a r,l=>.cons (Rep.cut a (l _ Ak)) (RepP.cut r fun kv h=>l kv (Ap _ h))
end
def lowC (n:Nat):C3->Prop
 |.lst xs=>lows n xs=true
 |.dK kvs=>yz n kvs
 |.dT kvs=>yz n kvs
 |.ins _ fs=>yz n fs
 |.dead=>True
theorem CellR.low {c:C3} {a:Addr} (r:CellR κ β O H c a):lowC β.length c:=by
 cases c with
 |lst xs=>obtain⟨_,_,r⟩:=r;exact r.low
 |dK xs=>obtain⟨_,_,r⟩:=r;exact r.low
 |dT xs=>obtain⟨_,_,r⟩:=r;exact r.low
 |ins c fs=>obtain⟨_,_,_,_,_,r⟩:=r;exact r.low
 |dead=>exact r.elim
theorem CellR.cut {c:C3} {a:Addr} {n:Nat} (r:CellR κ β O H c a) (l:lowC n c):CellR κ (β.take n) O H c a:=by
 cases c with
 |lst xs=>obtain⟨_,q,r⟩:=r;exact⟨_,q,r.cut l⟩
 |dK xs=>obtain⟨_,q,r⟩:=r;exact⟨_,q,r.cut l⟩
 |dT xs=>obtain⟨_,q,r⟩:=r;exact⟨_,q,r.cut l⟩
 |ins c fs=>obtain⟨_,_,_,k,q,r⟩:=r;exact⟨_,_,_,k,q,r.cut l⟩
 |dead=>exact r.elim
mutual
theorem Rep.addO {x:Addr} (hx:some x∈β):∀{v:V3} {w:V},Rep κ β O H v w->Rep κ β (fun a=>a=x\/O a) H v w
 |_,_,.non=>.non
 |_,_,.bl b=>.bl b
 |_,_,.int i=>.int i
 |_,_,.str x=>.str x
 |_,_,.ty x=>.ty x
 |_,_,.tup h1 h2 h3 r=>.tup h1 h2 (fun z=>z.elim (fun e=>h2 (by rw[e];exact hx)) h3) (Reps.addO hx r)
 |_,_,.lst h1 h2 h3 r=>.lst h1 h2 (fun z=>z.elim (fun e=>h2 (by rw[e];exact hx)) h3) (Reps.addO hx r)
 |_,_,.scr h1 h2 h3=>.scr h1 h2 (fun z=>z.elim (fun e=>h2 (by rw[e];exact hx)) h3)
 |_,_,.scrK h=>.scrK h
 |_,_,.dK h1 h2 h3 r=>.dK h1 h2 (fun z=>z.elim (fun e=>h2 (by rw[e];exact hx)) h3) (RepP.addO hx r)
 |_,_,.dT h1 h2 h3 r=>.dT h1 h2 (fun z=>z.elim (fun e=>h2 (by rw[e];exact hx)) h3) (RepP.addO hx r)
 |_,_,.obj h0 h1 h2 h3 r=>.obj h0 h1 h2 (fun z=>z.elim (fun e=>h2 (by rw[e];exact hx)) h3) (RepP.addO hx r)
 |_,_,.cls h=>.cls h
 |_,_,.loc h1 h2=>.loc h1 h2
theorem Reps.addO {x:Addr} (hx:some x∈β):∀{v:List V3} {w:List V},Reps κ β O H v w->Reps κ β (fun a=>a=x\/O a) H v w
 |_,_,.nil=>.nil
 |_,_,.cons a r=>.cons (Rep.addO hx a) (Reps.addO hx r)
theorem RepP.addO {x:Addr} (hx:some x∈β):∀{α:Type} {v:List (α×V3)} {w:List (α×V)},RepP κ β O H v w->RepP κ β (fun a=>a=x\/O a) H v w
 |_,_,_,.nil=>.nil
 |_,_,_,.cons a r=>.cons (Rep.addO hx a) (RepP.addO hx r)
end
theorem CellR.addO {c:C3} {a x:Addr} (hx:some x∈β) (r:CellR κ β O H c a):CellR κ β (fun a=>a=x\/O a) H c a:=by
 cases c with
 |lst xs=>obtain⟨_,q,r⟩:=r;exact⟨_,q,r.addO hx⟩
 |dK xs=>obtain⟨_,q,r⟩:=r;exact⟨_,q,r.addO hx⟩
 |dT xs=>obtain⟨_,q,r⟩:=r;exact⟨_,q,r.addO hx⟩
 |ins c fs=>obtain⟨_,_,_,k,q,r⟩:=r;exact⟨_,_,_,k,q,r.addO hx⟩
 |dead=>exact r.elim
open Classical in
def eObj (e:E3):E3:=fun s h=>(e s h).bind fun r h1=>match r with
 |.v (.loc n)=>match h1[n]? with
  |some (.ins c fs)=>if n=h.length/\h1=h++[.ins c fs]/\lowF n fs=true then .ok (.m (.ins c fs)) h else .no
  |_=>.no
 |_=>.no
def T5 {β1:AO} {h1:H3} {n:Nat} {c:Str} {fs:List (Str×V3)} {v:V} (rel:Rel κ F σ H) (e1:Ext No F.β H β1 H1) (r1:Rel κ (F.to β1 h1) σ H1) (rl:Rep κ β1 F.O H1 (.loc n) v) (en:n=F.h.length) (eh:h1=F.h++[.ins c fs]) (hlow:lowF n fs=true):
  Ext No F.β H (β1.take n) H1/\Post κ (Nw H) (F.to (β1.take n) F.h) σ H1 (.m (.ins c fs)) v:=by
 have hl1:β1.length=h1.length:=r1.heap.len;have hl0:F.β.length=F.h.length:=rel.heap.len;have hlen:β1.length=n+1:=by rw[hl1,eh];simp[en]
 have hn:h1[n]? =some (.ins c fs):=by rw[eh,en];simp
 rcases r1.heap.cell n _ hn with w|⟨x,hx,C,dx,gs,k1,k2,k3⟩
 .cases w
 have hx:β1[n]? =some (some x):=hx;have ev:v=.ref x:=by cases rl with|loc _ l2=>exact l2 x hx
 subst ev;have hxb:some x∈β1:=Al hx;have hxn:some x∉β1.take n:=fun z=>by
  obtain⟨j,hj⟩:=B6 z;have hj2:j<n:=by have:=(An.mp hj).1;rw[Be]at this;lia
  rw[Cq hj2]at hj;have:=r1.heap.inj j n x hj hx;lia
 have hxH:H x=none:=e1.nwb n x (by lia) hx
 have ex:Ext No F.β H (β1.take n) H1:=⟨fun a u ha hb m=>by
   obtain⟨q1,q2⟩:=e1.keep a u ha hb m;exact⟨q1,fun z=>q2 (Ct z)⟩,by rw[Be];lia,fun i a hi h=>by
   rw[Cq (by lia)]at h;exact e1.bet i a hi h,e1.there,fun i a hi h=>by
   have:=(An.mp h).1;rw[Be]at this;lia⟩
 have rh:RelH κ (fun a=>a=x\/F.O a) (β1.take n) F.h H1:=by
  refine⟨by rw[Be];lia,fun i j a h1' h2'=>?_,fun a ha z=>?_,fun a ha=>?_,fun i a q=>?_,fun i c' hc=>?_⟩
  .have hi:i<n:=by have:=(An.mp h1').1;rw[Be]at this;lia
   have hj:j<n:=by have:=(An.mp h2').1;rw[Be]at this;lia
   rw[Cq hi]at h1';rw[Cq hj]at h2';exact r1.heap.inj i j a h1' h2'
  .rcases ha with ha|ha
   .subst ha;exact hxn z
   .exact r1.heap.off a ha (Ct z)
  .rcases ha with ha|ha
   .subst ha;exact⟨_,k2,by intro _ z;cases z⟩
   .exact r1.heap.trk a ha
  .have hi:i<n:=by have:=(An.mp q).1;rw[Be]at this;lia
   rw[Cq hi]at q;exact r1.heap.btr i a q
  .have hi:i<n:=by rw[en];exact (An.mp hc).1
   have hc1:h1[i]? =some c':=by rw[eh,Bc (by lia)];exact hc
   have hlw:c'=.dead\/lowC n c':=(rel.heap.cell i c' hc).imp id fun ⟨a,_,q⟩=>by have:=q.low;rw[hl0,<-en]at this;exact this
   rcases hlw with z|hlw
   .exact .inl z
   .exact (r1.heap.cell i c' hc1).imp id fun ⟨a,ha,q⟩=>⟨a,by rw[Cq hi];exact ha,(CellR.addO hxb q).cut hlw⟩
 refine⟨ex,x,rfl,rel.nextNew ex rh hxH,⟨C,dx,gs,k1,k2,((RepP.addO hxb k3).cut (lowF_iff.mp hlow)).sub fun a ha=>?_⟩,hxH⟩
 rcases ha with z|z
 .rcases Ag.mp z with z|z
  .exact .inl z
  .exact .inr (.inl z)
 .exact .inr (.inr z)
def T6 {d:E3} (h:PE X e (zh κ E d)):PE X e (zh κ E (eObj d)):=yC h fun σ H Q ⟨F,rel,o⟩=>by
 refine⟨F,rel,?_⟩
 unfold eObj at o;cases q:d F.s F.h with
 |no=>rw[q]at o;exact o
 |ex x h1=>rw[q]at o;exact o
 |ok r h1=>
  rw[q]at o;intro β1 v H1 e1 p1;simp only[Res.bind]at o
  split at o
  .split at o
   .split at o
    .rename_i hc
     obtain⟨en,eh,hlow⟩:=hc;obtain⟨ex,ps⟩:=T5 rel e1 p1.1 p1.2 en eh hlow;exact o _ v H1 ex ps
    .exact o.elim
   .exact o.elim
  .exact o.elim
def iS (p:P3):I3:=fun s h=>(p s h).bind fun f h1=>match f with
 |.x (.str z)=>.ok ⟨[],z.cps.toList.map fun c=>.str ⟨#[c]⟩,fun _=>True⟩ h1
 |_=>.no
def T7 {tg l:Expr} {d:P3} (hl:PE X l (zi κ E d)):PI X tg l (yp κ E (iS d)):=PIw (S4 hl) fun σ H R ⟨F,rel,o⟩=>
 (z9 (K:=kP κ) km_I rel o).mono fun v H1 ⟨β1,h1,f,e1,⟨r1,rf⟩,o1⟩=>by
  match f,rf,o1 with
  |.x (.str z),rf,o1=>
   cases (show Rep κ β1 F.O H1 (.str z) v from rf)
   refine⟨z,rfl,o1 β1 _ H1 Ext.refl ⟨r1,[],.nil,fun F' σ' H' rel' _ _ i=>?_⟩⟩
   have el:(z.cps.toList.map fun c=>V3.str ⟨#[c]⟩).length=z.length:=by simp[Str.length]
   refine⟨fun hi=>⟨show i<z.length by rw[el]at hi;exact hi,fun x H'' ⟨e1,c,hc,e2⟩=>?_⟩,fun hi=>show z.length<=i by rw[el]at hi;exact hi⟩
   subst e1;subst e2
   refine⟨.str ⟨#[c]⟩,?_,Ext.refl,rel',.str _⟩
   rw[Az,Bo,hc];rfl
noncomputable def oInS (neg:Bool):F2:=fun _ _ x y=>match x,y with
 |.x (.str i),.x (.str j)=>some (.v (.bl (if neg then !(!(Builtin.Str.occurrences j i 0 j.length 1).isEmpty) else !(Builtin.Str.occurrences j i 0 j.length 1).isEmpty)))
 |_,_=>none
def Na:OpSim κ (fun x y H Q=> ∃i j,x=.str i/\y=.str j/\Q (.bl (!(Builtin.Str.occurrences j i 0 j.length 1).isEmpty)) H) (oInS false):=fun F σ H x y z v w Q rel rx ry e k=>by
 unfold oInS at e
 split at e
 .rename_i i j
  cases e;cases (show Rep κ F.β F.O H (.str i) v from rx)
  cases (show Rep κ F.β F.O H (.str j) w from ry)
  exact⟨i,j,rfl,rfl,k _ H Ext.refl ⟨rel,.bl _⟩⟩
 .cases e
def inO (neg:Bool) (s:S3) (h:H3) (x y:Rf):Option Bool:=match x with
 |.x a=>match (match y with | .x (.tup xs)=>some xs|f=>rdl s h f) with
  |some xs=>(zu (fun b=>zJ h 8 b a) xs).map fun bs=>if neg then !bs.any id else bs.any id
  |none=>none
 |_=>none
end
section
variable {X:Cx} {κ:Kx} {E:XK} {F F':Fr} {σ σ':L2.St} {H H1 H':Hp} {Q:VK} {p:Addr} {e a b c o:Expr} {es:List Expr} {pos apos np cpos:Pos} {i:Nat} {D:Ends}
def qu {A:Around} {k:Nat} (hr:Room k A):A.units+9<cLine:=by have:=hr.units;lia
def Flds.cons {cs:List Str} {c f:Str} {C:Addr} (hC:κ.cl c=some C) (cl:Cls X.K C) (na:NoAttr X.K C f) (r:Flds X κ cs f):Flds X κ (c::cs) f:=fun c' hc C' hC'=>by
 rcases Ag.mp hc with z|z
 .subst z;rw[hC]at hC';cases hC';exact⟨cl,na⟩
 .exact r c' z C' hC'
def qw:∀xs s s',gsNil xs s=some s'->xs.length=0:=fun xs s s' e=>by
 cases xs with
 |nil=>rfl
 |cons _ _=>cases e
def zW {g:G3} {gs:Gs3} {n:Nat} (h:∀xs s s',gs xs s=some s'->xs.length=n):∀xs s s',gsCons g gs xs s=some s'->xs.length=n+1:=fun xs s s' e=>by
 cases xs with
 |nil=>cases e
 |cons x r=>
  simp only[gsCons]at e;cases q:g x s with
  |none=>rw[q]at e;cases e
  |some s1=>rw[q]at e;rw[Bb,h r s1 s' e]
def sAug (i:Nat) (f:F2) (p:P3):D3:=fun s h=>match s[i]? with
 |some (some (.v x))=>(p s h).bindS fun y h1=>match f s h1 (.x x) y with
  |some (.v z)=>.nx (s.set i (some (.v z))) h1
  |_=>.no
 |_=>.no
def Jo:OpSim κ (ipI fun i j=>i+j) AE:=sim_addI
def Jp:OpSim κ (ipI fun i j=>i-j) yg:=BB
def Nb {x:Str} {op:Operator} {ti:TIp} {f:F2} {d:P3} {pos':Pos} (hs:OpSim κ ti f) (hh:∀{te:TE},PE X e te->PS X (.AugAssign (.Name x pos') op e pos) (tAug i te ti)) (he:PE X e (zi κ E d)):PS X (.AugAssign (.Name x pos') op e pos) (zo κ E (sAug i f d)):=qg (hh he) fun D σ H ⟨F,rel,ht,o⟩=>by
 unfold sAug at o;cases q:F.s[i]? with
 |none=>rw[q]at o;exact o.elim
 |some z=>
  rw[q]at o
  match z,q,o with
  |none,q,o=>exact o.elim
  |some (.m _),q,o=>exact o.elim
  |some (.v x3),q,o=>
   obtain⟨v,h1,h2⟩:=rel.slot i _ q
   refine⟨v,h1,(bindS (K:=kP κ) rel ht o).mono fun w H1 ⟨β1,h1',y,e1,⟨r1,ry⟩,o1⟩=>?_⟩
   have hi':i<F.s.length:=(An.mp q).1;cases q2:f F.s h1' (.x x3) y with
   |none=>simp only[q2]at o1;exact o1.elim
   |some z=>
    refine hs (F.to β1 h1') σ H1 (.x x3) y z v w _ r1 (show Rep κ β1 F.O H1 x3 v from Rep.ext0 e1 h2) ry q2 fun u H2 e2 p2=>?_
    match z,q2,p2,o1 with
    |.m _,q2,p2,o1=>simp only[q2]at o1;exact o1.elim
    |.v z,q2,p2,o1=>
     simp only[q2]at o1;have s1:SExt F H (F.to β1 h1') H1:=SExt.of0 ht e1;have s2:SExt (F.to β1 h1') H1 (F.to β1 h1') H2:=SExt.of0 (F:=F.to β1 h1') (h':=h1') ht e2;exact o1 ((F.to β1 h1').setV i z) _ H2 ((s1.trans s2).trans (SExt.setN ht)) rfl rfl (p2.1.setV p2.2 hi')
def yT (e:E3):E3:=fun s h=>(e s h).bind fun r h1=>match r with
 |.m c=>.ok (.v (.loc h1.length)) (h1++[c])
 |.v x=>.ok (.v x) h1
mutual
theorem Rep.grow {β:AO} {O O':Addr->Prop} {x:Addr} (hx:O x) (hs:∀a,O' a->O a):∀{v:V3} {w:V},Rep κ β O H v w->Rep κ (β++[some x]) O' H v w
 |_,_,.non=>.non
 |_,_,.bl b=>.bl b
 |_,_,.int i=>.int i
 |_,_,.str x=>.str x
 |_,_,.ty x=>.ty x
 |_,_,.tup h1 h2 h3 r=>.tup h1 (fun z=>(As.mp z).elim h2 fun z=>h3 (by have:=Ao.mp z;cases this;exact hx)) (fun z=>h3 (hs _ z)) (Reps.grow hx hs r)
 |_,_,.lst h1 h2 h3 r=>.lst h1 (fun z=>(As.mp z).elim h2 fun z=>h3 (by have:=Ao.mp z;cases this;exact hx)) (fun z=>h3 (hs _ z)) (Reps.grow hx hs r)
 |_,_,.scr h1 h2 h3=>.scr h1 (fun z=>(As.mp z).elim h2 fun z=>h3 (by have:=Ao.mp z;cases this;exact hx)) (fun z=>h3 (hs _ z))
 |_,_,.scrK h=>.scrK h
 |_,_,.dK h1 h2 h3 r=>.dK h1 (fun z=>(As.mp z).elim h2 fun z=>h3 (by have:=Ao.mp z;cases this;exact hx)) (fun z=>h3 (hs _ z)) (RepP.grow hx hs r)
 |_,_,.dT h1 h2 h3 r=>.dT h1 (fun z=>(As.mp z).elim h2 fun z=>h3 (by have:=Ao.mp z;cases this;exact hx)) (fun z=>h3 (hs _ z)) (RepP.grow hx hs r)
 |_,_,.obj h0 h1 h2 h3 r=>.obj h0 h1 (fun z=>(As.mp z).elim h2 fun z=>h3 (by have:=Ao.mp z;cases this;exact hx)) (fun z=>h3 (hs _ z)) (RepP.grow hx hs r)
 |_,_,.cls h=>.cls h
 |_,_,.loc h1 h2=>.loc (by rw[Ar];lia) fun a ha=>h2 a (by rw[Bc h1]at ha;exact ha)
theorem Reps.grow {β:AO} {O O':Addr->Prop} {x:Addr} (hx:O x) (hs:∀a,O' a->O a):∀{v:List V3} {w:List V},Reps κ β O H v w->Reps κ (β++[some x]) O' H v w
 |_,_,.nil=>.nil
 |_,_,.cons a r=>.cons (Rep.grow hx hs a) (Reps.grow hx hs r)
theorem RepP.grow {β:AO} {O O':Addr->Prop} {x:Addr} (hx:O x) (hs:∀a,O' a->O a):∀{α:Type} {v:List (α×V3)} {w:List (α×V)},RepP κ β O H v w->RepP κ (β++[some x]) O' H v w
 |_,_,_,.nil=>.nil
 |_,_,_,.cons a r=>.cons (Rep.grow hx hs a) (RepP.grow hx hs r)
end
theorem CellR.grow {β:AO} {O O':Addr->Prop} {x:Addr} (hx:O x) (hs:∀a,O' a->O a) {c:C3} {a:Addr} (r:CellR κ β O H c a):CellR κ (β++[some x]) O' H c a:=by
 cases c with
 |lst xs=>obtain⟨_,q,r⟩:=r;exact⟨_,q,r.grow hx hs⟩
 |dK xs=>obtain⟨_,q,r⟩:=r;exact⟨_,q,r.grow hx hs⟩
 |dT xs=>obtain⟨_,q,r⟩:=r;exact⟨_,q,r.grow hx hs⟩
 |ins c fs=>obtain⟨_,_,_,k,q,r⟩:=r;exact⟨_,_,_,k,q,r.grow hx hs⟩
 |dead=>exact r.elim
theorem Rel.cell {c:C3} {x:Addr} (r1:Rel κ (F.with x) σ H) (hc:CellR κ F.β (F.with x).O H c x):Rel κ (F.to (F.β++[some x]) (F.h++[c])) σ H/\Rep κ (F.β++[some x]) F.O H (.loc F.h.length) (.ref x):=by
 have hl:F.β.length=F.h.length:=r1.heap.len;have nx:some x∉F.β:=r1.offp;have nO: ¬F.O x:=r1.apart;have hxO:(F.with x).O x:= .inl Ak
 have hs:∀a,F.O a->(F.with x).O a:=fun a ha=>Fr.O_with ha
 have rd:=r1.drop;have last:∀{i:Nat} {a:Addr},F.β.length<=i->(F.β++[some x])[i]? =some (some a)->a=x/\i=F.β.length:=fun {i a} hi h=>by
  have h0:=(An.mp h).1;rw[Bl hi]at h;have:=Al h;simp at this;simp at h0;exact⟨this,by lia⟩
 refine⟨⟨⟨?_,fun i j a h1 h2=>?_,fun a ha z=>?_,rd.heap.trk,fun i a q=>?_,fun i c' hc'=>?_⟩,rd.slen,rd.llen,rd.linj,rd.lt,rd.lo,rd.to,rd.tn,fun i y hy=>?_⟩,?_⟩
 .show (F.β++[some x]).length=(F.h++[c]).length;simp[hl]
 .have h1:(F.β++[some x])[i]? =some (some a):=h1
  have h2:(F.β++[some x])[j]? =some (some a):=h2
  rcases De i F.β.length with hi|hi<;>rcases De j F.β.length with hj|hj
  .rw[Bc hi]at h1;rw[Bc hj]at h2;exact r1.heap.inj i j a h1 h2
  .obtain⟨rfl,_⟩:=last hj h2;rw[Bc hi]at h1;exact absurd (Al h1) nx
  .obtain⟨rfl,_⟩:=last hi h1;rw[Bc hj]at h2;exact absurd (Al h2) nx
  .have a1:=(last hi h1).2;have a2:=(last hj h2).2;lia
 .have z:some a∈F.β++[some x]:=z
  rcases As.mp z with z|z
  .exact rd.heap.off a ha z
  .have:=Ao.mp z;cases this;exact nO ha
 .have q:(F.β++[some x])[i]? =some (some a):=q
  rcases De i F.β.length with hi|hi
  .rw[Bc hi]at q;exact r1.heap.btr i a q
  .rw[(last hi q).1];exact r1.heap.trk x hxO
 .have hc':(F.h++[c])[i]? =some c':=hc'
  rcases De i F.h.length with hi|hi
  .rw[Bc hi]at hc'
   refine (r1.heap.cell i c' hc').imp id fun ⟨a,ha,q⟩=>⟨a,?_,q.grow hxO hs⟩
   show (F.β++[some x])[i]? =_;rw[Bc (by lia)];exact ha
  .rw[Bl hi]at hc'
   have h0:=(An.mp hc').1;simp at h0;rw[h0]at hc';cases hc';have ei:i=F.h.length:=by lia
   subst ei
   refine .inr ⟨x,?_,hc.grow hxO hs⟩
   show (F.β++[some x])[F.h.length]? =_;rw[<-hl];simp
 .obtain⟨v,h1,h2⟩:=r1.slot i y hy
  refine⟨v,h1,?_⟩
  cases y with
  |v y=>exact Rep.grow hxO hs h2
  |m c=>obtain⟨a,a1,a2,a3⟩:=h2;exact⟨a,a1,a2,a3.grow hxO hs⟩
 .refine .loc (by simp[hl]) fun a ha=>?_
  rw[<-hl]at ha;simp at ha;rw[ha]
def Nc {d:E3} {σ:L2.St} {H:Hp} {Q:VK} (h:zh κ E (yT d) σ H Q):zh κ E d σ H Q:=by
 obtain⟨F,rel,o⟩:=h
 refine⟨F,rel,?_⟩
 unfold yT at o;cases q:d F.s F.h with
 |no=>rw[q]at o;exact o
 |ex x h1=>rw[q]at o;exact o
 |ok r h1=>
  rw[q]at o;intro β1 v H1 e1 p1;cases r with
  |v x=>exact o β1 v H1 e1 p1
  |m c=>
   obtain⟨x,rfl,r1,hc,hn⟩:=p1;obtain⟨r2,rl⟩:=Rel.cell (F:=F.to β1 h1) r1 hc;have nx:some x∉β1:=r1.offp
   refine o (β1++[some x]) (.ref x) H1 ⟨fun a u ha hb m=>?_,by rw[Ar];have:=e1.len;lia,fun i a hi hh=>?_,e1.there,fun i a hi hh=>?_⟩ ⟨r2,rl⟩
   .obtain⟨q1,q2⟩:=e1.keep a u ha hb m
    refine⟨q1,fun z=>?_⟩
    rcases As.mp z with z|z
    .exact q2 z
    .have:=Ao.mp z;cases this
     rw[hn]at ha;cases ha
   .rw[Bc (by have:=e1.len;lia)]at hh
    exact e1.bet i a hi hh
   .rcases De i β1.length with h2|h2
    .rw[Bc h2]at hh;exact e1.nwb i a hi hh
    .rw[Bl h2]at hh
     have:a=x:=by have:=Al hh;simp at this;exact this
     rw[this];exact hn
def r_gl {d:E3} (h:PE X e (zh κ E d)):PE X e (zh κ E (yT d)):=yC h fun _ _ _=>Nc
def qA (neg:Bool):F2:=fun s h x y=>(inO neg s h x y).map fun b=>.v (.bl b)
def rInT (κ:Kx) (neg:Bool):R2:=fun v w H Q=> ∃F σ x y b,Rel κ F σ H/\RfR κ F H x v/\RfR κ F H y w/\inO neg F.s F.h x y=some b/\Q (.bl b) H
def Nd {neg:Bool}:OpSim κ (rInT κ neg) (qA neg):=fun F σ H x y z v w Q rel rx ry e k=>by
 unfold qA at e;cases q:inO neg F.s F.h x y with
 |none=>rw[q]at e;cases e
 |some b=>rw[q]at e;cases e;exact⟨F,σ,x,y,b,rel,rx,ry,q,k _ H Ext.refl ⟨rel,.bl _⟩⟩
def T8:OpSim κ (rInT κ false) (qA false):=Nd
def Nf:OpSim κ (rInT κ true) (qA true):=Nd
def Ng {h:H3} {n:Nat} (rel:RelH κ F.O F.β h H) (hh:F.h=h) (ih:∀{x x' z:V3} {v:V} {b b':Bool},Rep κ F.β F.O H x v->Rep κ F.β F.O H x' v->zJ h n x z=some b->zJ h n x' z=some b'->b=b'):
  ∀{xs xs' zs:List V3} {vs:List V} {b b':Bool},Reps κ F.β F.O H xs vs->Reps κ F.β F.O H xs' vs->yD (zJ h n) xs zs=some b->yD (zJ h n) xs' zs=some b'->b=b':=by
 intro xs
 induction xs with
 |nil=>intro xs' zs vs b b' r1 r2 e1 e2;cases r1;cases r2;rw[e1]at e2;cases e2;rfl
 |cons x xs ihx=>
  intro xs' zs vs b b' r1 r2 e1 e2;cases r1 with
  |cons a1 t1=>
   cases r2 with
   | @cons x' _ xs' _ a2 t2=>
    cases zs with
    |nil=>unfold yD at e1 e2;cases e1;cases e2;rfl
    |cons z zs=>
     unfold yD at e1 e2;cases q1:zJ h n x z with
     |none=>simp only[q1]at e1;cases e1
     |some c1=>
      cases q2:yD (zJ h n) xs zs with
      |none=>simp only[q1,q2]at e1;cases e1
      |some c2=>
       cases q3:zJ h n x' z with
       |none=>simp only[q3]at e2;cases e2
       |some c3=>
        cases q4:yD (zJ h n) xs' zs with
        |none=>simp only[q3,q4]at e2;cases e2
        |some c4=>
         simp only[q1,q2]at e1;simp only[q3,q4]at e2;cases e1;cases e2;rw[ih a1 a2 q1 q3,ihx t1 t2 q2 q4]
theorem Jq (rel:RelH κ F.O F.β F.h H):∀(n:Nat) {x x' z:V3} {v:V} {b b':Bool},Rep κ F.β F.O H x v->Rep κ F.β F.O H x' v->zJ F.h n x z=some b->zJ F.h n x' z=some b'->b=b'
 |0,x,x',z,v,b,b',rx,rx',e,e'=>by
  have kx:=qZ rel rx;have kx':=qZ rel rx';unfold zJ at e e';cases h1:yn F.h x<;>cases h2:yn F.h x'<;>cases h3:yn F.h z<;>simp only[h1,h2,h3]at e e' kx kx'<;>first|(cases e;done)|(cases e';done)|skip
  rw[kx.1]at kx';rw[kx'.1]at e;rw[e]at e';cases e';rfl
 |n+1,x,x',z,v,b,b',rx,rx',e,e'=>by
  have kx:=qZ rel rx;have kx':=qZ rel rx';unfold zJ at e e';have nof:∀{a0:V} {a:Addr},v=a0/\AY a0=true->v=.ref a->False:=fun h1 h2=>by rw[<-h1.1,h2]at h1;exact absurd h1.2 (by simp[AY])
  cases h1:yn F.h x<;>cases h2:yn F.h x'<;>simp only[h1,h2]at kx kx'
  case o.f=>cases h3:yn F.h z<;>simp only[h1,h3]at e<;>cases e
  case o.l=>cases h3:yn F.h z<;>simp only[h1,h3]at e<;>cases e
  case o.t=>cases h3:yn F.h z<;>simp only[h1,h3]at e<;>cases e
  case o.o=>cases h3:yn F.h z<;>simp only[h1,h3]at e<;>cases e
  case f.o=>cases h3:yn F.h z<;>simp only[h2,h3]at e'<;>cases e'
  case l.o=>cases h3:yn F.h z<;>simp only[h2,h3]at e'<;>cases e'
  case t.o=>cases h3:yn F.h z<;>simp only[h2,h3]at e'<;>cases e'
  case f.l=>obtain⟨a,_,ev,_⟩:=kx';exact (nof kx ev).elim
  case f.t=>obtain⟨a,_,ev,_⟩:=kx';exact (nof kx ev).elim
  case l.f=>obtain⟨a,_,ev,_⟩:=kx;exact (nof kx' ev).elim
  case t.f=>obtain⟨a,_,ev,_⟩:=kx;exact (nof kx' ev).elim
  case l.t=>obtain⟨a,_,ev,k1,_⟩:=kx;obtain⟨a',_,ev',k2,_⟩:=kx';rw[ev]at ev';cases ev';rw[k1]at k2;cases k2
  case t.l=>obtain⟨a,_,ev,k1,_⟩:=kx;obtain⟨a',_,ev',k2,_⟩:=kx';rw[ev]at ev';cases ev';rw[k1]at k2;cases k2
  case f.f a a'=>
   have:a=a':=by rw[<-kx.1,<-kx'.1]
   subst this;simp only[h1]at e;simp only[h2]at e';rw[e]at e';cases e';rfl
  case l.l xs xs'=>
   obtain⟨a,us,ev,k1,r1⟩:=kx;obtain⟨a',us',ev',k2,r2⟩:=kx';rw[ev]at ev';cases ev';rw[k1]at k2;cases k2;have hl:xs.length=xs'.length:=by rw[r1.length,r2.length]
   cases h3:yn F.h z<;>simp only[h1,h3]at e<;>simp only[h2,h3]at e'<;>first|(cases e;done)|(cases e;cases e';rfl)|skip
   case l zs=>
    by_cases hz:xs.length=zs.length
    .rw[Ab hz]at e;rw[Ab (by lia)]at e'
     exact Ng rel rfl (fun a b c d=>Jq rel n a b c d) r1 r2 e e'
    .rw[Ac hz]at e;rw[Ac (by lia)]at e';cases e;cases e';rfl
  case t.t xs xs'=>
   obtain⟨a,us,ev,k1,r1⟩:=kx;obtain⟨a',us',ev',k2,r2⟩:=kx';rw[ev]at ev';cases ev';rw[k1]at k2;cases k2;have hl:xs.length=xs'.length:=by rw[r1.length,r2.length]
   cases h3:yn F.h z<;>simp only[h1,h3]at e<;>simp only[h2,h3]at e'<;>first|(cases e;done)|(cases e;cases e';rfl)|skip
   case t zs=>
    cases q1:yD (zJ F.h n) xs zs with
    |none=>rw[q1]at e;cases e
    |some c1=>
     cases q2:yD (zJ F.h n) xs' zs with
     |none=>rw[q2]at e';cases e'
     |some c2=>
      rw[q1]at e;rw[q2]at e';cases e;cases e';rw[Ng rel rfl (fun a b c d=>Jq rel n a b c d) r1 r2 q1 q2,hl]
end
section
variable {X:Cx} {κ:Kx} {E:XK} {F F':Fr} {σ σ':L2.St} {H H1 H':Hp} {Q:VK} {p:Addr} {e a b c o:Expr} {es:List Expr} {pos apos np cpos:Pos} {i:Nat} {D:Ends}
theorem Nh {α β:Type} {f:α->Option β}:∀{l:List α} {m:List β},zu f l=some m->l.length=m.length/\∀(j:Nat) x,l[j]? =some x->∃y,m[j]? =some y/\f x=some y
 | [],_,e=>by cases e;exact⟨rfl,fun j x h=>by simp at h⟩
 |x::r,m,e=>by
  obtain⟨y,l',h1,h2,rfl⟩:=BU e;obtain⟨i1,i2⟩:=Nh h2
  refine⟨by simp[i1],fun j x' h=>?_⟩
  cases j with
  |zero=>simp at h;subst h;exact⟨y,rfl,h1⟩
  |succ j=>exact i2 j x' (by simpa using h)
open Classical in
def Ni {pins:AL} {s:Shared} {σ2:L2.St} {xs:List V3} {us:List V} {its:List Value} {bs:List Bool} {x3:V3} {v:V} {vv:Value} {A:Around} (I:Inv X pins σ2 H s) (rel:RelH κ F.O F.β F.h H) (rs:Reps κ F.β F.O H xs us) (rv:Vals us its) (rx:Rep κ F.β F.O H x3 v) (rvv:RelV v vv) (q:zu (fun b=>zJ F.h 8 b x3) xs=some bs) (hu:A.units+8<cLine):
  ∃e:Value->Bool,(∀y,y∈its.toArray->SeqAt.EqAt A s y vv (e y))/\its.toArray.any e=bs.any id:=by
 obtain⟨hl,hg⟩:=Nh q;have l1:=rs.length;have l2:=rv.length
 let e:Value->Bool:=fun y=>decide (∃(j:Nat) (z:V3),xs[j]? =some z/\its[j]? =some y/\zJ F.h 8 z x3=some true)
 have at':∀(j:Nat) (y:Value),its[j]? =some y->∃z u b,xs[j]? =some z/\us[j]? =some u/\RelV u y/\Rep κ F.β F.O H z u/\bs[j]? =some b/\zJ F.h 8 z x3=some b/\e y=b:=fun j y hy=>by
  have hj:j<its.length:=(An.mp hy).1;obtain⟨u,hu',ru⟩:=rs.get (zI (show j<xs.length by lia))
  obtain⟨y',hy',ry'⟩:=rv.get hu';rw[hy]at hy';cases hy';obtain⟨b,hb,eb⟩:=hg j _ (zI (show j<xs.length by lia))
  refine⟨_,u,b,zI (show j<xs.length by lia),hu',ry',ru,hb,eb,?_⟩
  cases b with
  |true=>exact B2 ⟨j,_,zI (show j<xs.length by lia),hy,eb⟩
  |false=>
   refine Bh fun ⟨j',z',h1,h2,h3⟩=>?_
   obtain⟨u',hu2,ru2⟩:=rs.get h1;obtain⟨y2,hy2,ry2⟩:=rv.get hu2;rw[h2]at hy2;cases hy2;have:=RelV.inj ry' ry2;subst this;have:=Jq rel 8 ru ru2 eb h3;cases this
 refine⟨e,fun y hy=>?_,?_⟩
 .obtain⟨j,hj⟩:=B6 (show y∈its by simpa using hy)
  obtain⟨z,u,b,h1,h2,h3,h4,h5,h6,h7⟩:=at' j y hj;rw[h7];exact (Je rel 8 I h4 rx h3 rvv h6 hu).2
 .rw[List.any_toArray,Fe,Dh,Dh]
  constructor
  .rintro⟨y,hy,ey⟩
   obtain⟨j,hj⟩:=B6 hy;obtain⟨z,u,b,h1,h2,h3,h4,h5,h6,h7⟩:=at' j y hj;rw[h7]at ey;subst ey;exact⟨true,Al h5,rfl⟩
  .rintro⟨b,hb,eb⟩
   have eb:b=true:=eb;subst eb;obtain⟨j,hj⟩:=B6 hb;have hj2:j<its.length:=by have:=(An.mp hj).1;lia
   obtain⟨z,u,b,h1,h2,h3,h4,h5,h6,h7⟩:=at' j _ (zI hj2);rw[hj]at h5;cases h5;exact⟨_,Db hj2,h7⟩
def Nj (neg:Bool) (hK:X.K=κ.K) (hu:X.A.units+9<cLine):OpR X (compareOp (if neg then .NotIn else .In)) (rInT κ neg):=by
 intro pins s σ H x y v u Q I rx ry h;obtain⟨F,σ',x3,y3,b,rel,r1,r2,e,q⟩:=h;unfold inO at e;cases x3 with
 |s i=>cases e
 |x a=>
  have r1:Rep κ F.β F.O H a x:=r1;simp only at e;have fin:∀{bs:List Bool},b=(if neg then !bs.any id else bs.any id)->EP X pins σ Q (.bool (if neg then !bs.any id else bs.any id)) s:=fun hb=>⟨.bl b,H,I,by rw[hb];rfl,q⟩
  have lists:∀xs,rdl F.s F.h y3=some xs->(zu (fun b=>zJ F.h 8 b a) xs).map (fun bs=>if neg then !bs.any id else bs.any id)=some b->wpAny (model X.prog X.w) X.A (compareOp (if neg then .NotIn else .In) v u) (EP X pins σ Q) X.xe s:=fun xs hx e=>by
   cases q2:zu (fun b=>zJ F.h 8 b a) xs with
   |none=>rw[q2]at e;cases e
   |some bs=>
    rw[q2]at e;obtain⟨l,us,rfl,sq,rs⟩:=jE rel r2 hx;cases ry;obtain⟨its,rv,pl,_⟩:=I.list (show SqL X.K H l us by rw[hK];exact sq)
    obtain⟨ee,h1,h2⟩:=Ni (A:=X.A.in1) I rel.heap rs rv r1 rx q2 (by show X.A.units+1+8<cLine;lia)
    cases neg with
    |false=>exact SeqAt.in_listAt ee pl.isList h1 (by rw[h2];exact fin (bs:=bs) (by cases e;rfl))
    |true=>exact SeqAt.notIn_listAt ee pl.isList h1 (by rw[h2];exact fin (bs:=bs) (by cases e;rfl))
  split at e
  .rename_i xs hx
   split at hx
   .rename_i zs
    cases hx;cases q2:zu (fun b=>zJ F.h 8 b a) xs with
    |none=>rw[q2]at e;cases e
    |some bs=>
     rw[q2]at e;cases (show Rep κ F.β F.O H (.tup xs) y from r2) with
     | @tup _ us l t1 t2 t3 rs=>
      cases ry;obtain⟨its,rv,pl,_⟩:=I.tuple (SqT.of (K:=X.K) t1);obtain⟨ee,h1,h2⟩:=Ni (A:=X.A.in1) I rel.heap rs rv r1 rx q2 (by show X.A.units+1+8<cLine;lia)
      cases neg with
      |false=>exact SeqAt.in_tupleAt ee (show s.heap.IsTuple l its.toArray from pl) h1 (by rw[h2];exact fin (bs:=bs) (by cases e;rfl))
      |true=>exact SeqAt.notIn_tupleAt ee (show s.heap.IsTuple l its.toArray from pl) h1 (by rw[h2];exact fin (bs:=bs) (by cases e;rfl))
   .exact lists xs hx e
  .cases e
def T9 (hK:X.K=κ.K) (hu:X.A.units+9<cLine):OpR X (compareOp .In) (rInT κ false):=Nj false hK hu
def Nk (hK:X.K=κ.K) (hu:X.A.units+9<cLine):OpR X (compareOp .NotIn) (rInT κ true):=Nj true hK hu
end
section
variable {X:Cx} {κ:Kx} {E:XK} {F F':Fr} {σ σ':L2.St} {H H1 H':Hp} {Q:VK} {p:Addr} {e a b c o:Expr} {es:List Expr} {pos apos np cpos:Pos} {i:Nat} {D:Ends}
def str3:V3->Option Str
 |.str x=>some x
 |_=>none
theorem Nl:∀{xs:List V3} {ys:List V} {bs:List Str},Reps κ F.β F.O H xs ys->zu str3 xs=some bs->ys=bs.map V.str
 |_,_,_,.nil,e=>by cases e;rfl
 |x::xs,y::ys,bs,.cons a r,e=>by
  obtain⟨b,l,h1,h2,rfl⟩:=BU e;cases x<;>simp[str3]at h1
  subst h1;cases a;rw[Ah,Nl r h2]
theorem Nm:∀{l:List Str} {us:List Value},Vals (l.map V.str) us->CarriedAll us (l.map fun a=>PyData.str a)
 | [],_,r=>by cases r;exact .nil
 |x::l,_,r=>by
  rw[Ah]at r;cases r with
  |cons a t=>
   obtain⟨tk,rfl⟩:=a;exact .cons (.str _ _) (Nm t)
def TB (K:FG):V->List V->Hp->VK->Prop:=fun x xs H Q=> ∃z p l,x=.str z/\xs=[.ref p]/\SqL K H p (l.map V.str)/\l.length<=1048576/\(∀a∈l,a.length+z.length<=16)/\z.length<=16/\Q (.str (PySem.Txt.join z l)) H
def TC:MtR X "str.join" (TB X.K):=by
 intro pins s σ H x xs v us Q I rx rs h;obtain⟨z,p,l,rfl,rfl,hq,hl,hB,hz,q⟩:=h;obtain⟨t,rfl⟩:=rx;obtain⟨u,rfl,ru⟩:=AX rs;cases ru;obtain⟨its,rv,pl,_⟩:=I.list hq;have:=_root_.PySem.W.KT.join_B (prog:=X.prog) (w:=X.w) (A:=X.A) (E:=X.xe) (s:=s) (t:=t) (Q:=EP X pins σ Q) (x:=z) (l:=l) (g:=fun a=>a) (16-z.length) pl.isList (Nm rv) (fun a ha=>by have:=hB a ha;lia) hl (by lia) fun t' k=>⟨.str (PySem.Txt.join z l),H,I.tok k,⟨t',by simp⟩,q⟩
 exact this
def HD (p:P3) (a:A3):E3:=fun s h=>(p s h).bind fun f h1=>match f with
 |.x (.str z)=>(a s h1).bind fun fs h2=>match fs with
  | [g]=>match rdl s h2 g with
   |some xs=>match zu str3 xs with
    |some l=>if l.length<=1048576/\(∀a∈l,a.length+z.length<=16)/\z.length<=16 then .ok (.v (.str (PySem.Txt.join z l))) h2 else .no
    |none=>.no
   |none=>.no
  |_=>.no
 |_=>.no
def TF {dp:P3} {t:A3} (hK:X.K=κ.K) (ho:PE X o (zi κ E dp)) (ha:PA X [e] (zN κ E t)) (hbase:attributeBase o "join" X.env (eval o X.env)=eval o X.env:=by rfl)
  (hfew:((backTo cpos (starEach [e] X.env)).all (fun x=> !x.1) && (backToKw cpos (keywordEach [] X.env)).all (fun x=>x.1.isSome)
   && decide (([e]:List Expr).length+([]:List Keyword).length+(if ([]:List Keyword).isEmpty then 0 else 1)<30))=true:=by rfl)
  (hline:(apos.endLine==cpos.line)=true:=by rfl) (hs:starEach [e] X.env=(false,eval e X.env)::starEach [] X.env:=by rfl) (hplain:(backTo cpos (starEach [] X.env)).any (·.1)=false:=by rfl):
  PE X (.Call (.Attribute o "join" apos) [e] [] cpos) (zh κ E (HD dp t)):=yC (IL PySem.F.plainAttrs_str PySem.F.slot_str_join PySem.F.type_str_join TC ho ha hbase hfew hline hs hplain) fun σ H Q ⟨F,rel,o⟩=>
 (z9 (K:=kP κ) zR rel o).mono fun v H1 ⟨β1,h1,f,e1,⟨r1,rf⟩,o1⟩=>by
  match f,rf,o1 with
  |.x (.str z),rf,o1=>
   cases (show Rep κ β1 F.O H1 (.str z) v from rf)
   refine⟨rfl,(z9 (F:=F.to β1 h1) (K:=kA κ) zR r1 o1).mono fun vs H2 ⟨β2,h2,fs,e2,⟨r2,rfs⟩,o2⟩=>?_⟩
   match fs,rfs,o2 with
   | [g],rfs,o2=>
    obtain⟨w,rfl,rg⟩:=p1 rfs;cases q1:rdl F.s h2 g with
    |none=>simp only[q1]at o2;exact o2.elim
    |some xs=>
     simp only[q1]at o2;cases q2:zu str3 xs with
     |none=>simp only[q2]at o2;exact o2.elim
     |some l=>
      simp only[q2]at o2
      by_cases hc:l.length<=1048576/\(∀a∈l,a.length+z.length<=16)/\z.length<=16
      .rw[Ab hc]at o2
       obtain⟨a,ys,rfl,sq,rs⟩:=jE (F:=F.to β2 h2) r2 rg q1;exact⟨z,a,l,rfl,rfl,by rw[hK,<-Nl rs q2];exact sq,hc.1,hc.2.1,hc.2.2,o2 β2 _ H2 Ext.refl ⟨r2,.str _⟩⟩
      .rw[Ac hc]at o2;exact o2.elim
end
section
variable {X:Cx} {κ:Kx} {E:XK} {a b e o tg:Expr} {pos np apos:Pos} {i:Nat}
def za (i:Nat) {x:Str} {pos:Pos} (hN:X.N[i]? =some x:=by rfl) (hv:Vis X.env.scope x:=by first|exact Or.inl rfl|exact Or.inr (Or.inl rfl)|exact Or.inr (Or.inr rfl)) (hd:(x==("__debug__" :Str))=false:=by decide)
 (hcd:(x==("__classdict__" :Str))=false:=by decide):PE X (.Name x pos) (zi κ E (pV i)):=rp_v (pv i hN hv hd hcd)
def zg {i j pos}:PE X (.Constant (.int i) j pos) (zi κ E (kJ i)):=zb AZ
def CP {da db:P3} (ha:PE X a (zi κ E da)) (hb:PE X b (zi κ E db)) (hK:X.K=κ.K:=by rfl) (hm:GZ b:=by exact fun _ _=>rfl):PE X (.Subscript a b pos) (zh κ E (eOp zq da db)):=r_ix MJ (MI hK) hm ha hb
def zG {da db:P3} (ha:PE X a (zi κ E da)) (hb:PE X b (zi κ E db)) (hK:X.K=κ.K:=by rfl) (hm:GZ b:=by exact fun _ _=>rfl):PE X (.Subscript a b pos) (zi κ E (pE (eOp zq da db))):=zb (r_ix MJ (MI hK) hm ha hb)
def zL (i:Nat) {x:Str} {pos':Pos} {d:E3} (hN:X.N.Nodup) (he:PE X e (zh κ E d)) (hi:X.N[i]? =some x:=by rfl) (hx:jD X.env.scope x:=by exact Or.inl rfl) (hs:swapsWith e (some (.Name x pos')) pos.line X.env=pure false:=by rfl)
 (hf:X.fn x=true\/X.env.scope.names.lookup x=some .local:=by first|exact .inl rfl|exact .inr rfl|assumption):PS X (.Assign [.Name x pos'] e pos) (zo κ E (sSet i d)):=CJ hN hi hx he hs hf
def yb (i:Nat) {x:Str} {pos:Pos} (hN:X.N.Nodup) (hi:X.N[i]? =some x:=by rfl) (hx:jD X.env.scope x:=by exact Or.inl rfl) (hf:X.fn x=true\/X.env.scope.names.lookup x=some .local:=by first|exact .inl rfl|exact .inr rfl|assumption):PG X (.Name x pos) (yy κ (gN i)):=Ja (IB hN hi hx hf)
def zO {x:Str} {pos:Pos} (i:Nat) (N:List Str) (nd:N.Nodup:=by decide+kernel) (eN:X.N=N:=by rfl) (hi:N[i]? =some x:=by rfl) (hx:jD X.env.scope x:=by exact Or.inl rfl) (hl:X.env.scope.names.lookup x=some .local:=by rfl):PG X (.Name x pos) (yy κ (gN i)):=Ja (pgc i N nd eN hi hx hl)
def qf {iter:Expr} {body:List Stmt} {it:I3} {g:G3} {b:D3} (hi:PI X tg iter (yp κ E it)) (hg:PG X tg (yy κ g)) (hb:yS X body (zo κ E b)) (hp:PassesOwn (model X.prog X.w) X.A X.env X.xe:=by exact Eu) (hc:X.calm=true:=by rfl)
 (hs:∀x,foldedSetIterable iter X.env x=pure x:=by intro _;rfl):PS X (.For tg iter body [] pos) (zo κ E (zw it g b)):=SJ hp hc hi hg hb hs
def qj {l:Expr} {d:P3} (hl:PE X l (zi κ E d)) (hK:X.K=κ.K:=by rfl):PI X tg l (yp κ E (iL d)):=SN hK hl
def zx {N P:List Str} {sc:Scope} (k1:sc.kind=.function:=by rfl) (k2:sc.isCoroutine=false:=by rfl) (k3:sc.isGenerator=false:=by rfl) (k4:N.Nodup:=by decide+kernel) (k5:N.take P.length=P:=by rfl)
 (k6:∀x∈P,sc.names.lookup x=some .local\/sc.names.lookup x=some .cell:=by decide+kernel) (k7:∀y∈sc.names,y.2≠ .free:=by decide+kernel):FnScope N P sc:=⟨k1,k2,k3,k4,k5,k6,k7⟩
def TH {fl c:Str} {C:Addr} {d:P3} (cl:Cls X.K C) (na:NoAttr X.K C fl) (he:PE X e (zi κ E d)) (hC:κ.cl c=some C:=by rfl) (hb:attributeBase e fl X.env (eval e X.env)=eval e X.env:=by rfl):PE X (.Attribute e fl pos) (zh κ E (zf [c] fl d)):=MX (Flds.cons hC cl na Flds.nil) he hb
def ya {fl c:Str} {C:Addr} {d:P3} (cl:Cls X.K C) (na:NoAttr X.K C fl) (he:PE X e (zi κ E d)) (hC:κ.cl c=some C:=by rfl) (hb:attributeBase e fl X.env (eval e X.env)=eval e X.env:=by rfl):PE X (.Attribute e fl pos) (zi κ E (pE (zf [c] fl d))):=zb (MX (Flds.cons hC cl na Flds.nil) he hb)
def yf {x:Str} {st:Stmt} {es:List Expr} {f:F3} {t:A3} {k k0:Nat} {fa:Addr} {fd:FuncData} {ps:List Str} {n:Nat} (hf:zn f n) (Fk:FnOk X.prog X.w X.K X.mg X.base (XT X.prog X.w) k fa fd ps (zm κ n f)) (hr:Room k0 X.A) (d:Dfn X.K X.mg x st ps fa fd) (ha:PA X (e::es) (zN κ E t)) (hx:qN (XT X.prog X.w) X E:=by exact qO) (hk:k<=k0:=by decide) (hg:Gl X x:=by rfl)
 (hdb:(x==("__debug__" :Str))=false:=by decide) (he:SE X e es:=by rfl) (hpl:BA X pos es:=by rfl):
 PE X (.Call (.Name x np) (e::es) [] pos) (zh κ E (eCall f t)):=Hr hf Fk (hr.mono hk) hg d.g d.F.kp d.b hx ha hdb he hpl
def BX {C fa:Addr} {c m:Str} {es:List Expr} {f:F3} {dp:P3} {t:A3} {k k0:Nat} {fd:FuncData} {ps:List Str} {n:Nat} {pl:Sem Bool} (hf:zn f n) (he:PE X o (zi κ E dp)) (cl:Cls X.K C) (hm:Meth X.K C m fa) (Fk:FnOk X.prog X.w X.K X.mg X.base (XT X.prog X.w) k fa fd ps (zm κ n f)) (hr:Room k0 X.A) (hb:Binds X.K fd ps [])
 (ha:PA X (e::es) (zN κ E t)) (hx:qN (XT X.prog X.w) X E:=by exact qO) (hC:κ.cl c=some C:=by rfl) (hk:k<=k0:=by decide) (hst:SE X e es:=by rfl) (hpl:BA X pos es:=by rfl)
 (ht:eval (.Call (.Attribute o m apos) (e::es) [] pos) X.env=(do
  let ov <-eval o X.env
  standAt apos.atName
  let (f,first) <-holding [ov] (getMethod ov m pl)
  callWith pos f first (backTo pos (starEach (e::es) X.env)) (backToKw pos (keywordEach [] X.env))):=by rfl):
 PE X (.Call (.Attribute o m apos) (e::es) [] pos) (zh κ E (zS c m f dp t)):=MZ hC hf he cl hm Fk (hr.mono hk) hb hx ha hst hpl ht
def yJ {x:Str} {es:List Expr} {t:A3} {id:String} {r:List V->Hp->VK->Prop} {f:FB} (hs:qX κ r f) (hc:qc X (.builtin id) r) (hm:X.mg x=none) (hv:bootBuiltins x=some (.builtin id)) (ha:PA X (e::es) (zN κ E t)) (hg:Gl X x:=by rfl) (hn:x≠"__name__" :=by decide) (hdb:(x==("__debug__" :Str))=false:=by decide)
 (he:SE X e es:=by rfl) (hpl:BA X pos es:=by rfl):
 PE X (.Call (.Name x np) (e::es) [] pos) (zh κ E (eB f t)):=r_b hs hc hg hm hv ha hn hdb he hpl
end
def spL (K:FG):Sp:=fun vs H Q _=> ∃(a:Addr) (ns:List Int),vs=[.ref a]/\ns.length<=63/\SqL K H a (ns.map V.int)/\Only H/\∀H',Q (.bl true) H'
def spL_of {κ:Kx} {f:F3} (h:∀ns:List Int,ns.length<=63->∃h',f [.scr ns] []=.ok (.v (.bl true)) h') {vs:List V} {H:Hp} {Q:VK} {E:XK} (q:spL κ.K vs H Q E):zm κ 1 f vs H Q E:=by
 obtain⟨a,ns,rfl,hn,hS,hO,hQ⟩:=q;obtain⟨h',e⟩:=h ns hn
 refine⟨fun _=>False,[],[.scr ns],[],rfl,⟨rfl,fun i j a h=>by simp at h,fun a h=>h.elim,fun a h=>h.elim,fun i a h=>by simp at h,fun i c h=>by simp at h⟩,.cons ?_ .nil,?_⟩
 .rcases hS with hS|hS
  .rcases hS with hS|⟨o,hS⟩
   .rcases hO a with z|⟨o,xs,z⟩
    .rw[hS]at z;cases z
    .rw[hS]at z;cases z
   .exact .scr hS (by simp) fun z=>z
  .exact .scrK hS
 .rw[e]
  intro β' v H' ex p;obtain⟨_,r⟩:=p;cases r;exact hQ H'
def noX {P:Program} {w:World} {H:Hp} {s:Shared} {e:Value} {s':Shared} (h:XT P w [] H s (fun _ _ _=>False) e s'):False:=by
 obtain⟨_,_,_,_,_,_,_,_,_,_,_,_,_,_,_,q⟩:=h;exact q
end L3
namespace L3
open PySem L2
def qS {a b:D3} {s s1:S3} {h h1:H3} (e:a s h=.nx s1 h1):sSeq a b s h=b s1 h1:=by unfold sSeq;rw[e]
def TJ {ok:H3->Prop} {g:G3} {b:D3} {h:H3} {Q:O3->Prop} (I:Nat->S3->Prop) {xs:List V3} {s:S3} (hok:ok h) (h0:I 0 s)
  (step:∀(i:Nat) x s,xs[i]? =some x->I i s->∃s1,g x s=some s1/\((∃s2,(b s1 h=.nx s2 h\/b s1 h=.ct s2 h)/\I (i+1) s2)\/(∃r h2,b s1 h=.rt r h2/\Q (.rt r h2))\/∃s2,b s1 h=.bk s2 h/\Q (.nx s2 h)))
  (done:∀s,I xs.length s->Q (.nx s h)):Q (zP ok g b xs s h):=by
 have gen:∀(n i:Nat) (s:S3),n=xs.length-i->i<=xs.length->I i s->Q (zP ok g b (xs.drop i) s h):=by
  intro n
  induction n with
  |zero=>
   intro i s hn hi hI;have:i=xs.length:=by lia
   subst this;rw[C5];unfold zP;rw[Ab hok];exact done s hI
  |succ n ih=>
   intro i s hn hi hI;have hlt:i<xs.length:=by lia
   rw[Es hlt];unfold zP;rw[Ab hok];obtain⟨s1,hg,hs⟩:=step i xs[i] s (zI hlt) hI;simp only[hg]
   rcases hs with ⟨s2,hb,hI2⟩|⟨r,h2,hb,hq⟩|⟨s2,hb,hq⟩
   .rcases hb with hb|hb<;>simp only[hb]<;>exact ih (i+1) s2 (by lia) hlt hI2
   .simp only[hb];exact hq
   .simp only[hb];exact hq
 exact gen _ 0 s rfl (Bx _) h0
def Jr {ok:H3->Prop} {g:G3} {b:D3} {h:H3} (I:Nat->S3->Prop) {xs:List V3} {s:S3} (hok:ok h) (h0:I 0 s)
  (step:∀(i:Nat) x s,xs[i]? =some x->I i s->∃s1 s2,g x s=some s1/\b s1 h=.nx s2 h/\I (i+1) s2):∃s',zP ok g b xs s h=.nx s' h/\I xs.length s':=by
 refine TJ (Q:=fun o=> ∃s',o=.nx s' h/\I xs.length s') I hok h0 (fun i x s hx hI=>?_) fun s hI=>⟨s,rfl,hI⟩
 obtain⟨s1,s2,h1,h2,h3⟩:=step i x s hx hI;exact⟨s1,h1,.inl ⟨s2,.inl h2,h3⟩⟩
def Js {α:Type} {ok:H3->Prop} {g:G3} {e:E3} {h:H3} (I:S3->Prop) (enc:α->V3) (f:α->V3) (hok:ok h) {l:List α} (hl:l.length<=sizeLine)
  (step:∀a s,a∈l->I s->∃s1 r,g (enc a) s=some s1/\I s1/\e s1 h=.ok r h/\r.fz=some (f a)) {s:S3} (h0:I s):
  yV ok g tTru e (l.map enc) [] s h=.ok (l.map f) h:=by
 have gen:∀(l:List α) (acc:List V3) (s:S3),acc.length+l.length<=sizeLine->(∀a s,a∈l->I s->∃s1 r,g (enc a) s=some s1/\I s1/\e s1 h=.ok r h/\r.fz=some (f a))->I s->yV ok g tTru e (l.map enc) acc s h=.ok (acc++l.map f) h:=by
  intro l
  induction l with
  |nil=>intro acc s _ _ _;rw[Bj];unfold yV;rw[Ab hok];simp
  |cons x r ih=>
   intro acc s hl st hI;rw[Ah];unfold yV;rw[Ab hok];obtain⟨s1,v,h1,h2,h5,h6⟩:=st x s Ak hI;rw[Bb]at hl;simp only[h1,tTru,h5,h6,Ab (show acc.length<sizeLine by lia)]
   rw[ih (acc++[f x]) s1 (by rw[Ar,Ci];lia) (fun x s hx=>st x s (Ap _ hx)) h2]
   simp
 have:=gen l [] s (by simpa using hl) step h0
 simpa using this
def TK {α:Type} {ok:H3->Prop} {g:G3} {c:T3} {e:E3} {h:H3} (I:S3->Prop) (enc:α->V3) (p:α->Bool) (f:α->V3) (hok:ok h) {l:List α} (hl:l.length<=sizeLine)
  (step:∀a s,a∈l->I s->∃s1,g (enc a) s=some s1/\I s1/\c s1 h=.ok (p a) h/\(p a=true->∃r,e s1 h=.ok r h/\r.fz=some (f a))) {s:S3} (h0:I s):
  yV ok g c e (l.map enc) [] s h=.ok ((l.filter p).map f) h:=by
 have gen:∀(l:List α) (acc:List V3) (s:S3),acc.length+l.length<=sizeLine->(∀a s,a∈l->I s->∃s1,g (enc a) s=some s1/\I s1/\c s1 h=.ok (p a) h/\(p a=true->∃r,e s1 h=.ok r h/\r.fz=some (f a)))->I s->yV ok g c e (l.map enc) acc s h=.ok (acc++(l.filter p).map f) h:=by
  intro l
  induction l with
  |nil=>intro acc s _ _ _;rw[Bj];unfold yV;rw[Ab hok];simp
  |cons x r ih=>
   intro acc s hl st hI;rw[Ah];unfold yV;rw[Ab hok];obtain⟨s1,h1,h2,h3,h4⟩:=st x s Ak hI;rw[Bb]at hl;simp only[h1,h3];cases q:p x with
   |false=>
    simp only[List.filter_cons,q];exact ih acc s1 (by lia) (fun x s hx=>st x s (Ap _ hx)) h2
   |true=>
    obtain⟨v,h5,h6⟩:=h4 q;simp only[h5,h6,List.filter_cons,q,Ab (show acc.length<sizeLine by lia)]
    rw[ih (acc++[f x]) s1 (by rw[Ar,Ci];lia) (fun x s hx=>st x s (Ap _ hx)) h2]
    simp
 have:=gen l [] s (by simpa using hl) step h0
 simpa using this
def TL (l:List Int):zu int3 (l.map .int)=some l:=by
 have:=CM (f:=int3) (g:=V3.int) (k:=id) (fun _=>rfl) l
 simpa using this
def TM (l:List Bool):zu bl3 (l.map .bl)=some l:=by
 have:=CM (f:=bl3) (g:=V3.bl) (k:=id) (fun _=>rfl) l
 simpa using this
def TN (l:List Str):zu str3 (l.map .str)=some l:=by
 have:=CM (f:=str3) (g:=V3.str) (k:=id) (fun _=>rfl) l
 simpa using this
def at0 {α:Type} {x:α} {r:List α}:atI (x::r) (0:Int)=some x:=jk (j:=0) rfl
def at1 {α:Type} {x y:α} {r:List α}:atI (x::y::r) (1:Int)=some y:=jk (j:=1) rfl
def at2 {α:Type} {x y z:α} {r:List α}:atI (x::y::z::r) (2:Int)=some z:=jk (j:=2) rfl
def at3 {α:Type} {x y z u:α} {r:List α}:atI (x::y::z::u::r) (3:Int)=some u:=jk (j:=3) rfl
def at4 {α:Type} {x y z u v:α} {r:List α}:atI (x::y::z::u::v::r) (4:Int)=some v:=jk (j:=4) rfl
def atm1 {α:Type} {l:List α} {x:α}:atI (l++[x]) (-1:Int)=some x:=Rt l x
def jy {i j:Int} (h: -(2 ^ 64)<i/\i<2 ^ 64):CMul i j:= .inl h
def TQ {i j:Int} (h: -(2 ^ 64)<j/\j<2 ^ 64):CMul i j:= .inr h
def Nn {h:H3} {n:Nat} {x y:V3} {a b:V} (hx:yn h x=.f a) (hy:yn h y=.f b):zJ h n x y=some (eqV a b):=by
 cases n<;>simp only[zJ,hx,hy]
def eq3_int {h:H3} {n:Nat} {i j:Int}:zJ h n (.int i) (.int j)=some (decide (i=j)):=by
 rw[Nn (a:= .int i) (b:= .int j) rfl rfl];congr 1
def TR {h:H3} {n:Nat} {i j:Str}:zJ h n (.str i) (.str j)=some (decide (i=j)):=by
 rw[Nn (a:= .str i) (b:= .str j) rfl rfl];congr 1
def nx_ite {c:Prop} [Decidable c] {a b:S3} {h:H3}:(if c then O3.nx a h else O3.nx b h)=O3.nx (if c then a else b) h:=by split<;>rfl
def rt_ite {c:Prop} [Decidable c] {a b:Vl} {h:H3}:(if c then O3.rt a h else O3.rt b h)=O3.rt (if c then a else b) h:=by split<;>rfl
def ok_ite {α:Type} {c:Prop} [Decidable c] {a b:α} {h:H3}:(if c then Res.ok a h else Res.ok b h)=Res.ok (if c then a else b) h:=by split<;>rfl
def cons_ite {α:Type} {c:Prop} [Decidable c] {a b:α} {x y:List α}:(if c then a::x else b::y)=(if c then a else b)::(if c then x else y):=by split<;>rfl
def some_ite {α:Type} {c:Prop} [Decidable c] {a b:α}:(if c then some a else some b)=some (if c then a else b):=by split<;>rfl
def v_ite {c:Prop} [Decidable c] {a b:V3}:(if c then Vl.v a else Vl.v b)=Vl.v (if c then a else b):=by split<;>rfl
def int_ite {c:Prop} [Decidable c] {a b:Int}:(if c then V3.int a else V3.int b)=V3.int (if c then a else b):=by split<;>rfl
def bl_ite {c:Prop} [Decidable c] {a b:Bool}:(if c then V3.bl a else V3.bl b)=V3.bl (if c then a else b):=by split<;>rfl
def oEq_int {s:S3} {h:H3} {i j:Int}:y0 s h (.x (.int i)) (.x (.int j))=some (.v (.bl (decide (i=j)))):=by
 unfold y0 eqO;simp only[rdm,rdl,eq3_int,Aq]
def oNe_int {s:S3} {h:H3} {i j:Int}:oNe s h (.x (.int i)) (.x (.int j))=some (.v (.bl (!decide (i=j)))):=by
 unfold oNe eqO;simp only[rdm,rdl,eq3_int,Aq]
def oAdd_int {s:S3} {h:H3} {i j:Int}:zB s h (.x (.int i)) (.x (.int j))=some (.v (.int (i+j))):=rfl
def oAddI_int {s:S3} {h:H3} {i j:Int}:AE s h (.x (.int i)) (.x (.int j))=some (.v (.int (i+j))):=rfl
def oSub_int {s:S3} {h:H3} {i j:Int}:yg s h (.x (.int i)) (.x (.int j))=some (.v (.int (i-j))):=rfl
def oMul_int {s:S3} {h:H3} {i j:Int} (c:CMul i j):zZ s h (.x (.int i)) (.x (.int j))=some (.v (.int (i*j))):=by
 unfold zZ qi Hs oI;simp only[Ab c,Aq]
def oDiv_int {s:S3} {h:H3} {i j:Int} (a:0<j) (b:j<1073741824):z7 s h (.x (.int i)) (.x (.int j))=some (.v (.int (i / j))):=by
 unfold z7 oI;simp only[Ab (show CDiv i j from ⟨a,b⟩),Aq]
def oMod_int {s:S3} {h:H3} {i j:Int} (c:0<j):zD s h (.x (.int i)) (.x (.int j))=some (.v (.int (i%j))):=by
 unfold zD oI;simp only[Ab c,Aq]
def oShr_int {s:S3} {h:H3} {i j:Int} (c:0<=j):oShr s h (.x (.int i)) (.x (.int j))=some (.v (.int (i / 2 ^ j.toNat))):=by
 unfold oShr oI;simp only[Ab c,Aq]
def oPow_int {s:S3} {h:H3} {i j:Int} (c:CPow i j):oPow s h (.x (.int i)) (.x (.int j))=some (.v (.int (i ^ j.toNat))):=by
 unfold oPow oI;simp only[Ab c,Aq]
def oAndI_int {s:S3} {h:H3} {i j:Int}:Jb s h (.x (.int i)) (.x (.int j))=some (.v (.int (Builtin.bitAnd i j))):=rfl
def oLt_int {s:S3} {h:H3} {i j:Int}:qP s h (.x (.int i)) (.x (.int j))=some (.v (.bl (decide (i<j)))):=rfl
def oLe_int {s:S3} {h:H3} {i j:Int}:jr s h (.x (.int i)) (.x (.int j))=some (.v (.bl (decide (i<=j)))):=rfl
def oGt_int {s:S3} {h:H3} {i j:Int}:ju s h (.x (.int i)) (.x (.int j))=some (.v (.bl (decide (j<i)))):=rfl
def oGe_int {s:S3} {h:H3} {i j:Int}:oGe s h (.x (.int i)) (.x (.int j))=some (.v (.bl (decide (j<=i)))):=rfl
def oIx_tup {s:S3} {h:H3} {xs:List V3} {i:Int}:zq s h (.x (.tup xs)) (.x (.int i))=(atI xs i).map .v:=by
 unfold zq qi oIxT yL oIxS;simp only[rdl];cases atI xs i<;>rfl
def oIx_lst {s:S3} {h:H3} {xs:List V3} {i:Int}:zq s h (.x (.lst xs)) (.x (.int i))=(atI xs i).map .v:=by
 unfold zq qi oIxT yL oIxS;simp only[rdl];cases atI xs i<;>rfl
def oIx_scr {s:S3} {h:H3} {ns:List Int} {i:Int}:zq s h (.x (.scr ns)) (.x (.int i))=(atI (ns.map .int) i).map .v:=by
 unfold zq qi oIxT yL oIxS;simp only[rdl];cases atI (ns.map V3.int) i<;>rfl
def sMt_ap {op:FM} {p:P3} {a:A3} {s:S3} {h:H3}:yR op p a s h=mtO op p a (fun s h _=>.nx s h) s h:=rfl
def mAppend_ok {xs:List V3} {y:V3} (h:xs.length<sizeLine):yo xs [y]=some (xs++[y],.non):=by unfold yo;simp only[Ab h]
def ym:1000000<=sizeLine:=by decide
def sz0:(0<=sizeLine)=True:=by simp
def sz1:(1<=sizeLine)=True:=eq_true (by have:=ym;lia)
def sz2:(2<=sizeLine)=True:=eq_true (by have:=ym;lia)
def sz3:(3<=sizeLine)=True:=eq_true (by have:=ym;lia)
def sz4:(4<=sizeLine)=True:=eq_true (by have:=ym;lia)
def sz5:(5<=sizeLine)=True:=eq_true (by have:=ym;lia)
noncomputable def gb (g:G3) (b:D3) (x:V3) (s:S3) (h:H3):O3:=match g x s with
 |some s1=>b s1 h
 |none=>.no
def yY {Q:Res Vl->Prop} {k n:Nat} {b:D3} {vs:List V3} {h:H3} (hl:vs.length=k) (q:Q ((b (start3 n vs) h).res)):Q (fun3 k n b vs h):=by
 unfold fun3;rw[Ab hl];exact q
def TU {α:Type} {p:P3} {g:G3} {b:D3} {s:S3} {h:H3} {x:V3} {ok:H3->Prop} {enc:α->V3} {l:List α} (ep:p s h=.ok (.x x) h) (hw:yA h x=some (l.map enc,ok))
  (I:Nat->S3->Prop) (h0:I 0 s) (step:∀(i:Nat) a s,l[i]? =some a->I i s->∃s2,gb g b (enc a) s h=.nx s2 h/\I (i+1) s2):∃s',zw (iL p) g b s h=.nx s' h/\I l.length s':=by
 have hf:zw (iL p) g b s h=zP ok g b (l.map enc) s h:=by
  unfold zw iL;simp only[ep,Res.bind,Res.bindS,hw]
 rw[hf];have:=Jr (ok:=ok) (g:=g) (b:=b) (h:=h) I (xs:=l.map enc) (s:=s) (CK hw).1 h0 fun i x s hx hI=>by
  rw[Az]at hx;obtain⟨a,ha,rfl⟩:=Cz.1 hx;obtain⟨s2,e,hI2⟩:=step i a s ha hI;unfold gb at e;cases q:g (enc a) s with
  |none=>rw[q]at e;cases e
  |some s1=>rw[q]at e;exact⟨s1,s2,rfl,e,hI2⟩
 rwa [Ae]at this
def TV {Q:O3->Prop} {α:Type} {p:P3} {g:G3} {b r:D3} {s:S3} {h:H3} {x:V3} {ok:H3->Prop} {enc:α->V3} {l:List α} (ep:p s h=.ok (.x x) h) (hw:yA h x=some (l.map enc,ok))
  (I:Nat->S3->Prop) (h0:I 0 s) (step:∀(i:Nat) a s,l[i]? =some a->I i s->∃s2,gb g b (enc a) s h=.nx s2 h/\I (i+1) s2) (k:∀s',I l.length s'->Q (r s' h)):Q (sSeq (zw (iL p) g b) r s h):=by
 obtain⟨s',e,hI⟩:=TU ep hw I h0 step;rw[qS e];exact k s' hI
def TX {a:A3} {g:G3} {b:D3} {s:S3} {h:H3} {j:Int} (ea:a s h=.ok [.x (.int j)] h) (hj: -(2 ^ 62)<=j/\j<2 ^ 62)
  (I:Nat->S3->Prop) (h0:I 0 s) (step:∀(i:Nat) s,i<j.toNat->I i s->∃s2,gb g b (.int (i:Int)) s h=.nx s2 h/\I (i+1) s2):∃s',zw (qo a) g b s h=.nx s' h/\I j.toNat s':=by
 have hf:zw (qo a) g b s h=zP (fun _=>True) g b ((List.range j.toNat).map fun k=>.int (0+((k:Nat):Int))) s h:=by
  unfold zw qo;simp only[ea,Res.bind,Res.bindS,Ab hj]
 rw[hf];have:=Jr (ok:=fun _=>True) (g:=g) (b:=b) (h:=h) I (xs:=(List.range j.toNat).map fun k=>.int (0+((k:Nat):Int))) (s:=s) trivial h0 fun i x s hx hI=>by
  have hi:i<j.toNat:=by
   have:=An.1 hx;simpa using this.1
  rw[Az,List.getElem?_range hi]at hx
  cases hx;obtain⟨s2,e,hI2⟩:=step i s hi hI;simp only[Ev];unfold gb at e;cases q:g (.int i) s with
  |none=>rw[q]at e;cases e
  |some s1=>rw[q]at e;exact⟨s1,s2,rfl,e,hI2⟩
 rwa [Ae,Bq]at this
def TY {Q:O3->Prop} {a:A3} {g:G3} {b r:D3} {s:S3} {h:H3} {j:Int} (ea:a s h=.ok [.x (.int j)] h) (hj: -(2 ^ 62)<=j/\j<2 ^ 62)
  (I:Nat->S3->Prop) (h0:I 0 s) (step:∀(i:Nat) s,i<j.toNat->I i s->∃s2,gb g b (.int (i:Int)) s h=.nx s2 h/\I (i+1) s2) (k:∀s',I j.toNat s'->Q (r s' h)):Q (sSeq (zw (qo a) g b) r s h):=by
 obtain⟨s',e,hI⟩:=TX ea hj I h0 step;rw[qS e];exact k s' hI
def zH {Q:Res Vl->Prop} {a b:D3} {s s1:S3} {h h1:H3} (e:a s h=.nx s1 h1) (q:Q ((b s1 h1).res)):Q ((sSeq a b s h).res):=by rw[qS e];exact q
def Jt {Q:Res Vl->Prop} {a:A3} {g:G3} {b r:D3} {s:S3} {h:H3} {j:Int} (ea:a s h=.ok [.x (.int j)] h) (hj: -(2 ^ 62)<=j/\j<2 ^ 62)
  (I:Nat->S3->Prop) (h0:I 0 s) (step:∀(i:Nat) s,i<j.toNat->I i s->∃s2,gb g b (.int (i:Int)) s h=.nx s2 h/\I (i+1) s2) (k:∀s',I j.toNat s'->Q ((r s' h).res)):Q ((sSeq (zw (qo a) g b) r s h).res):=
 TY (Q:=fun o=>Q o.res) ea hj I h0 step k
def DO {Q:Res Vl->Prop} {α:Type} {p:P3} {g:G3} {b r:D3} {s:S3} {h:H3} {x:V3} {ok:H3->Prop} {enc:α->V3} {l:List α} (ep:p s h=.ok (.x x) h) (hw:yA h x=some (l.map enc,ok))
  (I:Nat->S3->Prop) (h0:I 0 s) (step:∀(i:Nat) a s,l[i]? =some a->I i s->∃s2,gb g b (enc a) s h=.nx s2 h/\I (i+1) s2) (k:∀s',I l.length s'->Q ((r s' h).res)):Q ((sSeq (zw (iL p) g b) r s h).res):=
 TV (Q:=fun o=>Q o.res) ep hw I h0 step k
end L3
namespace L3
open PySem PySem.Spec PyProof.Rows L2
noncomputable def kyd3:V3->Option zM
 |.int i=>some (.inl i)
 |.str z=>some (.inr z)
 |_=>none
def qT:V3->Option MK
 |.tup xs=>(zu kyd3 xs).map .tup
 |.int i=>some (.one (.inl i))
 |.str z=>some (.one (.inr z))
 |_=>none
noncomputable def kV3:zM->V3
 |.inl i=>.int i
 |.inr z=>.str z
noncomputable def z0 {α:Type} [DecidableEq α] (kvs:List (α×V3)) (k:α):Option V3:=(kvs.find? fun kv=>decide (kv.1=k)).map (·.2)
noncomputable def put3 {α:Type} [DecidableEq α] (kvs:List (α×V3)) (k:α) (v:V3):List (α×V3):=
 if (kvs.any fun kv=>decide (kv.1=k))=true then kvs.map fun kv=>if kv.1=k then (kv.1,v) else kv else kvs++[(k,v)]
inductive Dc where
 |k (kvs:List (zM×V3))|t (kvs:List (MK×V3))
def Dc.c:Dc->C3
 |.k kvs=>.dK kvs
 |.t kvs=>.dT kvs
def Dc.len:Dc->Nat
 |.k kvs=>kvs.length
 |.t kvs=>kvs.length
def Dc.get:Dc->V3->Option (Option V3)
 |.k kvs,x=>(kyd3 x).map (z0 kvs)
 |.t kvs,x=>(qT x).map (z0 kvs)
def Dc.put:Dc->V3->V3->Option Dc
 |.k kvs,x,v=>(kyd3 x).map fun k=>.k (put3 kvs k v)
 |.t kvs,x,v=>(qT x).map fun k=>.t (put3 kvs k v)
noncomputable def C3.dc:C3->Option Dc
 |.dK kvs=>some (.k kvs)
 |.dT kvs=>some (.t kvs)
 |_=>none
def yU (s:S3) (h:H3):Rf->Option Dc
 |.x (.dK kvs)=>some (.k kvs)
 |.x (.dT kvs)=>some (.t kvs)
 |.x (.loc n)=>match h[n]? with
  |some c=>c.dc
  |none=>none
 |.s i=>match s[i]? with
  |some (some (.m c))=>c.dc
  |_=>none
 |_=>none
section
variable {X:Cx} {κ:Kx} {E:XK} {F F':Fr} {σ σ':L2.St} {H H1 H':Hp} {Q:VK} {p:Addr} {e a b c o:Expr} {pos apos np cpos:Pos} {i:Nat} {D:Ends} {β:AO} {O:Addr->Prop}
def DR (κ:Kx) (β:AO) (O:Addr->Prop) (H:Hp):Dc->Addr->Prop
 |.k kvs,a=> ∃ws,H a=some (.dK ws)/\RepP κ β O H kvs ws
 |.t kvs,a=> ∃ws,H a=some (.dT ws)/\RepP κ β O H kvs ws
def DR.of {c:C3} {d:Dc} {a:Addr} (e:c.dc=some d) (h:CellR κ β O H c a):DR κ β O H d a:=by
 cases c<;>simp[C3.dc]at e
 .subst e;exact h
 .subst e;exact h
def Ju {f:Rf} {v:V} {d:Dc} (rel:Rel κ F σ H) (r:RfR κ F H f v) (e:yU F.s F.h f=some d):∃a,v=.ref a/\DR κ F.β F.O H d a:=by
 cases f with
 |s i=>
  obtain⟨a,c,h1,h2,h3,h4⟩:=r;simp only[yU,h3]at e;exact⟨a,h2,DR.of e h4⟩
 |x y=>
  cases y<;>simp[yU]at e
  case dK zs=>
   subst e;cases r with
   |dK h1 h2 h3 h4=>exact⟨_,rfl,_,h1,h4⟩
  case dT zs=>
   subst e;cases r with
   |dT h1 h2 h3 h4=>exact⟨_,rfl,_,h1,h4⟩
  case loc n=>
   cases r with
   |loc h1 h2=>
    cases q:F.h[n]? with
    |none=>rw[q]at e;cases e
    |some c=>
     rw[q]at e
     rcases rel.heap.cell n _ q with z|⟨a,ha,h5⟩
     .subst z;cases e
     .exact⟨a,h2 a ha,DR.of e h5⟩
theorem RepP.val {α:Type} [DecidableEq α] {k:α}:∀{kvs:List (α×V3)} {ws:List (α×V)},RepP κ β O H kvs ws->(∀x,z0 kvs k=some x->∃y,yc ws k=some y/\Rep κ β O H x y)/\(z0 kvs k=none->yc ws k=none)
 |_,_,.nil=>⟨fun x e=>(nomatch e),fun _=>rfl⟩
 |_,_,.cons (k:=k') (x:=x') (y:=y') q t=>by
  have ih:=RepP.val (k:=k) t
  by_cases z:k'=k
  .subst z
   refine⟨fun x e=>?_,fun e=>?_⟩
   .simp[z0]at e;subst e;exact⟨y',by simp[yc],q⟩
   .simp[z0]at e
  .have e1:∀(l:List (_×V3)),z0 ((k',x')::l) k=z0 l k:=fun l=>by simp[z0,Dk,z]
   have e2:∀(l:List (_×V)),yc ((k',y')::l) k=yc l k:=fun l=>by simp[yc,Dk,z]
   refine⟨fun x e=>?_,fun e=>?_⟩
   .rw[e1]at e;rw[e2];exact ih.1 x e
   .rw[e1]at e;rw[e2];exact ih.2 e
theorem RepP.any {α:Type} {g:α->Bool}:∀{kvs:List (α×V3)} {ws:List (α×V)},RepP κ β O H kvs ws->(kvs.any fun kv=>g kv.1)=ws.any fun kv=>g kv.1
 |_,_,.nil=>rfl
 |_,_,.cons q t=>by simp only[List.any_cons,RepP.any (g:=g) t]
theorem RepP.len {α:Type}:∀{kvs:List (α×V3)} {ws:List (α×V)},RepP κ β O H kvs ws->kvs.length=ws.length
 |_,_,.nil=>rfl
 |_,_,.cons q t=>by simp only[Bb,RepP.len t]
theorem RepP.snoc {α:Type} {k:α} {x:V3} {y:V} (r:Rep κ β O H x y):∀{kvs:List (α×V3)} {ws:List (α×V)},RepP κ β O H kvs ws->RepP κ β O H (kvs++[(k,x)]) (ws++[(k,y)])
 |_,_,.nil=>.cons r .nil
 |_,_,.cons q t=>.cons q (RepP.snoc r t)
theorem RepP.rpl {α:Type} [DecidableEq α] {k:α} {x:V3} {y:V} (r:Rep κ β O H x y):∀{kvs:List (α×V3)} {ws:List (α×V)},RepP κ β O H kvs ws->RepP κ β O H (kvs.map fun kv=>if kv.1=k then (kv.1,x) else kv) (ws.map fun kv=>if kv.1=k then (kv.1,y) else kv)
 |_,_,.nil=>.nil
 |_,_,.cons (k:=k') q t=>by
  simp only[Ah]
  by_cases z:k'=k
  .rw[Ab z,Ab z];exact .cons r (RepP.rpl r t)
  .rw[Ac z,Ac z];exact .cons q (RepP.rpl r t)
def RepP.put {α:Type} [DecidableEq α] {k:α} {x:V3} {y:V} {kvs:List (α×V3)} {ws:List (α×V)} (r:Rep κ β O H x y) (h:RepP κ β O H kvs ws):RepP κ β O H (put3 kvs k x) (yi ws k y):=by
 unfold put3 yi;rw[h.any (g:=fun z=>decide (z=k))]
 split
 .exact h.rpl r
 .exact h.snoc r
def Jv {x:V3} {y:V} {k:zM} (r:Rep κ β O H x y) (e:kyd3 x=some k):y=kV k:=by
 cases x<;>simp[kyd3]at e
 .subst e;cases r;rfl
 .subst e;cases r;rfl
theorem Np:∀{xs:List V3} {ys:List V} {ks:List zM},Reps κ β O H xs ys->zu kyd3 xs=some ks->ys=ks.map kV
 |_,_,_,.nil,e=>by cases e;rfl
 |x::xs,y::ys,ks,.cons a r,e=>by
  obtain⟨b,l,h1,h2,rfl⟩:=BU e;rw[Ah,<-Jv a h1,Np r h2]
def Nq {x:V3} {y:V} {k:MK} (r:Rep κ β O H x y) (e:qT x=some k):KyT H k y:=by
 cases x<;>simp[qT]at e
 .subst e;cases r;rfl
 .subst e;cases r;rfl
 .obtain⟨ks,hk,rfl⟩:=e
  cases r with
  |tup w1 w2 w3 w4=>exact⟨_,rfl,by rw[<-Np w4 hk];exact w1⟩
theorem DR.get {d:Dc} {a:Addr} {x:V3} {y:V} {o:Option V3} (h:DR κ β O H d a) (r:Rep κ β O H x y) (e:d.get x=some o):
  ∃o',DGet H a y o'/\(∀z,o=some z->∃w,o'=some w/\Rep κ β O H z w)/\(o=none->o'=none):=by
 cases d with
 |k kvs=>
  obtain⟨ws,h1,h2⟩:=h;obtain⟨k,hk,rfl⟩:=Cz.1 e;have:=h2.val (k:=k);rw[Jv r hk];exact⟨_,DGet.k h1,fun z hz=>this.1 z hz,this.2⟩
 |t kvs=>
  obtain⟨ws,h1,h2⟩:=h;obtain⟨k,hk,rfl⟩:=Cz.1 e;have:=h2.val (k:=k);exact⟨_,DGet.t h1 (Nq r hk),fun z hz=>this.1 z hz,this.2⟩
def TZ:R2:=fun x y H Q=> ∃a v,x=V.ref a/\DGet H a y (some v)/\Q v H
def AK:F2:=fun s h x y=>match yU s h x,y with
 |some d,.x k=>match d.get k with
  |some (some v)=>some (.v v)
  |_=>none
 |_,_=>none
def Ua:OpSim κ TZ AK:=fun F σ H x y z v w Q rel rx ry e k=>by
 unfold AK at e
 split at e
 .rename_i d kk q
  obtain⟨a,rfl,hd⟩:=Ju rel rx q
  split at e
  .rename_i v' q2
   cases e;obtain⟨o',g,h1,_⟩:=hd.get (show Rep κ F.β F.O H kk w from ry) q2
   obtain⟨u,rfl,ru⟩:=h1 _ rfl;exact⟨a,u,rfl,g,k u H Ext.refl ⟨rel,ru⟩⟩
  .cases e
 .cases e
def HE {da db:P3} (hu:X.A.units+1<cLine) (hs:NoSl b) (ha:PE X a (zi κ E da)) (hb:PE X b (zi κ E db)):PE X (.Subscript a b pos) (zh κ E (eOp AK da db)):=yC (Sv hu ha hb hs) fun _ _ _ h=>EU Ua h
def rDIn (neg:Bool):R2:=fun y x H Q=> ∃a o,x=V.ref a/\DGet H a y o/\Q (.bl (if neg then !o.isSome else o.isSome)) H
def oDIn (neg:Bool):F2:=fun s h y x=>match yU s h x,y with
 |some d,.x k=>match d.get k with
  |some o=>some (.v (.bl (if neg then !o.isSome else o.isSome)))
  |none=>none
 |_,_=>none
def Nr {neg:Bool}:OpSim κ (rDIn neg) (oDIn neg):=fun F σ H y x z w v Q rel ry rx e k=>by
 unfold oDIn at e
 split at e
 .rename_i d kk q
  obtain⟨a,rfl,hd⟩:=Ju rel rx q
  split at e
  .rename_i o q2
   cases e;obtain⟨o',g,h1,h2⟩:=hd.get (show Rep κ F.β F.O H kk w from ry) q2
   have e1:o'.isSome=o.isSome:=by
    cases o with
    |none=>rw[h2 rfl];rfl
    |some z=>obtain⟨u,rfl,_⟩:=h1 z rfl;rfl
   refine⟨a,o',rfl,g,?_⟩
   rw[e1];exact k _ H Ext.refl ⟨rel,.bl _⟩
  .cases e
 .cases e
def Nt (hu:X.A.units+1<cLine):OpR X (compareOp .NotIn) (rDIn true):=fun pins s σ H x y v u Q I rx ry ⟨a,o,ey,g,q⟩=>by
 subst ey;obtain rfl:u=Value.ref a:=ry;exact Sn hu I g rx fun s3 I3=>⟨.bl (!o.isSome),H,I3,rfl,q⟩
def eDnT:E3:=fun _ h=>.ok (.m (.dT [])) h
def Jw:PE X (.Dict [] [] pos) (zh κ E eDnT):=yC Sz fun σ H Q ⟨F,rel,o⟩ p hp=>o F.β (.ref p) _ (yW hp) (Post.dT rel hp .nil)
def Ub {f:Rf} {v:V} {d d':Dc} {s':S3} {h':H3} (ht:F.T=[]) (rel:Rel κ F σ H) (r:RfR κ F H f v) (e:yU F.s F.h f=some d) (hw:wr3 F.s F.h d'.c f=some (s',h')):
  ∃l,v=.ref l/\DR κ F.β F.O H d l/\∀u,(∀β O H',(∀{α:Type} {x:List (α×V3)} {y:List (α×V)},RepP κ F.β F.O H x y->RepP κ β O H' x y)->H' l=some u->CellR κ β O H' d'.c l)->∃F',SExt F H F' (zk H l u)/\F'.s=s'/\F'.h=h'/\Rel κ F' σ (zk H l u):=by
 cases f with
 |s i=>
  cases hw;obtain⟨a,c,h1,h2,h3,h4⟩:=r;simp only[yU,h3]at e;have hd:=DR.of e h4;have hex:∃o,H a=some o:=by
   cases d with
   |k kvs=>obtain⟨ws,q,_⟩:=hd;exact⟨_,q⟩
   |t kvs=>obtain⟨ws,q,_⟩:=hd;exact⟨_,q⟩
  have hO:F.O a:= .inr (.inl (Al h1))
  refine⟨a,h2,hd,fun u hu=>⟨{F with s:=F.s.set i (some (.m d'.c))},⟨⟨fun b u hb hn m=>⟨by rw[zQ (fun z=>by subst z;exact m (Al h1))];exact hb,hn⟩,Af _,fun _ _ _ h=>h,(BW (β:=F.β) hex).there,nwb0⟩,fun _ h=>.inl h,rfl,ht⟩,rfl,rfl,rel.wrSlot h1 h3 (hu _ _ _ (fun hr=>hr.ext (BW (β:=F.β) hex) (fun b hb=>by rw[hb];exact hO) fun _ _ _ n=>n) yM)⟩⟩
 |x y=>
  cases y<;>simp[wr3]at hw
  case loc n=>
   obtain⟨rfl,rfl⟩:=hw;cases r with
   |loc h1 h2=>
    simp only[yU]at e;cases q:F.h[n]? with
    |none=>rw[q]at e;cases e
    |some c=>
     rw[q]at e
     rcases rel.heap.cell n _ q with z|⟨a,ha,h5⟩
     .subst z;cases e
     .have hd:=DR.of e h5
      have hex:∃o,H a=some o:=by
       cases d with
       |k kvs=>obtain⟨ws,q,_⟩:=hd;exact⟨_,q⟩
       |t kvs=>obtain⟨ws,q,_⟩:=hd;exact⟨_,q⟩
      have ex:=fun o=>HA (o:=o) ha hex
      exact⟨a,h2 a ha,hd,fun u hu=>⟨F.to F.β (F.h.set n d'.c),SExt.of0 ht (ex _),rfl,rfl,rel.next (ex _) (rel.heap.wrLoc ha (hu _ _ _ (fun hr=>hr.ext0 (ex _)) yM))⟩⟩
def qK (p i:P3) (e:E3):D3:=fun s h=>(e s h).bindS fun r h1=>match r.fz with
 |none=>.no
 |some y=>(p s h1).bindS fun f h2=>(i s h2).bindS fun j h3=>match j,yU s h3 f with
  |.x k,some d=>match d.put k y with
   |some d'=>if d.len<sizeLine then match wr3 s h3 d'.c f with
    |some (s',h')=>.nx s' h'
    |none=>.no
    else .no
   |none=>.no
  |_,_=>.no
def Uc {dp di:P3} {d:E3} (h:zo κ E (qK dp di d) D σ H):MA (zi κ E dp) (zi κ E di) (zh κ E d) D σ H:=by
 obtain⟨F,rel,ht,o⟩:=h
 refine (bindS (K:=kE κ) rel ht o).mono fun v H1 ⟨β1,h1,r,e1,p1,o1⟩=>?_
 cases z:r.fz with
 |none=>simp only[z]at o1;exact o1.elim
 |some y=>
  simp only[z]at o1;obtain⟨r1,ry⟩:=Post.fz p1 z;have s1:SExt F H (F.to β1 h1) H1:=SExt.of0 ht e1
  refine (bindS (F:=F.to β1 h1) (K:=kP κ) r1 ht (SOut.move s1 o1)).mono fun ov H2 ⟨β2,h2,f,e2,⟨r2,rf⟩,o2⟩=>?_
  have s2:SExt (F.to β1 h1) H1 (F.to β2 h2) H2:=SExt.of0 (F:=F.to β1 h1) ht e2
  refine (bindS (F:=F.to β2 h2) (K:=kP κ) r2 ht (SOut.move s2 o2)).mono fun iv H3 ⟨β3,h3,j,e3,⟨r3,rj⟩,o3⟩=>?_
  have s3:SExt (F.to β2 h2) H2 (F.to β3 h3) H3:=SExt.of0 (F:=F.to β2 h2) ht e3;have rf3:=RfR.ext (F:=F.to β2 h2) (β':=β3) (h':=h3) r2 e3 rf;have ry3:Rep κ β3 F.O H3 y v:=(Rep.ext0 e3 (Rep.ext0 e2 ry))
  match j,rj,o3 with
  |.s _,rj,o3=>exact o3.elim
  |.x k,rj,o3=>
   cases q:yU F.s h3 f with
   |none=>simp only[q]at o3;exact o3.elim
   |some dc=>
    simp only[q]at o3;cases q2:dc.put k y with
    |none=>simp only[q2]at o3;exact o3.elim
    |some dc'=>
     simp only[q2]at o3
     by_cases hz:dc.len<sizeLine
     .simp only[Ab hz]at o3
      cases q3:wr3 F.s h3 dc'.c f with
      |none=>simp only[q3]at o3;exact o3.elim
      |some w=>
       obtain⟨s',h'⟩:=w;simp only[q3]at o3;obtain⟨l,ev,hd,wk⟩:=Ub (F:=F.to β3 h3) ht r3 rf3 q q3;subst ev;have rk:Rep κ β3 F.O H3 k iv:=rj;cases dc with
       |k kvs=>
        obtain⟨ws,g1,g2⟩:=hd;obtain⟨kk,hk,rfl⟩:=Cz.1 q2;obtain⟨F',e',es,eh,rel'⟩:=wk (.dK (yi ws kk v)) (fun β O H' mv hl=>⟨_,hl,mv (g2.put ry3)⟩)
        refine⟨l,_,rfl,?_,SOut.move s3 o3 F' σ _ e' es eh rel'⟩
        rw[Jv rk hk];exact DPut.k g1 (by rw[<-g2.len];exact hz)
       |t kvs=>
        obtain⟨ws,g1,g2⟩:=hd;obtain⟨kk,hk,rfl⟩:=Cz.1 q2;obtain⟨F',e',es,eh,rel'⟩:=wk (.dT (yi ws kk v)) (fun β O H' mv hl=>⟨_,hl,mv (g2.put ry3)⟩)
        refine⟨l,_,rfl,?_,SOut.move s3 o3 F' σ _ e' es eh rel'⟩
        exact DPut.t g1 (Nq rk hk) (by rw[<-g2.len];exact hz)
     .simp only[Ac hz]at o3;exact o3.elim
def HF {tp:Pos} {ii:Expr} {dp di:P3} {d:E3} (hu:X.A.units+1<cLine) (he:PE X e (zh κ E d)) (ho:PE X o (zi κ E dp)) (hi:PE X ii (zi κ E di))
 (hsw:swapsWith e (some (.Subscript o ii tp)) pos.line X.env=pure false:=by rfl):PS X (.Assign [.Subscript o ii tp] e pos) (zo κ E (qK dp di d)):=qg (Sw hu ho hi he hsw) fun D σ H h=>Uc h
end
section
variable {X:Cx} {κ:Kx} {E:XK} {F F':Fr} {σ σ':L2.St} {H H1 H':Hp} {Q:VK} {p:Addr} {e a b c o:Expr} {pos apos np cpos ip jp:Pos} {i:Nat} {D:Ends} {β:AO} {O:Addr->Prop}
def hu1 {A:Around} {k:Nat} (hr:Room k A):A.units+1<cLine:=by have:=qu hr;lia
end
end L3
namespace L2
open PySem PySem.Spec PyProof.Rows
section
variable {prog:Program} {w:World} {A:Around} {E:VP} {s:Shared}
abbrev KI:String:="dict_keyiterator"
def DE (h:Heap) (d:Addr) (es:Array DictEntry) (ep:Nat):Prop:=∃o,h.get? d=some o/\o.ExactDict/\o.data=.dict es ep
def DE.typeIs {d:Addr} {es:Array DictEntry} {ep:Nat} (x:DE s.heap d es ep):s.TypeIs (.ref d) "dict" :=let ⟨o,ho,hc,_⟩:=x;⟨o,ho,hc.1⟩
def Nu {d:Addr} {es:Array DictEntry} {ep:Nat} {Q:VP} (hd:(d==sysModules)=false) (hm:DE s.heap d es ep)
  (hQ:Q (.ref s.heap.objs.size) {s with heap:=s.heap.push {cls:= .type KI,data:= .fields #[.ref d,.int 0 0,.int es.size 0,.int ep 0]}}):wpAny (model prog w) A (pyIter (.ref d)) Q E s:=by
 obtain⟨o,ho,hc,hdat⟩:=id hm;have hT:=hm.typeIs
 refine Fh hT F.slot_dict_iter (Ca F.slot_dict_iter hT F.entry_dict_iter ?_ (F.args_dict_iter_1 _))
 unfold PySem.Builtin.«dict.__iter__»;refine Aa ?_
 unfold PySem.Builtin.Dict.dictSlotNone;refine Aa (wpAny_notOrdered_dict hT ?_)
 show wpAny _ _ (pure (Value.ref d)) _ _ s;refine Ad ?_
 show wpAny _ _ (Builtin.Dict.showsAll d >>=_) _ _ s;unfold PySem.Builtin.Dict.showsAll;rw[Ac (fun z=>by rw[hd]at z;cases z)]
 refine Aa (Ad ?_)
 refine Aa (Ep ho hdat (Aa (Dz ho hdat ?_)))
 refine Aa (Cd (Ad ⟨_,rfl,KI,_,⟨_,Bf _ rfl,rfl⟩,Ew.lookup,?_⟩))
 simpa[rawInt] using hQ
def Nv {it d:Addr} {i ep:Nat} {es:Array DictEntry} {e:DictEntry} {Q:Option Value->Shared->Prop} (hit:s.heap.IsKeyIter it d i es.size ep) (hm:DE s.heap d es ep) (hx:es[i]? =some e)
  (hQ:∀h',h'.IsKeyIter it d (i+1) es.size ep->Heap.SameBut it s.heap h'->Q (some e.key) {s with heap:=h'}):wpAny (model prog w) A (pyNext (.ref it)) Q E s:=by
 obtain⟨o,ho,hc,hd⟩:=id hit;obtain⟨od,hod,hcd,hdd⟩:=id hm;unfold pyNext
 refine Aa (wpAny_attempt (Ds (name:=Str.ofString "__next__") hit.typeIs Ew (Ca Ew hit.typeIs F.entry_dict_keyiterator_next ?_ (F.args_dict_keyiterator_next_1 _))))
 refine Aa (Ad (Aa (Aa ?_)))
 first|refine Aa (Fi hit.typeIs (Ad (Aa (Ef ho hd ?_))))|refine Aa (Fj hit.typeIs (Ad (Aa (Ef ho hd ?_))))
 have hown:Builtin.Dict_items.ownsTuple KI=false:=by decide
 simp only[hown,Ck,Bv];show wpAny _ _ (if (Value.ref d==Value.none)=true then _ else _) _ _ s;rw[Ac (show ¬((Value.ref d==Value.none)=true) from Ba)]
 refine Aa (Ad (Aa (Ep hod hdd ?_)))
 rw[Ac (by simp)]
 refine Aa (Ad (Aa (Dz hod hdd ?_)))
 rw[Ac (by simp)]
 refine Ad ?_
 simp only[show ¬((i:Int)<0) from by lia,Bv,B3,hx]
 refine Aa ?_
 first|refine Aa (Fi hit.typeIs (Ad (Aa (Gm hit.typeIs ?_))))|refine Aa (Fj hit.typeIs (Ad (Aa (Gm hit.typeIs ?_))))
 show wpAny _ _ (setField (.ref it) 1 (rawInt ((i:Int)+1)) >>=_) _ _ s;refine Aa (wpAny_setField ho hd (by simp) ?_)
 have hit':(s.heap.update it (Obj.mapFields (fun z=>z.setIfInBounds 1 (rawInt ((i:Int)+1))))).IsKeyIter it d (i+1) es.size ep:=
  ⟨_,Dt _ ho (Obj.isFreed_of_fields (Obj.data_mapFields hd _)),(Obj.cls_mapFields ..).trans hc,by rw[Obj.data_mapFields hd];simp[rawInt]⟩
 refine Aa (Bt (Aa (Gm (s:={s with heap:=s.heap.update it (Obj.mapFields (fun z=>z.setIfInBounds 1 (rawInt ((i:Int)+1))))}) hit'.typeIs ?_)))
 show wpAny _ _ (pure e.key) _ _ _;exact Ad (Ad ⟨_,rfl,Ad (hQ _ hit' (Dd ..))⟩)
def Nx {it d:Addr} {i ep:Nat} {es:Array DictEntry} {Q:Option Value->Shared->Prop} (hh:A.handled=none) (hit:s.heap.IsKeyIter it d i es.size ep) (hm:DE s.heap d es ep) (hx:es.size<=i)
  (hQ:∀h',Heap.ExtBut it s.heap h'->Q none {s with heap:=h'}):wpAny (model prog w) A (pyNext (.ref it)) Q E s:=by
 obtain⟨o,ho,hc,hd⟩:=id hit;obtain⟨od,hod,hcd,hdd⟩:=id hm;unfold pyNext
 refine Aa (wpAny_attempt (Ds (name:=Str.ofString "__next__") hit.typeIs Ew (Ca Ew hit.typeIs F.entry_dict_keyiterator_next ?_ (F.args_dict_keyiterator_next_1 _))))
 refine Aa (Ad (Aa (Aa ?_)))
 first|refine Aa (Fi hit.typeIs (Ad (Aa (Ef ho hd ?_))))|refine Aa (Fj hit.typeIs (Ad (Aa (Ef ho hd ?_))))
 have hown:Builtin.Dict_items.ownsTuple KI=false:=by decide
 simp only[hown,Ck,Bv];show wpAny _ _ (if (Value.ref d==Value.none)=true then _ else _) _ _ s;rw[Ac (show ¬((Value.ref d==Value.none)=true) from Ba)]
 refine Aa (Ad (Aa (Ep hod hdd ?_)))
 rw[Ac (by simp)]
 refine Aa (Ad (Aa (Dz hod hdd ?_)))
 rw[Ac (by simp)]
 refine Ad ?_
 simp only[show ¬((i:Int)<0) from by lia,Bv,B3,Fo hx]
 refine Aa ?_
 first|refine Aa (Fi hit.typeIs (Ad ?_))|refine Aa (Fj hit.typeIs (Ad ?_))
 show wpAny _ _ (setField (.ref it) 0 .none >>=_) _ _ s;refine Aa (wpAny_setField ho hd (by simp) ?_)
 show wpAny _ _ (newExc (.type "StopIteration") [] >>=_) _ _ _;refine Aa ?_
 simp only[newExc,newTuple];refine Aa (Cd ?_ (by size_fits))
 refine Aa (m:=firstArgMember _ _) (wpAny_of_eq (a:=Value.none) (by first|rfl|(simp only[firstArgMember];rfl)) (Cd ?_ (by size_fits)))
 simp only[raiseNew];refine Aa (wpAny_handled ?_)
 rw[show A.in1.handled=none from hh];refine Aa (Ad (wpAny_throw ?_))
 refine Aa (wpAny_isInstance (T:="StopIteration") (b:=true) ⟨_,Bf _ rfl,rfl⟩ isSubtype_stop (Ad (hQ _ (((Dd ..).extBut.push _).push _))))
end
def Itd (a:Addr) (n:Nat):It:=⟨fun i H=> ∃kvs,H a=some (.dT kvs)/\kvs.length=n/\i<n,fun i H x H'=>H'=H/\∀kvs,H a=some (.dT kvs)->∃k v,kvs[i]? =some (k,v)/\KyT H k x,fun i H=> ∃kvs,H a=some (.dT kvs)/\kvs.length=n/\n<=i⟩
def KyV.val {H:Hp}:∀{k:MK} {u:Value},KyV H k u->∃x,RelV x u/\KyT H k x
 |.one k,u,r=>⟨kV k,r,rfl⟩
 |.tup ks,u,⟨b,e,q⟩=>⟨.ref b,e,b,rfl,q⟩
def DictM.at {P:Program} {w:World} {h:Heap} {a:Addr} {xs:Tr} (hm:DictM P w h a xs):∃es,DE h a es xs.length/\es.toList=xs.map (yq P w)/\es.size=xs.length:=by
 obtain⟨o,es,ep,g1,g2,g3,g4,⟨g5,g6⟩,g7⟩:=hm;subst g6;exact⟨es,⟨o,g1,g2,g3⟩,g4,by rw[<-Bz,g4,Ae]⟩
def Ud {P:Program} {w:World} {K:FG} {tg:Expr} (a it:Addr) (n:Nat):Turn P w K tg (Itd a n) [it] it (fun i h=>h.IsKeyIter it a i n n) where
 mem:=by simp
 obj:=fun i h st b hb=>by
  have e:b=it:=by simpa using hb
  subst e;obtain⟨o,e,c,d⟩:=st;exact⟨o,e,fun v z=>by rw[d]at z;cases z⟩
 keep:=fun i h h' st k=>st.at fun o e=>k it (by simp) o e
 item:=by
  intro X hP hw hK hc i pins s σ H E I hf st hg;subst hP hw hK;obtain⟨kvs,hq,hn,hi⟩:=hg;obtain⟨z,y,xs,r,hm⟩:=DG I.hok hq;obtain⟨es,he,hl,hsz⟩:=hm.at;have hlen:=Paired.length r;obtain⟨f0,f1,f2,f3,f4,f5⟩:=hf it (by simp)
  have e1:es.size=n:=by lia
  have e2:xs.length=n:=by lia
  rw[e2]at he;have hie:i<es.size:=by lia
  have hix:i<xs.length:=by lia
  have hik:i<kvs.length:=by lia
  have hkey:es[i].key=xs[i].2.1:=by
   have:es.toList[i]? =(xs.map (yq X.prog X.w))[i]? :=by rw[hl]
   rw[Bo,Bm hie,Az,zI hix]at this;rw[Option.some.inj this];rfl
  have hp:kvs[i].1=xs[i].1/\KyV H kvs[i].1 xs[i].2.1/\RelV kvs[i].2 xs[i].2.2:=by
   have gen:∀{l:List (MK×V)} {m:Tr},KT H l m->∀(i:Nat) (h1:i<l.length) (h2:i<m.length),l[i].1=m[i].1/\KyV H l[i].1 m[i].2.1/\RelV l[i].2 m[i].2.2:=fun {l m} q=>by
    induction q with
    |nil=>intro i h1;exact absurd h1 (Nat.not_lt_zero _)
    |cons hq _ ih=>
     intro i h1 h2;cases i with
     |zero=>exact hq
     |succ j=>exact ih j (by simpa using h1) (by simpa using h2)
   exact gen r i hik hix
  obtain⟨x,rx,kx⟩:=hp.2.1.val
  refine Nv (by rw[e1];exact st) he (Bm hie) fun h' st' sb=>?_
  have I1:Inv X pins σ H {s with heap:=h'}:=I.turned (t':=s.toks) (fun b o hb e=>(sb.2 b hb).trans e) f0 f1 f3 f4 f5
  rw[e1]at st';obtain⟨o,e,c,d⟩:=id st'
  refine⟨es[i].key,rfl,EG (s:={s with heap:=h'}) e c d (by decide) ⟨x,H,I1,by rw[hkey];exact rx,⟨rfl,fun ws hw=>?_⟩,st',fun b hb=>(hf b hb).1⟩⟩
  rw[hq]at hw;cases hw;exact⟨_,_,zI hik,kx⟩
 done:=by
  intro X hP hw hK hc i pins s σ H E I hf st hg;subst hP hw hK;obtain⟨kvs,hq,hn,hi⟩:=hg;obtain⟨z,y,xs,r,hm⟩:=DG I.hok hq;obtain⟨es,he,hl,hsz⟩:=hm.at;have hlen:=Paired.length r;obtain⟨f0,f1,f2,f3,f4,f5⟩:=hf it (by simp)
  have e1:es.size=n:=by lia
  have e2:xs.length=n:=by lia
  rw[e2]at he;exact Nx (I.ok.hd hc) (by rw[e1];exact st) he (by lia) fun h' eb=>⟨rfl,I.turned (t':=s.toks) (fun b o hb e=>eb b o hb e) f0 f1 f3 f4 f5⟩
 self:=fun _ _ _ _ _ st h=>wpAny_pyIter_keyiter st h
section
variable {X:Cx} {tg:Expr}
def Ue (tl:TE):TI:=fun σ H R=>tl σ H fun x H1=> ∃a kvs,x=.ref a/\H1 a=some (.dT kvs)/\R (Itd a kvs.length) H1
def Ug {l:Expr} {tl:TE} (hl:PE X l tl):PI X tg l (Ue tl):=by
 intro pins s σ H R I h
 refine thn (hl pins s σ H _ I h) fun v s1 ⟨x,H1,I1,r1,q1⟩=>?_
 obtain⟨a,kvs,e,hq,q⟩:=q1;subst e;cases r1;obtain⟨z,y,xs,r,hm⟩:=DG I1.hok hq;obtain⟨es,he,hl,hsz⟩:=hm.at;have hlen:=Paired.length r
 refine Nu y he ?_
 have e1:es.size=kvs.length:=by lia
 rw[e1,<-hlen]
 refine⟨s1.heap.objs.size,[s1.heap.objs.size],_,_,H1,rfl,I1.kept (t':=s1.toks) fun b o e=>Aw _ e,Ud a _ kvs.length,⟨_,Bf _ rfl,rfl,rfl⟩,fun b hb=>?_,q⟩
 have e:b=s1.heap.objs.size:=by simpa using hb
 subst e;exact I1.fpOk (Af _) (I1.hok.fresh (Af _))
end
end L2
namespace L3
open PySem PySem.Spec PyProof.Rows L2
section
variable {X:Cx} {κ:Kx} {E:XK} {F:Fr} {σ:L2.St} {H:Hp}
def mkV3:MK->V3
 |.one k=>kV3 k
 |.tup ks=>.tup (ks.map kV3)
def Jx {β:AO} {O:Addr->Prop}:∀k:zM,Rep κ β O H (kV3 k) (kV k)
 |.inl i=>.int i
 |.inr z=>.str z
theorem Ny {β:AO} {O:Addr->Prop}:∀ks:List zM,Reps κ β O H (ks.map kV3) (ks.map kV)
 | []=>.nil
 |k::r=>.cons (Jx k) (Ny r)
def Uh (rel:Rel κ F σ H):∀{k:MK} {x:V},KyT H k x->Rep κ F.β F.O H (mkV3 k) x
 |.one k,x,e=>by
  have e:x=kV k:=e;subst e;exact Jx k
 |.tup ks,x,⟨b,e,q⟩=>by
  subst e
  refine .tup q (fun z=>?_) (fun z=>?_) (Ny ks)
  .obtain⟨i,hi⟩:=B6 z
   obtain⟨o,ho,n⟩:=rel.heap.btr i b hi;rw[q]at ho;cases ho;exact n _ rfl
  .obtain⟨o,ho,n⟩:=rel.heap.trk b z
   rw[q]at ho;cases ho;exact n _ rfl
theorem RepP.keys {α:Type} {β:AO} {O:Addr->Prop}:∀{kvs:List (α×V3)} {ws:List (α×V)},RepP κ β O H kvs ws->kvs.map (·.1)=ws.map (·.1)
 |_,_,.nil=>rfl
 |_,_,.cons _ r=>by rw[Ah,Ah,RepP.keys r]
def Ui {i:Nat} {pos:Pos} {y:Str} {py spos:Pos} {elt tg iter:Expr} {ifs:List Expr} {loc free:List Str} {fr:List Nat} {scope:Scope} {it:I3} {g:G3} {c:T3} {d:E3} (hN:X.N.Nodup) (hi':X.N[i]? =some y) (hx:X.env.scope.names.lookup y=some .local) (hc:X.calm=true) (S:CompScope X loc free fr scope) (hi:PI X tg iter (yp κ E it))
 (hg:∀cl C s H ex,PG (y8 X (loc++free) scope cl C s H ex) tg (yy κ g)) (ht:∀cl C s H ex,PTs (y8 X (loc++free) scope cl C s H ex) ifs (zK κ E0 c)) (he:∀cl C s H ex,PE (y8 X (loc++free) scope cl C s H ex) elt (zh κ E0 d))
 (hs:∀x,foldedSetIterable iter X.env x=pure x:=by intro _;rfl) (hsw:swapsWith (.ListComp elt [⟨tg,iter,ifs,0⟩] scope pos) (some (.Name y py)) spos.line X.env=pure true:=by rfl):
 PS X (.Assign [.Name y py] (.ListComp elt [⟨tg,iter,ifs,0⟩] scope pos) spos) (zo κ E (sSet i (yT (yu loc.length fr it g c d)))):=qg (Mc hN hi' hx hc S hi hg ht he hs hsw) fun D σ H h=>Jj (Nc (IZ h))
end
end L3
namespace L2
open PySem PySem.Spec PySem.W PyProof.Rows
def DP (kvs:List (MK×V)):Prop:=∀p∈kvs,∃k,p.1=MK.one k
def Uj {k:zM} {u:Value} (h:RelV (kV k) u):jx k u=true:=by
 cases k with
 |inl i=>obtain⟨t,rfl⟩:=h;exact Lf i t
 |inr x=>obtain⟨t,rfl⟩:=h;exact Lg x t
theorem Nz {P:Program} {w:World} {H:Hp}:∀{kvs:List (MK×V)} {xs:Tr},KT H kvs xs->DP kvs->∃vs:List (zM×Value),Pairs (yr P w) (xs.map (yq P w)) vs/\Paired (fun (p:MK×V) (q:zM×Value)=>p.1=.one q.1/\RelV p.2 q.2) kvs vs/\xs.map (·.1)=vs.map (fun q=>MK.one q.1)/\∀e∈xs.map (yq P w),∃k,(yr P w).is k e.key=true/\e.hash=(yr P w).hash k
 |_,_,.nil,_=>⟨[],.nil,.nil,rfl,fun e he=>by cases he⟩
 |_,_,.cons (a:=p) (b:=q) ⟨e1,e2,e3⟩ r,pk=>by
  obtain⟨k,hk⟩:=pk p Ak;obtain⟨vs,h1,h2,h3,h4⟩:=Nz (P:=P) (w:=w) r fun x hx=>pk x (Ap _ hx)
  rw[hk]at e2;have ki:=Uj e2;have q1:q.1=.one k:=by rw[<-e1,hk]
  refine⟨(k,q.2.2)::vs,.cons ki rfl h1,.cons ⟨hk,e3⟩ h2,?_,fun e he=>?_⟩
  .rw[Ah,Ah,h3,q1]
  .rcases Ag.mp he with rfl|m
   .refine⟨k,ki,?_⟩
    show q.1.hash P w=_;rw[q1];rfl
   .exact h4 e m
def Jy {P:Program} {w:World} {H:Hp} {h:Heap} {a:Addr} {kvs:List (MK×V)} (ok:HOk P w H h) (e:H a=some (.dT kvs)) (pk:DP kvs):
  (a==sysModules)=false/\∃vs:List (zM×Value),h.DictAt (yr P w) a vs kvs.length/\Paired (fun (p:MK×V) (q:zM×Value)=>p.1=.one q.1/\RelV p.2 q.2) kvs vs:=by
 obtain⟨z,y,xs,r,hm⟩:=DG ok e;obtain⟨o,es,ep,g1,g2,g3,g4,⟨g5,g6⟩,g7⟩:=hm;obtain⟨vs,h1,h2,h3,h4⟩:=Nz (P:=P) (w:=w) r pk;have hl:ep=kvs.length:=by rw[g6,Paired.length r]
 subst hl
 refine⟨y,vs,⟨o,es,g1,g2,g3,fun e he=>h4 e (by rw[<-g4];exact Fa.mpr he),by rw[g4];exact h1,?_⟩,h2⟩
 rw[h3]at g5;exact List.Pairwise.of_map (S:=(· ≠ ·)) (fun k=>MK.one k) (fun a b h e=>h (by rw[e])) (by rw[Bg];exact g5)
def Iti (a:Addr) (n:Nat):It:=
 ⟨fun i H=> ∃kvs,H a=some (.dT kvs)/\DP kvs/\kvs.length=n/\i<n,
  fun i H x H'=> ∃(T:Addr) (k:zM) (v:V),x=.ref T/\H T=none/\H'=zk H T (.tup [kV k,v])/\∀kvs,H a=some (.dT kvs)->kvs[i]? =some (.one k,v),
  fun i H=> ∃kvs,H a=some (.dT kvs)/\DP kvs/\kvs.length=n/\n<=i⟩
def Uk:entryFor table "dict_itemiterator.__iter__" =some Builtin.«dict_keyiterator.__iter__» :=entryFor_alias (id':="dict_keyiterator.__iter__") (by kernel_rfl) rfl (by decide+kernel) (by kernel_rfl)
def Ul {P:Program} {w:World} {K:FG} {elts:List Expr} {x1} {tp:Pos} (a it:Addr) (n:Nat):Turn P w K (.Tuple elts x1 tp) (Iti a n) [it] it (fun i h=> ∃ok ov,IsItemIter h it a i n n ok ov) where
 mem:=by simp
 obj:=fun i h st b hb=>by
  have e:b=it:=by simpa using hb
  subst e;obtain⟨_,_,e⟩:=st;exact⟨_,e,fun v z=>by cases z⟩
 keep:=fun i h h' ⟨ok,ov,st⟩ k=>⟨ok,ov,k it (by simp) _ st⟩
 item:=by
  intro X hP hw hK hc i pins s σ H E I hf st hg;subst hP hw hK;obtain⟨ok,ov,hz⟩:=st;obtain⟨kvs,hq,pk,hn,hi⟩:=hg;subst hn;obtain⟨y,vs,hd,pr⟩:=Jy I.hok hq pk;have hl:=Paired.length pr;have hi':i<vs.length:=by lia
  have hki:kvs[i].1=.one vs[i].1/\RelV kvs[i].2 vs[i].2:=by
   have gen:∀{l:List (MK×V)} {m:List (zM×Value)},Paired (fun (p:MK×V) (q:zM×Value)=>p.1=.one q.1/\RelV p.2 q.2) l m->∀(i:Nat) (h1:i<l.length) (h2:i<m.length),l[i].1=.one m[i].1/\RelV l[i].2 m[i].2:=fun {l m} q=>by
    induction q with
    |nil=>intro i h1;exact absurd h1 (Nat.not_lt_zero _)
    |cons hq _ ih=>
     intro i h1 h2;cases i with
     |zero=>exact hq
     |succ j=>exact ih j (by simpa using h1) (by simpa using h2)
   exact gen pr i hi hi'
  have hzl:IsItemIter s.heap it a i vs.length kvs.length ok ov:=by rw[<-hl];exact hz
  refine wpAny_pyNext_items_item (k:=vs[i].1) (v:=vs[i].2) hzl hd (zI hi') fun key h' a1 a2 a3 a4 hk=>?_
  refine⟨_,rfl,wpAny_letOwnedTupleGo_items a2 fun h'' b1 b2=>?_⟩
  have nz:s.heap.objs.size≠it:=C8 (Ai hz);have k2:∀c o,c∉[it]->s.heap.get? c=some o->h''.get? c=some o:=fun c o hcn e=>by
   have hcn:c≠it:=by simpa using hcn
   exact b2.extBut _ _ hcn (hk c o hcn e)
  have rk:RelV (kV vs[i].1) key:=by
   rcases qR (show jx vs[i].1 key=true from a1) with ⟨j,t,e1,rfl⟩|⟨x,t,e1,rfl⟩
   .rw[e1];exact⟨t,rfl⟩
   .rw[e1];exact⟨t,rfl⟩
  have I':Inv X pins σ (zk H s.heap.objs.size (.tup [kV vs[i].1,kvs[i].2])) {s with heap:=h'',toks:=s.toks}:=
   I.turnLay (ch:=[it]) k2 (fun c hcn=>hf c hcn) (Af _)
    ⟨by show 2<=sizeLine;decide,[key,vs[i].2],.cons rk (.cons hki.2 .nil),⟨_,b2.extBut _ _ nz a3,rfl,_,rfl⟩⟩
  have nf:H s.heap.objs.size=none:=I.hok.fresh (Af _)
  refine⟨.ref s.heap.objs.size,_,I',rfl,⟨_,vs[i].1,kvs[i].2,rfl,nf,rfl,fun ws hw=>?_⟩,⟨_,_,by have b:=b1;rw[<-hl]at b;exact b⟩,fun c hcn=>?_⟩
  .rw[hq]at hw;cases hw
   rw[zI hi,<-hki.1]
  .have hc1:=hf c hcn
   have e:c=it:=by simpa using hcn
   subst e;rw[zQ nz.symm];exact hc1.1
 done:=by
  intro X hP hw hK hc i pins s σ H E I hf st hg;subst hP hw hK;obtain⟨ok,ov,hz⟩:=st;obtain⟨kvs,hq,pk,hn,hi⟩:=hg;subst hn;obtain⟨y,vs,hd,pr⟩:=Jy I.hok hq pk;have hl:=Paired.length pr;have hzl:IsItemIter s.heap it a i vs.length kvs.length ok ov:=by rw[<-hl];exact hz
  obtain⟨f0,f1,f2,f3,f4,f5⟩:=hf it (by simp)
  exact wpAny_pyNext_items_end (I.ok.hd hc) hzl hd (Eg (by lia)) fun h' eb=>⟨rfl,I.turned (t':=s.toks) (fun b o hb e=>eb b o hb e) f0 f1 f3 f4 f5⟩
 self:=fun A i s Q E ⟨ok,ov,hz⟩ h=>by
  have ty:s.TypeIs (.ref it) "dict_itemiterator" :=⟨_,hz,rfl⟩
  refine Fh ty PySem.F.slot_dict_itemiterator_iter (Ca PySem.F.slot_dict_itemiterator_iter ty Uk ?_ (PySem.F.args_dict_itemiterator_iter_1 _))
  show wpAny _ _ (ret (.ref it)) _ _ s;exact Ad ⟨_,rfl,"dict_itemiterator",_,ty,PySem.F.slot_dict_itemiterator_next.lookup,h⟩
def Um (tl:TE):TI:=fun σ H R=>tl σ H fun x H1=> ∃a kvs,x=.ref a/\H1 a=some (.dT kvs)/\DP kvs/\R (Iti a kvs.length) H1
def Uo {X:Cx} {elts:List Expr} {x1} {tp apos pos:Pos} {l:Expr} {tl:TE} (hl:PE X l tl) (hbase:attributeBase l "items" X.env (eval l X.env)=eval l X.env:=by rfl) (hline:(apos.endLine==pos.line)=true:=by rfl):
  PI X (.Tuple elts x1 tp) (.Call (.Attribute l "items" apos) [] [] pos) (Um tl):=by
 intro pins s σ H R I h
 refine wpAny_Call_method (T:="dict") (id:="dict.items") hbase rfl hline PySem.F.plainAttrs_dict PySem.F.slot_dict_items PySem.F.type_dict_items (thn (hl pins s σ H _ I h) fun v s1 ⟨x,H1,I1,r1,q1⟩=>?_)
 obtain⟨a,kvs,e,hq,pk,q⟩:=q1;subst e;cases r1;obtain⟨y,vs,hd,pr⟩:=Jy I1.hok hq pk;have hlen:=Paired.length pr;have hdo:s1.heap.DictOf (yr X.prog X.w) a vs:=let ⟨o,es,r⟩:=hd;⟨o,es,_,r⟩
 refine⟨hdo.typeIs,hdo.mapOf.noDict,?_⟩
 show wpAny _ _ (callWith pos (.builtin "dict.items") [.ref a] [] []) _ _ s1
 refine method_meetsIn PySem.F.slot_dict_items PySem.F.entry_dict_items rfl (PySem.evalArgs_none ⟨rfl,hdo.typeIs,PySem.F.args_dict_items_1 _,_,meets_dict_items (yr X.prog X.w) a y,⟨vs,hdo⟩,?_⟩)
 refine wpAny_pyIter_items (d:=a) (kvs:=vs) (ep:=kvs.length) ⟨_,Bf _ rfl,rfl,rfl⟩ (hd.push _) ?_
 have k1:∀b o,s1.heap.get? b=some o->((s1.heap.push {cls:= .type "dict_items",data:= .fields #[.ref a]}).push {cls:= .type "dict_itemiterator",data:= .fields #[.none,.bool false,.ref a,.int 0 0,.int vs.length 0,.int kvs.length 0,.none,.none]}).get? b=some o:=fun b o e=>Aw _ (Aw _ e)
 have hge:s1.heap.objs.size<=(s1.heap.push {cls:= .type "dict_items",data:= .fields #[.ref a]}).objs.size:=by rw[Co];exact Dg _
 refine⟨_,[_],_,_,H1,rfl,I1.kept (t':=s1.toks) k1,Ul a _ kvs.length,⟨.none,.none,?_⟩,fun b hb=>?_,q⟩
 .have e:=Bf (s1.heap.push {cls:= .type "dict_items",data:= .fields #[.ref a]}) (o:={cls:= .type "dict_itemiterator",data:= .fields #[.none,.bool false,.ref a,.int 0 0,.int vs.length 0,.int kvs.length 0,.none,.none]}) rfl
  rw[<-hlen]at e ⊢;exact e
 .have e:=Ao.mp hb
  subst e;exact I1.fpOk hge (I1.hok.fresh hge)
end L2
namespace Se
open PySem PySem.Spec PyProof.Rows
abbrev Ris (l:List Nat):Prop:=l.Pairwise (· < ·)
def Ris.lt {l:List Nat} (h:Ris l) {i j x y:Nat} (hi:l[i]? =some x) (hj:l[j]? =some y) (hl:i<j):x<y:=by
 obtain⟨a,rfl⟩:=An.mp hi;obtain⟨b,rfl⟩:=An.mp hj;exact Gn.mp h i j a b hl
structure Bel (xs:Array Nat) (j p:Nat):Prop where
 le:p<=xs.size
 lo:∀i x,i<p->xs[i]? =some x->x<j
 hi:∀i x,p<=i->xs[i]? =some x->j<=x
def Uq {xs:Array Nat} {j:Nat} (h:Ris xs.toList):∀(fuel lo hi:Nat),hi-lo<=fuel->lo<=hi->hi<=xs.size->(∀i x,i<lo->xs[i]? =some x->x<j)->(∀i x,hi<=i->xs[i]? =some x->j<=x)->Bel xs j (SetTable.below.go xs j fuel lo hi):=by
 intro fuel
 induction fuel with
 |zero=>intro lo hi a b c d e;unfold SetTable.below.go;exact⟨by lia,d,fun i x hi'=>e i x (by lia)⟩
 |succ n ih=>
  intro lo hi a b c d e;unfold SetTable.below.go
  by_cases hl:lo<hi
  .rw[Ab hl]
   dsimp only;have hm:(lo+hi) / 2<xs.size:=by lia
   have hg:xs[(lo+hi) / 2]? =some xs[(lo+hi) / 2]:=Bm hm;have hd:xs.getD ((lo+hi) / 2) j=xs[(lo+hi) / 2]:=by simp[Array.getD,hm]
   have hgl:xs.toList[(lo+hi) / 2]? =some xs[(lo+hi) / 2]:=by rw[Bo];exact hg
   rw[hd]
   by_cases hx:xs[(lo+hi) / 2]<j
   .rw[Ab hx]
    refine ih _ _ (by lia) (by lia) c (fun i x hi' ex=>?_) e
    by_cases he:i=(lo+hi) / 2
    .subst he;rw[hg]at ex;cases ex;exact hx
    .have:=h.lt (i:=i) (j:=(lo+hi) / 2) (by rw[Bo];exact ex) hgl (by lia);lia
   .rw[Ac hx]
    refine ih _ _ (by lia) (by lia) (by lia) d fun i x hi' ex=>?_
    by_cases he:i=(lo+hi) / 2
    .subst he;rw[hg]at ex;cases ex;lia
    .have:=h.lt (j:=i) (i:=(lo+hi) / 2) hgl (by rw[Bo];exact ex) (by lia);lia
  .rw[Ac hl];exact⟨by lia,d,fun i x hi'=>e i x (by lia)⟩
def Jz {xs:Array Nat} {j:Nat} (h:Ris xs.toList):Bel xs j (SetTable.below xs j):=
 Uq h _ _ _ (by lia) (by lia) (Af _) (fun i x hi=>by lia) fun i x hi e=>by have:=(Array.getElem?_eq_some_iff.mp e).1;lia
def Ur {xs:Array Nat} {j:Nat} (h:Ris xs.toList) (n:xs[SetTable.below xs j]? ≠some j):j∉xs.toList:=fun m=>by
 obtain⟨i,hi⟩:=B6 m;rw[Bo]at hi;have b:=Jz (j:=j) h;have h1:SetTable.below xs j<=i:=Nat.le_of_not_lt fun l=>B7 _ (b.lo i j l hi)
 by_cases e:SetTable.below xs j=i
 .rw[e]at n;exact n hi
 .have hp:SetTable.below xs j<xs.size:=by have:=(Array.getElem?_eq_some_iff.mp hi).1;lia
  have g:xs[SetTable.below xs j]? =some xs[SetTable.below xs j]:=Bm hp;have:=b.hi _ _ (Af _) g;have:=h.lt (i:=SetTable.below xs j) (j:=i) (by rw[Bo];exact g) (by rw[Bo];exact hi) (by lia)
  lia
def Us {xs:Array Nat} {j:Nat} (h:Ris xs.toList) (n:j∉xs.toList):Ris (SetTable.insertAt xs (SetTable.below xs j) j).toList:=by
 have b:=Jz (j:=j) h;generalize SetTable.below xs j=p at b;have e:(SetTable.insertAt xs p j).toList=xs.toList.take p++j::xs.toList.drop p:=by
  unfold SetTable.insertAt;rw[Array.toList_append,Array.toList_push,Array.toList_extract,Array.toList_extract];simp[List.extract_eq_drop_take,B5];rw[Fp (by rw[Em];simp)]
 rw[e];have hl:∀x∈xs.toList.take p,x<j:=fun x hx=>by
  obtain⟨i,hi⟩:=B6 hx;have hip:i<p:=by
   have:=(An.mp hi).1;rw[Be]at this;lia
  rw[Cq hip,Bo]at hi;exact b.lo i x hip hi
 have hh:∀x∈xs.toList.drop p,j<x:=fun x hx=>by
  obtain⟨i,hi⟩:=B6 hx;rw[List.getElem?_drop]at hi
  have m:x∈xs.toList:=Al hi;rw[Bo]at hi;have:=b.hi (p+i) x (by lia) hi
  have hne:x≠j:=fun z=>n (z ▸ m)
  lia
 refine List.pairwise_append.mpr ⟨h.sublist (List.take_sublist _ _),Ex.mpr ⟨hh,h.sublist (List.drop_sublist _ _)⟩,fun x hx y hy=>?_⟩
 rcases Ag.mp hy with z|z
 .subst z;exact hl x hx
 .have:=hl x hx;have:=hh y z;lia
structure Tab (led:Bool) (t:SetTable):Prop where
 ris:Ris t.place.toList
 led:t.led=led
def Ut (n:Nat):Ris (Array.range n).toList:=by rw[Array.toList_range];exact Go
theorem Tab.standIn {led:Bool} {t:SetTable} (h:Tab led t) (n:Nat):Tab led (t.standIn n):=⟨Ut n,h.led⟩
def N0 {t:SetTable} (h:Ris t.place.toList) {j:Nat} (e:∀i,t.slot j≠ .live i):j∉t.place.toList:=by
 refine Ur h fun z=>e (SetTable.below t.place j) ?_
 unfold SetTable.slot;rw[Ab (by rw[z];simp)]
def Uu {t:SetTable} {ha:Nat->Int} {h:Int} (hr:Ris t.place.toList):∀(fuel:Nat) (p:SetTable.Probe) (j:Nat) (d:Option Nat),(∀x,p.dummy=some x->x∉t.place.toList)->SetTable.probe.go t ha h fuel p=some (.empty j d)->d.getD j∉t.place.toList:=by
 intro fuel
 induction fuel with
 |zero=>intro p j d _ e;unfold SetTable.probe.go at e;cases e
 |succ n ih=>
  intro p j d hd e;unfold SetTable.probe.go at e;have adv:∀q:SetTable.Probe,(t.advance q).dummy=q.dummy:=fun q=>by unfold SetTable.advance;split<;>rfl
  cases hs:t.slot p.j with
  |empty=>
   rw[hs]at e;simp only[Cj,SetTable.Met.empty.injEq]at e;obtain⟨rfl,rfl⟩:=e;cases hdd:p.dummy with
   |none=>exact N0 (j:=p.j) hr (by rw[hs];intro i z;cases z)
   |some x=>exact hd x hdd
  |dummy=>
   rw[hs]at e
   refine ih _ j d (fun x hx=>?_) e
   rw[adv]at hx;cases hx;exact N0 hr (by rw[hs];intro i z;cases z)
  |live i=>
   rw[hs]at e;dsimp only at e
   split at e
   .cases e
   .exact ih _ j d (fun x hx=>hd x (by rw[adv]at hx;exact hx)) e
def Uv {t:SetTable} {h:Int} (hr:Ris t.place.toList) {s:Nat} {b:Bool} (e:t.freeSlot h=some (s,b)):s∉t.place.toList:=by
 unfold SetTable.freeSlot at e
 split at e
 .rename_i j d he
  cases e;exact Uu hr _ _ _ _ (fun x hx=>by cases hx) he
 .cases e
def Tab.lay {led:Bool} {t:SetTable} (h:Tab led t) (es:Array (Int×Value)) (k:Int) (x:Value):Tab led (layNew t es k x).2.1:=by
 unfold layNew
 split
 .rename_i s b e
  have hp:Tab led (t.put s).1:=⟨Us h.ris (Uv h.ris e),h.led⟩;dsimp only;unfold SetTable.orStandIn
  split
  .exact hp
  .exact hp.standIn _
 .exact h.standIn _
def Tab.relay {led:Bool} {t:SetTable} (h:Tab led t) (es:Array (Int×Value)) (n:Nat):Tab led (relayAll t es n).2.1:=by
 unfold relayAll
 split
 .rename_i t' o e
  dsimp only
  split
  .unfold SetTable.relaid SetTable.laid at e
   simp only[Option.bind_eq_bind,Option.bind_eq_some_iff,Option.pure_def,Cj,Dx]at e;obtain⟨ow,_,rfl,rfl⟩:=e
   refine⟨?_,h.led⟩
   show Ris (List.map _ _).toArray.toList;rw[List.toList_toArray,List.map_filterMap]
   refine List.Pairwise.filterMap _ (fun a b hab c hc d hd=>?_) (Go (n:=_))
   simp only[Cz]at hc hd;obtain⟨⟨_,_⟩,⟨_,_,e1⟩,rfl⟩:=hc;obtain⟨⟨_,_⟩,⟨_,_,e2⟩,rfl⟩:=hd;cases e1;cases e2;exact hab
  .exact h.standIn _
 .exact h.standIn _
def iv:Value->Int
 |.int i _=>i
 |_=>0
noncomputable abbrev byT (w:World):Bool:=w.params.followText "set-order"
def EI (e:Int×Value):Prop:=∃k tk,e.2=Value.int k tk/\e.1=hashInt k
structure SD (w:World) (ks:List Int) (o:Obj) (es:Array (Int×Value)) (ep:Nat) (t:SetTable):Prop where
 ex:o.ExactSet
 dt:o.data=.set es ep t
 el:∀e∈es.toList,EI e
 pm:(es.toList.map fun e=>iv e.2).Perm ks
 nd:ks.Nodup
 sz:es.size<scanBound
 ft:t.fits es.size=true
 tb:Tab (!byT w) t
def SG (w:World) (h:Heap) (a:Addr) (ks:List Int):Prop:=∃o es ep t,h.get? a=some o/\SD w ks o es ep t
section
variable {prog:Program} {w:World} {A:Around} {E:VP} {s:Shared} {a:Addr} {ks:List Int} {k:Int} {tk:Tok}
def Uw {l:List (Int×Value)} (h:∀e∈l,EI e):ElemsOf (intKind prog w) l:=fun e he=>by
 obtain⟨i,u,e1,e2⟩:=h e he
 refine⟨⟨i,?_,e2⟩,?_⟩
 .show Value.isInt i e.2=true;rw[e1];simp[Value.isInt]
 .rw[e1];rfl
def SD.len {o:Obj} {es:Array (Int×Value)} {ep:Nat} {t:SetTable} (d:SD w ks o es ep t):es.size=ks.length:=by
 rw[<-d.pm.length_eq,Ae,Bz]
def kis {i:Int} {e:Int×Value} (h:EI e):(intKind prog w).is i e.2=decide (iv e.2=i):=by
 obtain⟨k,u,e1,_⟩:=h;show Value.isInt i e.2=_;rw[e1];simp only[Value.isInt,iv]
 by_cases z:k=i
 .subst z;simp
 .simp[z,D2,bne_iff_ne,fun y:i=k=>z y.symm]
def N1 {o:Obj} {es es':Array (Int×Value)} {ep:Nat} {t t':SetTable} {ks':List Int} (ho:s.heap.get? a=some o) (d:SD w ks o es ep t) (el:∀e∈es'.toList,EI e) (pm:(es'.toList.map fun e=>iv e.2).Perm ks') (nd:ks'.Nodup) (sz:es'.size<scanBound) (ft:t'.fits es'.size=true) (tb:Tab (!byT w) t')
  {Q:Unit->Shared->Prop} (h:∀h' o',Heap.SameBut a s.heap h'->h'.get? a=some o'->SD w ks' o' es' (ep+1) t'->Q () {s with heap:=h'}):wpAny (model prog w) A (storeSet a es' t') Q E s:=by
 refine wpAny_storeSet_of ho d.dt (h _ _ (Dd s.heap a (Obj.putSet es' t')) (Dt (Obj.putSet es' t') ho (by rw[putSet_of es' t' d.dt];rfl)) ?_) (fits_of_scanBound sz)
 rw[putSet_of es' t' d.dt];exact⟨d.ex,rfl,el,pm,nd,sz,ft,tb⟩
def tail {g:Bool->Sem Unit} (hg:∀(b:Bool) (s₁:Shared) (Q':Unit->Shared->Prop),Q' () s₁->wpAny (model prog w) A (g b) Q' E s₁) {o:Obj} {es es':Array (Int×Value)} {ep:Nat} {t t':SetTable} {ks':List Int} (ho:s.heap.get? a=some o) (d:SD w ks o es ep t)
  (el:∀e∈es'.toList,EI e) (pm:(es'.toList.map fun e=>iv e.2).Perm ks') (nd:ks'.Nodup) (sz:es'.size<scanBound) (ft:t'.fits es'.size=true) (tb:Tab (!byT w) t') {wd:Bool} {R:Option Bool->Shared->Prop}
  (h:∀h',Heap.SameBut a s.heap h'->SG w h' a ks'->R (some true) {s with heap:=h'}):
  wpAny (model prog w) A (storeSet a es' t' >>=fun _=>
   if (!wd && t'.tooFull)=true then
    g (relayAll t' es' (SetTable.grown es'.size)).2.2 >>=fun _=>
     storeSet a (relayAll t' es' (SetTable.grown es'.size)).1 (relayAll t' es' (SetTable.grown es'.size)).2.1 >>=fun _=>pure (some true)
   else pure (some true)) R E s:=by
 refine Aa (N1 ho d el pm nd sz ft tb fun h1 o1 sb g1 d1=>?_)
 by_cases c:(!wd && t'.tooFull)=true
 .rw[Ab c]
  have p:=relayAll_perm t' es' (SetTable.grown es'.size);have zz:(relayAll t' es' (SetTable.grown es'.size)).1.size=es'.size:=by rw[<-Bz,p.length_eq,Bz]
  refine Aa (hg _ _ _ (Aa (N1 g1 d1 (fun e he=>el e (p.mem_iff.mp he)) ((p.map _).trans pm) nd (by rw[zz];exact sz) (relayAll_fits _ _ _) (tb.relay _ _) fun h2 o2 sb2 g2 d2=>Ad (h h2 (sb.trans sb2) ⟨o2,_,_,_,g2,d2⟩))))
 .rw[Ac c];exact Ad (h h1 sb ⟨o1,_,_,_,g1,d1⟩)
def N2 {l:List Int} {i:Int}:l.any (· ==i)=decide (i∈l):=by
 rw[Fe];simp[Dh]
def Ux {Q:Bool->Shared->Prop} (hS:SG w s.heap a ks) (hroom:ks.length+1<scanBound)
  (h:∀b h',Heap.SameBut a s.heap h'->SG w h' a (step_dedup ks k)->Q b {s with heap:=h'}):wpAny (model prog w) A (setAddHashed a (.int k tk) (hashInt k)) Q E s:=by
 obtain⟨o,es,ep,t,ho,d⟩:=hS;have hel:=Uw (prog:=prog) (w:=w) d.el;have hk:(intKind prog w).is k (.int k tk)=true:=intKind_is _ _ _ _;unfold setAddHashed setAddHashedIn
 refine Bt (Aa (Df ho d.dt d.ft ?_))
 dsimp only;rw[byScan_of (knd:=intKind prog w) (by rfl) d.sz hel]
 simp only[↓reduceIte];unfold setAddByScan
 refine Aa (Aa (Cs (Aa (wpAny_setScan_of (knd:=intKind prog w) hk ho d.dt d.ft hel ?_))))
 cases hr:List.findIdx? (fun e=>(intKind prog w).is k e.2) es.toList with
 |some j=>
  dsimp only;obtain⟨hj,hpj,_⟩:=List.findIdx?_eq_some_iff_getElem.mp hr
  have hm:k∈ks:=by
   rw[kis (d.el _ (Db hj)),Cr]at hpj;exact d.pm.mem_iff.mp (Aj.mpr ⟨_,Db hj,hpj⟩)
  have:=h false s.heap (Heap.SameBut.refl a s.heap) (by unfold step_dedup;rw[Ab (by rw[N2];simpa using hm)];exact⟨o,es,ep,t,ho,d⟩)
  exact Ad (Ad this)
 |none=>
  dsimp only;have hn:k∉ks:=fun m=>by
   obtain⟨e,he,z⟩:=Aj.mp (d.pm.mem_iff.mpr m);have:=List.findIdx?_eq_none_iff.mp hr e he
   rw[kis (d.el e he),z]at this;simp at this
  have es1:step_dedup ks k=ks++[k]:=by unfold step_dedup;rw[Ac (by rw[N2];simpa using hn)]
  rw[es1]at h;have p:=layNew_perm t es (hashInt k) (.int k tk);have f:=layNew_fits t es (hashInt k) (.int k tk);have tb:=d.tb.lay es (hashInt k) (.int k tk);generalize hL:layNew t es (hashInt k) (.int k tk)=L at p f tb;obtain⟨e1,t1,wd,gv⟩:=L;dsimp only at p f tb ⊢;rw[Array.toList_push]at p;have el:∀e∈e1.toList,EI e:=fun e he=>by
   rcases As.mp (p.mem_iff.mp he) with m|m
   .exact d.el e m
   .rw[Ao]at m;subst m;exact⟨k,tk,rfl,rfl⟩
  have pm:(e1.toList.map fun e=>iv e.2).Perm (ks++[k]):=by
   refine (p.map _).trans ?_
   rw[Ax];exact d.pm.append_right _
  have nd:(ks++[k]).Nodup:=Cn.mpr ⟨d.nd,by simp,fun x hx y hy z=>by rw[Ao]at hy;subst hy;subst z;exact hn hx⟩
  have sz:e1.size<scanBound:=by
   rw[<-Bz,p.length_eq,Ar,Bz,d.len];exact hroom
  have hgw:∀(b:Bool) (s₁:Shared) (Q':Unit->Shared->Prop),Q' () s₁->wpAny (model prog w) A (match b with|true=>rule "set.scan.the-table-gave-way" |false=>pure ()) Q' E s₁:=
   fun b s₁ Q' hq=>by cases b<;>first|exact Ad hq|exact Cs hq
  refine Aa (hgw _ _ _ ?_)
  split
  .refine Aa ?_
   rw[hashByValue_scannable 8 (by rfl)]
   refine Ad ?_
   exact tail (fun b s₁ Q' hq=>by cases b<;>first|exact Ad hq|exact Cs hq) ho d el pm nd sz (by simpa[plainKind] using f) (by simpa[plainKind] using tb) fun h' sb g=>Ad (h true h' sb g)
  .refine Aa (Ad ?_)
   simp only[↓reduceIte];exact tail (fun b s₁ Q' hq=>by cases b<;>first|exact Ad hq|exact Cs hq) ho d el pm nd sz f tb fun h' sb g=>Ad (h true h' sb g)
end
def SG.keep {w:World} {h h':Heap} {a:Addr} {ks:List Int} (g:SG w h a ks) (k:∀o,h.get? a=some o->h'.get? a=some o):SG w h' a ks:=let ⟨o,es,ep,t,ho,d⟩:=g;⟨o,es,ep,t,k o ho,d⟩
theorem SG.fresh {w:World} {h:Heap} {a:Addr} (e:h.get? a=some {cls:= .type "set",dict:=none,data:= .set #[] 0 (.fresh 0 0 (!byT w))}):SG w h a []:=
 ⟨_,#[],0,_,e,⟨rfl,rfl,rfl⟩,rfl,fun e he=>by simp at he,.nil,Dl,by decide,by rfl,List.Pairwise.nil,rfl⟩
section
variable {prog:Program} {w:World} {A:Around} {R:Result->Shared->Prop} {I:Addr} {fp wr:List Addr} {G:Array GenState->Array GenState->Prop} {n:Nat} {P:Nat->Value->Prop} {St:Nat->Shared->Prop}
theorem Uy (W:WalksS prog w A.in1 I fp wr G n P St) (S:Addr) (nf:S∉fp) (val:Nat->Int) (hv:∀i v,P i v->∃t,v=.int (val i) t) (hb:n+1<scanBound) (q:Nat):
  ∀(i:Nat) (s:Shared),n-i=q->i<=n->St i s->SG w s.heap S (firstMet val i)->
   (∀s',Moved (S::wr) G s s'->SG w s'.heap S (firstMet val n)->R (.ok (.ret .none)) s')->
   codeAny (model prog w) A (.builtin "set.update.loop" ⟨[.ref S,.ref I],[]⟩) R s:=by
 have nw:S∉wr:=fun h=>nf (W.sub _ h)
 have up:∀b∈wr,b∈S::wr:=fun b hb=>Ap _ hb
 induction q with
 |zero=>
  intro i s e hi st g k;have:i=n:=by lia
  subst this
  refine Eh Gx ?_
  rw[Ey Gp _];show wpAny _ A.in1 (pyNext (.ref I) >>=_) _ _ s
  refine Aa (W.done s _ _ st fun s' m=>?_)
  show wpAny _ A.in1 (ret Value.none) _ _ s';exact Ad (k s' (m.mono up) (g.keep fun o ho=>m.heap S _ nw ho))
 |succ q ih=>
  intro i s e hi st g k
  refine Eh Gx ?_
  rw[Ey Gp _];show wpAny _ A.in1 (pyNext (.ref I) >>=_) _ _ s
  refine Aa (W.item i s _ _ (by lia) st fun v s' hp st' m=>?_)
  obtain⟨t,rfl⟩:=hv i v hp;have g':SG w s'.heap S (firstMet val i):=g.keep fun o ho=>m.heap S _ nw ho
  show wpAny _ A.in1 (holding [Value.int (val i) t] (setAdd S (.int (val i) t)) >>=_) _ _ s'
  refine Aa (Bt ?_)
  unfold setAdd
  refine Bt (Aa ((intKind prog w).pyHash (k:=val i) (intKind_is _ _ _ _) ?_))
  refine Ux (s:={s' with toks:=s'.toks+1}) g' (by have:=firstMet_length_le val i;lia) fun b h' sb g2=>?_
  rw[<-firstMet_succ]at g2
  refine Ad ⟨Ez Gp _,ih (i+1) _ (by lia) (by lia) (W.frame _ s' _ _ st' (Dg _) fun b hb o e=>?_) g2 fun s'' m2 g3=>?_⟩
  .rw[sb.2 b fun z=>nf (by rw[<-z];exact hb)];exact e
  .refine k s'' (Moved.trans W.gtrans ((m.mono up).then_heap (Dg _) fun b o hb e=>?_) m2) g3
   rw[sb.2 b fun z=>hb (by rw[z];exact Ak)];exact e
end
section
variable {prog:Program} {w:World} {A:Around} {E:VP} {s:Shared}
abbrev emp (w:World):Obj:={cls:= .type "set",dict:=none,data:= .set #[] 0 (.fresh 0 0 (!byT w))}
def made (a:Value) {Q₁:VP} (h:Q₁ (.ref s.heap.objs.size) {s with heap:=s.heap.push (emp w)}):
  codeAny (model prog w) A (.call (.builtin "set.__new__") ⟨[.type "set",a],[]⟩) (wants Q₁ E) s:=by
 refine codeAny_of_tree ?_
 show wpAny _ A.in1 (checkBuiltinCall "set.__new__" ⟨[.type "set",a],[]⟩ >>=fun _=>again (.builtin "set.__new__" ⟨[.type "set",a],[]⟩)) _ _ s
 refine Aa (wpAny_of_eq (PySem.F.newCall_set_1 a) (Ad ⟨Ez PySem.F.plain_set_new _,Eh PySem.F.entry_set_new ?_⟩))
 rw[Ey PySem.F.plain_set_new _];unfold Builtin.«set.__new__» Builtin.Frozenset.newClass;have hsub:=sub_set_self;obtain⟨hp,g,d,tk,os⟩:=s;dsimp only
 wp_walk
 refine Fq (Ad ?_)
 dsimp only;simp only[newObj];exact Aa (wpAny_alloc (Ad (Ad h)))
set_option maxHeartbeats 3200000 in
def Uz {l:Addr} {items:Array Value} {ns:List Int} {Q:VP} (hh:A.handled=none) (hl:s.heap.IsList l items) (hi:IntsAre items.toList ns) (hb:items.size+1<scanBound)
  (h:∀(h':Heap) (tk:Nat),SG w h' s.heap.objs.size (firstMet (fun i=>ns.getD i 0) items.size)->(∀b o,b<s.heap.objs.size->s.heap.get? b=some o->h'.get? b=some o)->s.toks<=tk->Q (.ref s.heap.objs.size) {s with heap:=h',toks:=tk}):
  wpAny (model prog w) A (call (.type "set") [.ref l]) Q E s:=by
 obtain⟨c,tl,m1⟩:=Dm.mro;have m2:=Dm.made;have m3:=Dm.sub
 refine wpAny_call (codeAny_of_tree ?_)
 show wpAny _ _ (callAny (.type "set") _) _ _ _
 refine Ad ⟨Code.quiet_builtin _ (by decide+kernel),Eh PySem.F.entry_type_call ?_⟩
 rw[Around.under_plain (weight_type_call_type "set" [.ref l] []) rfl];have m4:=Dm.notType;have m5:=Dm.canCreate;have m6:=PySem.F.typeCall_set_1 (.ref l)
 repeat (any_goals (first|assumption|wp_step))
 refine D6 (made (.ref l) (E:=E) (Q₁:=fun obj s₁=>obj=.ref s.heap.objs.size/\s₁={s with heap:=s.heap.push (emp w)}) ⟨rfl,rfl⟩) fun r s₁ hr=>?_
 cases r with
 |error e=>exact hr
 |ok fl=>
  cases fl with
  |ret obj=>
   obtain⟨rfl,rfl⟩:=hr;have g0:(s.heap.push (emp w)).get? s.heap.objs.size=some (emp w):=Bf _ rfl;have t0:Shared.TypeIs {s with heap:=s.heap.push (emp w)} (.ref s.heap.objs.size) "set" :=⟨_,g0,rfl⟩
   have m7:=Dm.init.lookup;have m8:=Dm.init.bind (.ref s.heap.objs.size)
   repeat (any_goals (first|assumption|wp_step))
   refine D6 (codeAny_call_builtin (R:=wants (fun r s₂=>r=.none/\∃h' tk,s₂={s with heap:=h',toks:=tk}/\SG w h' s.heap.objs.size (firstMet (fun i=>ns.getD i 0) items.size)/\(∀b o,b<s.heap.objs.size->s.heap.get? b=some o->h'.get? b=some o)/\s.toks<=tk) E) Dm.init.plain PySem.F.entry_set_init (check_set_init_1 t0 ?_)) fun r₂ s₂ hr₂=>?_
   .have l1:(s.heap.push (emp w)).IsList l items:=hl.push _
    have hlS:l<s.heap.objs.size:=by obtain⟨ol,hol,_⟩:=hl;exact Ai hol
    obtain⟨ol,hol,hcl,nl,hdl⟩:=l1;have l1:(s.heap.push (emp w)).IsList l items:=⟨ol,hol,hcl,nl,hdl⟩;obtain⟨ocls,odict,odata,oslots⟩:=ol;simp only at hcl hdl;subst hcl;subst hdl;have m9:=PySem.F.sub_list_set;have m10:=PySem.F.sub_list_frozenset;have m11:(Value.type "list" ==Value.type "dict")=false:=by decide
    unfold Builtin.«set.__init__» noKeywords Builtin.Frozenset.updateFrom;generalize hPI:pyIter=PI
    wp_walk
    subst hPI
    refine E8 l1 (Aa (wpAny_runValue ?_))
    have h3:A.in1.in1.in1.handled=none:=by simp[hh]
    have n1:l≠(s.heap.push (emp w)).objs.size:=by rw[Co];exact Av (Eb hlS)
    have n2:s.heap.objs.size∉[(s.heap.push (emp w)).objs.size,l]:=by
     rw[Co];simp only[Ag,By,Bp,not_or];exact⟨Av (Dq _),C8 hlS⟩
    refine Uy ((Walks.list h3 _ l n1 items).toS) s.heap.objs.size n2 (fun i=>ns.getD i 0) (fun i v hv=>IntsAre.int_at hi i v (by rw[Bo];exact hv)) hb (items.size-0) 0 _ rfl (Bx _) ⟨⟨_,Bf _ rfl,rfl,rfl⟩,l1.push _⟩ (SG.fresh (Aw _ g0)) ?_
    intro s' hm g;obtain⟨h',g',d',tk',os'⟩:=s';have eg:g'=s.gens:=hm.gens;have ed:d'=s.drawn:=hm.drawn;have eo:os'=s.os:=hm.os;subst eg;subst ed;subst eo;show wpAny _ _ _ _ _ _
    refine Ad ?_
    show wpAny _ _ (ret Value.none) _ _ _
    refine Ad ⟨rfl,h',tk',rfl,g,fun b o hb e=>?_,hm.toks⟩
    refine hm.heap b o ?_ (Aw _ (Aw _ e))
    rw[Co];simp only[Ag,By,Bp,not_or];exact⟨Av hb,Av (Eb hb)⟩
   .cases r₂ with
    |error e=>exact hr₂
    |ok fl₂=>
     cases fl₂ with
     |ret r=>
      obtain⟨rfl,h',tk,rfl,a1,a2,a3⟩:=hr₂
      repeat (any_goals (first|assumption|wp_step))
      exact h _ _ a1 a2 a3
     |_=>exact hr₂.elim
  |_=>exact hr.elim
end
def U0 {M:Model} {A:Around} {E:VP} {s:Shared} {src:Source} {n:Nat} {Q:Nat->Shared->Prop} (hn:n≠0) (h:∀i d,i<n->Q i {s with drawn:=d}):wpAny M A (choose src n) Q E s:=
 fun _ _ _=>⟨hn,h _ _ (Nat.mod_lt _ (Nat.pos_of_ne_zero hn))⟩
theorem J0 {α:Type}:∀{l:List α} {i:Nat} (h:i<l.length),(l[i]::l.eraseIdx i).Perm l
 |x::r,0,_=>.rfl
 |x::r,i+1,h=>(List.Perm.swap x (r[i]'(by simpa using h)) (r.eraseIdx i)).trans ((J0 (by simpa using h)).cons x)
theorem N3 {α:Type} {M:Model} {A:Around} {E:VP}:∀(n:Nat) (xs:List α) {s:Shared} {Q:List α->Shared->Prop},xs.length<=n->(∀l d,l.Perm xs->Q l {s with drawn:=d})->wpAny M A (drawOrder n xs) Q E s
 |0,xs,s,Q,hl,h=>by
  have:xs=[]:=Ea (by lia)
  subst this;unfold drawOrder;exact Ad (h [] s.drawn .nil)
 |n+1,[],s,Q,hl,h=>by unfold drawOrder;exact Ad (h [] s.drawn .nil)
 |n+1,x::r,s,Q,hl,h=>by
  unfold drawOrder
  refine Aa (U0 (by simp) fun i d hi=>?_)
  rw[zI hi];dsimp only
  refine Aa (N3 n _ (by rw[List.length_eraseIdx_of_lt hi];simp at hl ⊢;lia) fun l d' hp=>Ad (h _ d' ?_))
  exact (hp.cons _).trans (J0 hi)
theorem N4 {α:Type} {next:Nat->Nat}:∀(fuel k:Nat) (left:List α) (out:Array α),left.length=fuel->(pickOrder.go next fuel k left out).toList.Perm (out.toList++left)
 |0,k,left,out,h=>by
  have:left=[]:=Ea h;subst this;unfold pickOrder.go;simp
 |f+1,k,left,out,h=>by
  unfold pickOrder.go;have hi:next k%left.length<left.length:=Nat.mod_lt _ (by lia)
  rw[zI hi];dsimp only
  refine (N4 f _ _ _ (by rw[List.length_eraseIdx_of_lt hi];lia)).trans ?_
  rw[Array.toList_push,B5];exact (J0 hi).append_left _
def N5 {α:Type} (next:Nat->Nat) (xs:Array α):(pickOrder next xs).toList.Perm xs.toList:=by
 unfold pickOrder;have:=N4 (next:=next) xs.size 0 xs.toList #[] (by simp)
 simpa using this
noncomputable def atP (t:SetTable):Nat->Nat
 |0=>0
 |i+1=>t.place.getD i 0+1
def N6 {t:SetTable} (h:Ris t.place.toList) {i:Nat} (hi:i<=t.place.size):SetTable.below t.place (atP t i)=i:=by
 have b:=Jz (j:=atP t i) h;have get:∀{k:Nat},k<t.place.size->t.place[k]? =some (t.place.getD k 0):=fun {k} hk=>by
  rw[Bm hk];simp[Array.getD,hk]
 generalize hp:SetTable.below t.place (atP t i)=p at b;cases i with
 |zero=>
  cases p with
  |zero=>rfl
  |succ q=>
   have:=b.le;have:=b.lo 0 _ (by lia) (get (k:=0) (by lia))
   simp[atP]at this
 |succ j=>
  have hj:=get (k:=j) (by lia)
  have h1: ¬p<=j:=fun z=>by have:=b.hi j _ z hj;simp only[atP]at this;lia
  by_cases h2:p=j+1
  .exact h2
  .have hk:=get (k:=j+1) (by have:=b.le;lia)
   have l1:=b.lo (j+1) _ (by lia) hk
   have l2:=h.lt (i:=j) (j:=j+1) (by rw[Bo];exact hj) (by rw[Bo];exact hk) (by lia)
   simp only[atP]at l1;lia
noncomputable def dr (es:Array (Int×Value)) (t:SetTable):Bool:= !t.plain && decide (es.size > 1)
inductive Way (w:World) (S:Addr) (es:Array (Int×Value)) (ep:Nat) (t:SetTable) (i:Nat) (h:Heap):Value->List Value->Prop
 |text (e:byT w=true):Way w S es ep t i h (.int 0 0) ((pickOrder (w.params.setOrder S ep) es).toList.map (·.2))
 |table (e:byT w=false) (d:dr es t=false):Way w S es ep t i h (.int (atP t i) 0) (es.toList.map (·.2))
 |drawn (pl:List Nat) (T:Addr) (o:Obj) (z:Nat) (p:pl.Perm (List.range es.size)) (g:h.get? T=some o) (d:o.data=.seq (pl.map fun (k:Nat)=>Value.int (k:Int) 0).toArray z):Way w S es ep t i h (.ref T) (pl.map fun k=>(es[k]?.map (·.2)).getD .none)
def Way.perm {w:World} {S:Addr} {es:Array (Int×Value)} {ep:Nat} {t:SetTable} {i:Nat} {h:Heap} {f:Value} {ord:List Value} (W:Way w S es ep t i h f ord):ord.Perm (es.toList.map (·.2)):=by
 cases W with
 |text e=>exact (N5 _ _).map _
 |table e d=>exact .rfl
 |drawn pl T o z p g d=>
  refine (p.map _).trans ?_
  have:(List.range es.size).map (fun k=>(es[k]?.map (·.2)).getD Value.none)=es.toList.map (·.2):=by
   refine Dy (by simp) fun k h1 h2=>?_
   have hk:k<es.size:=by simpa using h1
   simp[hk]
  rw[this]
structure At (w:World) (S I:Addr) (T:Option Addr) (es:Array (Int×Value)) (ep:Nat) (t:SetTable) (ord:List Value) (i:Nat) (h:Heap):Prop where
 set:∃o,h.get? S=some o/\o.data=.set es ep t
 ft:t.fits es.size=true
 tb:Tab (!byT w) t
 it:∃f,h.get? I=some {cls:= .type "set_iterator",dict:=none,data:= .fields #[f,.int i 0,.ref S,.int es.size 0,.int ep 0],slots:= #[]}/\Way w S es ep t i h f ord/\∀x,f=.ref x->T=some x
abbrev SI:String:="set_iterator"
def si_next:Slot SI "__next__" "set_iterator.__next__" :=
 .of (owner:=SI) (n:="__next__") (by rw[typeLookup_type,Gq];kernel_rfl) (by decide+kernel) (by decide+kernel) (by decide+kernel) (by first|exact .inl (by decide+kernel)|exact .inr (by decide+kernel)) (by rw[isSubtype_type];kernel_rfl)
def N7:entryFor table "set_iterator.__next__" =some Builtin.«set_iterator.__next__» :=entryFor_of_tree (by kernel_rfl)
def N8:Manifest.owners.lookup (String.ofList "rotareti_tes".toList.reverse)=some Manifest.sig_set_iterator:=by kernel_rfl
def N9 (a:Value):argsOk "set_iterator.__next__" ⟨[a],[]⟩:=by
 unfold argsOk;rw[signature?_of (id:="set_iterator.__next__") (n:="__txen__".toList) (o:="rotareti_tes".toList) (by kernel_rfl) N8];kernel_rfl
def U1:entryFor table "set.__iter__" =some Builtin.«frozenset.__iter__» :=entryFor_alias (id':="frozenset.__iter__") (by kernel_rfl) rfl (by decide+kernel) (by kernel_rfl)
section
variable {prog:Program} {w:World} {A:Around} {E:VP} {s:Shared} {S I:Addr} {T:Option Addr} {es:Array (Int×Value)} {ep:Nat} {t:SetTable} {ord:List Value} {i:Nat}
def CQ {Q:Bool->Shared->Prop} (h:Q (byT w) s):wpAny (model prog w) A setsByText Q E s:=by
 unfold setsByText;exact Aa (Fq (Ad h))
theorem put2 {f f':Value} {v:Value} {i n ep:Nat} {S:Addr} {Q:Option Value->Shared->Prop} {E':VP} {A':Around} (hi:s.heap.get? I=some {cls:= .type SI,dict:=none,data:= .fields #[f,.int i 0,.ref S,.int n 0,.int ep 0],slots:= #[]})
  (h:∀h',Heap.SameBut I s.heap h'->h'.get? I=some {cls:= .type SI,dict:=none,data:= .fields #[f',.int (i+1:Nat) 0,.ref S,.int n 0,.int ep 0],slots:= #[]}->wpAny (model prog w) A' (pure (some v)) Q E {s with heap:=h'}):
  wpAny (model prog w) A (setField (.ref I) 0 f' >>=fun _=>setField (.ref I) 1 (rawInt ((i:Int)+1)) >>=fun _=>ret v) (fun fin s'=> ∃v,fin=Fin.done (Flow.ret v)/\wpAny (model prog w) A' (pure (some v)) Q E s') E' s:=by
 refine Aa (Ei hi (by simp) fun h1 g1 sb1=>Aa (Ei (s:={s with heap:=h1}) g1 (by simp) fun h2 g2 sb2=>Ad ⟨_,rfl,h h2 (sb1.trans sb2) ?_⟩))
 rw[g2];simp[rawInt]
theorem U2 {v:Value} {Q:Option Value->Shared->Prop} (hA:At w S I T es ep t ord i s.heap) (hv:ord[i]? =some v) (hIS:I≠S) (hT:∀x,T=some x->x≠I)
  (h:∀h',Heap.SameBut I s.heap h'->At w S I T es ep t ord (i+1) h'->Q (some v) {s with heap:=h'}):wpAny (model prog w) A (pyNext (.ref I)) Q E s:=by
 obtain⟨⟨o,ho,hd⟩,ft,tb,f,hi,W,hT'⟩:=hA;have ty:s.TypeIs (.ref I) SI:=⟨_,hi,rfl⟩;unfold pyNext
 refine Aa (wpAny_attempt (Ds (name:=Str.ofString "__next__") ty si_next (Ca si_next ty N7 ?_ (N9 _))))
 unfold Builtin.«set_iterator.__next__»
 refine Aa (Ad ?_)
 refine Aa (Ef hi rfl ?_)
 dsimp only
 refine Aa (wpAny_setEntries_of ho hd ft ?_)
 rw[Ac (by simp)]
 cases W with
 |text e=>
  have hl:i<(pickOrder (w.params.setOrder S ep) es).size:=by
   have:=(An.mp hv).1;simpa using this
  refine Aa ?_
  unfold setNext
  refine Aa (Df ho hd ft (Aa (CQ ?_)))
  rw[Ab e,Ac (by simp)]
  refine Aa (Aa ?_)
  refine Df ho hd ft (Aa (CQ ?_))
  rw[Ab e]
  refine Aa (Fq (Ad (Ad ?_)))
  rw[B3,show (pickOrder (({program:=(model prog w).prog,params:=(model prog w).w.params}:Setting).params.setOrder S ep) es)[i]? =_ from Bm hl]
  have ev:v=(pickOrder (w.params.setOrder S ep) es)[i].2:=by
   rw[Az,Bo,Bm hl]at hv;exact (Option.some.inj hv).symm
  rw[ev]at h;exact put2 hi (fun h' sb g'=>Ad (h h' sb ⟨⟨o,(sb.2 S hIS.symm).trans ho,hd⟩,ft,tb,_,g',.text e,fun x z=>by cases z⟩))
 |table e d=>
  refine Aa ?_
  unfold setNext
  refine Aa (Df ho hd ft (Aa (CQ ?_)))
  rw[Ac (by rw[e];simp)]
  show wpAny _ _ (if dr es t=true then _ else _) _ _ _
  rw[Ac (by rw[d];simp)]
  show wpAny _ _ ((if (!t.led && !es.isEmpty)=true then unsupported "set:maker-not-led" else pure ()) >>=_) _ _ _
  rw[Ac (by rw[tb.led,e];simp)]
  refine Aa (Ad (Ad ?_))
  have hz:t.place.size=es.size:=by simp only[SetTable.fits,Bi,Cy]at ft;exact ft.1
  have hl:i<es.size:=by have:=(An.mp hv).1;simpa using this
  rw[B3,N6 tb.ris (by lia),Bm hl,Bm (by lia:i<t.place.size)]
  have ev:v=es[i].2:=by
   rw[Az,Bo,Bm hl]at hv;exact (Option.some.inj hv).symm
  rw[ev]at h;have en:t.place[i]+1=atP t (i+1):=by
   have:i<t.place.size:=by lia
   simp[atP,Array.getD,this]
  refine put2 (f':=rawInt ((t.place[i]+1:Nat):Int)) hi (fun h' sb g'=>Ad (h h' sb ⟨⟨o,(sb.2 S hIS.symm).trans ho,hd⟩,ft,tb,_,g',?_,fun x z=>by cases z⟩))
  rw[en];exact .table e d
 |drawn pl T' o' z p g d=>
  refine Aa (wpAny_seqItems g d ?_)
  dsimp only;have hl:i<pl.length:=by have:=(An.mp hv).1;simpa using this
  have hp:pl[i]<es.size:=by have:=p.mem_iff.mp (Db hl);simpa using this
  have ev:v=es[pl[i]].2:=by
   rw[Az,zI hl]at hv;simp only[Aq,Cj]at hv;rw[Bm hp]at hv;exact hv.symm
  have eg:((pl.map fun (k:Nat)=>Value.int (k:Int) 0).toArray)[((i:Nat):Int).toNat]? =some (.int (pl[i]:Nat) 0):=by
   rw[B3,List.getElem?_toArray,Az,zI hl];rfl
  rw[eg];dsimp only
  refine Aa ?_
  unfold setNextDrawn
  refine Aa (Df ho hd ft ?_)
  dsimp only;rw[Ac (by simp),B3,Bm hp]
  refine Aa (Ad (Ad ?_))
  rw[ev]at h;have hTI:T'≠I:=hT T' (hT' T' rfl)
  refine Aa (Ei hi (by simp) fun h' g' sb=>Ad ⟨_,rfl,Ad (h h' sb ⟨⟨o,(sb.2 S hIS.symm).trans ho,hd⟩,ft,tb,.ref T',?_,.drawn pl T' o' z p ((sb.2 T' hTI).trans g) d,hT'⟩)⟩)
  rw[g'];simp[rawInt]
end
section
variable {prog:Program} {w:World} {A:Around} {E:VP} {s:Shared} {S I:Addr} {T:Option Addr} {es:Array (Int×Value)} {ep:Nat} {t:SetTable} {ord:List Value} {i:Nat}
def NA {α:Type} {R:α->Shared->Prop} {Q:Option Value->Shared->Prop} (hh:A.handled=none) (h:∀h',(∀b o,s.heap.get? b=some o->h'.get? b=some o)->Q none {s with heap:=h'}):
  wpAny (model prog w) A.in1 (newExc (.type "StopIteration") [] >>=fun e=>(raiseNew e:Sem α)) R (fun e s'=>wpAny (model prog w) A (isInstance e (.type "StopIteration") >>=fun b=>if b=true then pure none else throw e) Q E s') s:=by
 refine Aa ?_
 simp only[newExc,newTuple]
 refine Aa (Cd ?_ (by size_fits))
 refine Aa (m:=firstArgMember _ _) (wpAny_of_eq (a:=Value.none) (by first|rfl|(simp only[firstArgMember];rfl)) (Cd ?_ (by size_fits)))
 simp only[raiseNew]
 refine Aa (wpAny_handled ?_)
 rw[show A.in1.handled=none from hh]
 refine Aa (Ad (wpAny_throw ?_))
 exact Aa (wpAny_isInstance (T:="StopIteration") (b:=true) ⟨_,Bf _ rfl,rfl⟩ isSubtype_stop (Ad (h _ fun b o e=>Aw _ (Aw _ e))))
theorem U3 {Q:Option Value->Shared->Prop} (hh:A.handled=none) (hA:At w S I T es ep t ord es.size s.heap) (hIS:I≠S)
  (h:∀h',(∀b o,b≠I->s.heap.get? b=some o->h'.get? b=some o)->Q none {s with heap:=h'}):wpAny (model prog w) A (pyNext (.ref I)) Q E s:=by
 obtain⟨⟨o,ho,hd⟩,ft,tb,f,hi,W,hT'⟩:=hA;have ty:s.TypeIs (.ref I) SI:=⟨_,hi,rfl⟩;have end2:∀{R:Fin->Shared->Prop},wpAny (model prog w) A.in1 (setField (.ref I) 2 Value.none >>=fun _=>newExc (.type "StopIteration") [] >>=fun e=>(raiseNew e:Sem Fin)) R (fun e s'=>wpAny (model prog w) A (isInstance e (.type "StopIteration") >>=fun b=>if b=true then pure none else throw e) Q E s') s:=fun {R}=>
  Aa (Ei hi (by simp) fun h1 g1 sb=>NA (s:={s with heap:=h1}) hh fun h' k=>h h' fun b o hb e=>k b o ((sb.2 b hb).trans e))
 unfold pyNext
 refine Aa (wpAny_attempt (Ds (name:=Str.ofString "__next__") ty si_next (Ca si_next ty N7 ?_ (N9 _))))
 unfold Builtin.«set_iterator.__next__»
 refine Aa (Ad ?_)
 refine Aa (Ef hi rfl ?_)
 dsimp only
 refine Aa (wpAny_setEntries_of ho hd ft ?_)
 rw[Ac (by simp)]
 have hpz:∀(f:Nat->Nat),(pickOrder f es).size=es.size:=fun f=>by
  have:=(N5 f es).length_eq;simpa using this
 cases W with
 |text e=>
  refine Aa ?_
  unfold setNext
  refine Aa (Df ho hd ft (Aa (CQ ?_)))
  rw[Ab e,Ac (by simp)]
  refine Aa (Aa ?_)
  refine Df ho hd ft (Aa (CQ ?_))
  rw[Ab e]
  refine Aa (Fq (Ad (Ad ?_)))
  rw[B3,Fo (by rw[hpz];exact Af _)]
  exact end2
 |table e d=>
  refine Aa ?_
  unfold setNext
  refine Aa (Df ho hd ft (Aa (CQ ?_)))
  rw[Ac (by rw[e];simp)]
  show wpAny _ _ (if dr es t=true then _ else _) _ _ _
  rw[Ac (by rw[d];simp)]
  show wpAny _ _ ((if (!t.led && !es.isEmpty)=true then unsupported "set:maker-not-led" else pure ()) >>=_) _ _ _
  rw[Ac (by rw[tb.led,e];simp)]
  refine Aa (Ad (Ad ?_))
  have hz:t.place.size=es.size:=by simp only[SetTable.fits,Bi,Cy]at ft;exact ft.1
  rw[B3,N6 tb.ris (by lia),Fo (Af _)]
  exact end2
 |drawn pl T' o' z p g d=>
  refine Aa (wpAny_seqItems g d ?_)
  dsimp only;have hl:pl.length=es.size:=by rw[p.length_eq,Bq]
  rw[B3,Fo (by simp[hl])]
  dsimp only
  refine Aa (Ei hi (by simp) fun h1 g1 sb=>Aa (Ei (s:={s with heap:=h1}) g1 (by simp) fun h2 g2 sb2=>NA (s:={s with heap:=h2}) hh fun h' k=>h h' fun b o hb e=>k b o (((sb2.2 b hb).trans (sb.2 b hb)).trans e)))
theorem U4 {Q:VP} {ks:List Int} {o:Obj} (ho:s.heap.get? S=some o) (d:SD w ks o es ep t)
  (h:∀(I:Addr) (T:Option Addr) (ord:List Value) (h':Heap) (dr:Drawn),(∀b o,s.heap.get? b=some o->h'.get? b=some o)->s.heap.objs.size<=I->I<h'.objs.size->(∀x,T=some x->s.heap.objs.size<=x/\x<h'.objs.size/\x≠I)->At w S I T es ep t ord 0 h'->ord.Perm (es.toList.map (·.2))->Q (.ref I) {s with heap:=h',drawn:=dr}):wpAny (model prog w) A (pyIter (.ref S)) Q E s:=by
 have ty:s.TypeIs (.ref S) "set" :=⟨o,ho,d.ex.1⟩
 refine Fh ty PySem.F.slot_set_iter (Ca PySem.F.slot_set_iter ty U1 ?_ (PySem.F.args_set_iter_1 _))
 unfold Builtin.«frozenset.__iter__»
 refine Aa (Ad ?_)
 refine Aa ?_
 unfold Builtin.Frozenset.sizeOf
 refine Aa (wpAny_setEntries_of ho d.dt d.ft (Ad ?_))
 refine Aa ?_
 unfold setDrawn
 refine Aa (Df ho d.dt d.ft (Aa (CQ (Ad ?_))))
 show wpAny _ _ (if (!byT w && dr es t)=true then _ else _) _ _ _
 have fin:∀(f:Value) (h1:Heap) (dd:Drawn) (T:Option Addr) (ord:List Value),(∀b o,s.heap.get? b=some o->h1.get? b=some o)->s.heap.objs.size<=h1.objs.size->(∀x,T=some x->s.heap.objs.size<=x/\x<h1.objs.size)->(∀x,f=.ref x->T=some x)->(∀h',(∀b o,h1.get? b=some o->h'.get? b=some o)->Way w S es ep t 0 h' f ord)->wpAny (model prog w) A.in1 (setEpoch S >>=fun e=>newFields "set_iterator" [f,rawInt 0,.ref S,rawInt es.size,rawInt e] >>=fun r=>ret r)
   (fun fin s'=> ∃v,fin=Fin.done (Flow.ret v)/\∃T' r,s'.TypeIs v T'/\typeLookup (.type T') "__next__" =pure (some r)/\Q v s') E {s with heap:=h1,drawn:=dd}:=by
  intro f h1 dd T ord k1 k2 k3 k4 W
  refine Aa (wpAny_setEpoch_of (s:={s with heap:=h1,drawn:=dd}) (k1 _ _ ho) d.dt d.ft ?_)
  refine Aa (Cd (Ad ⟨_,rfl,SI,_,⟨_,Bf _ rfl,rfl⟩,si_next.lookup,?_⟩))
  have kk:∀b o,h1.get? b=some o->(h1.push {cls:= .type SI,data:= .fields #[f,rawInt 0,.ref S,rawInt es.size,rawInt ep]}).get? b=some o:=fun b o e=>Aw _ e
  have W':=W _ kk
  refine h h1.objs.size T ord _ dd (fun b o e=>kk b o (k1 b o e)) k2 (by rw[Co];exact Dq _) (fun x hx=>⟨(k3 x hx).1,by rw[Co];exact Eb (k3 x hx).2,Av (k3 x hx).2⟩) ⟨⟨o,kk _ _ (k1 _ _ ho),d.dt⟩,d.ft,d.tb,f,?_,W',k4⟩ W'.perm
  exact Bf _ rfl
 by_cases c:(!byT w && dr es t)=true
 .rw[Ab c]
  refine Aa (N3 _ _ (by simp) fun l dd hp=>Aa ?_)
  have hz:l.length=es.size:=by rw[hp.length_eq,Bq]
  have hsz:=d.sz
  refine Cd ?_ (by have:=fits_of_scanBound d.sz;unfold sizeOk;simpa[hz] using this)
  refine fin (.ref s.heap.objs.size) _ dd (some s.heap.objs.size) (l.map fun k=>(es[k]?.map (·.2)).getD .none) (fun b o e=>Aw _ e) (by rw[Co];exact Dg _) (fun x z=>by cases z;exact⟨Af _,by rw[Co];exact Dq _⟩) (fun x z=>by cases z;rfl) fun h' k=>?_
  exact .drawn l _ _ _ hp (k _ _ (Bf _ rfl)) rfl
 .rw[Ac c]
  refine Aa (Ad ?_)
  by_cases e:byT w=true
  .exact fin (rawInt 0) s.heap s.drawn none _ (fun _ _ e=>e) (Af _) (fun x z=>by cases z) (fun x z=>by cases z) fun h' _=>.text e
  .have e':byT w=false:=by simpa using e
   exact fin (rawInt 0) s.heap s.drawn none _ (fun _ _ e=>e) (Af _) (fun x z=>by cases z) (fun x z=>by cases z) fun h' _=>.table e' (by rw[e']at c;simpa using c)
end
def U5:typeLookup (.type "set") "__len__" =pure (some (.builtin "set.__len__")):=by rw[typeLookup_type,Gq];kernel_rfl
def NB:Slot SI "__iter__" "set_iterator.__iter__" :=
 .of (owner:=SI) (n:="__iter__") (by rw[typeLookup_type,Gq];kernel_rfl) (by decide+kernel) (by decide+kernel) (by decide+kernel) (by first|exact .inl (by decide+kernel)|exact .inr (by decide+kernel)) (by rw[isSubtype_type];kernel_rfl)
def U6:entryFor table "set_iterator.__iter__" =some Builtin.«dict_keyiterator.__iter__» :=entryFor_alias (id':="dict_keyiterator.__iter__") (by kernel_rfl) rfl (by decide+kernel) (by kernel_rfl)
def U7 (a:Value):argsOk "set_iterator.__iter__" ⟨[a],[]⟩:=by
 unfold argsOk;rw[signature?_of (id:="set_iterator.__iter__") (n:="__reti__".toList) (o:="rotareti_tes".toList) (by kernel_rfl) N8];kernel_rfl
section
variable {prog:Program} {w:World} {A:Around} {E:VP} {s:Shared} {S I:Addr} {T:Option Addr} {es:Array (Int×Value)} {ep:Nat} {t:SetTable} {ord:List Value} {i:Nat}
theorem U8 {Q:Bool->Shared->Prop} (hT:s.TypeIs (.ref S) "set") (h:Q false s):wpAny (model prog w) A (Builtin.List.listLengthHint (.ref S)) Q E s:=by
 unfold Builtin.List.listLengthHint
 refine Aa (wpAny_specialOf hT U5 ?_)
 generalize hid:("set.__len__" :String)=id0
 wp_delta
 rw[show splitId id0=some ("set","__len__") from by subst hid;decide+kernel]
 subst hid
 refine Aa (wpAny_isInstance (T:="set") (b:=true) hT (by rw[isSubtype_type];kernel_rfl) ?_)
 refine Dj (fun z=>absurd z (by decide)) (fun _=>?_)
 exact Dj (fun _=>Aa (wpAny_typeOf hT (Ad h))) (fun z=>absurd (by decide+kernel) z)
theorem At.move {h h':Heap} (a:At w S I T es ep t ord i h) (k:∀b∈I::S::T.toList,∀o,h.get? b=some o->h'.get? b=some o):At w S I T es ep t ord i h':=by
 obtain⟨⟨o,ho,hd⟩,ft,tb,f,hi,W,hT⟩:=a
 refine⟨⟨o,k S (by simp) o ho,hd⟩,ft,tb,f,k I (by simp) _ hi,?_,hT⟩
 cases W with
 |text e=>exact .text e
 |table e d=>exact .table e d
 |drawn pl T' o' z p g d=>exact .drawn pl T' o' z p (k T' (by simp[hT T' rfl]) _ g) d
theorem U9 (hh:A.handled=none) (hIS:I≠S) (hT:∀x,T=some x->x≠I) (hn:ord.length=es.size):WalksS prog w A I (I::S::T.toList) [I] Eq es.size (fun i v=>ord[i]? =some v) (fun i s=>At w S I T es ep t ord i s.heap) where
 sub:=fun b hb=>by rw[Ao]at hb;subst hb;exact Ak
 grefl:=fun _=>rfl
 gtrans:=fun _ _ _ a b=>a.trans b
 frame:=fun i s h' tk a _ k=>a.move k
 item:=fun i s Q E hi a h=>by
  have hi':i<ord.length:=by lia
  exact U2 a (zI hi') hIS hT fun h' sb a'=>h _ _ (zI hi') a' ⟨fun b o hb e=>(sb.2 b (by simpa using hb)).trans e,rfl,rfl,rfl,Af _⟩
 done:=fun s Q E a h=>U3 hh a hIS fun h' k=>h _ ⟨fun b o hb e=>k b o (by simpa using hb) e,rfl,rfl,rfl,Af _⟩
 self:=fun i s Q E a h=>by
  obtain⟨f,hi,_⟩:=a.it;have ty:s.TypeIs (.ref I) SI:=⟨_,hi,rfl⟩
  refine Fh ty NB (Ca NB ty U6 ?_ (U7 _))
  show wpAny _ _ (ret (.ref I)) _ _ s;exact Ad ⟨_,rfl,SI,_,ty,si_next.lookup,h⟩
theorem NC:∀{l:List Value},(∀v∈l,∃k tk,v=Value.int k tk)->IntsAre l (l.map iv)
 | [],_=>.nil
 |v::r,h=>by
  obtain⟨k,tk,rfl⟩:=h v Ak;exact .cons k tk (NC fun x hx=>h x (Ap _ hx))
def ND {src:Addr} {T:String} {n:Nat} (Rp:(Nat->Value->Prop)->Prop) {Q:List Value->Shared->Prop} (hlt:src<s.heap.objs.size) (ty:∀(h:Heap) (dd:Drawn),(∀b o,s.heap.get? b=some o->h.get? b=some o)->Shared.TypeIs {s with heap:=h,drawn:=dd} (.ref src) T)
  (nl:(Value.type T==Value.type "list")=false) (nt:(Value.type T==Value.type "tuple")=false) (hint:∀(A':Around) (s':Shared) (Q':Bool->Shared->Prop) (E':VP),s'.TypeIs (.ref src) T->Q' false s'->wpAny (model prog w) A' (Builtin.List.listLengthHint (.ref src)) Q' E' s')
  (it:∀(h0:Heap) (Q':VP) (E':VP),(∀b o,s.heap.get? b=some o->h0.get? b=some o)->(∀(I:Addr) (fp:List Addr) (P:Nat->Value->Prop) (St:Nat->Shared->Prop) (h1:Heap) (dd:Drawn),Rp P->(∀b o,h0.get? b=some o->h1.get? b=some o)->h0.objs.size<=I->(∀b∈fp,b=src\/h0.objs.size<=b)->WalksS prog w A.in1 I fp [I] Eq n P St->St 0 {s with heap:=h1,drawn:=dd}->Q' (.ref I) {s with heap:=h1,drawn:=dd})->wpAny (model prog w) A.in1 (pyIter (.ref src)) Q' E' {s with heap:=h0})
  (hn:n<=sizeLine) (h:∀(P:Nat->Value->Prop) (acc:Array Value) (h':Heap) (dd:Drawn) (tk:Nat),Rp P->ItemsOf P acc n->(∀b o,s.heap.get? b=some o->h'.get? b=some o)->s.toks<=tk->s.heap.objs.size<=h'.objs.size->Q acc.toList {s with heap:=h',drawn:=dd,toks:=tk}):wpAny (model prog w) A (collect (.ref src)) Q E s:=by
 unfold collect
 refine Aa (wpAny_runValue (Eh PySem.F.entry_proto_collect ?_))
 rw[Ey PySem.F.plain_proto_collect _];show wpAny _ A.in1 (newList [] >>=fun l=>again (.builtin "list.__iadd__" ⟨[l,.ref src],[]⟩)) _ _ s
 refine Aa (Cd ?_)
 refine Ad ⟨Ez PySem.F.plain_list_iadd _,Eh PySem.F.entry_list_iadd ?_⟩
 rw[Ey PySem.F.plain_list_iadd _];generalize hL:s.heap.objs.size=L at hlt;have g0:(s.heap.push {cls:= .type "list",data:= .seq ([]:List Value).toArray}).get? L=some {cls:= .type "list",data:= .seq ([]:List Value).toArray}:=by rw[<-hL];exact Bf _ rfl
 have k0:∀b o,s.heap.get? b=some o->(s.heap.push {cls:= .type "list",data:= .seq ([]:List Value).toArray}).get? b=some o:=fun b o e=>Aw _ e
 have sz0:(s.heap.push {cls:= .type "list",data:= .seq ([]:List Value).toArray}).objs.size=L+1:=by rw[Co,hL]
 generalize s.heap.push {cls:= .type "list",data:= .seq ([]:List Value).toArray}=h0 at g0 k0 sz0;show wpAny _ A.in1 (Builtin.List.listExtendWith (.ref L) (.ref src) (.ref L)) _ _ {s with heap:=h0}
 unfold Builtin.List.listExtendWith
 refine Aa (wpAny_typeOf (ty h0 s.drawn k0) ?_)
 have n1:Builtin.List.listSameRef (.ref L) (.ref src)=false:=by
  have:L≠src:=C8 hlt;simp[Builtin.List.listSameRef,this]
 simp only[n1,nl,nt,D8,Ck,Bv]
 refine Aa (it h0 _ _ k0 fun I fp P St h1 dd hP k1 i1 hf W st=>?_)
 rw[sz0]at i1 hf
 refine Aa (Bt (hint _ {s with heap:=h1,drawn:=dd} _ _ (ty h1 dd fun b o e=>k1 b o (k0 b o e)) ?_))
 have nf:L∉fp:=fun m=>by
  rcases hf L m with z|z
  .exact C8 hlt z
  .exact Nat.not_succ_le_self _ z
 have key:∀(h2:Heap) (c:Nat),St 0 {s with heap:=h2,drawn:=dd}->(∀b o,b≠L->h1.get? b=some o->h2.get? b=some o)->h2.get? L=some {cls:= .type "list",data:= .seq #[] c}->
   codeAny (model prog w) A (.builtin "list.extend.loop" ⟨[.ref L,.ref I,.ref L],[]⟩) (fun r s'=>match r with | .ok (.ret v)=>wpAny (model prog w) A (match v with | .ref a=>load a >>=fun o=>(match o.data with | .seq xs _=>pure xs.toList|_=>unsupported "internal:collect")|_=>unsupported "internal:collect") Q E s' | .ok _=>False | .error e=>E e s') {s with heap:=h2,drawn:=dd}:=by
  intro h2 c a2 k2 g2
  refine codeAny_extend_loopS W hn L nf (.ref L) n 0 _ #[] c rfl (Bx _) a2 g2 (ItemsOf.nil _) fun s' acc c' hm g' hacc=>?_
  show wpAny _ A (load L >>=_) _ _ s'
  refine Aa (wpAny_load g' (Ad ?_))
  have es':s'={s with heap:=s'.heap,drawn:=dd,toks:=s'.toks}:=by
   obtain⟨u1,u2,u3,u4,u5⟩:=s';have e1:s.gens=u2:=hm.gens;have e2:u3=dd:=hm.drawn;have e3:u5=s.os:=hm.os;subst e1;subst e2;subst e3;rfl
  rw[es']
  refine h P acc s'.heap dd s'.toks hP hacc (fun b o hb=>?_) hm.toks (by rw[hL];exact D4 (Ai g'))
  have hbs:b<L:=by rw[<-hL];exact Ai hb
  refine hm.heap b o ?_ (k2 b o (Av hbs) (k1 b o (k0 b o hb)))
  simp only[Ag,By,Bp,not_or];exact⟨Av hbs,fun z=>absurd (Bk (z ▸ hbs) (Nat.le_of_succ_le i1)) (B7 _)⟩
 have g1:=k1 _ _ g0
 refine Dj (fun _=>?_) (fun _=>Ad ⟨Ez PySem.F.plain_extend_loop _,key h1 0 st (fun b o _ e=>e) g1⟩)
 refine Aa (Cs (Aa ?_))
 show wpAny _ _ (updateSeq L (·.push .none) >>=fun _=>updateSeq L (·.pop)) _ _ _
 refine Aa (wpAny_updateSeq g1 rfl ?_)
 have g2:=Dt (Obj.mapSeq (·.push Value.none)) g1 rfl
 refine wpAny_updateSeq (hz:=by seq_fits) g2 rfl ?_
 have g3:=Dt (Obj.mapSeq (·.pop)) g2 rfl;have oth:∀b o,b≠L->h1.get? b=some o->((h1.update L (Obj.mapSeq (·.push Value.none))).update L (Obj.mapSeq (·.pop))).get? b=some o:=fun b o hb e=>
  (Fb _ _ (Cf hb)).trans ((Fb _ _ (Cf hb)).trans e)
 exact Ad ⟨Ez PySem.F.plain_extend_loop _,key _ _ (W.frame 0 {s with heap:=h1,drawn:=dd} _ s.toks st (Af _) fun b hb o e=>oth b o (fun z=>nf (z ▸ hb)) e) oth g3⟩
def UA {acc:Array Value} {ord:List Value} (h:ItemsOf (fun i v=>ord[i]? =some v) acc ord.length):acc.toList=ord:=by
 refine List.ext_getElem? fun i=>?_
 by_cases hi:i<acc.size
 .rw[h.2 i _ (Bm hi),Bo,Bm hi]
 .rw[Eg (by simpa using hi),Eg (by rw[<-h.1];lia)]
theorem UB {ks:List Int} {Q:List Value->Shared->Prop} (hh:A.handled=none) (hS:SG w s.heap S ks)
  (h:∀(vs:List Value) (ns:List Int) (h':Heap) (dd:Drawn) (tk:Nat),IntsAre vs ns->ns.Perm ks->(∀b o,s.heap.get? b=some o->h'.get? b=some o)->s.toks<=tk->Q vs {s with heap:=h',drawn:=dd,toks:=tk}):wpAny (model prog w) A (collect (.ref S)) Q E s:=by
 obtain⟨o,es,ep,t,ho,d⟩:=hS;have hlt:S<s.heap.objs.size:=Ai ho
 refine ND (T:="set") (n:=es.size) (fun P=> ∃ord:List Value,ord.Perm (es.toList.map (·.2))/\P=fun i v=>ord[i]? =some v) hlt (fun h dd k=>⟨o,k _ _ ho,d.ex.1⟩) (by decide) (by decide) (fun _ _ _ _ ty q=>U8 ty q) (fun h0 Q' E' k0 q=>?_) (fits_of_scanBound d.sz) fun P acc h' dd tk hP hacc k ht _=>?_
 .refine U4 (s:={s with heap:=h0}) (k0 _ _ ho) d fun I T ord h1 dd k1 i1 i2 iT a pm=>?_
  have hlt0:S<h0.objs.size:=Ai (k0 _ _ ho);have IS:I≠S:=fun z=>absurd (Bk (z ▸ hlt0) i1) (B7 _)
  have hol:ord.length=es.size:=by rw[pm.length_eq,Ae,Bz]
  refine q I (I::S::T.toList) _ _ h1 dd ⟨ord,pm,rfl⟩ k1 i1 (fun b hb=>?_) (U9 hh IS (fun x hx=>(iT x hx).2.2) hol) a
  simp only[Ag,Option.mem_toList]at hb
  rcases hb with rfl|rfl|hb
  .exact .inr i1
  .exact .inl rfl
  .exact .inr (iT b hb).1
 .obtain⟨ord,pm,rfl⟩:=hP
  have hol:ord.length=es.size:=by rw[pm.length_eq,Ae,Bz]
  rw[<-hol]at hacc;rw[UA hacc]
  refine h ord (ord.map iv) h' dd tk (NC fun v hv=>?_) ((pm.map iv).trans (by rw[Bg];exact d.pm)) k ht
  obtain⟨e,he,rfl⟩:=Aj.mp (pm.mem_iff.mp hv);obtain⟨k,tk,e1,_⟩:=d.el e he;exact⟨k,tk,e1⟩
end
section
variable {prog:Program} {w:World} {A:Around} {E:VP} {s:Shared}
def NF {x:Value} {Q:VP} (h:wpAny (model prog w) A.in1 (collect x) (fun vs s1=> ∃ns,IntsAre vs ns/\vs.length<64/\∀(h':Heap) (out:Array Value) (c:Nat) (ns':List Int),IntsAre out.toList ns'->ns'.Perm ns->ns'.Pairwise (· <= ·)->(∀b o,s1.heap.get? b=some o->h'.get? b=some o)->h'.get? s1.heap.objs.size=some (seqObj "list" out c)->Q (.ref s1.heap.objs.size) {s1 with heap:=h'}) E s):
  wpAny (model prog w) A (call (.builtin "sorted") [x]) Q E s:=by
 refine Calls.call_function_entry kind_sorted plain_sorted entry_sorted (args_sorted1 _) ?_
 unfold Builtin.«sorted»
 refine Aa (m:=checkCount "sorted" 1 1 _) (Ad (Aa (L2.thn h fun vs s1 ⟨ns,hi,hl,k⟩=>?_)))
 refine Aa (wpAny_newList ?_ (by rw[Cc];lia))
 have g:(s1.heap.push (seqObj "list" vs.toArray 0)).get? s1.heap.objs.size=some (seqObj "list" vs.toArray 0):=Bf _ rfl
 refine Aa (Bt (Ca slot_list_sort ⟨_,g,rfl⟩ entry_list_sort (list_sort_tree g hi hl fun out ns' a1 a2 a3=>⟨_,rfl,?_⟩) (args_list_sort _)))
 obtain⟨c,hc⟩:=sortedHeap_at (out:=out) g;exact Ad ⟨_,rfl,k _ out c ns' a1 a2 a3 (fun b o e=>by
  have hb:b<s1.heap.objs.size:=Ai e;rw[sortedHeap_old (Av hb) (by rw[size_push'];exact Eb hb)]
  exact Aw _ e) hc⟩
end
end Se
namespace L2
open PySem PySem.Spec PySem.W PyProof.Rows Se
theorem NG:∀{ns:List Int} {vs:List Value},Vals (ns.map V.int) vs->IntsAre vs ns
 | [],_,.nil=>.nil
 |_::_,_,.cons ⟨_,e⟩ r=>by subst e;exact .cons _ _ (NG r)
theorem HG:∀{vs:List Value} {ns:List Int},IntsAre vs ns->Vals (ns.map V.int) vs
 |_,_,.nil=>.nil
 |_,_,.cons n t r=>.cons ⟨t,rfl⟩ (HG r)
def zX (l:List Int):List Int:=l.foldl step_dedup []
def UC {ns:List Int} {n:Nat} (h:n=ns.length):firstMet (fun i=>ns.getD i 0) n=zX ns:=by
 subst h;unfold firstMet zX
 congr 1
 refine Dy (by simp) fun i h1 h2=>?_
 simp[Cb,h2]
def NH (K:FG):List V->Hp->VK->Prop:=fun xs H Q=> ∃(p:Addr) (ns:List Int),xs=[.ref p]/\SqL K H p (ns.map V.int)/\ns.length<4000/\(zX ns).length<64/\
 ∀(l:Addr) (ns':List Int),H l=none->ns'.Perm (zX ns)->ns'.Pairwise (· <= ·)->Q (.ref l) (zk H l (.lst (ns'.map V.int)))
section
variable {X:Cx} {K:FG} {e:Expr} {p1 p2 q1 q2:Pos} {t:TA}
theorem UD (hK:X.K=K) (hc:X.calm=true) (hg:Gl X "sorted") (hm:X.mg "sorted" =none) (hg2:Gl X "set") (hm2:X.mg "set" =none) (ha:PA X [e] t) (he:starEach [e] X.env=[(false,eval e X.env)]:=by rfl)
  (he2:starEach [.Call (.Name "set" p2) [e] [] q2] X.env=[(false,eval (.Call (.Name "set" p2) [e] [] q2) X.env)]:=by rfl):PE X (.Call (.Name "sorted" p1) [.Call (.Name "set" p2) [e] [] q2] [] q1) (tCB (NH K) t):=by
 subst hK;intro pins s σ H Q I h
 refine D7 (BL I hg hm (show bootBuiltins "sorted" =some (.builtin "sorted") by rfl) ?_ (by decide) (by decide))
 refine PyProof.Rows.callWith_builtin1 ?_ he2 rfl
 rw[he2];show wpAny _ _ (spliced ((false,eval _ X.env)::backTo q1 [])) _ _ s
 refine Calls.spliced_cons ?_
 refine D7 (BL I hg2 hm2 (show bootBuiltins "set" =some (.type "set") by rfl) ?_ (by decide) (by decide))
 refine El (thn (ha q2 pins s σ H _ I h) fun us s1 ⟨vs,H1,I1,r1,q1⟩=>?_) he rfl
 obtain⟨p,ns,rfl,hq,hb,ho,q⟩:=q1;obtain⟨u,rfl,rx⟩:=AX r1;cases rx;obtain⟨its,rv,pl,hz⟩:=I1.list hq;have hln:its.length=ns.length:=by have:=rv.length;rw[Ae]at this;lia
 have hsz:its.toArray.size=ns.length:=by simpa using hln
 refine Uz (I.ok.hd hc) pl.isList (NG rv) (by rw[hsz];unfold scanBound;lia) fun h1 tk g k1 ht=>?_
 rw[UC hsz]at g;have k1':∀b o,s1.heap.get? b=some o->h1.get? b=some o:=fun b o e=>k1 b o (Ai e) e
 refine Calls.spliced_nil ?_
 refine NF (UB (A:=X.A.in1) (I.ok.hd hc) g fun vs ms h2 dd tk2 a1 a2 k2 ht2=>⟨ms,a1,?_,fun h3 out c ns' b1 b2 b3 k3 g3=>?_⟩)
 .have:=(HG a1).length
  rw[Ae,a2.length_eq]at this;lia
 .have I2:Inv X pins σ H1 {s1 with drawn:=dd}:=⟨I1.ok,I1.os,I1.bare,I1.base,I1.loc,I1.cell,I1.free,I1.freeC,I1.pin,I1.hok,I1.len⟩
  have hge:s1.heap.objs.size<=h2.objs.size:=by
   obtain⟨o,es,ep,t,hg,_⟩:=g;exact D4 (Ai (k2 _ _ hg))
  exact⟨.ref _,_,I2.laid (t':=tk2) (o:= .lst (ns'.map V.int)) (fun b o e=>k3 b o (k2 b o (k1' b o e))) hge ⟨by rw[Ae,(b2.trans a2).length_eq,Cc];lia,out.toList,c,HG b1,by rw[Array.toArray_toList];exact g3⟩,rfl,q _ ns' (I1.hok.fresh hge) (b2.trans a2) b3⟩
end
end L2
namespace L3
open PySem PySem.Spec PyProof.Rows L2
section
variable {X:Cx} {κ:Kx} {E:XK} {e:Expr} {p1 p2 q1 q2:Pos} {t:A3}
def DQ:FB:=fun s h fs=>match fs with
 | [f]=>match rdl s h f with
  |some xs=>match zu int3 xs with
   |some ns=>if ns.length<4000/\(zX ns).length<64 then some (.m (.lst ((jd (zX ns)).map .int))) else none
   |none=>none
  |none=>none
 |_=>none
theorem UE:qX κ (NH κ.K) DQ:=fun F σ H fs z vs Q rel r e k=>by
 unfold DQ at e
 split at e
 .rename_i f
  obtain⟨v,rfl,rv⟩:=p1 r;cases q1:rdl F.s F.h f with
  |none=>rw[q1]at e;cases e
  |some xs=>
   rw[q1]at e;obtain⟨a,ys,rfl,sq,rs⟩:=jE rel rv q1;cases q3:zu int3 xs with
   |none=>simp only[q3]at e;cases e
   |some ns=>
    simp only[q3]at e;obtain⟨hl,rfl⟩:=qy e
    refine⟨a,ns,rfl,by rw[<-Jg rs q3];exact sq,hl.1,hl.2,fun l ns' hn pm pw=>?_⟩
    have e:=IY (pm.trans (jM (zX ns)).1.symm) pw (jM (zX ns)).2;rw[e];exact k _ _ (yW hn) (Post.lst rel hn (Hw _))
 .cases e
theorem UF (hK:X.K=κ.K) (hc:X.calm=true) (hg:Gl X "sorted") (hm:X.mg "sorted" =none) (hg2:Gl X "set") (hm2:X.mg "set" =none) (ha:PA X [e] (zN κ E t)) (he:starEach [e] X.env=[(false,eval e X.env)]:=by rfl)
  (he2:starEach [.Call (.Name "set" p2) [e] [] q2] X.env=[(false,eval (.Call (.Name "set" p2) [e] [] q2) X.env)]:=by rfl):PE X (.Call (.Name "sorted" p1) [.Call (.Name "set" p2) [e] [] q2] [] q1) (zh κ E (eB DQ t)):=
 yC (UD hK hc hg hm hg2 hm2 ha he he2) fun _ _ _ h=>te_b UE h
end
end L3
namespace L2
open PySem PySem.Spec PySem.W PyProof.Rows Se
section
variable {prog:Program} {w:World} {A:Around} {E:VP} {s:Shared} {d I:Addr} {es:Array DictEntry} {ep:Nat}
def UG (hh:A.handled=none) (hne:d≠I):WalksS prog w A I [I,d] [I] Eq es.size (fun i v=> ∃e,es[i]? =some e/\v=e.key) (fun i s=>s.heap.IsKeyIter I d i es.size ep/\DE s.heap d es ep) where
 sub:=fun b hb=>by rw[Ao]at hb;subst hb;exact Ak
 grefl:=fun _=>rfl
 gtrans:=fun _ _ _ a b=>a.trans b
 frame:=fun i s h' tk a _ k=>⟨a.1.at fun o e=>k I (by simp) o e,let ⟨o,ho,r⟩:=a.2;⟨o,k d (by simp) o ho,r⟩⟩
 item:=fun i s Q E hi a h=>Nv a.1 a.2 (Bm hi) fun h' a' sb=>h _ _ ⟨_,Bm hi,rfl⟩ ⟨a',let ⟨o,ho,r⟩:=a.2;⟨o,(sb.2 d hne).trans ho,r⟩⟩ ⟨fun b o hb e=>(sb.2 b (by simpa using hb)).trans e,rfl,rfl,rfl,Af _⟩
 done:=fun s Q E a h=>Nx hh a.1 a.2 (Af _) fun h' k=>h _ ⟨fun b o hb e=>k b o (by simpa using hb) e,rfl,rfl,rfl,Af _⟩
 self:=fun i s Q E a h=>wpAny_pyIter_keyiter a.1 h
def UH {Q:List Value->Shared->Prop} (hh:A.handled=none) (hs:(d==sysModules)=false) (hd:DE s.heap d es ep) (hz:es.size<=sizeLine)
  (h:∀(h':Heap) (dd:Drawn) (tk:Nat),(∀b o,s.heap.get? b=some o->h'.get? b=some o)->s.toks<=tk->s.heap.objs.size<=h'.objs.size->Q (es.toList.map (·.key)) {s with heap:=h',drawn:=dd,toks:=tk}):wpAny (model prog w) A (collect (.ref d)) Q E s:=by
 obtain⟨o,ho,r⟩:=id hd
 refine ND (T:="dict") (n:=es.size) (fun P=>P=fun i v=> ∃e,es[i]? =some e/\v=e.key) (Ai ho) (fun h dd k=>⟨o,k _ _ ho,r.1.1⟩) (by decide) (by decide) (fun _ _ _ _ ty q=>kdl_hint_dict ty q) (fun h0 Q' E' k0 q=>?_) hz fun P acc h' dd tk hP hacc k ht hz'=>?_
 .have hlt:d<h0.objs.size:=Ai (k0 _ _ ho)
  refine Nu (s:={s with heap:=h0}) hs ⟨o,k0 _ _ ho,r⟩ (q h0.objs.size [h0.objs.size,d] _ _ _ s.drawn rfl (fun b o e=>Aw _ e) (Af _) (fun b hb=>?_) (UG hh (Av hlt)) ⟨⟨_,Bf _ rfl,rfl,rfl⟩,o,Aw _ (k0 _ _ ho),r⟩)
  simp only[Ag,By,Bp]at hb
  rcases hb with rfl|rfl
  .exact .inr (Af _)
  .exact .inl rfl
 .subst hP
  have e:acc.toList=es.toList.map (·.key):=by
   refine List.ext_getElem? fun i=>?_
   by_cases hi:i<acc.size
   .obtain⟨e,h1,h2⟩:=hacc.2 i _ (Bm hi)
    rw[Bo,Bm hi,Az,Bo,h1,h2];rfl
   .rw[Eg (by simpa using hi),Eg (by rw[Ae,Bz,<-hacc.1];lia)]
  rw[e];exact h h' dd tk k ht hz'
end
end L2
namespace L3
open PySem PySem.Spec PyProof.Rows L2
section
variable {X:Cx} {κ:Kx} {E:XK} {F:Fr} {σ:L2.St} {H:Hp}
noncomputable def BH (h:H3):V3->Option (List (MK×V3)×(H3->Prop))
 |.dT kvs=>some (kvs,fun _=>True)
 |.loc n=>match h[n]? with
  |some (.dT kvs)=>some (kvs,fun h=>h[n]? =some (.dT kvs))
  |_=>none
 |_=>none
def NI {h:H3} {x:V3} {kvs:List (MK×V3)} {ok:H3->Prop} (e:BH h x=some (kvs,ok)):ok h/\∀{F:Fr} {σ:L2.St} {H:Hp} {v:V},Rel κ F σ H->Rep κ F.β F.O H x v->ok F.h->∃a ws,v=.ref a/\H a=some (.dT ws)/\RepP κ F.β F.O H kvs ws:=by
 cases x<;>simp only[BH]at e<;>try cases e
 case dT=>
  refine⟨trivial,fun rel r _=>?_⟩
  cases r with
  |dT g1 g2 g3 g4=>exact⟨_,_,rfl,g1,g4⟩
 case loc n=>
  split at e
  .rename_i k q
   cases e
   refine⟨q,fun {F σ H v} rel r hk=>?_⟩
   cases r with
   |loc h1 h2=>
    rcases rel.heap.cell n _ hk with z|⟨a,ha,ws,g1,g2⟩
    .cases z
    .exact⟨a,ws,h2 a ha,g1,g2⟩
  .cases e
def iDl (p:P3):I3:=fun s h=>(p s h).bind fun f h1=>match f with
 |.x x=>match BH h1 x with
  |some (kvs,ok)=>.ok ⟨[x],kvs.map fun kv=>mkV3 kv.1,ok⟩ h1
  |none=>.no
 |_=>.no
def NJ {kvs:List (MK×V3)} {ws:List (MK×V)} {β:AO} {O:Addr->Prop} (r:RepP κ β O H kvs ws) {i:Nat} {k:MK} {v:V} (hk:ws[i]? =some (k,v)):∃x,kvs[i]? =some (k,x)/\Rep κ β O H x v:=by
 have gen:∀{kvs:List (MK×V3)} {ws:List (MK×V)},RepP κ β O H kvs ws->∀i:Nat,ws[i]? =some (k,v)->∃x,kvs[i]? =some (k,x)/\Rep κ β O H x v:=by
  intro kvs
  induction kvs with
  |nil=>intro ws q i e;cases q;simp at e
  |cons p r ih=>
   intro ws q i e;cases q with
   |cons q1 q2=>
    cases i with
    |zero=>simp only[Ec,Cj,Dx]at e;obtain⟨rfl,rfl⟩:=e;exact⟨_,rfl,q1⟩
    |succ j=>exact ih q2 j (by simpa using e)
 exact gen r i hk
def NK {tg l:Expr} {d:P3} (hl:PE X l (zi κ E d)):PI X tg l (yp κ E (iDl d)):=PIw (Ug hl) fun σ H R ⟨F,rel,o⟩=>
 (z9 (K:=kP κ) km_I rel o).mono fun v H1 ⟨β1,h1,f,e1,⟨r1,rf⟩,o1⟩=>by
  match f,rf,o1 with
  |.x x,rf,o1=>
   have rf:Rep κ β1 F.O H1 x v:=rf;cases q:BH h1 x with
   |none=>simp only[q]at o1;exact o1.elim
   |some w=>
    obtain⟨kvs,ok⟩:=w;simp only[q]at o1;obtain⟨w0,w1⟩:=NI (κ:=κ) q;obtain⟨a,ws,rfl,g1,g4⟩:=w1 (F:=F.to β1 h1) r1 rf w0;have el:kvs.length=ws.length:=by have:=congrArg List.length (RepP.keys g4);simpa using this
    refine⟨a,ws,rfl,g1,o1 β1 _ H1 Ext.refl ⟨r1,[.ref a],.cons rf .nil,fun F' σ' H' rel' r' hk i=>?_⟩⟩
    cases r' with
    |cons r'' _=>
     obtain⟨a',ws',ea,q1,q4⟩:=w1 rel' r'' hk;cases ea;have el':kvs.length=ws'.length:=by have:=congrArg List.length (RepP.keys q4);simpa using this
     refine⟨fun hi=>⟨⟨ws',q1,by lia,?_⟩,fun y H'' ⟨e,yl⟩=>?_⟩,fun hi=>⟨ws',q1,by lia,?_⟩⟩
     .rw[Ae]at hi;lia
     .subst e
      obtain⟨k,v,hk,ky⟩:=yl ws' q1;obtain⟨z,hz,_⟩:=NJ q4 hk;exact⟨mkV3 k,by rw[Az,hz];rfl,Ext.refl,rel',Uh rel' ky⟩
     .rw[Ae]at hi;lia
noncomputable def oneK:MK×V3->Option (zM×V3)
 | (.one k,v)=>some (k,v)
 |_=>none
def iI (p:P3):I3:=fun s h=>(p s h).bind fun f h1=>match f with
 |.x x=>match BH h1 x with
  |some (kvs,ok)=>match zu oneK kvs with
   |some ks=>.ok ⟨[x],ks.map fun kv=>.tup [kV3 kv.1,kv.2],ok⟩ h1
   |none=>.no
  |none=>.no
 |_=>.no
theorem NL:∀{kvs:List (MK×V3)} {ks:List (zM×V3)},zu oneK kvs=some ks->kvs=ks.map fun kv=>(MK.one kv.1,kv.2)
 | [],_,e=>by cases e;rfl
 | (.one k,v)::r,_,e=>by obtain⟨y,l,h1,h2,rfl⟩:=BU e;cases h1;rw[Ah,<-NL h2]
 | (.tup k,v)::r,_,e=>by obtain⟨y,l,h1,h2,rfl⟩:=BU e;cases h1
def J1 {ks:List (zM×V3)} {ws:List (MK×V)} {β:AO} {O:Addr->Prop} (r:RepP κ β O H (ks.map fun kv=>(MK.one kv.1,kv.2)) ws):DP ws:=fun p hp=>by
 have:p.1∈ws.map (·.1):=Aj.mpr ⟨p,hp,rfl⟩;rw[<-RepP.keys r,Bg]at this;obtain⟨q,_,e⟩:=Aj.mp this;exact⟨q.1,e.symm⟩
def UI {elts:List Expr} {x1} {tp apos pos:Pos} {l:Expr} {d:P3} (hl:PE X l (zi κ E d)) (hbase:attributeBase l "items" X.env (eval l X.env)=eval l X.env:=by rfl) (hline:(apos.endLine==pos.line)=true:=by rfl):
  PI X (.Tuple elts x1 tp) (.Call (.Attribute l "items" apos) [] [] pos) (yp κ E (iI d)):=PIw (Uo hl hbase hline) fun σ H R ⟨F,rel,o⟩=>
 (z9 (K:=kP κ) km_I rel o).mono fun v H1 ⟨β1,h1,f,e1,⟨r1,rf⟩,o1⟩=>by
  match f,rf,o1 with
  |.x x,rf,o1=>
   have rf:Rep κ β1 F.O H1 x v:=rf;cases q:BH h1 x with
   |none=>simp only[q]at o1;exact o1.elim
   |some w=>
    obtain⟨kvs,ok⟩:=w;simp only[q]at o1;cases q2:zu oneK kvs with
    |none=>simp only[q2]at o1;exact o1.elim
    |some ks=>
     simp only[q2]at o1;have ek:=NL q2;subst ek;obtain⟨w0,w1⟩:=NI (κ:=κ) q;obtain⟨a,ws,rfl,g1,g4⟩:=w1 (F:=F.to β1 h1) r1 rf w0;have el:ks.length=ws.length:=by have:=congrArg List.length (RepP.keys g4);simpa using this
     refine⟨a,ws,rfl,g1,J1 g4,o1 β1 _ H1 Ext.refl ⟨r1,[.ref a],.cons rf .nil,fun F' σ' H' rel' r' hk i=>?_⟩⟩
     cases r' with
     |cons r'' _=>
      obtain⟨a',ws',ea,q1,q4⟩:=w1 rel' r'' hk;cases ea;have el':ks.length=ws'.length:=by have:=congrArg List.length (RepP.keys q4);simpa using this
      refine⟨fun hi=>⟨⟨ws',q1,J1 q4,by lia,?_⟩,fun y H'' yl=>?_⟩,fun hi=>⟨ws',q1,J1 q4,by lia,?_⟩⟩
      .rw[Ae]at hi;lia
      .obtain⟨T,k,v,rfl,hT,rfl,hz⟩:=yl
       obtain⟨z,e3,rz⟩:=NJ q4 (hz ws' q1);obtain⟨t1,t2,t3⟩:=Rel.tup2 (x:=kV3 k) (v:=kV k) (y:=z) (w:=v) rel' hT (Jx k) rz
       refine⟨.tup [kV3 k,z],?_,t1,t2,t3⟩
       rw[Az]at e3 ⊢;cases e4:ks[i]? with
       |none=>rw[e4]at e3;cases e3
       |some y=>rw[e4]at e3;simp only[Aq,Cj,Dx,MK.one.injEq]at e3;obtain⟨e5,e6⟩:=e3;simp[e5,e6]
      .rw[Ae]at hi;lia
end
end L3
namespace L2
open PySem PySem.Spec PySem.W PyProof.Rows Se
section
variable {X:Cx}
def NM:List V->Hp->VK->Prop:=fun xs H Q=> ∃(p:Addr) (kvs:List (MK×V)) (ns:List Int),xs=[.ref p]/\H p=some (.dT kvs)/\kvs.map (·.1)=ns.map (fun i=>MK.one (.inl i))/\ns.length<64/\
 ∀(l:Addr) (ns':List Int),H l=none->ns'.Perm ns->ns'.Pairwise (· <= ·)->Q (.ref l) (zk H l (.lst (ns'.map V.int)))
theorem NN {H:Hp}:∀{kvs:List (MK×V)} {xs:Tr} {ns:List Int},KT H kvs xs->kvs.map (·.1)=ns.map (fun i=>MK.one (.inl i))->IntsAre (xs.map (·.2.1)) ns
 |_,_,[],.nil,_=>.nil
 |_,_,n::ns,.cons (a:=p) (b:=q) ⟨e1,e2,e3⟩ r,e=>by
  rw[Ah,Ah,List.cons.injEq]at e;rw[e.1]at e2;obtain⟨t,ht⟩:=(show RelV (.int n) q.2.1 from e2)
  rw[Ah,ht];exact .cons n t (NN r e.2)
 |_,_,_::_,.nil,e=>by cases e
 |_,_,[],.cons _ _,e=>by cases e
def NO (hc:X.calm=true):qc X (.builtin "sorted") NM:=by
 intro pins s σ H xs us Q I r h;obtain⟨p,kvs,ns,rfl,hq,hk,hl,h⟩:=h;obtain⟨u,rfl,rx⟩:=AX r;cases rx;obtain⟨z,y,xs,r,hm⟩:=DG I.hok hq;obtain⟨es,he,hes,hsz⟩:=hm.at;have hkl:kvs.length=ns.length:=by have:=congrArg List.length hk;simpa using this
 have hlen:=Paired.length r;have ek:es.toList.map (·.key)=xs.map (·.2.1):=by rw[hes,Bg];rfl
 refine NF (UH (A:=X.A.in1) (I.ok.hd hc) y he (by rw[Cc];lia) fun h1 dd tk k1 ht hge=>⟨ns,?_,?_,fun h2 out c ns' b1 b2 b3 k2 g=>?_⟩)
 .rw[ek];exact NN r hk
 .rw[Ae,Bz];lia
 .have I2:Inv X pins σ H {s with drawn:=dd}:=⟨I.ok,I.os,I.bare,I.base,I.loc,I.cell,I.free,I.freeC,I.pin,I.hok,I.len⟩
  obtain⟨o,ho,_⟩:=he;exact⟨.ref _,_,I2.laid (t':=tk) (o:= .lst (ns'.map V.int)) (fun b o e=>k2 b o (k1 b o e)) hge ⟨by rw[Ae,b2.length_eq,Cc];lia,out.toList,c,HG b1,by rw[Array.toArray_toList];exact g⟩,rfl,h _ ns' (I.hok.fresh hge) b2 b3⟩
end
end L2
namespace L3
open PySem PySem.Spec PyProof.Rows L2
section
variable {X:Cx} {κ:Kx} {E:XK} {F:Fr} {σ:L2.St} {H:Hp} {D:Ends} {o e:Expr} {pos:Pos}
def intK:MK->Option Int
 |.one (.inl i)=>some i
 |_=>none
theorem NP:∀{ks:List MK} {ns:List Int},zu intK ks=some ns->ks=ns.map fun i=>MK.one (.inl i)
 | [],_,e=>by cases e;rfl
 |k::r,_,e=>by
  obtain⟨y,l,h1,h2,rfl⟩:=BU e;rw[Ah,<-NP h2];unfold intK at h1
  split at h1
  .cases h1;rfl
  .cases h1
def BY:FB:=fun s h fs=>match fs with
 | [f]=>match yU s h f with
  |some (.t kvs)=>match zu intK (kvs.map (·.1)) with
   |some ns=>if ns.length<64 then some (.m (.lst ((jd ns).map .int))) else none
   |none=>none
  |_=>none
 |_=>none
def NQ:qX κ NM BY:=fun F σ H fs z vs Q rel r e k=>by
 unfold BY at e
 split at e
 .rename_i f
  obtain⟨v,rfl,rv⟩:=p1 r
  split at e
  .rename_i kvs q1
   obtain⟨a,rfl,dr⟩:=Ju rel rv q1;obtain⟨ws,g1,g2⟩:=(show ∃ws,H a=some (.dT ws)/\RepP κ F.β F.O H kvs ws from dr)
   cases q3:zu intK (kvs.map (·.1)) with
   |none=>simp only[q3]at e;cases e
   |some ns=>
    simp only[q3]at e;obtain⟨hl,rfl⟩:=qy e
    refine⟨a,ws,ns,rfl,g1,by rw[<-RepP.keys g2];exact NP q3,hl,fun l ns' hn pm pw=>?_⟩
    have e:=IY (pm.trans (jM ns).1.symm) pw (jM ns).2;rw[e];exact k _ _ (yW hn) (Post.lst rel hn (Hw _))
  .cases e
 .cases e
def je (g:F2) (p i e:P3):D3:=fun s h=>(p s h).bindS fun f h1=>(i s h1).bindS fun j h2=>match yL s h2 f j with
 |some (.v old)=>(e s h2).bindS fun y h3=>match g s h3 (.x old) y,j,rdm s h3 f with
  |some (.v z),.x (.int k),some xs=>match qp xs.length k with
   |some n=>match wr3 s h3 (.lst (xs.set n z)) f with
    |some (s',h')=>.nx s' h'
    |none=>.no
   |none=>.no
  |_,_,_=>.no
 |_=>.no
end
end L3
namespace L2
open PySem PySem.Spec PySem.W PyProof.Rows
def UJ {X:Cx}:PGet X (rIxL X.K):=by
 intro pins s σ H x y v u Q I rx ry h;obtain⟨p,xs,i,z,rfl,rfl,hq,he,q⟩:=h;cases rx;obtain⟨t,rfl⟩:=ry;obtain⟨its,r,pl,hz⟩:=I.list hq;obtain⟨j,h1,h2,h3,h4,h5⟩:=GY he;obtain⟨w,ew,rw'⟩:=r.get h2;have hl:=r.length;have hn:=CF;have fin:EP X pins σ Q w s:=⟨z,H,I,rw',q⟩
 by_cases h0:0<=i
 .have hj:i.toNat=j:=by
   rw[seqIndex_of h0 h5]at h1;exact Option.some.inj h1
  exact wpAny_getItem_list pl.isList h0 (by lia) (by rw[hj];simpa using ew) fin
 .have hj:(i+(its.toArray.size:Int)).toNat=j:=by
   rw[seqIndex_neg (by lia) h4]at h1
   rw[Am,<-hl];exact Option.some.inj h1
  exact wpAny_getItem_list_neg pl.isList (by lia) (by rw[Am]<;>lia) (by lia) (by rw[hj];simpa using ew) fin
end L2
namespace L3
open PySem PySem.Spec PyProof.Rows L2
section
variable {X:Cx} {κ:Kx} {E:XK} {F:Fr} {σ:L2.St} {H:Hp} {D:Ends} {o e ii:Expr} {pos tp:Pos}
def UK {g:F2} {tip:TIp} {dp di de:P3} (hs:OpSim κ tip g) (h:zo κ E (je g dp di de) D σ H):Ln (zi κ E dp) (zi κ E di) (zi κ E de) (rIxL κ.K) tip Ha D σ H:=by
 obtain⟨F,rel,ht,o⟩:=h
 refine (bindS (K:=kP κ) rel ht o).mono fun ov H1 ⟨β1,h1,f,e1,⟨r1,rf⟩,o1⟩=>?_
 have s1:SExt F H (F.to β1 h1) H1:=SExt.of0 ht e1
 refine (bindS (F:=F.to β1 h1) (K:=kP κ) r1 ht (SOut.move s1 o1)).mono fun iv H2 ⟨β2,h2,j,e2,⟨r2,rj⟩,o2⟩=>?_
 have s2:SExt (F.to β1 h1) H1 (F.to β2 h2) H2:=SExt.of0 (F:=F.to β1 h1) ht e2;have rf2:=RfR.ext (F:=F.to β1 h1) (β':=β2) (h':=h2) r1 e2 rf;have o2:=SOut.move s2 o2
 split at o2
 .rename_i old q
  refine sim_ixL (F.to β2 h2) σ H2 f j (.v old) ov iv _ r2 rf2 rj q fun u H3 e3 post=>?_
  obtain⟨r3,ro⟩:=post;have s3:SExt (F.to β2 h2) H2 (F.to β2 h2) H3:=SExt.of0 (F:=F.to β2 h2) ht e3;have rf3:=RfR.ext (F:=F.to β2 h2) (β':=β2) (h':=h2) r2 e3 rf2;have rj3:=RfR.ext (F:=F.to β2 h2) (β':=β2) (h':=h2) r2 e3 rj
  refine (bindS (F:=F.to β2 h2) (K:=kP κ) r3 ht (SOut.move s3 o2)).mono fun yv H4 ⟨β4,h4,y,e4,⟨r4,ry⟩,o4⟩=>?_
  have s4:SExt (F.to β2 h2) H3 (F.to β4 h4) H4:=SExt.of0 (F:=F.to β2 h2) ht e4;have o4:=SOut.move s4 o4;have rf4:=RfR.ext (F:=F.to β2 h2) (β':=β4) (h':=h4) r3 e4 rf3;have rj4:=RfR.ext (F:=F.to β2 h2) (β':=β4) (h':=h4) r3 e4 rj3;have ro4:RfR κ (F.to β4 h4) H4 (.x old) u:=Rep.ext0 e4 ro;cases q1:g F.s h4 (.x old) y with
  |none=>simp only[q1]at o4;exact o4.elim
  |some zz=>
   match zz,j,rj4,o4,q1 with
   |.m _,_,_,o4,q1=>simp only[q1]at o4;exact o4.elim
   |.v z,.s _,_,o4,q1=>simp only[q1]at o4;exact o4.elim
   |.v z,.x (.int k),rj4,o4,q1=>
    cases q3:rdm F.s h4 f with
    |none=>simp only[q1,q3]at o4;exact o4.elim
    |some xs=>
     simp only[q1,q3]at o4
     refine hs (F.to β4 h4) σ H4 (.x old) y (.v z) u yv _ r4 ro4 ry q1 fun zv H5 e5 post5=>?_
     obtain⟨r5,rz⟩:=post5;have s5:SExt (F.to β4 h4) H4 (F.to β4 h4) H5:=SExt.of0 (F:=F.to β4 h4) ht e5;have rf5:=RfR.ext (F:=F.to β4 h4) (β':=β4) (h':=h4) r4 e5 rf4;have rj5:=RfR.ext (F:=F.to β4 h4) (β':=β4) (h':=h4) r4 e5 rj4;cases q4:qp xs.length k with
     |none=>simp only[q4]at o4;exact o4.elim
     |some n=>
      simp only[q4]at o4;cases q5:wr3 F.s h4 (.lst (xs.set n z)) f with
      |none=>simp only[q5]at o4;exact o4.elim
      |some w=>
       obtain⟨s',h'⟩:=w;simp only[q5]at o4;obtain⟨l,us,ev,hl,rs,wk⟩:=Jk (F:=F.to β4 h4) ht r5 rf5 q3 q5;subst ev;cases (show Rep κ β4 F.O H5 (.int k) iv from rj5)
       obtain⟨F',e',es,eh,rel'⟩:=wk (us.set n zv) (rs.set rz n);exact⟨l,us,k,n,rfl,rfl,hl,by rw[<-rs.length];exact q4,SOut.move s5 o4 F' σ _ e' es eh rel'⟩
 .exact o2.elim
def HH {op:Operator} {g:F2} {tip:TIp} {dp di de:P3} (hK:X.K=κ.K) (hs:OpSim κ tip g) (hp:PIp X op tip) (ho:PE X o (zi κ E dp)) (hi:PE X ii (zi κ E di)) (he:PE X e (zi κ E de))
  (ha:∀ov iv new,augStore ii ov iv new=(do holding [new,ov,iv] (setItem ov iv new);release [new,ov,iv] [];pure .next):=by intros;rfl):PS X (.AugAssign (.Subscript o ii tp) op e pos) (zo κ E (je g dp di de)):=
 qg (Qm ho hi UJ he hp LC ha) fun D σ H h=>by rw[hK];exact UK hs h
end
end L3
namespace L2
open PySem PySem.Spec PySem.W PyProof.Rows
section
variable {X:Cx}
def UL:qc X (.builtin "sorted") (fun xs H Q=> ∃(p:Addr) (ns:List Int),xs=[.ref p]/\SqL X.K H p (ns.map V.int)/\ns.length<64/\
  ∀(l:Addr) (ns':List Int),H l=none->ns'.Perm ns->ns'.Pairwise (fun a b=>a<=b)->Q (.ref l) (zk H l (.lst (ns'.map V.int)))):=by
 intro pins s σ H xs us Q I r h;obtain⟨p,ns,rfl,hq,hbig,h⟩:=h;obtain⟨u,rfl,rx⟩:=AX r;cases rx;obtain⟨its,rv,pl,hz⟩:=I.list hq;have l1:=rv.length;rw[Ae]at l1;have one:∀i,i<ns.length->∃t,its.getD i Value.none=Value.int (ns.getD i 0) t:=fun i hi=>by
  obtain⟨v,ev,rvi⟩:=rv.get (i:=i) (x:=V.int ns[i]) (by simp[hi])
  obtain⟨t,rfl⟩:=rvi
  refine⟨t,?_⟩
  rw[Cb,ev,Cb,zI hi];rfl
 refine RW ordI (fun i=>ns.getD i 0) oneType' pl.isList (by lia) (fun h6 Q' k6 h2 q=>?_) (fun h6 i j C k6 hi hj hC=>?_) fun P Pp Up=>?_
 .refine kas_kind (s:={s with heap:=h6}) (T:= .type "int") h2 (fun v hv=>?_) (by decide) (by decide) q
  obtain⟨i,hi,e⟩:=Gg.mp hv;obtain⟨t,e1⟩:=one i (by lia)
  rw[Cb,zI hi]at e1;have e1:its[i]=_:=e1;rw[<-e,e1];exact fun A Q E s _ q=>Ad q
 .unfold kas_ask
  obtain⟨t,e1⟩:=one i (by lia)
  obtain⟨t',e2⟩:=one j (by lia)
  rw[e1,e2,keyLt'_oneType];exact oneLt_int hC
 .obtain⟨e,he⟩:=sortedAll_at s.heap its (List.toArray (P.toList.map fun i=>its.getD i Value.none))
  have mem:∀i∈P.toList,i<ns.length:=fun i hi=>by
   have:=Ay.mp (Pp.perm.mem_iff.mp hi);lia
  have hv:Vals ((P.toList.map fun i=>ns.getD i 0).map V.int) (P.toList.map fun i=>its.getD i Value.none):=by
   rw[Bg]
   refine Paired.mapL fun i hi=>?_
   obtain⟨t,e1⟩:=one i (mem i hi);rw[e1];exact⟨t,rfl⟩
  have hpl:P.toList.length=its.length:=by rw[Bz,Pp.size]
  refine⟨.ref (s.heap.objs.size+1),_,I.laid (t':=s.toks) (o:= .lst ((P.toList.map fun i=>ns.getD i 0).map V.int)) (fun b o q=>sortedAll_old q) (Dg _) ?_,rfl,h _ (P.toList.map fun i=>ns.getD i 0) (I.hok.fresh (Dg _)) ?_ ?_⟩
  .exact⟨by rw[Ae,Ae];rw[Ae]at hz;lia,_,e,hv,he⟩
  .have q:=Pp.perm.map fun i=>ns.getD i 0
   have e:its.length=ns.length:=by lia
   rw[e,RX]at q;exact q
  .rw[Gn]
   intro i j hi hj hij;have hj':j<its.length:=by rw[Ae]at hj;lia
   have q:=Up i j (D4 hij) hj';have gi:P.getD i 0=P.toList[i]'(by rw[hpl];lia):=by
    have:i<P.size:=by rw[Pp.size];lia
    simp[Array.getD,this]
   have gj:P.getD j 0=P.toList[j]'(by rw[hpl];lia):=by
    have:j<P.size:=by rw[Pp.size];lia
    simp[Array.getD,this]
   unfold Srt.ky at q;rw[gi,gj]at q;have q:=of_decide_eq_false q;rw[List.getElem_map,List.getElem_map];exact Int.not_lt.mp q
end
end L2
namespace L3
open PySem PySem.Spec PyProof.Rows L2
section
variable {X:Cx} {κ:Kx}
def J2 (κ:Kx):List V->Hp->VK->Prop:=fun xs H Q=> ∃(p:Addr) (ns:List Int),xs=[.ref p]/\SqL κ.K H p (ns.map V.int)/\ns.length<64/\∀(l:Addr) (ns':List Int),H l=none->ns'.Perm ns->ns'.Pairwise (fun a b=>a<=b)->Q (.ref l) (zk H l (.lst (ns'.map V.int)))
def NR (hK:X.K=κ.K):qc X (.builtin "sorted") (J2 κ):=by unfold J2;rw[<-hK];exact UL
def AM:FB:=fun s h fs=>match fs with
 | [f]=>match rdl s h f with
  |some xs=>match zu int3 xs with
   |some ns=>if ns.length<64 then some (.m (.lst ((jd ns).map .int))) else none
   |none=>none
  |none=>none
 |_=>none
def NS:qX κ (J2 κ) AM:=fun F σ H fs z vs Q rel r e k=>by
 unfold AM at e
 split at e
 .rename_i f
  obtain⟨v,rfl,rv⟩:=p1 r;cases q1:rdl F.s F.h f with
  |none=>rw[q1]at e;cases e
  |some xs=>
   rw[q1]at e;obtain⟨a,ys,rfl,sq,rs⟩:=jE rel rv q1;cases q3:zu int3 xs with
   |none=>simp only[q3]at e;cases e
   |some ns=>
    simp only[q3]at e;obtain⟨hl,rfl⟩:=qy e
    refine⟨a,ns,rfl,by rw[<-Jg rs q3];exact sq,hl,fun l ns' hn pm pw=>?_⟩
    have e:=IY (pm.trans (jM ns).1.symm) pw (jM ns).2;rw[e];exact k _ _ (yW hn) (Post.lst rel hn (Hw _))
 .cases e
end
end L3
namespace My
open PySem L2 L3
def J3:D3:=(sSeq (sSet 2 (eOp zD (pE (eOp zZ (pE (eOp zB (pV 0) (pE (eOp zZ (kJ 7919) (pV 1))))) (kJ 48271))) (kJ 2147483647))) (sSeq (sSet 2 (eOp zD (pE (eOp zZ (pV 2) (pV 2))) (kJ 2147483629))) (sRet (eOp zD (pE (eOp zB (pE (eOp zB (pE (eOp zZ (pV 2) (pV 2))) (pE (eOp zZ (kJ 16807) (pV 2))))) (kJ 11))) (kJ 2147483587)))))
def AN:F3:=fun3 2 3 J3
def DS:zn AN 2:=zy
def J4:D3:=(zw (qo (aCons (pE (eOp zD (pV 0) (kJ 6))) aNil)) (gN 3) (sSeq (sSet 4 (eOp Jb (pE (eOp oShr (pE (eOp z7 (pV 0) (kJ 7680))) (pE (eOp zZ (kJ 6) (pV 3))))) (kJ 63))) (sSeq (sIf (tE (eOp y0 (pE (eOp zD (pE (eOp z7 (pV 0) (kJ 3840))) (kJ 2))) (kJ 0))) (sSet 4 (eCall AN (aCons (pV 0) (aCons (pE (eOp zB (kJ 20) (pV 3))) aNil)))) sSkip) (yR yo (pV 2) (aCons (pE (eTup (aCons (pE (eOp zZ (pV 1) (pE (eOp zB (kJ 1) (pE (eOp zD (pV 4) (kJ 9))))))) (aCons (pE (eOp zD (pE (eOp z7 (pV 4) (kJ 9))) (kJ 5))) aNil)))) aNil)))))
def J5:D3:=(sSeq (sSet 1 (eC (.int 1))) (sSeq (sIf (tE (eOp y0 (pE (eOp zD (pE (eOp z7 (pV 0) (kJ 60))) (kJ 8))) (kJ 1))) (sSet 1 (eOp zB (kJ 1) (pE (eOp zD (pE (eCall AN (aCons (pV 0) (aCons (kJ 9) aNil)))) (kJ 90000))))) sSkip) (sSeq (sSet 2 (eLst aNil)) (sSeq J4 (sSeq (sSet 5 (eOp zB (kJ 1) (pE (eOp zD (pE (eOp z7 (pV 0) (kJ 6))) (kJ 3))))) (sSeq (sIf (tE (eOp y0 (pE (eOp zD (pE (eOp z7 (pV 0) (kJ 480))) (kJ 8))) (kJ 1))) (sSet 5 (eC (.int 16))) sSkip) (sSeq (sFz 1) (sSeq (sFz 5) (sSeq (sFz 2) (sRet (eTup (aCons (pV 2) (aCons (pV 5) (aCons (pV 1) aNil))))))))))))))
def FI:F3:=fun3 1 6 J5
def UM:zn FI 1:=zy
def HI:D3:=(sSeq (sIf (tE (eOp qP (pV 1) (pE (eB bLen (aCons (pV 0) aNil))))) (sRet (eOp zq (pV 0) (pV 1))) sSkip) (sRet (eC (.int 0))))
def AQ:F3:=fun3 2 2 HI
def HJ:zn AQ 2:=zy
def FJ:E3:=(yu 1 [2,0] (qo (aCons (kJ 7) aNil)) (gN 0) tTru (eOp zq (pV 1) (pE (eOp zD (pE (eCall AN (aCons (pV 2) (aCons (pV 0) aNil)))) (kJ 36)))))
def FK:E3:=(yu 1 [4,3] (qo (aCons (pV 1) aNil)) (gN 0) tTru (eOp zB (pV 1) (pE (eSl (pV 2) poN (poS (pV 0))))))
def J6:D3:=(zw (qo (aCons (pV 1) aNil)) (gN 7) (sSeq (sSet 8 (eOp zq (pV 2) (pE (eOp zD (pE (eOp zB (pV 0) (pE (eOp zZ (kJ 7) (pV 7))))) (kJ 36))))) (yR yo (pV 6) (aCons (pE (eOp zB (pE (eOp zB (pE (eOp zB (pV 4) (pE (eSl (pV 3) poN (poS (pV 5)))))) (pV 8))) (pE (eSl (pV 3) (poS (pE (eOp zB (pV 5) (kJ 1)))) poN)))) aNil))))
def J7:D3:=(sSeq (sSet 2 (eC (.str ("abcdefghijklmnopqrstuvwxyz0123456789" :Str)))) (sSeq (sSet 3 (HD (pE (eC (.str ("" :Str)))) (aCons (pE FJ) aNil))) (sSeq (sSet 4 (eOp zq (pV 2) (pE (eOp zD (pE (eCall AN (aCons (pV 0) (aCons (kJ 8) aNil)))) (kJ 26))))) (sSeq (sIf (tAnd3 (tE (eOp y0 (pE (eOp zD (pV 0) (kJ 3))) (kJ 0))) (tE (eOp qP (pV 1) (kJ 9)))) (sSeq (sFz 3) (sRet FK)) sSkip) (sSeq (sSet 5 (eOp zD (pE (eOp z7 (pV 0) (kJ 3))) (kJ 7))) (sSeq (sSet 6 (eLst aNil)) (sSeq J6 (sRetS 6))))))))
def FL:F3:=fun3 2 9 J7
def UN:zn FL 2:=zy
def J8:D3:=(zw (qo (aCons (pV 3) aNil)) (gN 7) (sSeq (sSet 8 (eCall AQ (aCons (pV 0) (aCons (pE (eOp zB (kJ 4) (pV 7))) aNil)))) (sSeq (sIf (tE (eOp y0 (pE (eOp zD (pE (eOp z7 (pV 2) (kJ 1024))) (kJ 2))) (kJ 0))) (sSeq (sFz 8) (sSet 8 (eCall AN (aCons (pV 8) (aCons (pV 7) aNil))))) sSkip) (sSeq (sSet 9 (eOp zB (pV 4) (pE (eOp zZ (pV 1) (pE (eOp zD (pV 8) (kJ 17))))))) (sSeq (sSet 10 (eOp yg (pE (eOp zB (pV 9) (pE (eOp zZ (pV 1) (pE (eOp zB (kJ 1) (pE (eOp zD (pE (eOp z7 (pV 8) (kJ 17))) (kJ 11))))))))) (kJ 1))) (sSeq (sIf (tE (eOp y0 (pE (eOp zD (pE (eOp z7 (pV 8) (kJ 187))) (kJ 16))) (kJ 1))) (sSet 10 (eOp yg (pV 9) (kJ 1))) sSkip) (sSeq (sSet 11 (eOp zB (kJ 1) (pE (eOp zD (pE (eOp z7 (pV 8) (kJ 3000))) (pE (eOp zq (pE (eLst (aCons (kJ 4) (aCons (kJ 12) (aCons (kJ 60) aNil))))) (pE (eOp zD (pE (eOp z7 (pV 8) (kJ 180000))) (kJ 3))))))))) (sSeq (sSet 12 (eOp zB (kJ 1) (pE (eOp zD (pE (eOp z7 (pV 8) (kJ 540000))) (pE (eOp zq (pE (eLst (aCons (kJ 1) (aCons (kJ 1) (aCons (kJ 3) (aCons (kJ 16) aNil)))))) (pE (eOp zD (pE (eOp z7 (pV 8) (kJ 8640000))) (kJ 4))))))))) (sSeq (sFz 12) (sSeq (sFz 11) (sSeq (sFz 9) (yR yo (pV 6) (aCons (pE (eTup (aCons (pE (eOp zq (pV 5) (pV 7))) (aCons (pV 9) (aCons (pV 10) (aCons (pV 11) (aCons (pV 12) aNil))))))) aNil)))))))))))))
def J9:D3:=(sSeq (sSet 2 (eCall AQ (aCons (pV 0) (aCons (kJ 1) aNil)))) (sSeq (sSet 3 (eOp zD (pV 2) (kJ 8))) (sSeq (sIf (tE (eOp y0 (pE (eOp zD (pE (eOp z7 (pV 2) (kJ 8))) (kJ 16))) (kJ 1))) (sSet 3 (eC (.int 12))) sSkip) (sSeq (sSet 4 (eC (.int 0))) (sSeq (sIf (tE (eOp y0 (pE (eOp zD (pE (eOp z7 (pV 2) (kJ 128))) (kJ 8))) (kJ 1))) (sSeq (sFz 2) (sSet 4 (eOp zD (pE (eCall AN (aCons (pV 2) (aCons (kJ 10) aNil)))) (pE (eOp zZ (kJ 9) (pE (eOp oPow (kJ 10) (kJ 8)))))))) sSkip) (sSeq (sSet 5 (eCall FL (aCons (pE (eCall AQ (aCons (pV 0) (aCons (kJ 2) aNil)))) (aCons (pV 3) aNil)))) (sSeq (sSet 6 (eLst aNil)) (sSeq J8 (sRetS 6)))))))))
def FN:F3:=fun3 2 13 J9
def UO:zn FN 2:=zy
def HK:E3:=(yu 1 [] (iS (pV 0)) (gN 0) tTru (eOp (oInS false) (pV 0) (pE (eC (.str ("abcdefghijklmnopqrstuvwxyz0123456789" :Str))))))
def JA:D3:=(sSeq (sIf (tOr3 (tNot3 (tE (eB bIsT (aCons (pV 0) (aCons (pE (eC (.ty "str"))) aNil))))) (tNot3 (tE (eChain jr jr (kJ 1) (pE (eB bLen (aCons (pV 0) aNil))) (kJ 8))))) (sRet (eC (.bl false))) sSkip) (sRet (eAnd (eOp (oInS false) (pE (eOp zq (pV 0) (kJ 0))) (pE (eC (.str ("abcdefghijklmnopqrstuvwxyz" :Str))))) (eB (bAll fun bs=>bs.all id) (aCons (pE HK) aNil)))))
def FO:F3:=fun3 1 1 JA
def UP:zn FO 1:=zy
def JB:D3:=(sRet (eAnd (eB bIsT (aCons (pV 0) (aCons (pE (eC (.ty "int"))) aNil))) (eNot (eB bIsT (aCons (pV 0) (aCons (pE (eC (.ty "bool"))) aNil))))))
def FP:F3:=fun3 1 1 JB
def UQ:zn FP 1:=zy
def JC:D3:=(sRet (eAnd (eCall FP (aCons (pV 0) aNil)) (eChain jr jr (pV 1) (pV 0) (pV 2))))
def jF:F3:=fun3 3 3 JC
def CS:zn jF 3:=zy
def JD:D3:=(sSeq (sIf (tOr3 (tNot3 (tE (eCall jF (aCons (pV 0) (aCons (kJ 0) (aCons (kJ 1000000000) aNil)))))) (tNot3 (tE (eCall jF (aCons (pV 1) (aCons (pE (eNeg (kJ 1))) (aCons (kJ 10000000000) aNil))))))) (sRet (eC (.bl false))) sSkip) (sRet (eAnd (eCall jF (aCons (pV 2) (aCons (kJ 1) (aCons (kJ 60) aNil)))) (eCall jF (aCons (pV 3) (aCons (kJ 1) (aCons (kJ 16) aNil)))))))
def FQ:F3:=fun3 4 4 JD
def UR:zn FQ 4:=zy
def JE:D3:=(zw (iL (pV 0)) (gT (gsCons (gN 2) (gsCons (gN 3) (gsCons (gN 4) (gsCons (gN 5) (gsCons (gN 6) gsNil)))))) (sSeq (sIf (tNot3 (tE (eCall FO (aCons (pV 2) aNil)))) sNever sSkip) (sSeq (sIf (tE (eOp (qA false) (pV 2) (pV 1))) sNever sSkip) (sSeq (sIf (tNot3 (tE (eCall FQ (aCons (pV 3) (aCons (pV 4) (aCons (pV 5) (aCons (pV 6) aNil))))))) sNever sSkip) (yR yo (pV 1) (aCons (pV 2) aNil))))))
def JF:D3:=(sSeq (sIf (tE (eOp ju (pE (eB bLen (aCons (pV 0) aNil))) (kJ 12))) sNever sSkip) (sSeq (sSet 1 (eLst aNil)) (sSeq JE (sRet (eC (.bl true))))))
def FR:F3:=fun3 1 7 JF
def US:zn FR 1:=zy
def JG:D3:=(sRet (eB bMax (aCons (kJ 0) (aCons (pE (eOp zB (pE (eOp yg (pE (eOp zq (pV 0) (kJ 2))) (pE (eOp zq (pV 0) (kJ 1))))) (kJ 1))) aNil))))
def FS:F3:=fun3 1 1 JG
def UT:zn FS 1:=zy
def JH:D3:=(zw (iL (pE (zf [("Calendar" :Str)] ("stretches" :Str) (pV 0)))) (gT (gsCons (gN 5) (gsCons (gN 6) gsNil))) (sSeq (sAug 4 AE (pV 5)) (sIf (tE (eChain qP jr (pV 1) (pV 4) (pV 2))) (yR yo (pV 3) (aCons (pV 4) aNil)) sSkip)))
def JI:D3:=(sSeq (sSet 3 (eLst aNil)) (sSeq (sSet 4 (eC (.int 0))) (sSeq JH (sRetS 3))))
def FT:F3:=fun3 3 7 JI
def UU:zn FT 3:=zy
def JJ:D3:=(zw (iL (pV 0)) (gN 3) (sIf (tE (eOp ju (pE (eCall FS (aCons (pV 3) aNil))) (kJ 0))) (sSeq (yR jB (pV 2) (aCons (pE (eLst (aCons (pE (eOp zq (pV 3) (kJ 1))) (aCons (pE (eOp zB (pE (eOp zq (pV 3) (kJ 2))) (kJ 1))) aNil)))) aNil)) (yR jB (pV 2) (aCons (pE (zS ("Calendar" :Str) ("changes" :Str) FT (pV 1) (aCons (pE (eOp zq (pV 3) (kJ 1))) (aCons (pE (eOp zq (pV 3) (kJ 2))) aNil)))) aNil))) sSkip))
def JK:D3:=(sSeq (sSet 2 (eLst aNil)) (sSeq JJ (sSeq (sFz 2) (sRet (eB DQ (aCons (pV 2) aNil))))))
def FU:F3:=fun3 2 4 JK
def UV:zn FU 2:=zy
def HL:E3:=(yu 5 [1] (iL (pV 0)) (gT (gsCons (gN 0) (gsCons (gN 1) (gsCons (gN 2) (gsCons (gN 3) (gsCons (gN 4) gsNil)))))) tTru (eChain jr jr (pV 1) (pV 5) (pV 2)))
def JL:D3:=(sRet (eB (bAll fun bs=>bs.any id) (aCons (pE HL) aNil)))
def FV:F3:=fun3 2 2 JL
def UW:zn FV 2:=zy
def JM:D3:=(zw (iL (pE (zf [("Calendar" :Str)] ("stretches" :Str) (pV 0)))) (gT (gsCons (gN 3) (gsCons (gN 4) gsNil))) (sSeq (sAug 2 AE (pV 3)) (sIf (tE (eOp qP (pV 1) (pV 2))) (sRetS 4) sSkip)))
def JN:D3:=(sSeq (sSet 2 (eC (.int 0))) (sSeq JM (sRet (zf [("Calendar" :Str)] ("beyond" :Str) (pV 0)))))
def FW:F3:=fun3 2 5 JN
def UX:zn FW 2:=zy
def JO:D3:=(zw (Ji (aCons (pV 3) (aCons (pE (eSl (pV 3) (poS (kJ 1)) poN)) aNil))) (gT (gsCons (gN 4) (gsCons (gN 5) gsNil))) (sIf (tE (eCall FV (aCons (pV 0) (aCons (pV 4) aNil)))) (yR yo (pV 2) (aCons (pE (eTup (aCons (pV 4) (aCons (pE (eOp yg (pV 5) (kJ 1))) (aCons (pE (zS ("Calendar" :Str) ("at" :Str) FW (pV 1) (aCons (pV 4) aNil))) aNil))))) aNil)) sSkip))
def JP:D3:=(sSeq (sExp (eCall FR (aCons (pV 0) aNil))) (sSeq (sSet 2 (eLst aNil)) (sSeq (sSet 3 (eCall FU (aCons (pV 0) (aCons (pV 1) aNil)))) (sSeq (sFz 3) (sSeq JO (sRetS 2))))))
def FX:F3:=fun3 2 6 JP
def UY:zn FX 2:=zy
def HM:D3:=(zw (iL (pV 1)) (gT (gsCons (gN 3) (gsCons (gN 4) (gsCons (gN 5) gsNil)))) (sSeq (sSet 2 (eB bMin (aCons (pV 2) (aCons (pE (eOp yg (pE (eOp AK (pE (eOp zq (pE (zf [("Flow" :Str)] ("most" :Str) (pV 0))) (pV 3))) (pV 4))) (pE (eOp zq (pE (eOp zq (pE (zf [("Flow" :Str)] ("shares" :Str) (pV 0))) (pV 3))) (pV 4))))) aNil)))) (sIf (tE (eOp (oIsN true) (pV 5) (pE (eC .non)))) (sSet 2 (eB bMin (aCons (pV 2) (aCons (pE (eOp zq (pE (eOp zq (pE (zf [("Flow" :Str)] ("shares" :Str) (pV 0))) (pV 3))) (pV 5))) aNil)))) sSkip)))
def HN:D3:=(zw (iL (pV 1)) (gT (gsCons (gN 3) (gsCons (gN 4) (gsCons (gN 5) gsNil)))) (sSeq (je AE (pE (eOp zq (pE (zf [("Flow" :Str)] ("shares" :Str) (pV 0))) (pV 3))) (pV 4) (pV 2)) (sIf (tE (eOp (oIsN true) (pV 5) (pE (eC .non)))) (je yg (pE (eOp zq (pE (zf [("Flow" :Str)] ("shares" :Str) (pV 0))) (pV 3))) (pV 5) (pV 2)) sSkip)))
def JQ:D3:=(sSeq (sSet 2 (eB bMin (aCons (pE (eOp zq (pE (zf [("Flow" :Str)] ("spare" :Str) (pV 0))) (pE (eOp zq (pE (eOp zq (pV 1) (kJ 0))) (kJ 1))))) (aCons (pE (eOp zq (pE (zf [("Flow" :Str)] ("missing" :Str) (pV 0))) (pE (eOp zq (pE (eOp zq (pV 1) (pE (eNeg (kJ 1))))) (kJ 0))))) aNil)))) (sSeq HM (sSeq HN (sSeq (je yg (pE (zf [("Flow" :Str)] ("spare" :Str) (pV 0))) (pE (eOp zq (pE (eOp zq (pV 1) (kJ 0))) (kJ 1))) (pV 2)) (je yg (pE (zf [("Flow" :Str)] ("missing" :Str) (pV 0))) (pE (eOp zq (pE (eOp zq (pV 1) (pE (eNeg (kJ 1))))) (kJ 0))) (pV 2))))))
def BZ:F3:=fun3 2 6 JQ
def NT:zn BZ 2:=zy
def FY:D3:=(zw (iDl (pV 2)) (gN 3) (sExp (zS ("Flow" :Str) ("shift" :Str) BZ (pV 0) (aCons (pE (eLst (aCons (pE (eTup (aCons (pV 1) (aCons (pV 3) (aCons (pE (eC .non)) aNil))))) aNil))) aNil))))
def JR:D3:=(zw (AH (aCons (pE (zf [("Flow" :Str)] ("most" :Str) (pV 0))) aNil)) (gT (gsCons (gN 1) (gsCons (gN 2) gsNil))) FY)
def JS:D3:=JR
def FZ:F3:=fun3 1 4 JS
def UZ:zn FZ 1:=zy
def JT:D3:=(zw (iL (pV 1)) (gN 2) (qK (pE (zf [("Reach" :Str)] ("cell_ahead" :Str) (pV 0))) (pV 2) (eC .non)))
def JU:D3:=(sSeq (qh [("Reach" :Str)] ("job_ahead" :Str) (pV 0) (yT eDnT)) (sSeq (qh [("Reach" :Str)] ("cell_ahead" :Str) (pV 0) (yT eDnT)) JT))
def Gy:F3:=fun3 2 3 JU
def Va:zn Gy 2:=zy
def HP:E3:=(yu 2 [1,0] (iI (pE (eOp zq (pE (zf [("Flow" :Str)] ("most" :Str) (pV 0))) (pV 1)))) (gT (gsCons (gN 0) (gsCons (gN 1) gsNil))) (tE (eOp qP (pE (eOp zq (pE (eOp zq (pE (zf [("Flow" :Str)] ("shares" :Str) (pV 3))) (pV 2))) (pV 0))) (pV 1))) (eV 0))
def JV:D3:=(sRet HP)
def DT:F3:=fun3 2 2 JV
def Vb:zn DT 2:=zy
def HQ:E3:=(yu 2 [1] (AH (aCons (pE (zf [("Flow" :Str)] ("shares" :Str) (pV 0))) aNil)) (gT (gsCons (gN 0) (gsCons (gN 1) gsNil))) (tE (eOp ju (pE (eOp zq (pV 1) (pV 2))) (kJ 0))) (eV 0))
def JW:D3:=(sRet HQ)
def Gz:F3:=fun3 2 2 JW
def Vc:zn Gz 2:=zy
def HR:E3:=(yu 2 [] (AH (aCons (pE (zf [("Flow" :Str)] ("missing" :Str) (pV 0))) aNil)) (gT (gsCons (gN 0) (gsCons (gN 1) gsNil))) (tE (eOp ju (pV 1) (kJ 0))) (eV 0))
def G0:E3:=(yu 1 [2] (iL (pE (zS ("Flow" :Str) ("jobs_behind" :Str) Gz (pV 0) (aCons (pV 4) aNil)))) (gN 0) (tE (eOp (oDIn true) (pV 0) (pE (zf [("Reach" :Str)] ("cell_ahead" :Str) (pV 1))))) (eV 0))
def G6:D3:=(zw (iL (pV 5)) (gN 6) (qK (pE (zf [("Reach" :Str)] ("cell_ahead" :Str) (pV 2))) (pV 6) (eV 4)))
def HS:D3:=(zw (iL (pE (zS ("Flow" :Str) ("cells_behind" :Str) DT (pV 0) (aCons (pV 3) aNil)))) (gN 4) (sIf (tE (eOp (oDIn true) (pV 4) (pE (zf [("Reach" :Str)] ("job_ahead" :Str) (pV 2))))) (sSeq (sFz 3) (sSeq (qK (pE (zf [("Reach" :Str)] ("job_ahead" :Str) (pV 2))) (pV 4) (eV 3)) (sSeq (sFz 2) (sSeq (sSet 5 G0) (sSeq (sFz 5) (sSeq G6 (sSeq (sFz 5) (yR jB (pV 1) (aCons (pV 5) aNil))))))))) sSkip))
def JX:D3:=(jK (tP (pV 1)) (sSeq (HB 3 DN (pV 1) (aCons (kJ 0) aNil)) (sSeq (sFz 3) HS)))
def JY:D3:=(sSeq (sSet 1 (yT HR)) (sSeq (sSet 2 (eNew ("Reach" :Str) Gy (aCons (pV 1) aNil))) (sSeq JX (sRetS 2))))
def DU:F3:=fun3 1 7 JY
def NU:zn DU 1:=zy
def JZ:D3:=(jK (tE (eOp (oIsN true) (pV 1) (pE (eC .non)))) (sSeq (sSet 3 (eOp AK (pE (zf [("Reach" :Str)] ("job_ahead" :Str) (pV 0))) (pV 1))) (sSeq (yR yo (pV 2) (aCons (pE (eTup (aCons (pV 3) (aCons (pV 1) (aCons (pE (eOp AK (pE (zf [("Reach" :Str)] ("cell_ahead" :Str) (pV 0))) (pV 3))) aNil))))) aNil)) (sSet 1 (eOp AK (pE (zf [("Reach" :Str)] ("cell_ahead" :Str) (pV 0))) (pV 3))))))
def Ka:D3:=(sSeq (sSet 2 (eLst aNil)) (sSeq JZ (sRetS 2)))
def G7:F3:=fun3 2 4 Ka
def Vd:zn G7 2:=zy
def Kb:D3:=(zw (iDl (pE (zf [("Reach" :Str)] ("job_ahead" :Str) (pV 1)))) (gN 2) (sIf (tE (eOp ju (pE (eOp zq (pE (zf [("Flow" :Str)] ("spare" :Str) (pV 0))) (pV 2))) (kJ 0))) (sRet (zS ("Reach" :Str) ("steps_to" :Str) G7 (pV 1) (aCons (pV 2) aNil))) sSkip))
def Kc:D3:=(sSeq (sSet 1 (zS ("Flow" :Str) ("reached" :Str) DU (pV 0) aNil)) (sSeq Kb (sRet (eLst aNil))))
def CT:F3:=fun3 1 3 Kc
def NV:zn CT 1:=zy
def Ke:D3:=(jK (tP (pV 1)) (sSeq (sFz 1) (sSeq (sExp (zS ("Flow" :Str) ("shift" :Str) BZ (pV 0) (aCons (pV 1) aNil))) (sSet 1 (zS ("Flow" :Str) ("steps_to_spare" :Str) CT (pV 0) aNil)))))
def Kf:D3:=(sSeq (sSet 1 (zS ("Flow" :Str) ("steps_to_spare" :Str) CT (pV 0) aNil)) Ke)
def G8:F3:=fun3 1 2 Kf
def Ve:zn G8 1:=zy
def HU:E3:=(yu 2 [0] (AH (aCons (pV 1) aNil)) (gT (gsCons (gN 0) (gsCons (gN 1) gsNil))) (tAnd3 (tE (eOp jr (pE (eOp zq (pV 2) (kJ 1))) (pE (eOp zq (pV 1) (kJ 0))))) (tE (eOp jr (pE (eOp zq (pV 1) (kJ 1))) (pE (eOp zq (pV 2) (kJ 2)))))) (eV 0))
def Kg:D3:=(sRet HU)
def G9:F3:=fun3 2 2 Kg
def Vf:zn G9 2:=zy
def Kh:D3:=(zw (iL (pE (eCall G9 (aCons (pV 0) (aCons (pV 1) aNil))))) (gN 3) (qK (pV 2) (pV 3) (eOp zZ (pE (eOp zq (pV 0) (kJ 4))) (pE (eOp zB (pE (eOp yg (pE (eOp zq (pE (eOp zq (pV 1) (pV 3))) (kJ 1))) (pE (eOp zq (pE (eOp zq (pV 1) (pV 3))) (kJ 0))))) (kJ 1))))))
def Ki:D3:=(sSeq (sSet 2 eDnT) (sSeq Kh (sRetS 2)))
def GA:F3:=fun3 2 4 Ki
def Vg:zn GA 2:=zy
def HV:E3:=(yu 1 [0] (iL (pE (zf [("Flow" :Str)] ("load" :Str) (pV 0)))) (gN 0) tTru (eCall GA (aCons (pV 0) (aCons (pE (zf [("Flow" :Str)] ("cells" :Str) (pV 1))) aNil))))
def HW:E3:=(yu 1 [0] (iL (pE (zf [("Flow" :Str)] ("load" :Str) (pV 0)))) (gN 0) tTru (yT (eOp zZ (pE (eLst (aCons (kJ 0) aNil))) (pE (eB bLen (aCons (pE (zf [("Flow" :Str)] ("cells" :Str) (pV 1))) aNil))))))
def GB:E3:=(yu 1 [] (iL (pE (zf [("Flow" :Str)] ("load" :Str) (pV 0)))) (gN 0) tTru (eOp zq (pV 0) (kJ 3)))
def GC:E3:=(yu 3 [] (iL (pE (zf [("Flow" :Str)] ("cells" :Str) (pV 0)))) (gT (gsCons (gN 0) (gsCons (gN 1) (gsCons (gN 2) gsNil)))) tTru (eOp zZ (pV 2) (pE (eOp zB (pE (eOp yg (pV 1) (pV 0))) (kJ 1)))))
def Kj:D3:=(sSeq (qh [("Flow" :Str)] ("cells" :Str) (pV 0) (eCall FX (aCons (pV 1) (aCons (pV 2) aNil)))) (sSeq (qh [("Flow" :Str)] ("load" :Str) (pV 0) (eB bList (aCons (pV 1) aNil))) (sSeq (qh [("Flow" :Str)] ("most" :Str) (pV 0) HV) (sSeq (qh [("Flow" :Str)] ("shares" :Str) (pV 0) HW) (sSeq (qh [("Flow" :Str)] ("missing" :Str) (pV 0) (yT GB)) (sSeq (qh [("Flow" :Str)] ("spare" :Str) (pV 0) (yT GC)) (sSeq (sExp (zS ("Flow" :Str) ("take_straight" :Str) FZ (pV 0) aNil)) (sExp (zS ("Flow" :Str) ("take_by_ways" :Str) G8 (pV 0) aNil)))))))))
def GD:F3:=fun3 3 3 Kj
def Vh:zn GD 3:=zy
def Kk:D3:=(sRet (eOp zq (pE (eOp zq (pE (zf [("Flow" :Str)] ("shares" :Str) (pV 0))) (pV 1))) (pV 2)))
def CU:F3:=fun3 3 3 Kk
def NW:zn CU 3:=zy
def GE:D3:=(sSeq (sAsg (gT (gsCons (gN 4) (gsCons (gN 5) (gsCons (gN 6) gsNil)))) (eOp zq (pE (zf [("Flow" :Str)] ("cells" :Str) (pV 0))) (pV 3))) (sSeq (sIf (tOr3 (tE (eOp qP (pV 4) (pE (eOp zq (pE (eOp zq (pV 1) (pV 2))) (kJ 1))))) (tE (eOp ju (pV 5) (pE (eOp zq (pE (eOp zq (pV 1) (pV 2))) (kJ 2)))))) (sRet (eC (.bl false))) sSkip) (sRet (eOp qP (pE (zS ("Flow" :Str) ("share" :Str) CU (pV 0) (aCons (pV 2) (aCons (pV 3) aNil)))) (pE (eOp zZ (pE (eOp zq (pE (eOp zq (pV 1) (pV 2))) (kJ 4))) (pE (eOp zB (pE (eOp yg (pV 5) (pV 4))) (kJ 1)))))))))
def AR:F3:=fun3 4 7 GE
def Vi:zn AR 4:=zy
def Kl:D3:=(sRet (eB bList (aCons (pE (zf [("Flow" :Str)] ("missing" :Str) (pV 0))) aNil)))
def GF:F3:=fun3 1 1 Kl
def Vj:zn GF 1:=zy
def DV:E3:=(yu 1 [0] (qo (aCons (pE (eB bLen (aCons (pV 1) aNil))) aNil)) (gN 0) (tE (eOp ju (pE (eOp zq (pE (zS ("Flow" :Str) ("lacking_by" :Str) GF (pV 1) aNil)) (pV 0))) (kJ 0))) (eV 0))
def DW:E3:=(yu 1 [2,5,0] (qo (aCons (pE (eB bLen (aCons (pV 1) aNil))) aNil)) (gN 0) (tAnd3 (tE (eOp (qA true) (pV 0) (pV 1))) (tE (eOp ju (pE (zS ("Flow" :Str) ("share" :Str) CU (pV 3) (aCons (pV 0) (aCons (pV 2) aNil)))) (kJ 0)))) (eV 0))
def HX:D3:=(zw (qo (aCons (pE (eB bLen (aCons (pE (zf [("Flow" :Str)] ("cells" :Str) (pV 0))) aNil))) aNil)) (gN 5) (sIf (tAnd3 (tE (eOp (qA true) (pV 5) (pV 3))) (tE (eCall AR (aCons (pV 0) (aCons (pV 1) (aCons (pE (eOp zq (pV 2) (pV 4))) (aCons (pV 5) aNil))))))) (sSeq (yR yo (pV 3) (aCons (pV 5) aNil)) (sSeq (sFz 2) (sSet 2 (eOp zB (pV 2) (pE DW))))) sSkip))
def Km:D3:=(jK (tE (eOp qP (pV 4) (pE (eB bLen (aCons (pV 2) aNil))))) (sSeq HX (sSet 4 (eOp zB (pV 4) (kJ 1)))))
def Kn:D3:=(sSeq (sSet 2 DV) (sSeq (sSet 3 (eLst aNil)) (sSeq (sSet 4 (eC (.int 0))) (sSeq Km (sRet (eTup (aCons (pE (eB AM (aCons (pV 3) aNil))) (aCons (pE (eB AM (aCons (pV 2) aNil))) aNil))))))))
def BI:F3:=fun3 2 6 Kn
def Vk:zn BI 2:=zy
def Ko:D3:=(sSeq (sSet 1 (zS ("Flow" :Str) ("reached" :Str) DU (pV 0) aNil)) (sRet (eTup (aCons (pE (yT (eB BY (aCons (pE (zf [("Reach" :Str)] ("job_ahead" :Str) (pV 1))) aNil)))) (aCons (pE (yT (eB BY (aCons (pE (zf [("Reach" :Str)] ("cell_ahead" :Str) (pV 1))) aNil)))) aNil)))))
def qH:F3:=fun3 1 2 Ko
def NX:zn qH 1:=zy
def Kp:D3:=(zw (iL (pV 0)) (gT (gsCons (gN 2) (gsCons (gN 3) gsNil))) (sIf (tAnd3 (tP (pV 1)) (tE (eOp y0 (pE (eOp zq (pE (eOp zq (pV 1) (pE (eNeg (kJ 1))))) (kJ 1))) (pV 3)))) (HC (pV 1) (pE (eNeg (kJ 1))) (eTup (aCons (pE (eOp zB (pE (eOp zq (pE (eOp zq (pV 1) (pE (eNeg (kJ 1))))) (kJ 0))) (pV 2))) (aCons (pV 3) aNil)))) (yR yo (pV 1) (aCons (pE (eTup (aCons (pV 2) (aCons (pV 3) aNil)))) aNil))))
def Kq:D3:=(sSeq (sSet 1 (eLst aNil)) (sSeq Kp (sRetS 1)))
def GG:F3:=fun3 1 4 Kq
def Vm:zn GG 1:=zy
def GH:D3:=(sSeq (sSet 2 (eCall GG (aCons (pV 0) aNil))) (sSeq (sIf (tAnd3 (tP (pV 2)) (tE (eOp y0 (pE (eOp zq (pE (eOp zq (pV 2) (pE (eNeg (kJ 1))))) (kJ 1))) (pV 1)))) (yR mPop (pV 2) aNil) sSkip) (sRetS 2)))
def CV:F3:=fun3 2 3 GH
def Vn:zn CV 2:=zy
def Kr:D3:=(sRet (eCall jF (aCons (pV 0) (aCons (kJ 0) (aCons (kJ 16) aNil)))))
def GI:F3:=fun3 1 1 Kr
def Vo:zn GI 1:=zy
def Ks:D3:=(sSeq (sIf (tOr3 (tNot3 (tE (eB bIsT (aCons (pV 0) (aCons (pE (eC (.ty "tuple"))) aNil))))) (tE (eOp oNe (pE (eB bLen (aCons (pV 0) aNil))) (kJ 2)))) (sRet (eC (.bl false))) sSkip) (sRet (eAnd (eCall jF (aCons (pE (eOp zq (pV 0) (kJ 0))) (aCons (kJ 1) (aCons (kJ 1000000) aNil)))) (eCall GI (aCons (pE (eOp zq (pV 0) (kJ 1))) aNil)))))
def GJ:F3:=fun3 1 1 Ks
def Vp:zn GJ 1:=zy
def HY:E3:=(yu 1 [] (iL (pV 0)) (gN 0) tTru (eCall GJ (aCons (pV 0) aNil)))
def Kt:D3:=(sSeq (sIf (tOr3 (tNot3 (tE (eB bIsT (aCons (pV 0) (aCons (pE (eC (.ty "list"))) aNil))))) (tE (eOp ju (pE (eB bLen (aCons (pV 0) aNil))) (kJ 16)))) (sRet (eC (.bl false))) sSkip) (sRet (eB (bAll fun bs=>bs.all id) (aCons (pE HY) aNil))))
def GK:F3:=fun3 1 1 Kt
def Vq:zn GK 1:=zy
def Ku:D3:=(sRet (eCall jF (aCons (pV 0) (aCons (kJ 1) (aCons (kJ 16) aNil)))))
def GL:F3:=fun3 1 1 Ku
def Vr:zn GL 1:=zy
def Kv:D3:=(sSeq (sIf (tOr3 (tNot3 (tE (eCall GK (aCons (pV 1) aNil)))) (tNot3 (tE (eCall GL (aCons (pV 2) aNil))))) sNever sSkip) (sSeq (qh [("Calendar" :Str)] ("stretches" :Str) (pV 0) (eCall CV (aCons (pV 1) (aCons (pV 2) aNil)))) (qh [("Calendar" :Str)] ("beyond" :Str) (pV 0) (eV 2))))
def GM:F3:=fun3 3 3 Kv
def Vs:zn GM 3:=zy
def Kw:D3:=(sSeq (sAsg (gT (gsCons (gN 1) (gsCons (gN 2) (gsCons (gN 3) gsNil)))) (eCall FI (aCons (pE (eCall AQ (aCons (pV 0) (aCons (kJ 0) aNil)))) aNil))) (sSeq (sSet 4 (eCall FN (aCons (pV 0) (aCons (pV 3) aNil)))) (sSeq (sSet 5 (eNew ("Flow" :Str) GD (aCons (pE (eB bList (aCons (pV 4) aNil))) (aCons (pE (eObj (eNew ("Calendar" :Str) GM (aCons (pE (eB bList (aCons (pV 1) aNil))) (aCons (pV 2) aNil))))) aNil)))) (sSeq (sFz 4) (sSeq (sFz 5) (sSeq (sSet 6 (eCall BI (aCons (pV 5) (aCons (pV 4) aNil)))) (sSeq (sSet 7 (zS ("Flow" :Str) ("cut" :Str) qH (pV 5) aNil)) (sSeq (yR yo (pE (eOp zq (pV 7) (kJ 0))) (aCons (kJ 0) aNil)) (sSeq (yR yo (pE (eOp zq (pV 7) (kJ 1))) (aCons (kJ 0) aNil)) (sRet (eOp y0 (pE (zS ("Flow" :Str) ("cut" :Str) qH (pV 5) aNil)) (pV 6))))))))))))
def f_law:F3:=fun3 1 8 Kw
end My
namespace My
open PySem PySem.Spec PyProof.Rows L2 L3
noncomputable def zT (i:Nat):Stmt:=PySem.Challenge.pw_dueyard_k24_just_the_reached.main.body.getD i (.Pass ⟨0,0,0,0⟩)
abbrev NY:Stmt:=zT 46
def o0:FnScope ["_law_cell","_law_k","_law_number"] ["_law_cell","_law_k"] (zC NY):=zx
abbrev NZ:Stmt:=zT 48
def o1:FnScope ["_law_cell","_law_by","_law_rows_here","_law_k","_law_number","_law_rest"] ["_law_cell"] (zC NZ):=zx
abbrev Oa:Stmt:=zT 45
def o2:FnScope ["_law_script","_law_k"] ["_law_script","_law_k"] (zC Oa):=zx
abbrev HZ:Stmt:=zT 47
def o3:FnScope ["_law_cell","_law_many","_law_signs","_law_base","_law_first","_law_at","_law_names_here","_law_k","_law_sign"] ["_law_cell","_law_many"] (zC HZ):=zx
abbrev Ob:Stmt:=zT 49
def o4:FnScope ["_law_script","_law_by","_law_cell","_law_many","_law_far","_law_names_here","_law_load_here","_law_k","_law_number","_law_first","_law_last","_law_work","_law_breadth"] ["_law_script","_law_by"] (zC Ob):=zx
abbrev Ky:Stmt:=zT 20
def o5:FnScope ["thing"] ["thing"] (zC Ky):=zx
abbrev Oc:Stmt:=zT 10
def o6:FnScope ["thing"] ["thing"] (zC Oc):=zx
abbrev Od:Stmt:=zT 11
def o7:FnScope ["thing","low","high"] ["thing","low","high"] (zC Od):=zx
abbrev Oe:Stmt:=zT 21
def o8:FnScope ["first","last","work","breadth"] ["first","last","work","breadth"] (zC Oe):=zx
abbrev Of:Stmt:=zT 22
def o9:FnScope ["load","names","name","first","last","work","breadth"] ["load"] (zC Of):=zx
abbrev Og:Stmt:=zT 23
def Vt:FnScope ["job"] ["job"] (zC Og):=zx
abbrev Oh:Stmt:=ql (zT 43) 7
def DX:FnScope ["self","first","last","told","stop","many","machines"] ["self","first","last"] (zC Oh):=zx
abbrev Oj:Stmt:=zT 26
def Kz:FnScope ["load","calendar","told","job"] ["load","calendar"] (zC Oj):=zx
abbrev K0:Stmt:=zT 25
def Vu:FnScope ["load","turn"] ["load","turn"] (zC K0):=zx
abbrev Ol:Stmt:=ql (zT 43) 3
def GN:FnScope ["self","turn","stop","many","machines"] ["self","turn"] (zC Ol):=zx
abbrev Om:Stmt:=zT 27
def GO:FnScope ["load","calendar","told","turns","start","stop"] ["load","calendar"] (zC Om):=zx
abbrev On:Stmt:=ql (zT 32) 7
def AS:FnScope ["self","steps","by","job","taken","given"] ["self","steps"] (zC On):=zx
abbrev Oo:Stmt:=ql (zT 32) 1
def Ia:FnScope ["self","job","most","cell"] ["self"] (zC Oo):=zx
abbrev Oq:Stmt:=ql (zT 31) 0
def Os:FnScope ["self","lacking_jobs","job"] ["self","lacking_jobs"] (zC Oq):=zx
abbrev K1:Stmt:=ql (zT 32) 5
def Vv:FnScope ["self","job"] ["self","job"] (zC K1):=zx
abbrev K2:Stmt:=ql (zT 32) 6
def Vw:FnScope ["self","cell"] ["self","cell"] (zC K2):=zx
abbrev Ib:Stmt:=ql (zT 32) 4
def CW:FnScope ["self","waiting","reach","job","cell","fresh","other"] ["self"] (zC Ib):=zx
abbrev Ot:Stmt:=ql (zT 31) 1
def Ic:FnScope ["self","cell","steps","job"] ["self","cell"] (zC Ot):=zx
abbrev Ou:Stmt:=ql (zT 32) 3
def K4:FnScope ["self","reach","cell"] ["self"] (zC Ou):=zx
abbrev Ov:Stmt:=ql (zT 32) 2
def K5:FnScope ["self","steps"] ["self"] (zC Ov):=zx
abbrev K6:Stmt:=zT 28
def Vx:FnScope ["job","some"] ["job","some"] (zC K6):=zx
abbrev Ow:Stmt:=zT 30
def K7:FnScope ["job","some","most","place"] ["job","some"] (zC Ow):=zx
abbrev DY:Stmt:=ql (zT 32) 0
def Vy:FnScope ["self","load","calendar"] ["self","load","calendar"] (zC DY):=zx
abbrev Ox:Stmt:=ql (zT 32) 8
def Vz:FnScope ["self","job","cell"] ["self","job","cell"] (zC Ox):=zx
abbrev Oy:Stmt:=zT 50
def Ie:FnScope ["_law_flow","_law_load_here","_law_k","_law_j","_law_first","_law_last","_law_machines"] ["_law_flow","_law_load_here","_law_k","_law_j"] (zC Oy):=zx
abbrev Oz:Stmt:=ql (zT 32) 11
def V0:FnScope ["self"] ["self"] (zC Oz):=zx
abbrev Ig:Stmt:=zT 51
def CY:FnScope ["_law_flow","_law_load_here","_law_jobs","_law_places","_law_at","_law_j"] ["_law_flow","_law_load_here"] (zC Ig):=zx
abbrev O0:Stmt:=ql (zT 32) 13
def O1:FnScope ["self","reach"] ["self"] (zC O0):=zx
abbrev O2:Stmt:=zT 41
def Ih:FnScope ["rows","told","many","machines"] ["rows"] (zC O2):=zx
abbrev O4:Stmt:=zT 42
def O5:FnScope ["rows","rest","told"] ["rows","rest"] (zC O4):=zx
abbrev O6:Stmt:=zT 37
def V1:FnScope ["thing"] ["thing"] (zC O6):=zx
abbrev O7:Stmt:=zT 39
def V2:FnScope ["thing"] ["thing"] (zC O7):=zx
abbrev K8:Stmt:=zT 40
def V4:FnScope ["thing"] ["thing"] (zC K8):=zx
abbrev O8:Stmt:=zT 38
def V5:FnScope ["thing"] ["thing"] (zC O8):=zx
abbrev O9:Stmt:=ql (zT 43) 0
def V6:FnScope ["self","rows","rest"] ["self","rows","rest"] (zC O9):=zx
abbrev OA:Stmt:=zT 52
def CA:FnScope ["_law_script","_law_rows_here","_law_rest","_law_by","_law_load_here","_law_flow","_law_due","_law_found"] ["_law_script"] (zC OA):=zx
set_option genInjectivity false in
structure Txt (K:FG) (mg:Str->Option Value) where
 q0:Addr
 q1:FuncData
 q2:Dfn K mg "_law_mixed" NY ["_law_cell","_law_k"] q0 q1
 q3:Addr
 q4:FuncData
 q5:Dfn K mg "_law_rows" NZ ["_law_cell"] q3 q4
 q6:Addr
 q7:FuncData
 q8:Dfn K mg "_law_cell_at" Oa ["_law_script","_law_k"] q6 q7
 q9:Addr
 q10:FuncData
 q11:Dfn K mg "_law_names" HZ ["_law_cell","_law_many"] q9 q10
 q12:Addr
 q13:FuncData
 q14:Dfn K mg "_law_load" Ob ["_law_script","_law_by"] q12 q13
 q15:Addr
 q16:FuncData
 q17:Dfn K mg "is_name" Ky ["thing"] q15 q16
 q18:Addr
 q19:FuncData
 q20:Dfn K mg "is_whole" Oc ["thing"] q18 q19
 q21:Addr
 q22:FuncData
 q23:Dfn K mg "is_whole_between" Od ["thing","low","high"] q21 q22
 q24:Addr
 q25:FuncData
 q26:Dfn K mg "are_numbers_of_job" Oe ["first","last","work","breadth"] q24 q25
 q27:Addr
 q28:FuncData
 q29:Dfn K mg "check_load" Of ["load"] q27 q28
 q30:Addr
 q31:FuncData
 q32:Dfn K mg "turns_of" Og ["job"] q30 q31
 q33:Addr
 q34:FuncData
 q35:Dfn K mg "borders" Oj ["load","calendar"] q33 q34
 q36:Addr
 q37:FuncData
 q38:Dfn K mg "is_in_a_window" K0 ["load","turn"] q36 q37
 q39:Addr
 q40:FuncData
 q41:Dfn K mg "cells" Om ["load","calendar"] q39 q40
 q42:Addr
 q43:FuncData
 q44:Dfn K mg "cells_within" K6 ["job","some"] q42 q43
 q45:Addr
 q46:FuncData
 q47:Dfn K mg "most_shares" Ow ["job","some"] q45 q46
 q48:Addr
 q49:FuncData
 q50:Dfn K mg "_law_open" Oy ["_law_flow","_law_load_here","_law_k","_law_j"] q48 q49
 q51:Addr
 q52:FuncData
 q53:Dfn K mg "_law_reached" Ig ["_law_flow","_law_load_here"] q51 q52
 q54:Addr
 q55:FuncData
 q56:Dfn K mg "neighbours_as_one" O2 ["rows"] q54 q55
 q57:Addr
 q58:FuncData
 q59:Dfn K mg "kept_rows" O4 ["rows","rest"] q57 q58
 q60:Addr
 q61:FuncData
 q62:Dfn K mg "is_machines" O6 ["thing"] q60 q61
 q63:Addr
 q64:FuncData
 q65:Dfn K mg "is_calendar_row" O7 ["thing"] q63 q64
 q66:Addr
 q67:FuncData
 q68:Dfn K mg "are_calendar_rows" K8 ["thing"] q66 q67
 q69:Addr
 q70:FuncData
 q71:Dfn K mg "is_rest" O8 ["thing"] q69 q70
 f_law:Addr
 fd_law:FuncData
 d_law:Dfn K mg "law" OA ["_law_script"] f_law fd_law
 q72:Addr
 q73:Cls K q72
 q74:mg "Reach" =some (.ref q72)
 q75:Addr
 q76:FuncData
 q77:DfnM K "__init__" "Reach.__init__" Oq ["self","lacking_jobs"] q75 q76
 q78:Addr
 q79:FuncData
 q80:DfnM K "steps_to" "Reach.steps_to" Ot ["self","cell"] q78 q79
 q81:Meth K q72 "steps_to" q78
 q82:Mk K q72 q75
 q83:NoAttr K q72 "job_ahead"
 q84:NoAttr K q72 "cell_ahead"
 q85:Addr
 q86:Cls K q85
 q87:mg "Flow" =some (.ref q85)
 q88:Addr
 q89:FuncData
 q90:DfnM K "shift" "Flow.shift" On ["self","steps"] q88 q89
 q91:Meth K q85 "shift" q88
 q92:Addr
 q93:FuncData
 q94:DfnM K "take_straight" "Flow.take_straight" Oo ["self"] q92 q93
 q95:Meth K q85 "take_straight" q92
 q96:Addr
 q97:FuncData
 q98:DfnM K "cells_behind" "Flow.cells_behind" K1 ["self","job"] q96 q97
 q99:Meth K q85 "cells_behind" q96
 q100:Addr
 q101:FuncData
 q102:DfnM K "jobs_behind" "Flow.jobs_behind" K2 ["self","cell"] q100 q101
 q103:Meth K q85 "jobs_behind" q100
 q104:Addr
 q105:FuncData
 q106:DfnM K "reached" "Flow.reached" Ib ["self"] q104 q105
 q107:Meth K q85 "reached" q104
 q108:Addr
 q109:FuncData
 q110:DfnM K "steps_to_spare" "Flow.steps_to_spare" Ou ["self"] q108 q109
 q111:Meth K q85 "steps_to_spare" q108
 q112:Addr
 q113:FuncData
 q114:DfnM K "take_by_ways" "Flow.take_by_ways" Ov ["self"] q112 q113
 q115:Meth K q85 "take_by_ways" q112
 q116:Addr
 q117:FuncData
 q118:DfnM K "__init__" "Flow.__init__" DY ["self","load","calendar"] q116 q117
 q119:Addr
 q120:FuncData
 q121:DfnM K "share" "Flow.share" Ox ["self","job","cell"] q119 q120
 q122:Meth K q85 "share" q119
 q123:Addr
 q124:FuncData
 q125:DfnM K "lacking_by" "Flow.lacking_by" Oz ["self"] q123 q124
 q126:Meth K q85 "lacking_by" q123
 q127:Addr
 q128:FuncData
 q129:DfnM K "cut" "Flow.cut" O0 ["self"] q127 q128
 q130:Meth K q85 "cut" q127
 q131:Mk K q85 q116
 q132:NoAttr K q85 "cells"
 q133:NoAttr K q85 "load"
 q134:NoAttr K q85 "most"
 q135:NoAttr K q85 "shares"
 q136:NoAttr K q85 "missing"
 q137:NoAttr K q85 "spare"
 q138:Addr
 q139:Cls K q138
 q140:mg "Calendar" =some (.ref q138)
 q141:Addr
 q142:FuncData
 q143:DfnM K "changes" "Calendar.changes" Oh ["self","first","last"] q141 q142
 q144:Meth K q138 "changes" q141
 q145:Addr
 q146:FuncData
 q147:DfnM K "at" "Calendar.at" Ol ["self","turn"] q145 q146
 q148:Meth K q138 "at" q145
 q149:Addr
 q150:FuncData
 q151:DfnM K "__init__" "Calendar.__init__" O9 ["self","rows","rest"] q149 q150
 q152:Mk K q138 q149
 q153:NoAttr K q138 "stretches"
 q154:NoAttr K q138 "beyond"
 q155:mg "all" =none
 q156:mg "any" =none
 q157:mg "bool" =none
 q158:mg "enumerate" =none
 q159:mg "int" =none
 q160:mg "isinstance" =none
 q161:mg "len" =none
 q162:mg "list" =none
 q163:mg "max" =none
 q164:mg "min" =none
 q165:mg "range" =none
 q166:mg "set" =none
 q167:mg "sorted" =none
 q168:mg "str" =none
 q169:mg "tuple" =none
 q170:mg "zip" =none
 q171:Tok
 q172:mg "LAST_TURN" =some (.int 10000000000 q171)
 q173:Tok
 q174:mg "LETTERS" =some (.str ("abcdefghijklmnopqrstuvwxyz" :Str) q173)
 q175:Tok
 q176:mg "LETTERS_AND_FIGURES" =some (.str ("abcdefghijklmnopqrstuvwxyz0123456789" :Str) q175)
 q177:Tok
 q178:mg "MOST_SIGNS" =some (.int 8 q177)
 q179:Tok
 q180:mg "MOST_JOBS" =some (.int 12 q179)
 q181:Tok
 q182:mg "LATEST_FIRST" =some (.int 1000000000 q181)
 q183:Tok
 q184:mg "MOST_WORK" =some (.int 60 q183)
 q185:Tok
 q186:mg "MOST_BREADTH" =some (.int 16 q185)
 q187:Tok
 q188:mg "MOST_ROWS" =some (.int 16 q187)
 q189:Tok
 q190:mg "MOST_TURNS_OF_ROW" =some (.int 1000000 q189)
 q191:Tok
 q192:mg "MOST_MACHINES" =some (.int 16 q191)
noncomputable def kx {K:FG} {mg:Str->Option Value} (T:Txt K mg):Kx:=⟨K,fun c=>([(("Reach" :Str),T.q72),(("Flow" :Str),T.q85),(("Calendar" :Str),T.q138)]:List (Str×Addr)).lookup c⟩
section
variable {P:Program} {w:World} {K:FG} {mg:Str->Option Value} {base:Heap}
theorem DZ (T:Txt K mg):FnOk P w K mg base (XT P w) 1 T.q0 T.q1 ["_law_cell","_law_k"] (zm (kx T) 2 AN):=z6 T.q2.F o0 fun cdv A outer s H E hr=>by unfold J3;exact (zl (zL 2 o0.nd (zp yE yB (zb (zp qE qF (zb (zp yF yG (za 0) (zb (zp qE qF zg (za 1))))) zg)) zg)) (zl (zL 2 o0.nd (zp yE yB (zb (zp qE qF (za 2) (za 2))) zg)) (zr (yh (zp yE yB (zb (zp yF yG (zb (zp yF yG (zb (zp qE qF (za 2) (za 2))) (zb (zp qE qF zg (za 2))))) zg)) zg)))))
theorem V7 (T:Txt K mg):FnOk P w K mg base (XT P w) 2 T.q3 T.q4 ["_law_cell"] (zm (kx T) 1 FI):=z6 T.q5.F o1 fun cdv A outer s H E hr=>by unfold J5 J4;exact (zl (zL 1 o1.nd AZ) (zl (yt (ye jH (jG (qu hr)) (yj _) (zb (zp yE yB (zb (zp qv qC (za 0) zg)) zg)) zg) (zr (zL 1 o1.nd (zp yF yG zg (zb (zp yE yB (zb (yf DS (DZ T) hr T.q2 (ze (za 0) (ze zg zj)))) zg))))) yx) (zl (zL 2 o1.nd (qz zj)) (zl (qf (BV rfl T.q165 (ze (zb (zp yE yB (za 0) zg)) zj)) (yb 3 o1.nd) (zl (zL 4 o1.nd (zp SX Q2 (zb (zp SZ Q1 (zb (zp qv qC (za 0) zg)) (zb (zp qE qF zg (za 3))))) zg)) (zl (yt (ye jH (jG (qu hr)) (yj _) (zb (zp yE yB (zb (zp qv qC (za 0) zg)) zg)) zg) (zr (zL 4 o1.nd (yf DS (DZ T) hr T.q2 (ze (za 0) (ze (zb (zp yF yG zg (za 3))) zj))))) yx) (zr (qI jv rfl Cu Cv qY (za 2) (ze (zb (AB (ze (zb (zp qE qF (za 1) (zb (zp yF yG zg (zb (zp yE yB (za 4) zg)))))) (ze (zb (zp yE yB (zb (zp qv qC (za 4) zg)) zg)) zj)))) zj)))))) (zl (zL 5 o1.nd (zp yF yG zg (zb (zp yE yB (zb (zp qv qC (za 0) zg)) zg)))) (zl (yt (ye jH (jG (qu hr)) (yj _) (zb (zp yE yB (zb (zp qv qC (za 0) zg)) zg)) zg) (zr (zL 5 o1.nd AZ)) yx) (y9 1 (y9 5 (y9 2 (zr (yh (AB (ze (za 2) (ze (za 5) (ze (za 1) zj)))))))))))))))
theorem Ii (T:Txt K mg):FnOk P w K mg base (XT P w) 1 T.q6 T.q7 ["_law_script","_law_k"] (zm (kx T) 2 AQ):=z6 T.q8.F o2 fun cdv A outer s H E hr=>by unfold HI;exact (zl (yt (ye BS BN (yj _) (za 1) (zb (yJ AF (AG rfl) T.q161 C6 (ze (za 0) zj)))) (zr (yh (CP (za 0) (za 1)))) yx) (zr (yh AZ)))
theorem V8 (T:Txt K mg):FnOk P w K mg base (XT P w) 2 T.q9 T.q10 ["_law_cell","_law_many"] (zm (kx T) 2 FL):=z6 T.q11.F o3 fun cdv A outer s H E hr=>by unfold J7 J6 FK FJ;exact (zl (CJ (i:=2) o3.nd rfl (Or.inr rfl) MD) (zl (CJ (i:=3) o3.nd rfl (Or.inr rfl) (TF rfl (zb MD) (ze (zb (qM (loc:=["_law_j"]) (free:=["_law_signs","_law_cell"]) (fr:=[2,0]) rfl (qB (sc:=zC HZ) (N:=(["_law_cell","_law_many","_law_signs","_law_base","_law_first","_law_at","_law_names_here","_law_k","_law_sign"]:List Str)) rfl rfl (by decide+kernel)) (BV rfl T.q165 (ze zg zj)) (fun _ _ _ _ _=>(zO 0 (["_law_j","_law_signs","_law_cell"]:List Str))) (fun _ _ _ _ _=>BE) (fun _ _ _ _ _=>(CP (za 1) (zb (zp yE yB (zb (Hr DS (DZ T) (hr.mono (by decide)) (by rfl) T.q2.g T.q2.F.kp T.q2.b FC (ze (za 2) (ze (za 0) zj)))) zg)))))) zj))) (zl (CJ (i:=4) o3.nd rfl (Or.inr rfl) (CP (za 2) (zb (zp yE yB (zb (yf DS (DZ T) hr T.q2 (ze (za 0) (ze zg zj)))) zg)))) (zl (yt (PW.pt (DJ (ye jH (jG (qu hr)) (yj _) (zb (zp yE yB (za 0) zg)) zg) (DH (ye BS BN (yj _) (za 1) zg)))) (y9 3 (zr (yh (qM (loc:=["_law_k"]) (free:=["_law_first","_law_base"]) (fr:=[4,3]) rfl (qB (sc:=zC HZ) (N:=(["_law_cell","_law_many","_law_signs","_law_base","_law_first","_law_at","_law_names_here","_law_k","_law_sign"]:List Str)) rfl rfl (by decide+kernel)) (BV rfl T.q165 (ze (za 1) zj)) (fun _ _ _ _ _=>(zO 0 (["_law_k","_law_first","_law_base"]:List Str))) (fun _ _ _ _ _=>BE) (fun _ _ _ _ _=>(zp yF yG (za 1) (zb (r_sl rfl (za 2) Hy (Hz (za 0)))))))))) yx) (zl (zL 5 o3.nd (zp yE yB (zb (zp qv qC (za 0) zg)) zg)) (zl (zL 6 o3.nd (qz zj)) (zl (qf (BV rfl T.q165 (ze (za 1) zj)) (yb 7 o3.nd) (zl (zL 8 o3.nd (CP (za 2) (zb (zp yE yB (zb (zp yF yG (za 0) (zb (zp qE qF zg (za 7))))) zg)))) (zr (qI jv rfl Cu Cv qY (za 6) (ze (zb (zp yF yG (zb (zp yF yG (zb (zp yF yG (za 4) (zb (r_sl rfl (za 3) Hy (Hz (za 5)))))) (za 8))) (zb (r_sl rfl (za 3) (Hz (zb (zp yF yG (za 5) zg))) Hy)))) zj))))) (zr (AD (pv 6))))))))))
theorem V9 (T:Txt K mg):FnOk P w K mg base (XT P w) 3 T.q12 T.q13 ["_law_script","_law_by"] (zm (kx T) 2 FN):=z6 T.q14.F o4 fun cdv A outer s H E hr=>by unfold J9 J8;exact (zl (zL 2 o4.nd (yf HJ (Ii T) hr T.q8 (ze (za 0) (ze zg zj)))) (zl (zL 3 o4.nd (zp yE yB (za 2) zg)) (zl (yt (ye jH (jG (qu hr)) (yj _) (zb (zp yE yB (zb (zp qv qC (za 2) zg)) zg)) zg) (zr (zL 3 o4.nd AZ)) yx) (zl (zL 4 o4.nd AZ) (zl (yt (ye jH (jG (qu hr)) (yj _) (zb (zp yE yB (zb (zp qv qC (za 2) zg)) zg)) zg) (y9 2 (zr (zL 4 o4.nd (zp yE yB (zb (yf DS (DZ T) hr T.q2 (ze (za 2) (ze zg zj)))) (zb (zp qE qF zg (zb (zp SY Q0 zg zg)))))))) yx) (zl (zL 5 o4.nd (yf UN (V8 T) hr T.q11 (ze (zb (yf HJ (Ii T) hr T.q8 (ze (za 0) (ze zg zj)))) (ze (za 3) zj)))) (zl (zL 6 o4.nd (qz zj)) (zl (qf (BV rfl T.q165 (ze (za 3) zj)) (yb 7 o4.nd) (zl (zL 8 o4.nd (yf HJ (Ii T) hr T.q8 (ze (za 0) (ze (zb (zp yF yG zg (za 7))) zj)))) (zl (yt (ye jH (jG (qu hr)) (yj _) (zb (zp yE yB (zb (zp qv qC (za 2) zg)) zg)) zg) (y9 8 (zr (zL 8 o4.nd (yf DS (DZ T) hr T.q2 (ze (za 8) (ze (za 7) zj)))))) yx) (zl (zL 9 o4.nd (zp yF yG (za 4) (zb (zp qE qF (za 1) (zb (zp yE yB (za 8) zg)))))) (zl (zL 10 o4.nd (zp BB BM (zb (zp yF yG (za 9) (zb (zp qE qF (za 1) (zb (zp yF yG zg (zb (zp yE yB (zb (zp qv qC (za 8) zg)) zg)))))))) zg)) (zl (yt (ye jH (jG (qu hr)) (yj _) (zb (zp yE yB (zb (zp qv qC (za 8) zg)) zg)) zg) (zr (zL 10 o4.nd (zp BB BM (za 9) zg))) yx) (zl (zL 11 o4.nd (zp yF yG zg (zb (zp yE yB (zb (zp qv qC (za 8) zg)) (zG (zb (qz (ze zg (ze zg (ze zg zj))))) (zb (zp yE yB (zb (zp qv qC (za 8) zg)) zg))))))) (zl (zL 12 o4.nd (zp yF yG zg (zb (zp yE yB (zb (zp qv qC (za 8) zg)) (zG (zb (qz (ze zg (ze zg (ze zg (ze zg zj)))))) (zb (zp yE yB (zb (zp qv qC (za 8) zg)) zg))))))) (y9 12 (y9 11 (y9 9 (zr (qI jv rfl Cu Cv qY (za 6) (ze (zb (AB (ze (zG (za 5) (za 7)) (ze (za 9) (ze (za 10) (ze (za 11) (ze (za 12) zj))))))) zj)))))))))))))) (zr (AD (pv 6)))))))))))
theorem VA (T:Txt K mg):FnOk P w K mg base (XT P w) 1 T.q15 T.q16 ["thing"] (zm (kx T) 1 FO):=z6 T.q17.F o5 fun cdv A outer s H E hr=>by unfold JA HK;exact (zl (yt (PW.pt (DK (AC (jq (yJ FF (FH rfl) T.q160 E1 (ze (za 0) (ze (zb (yX (EE (v:= .ty "str") (by rfl) T.q168 PyProof.Rows.boot_str rfl) fun _ _ _=>.ty _)) zj))))) (DI (AC (MU BC BC AV AV zg (zb (yJ AF (AG rfl) T.q161 C6 (ze (za 0) zj))) (zb (yX (ji (v:= .int 8) (by rfl) T.q178 ⟨_,rfl⟩) fun _ _ _=>.int _))))))) (zr (yh r_bl)) yx) (zr (yh (EW (Hk Na Lq (by with_unfolding_all rfl) (zG (za 0) zg) (zb (yX (ji (v:= .str ("abcdefghijklmnopqrstuvwxyz" :Str)) (by rfl) T.q174 ⟨_,rfl⟩) fun _ _ _=>.str _))) (EX (yJ Jh (MQ rfl rfl) T.q155 PyProof.Rows.boot_all (ze (zb (qM (loc:=["sign"]) (free:=[]) (fr:=[]) rfl (qB (sc:=zC Ky) (N:=(["thing"]:List Str)) rfl rfl (by decide+kernel)) (T7 (za 0)) (fun _ _ _ _ _=>(zO 0 (["sign"]:List Str))) (fun _ _ _ _ _=>BE) (fun _ _ _ _ _=>(Hk Na Lq (by with_unfolding_all rfl) (za 0) (zb (yX (ji (v:= .str ("abcdefghijklmnopqrstuvwxyz0123456789" :Str)) (by rfl) T.q176 ⟨_,rfl⟩) fun _ _ _=>.str _)))))) zj)))))))
theorem VB (T:Txt K mg):FnOk P w K mg base (XT P w) 1 T.q18 T.q19 ["thing"] (zm (kx T) 1 FP):=z6 T.q20.F o6 fun cdv A outer s H E hr=>by unfold JB;exact (zr (yh (EW (yJ FF (FH rfl) T.q160 E1 (ze (za 0) (ze (zb (yX (EE (v:= .ty "int") (by rfl) T.q159 PyProof.Rows.boot_int rfl) fun _ _ _=>.ty _)) zj))) (EX (SA (yJ FF (FH rfl) T.q160 E1 (ze (za 0) (ze (zb (yX (EE (v:= .ty "bool") (by rfl) T.q157 PyProof.Rows.boot_bool rfl) fun _ _ _=>.ty _)) zj))))))))
theorem CZ (T:Txt K mg):FnOk P w K mg base (XT P w) 2 T.q21 T.q22 ["thing","low","high"] (zm (kx T) 3 jF):=z6 T.q23.F o7 fun cdv A outer s H E hr=>by unfold JC;exact (zr (yh (EW (yf UQ (VB T) hr T.q20 (ze (za 0) zj)) (EX (MT BC BC AV AV (za 1) (za 0) (za 2))))))
theorem VC (T:Txt K mg):FnOk P w K mg base (XT P w) 3 T.q24 T.q25 ["first","last","work","breadth"] (zm (kx T) 4 FQ):=z6 T.q26.F o8 fun cdv A outer s H E hr=>by unfold JD;exact (zl (yt (PW.pt (DK (AC (jq (yf CS (CZ T) hr T.q23 (ze (za 0) (ze zg (ze (zb (yX (ji (v:= .int 1000000000) (by rfl) T.q182 ⟨_,rfl⟩) fun _ _ _=>.int _)) zj)))))) (DI (AC (jq (yf CS (CZ T) hr T.q23 (ze (za 1) (ze (zb (CO zg)) (ze (zb (yX (ji (v:= .int 10000000000) (by rfl) T.q172 ⟨_,rfl⟩) fun _ _ _=>.int _)) zj))))))))) (zr (yh r_bl)) yx) (zr (yh (EW (yf CS (CZ T) hr T.q23 (ze (za 2) (ze zg (ze (zb (yX (ji (v:= .int 60) (by rfl) T.q184 ⟨_,rfl⟩) fun _ _ _=>.int _)) zj)))) (EX (yf CS (CZ T) hr T.q23 (ze (za 3) (ze zg (ze (zb (yX (ji (v:= .int 16) (by rfl) T.q186 ⟨_,rfl⟩) fun _ _ _=>.int _)) zj)))))))))
theorem VD (T:Txt K mg):FnOk P w K mg base (XT P w) 4 T.q27 T.q28 ["load"] (zm (kx T) 1 FR):=z6 T.q29.F o9 fun cdv A outer s H E hr=>by unfold JF JE;exact (zl (yt (ye BD AW (yj _) (zb (yJ AF (AG rfl) T.q161 C6 (ze (za 0) zj))) (zb (yX (ji (v:= .int 12) (by rfl) T.q180 ⟨_,rfl⟩) fun _ _ _=>.int _))) (zr FA) yx) (zl (zL 1 o9.nd (qz zj)) (zl (qf (qj (za 0)) (qx (n:=5) (jL rfl (zU (yb 2 o9.nd) (zU (yb 3 o9.nd) (zU (yb 4 o9.nd) (zU (yb 5 o9.nd) (zU (yb 6 o9.nd) qt zV) zV) zV) zV) zV)) (zW (zW (zW (zW (zW qw)))))) (zl (yt (AC (jq (yf UP (VA T) hr T.q17 (ze (za 2) zj)))) (zr FA) yx) (zl (yt (ye T8 (T9 rfl (qu hr)) (by with_unfolding_all rfl) (za 2) (za 1)) (zr FA) yx) (zl (yt (AC (jq (yf UR (VC T) hr T.q26 (ze (za 3) (ze (za 4) (ze (za 5) (ze (za 6) zj))))))) (zr FA) yx) (zr (qI jv rfl Cu Cv qY (za 1) (ze (za 2) zj))))))) (zr (yh r_bl)))))
theorem VE (T:Txt K mg):FnOk P w K mg base (XT P w) 1 T.q30 T.q31 ["job"] (zm (kx T) 1 FS):=z6 T.q32.F Vt fun cdv A outer s H E hr=>by unfold JG;exact (zr (yh (yJ Th (QB rfl) T.q163 PyProof.Rows.boot_max (ze zg (ze (zb (zp yF yG (zb (zp BB BM (zG (za 0) zg) (zG (za 0) zg))) zg)) zj)))))
theorem VF (T:Txt K mg):FnOk P w K mg base (XT P w) 1 T.q141 T.q142 ["self","first","last"] (zm (kx T) 3 FT):=z6 T.q143.F DX fun cdv A outer s H E hr=>by unfold JI JH;exact (zl (zL 3 DX.nd (qz zj)) (zl (zL 4 DX.nd AZ) (zl (qf (qj (ya T.q139 T.q153 (za 0))) (qx (n:=2) (jL rfl (zU (yb 5 DX.nd) (zU (yb 6 DX.nd) qt zV) zV)) (zW (zW qw))) (zl (Nb (i:=4) Jo (fun h=>Lm DX.nd rfl (Or.inl rfl) h ID) (za 5)) (zr (yt (MU BS BC BN AV (za 1) (za 4) (za 2)) (zr (qI jv rfl Cu Cv qY (za 3) (ze (za 4) zj))) yx)))) (zr (AD (pv 3))))))
theorem VG (T:Txt K mg):FnOk P w K mg base (XT P w) 2 T.q33 T.q34 ["load","calendar"] (zm (kx T) 2 FU):=z6 T.q35.F Kz fun cdv A outer s H E hr=>by unfold JK JJ;exact (zl (zL 2 Kz.nd (qz zj)) (zl (qf (qj (za 0)) (yb 3 Kz.nd) (zr (yt (ye BD AW (yj _) (zb (yf UT (VE T) hr T.q32 (ze (za 3) zj))) zg) (zl (qI Jm rfl Gr Gs IM (za 2) (ze (zb (qz (ze (zG (za 3) zg) (ze (zb (zp yF yG (zG (za 3) zg) zg)) zj)))) zj)) (zr (qI Jm rfl Gr Gs IM (za 2) (ze (zb (BX UU (za 1) T.q139 T.q144 (VF T) hr T.q143.b (ze (zG (za 3) zg) (ze (zG (za 3) zg) zj)))) zj)))) yx))) (y9 2 (zr (yh (UF rfl rfl (by rfl) T.q167 (by rfl) T.q166 (ze (za 2) zj)))))))
theorem VH (T:Txt K mg):FnOk P w K mg base (XT P w) 1 T.q36 T.q37 ["load","turn"] (zm (kx T) 2 FV):=z6 T.q38.F Vu fun cdv A outer s H E hr=>by unfold JL HL;exact (zr (yh (yJ Jh (Ti rfl rfl) T.q156 PyProof.Rows.boot_any (ze (zb (qM (loc:=["name","first","last","work","breadth"]) (free:=["turn"]) (fr:=[1]) rfl (qB (sc:=zC K0) (N:=(["load","turn"]:List Str)) rfl rfl (by decide+kernel)) (qj (za 0)) (fun _ _ _ _ _=>(qx (n:=5) (pgT 5 rfl rfl (zU (zO 0 (["name","first","last","work","breadth","turn"]:List Str)) (zU (zO 1 (["name","first","last","work","breadth","turn"]:List Str)) (zU (zO 2 (["name","first","last","work","breadth","turn"]:List Str)) (zU (zO 3 (["name","first","last","work","breadth","turn"]:List Str)) (zU (zO 4 (["name","first","last","work","breadth","turn"]:List Str)) qt zV) zV) zV) zV) zV)) (zW (zW (zW (zW (zW qw))))))) (fun _ _ _ _ _=>BE) (fun _ _ _ _ _=>(MT BC BC AV AV (za 1) (za 5) (za 2))))) zj))))
theorem VI (T:Txt K mg):FnOk P w K mg base (XT P w) 1 T.q145 T.q146 ["self","turn"] (zm (kx T) 2 FW):=z6 T.q147.F GN fun cdv A outer s H E hr=>by unfold JN JM;exact (zl (zL 2 GN.nd AZ) (zl (qf (qj (ya T.q139 T.q153 (za 0))) (qx (n:=2) (jL rfl (zU (yb 3 GN.nd) (zU (yb 4 GN.nd) qt zV) zV)) (zW (zW qw))) (zl (Nb (i:=2) Jo (fun h=>Lm GN.nd rfl (Or.inl rfl) h ID) (za 3)) (zr (yt (ye BS BN (yj _) (za 1) (za 2)) (zr (AD (pv 4))) yx)))) (zr (yh (TH T.q139 T.q154 (za 0))))))
theorem VJ (T:Txt K mg):FnOk P w K mg base (XT P w) 5 T.q39 T.q40 ["load","calendar"] (zm (kx T) 2 FX):=z6 T.q41.F GO fun cdv A outer s H E hr=>by unfold JP JO;exact (zl (EZ (yf US (VD T) hr T.q29 (ze (za 0) zj))) (zl (zL 2 GO.nd (qz zj)) (zl (zL 3 GO.nd (yf UV (VG T) hr T.q35 (ze (za 0) (ze (za 1) zj)))) (y9 3 (zl (qf (Tq rfl rfl T.q170 (ze (za 3) (ze (zb (r_sl rfl (za 3) (Hz zg) Hy)) zj))) (qx (n:=2) (jL rfl (zU (yb 4 GO.nd) (zU (yb 5 GO.nd) qt zV) zV)) (zW (zW qw))) (zr (yt (jq (yf UW (VH T) hr T.q38 (ze (za 0) (ze (za 4) zj)))) (zr (qI jv rfl Cu Cv qY (za 2) (ze (zb (AB (ze (za 4) (ze (zb (zp BB BM (za 5) zg)) (ze (zb (BX UX (za 1) T.q139 T.q148 (VI T) hr T.q147.b (ze (za 4) zj))) zj))))) zj))) yx))) (zr (AD (pv 2))))))))
theorem OB (T:Txt K mg):FnOk P w K mg base (XT P w) 1 T.q88 T.q89 ["self","steps"] (zm (kx T) 2 BZ):=z6 T.q90.F AS fun cdv A outer s H E hr=>by unfold JQ HN HM;exact (zl (zL 2 AS.nd (yJ Jf (IH rfl) T.q164 Gu (ze (zG (ya T.q86 T.q137 (za 0)) (zG (zG (za 1) zg) zg)) (ze (zG (ya T.q86 T.q136 (za 0)) (zG (zG (za 1) (zb (CO zg))) zg)) zj)))) (zl (qf (qj (za 1)) (qx (n:=3) (jL rfl (zU (yb 3 AS.nd) (zU (yb 4 AS.nd) (zU (yb 5 AS.nd) qt zV) zV) zV)) (zW (zW (zW qw)))) (zl (zL 2 AS.nd (yJ Jf (IH rfl) T.q164 Gu (ze (za 2) (ze (zb (zp BB BM (zb (HE (hu1 hr) (fun _ _=>rfl) (zG (ya T.q86 T.q134 (za 0)) (za 3)) (za 4))) (zG (zG (ya T.q86 T.q135 (za 0)) (za 3)) (za 4)))) zj)))) (zr (yt (ye Jc IF (yj _) (za 5) (zb ET)) (zr (zL 2 AS.nd (yJ Jf (IH rfl) T.q164 Gu (ze (za 2) (ze (zG (zG (ya T.q86 T.q135 (za 0)) (za 3)) (za 5)) zj))))) yx)))) (zl (qf (qj (za 1)) (qx (n:=3) (jL rfl (zU (yb 3 AS.nd) (zU (yb 4 AS.nd) (zU (yb 5 AS.nd) qt zV) zV) zV)) (zW (zW (zW qw)))) (zl (HH rfl Jo ID (zG (ya T.q86 T.q135 (za 0)) (za 3)) (za 4) (za 2)) (zr (yt (ye Jc IF (yj _) (za 5) (zb ET)) (zr (HH rfl Jp IE (zG (ya T.q86 T.q135 (za 0)) (za 3)) (za 5) (za 2))) yx)))) (zl (HH rfl Jp IE (ya T.q86 T.q137 (za 0)) (zG (zG (za 1) zg) zg) (za 2)) (zr (HH rfl Jp IE (ya T.q86 T.q136 (za 0)) (zG (zG (za 1) (zb (CO zg))) zg) (za 2)))))))
theorem VL (T:Txt K mg):FnOk P w K mg base (XT P w) 2 T.q92 T.q93 ["self"] (zm (kx T) 1 FZ):=z6 T.q94.F Ia fun cdv A outer s H E hr=>by unfold JS JR FY;exact (zr (qf (Hx rfl rfl T.q158 (ze (ya T.q86 T.q134 (za 0)) zj)) (qx (n:=2) (jL rfl (zU (yb 1 Ia.nd) (zU (yb 2 Ia.nd) qt zV) zV)) (zW (zW qw))) (zr (qf (NK (za 2)) (yb 3 Ia.nd) (zr (EZ (BX NT (za 0) T.q86 T.q91 (OB T) hr T.q90.b (ze (zb (qz (ze (zb (AB (ze (za 1) (ze (za 3) (ze (zb ET) zj))))) zj))) zj))))))))
theorem VM (T:Txt K mg):FnOk P w K mg base (XT P w) 1 T.q75 T.q76 ["self","lacking_jobs"] (zm (kx T) 2 Gy):=z6 T.q77.F Os fun cdv A outer s H E hr=>by unfold JU JT;exact (zl (AJ (Flds.cons rfl T.q73 T.q83 Flds.nil) (za 0) (r_gl Jw)) (zl (AJ (Flds.cons rfl T.q73 T.q84 Flds.nil) (za 0) (r_gl Jw)) (zr (qf (qj (za 1)) (yb 2 Os.nd) (zr (HF (hu1 hr) ET (ya T.q73 T.q84 (za 0)) (za 2)))))))
theorem VN (T:Txt K mg):FnOk P w K mg base (XT P w) 1 T.q96 T.q97 ["self","job"] (zm (kx T) 2 DT):=z6 T.q98.F Vv fun cdv A outer s H E hr=>by unfold JV HP;exact (zr (yh (qM (loc:=["cell","most"]) (free:=["job","self"]) (fr:=[1,0]) rfl (qB (sc:=zC K1) (N:=(["self","job"]:List Str)) rfl rfl (by decide+kernel)) (UI (zG (ya T.q86 T.q134 (za 0)) (za 1))) (fun _ _ _ _ _=>(qx (n:=2) (pgT 2 rfl rfl (zU (zO 0 (["cell","most","job","self"]:List Str)) (zU (zO 1 (["cell","most","job","self"]:List Str)) qt zV) zV)) (zW (zW qw)))) (fun _ _ _ _ _=>(CN (ye BS BN (yj _) (zG (zG (ya T.q86 T.q135 (za 3)) (za 2)) (za 0)) (za 1)))) (fun _ _ _ _ _=>(r_v (pv 0))))))
theorem VO (T:Txt K mg):FnOk P w K mg base (XT P w) 1 T.q100 T.q101 ["self","cell"] (zm (kx T) 2 Gz):=z6 T.q102.F Vw fun cdv A outer s H E hr=>by unfold JW HQ;exact (zr (yh (qM (loc:=["job","shares"]) (free:=["cell"]) (fr:=[1]) rfl (qB (sc:=zC K2) (N:=(["self","cell"]:List Str)) rfl rfl (by decide+kernel)) (Hx rfl rfl T.q158 (ze (ya T.q86 T.q135 (za 0)) zj)) (fun _ _ _ _ _=>(qx (n:=2) (pgT 2 rfl rfl (zU (zO 0 (["job","shares","cell"]:List Str)) (zU (zO 1 (["job","shares","cell"]:List Str)) qt zV) zV)) (zW (zW qw)))) (fun _ _ _ _ _=>(CN (ye BD AW (yj _) (zG (za 1) (za 2)) zg))) (fun _ _ _ _ _=>(r_v (pv 0))))))
theorem OC (T:Txt K mg):FnOk P w K mg base (XT P w) 3 T.q104 T.q105 ["self"] (zm (kx T) 1 DU):=z6 T.q106.F CW fun cdv A outer s H E hr=>by unfold JY JX HS G6 G0 HR;exact (zl (Ui (i:=1) CW.nd rfl (by rfl) (loc:=["job","missing"]) (free:=[]) (fr:=[]) rfl (qB (sc:=zC Ib) (N:=(["self","waiting","reach","job","cell","fresh","other"]:List Str)) rfl rfl (by decide+kernel)) (Hx rfl rfl T.q158 (ze (ya T.q86 T.q136 (za 0)) zj)) (fun _ _ _ _ _=>(qx (n:=2) (pgT 2 rfl rfl (zU (zO 0 (["job","missing"]:List Str)) (zU (zO 1 (["job","missing"]:List Str)) qt zV) zV)) (zW (zW qw)))) (fun _ _ _ _ _=>(CN (ye BD AW (yj _) (za 1) zg))) (fun _ _ _ _ _=>(r_v (pv 0)))) (zl (CJ (i:=2) CW.nd rfl (Or.inr rfl) (Jn rfl Va T.q82 (VM T) (hr.mono (by decide)) (by rfl) T.q74 T.q77.b qO (ze (za 1) zj))) (zl (Hq Eu (Hv rfl (za 1)) (zl (Tw (j:=3) Tz rfl PySem.F.slot_list_pop PySem.F.type_list_pop R4 CW.nd rfl (Or.inl rfl) (za 1) (ze zg zj)) (y9 3 (zr (qf (qj (zb (BX Vb (za 0) T.q86 T.q99 (VN T) hr T.q98.b (ze (za 3) zj)))) (yb 4 CW.nd) (zr (yt (ye Nr (Nt (hu1 hr)) (by with_unfolding_all rfl) (za 4) (ya T.q73 T.q83 (za 2))) (y9 3 (zl (HF (hu1 hr) (r_v (pv 3)) (ya T.q73 T.q83 (za 2)) (za 4)) (y9 2 (zl (Tt (i:=5) CW.nd rfl (by rfl) (loc:=["other"]) (free:=["reach"]) (fr:=[2]) rfl (qB (sc:=zC Ib) (N:=(["self","waiting","reach","job","cell","fresh","other"]:List Str)) rfl rfl (by decide+kernel)) (qj (zb (BX Vc (za 0) T.q86 T.q103 (VO T) hr T.q102.b (ze (za 4) zj)))) (fun _ _ _ _ _=>(zO 0 (["other","reach"]:List Str))) (fun _ _ _ _ _=>(CN (ye Nr (Nt (hu1 hr)) (by with_unfolding_all rfl) (za 0) (ya T.q73 T.q84 (za 1))))) (fun _ _ _ _ _=>(r_v (pv 0)))) (y9 5 (zl (qf (qj (za 5)) (yb 6 CW.nd) (zr (HF (hu1 hr) (r_v (pv 4)) (ya T.q73 T.q84 (za 2)) (za 6)))) (y9 5 (zr (qI Jm rfl Gr Gs IM (za 1) (ze (za 5) zj)))))))))) yx))))))) (zr (AD (pv 2))))))
theorem VQ (T:Txt K mg):FnOk P w K mg base (XT P w) 1 T.q78 T.q79 ["self","cell"] (zm (kx T) 2 G7):=z6 T.q80.F Ic fun cdv A outer s H E hr=>by unfold Ka JZ;exact (zl (zL 2 Ic.nd (qz zj)) (zl (Hq Eu (ye Jc IF (yj _) (za 1) (zb ET)) (zl (zL 3 Ic.nd (HE (hu1 hr) (fun _ _=>rfl) (ya T.q73 T.q83 (za 0)) (za 1))) (zl (qI jv rfl Cu Cv qY (za 2) (ze (zb (AB (ze (za 3) (ze (za 1) (ze (zb (HE (hu1 hr) (fun _ _=>rfl) (ya T.q73 T.q84 (za 0)) (za 3))) zj))))) zj)) (zr (zL 1 Ic.nd (HE (hu1 hr) (fun _ _=>rfl) (ya T.q73 T.q84 (za 0)) (za 3))))))) (zr (AD (pv 2)))))
theorem OD (T:Txt K mg):FnOk P w K mg base (XT P w) 4 T.q108 T.q109 ["self"] (zm (kx T) 1 CT):=z6 T.q110.F K4 fun cdv A outer s H E hr=>by unfold Kc Kb;exact (zl (zL 1 K4.nd (BG rfl NU (za 0) T.q86 T.q107 (OC T) (hr.mono (by decide)) T.q106.b qO)) (zl (qf (NK (ya T.q73 T.q83 (za 1))) (yb 2 K4.nd) (zr (yt (ye BD AW (yj _) (zG (ya T.q86 T.q137 (za 0)) (za 2)) zg) (zr (yh (BX Vd (za 1) T.q73 T.q81 (VQ T) hr T.q80.b (ze (za 2) zj)))) yx))) (zr (yh (qz zj)))))
theorem VR (T:Txt K mg):FnOk P w K mg base (XT P w) 5 T.q112 T.q113 ["self"] (zm (kx T) 1 G8):=z6 T.q114.F K5 fun cdv A outer s H E hr=>by unfold Kf Ke;exact (zl (zL 1 K5.nd (BG rfl NV (za 0) T.q86 T.q111 (OD T) (hr.mono (by decide)) T.q110.b qO)) (zr (Hq Eu (Hv rfl (za 1)) (y9 1 (zl (EZ (BX NT (za 0) T.q86 T.q91 (OB T) hr T.q90.b (ze (za 1) zj))) (zr (zL 1 K5.nd (BG rfl NV (za 0) T.q86 T.q111 (OD T) (hr.mono (by decide)) T.q110.b qO))))))))
theorem VS (T:Txt K mg):FnOk P w K mg base (XT P w) 1 T.q42 T.q43 ["job","some"] (zm (kx T) 2 G9):=z6 T.q44.F Vx fun cdv A outer s H E hr=>by unfold Kg HU;exact (zr (yh (qM (loc:=["place","cell"]) (free:=["job"]) (fr:=[0]) rfl (qB (sc:=zC K6) (N:=(["job","some"]:List Str)) rfl rfl (by decide+kernel)) (Hx rfl rfl T.q158 (ze (za 1) zj)) (fun _ _ _ _ _=>(qx (n:=2) (pgT 2 rfl rfl (zU (zO 0 (["place","cell","job"]:List Str)) (zU (zO 1 (["place","cell","job"]:List Str)) qt zV) zV)) (zW (zW qw)))) (fun _ _ _ _ _=>(CN (PW.pt (DJ (ye BC AV (yj _) (zG (za 2) zg) (zG (za 1) zg)) (DH (ye BC AV (yj _) (zG (za 1) zg) (zG (za 2) zg))))))) (fun _ _ _ _ _=>(r_v (pv 0))))))
theorem VT (T:Txt K mg):FnOk P w K mg base (XT P w) 2 T.q45 T.q46 ["job","some"] (zm (kx T) 2 GA):=z6 T.q47.F K7 fun cdv A outer s H E hr=>by unfold Ki Kh;exact (zl (zL 2 K7.nd Jw) (zl (qf (qj (zb (yf Vf (VS T) hr T.q44 (ze (za 0) (ze (za 1) zj))))) (yb 3 K7.nd) (zr (HF (hu1 hr) (zp qE qF (zG (za 0) zg) (zb (zp yF yG (zb (zp BB BM (zG (zG (za 1) (za 3)) zg) (zG (zG (za 1) (za 3)) zg))) zg))) (za 2) (za 3)))) (zr (AD (pv 2)))))
theorem VU (T:Txt K mg):FnOk P w K mg base (XT P w) 6 T.q116 T.q117 ["self","load","calendar"] (zm (kx T) 3 GD):=z6 T.q118.F Vy fun cdv A outer s H E hr=>by unfold Kj GC GB HW HV;exact (zl (AJ (Flds.cons rfl T.q86 T.q132 Flds.nil) (za 0) (yf UY (VJ T) hr T.q41 (ze (za 1) (ze (za 2) zj)))) (zl (AJ (Flds.cons rfl T.q86 T.q133 Flds.nil) (za 0) (r_ty Ht (Hu rfl) (by rfl) T.q162 E2 (ze (za 1) zj))) (zl (AJ (Flds.cons rfl T.q86 T.q134 Flds.nil) (za 0) (qM (loc:=["job"]) (free:=["self"]) (fr:=[0]) rfl (qB (sc:=zC DY) (N:=(["self","load","calendar"]:List Str)) rfl rfl (by decide+kernel)) (qj (ya T.q86 T.q133 (za 0))) (fun _ _ _ _ _=>(zO 0 (["job","self"]:List Str))) (fun _ _ _ _ _=>BE) (fun _ _ _ _ _=>(Hr Vg (VT T) (hr.mono (by decide)) (by rfl) T.q47.g T.q47.F.kp T.q47.b FC (ze (za 0) (ze (ya T.q86 T.q132 (za 1)) zj)))))) (zl (AJ (Flds.cons rfl T.q86 T.q135 Flds.nil) (za 0) (qM (loc:=["job"]) (free:=["self"]) (fr:=[0]) rfl (qB (sc:=zC DY) (N:=(["self","load","calendar"]:List Str)) rfl rfl (by decide+kernel)) (qj (ya T.q86 T.q133 (za 0))) (fun _ _ _ _ _=>(zO 0 (["job","self"]:List Str))) (fun _ _ _ _ _=>BE) (fun _ _ _ _ _=>(r_gl (zp qE qF (zb (qz (ze zg zj))) (zb (yJ AF (AG rfl) T.q161 C6 (ze (ya T.q86 T.q132 (za 1)) zj)))))))) (zl (AJ (Flds.cons rfl T.q86 T.q136 Flds.nil) (za 0) (r_gl (qM (loc:=["job"]) (free:=[]) (fr:=[]) rfl (qB (sc:=zC DY) (N:=(["self","load","calendar"]:List Str)) rfl rfl (by decide+kernel)) (qj (ya T.q86 T.q133 (za 0))) (fun _ _ _ _ _=>(zO 0 (["job"]:List Str))) (fun _ _ _ _ _=>BE) (fun _ _ _ _ _=>(CP (za 0) zg))))) (zl (AJ (Flds.cons rfl T.q86 T.q137 Flds.nil) (za 0) (r_gl (qM (loc:=["first","last","machines"]) (free:=[]) (fr:=[]) rfl (qB (sc:=zC DY) (N:=(["self","load","calendar"]:List Str)) rfl rfl (by decide+kernel)) (qj (ya T.q86 T.q132 (za 0))) (fun _ _ _ _ _=>(qx (n:=3) (pgT 3 rfl rfl (zU (zO 0 (["first","last","machines"]:List Str)) (zU (zO 1 (["first","last","machines"]:List Str)) (zU (zO 2 (["first","last","machines"]:List Str)) qt zV) zV) zV)) (zW (zW (zW qw))))) (fun _ _ _ _ _=>BE) (fun _ _ _ _ _=>(zp qE qF (za 2) (zb (zp yF yG (zb (zp BB BM (za 1) (za 0))) zg))))))) (zl (EZ (BG rfl UZ (za 0) T.q86 T.q95 (VL T) (hr.mono (by decide)) T.q94.b qO)) (zr (EZ (BG rfl Ve (za 0) T.q86 T.q115 (VR T) (hr.mono (by decide)) T.q114.b qO))))))))))
theorem OE (T:Txt K mg):FnOk P w K mg base (XT P w) 1 T.q119 T.q120 ["self","job","cell"] (zm (kx T) 3 CU):=z6 T.q121.F Vz fun cdv A outer s H E hr=>by unfold Kk;exact (zr (yh (CP (zG (ya T.q86 T.q135 (za 0)) (za 1)) (za 2))))
theorem VV (T:Txt K mg):FnOk P w K mg base (XT P w) 2 T.q48 T.q49 ["_law_flow","_law_load_here","_law_k","_law_j"] (zm (kx T) 4 AR):=z6 T.q50.F Ie fun cdv A outer s H E hr=>by unfold GE;exact (zl (MG (CP (ya T.q86 T.q132 (za 0)) (za 3)) (qx (n:=3) (jL rfl (zU (yb 4 Ie.nd) (zU (yb 5 Ie.nd) (zU (yb 6 Ie.nd) qt zV) zV) zV)) (zW (zW (zW qw)))) IC) (zl (yt (PW.pt (DK (ye BS BN (yj _) (za 4) (zG (zG (za 1) (za 2)) zg)) (DI (ye BD AW (yj _) (za 5) (zG (zG (za 1) (za 2)) zg))))) (zr (yh r_bl)) yx) (zr (yh (Hk BS BN (yj _) (zb (BX NW (za 0) T.q86 T.q122 (OE T) hr T.q121.b (ze (za 2) (ze (za 3) zj)))) (zb (zp qE qF (zG (zG (za 1) (za 2)) zg) (zb (zp yF yG (zb (zp BB BM (za 5) (za 4))) zg)))))))))
theorem VW (T:Txt K mg):FnOk P w K mg base (XT P w) 1 T.q123 T.q124 ["self"] (zm (kx T) 1 GF):=z6 T.q125.F V0 fun cdv A outer s H E hr=>by unfold Kl;exact (zr (yh (r_ty Ht (Hu rfl) (by rfl) T.q162 E2 (ze (ya T.q86 T.q136 (za 0)) zj))))
theorem VX (T:Txt K mg):FnOk P w K mg base (XT P w) 3 T.q51 T.q52 ["_law_flow","_law_load_here"] (zm (kx T) 2 BI):=z6 T.q53.F CY fun cdv A outer s H E hr=>by unfold Kn Km HX DW DV;exact (zl (CJ (i:=2) CY.nd rfl (Or.inr rfl) (qM (loc:=["_law_k"]) (free:=["_law_flow"]) (fr:=[0]) rfl (qB (sc:=zC Ig) (N:=(["_law_flow","_law_load_here","_law_jobs","_law_places","_law_at","_law_j"]:List Str)) rfl rfl (by decide+kernel)) (BV rfl T.q165 (ze (zb (yJ AF (AG rfl) T.q161 C6 (ze (za 1) zj))) zj)) (fun _ _ _ _ _=>(zO 0 (["_law_k","_law_flow"]:List Str))) (fun _ _ _ _ _=>(CN (ye BD AW (yj _) (zG (zb (BG rfl Vj (za 1) T.q86 T.q126 (VW T) (hr.mono (by decide)) T.q125.b FC)) (za 0)) zg))) (fun _ _ _ _ _=>(r_v (pv 0))))) (zl (zL 3 CY.nd (qz zj)) (zl (zL 4 CY.nd AZ) (zl (Hq Eu (ye BS BN (yj _) (za 4) (zb (yJ AF (AG rfl) T.q161 C6 (ze (za 2) zj)))) (zl (qf (BV rfl T.q165 (ze (zb (yJ AF (AG rfl) T.q161 C6 (ze (ya T.q86 T.q132 (za 0)) zj))) zj)) (Ja (IB (i:=5) CY.nd rfl (Or.inr rfl))) (zr (yt (PW.pt (DJ (ye Nf (Nk rfl (qu hr)) (by with_unfolding_all rfl) (za 5) (za 3)) (DH (jq (yf Vi (VV T) hr T.q50 (ze (za 0) (ze (za 1) (ze (zG (za 2) (za 4)) (ze (za 5) zj))))))))) (zl (qI jv rfl Cu Cv qY (za 3) (ze (za 5) zj)) (y9 2 (zr (CJ (i:=2) CY.nd rfl (Or.inr rfl) (zp yF yG (za 2) (zb (qM (loc:=["_law_k"]) (free:=["_law_jobs","_law_j","_law_flow"]) (fr:=[2,5,0]) rfl (qB (sc:=zC Ig) (N:=(["_law_flow","_law_load_here","_law_jobs","_law_places","_law_at","_law_j"]:List Str)) rfl rfl (by decide+kernel)) (BV rfl T.q165 (ze (zb (yJ AF (AG rfl) T.q161 C6 (ze (za 1) zj))) zj)) (fun _ _ _ _ _=>(zO 0 (["_law_k","_law_jobs","_law_j","_law_flow"]:List Str))) (fun _ _ _ _ _=>(CN (PW.pt (DJ (ye Nf (Nk rfl (qu hr)) (by with_unfolding_all rfl) (za 0) (za 1)) (DH (ye BD AW (yj _) (zb (MZ rfl NW (za 3) T.q86 T.q122 (OE T) (hr.mono (by decide)) T.q121.b FC (ze (za 0) (ze (za 2) zj)))) zg)))))) (fun _ _ _ _ _=>(r_v (pv 0)))))))))) yx))) (zr (zL 4 CY.nd (zp yF yG (za 4) zg))))) (zr (yh (AB (ze (zb (yJ NS (NR rfl) T.q167 Fs (ze (za 3) zj))) (ze (zb (yJ NS (NR rfl) T.q167 Fs (ze (za 2) zj))) zj)))))))))
theorem OF (T:Txt K mg):FnOk P w K mg base (XT P w) 4 T.q127 T.q128 ["self"] (zm (kx T) 1 qH):=z6 T.q129.F O1 fun cdv A outer s H E hr=>by unfold Ko;exact (zl (zL 1 O1.nd (BG rfl NU (za 0) T.q86 T.q107 (OC T) (hr.mono (by decide)) T.q106.b qO)) (zr (yh (AB (ze (zb (r_gl (yJ NQ (NO rfl) T.q167 Fs (ze (ya T.q73 T.q83 (za 1)) zj)))) (ze (zb (r_gl (yJ NQ (NO rfl) T.q167 Fs (ze (ya T.q73 T.q84 (za 1)) zj)))) zj))))))
theorem VY (T:Txt K mg):FnOk P w K mg base (XT P w) 1 T.q54 T.q55 ["rows"] (zm (kx T) 1 GG):=z6 T.q56.F Ih fun cdv A outer s H E hr=>by unfold Kq Kp;exact (zl (zL 1 Ih.nd (qz zj)) (zl (qf (qj (za 0)) (qx (n:=2) (jL rfl (zU (yb 2 Ih.nd) (zU (yb 3 Ih.nd) qt zV) zV)) (zW (zW qw))) (zr (yt (PW.pt (DJ (Hv rfl (za 1)) (DH (ye jH (jG (qu hr)) (yj _) (zG (zG (za 1) (zb (CO zg))) zg) (za 3))))) (zr (T2 (AB (ze (zb (zp yF yG (zG (zG (za 1) (zb (CO zg))) zg) (za 2))) (ze (za 3) zj))) (za 1) (zb (CO zg)) fun a b c=>IC a (Ql b c LC))) (zr (qI jv rfl Cu Cv qY (za 1) (ze (zb (AB (ze (za 2) (ze (za 3) zj)))) zj)))))) (zr (AD (pv 1)))))
theorem VZ (T:Txt K mg):FnOk P w K mg base (XT P w) 2 T.q57 T.q58 ["rows","rest"] (zm (kx T) 2 CV):=z6 T.q59.F O5 fun cdv A outer s H E hr=>by unfold GH;exact (zl (zL 2 O5.nd (yf Vm (VY T) hr T.q56 (ze (za 0) zj))) (zl (yt (PW.pt (DJ (Hv rfl (za 2)) (DH (ye jH (jG (qu hr)) (yj _) (zG (zG (za 2) (zb (CO zg))) zg) (za 1))))) (zr (Tu Tx rfl PySem.F.slot_list_pop PySem.F.type_list_pop R3 (za 2))) yx) (zr (AD (pv 2)))))
theorem Wa (T:Txt K mg):FnOk P w K mg base (XT P w) 3 T.q60 T.q61 ["thing"] (zm (kx T) 1 GI):=z6 T.q62.F V1 fun cdv A outer s H E hr=>by unfold Kr;exact (zr (yh (yf CS (CZ T) hr T.q23 (ze (za 0) (ze zg (ze (zb (yX (ji (v:= .int 16) (by rfl) T.q192 ⟨_,rfl⟩) fun _ _ _=>.int _)) zj))))))
theorem Wb (T:Txt K mg):FnOk P w K mg base (XT P w) 4 T.q63 T.q64 ["thing"] (zm (kx T) 1 GJ):=z6 T.q65.F V2 fun cdv A outer s H E hr=>by unfold Ks;exact (zl (yt (PW.pt (DK (AC (jq (yJ FF (FH rfl) T.q160 E1 (ze (za 0) (ze (zb (yX (EE (v:= .ty "tuple") (by rfl) T.q169 PyProof.Rows.boot_tuple rfl) fun _ _ _=>.ty _)) zj))))) (DI (ye Tg (Tf (qu hr)) (yj _) (zb (yJ AF (AG rfl) T.q161 C6 (ze (za 0) zj))) zg)))) (zr (yh r_bl)) yx) (zr (yh (EW (yf CS (CZ T) hr T.q23 (ze (zG (za 0) zg) (ze zg (ze (zb (yX (ji (v:= .int 1000000) (by rfl) T.q190 ⟨_,rfl⟩) fun _ _ _=>.int _)) zj)))) (EX (yf Vo (Wa T) hr T.q62 (ze (zG (za 0) zg) zj)))))))
theorem Wc (T:Txt K mg):FnOk P w K mg base (XT P w) 5 T.q66 T.q67 ["thing"] (zm (kx T) 1 GK):=z6 T.q68.F V4 fun cdv A outer s H E hr=>by unfold Kt HY;exact (zl (yt (PW.pt (DK (AC (jq (yJ FF (FH rfl) T.q160 E1 (ze (za 0) (ze (zb (yX (EE (v:= .ty "list") (by rfl) T.q162 E2 rfl) fun _ _ _=>.ty _)) zj))))) (DI (ye BD AW (yj _) (zb (yJ AF (AG rfl) T.q161 C6 (ze (za 0) zj))) (zb (yX (ji (v:= .int 16) (by rfl) T.q188 ⟨_,rfl⟩) fun _ _ _=>.int _)))))) (zr (yh r_bl)) yx) (zr (yh (yJ Jh (MQ rfl rfl) T.q155 PyProof.Rows.boot_all (ze (zb (qM (loc:=["row"]) (free:=[]) (fr:=[]) rfl (qB (sc:=zC K8) (N:=(["thing"]:List Str)) rfl rfl (by decide+kernel)) (qj (za 0)) (fun _ _ _ _ _=>(zO 0 (["row"]:List Str))) (fun _ _ _ _ _=>BE) (fun _ _ _ _ _=>(Hr Vp (Wb T) (hr.mono (by decide)) (by rfl) T.q65.g T.q65.F.kp T.q65.b FC (ze (za 0) zj))))) zj)))))
theorem Wd (T:Txt K mg):FnOk P w K mg base (XT P w) 3 T.q69 T.q70 ["thing"] (zm (kx T) 1 GL):=z6 T.q71.F V5 fun cdv A outer s H E hr=>by unfold Ku;exact (zr (yh (yf CS (CZ T) hr T.q23 (ze (za 0) (ze zg (ze (zb (yX (ji (v:= .int 16) (by rfl) T.q192 ⟨_,rfl⟩) fun _ _ _=>.int _)) zj))))))
theorem We (T:Txt K mg):FnOk P w K mg base (XT P w) 6 T.q149 T.q150 ["self","rows","rest"] (zm (kx T) 3 GM):=z6 T.q151.F V6 fun cdv A outer s H E hr=>by unfold Kv;exact (zl (yt (PW.pt (DK (AC (jq (yf Vq (Wc T) hr T.q68 (ze (za 1) zj)))) (DI (AC (jq (yf Vr (Wd T) hr T.q71 (ze (za 2) zj))))))) (zr FA) yx) (zl (AJ (Flds.cons rfl T.q139 T.q153 Flds.nil) (za 0) (yf Vn (VZ T) hr T.q59 (ze (za 1) (ze (za 2) zj)))) (zr (AJ (Flds.cons rfl T.q139 T.q154 Flds.nil) (za 0) (r_v (pv 2))))))
theorem G_law (T:Txt K mg):FnOk P w K mg base (XT P w) 8 T.f_law T.fd_law ["_law_script"] (zm (kx T) 1 f_law):=z6 T.d_law.F CA fun cdv A outer s H E hr=>by unfold Kw;exact (zl (MG (yf UM (V7 T) hr T.q5 (ze (zb (yf HJ (Ii T) hr T.q8 (ze (za 0) (ze zg zj)))) zj)) (qx (n:=3) (jL rfl (zU (yb 1 CA.nd) (zU (yb 2 CA.nd) (zU (yb 3 CA.nd) qt zV) zV) zV)) (zW (zW (zW qw)))) IC) (zl (zL 4 CA.nd (yf UO (V9 T) hr T.q14 (ze (za 0) (ze (za 3) zj)))) (zl (zL 5 CA.nd (Jn rfl Vh T.q131 (VU T) (hr.mono (by decide)) (by rfl) T.q87 T.q118.b qO (ze (zb (r_ty Ht (Hu rfl) (by rfl) T.q162 E2 (ze (za 4) zj))) (ze (zb (T6 (Jn rfl Vs T.q152 (We T) (hr.mono (by decide)) (by rfl) T.q140 T.q151.b qO (ze (zb (r_ty Ht (Hu rfl) (by rfl) T.q162 E2 (ze (za 1) zj))) (ze (za 2) zj))))) zj)))) (y9 4 (y9 5 (zl (zL 6 CA.nd (yf Vk (VX T) hr T.q53 (ze (za 5) (ze (za 4) zj)))) (zl (zL 7 CA.nd (BG rfl NX (za 5) T.q86 T.q130 (OF T) (hr.mono (by decide)) T.q129.b qO)) (zl (qI jv rfl Cu Cv qY (zG (za 7) zg) (ze zg zj)) (zl (qI jv rfl Cu Cv qY (zG (za 7) zg) (ze zg zj)) (zr (yh (Hk jH (jG (qu hr)) (yj _) (zb (BG rfl NX (za 5) T.q86 T.q130 (OF T) (hr.mono (by decide)) T.q129.b qO)) (za 6)))))))))))))
end
end My
def PySem.W.Fast.tw14598715356260435866:Nat:=0
def PySem.W.Fast.tw7238046018651277534:Nat:=0
def PySem.W.Fast.tw6534874000650894987:Nat:=0
def PySem.W.Fast.tw10544295344006241723:Nat:=0
def PySem.W.Fast.tw3182386257043530798:Nat:=0
def PySem.W.Fast.tw12329155263669439519:Nat:=0
def PySem.W.Fast.tw3677632882827384062:Nat:=0
def PySem.W.Fast.tw13388153557339397715:Nat:=0
def PySem.W.Fast.tw16205993139258394665:Nat:=0
def PySem.W.Fast.tw12186927737360925045:Nat:=0
def PySem.W.Fast.tw13256641116850012859:Nat:=0
def PySem.W.Fast.tw4069818745696331118:Nat:=0
def PySem.W.Fast.tw12309487429465621764:Nat:=0
def PySem.W.Fast.tw10594365738534580157:Nat:=0
def PySem.W.Fast.tw1319192029097868252:Nat:=0
def PySem.W.Fast.tw10178460254095656201:Nat:=0
def PySem.W.Fast.tw17846797487192150033:Nat:=0
def PySem.W.Fast.tw12196925527506493495:Nat:=0
def PySem.W.Fast.tw8565733149115213228:Nat:=0
def PySem.W.Fast.tw6667695353286145696:Nat:=0
def PySem.W.Fast.tw11488531227469871684:Nat:=0
def PySem.W.Fast.tw5822829993140332335:Nat:=0
def PySem.W.Fast.tw1992449075930466090:Nat:=0
def PySem.W.Fast.tw5262731503136342451:Nat:=0
def PySem.W.Fast.tw5173889594236819067:Nat:=0
def PySem.W.Fast.tw10531621347620151403:Nat:=0
def PySem.W.Fast.tw12411216588197505872:Nat:=0
def PySem.W.Fast.tw17495155262278756735:Nat:=0
def PySem.W.Fast.tw8988036822726370258:Nat:=0
def PySem.W.Fast.tw3510150404263062150:Nat:=0
def PySem.W.Fast.tw17754248650196429969:Nat:=0
def PySem.W.Fast.tw9163640379060129236:Nat:=0
namespace My
open PySem PySem.W L2 L3
noncomputable def ask:L4.Ask where
 law:=52
 at_:=[2,3,15,17,18,20,21,22,29,30,31,32,35,42,43,44,47,54,55,56,59,66,67,68,71,78,79,80,83,90,92,93,95,96,97,98,99,102,104,105,107,108,109,111,112,114,115,116,119,120,121,123,124,126,127,128,130,131,133,134,135,137,138,140,141,142,145,146,147,149,150,152,153,154,156,157,159,160,161,164,165,166,168,169,171,172,180,182,183,185,186,187,189,190,192,193,194,195,196,197,198,208,211,212,213,215,216,218,219,220,222,223,225,226,227,229,230,232,233,234,237,238,239,242,243,244,247,248,249,251,252,254,255,256,258,259,261,262,263,265,266,268,269,270,272,273,275,276,277,279,280,282,283,284,286,287,289,290,291,293,294,296,297,298,299,300,301,302,305,307,308,310,311,312,314,315,317,318,319,321,322,324,325,326,329,330,331,333,334,336,337,338,340,341,343,344,352,354,355,357,358,359,361,362,364,365,366,368,369,371,372,373,375,376,378,379,380,382,383,385,386,387,389,390,392,393,394,396,397,399,400,401,403,404,406,407,408,410,411,413,414,415,417,418,420,421,422,424,425,427,428,429,430,431,432,433,436,438,439,441,442,443,445,446,448,449,450,453,454,455,457,458,460,461,462,464,465,467,468,469,471,472,474,475,476,479,480,481,483,484,486,487]
 defs:=[("_law_mixed",46),("_law_rows",48),("_law_cell_at",45),("_law_names",47),("_law_load",49),("is_name",20),("is_whole",10),("is_whole_between",11),("are_numbers_of_job",21),("check_load",22),("turns_of",23),("borders",26),("is_in_a_window",25),("cells",27),("cells_within",28),("most_shares",30),("_law_open",50),("_law_reached",51),("neighbours_as_one",41),("kept_rows",42),("is_machines",37),("is_calendar_row",39),("are_calendar_rows",40),("is_rest",38),("law",52)]
 cls:=[("Reach",31,[("__init__","Reach.__init__",0),("steps_to","Reach.steps_to",1)],["job_ahead","cell_ahead"]),("Flow",32,[("shift","Flow.shift",7),("take_straight","Flow.take_straight",1),("cells_behind","Flow.cells_behind",5),("jobs_behind","Flow.jobs_behind",6),("reached","Flow.reached",4),("steps_to_spare","Flow.steps_to_spare",3),("take_by_ways","Flow.take_by_ways",2),("__init__","Flow.__init__",0),("share","Flow.share",8),("lacking_by","Flow.lacking_by",11),("cut","Flow.cut",13)],["cells","load","most","shares","missing","spare"]),("Calendar",43,[("changes","Calendar.changes",7),("at","Calendar.at",3),("__init__","Calendar.__init__",0)],["stretches","beyond"])]
 bare:=["all","any","bool","enumerate","int","isinstance","len","list","max","min","range","set","sorted","str","tuple","zip"]
 con:=[("LAST_TURN",.int 10000000000),("LETTERS",.str ("abcdefghijklmnopqrstuvwxyz" :Str)),("LETTERS_AND_FIGURES",.str ("abcdefghijklmnopqrstuvwxyz0123456789" :Str)),("MOST_SIGNS",.int 8),("MOST_JOBS",.int 12),("LATEST_FIRST",.int 1000000000),("MOST_WORK",.int 60),("MOST_BREADTH",.int 16),("MOST_ROWS",.int 16),("MOST_TURNS_OF_ROW",.int 1000000),("MOST_MACHINES",.int 16)]
end My
lay_quick L4.claim L4.goal
open PySem PySem.W in
def My.one1:∀(w:World) (os:OsState),PySem.W.Fast.tw6268680626415656479 My.ask 20000 PySem.Challenge.pw_dueyard_k24_just_the_reached w os=PySem.W.Fast.tw12952061662341455360 My.ask PySem.Challenge.pw_dueyard_k24_just_the_reached:=by
 intro w os
 kernel_rfl
open PySem PySem.W in
def My.one:∀(w:World) (os:OsState),L4.claim My.ask 20000 PySem.Challenge.pw_dueyard_k24_just_the_reached w os=L4.goal My.ask PySem.Challenge.pw_dueyard_k24_just_the_reached:=by
 rw[PySem.W.Fast.te6268680626415656479,PySem.W.Fast.te12952061662341455360];exact My.one1
namespace L3
open PySem L2
def ev:type_of% (zd (zd (zd (zd (zd (zd @L3.fun3.eq_1 (zd @L3.start3.eq_1 @L3.sSeq.eq_1)) (zd (zd @L3.sSet.eq_1 @L3.sRet.eq_1) (zd @L3.sRetS.eq_1 @L3.sRetN.eq_1))) (zd (zd (zd @L3.sIf.eq_1 @L3.sExp.eq_1) (zd @L3.sFz.eq_1 @L3.sAug.eq_1)) (zd (zd @L3.sAsg.eq_1 @L3.sSkip.eq_1) (zd @L3.sNever.eq_1 @L3.gN.eq_1)))) (zd (zd (zd @L3.eV.eq_1 (zd @L3.eC.eq_1 @L3.pV.eq_1)) (zd (zd @L3.pE.eq_1 @L3.eOp.eq_1) (zd @L3.eNeg.eq_1 @L3.eNot.eq_1))) (zd (zd (zd @L3.eAnd.eq_1 @L3.eOr.eq_1) (zd @L3.eIf.eq_1 @L3.eChain.eq_1)) (zd (zd @L3.oEq_int @L3.oNe_int) (zd @L3.nx_ite @L3.rt_ite))))) (zd (zd (zd (zd @L3.ok_ite (zd @L3.cons_ite @L3.some_ite)) (zd (zd @L3.v_ite @L3.int_ite) (zd @L3.bl_ite @ite_self.{1}))) (zd (zd (zd @Cr @and_true) (zd @true_and @and_self)) (zd (zd @L3.eTup.eq_1 @L3.eLst.eq_1) (zd @L3.aCons.eq_1 @L3.aNil.eq_1)))) (zd (zd (zd (zd @L3.eB.eq_1 @L3.isa.eq_1) (zd @L3.eCall.eq_1 @L3.tE.eq_1)) (zd (zd @L3.tP.eq_1 @L3.tTru.eq_1) (zd @L3.tAnd3.eq_1 @L3.tOr3.eq_1))) (zd (zd (zd @L3.tNot3.eq_1 @L3.mtO.eq_1) (zd @L3.at0 @L3.at1)) (zd (zd @L3.at2 @L3.at3) (zd @L3.at4 @Ah.{0,0})))))) (zd (zd (zd (zd (zd @Bj.{0,0} (zd @Bb.{0} @Ee.{0})) (zd (zd @List.cons_append.{0} @Dw.{0}) (zd @B1.{0} @Ec.{0}))) (zd (zd (zd @D1.{0} @List.getElem?_nil.{0}) (zd @List.set_cons_zero.{0} @Ft.{0})) (zd (zd @Aq.{0,0} @Option.map_none.{0,0}) (zd @Fg.{0,0} @Nat.zero_add)))) (zd (zd (zd @ite_true.{1} (zd @ite_false.{1} @Bw.{1})) (zd (zd @Bv.{1} @Di) (zd @Ej @decide_true))) (zd (zd (zd @decide_false @Do) (zd @C9 @Bool.or_true)) (zd (zd @D8 @Ed) (zd @Bool.false_or @Fd.{0}))))) (zd (zd (zd (zd @or_true (zd @true_or @Bp)) (zd (zd @false_or @L3.oAdd_int) (zd @L3.oAddI_int @L3.oSub_int))) (zd (zd (zd @L3.oMul_int @L3.oDiv_int) (zd @L3.oMod_int @L3.oShr_int)) (zd (zd @L3.oPow_int @L3.oAndI_int) (zd @L3.oLt_int @L3.oLe_int)))) (zd (zd (zd (zd @L3.oGt_int @L3.oGe_int) (zd @L3.oIx_tup @L3.oIx_lst)) (zd (zd @L3.oIx_scr @L3.sMt_ap) (zd @L3.mAppend_ok @L3.sz0))) (zd (zd (zd @L3.sz1 @L3.sz2) (zd @L3.sz3 @L3.sz4)) (zd (zd @L3.sz5 @L3.gb.eq_1) (zd @Int.cast_ofNat_Int @Ck))))))):=(zd (zd (zd (zd (zd (zd @L3.fun3.eq_1 (zd @L3.start3.eq_1 @L3.sSeq.eq_1)) (zd (zd @L3.sSet.eq_1 @L3.sRet.eq_1) (zd @L3.sRetS.eq_1 @L3.sRetN.eq_1))) (zd (zd (zd @L3.sIf.eq_1 @L3.sExp.eq_1) (zd @L3.sFz.eq_1 @L3.sAug.eq_1)) (zd (zd @L3.sAsg.eq_1 @L3.sSkip.eq_1) (zd @L3.sNever.eq_1 @L3.gN.eq_1)))) (zd (zd (zd @L3.eV.eq_1 (zd @L3.eC.eq_1 @L3.pV.eq_1)) (zd (zd @L3.pE.eq_1 @L3.eOp.eq_1) (zd @L3.eNeg.eq_1 @L3.eNot.eq_1))) (zd (zd (zd @L3.eAnd.eq_1 @L3.eOr.eq_1) (zd @L3.eIf.eq_1 @L3.eChain.eq_1)) (zd (zd @L3.oEq_int @L3.oNe_int) (zd @L3.nx_ite @L3.rt_ite))))) (zd (zd (zd (zd @L3.ok_ite (zd @L3.cons_ite @L3.some_ite)) (zd (zd @L3.v_ite @L3.int_ite) (zd @L3.bl_ite @ite_self.{1}))) (zd (zd (zd @Cr @and_true) (zd @true_and @and_self)) (zd (zd @L3.eTup.eq_1 @L3.eLst.eq_1) (zd @L3.aCons.eq_1 @L3.aNil.eq_1)))) (zd (zd (zd (zd @L3.eB.eq_1 @L3.isa.eq_1) (zd @L3.eCall.eq_1 @L3.tE.eq_1)) (zd (zd @L3.tP.eq_1 @L3.tTru.eq_1) (zd @L3.tAnd3.eq_1 @L3.tOr3.eq_1))) (zd (zd (zd @L3.tNot3.eq_1 @L3.mtO.eq_1) (zd @L3.at0 @L3.at1)) (zd (zd @L3.at2 @L3.at3) (zd @L3.at4 @Ah.{0,0})))))) (zd (zd (zd (zd (zd @Bj.{0,0} (zd @Bb.{0} @Ee.{0})) (zd (zd @List.cons_append.{0} @Dw.{0}) (zd @B1.{0} @Ec.{0}))) (zd (zd (zd @D1.{0} @List.getElem?_nil.{0}) (zd @List.set_cons_zero.{0} @Ft.{0})) (zd (zd @Aq.{0,0} @Option.map_none.{0,0}) (zd @Fg.{0,0} @Nat.zero_add)))) (zd (zd (zd @ite_true.{1} (zd @ite_false.{1} @Bw.{1})) (zd (zd @Bv.{1} @Di) (zd @Ej @decide_true))) (zd (zd (zd @decide_false @Do) (zd @C9 @Bool.or_true)) (zd (zd @D8 @Ed) (zd @Bool.false_or @Fd.{0}))))) (zd (zd (zd (zd @or_true (zd @true_or @Bp)) (zd (zd @false_or @L3.oAdd_int) (zd @L3.oAddI_int @L3.oSub_int))) (zd (zd (zd @L3.oMul_int @L3.oDiv_int) (zd @L3.oMod_int @L3.oShr_int)) (zd (zd @L3.oPow_int @L3.oAndI_int) (zd @L3.oLt_int @L3.oLe_int)))) (zd (zd (zd (zd @L3.oGt_int @L3.oGe_int) (zd @L3.oIx_tup @L3.oIx_lst)) (zd (zd @L3.oIx_scr @L3.sMt_ap) (zd @L3.mAppend_ok @L3.sz0))) (zd (zd (zd @L3.sz1 @L3.sz2) (zd @L3.sz3 @L3.sz4)) (zd (zd @L3.sz5 @L3.gb.eq_1) (zd @Int.cast_ofNat_Int @Ck)))))))
end L3
local macro_rules | `(tactic| simp![$xs,*] $[$l]?)=> `(tactic| simp only[L3.kJ,L3.fun3,L3.start3,L3.O3.res,L3.sSeq,L3.sSet,L3.sRet,L3.sRetS,L3.sRetN,L3.sIf,L3.sExp,L3.sFz,L3.sAug,L3.sAsg,L3.sSkip,L3.sNever,L3.gN,L3.gT,L3.gL,L3.gsCons,L3.gsNil,L3.eV,L3.eC,L3.pV,L3.pE,L3.eOp,L3.eNeg,L3.eNot,L3.eAnd,L3.eOr,L3.eIf,L3.eChain,L3.oEq_int,L3.oNe_int,L3.nx_ite,L3.rt_ite,L3.ok_ite,L3.cons_ite,L3.some_ite,L3.v_ite,L3.int_ite,L3.bl_ite,ite_self,Cr,and_true,true_and,and_self,L3.oIsN,L3.eTup,L3.eLst,L3.aCons,L3.aNil,L3.vals3,L3.eB,L3.bLen,L3.bMax,L3.bMin,L3.bMin3,L3.bInt,L3.bList,L3.bIsT,L3.ty3,L3.isa,L3.eCall,L3.opt,L3.Res.bind,L3.Res.bindS,L3.Vl.fz,L3.C3.fz,L3.tE,L3.tP,L3.tru3,L3.tTru,L3.tAnd3,L3.tOr3,L3.tNot3,L3.rdl,L3.rdm,L3.mtO,L3.wr3,L3.at0,L3.at1,L3.at2,L3.at3,L3.at4,Ah,Bj,Bb,Ee,List.replicate,List.cons_append,Dw,B1,Ec,D1,List.getElem?_nil,List.set_cons_zero,Ft,Aq,Option.map_none,Fg,Nat.reduceSub,Nat.reduceAdd,Nat.reduceLT,Nat.reduceEqDiff,Nat.reduceLeDiff,Nat.zero_add,reduceIte,ite_true,ite_false,Bw,Bv,Di,Ej,decide_true,decide_false,Do,C9,Bool.or_true,D8,Ed,Bool.false_or,Fd,String.reduceEq,String.reduceBEq,or_true,true_or,Bp,false_or,reduceCtorEq,Int.reduceLT,Int.reduceLE,Int.reduceNeg,L3.oAdd_int,L3.oAddI_int,L3.oSub_int,L3.oMul_int,L3.oDiv_int,L3.oMod_int,L3.oShr_int,L3.oPow_int,L3.oAndI_int,L3.oLt_int,L3.oLe_int,L3.oGt_int,L3.oGe_int,L3.oIx_tup,L3.oIx_lst,L3.oIx_scr,L3.sMt_ap,L3.mAppend_ok,L3.sz0,L3.sz1,L3.sz2,L3.sz3,L3.sz4,L3.sz5,L3.gb,Int.cast_ofNat_Int,Int.reduceEq,Ck,$xs,*] $[$l]?)
namespace L3
open PySem L2
noncomputable def tx (l:List Nat):Str:=⟨l.toArray⟩
def qW (l:List Nat):(tx l).length=l.length:=by simp[tx,Str.length]
def GP (l:List Nat):(tx l).cps.toList=l:=by simp[tx]
def Wf (z:Str):tx z.cps.toList=z:=by simp[tx]
def Wg {a b:List Nat} (h:tx a=tx b):a=b:=by have:=congrArg (fun z:Str=>z.cps.toList) h;simpa[tx] using this
def OG (a b:List Nat):tx a++tx b=tx (a++b):=by
 show Str.append (tx a) (tx b)=_;simp[Str.append,tx]
def OH (x:Str) {l u:Option Int} {a b:Nat} (e:Builtin.Str.strSliceIndices l u 1 x.length=Builtin.Str.strSliceIndices (some (a:Int)) (some (b:Int)) 1 x.length) (hab:a<=b) (hb:b<=x.length):
  Txt.slice x l u=tx ((x.cps.toList.drop a).take (b-a)):=by
 unfold Txt.slice;rw[e,StrLaws.sliced_plain x hab hb]
 split
 .rename_i q
  rw[StrLaws.strSliceIndices_plain hab hb]at q;simp at q;have h1:a=0:=by lia
  have h2:b=x.length:=by lia
  subst h1;subst h2;rw[Fu,Nat.sub_zero,Fp (by simp[Str.length])]
  exact (Wf x).symm
 .rfl
def Wh (l:List Nat) (k:Nat):Txt.slice (tx l) none (some (k:Int))=tx (l.take k):=by
 have e:Builtin.Str.strSliceIndices none (some (k:Int)) 1 (tx l).length=Builtin.Str.strSliceIndices (some ((0:Nat):Int)) (some ((min k l.length:Nat):Int)) 1 (tx l).length:=by
  rw[qW];have h1: ¬((k:Int)<0):=by lia
  have h2: ¬(((min k l.length:Nat):Int)<0):=by lia
  have h3: ¬(((0:Nat):Int)<0):=by lia
  simp only[Builtin.Str.strSliceIndices,h1,h2,h3,Bv,show ((1:Int) > 0)=True from by simp,Bw]
  congr 1<;>lia
 rw[OH _ e (Bx _) (by rw[qW];lia),GP,Fu,Nat.sub_zero]
 congr 1
 rw[List.take_eq_take_iff];lia
def Wi (l:List Nat) (k:Nat):Txt.slice (tx l) (some (k:Int)) none=tx (l.drop k):=by
 have e:Builtin.Str.strSliceIndices (some (k:Int)) none 1 (tx l).length=Builtin.Str.strSliceIndices (some ((min k l.length:Nat):Int)) (some ((l.length:Nat):Int)) 1 (tx l).length:=by
  rw[qW];have h1: ¬((k:Int)<0):=by lia
  have h2: ¬(((min k l.length:Nat):Int)<0):=by lia
  have h3: ¬(((l.length:Nat):Int)<0):=by lia
  simp only[Builtin.Str.strSliceIndices,h1,h2,h3,Bv,show ((1:Int) > 0)=True from by simp,Bw]
  congr 1<;>lia
 rw[OH _ e (by lia) (by rw[qW];lia),GP]
 congr 1
 by_cases hk:k<=l.length
 .rw[Nat.min_eq_left hk,Fp (by simp)]
 .rw[Nat.min_eq_right (by lia),C5,List.drop_eq_nil_of_le (by lia)];simp
def Wj (ls:List (List Nat)):Txt.join (tx []) (ls.map tx)=tx ls.flatten:=by
 show Builtin.Str.glued _ _=_;rw[StrLaws.glued_eq_join];have e:∀a:Str,tx []++a=a:=fun a=>by show Str.append _ _=_;simp[Str.append,tx]
 induction ls with
 |nil=>rfl
 |cons a r ih=>
  cases r with
  |nil=>simp[Str.join]
  |cons b r=>
   rw[Ah,Ah,Str.join]
   .rw[<-Ah,ih]
    simp only[OG,B1,Dv]
   .simp
def qd (c:Nat):Bool:=decide (97<=c) && decide (c<=122)
noncomputable def jo (c:Nat):Bool:=decide (48<=c) && decide (c<=57)
noncomputable def abc:List Nat:=[97,98,99,100,101,102,103,104,105,106,107,108,109,110,111,112,113,114,115,116,117,118,119,120,121,122]
def abc9:List Nat:=abc++[48,49,50,51,52,53,54,55,56,57]
def Wk:("abcdefghijklmnopqrstuvwxyz" :Str)=tx abc:=by decide+kernel
def OI:("abcdefghijklmnopqrstuvwxyz0123456789" :Str)=tx abc9:=by decide+kernel
def Wl:("" :Str)=tx []:=by decide+kernel
def Wm (c:Nat):decide (c∈abc)=qd c:=by
 by_cases h:c<128
 .exact (by decide+kernel:∀c,c<128->decide (c∈abc)=qd c) c h
 .rw[Bh fun m=>h ((by decide+kernel:∀x∈abc,x<128) c m)]
  unfold qd;rw[Bh (p:=c<=122) (by lia),En]
def Wn (c:Nat):decide (c∈abc9)=(qd c || jo c):=by
 by_cases h:c<128
 .exact (by decide+kernel:∀c,c<128->decide (c∈abc9)=(qd c || jo c)) c h
 .rw[Bh fun m=>h ((by decide+kernel:∀x∈abc9,x<128) c m)]
  unfold qd jo;rw[Bh (p:=c<=122) (by lia),Bh (p:=c<=57) (by lia),En,En,D8]
def OJ {s:S3} {h:H3} {c:Nat} {l:List Nat}:oInS false s h (.x (.str (tx [c]))) (.x (.str (tx l)))=some (.v (.bl (decide (c∈l)))):=by
 unfold oInS;simp only[Ck,Bv];rw[show (tx [c])=⟨#[c]⟩ from rfl,S6,GP]
def Ij {s:S3} {h:H3} {l:List Nat} {i:Int} (hl:l.length<=sizeLine):zq s h (.x (.str (tx l))) (.x (.int i))=(atI l i).map fun c=>.v (.str (tx [c])):=by
 unfold zq qi oIxT yL oIxS;simp only[rdl,qW,GP,Ab hl];cases atI l i<;>rfl
def Ik {s:S3} {h:H3} {a b:List Nat} (hl:a.length+b.length<=sizeLine):zB s h (.x (.str (tx a))) (.x (.str (tx b)))=some (.v (.str (tx (a++b)))):=by
 unfold zB qi AE oI FE;simp only[qW,Ab hl,OG]
def OK {s:S3} {h:H3} {l:List Nat} {k:Nat} (hl:l.length<=sizeLine):oSl s h none (some (k:Int)) (.x (.str (tx l)))=some (.v (.str (tx (l.take k)))):=by
 simp only[oSl,qW,Ab hl,Wh]
def Wo {s:S3} {h:H3} {l:List Nat} {k:Nat} (hl:l.length<=sizeLine):oSl s h (some (k:Int)) none (.x (.str (tx l)))=some (.v (.str (tx (l.drop k)))):=by
 simp only[oSl,qW,Ab hl,Wi]
def sz36:36<=sizeLine:=by have:=ym;lia
def isN (l:List Nat):Bool:=decide (1<=l.length) && decide (l.length<=8) && (qd (l.headD 0) && l.all fun c=>qd c || jo c)
def OL {n:Nat} {fr:List Nat} {a:A3} {g:G3} {e:E3} {s:S3} {h:H3} {j:Int} (I:S3->Prop) (f:Nat->V3) (ea:a s h=.ok [.x (.int j)] h) (hj: -1000000<=j/\j<=1000000)
  (h0:I (yd n fr s)) (step:∀(k:Nat) s,k<j.toNat->I s->∃s1 r,g (.int (k:Int)) s=some s1/\I s1/\e s1 h=.ok r h/\r.fz=some (f k)):
  yu n fr (qo a) g tTru e s h=.ok (.m (.lst ((List.range j.toNat).map f))) h:=by
 have hj2: -(2 ^ 62)<=j/\j<2 ^ 62:=by lia
 have:=Js (ok:=fun _=>True) (g:=g) (e:=e) (h:=h) I (fun k:Nat=>V3.int (0+(k:Int))) f trivial (l:=List.range j.toNat) (by rw[Bq];have:=ym;lia)
  (fun k s hk hI=>by rw[Ev];exact step k s (by simpa using hk) hI) h0
 unfold yu qo;simp only[ea,Res.bind,Ab hj2,this]
def GQ {α:Type} {n:Nat} {fr:List Nat} {p:P3} {g:G3} {e:E3} {s:S3} {h:H3} {x:V3} {ok:H3->Prop} {enc:α->V3} {l:List α} (I:S3->Prop) (f:α->V3) (ep:p s h=.ok (.x x) h)
  (hw:yA h x=some (l.map enc,ok)) (hl:l.length<=1000000) (h0:I (yd n fr s)) (step:∀a s,a∈l->I s->∃s1 r,g (enc a) s=some s1/\I s1/\e s1 h=.ok r h/\r.fz=some (f a)):
  yu n fr (iL p) g tTru e s h=.ok (.m (.lst (l.map f))) h:=by
 have:=Js (ok:=ok) (g:=g) (e:=e) (h:=h) I enc f (CK hw).1 (l:=l) (by have:=ym;lia) step h0
 unfold yu iL;simp only[ep,Res.bind,hw,this]
def Wp {n:Nat} {fr:List Nat} {p:P3} {g:G3} {e:E3} {s:S3} {h:H3} {l:List Nat} (I:S3->Prop) (f:Nat->V3) (ep:p s h=.ok (.x (.str (tx l))) h) (hl:l.length<=1000000)
  (h0:I (yd n fr s)) (step:∀a s,a∈l->I s->∃s1 r,g (.str (tx [a])) s=some s1/\I s1/\e s1 h=.ok r h/\r.fz=some (f a)):
  yu n fr (iS p) g tTru e s h=.ok (.m (.lst (l.map f))) h:=by
 have:=Js (ok:=fun _=>True) (g:=g) (e:=e) (h:=h) I (fun a:Nat=>V3.str (tx [a])) f trivial (l:=l) (by have:=ym;lia) step h0
 have hl2:(tx l).length<=sizeLine:=by rw[qW];have:=ym;lia
 unfold yu iS;simp only[ep,Res.bind,Ab hl2,GP]
 first
  | (simp only[show ∀a:Nat,(⟨#[a]⟩:Str)=tx [a] from fun _=>rfl,this])
  | (rw[show (l.map fun c=>V3.str ⟨#[c]⟩)=l.map (fun a=>V3.str (tx [a])) from rfl,this])
def K9 {s:S3} {h:H3} {q:List Bool->Bool} {bs:List Bool}:bAll q s h [.x (.lst (bs.map .bl))]=some (.v (.bl (q bs))):=by
 unfold bAll;simp only[rdl,TM,Aq]
def Wq {p:P3} {a:A3} {s:S3} {h:H3} {ls:List (List Nat)} (ep:p s h=.ok (.x (.str (tx []))) h) (ea:a s h=.ok [.x (.lst (ls.map fun l=>.str (tx l)))] h) (hl:ls.length<=1000) (h1:∀l∈ls,l.length<=16):
  HD p a s h=.ok (.v (.str (tx ls.flatten))) h:=by
 have e:ls.map (fun l=>V3.str (tx l))=(ls.map tx).map .str:=by rw[Bg];rfl
 unfold HD;rw[ep];simp only[Res.bind,ea,rdl,e,TN];rw[Ab,Wj]
 refine⟨by rw[Ae];lia,fun z hz=>?_,by rw[qW];simp⟩
 obtain⟨l,hl,rfl⟩:=Aj.1 hz;rw[qW,qW];have:=h1 l hl;simpa using this
def Wr {α:Type} {it:I3} {g:G3} {b:D3} {s:S3} {h:H3} {its:List V3} {ok:H3->Prop} {enc:α->V3} {l:List α} (ei:it s h=.ok ⟨its,l.map enc,ok⟩ h) (hok:ok h)
  (I:Nat->S3->Prop) (h0:I 0 s) (step:∀(i:Nat) a s,l[i]? =some a->I i s->∃s2,gb g b (enc a) s h=.nx s2 h/\I (i+1) s2):∃s',zw it g b s h=.nx s' h/\I l.length s':=by
 have hf:zw it g b s h=zP ok g b (l.map enc) s h:=by
  unfold zw;simp only[ei,Res.bindS]
 rw[hf];have:=Jr (ok:=ok) (g:=g) (b:=b) (h:=h) I (xs:=l.map enc) (s:=s) hok h0 fun i x s hx hI=>by
  rw[Az]at hx;obtain⟨a,ha,rfl⟩:=Cz.1 hx;obtain⟨s2,e,hI2⟩:=step i a s ha hI;unfold gb at e;cases q:g (enc a) s with
  |none=>rw[q]at e;cases e
  |some s1=>rw[q]at e;exact⟨s1,s2,rfl,e,hI2⟩
 rwa [Ae]at this
def it_R {Q:Res Vl->Prop} {α:Type} {it:I3} {g:G3} {b r:D3} {s:S3} {h:H3} {its:List V3} {ok:H3->Prop} {enc:α->V3} {l:List α} (ei:it s h=.ok ⟨its,l.map enc,ok⟩ h) (hok:ok h)
  (I:Nat->S3->Prop) (h0:I 0 s) (step:∀(i:Nat) a s,l[i]? =some a->I i s->∃s2,gb g b (enc a) s h=.nx s2 h/\I (i+1) s2) (k:∀s',I l.length s'->Q ((r s' h).res)):Q ((sSeq (zw it g b) r s h).res):=by
 obtain⟨s',e,hI⟩:=Wr ei hok I h0 step;rw[qS e];exact k s' hI
def Ws {ok:H3->Prop} {g:G3} {b:D3} (I:Nat->S3->H3->Prop) {xs:List V3} {s:S3} {h:H3} (hok:∀i s h,I i s h->ok h) (h0:I 0 s h)
  (step:∀(i:Nat) x s h,xs[i]? =some x->I i s h->∃s1 s2 h2,g x s=some s1/\b s1 h=.nx s2 h2/\I (i+1) s2 h2):∃s' h',zP ok g b xs s h=.nx s' h'/\I xs.length s' h':=by
 have gen:∀(n i:Nat) (s:S3) (h:H3),n=xs.length-i->i<=xs.length->I i s h->∃s' h',zP ok g b (xs.drop i) s h=.nx s' h'/\I xs.length s' h':=by
  intro n
  induction n with
  |zero=>
   intro i s h hn hi hI;have:i=xs.length:=by lia
   subst this;rw[C5];unfold zP;rw[Ab (hok _ _ _ hI)];exact⟨s,h,rfl,hI⟩
  |succ n ih=>
   intro i s h hn hi hI;have hlt:i<xs.length:=by lia
   rw[Es hlt];unfold zP;rw[Ab (hok _ _ _ hI)];obtain⟨s1,s2,h2,hg,hb,hI2⟩:=step i xs[i] s h (zI hlt) hI;simp only[hg,hb];exact ih (i+1) s2 h2 (by lia) hlt hI2
 exact gen _ 0 s h rfl (Bx _) h0
def DA {α:Type} {it:I3} {g:G3} {b:D3} {s:S3} {h:H3} {its:List V3} {ok:H3->Prop} {enc:α->V3} {l:List α} (ei:it s h=.ok ⟨its,l.map enc,ok⟩ h)
  (I:Nat->S3->H3->Prop) (hok:∀i s h,I i s h->ok h) (h0:I 0 s h) (step:∀(i:Nat) a s h,l[i]? =some a->I i s h->∃s2 h2,gb g b (enc a) s h=.nx s2 h2/\I (i+1) s2 h2):∃s' h',zw it g b s h=.nx s' h'/\I l.length s' h':=by
 have hf:zw it g b s h=zP ok g b (l.map enc) s h:=by
  unfold zw;simp only[ei,Res.bindS]
 rw[hf];have:=Ws (ok:=ok) (g:=g) (b:=b) I (xs:=l.map enc) (s:=s) (h:=h) hok h0 fun i x s h hx hI=>by
  rw[Az]at hx;obtain⟨a,ha,rfl⟩:=Cz.1 hx;obtain⟨s2,h2,e,hI2⟩:=step i a s h ha hI;unfold gb at e;cases q:g (enc a) s with
  |none=>rw[q]at e;cases e
  |some s1=>rw[q]at e;exact⟨s1,s2,h2,rfl,e,hI2⟩
 rwa [Ae]at this
def Wt {Q:Res Vl->Prop} {α:Type} {it:I3} {g:G3} {b r:D3} {s:S3} {h:H3} {its:List V3} {ok:H3->Prop} {enc:α->V3} {l:List α} (ei:it s h=.ok ⟨its,l.map enc,ok⟩ h)
  (I:Nat->S3->H3->Prop) (hok:∀i s h,I i s h->ok h) (h0:I 0 s h) (step:∀(i:Nat) a s h,l[i]? =some a->I i s h->∃s2 h2,gb g b (enc a) s h=.nx s2 h2/\I (i+1) s2 h2) (k:∀s' h',I l.length s' h'->Q ((r s' h').res)):Q ((sSeq (zw it g b) r s h).res):=by
 obtain⟨s',h',e,hI⟩:=DA ei I hok h0 step;rw[qS e];exact k s' h' hI
def KA {a:A3} {s:S3} {h:H3} {j:Int} (ea:a s h=.ok [.x (.int j)] h) (hj: -(2 ^ 62)<=j/\j<2 ^ 62):qo a s h=.ok ⟨[],(List.range j.toNat).map fun k=>.int ((k:Nat):Int),fun _=>True⟩ h:=by
 unfold qo;simp only[ea,Res.bind,Ab hj,Ev]
def Is (h:H3) (r:Vl) (R:Res Vl):Prop:=R=.ok r h
def Yes (R:Res Vl):Prop:=∃h',R=.ok (.v (.bl true)) h'
def KB {s:S3} {h:H3} {i:Nat} {j:Int}:zq s h (.s i) (.x (.int j))=match s[i]? with
  |some (some (.m (.lst xs)))=>(atI xs j).map .v
  |_=>none:=by
 unfold zq qi oIxT yL oIxS;simp only[rdl];generalize s[i]? =o
 match o with
 |none=>rfl
 |some none=>rfl
 |some (some (.v _))=>rfl
 |some (some (.m (.lst xs)))=>simp only[];cases atI xs j<;>rfl
 |some (some (.m (.dK _)))=>rfl
 |some (some (.m (.dT _)))=>rfl
 |some (some (.m (.ins _ _)))=>rfl
 |some (some (.m .dead))=>rfl
def OM {s:S3} {h:H3} {i:Nat} {l:List V3} {x:V3} (e:s[i]? =some (some (.m (.lst (l++[x]))))):zq s h (.s i) (.x (.int (-1)))=some (.v x):=by
 rw[KB,e];simp only[atm1,Aq]
def ON {α β:Type} {l:List α} {f:α->β}:(l.map f).isEmpty=l.isEmpty:=by cases l<;>rfl
def OO {α:Type} {l:List α} {n:Nat} {x y:α} (h:l.length=n):(l++[x]).set n y=l++[y]:=by
 subst h;rw[Ek _ _ (Af _)];simp
def CB {α:Type} {l:List α} {i:Nat} {a:α} (h:l[i]? =some a):l.drop i=a::l.drop (i+1):=by
 obtain⟨hi,rfl⟩:=An.1 h;exact Es hi
def jJ {α:Type} {l:List α} {i:Nat} {a:α} (h:l[i]? =some a):l.take (i+1)=l.take i++[a]:=by rw[List.take_add_one,h];rfl
def Wu {α:Type} (xs:List α) (k:Nat):cutL xs (some (k:Int)) none=xs.drop k:=by
 unfold cutL HT.sIx;have h1: ¬((k:Int)<0):=by lia
 simp only[Ac h1,B3]
 by_cases hk:k<=xs.length
 .rw[Nat.min_eq_left hk,Fp (by simp)]
 .rw[Nat.min_eq_right (by lia),C5,List.drop_eq_nil_of_le (by lia)];simp
theorem OP {f:V3->V3->Option Bool}:∀{xs:List V3},(∀x∈xs,f x x=some true)->yD f xs xs=some true
 | [],_=>rfl
 |x::r,h=>by simp only[yD,h x Ak,OP (xs:=r) fun y hy=>h y (Ap _ hy),Bool.and_self]
def IsL (h:H3) (x:V3) (xs:List V3):Prop:=x=.lst xs\/∃n,x=.loc n/\h[n]? =some (.lst xs)
def IsL.walk {h:H3} {x:V3} {xs:List V3} (l:IsL h x xs):∃ok,yA h x=some (xs,ok):=by
 rcases l with rfl|⟨n,rfl,e⟩
 .exact⟨_,rfl⟩
 .exact⟨_,by simp only[yA,e];rfl⟩
def ch (i:Int):Nat:=abc9.getD i.toNat 0
def OQ {i:Int} (h0:0<=i) (h1:i<36):atI abc9 i=some (ch i):=by
 obtain⟨n,rfl⟩:=Int.eq_ofNat_of_zero_le h0;have hn:n<abc9.length:=by show n<36;lia
 refine jk (j:=n) ?_
 rw[zI hn];unfold ch;rw[Cb,B3,zI hn];rfl
def OR (x:Int):atI abc9 (x%36)=some (ch (x%36)):=OQ (by lia) (by lia)
def Wv (x:Int):atI abc9 (x%26)=some (ch (x%26)):=OQ (by lia) (by lia)
def Ww:∀n:Nat,n<36->(qd (ch n) || jo (ch n))=true:=by decide
def Wx:∀n:Nat,n<26->qd (ch n)=true:=by decide
def Wy:∀m n:Nat,m<36->n<36->ch m=ch n->m=n:=by
 have:∀m:Nat,m<36->∀n:Nat,n<36->ch m=ch n->m=n:=by decide
 exact fun m n hm hn=>this m hm n hn
def OS (x:Int):(qd (ch (x%36)) || jo (ch (x%36)))=true:=by
 have:=Ww (x%36).toNat (by lia)
 rwa [show (((x%36).toNat:Nat):Int)=x%36 by lia]at this
def Wz (x:Int):qd (ch (x%26))=true:=by
 have:=Wx (x%26).toNat (by lia)
 rwa [show (((x%26).toNat:Nat):Int)=x%26 by lia]at this
def W0 {x y:Int} (h:ch (x%36)=ch (y%36)):x%36=y%36:=by
 have:=Wy (x%36).toNat (y%36).toNat (by lia) (by lia) (by rw[show (((x%36).toNat:Nat):Int)=x%36 by lia,show (((y%36).toNat:Nat):Int)=y%36 by lia];exact h)
 lia
def nodup_range {α:Type} {f:Nat->α} {n:Nat} (h:∀i j,i<j->j<n->f i≠f j):((List.range n).map f).Nodup:=by
 unfold List.Nodup;rw[E4]
 refine List.Pairwise.imp_of_mem (fun {a b} ha hb hab=>h a b hab (by simpa using hb)) Go
def W1 {Q:Res Vl->Prop} {ok:H3->Prop} {g:G3} {b r:D3} {α:Type} {enc:α->V3} {l:List α} (I:Nat->S3->H3->Prop) (hok:∀i s h,I i s h->ok h)
  (step:∀(i:Nat) a s h,l[i]? =some a->I i s h->(∃s2 h2,(gb g b (enc a) s h=.nx s2 h2\/gb g b (enc a) s h=.ct s2 h2)/\I (i+1) s2 h2)\/(∃v h2,gb g b (enc a) s h=.rt v h2/\Q (.ok v h2))\/∃s2 h2,gb g b (enc a) s h=.bk s2 h2/\Q ((r s2 h2).res))
  (k:∀s' h',I l.length s' h'->Q ((r s' h').res)):∀(n i:Nat) (s:S3) (h:H3),l.length-i=n->i<=l.length->I i s h->Q ((match zP ok g b ((l.drop i).map enc) s h with | .nx s h=>r s h|o=>o).res):=by
 intro n
 induction n with
 |zero=>
  intro i s h hn hi hI;have e:i=l.length:=by lia
  subst e;rw[C5,Bj];unfold zP;rw[Ab (hok _ _ _ hI)];exact k s h hI
 |succ n ih=>
  intro i s h hn hi hI;have hil:i<l.length:=by lia
  rw[CB (zI hil),Ah];unfold zP;rw[Ab (hok _ _ _ hI)];have st:=step i l[i] s h (zI hil) hI;unfold gb at st;cases q:g (enc l[i]) s with
  |none=>simp only[q]at st;rcases st with ⟨_,_,z|z,_⟩|⟨_,_,z,_⟩|⟨_,_,z,_⟩<;>cases z
  |some s1=>
   simp only[q]at st ⊢
   rcases st with ⟨s2,h2,z|z,hI2⟩|⟨v,h2,z,hq⟩|⟨s2,h2,z,hq⟩
   .rw[z];exact ih (i+1) s2 h2 (by lia) hil hI2
   .rw[z];exact ih (i+1) s2 h2 (by lia) hil hI2
   .rw[z];exact hq
   .rw[z];exact hq
def it_E {Q:Res Vl->Prop} {α:Type} {it:I3} {g:G3} {b r:D3} {s:S3} {h:H3} {its:List V3} {ok:H3->Prop} {enc:α->V3} {l:List α} (ei:it s h=.ok ⟨its,l.map enc,ok⟩ h)
  (I:Nat->S3->H3->Prop) (hok:∀i s h,I i s h->ok h) (h0:I 0 s h)
  (step:∀(i:Nat) a s h,l[i]? =some a->I i s h->(∃s2 h2,(gb g b (enc a) s h=.nx s2 h2\/gb g b (enc a) s h=.ct s2 h2)/\I (i+1) s2 h2)\/(∃v h2,gb g b (enc a) s h=.rt v h2/\Q (.ok v h2))\/∃s2 h2,gb g b (enc a) s h=.bk s2 h2/\Q ((r s2 h2).res))
  (k:∀s' h',I l.length s' h'->Q ((r s' h').res)):Q ((sSeq (zw it g b) r s h).res):=by
 have:=W1 (Q:=Q) (r:=r) I hok step k _ 0 s h rfl (Bx _) h0;unfold sSeq zw;simp only[ei,Res.bindS];rw[Fu]at this;exact this
end L3
namespace L3
open PySem PySem.Spec PyProof.Rows L2
def KC {t:T3} {b:D3} {Post:S3->H3->Prop} (I:Nat->S3->H3->Prop)
  (step:∀n s h,I n s h->(∃h1,t s h=.ok false h1/\Post s h1)\/∃h1 s2 h2 n',t s h=.ok true h1/\b s h1=.nx s2 h2/\n' < n/\I n' s2 h2):
  ∀(n:Nat) (s:S3) (h:H3),I n s h->∃s' h',jK t b s h=.nx s' h'/\Post s' h':=by
 have key:∀(n:Nat) (s:S3) (h:H3),I n s h->∃k s' h',qD t b k s h=some (.nx s' h')/\Post s' h':=by
  intro n
  induction n using Nat.strongRecOn with
  |_ n ih=>
   intro s h hI
   rcases step n s h hI with ⟨h1,e1,p⟩|⟨h1,s2,h2,n',e1,e2,hn,hI'⟩
   .exact⟨1,s,h1,by unfold qD;rw[e1],p⟩
   .obtain⟨k,s',h',e3,p⟩:=ih n' hn s2 h2 hI'
    refine⟨k+1,s',h',?_,p⟩
    unfold qD;rw[e1];simp only[Bw,e2];exact e3
 intro n s h hI;obtain⟨k,s',h',e,p⟩:=key n s h hI;exact⟨s',h',SK e,p⟩
def OT {Q:Res Vl->Prop} {t:T3} {b r:D3} (I:Nat->S3->H3->Prop) {n:Nat} {s:S3} {h:H3} (h0:I n s h)
  (step:∀n s h,I n s h->(∃h1,t s h=.ok false h1/\Q ((r s h1).res))\/∃h1 s2 h2 n',t s h=.ok true h1/\b s h1=.nx s2 h2/\n' < n/\I n' s2 h2):Q ((sSeq (jK t b) r s h).res):=by
 obtain⟨s',h',e,p⟩:=KC (Post:=fun s h=>Q ((r s h).res)) I step n s h h0
 exact zH e p
end L3
namespace My
open PySem L2 L3
noncomputable abbrev zt (p:Int×Int):V3:= .tup [.int p.1,.int p.2]
noncomputable def mix1 (c k:Int):Int:=(c+7919*k)*48271%2147483647
def mix2 (c k:Int):Int:=mix1 c k*mix1 c k%2147483629
def yZ (c k:Int):Int:=(mix2 c k*mix2 c k+16807*mix2 c k+11)%2147483587
def OU (c k:Int):0<=mix1 c k/\mix1 c k<2147483647:=⟨Fv _ (by decide),Fw _ (by decide)⟩
def OV (c k:Int):0<=mix2 c k/\mix2 c k<2147483629:=⟨Fv _ (by decide),Fw _ (by decide)⟩
def CC (c k:Int) (h:H3):AN [.int c,.int k] h=.ok (.v (.int (yZ c k))) h:=by
 have c1:CMul 7919 k:=jy ⟨by decide,by decide⟩
 have c2:CMul (c+7919*k) 48271:=TQ ⟨by decide,by decide⟩
 have c3:CMul (mix1 c k) (mix1 c k):=jy ⟨by have:=OU c k;lia,by have:=OU c k;lia⟩
 have c4:CMul (mix2 c k) (mix2 c k):=jy ⟨by have:=OV c k;lia,by have:=OV c k;lia⟩
 have c5:CMul 16807 (mix2 c k):=jy ⟨by decide,by decide⟩
 have m1:(c+7919*k)*48271%2147483647=mix1 c k:=rfl;have m2:mix1 c k*mix1 c k%2147483629=mix2 c k:=rfl;simp![AN,J3,c1,c2,c3,c4,c5,m1,m2,yZ]
def cell (ns:List Int) (k:Nat):Int:=(ns[k]?).getD 0
def W2 (ns:List Int) (k:Nat) (h:H3):AQ [.scr ns,.int k] h=.ok (.v (.int (cell ns k))) h:=by
 by_cases hk:k<ns.length
 .have hl:((k:Int)<(ns.length:Int)):=by lia
  have ha:atI (ns.map V3.int) (k:Int)=some (.int ns[k]):=jk (j:=k) (by rw[Az,zI hk];rfl)
  have hc:cell ns k=ns[k]:=by unfold cell;rw[zI hk];rfl
  simp![AQ,HI,Ae,hl,ha,hc]
 .have hl: ¬((k:Int)<(ns.length:Int)):=by lia
  have hc:cell ns k=0:=by unfold cell;rw[Eg (by lia)];rfl
  simp![AQ,HI,Ae,hl,hc]
structure RowsOk (rows:List (Int×Int)) (rest by_:Int):Prop where
 len:rows.length<=5
 one:∀p∈rows,1<=p.1/\p.1<=9*by_/\0<=p.2/\p.2<=4
 rest:1<=rest/\rest<=16
 by_:1<=by_/\by_<=90000
def W3 (h:H3) (R:Res Vl):Prop:=∃rows rest by_,R=.ok (.v (.tup [.lst (rows.map zt),.int rest,.int by_])) h/\RowsOk rows rest by_
def W4 (c:Int) (h:H3):W3 h (FI [.int c] h):=by
 unfold FI J5 J4
 refine yY rfl ?_
 refine zH (by (simp![CC])<;>rfl) ?_
 refine zH (by (simp![CC])<;>rfl) ?_
 refine zH (by (simp![CC])<;>rfl) ?_
 generalize hby:(if c / 60%8=1 then (1+yZ c 9%90000:Int) else 1)=by_
 have hb:1<=by_/\by_<=90000:=by rw[<-hby];split<;>lia
 have hr: -(2 ^ 62)<=c%6/\c%6<2 ^ 62:=by lia
 refine Jt (j:=c%6) (by simp![]) hr (fun i s=> ∃rows x3 x4,s=[some (.v (.int c)),some (.v (.int by_)),some (.m (.lst (rows.map zt))),x3,x4,none]/\rows.length=i/\∀p∈rows,1<=p.1/\p.1<=9*by_/\0<=p.2/\p.2<=4) ⟨[],_,_,rfl,rfl,by simp⟩ ?_ ?_
 .rintro i s hi ⟨rows,x3,x4,rfl,hl,hp⟩
  have c1:CMul 6 (i:Int):=jy ⟨by decide,by decide⟩
  have c0:(0:Int)<=6*(i:Int):=by lia
  have c2:∀x,CMul by_ x:=fun x=>jy ⟨by lia,by lia⟩
  have c3:rows.length<sizeLine:=by have:=ym;lia
  refine⟨_,by (simp![CC,c1,c0,c2,c3,Ae])<;>rfl,?_⟩
  refine⟨rows++[(_,_)],_,_,by rw[Ax];rfl,by simp[hl],?_⟩
  intro p hp2;rw[As,Ao]at hp2
  rcases hp2 with hp2|rfl
  .exact hp p hp2
  .refine⟨?_,?_,by lia,by lia⟩
   .have:1<=by_*1:=by lia
    exact Int.le_trans this (Int.mul_le_mul_of_nonneg_left (by lia) (by lia))
   .rw[Int.mul_comm 9]
    exact Int.mul_le_mul_of_nonneg_left (by lia) (by lia)
 .rintro s ⟨rows,x3,x4,rfl,hl,hp⟩
  have h16:∀p:Prop,[Decidable p]->1<=(if p then 16 else 1+c / 6%3:Int)/\(if p then 16 else 1+c / 6%3:Int)<=16:=by intro p _;split<;>lia
  refine⟨rows,_,by_,by (simp![])<;>rfl,⟨by lia,hp,h16 _,hb⟩⟩
def base (c:Int):List Nat:=(List.range 7).map fun k:Nat=>ch (yZ c (k:Int)%36)
def Il (c:Int):(base c).length=7:=by simp[base]
def KD (c:Int):∀x∈base c,(qd x || jo x)=true:=by
 intro x hx;obtain⟨k,_,rfl⟩:=Aj.1 hx;exact OS _
def W5 (c:Int) (x1:Option Vl) (r:S3) (h:H3):
  FJ (some (.v (.int c))::x1::some (.v (.str (tx abc9)))::r) h=.ok (.m (.lst ((List.range 7).map fun k:Nat=>.str (tx [ch (yZ c (k:Int)%36)])))) h:=by
 unfold FJ
 refine OL (j:=7) (fun s=> ∃x,s=[x,some (.v (.str (tx abc9))),some (.v (.int c))]) (fun k:Nat=>.str (tx [ch (yZ c (k:Int)%36)])) (by simp![]) (by decide) ⟨none,?_⟩ ?_
 .simp[yd]
 .rintro k s _ ⟨x,rfl⟩
  have hl:abc9.length<=sizeLine:=sz36
  refine⟨_,_,by (simp![])<;>rfl,⟨_,rfl⟩,by (simp![CC,Ij,hl,OR])<;>rfl,rfl⟩
def W6 (a:Nat) (b:List Nat) (m:Int) (hm:0<=m/\m<=100) (hb:b.length<=100) (x0 x2:Option Vl) (r:S3) (h:H3):
  FK (x0::some (.v (.int m))::x2::some (.v (.str (tx b)))::some (.v (.str (tx [a])))::r) h=.ok (.m (.lst ((List.range m.toNat).map fun k=>.str (tx (a::b.take k))))) h:=by
 unfold FK
 refine OL (j:=m) (fun s=> ∃x,s=[x,some (.v (.str (tx [a]))),some (.v (.str (tx b)))]) (fun k=>.str (tx (a::b.take k))) (by simp![]) (by lia) ⟨none,?_⟩ ?_
 .simp[yd]
 .rintro k s _ ⟨x,rfl⟩
  have hl:b.length<=sizeLine:=by have:=ym;lia
  have hl2:∀k,[a].length+(b.take k).length<=sizeLine:=fun k=>by
   have h1:=ym;have h2:(b.take k).length<=b.length:=by rw[Be];lia
   rw[Ci];lia
  refine⟨_,_,by (simp![])<;>rfl,⟨_,rfl⟩,by (simp![eSl,poN,poS,OK,hl])<;>(rw[Ik (hl2 k)])<;>rfl,rfl⟩
def W7 (many:Int) (h:H3) (R:Res Vl):Prop:=∃ls:List (List Nat),R=.ok (.m (.lst (ls.map fun l=>.str (tx l)))) h/\ls.length=many.toNat/\(∀l∈ls,isN l=true)/\ls.Nodup
def OW {a:Nat} {l:List Nat} (ha:qd a=true) (hl:l.length<=7) (h:∀x∈l,(qd x || jo x)=true):isN (a::l)=true:=by
 unfold isN;rw[Bb,B2 (show 1<=l.length+1 by lia),B2 (show l.length+1<=8 by lia),List.headD_cons,ha,Et,ha]
 simp only[Do,Ed];exact Eo.2 h
def nmB (c:Int) (at_:Nat) (k:Nat):List Nat:=ch (yZ c 8%26)::((base c).take at_++ch ((c+7*(k:Int))%36)::(base c).drop (at_+1))
def W8 (c m:Int) (hm:0<=m/\m<=12) (h:H3):W7 m h (FL [.int c,.int m] h):=by
 unfold FL J7 J6
 refine yY rfl ?_
 refine zH (by (simp![])<;>rfl) ?_
 rw[OI];have hl:abc9.length<=sizeLine:=sz36;have e0:pE (eC (V3.str ""))=fun (_:S3) h=>Res.ok (.x (.str (tx []))) h:=by rw[Wl];rfl
 refine zH (s1:=[some (.v (.int c)),some (.v (.int m)),some (.v (.str (tx abc9))),some (.v (.str (tx (base c)))),none,none,none,none,none]) (h1:=h) ?_ ?_
 .have:=Wq (p:=pE (eC (V3.str ""))) (a:=aCons (pE FJ) aNil) (s:=[some (.v (.int c)),some (.v (.int m)),some (.v (.str (tx abc9))),none,none,none,none,none,none]) (h:=h) (ls:=(List.range 7).map fun k:Nat=>[ch (yZ c (k:Int)%36)])
   (by rw[e0]) (by simp![W5,Bg];rfl) (by simp) (by simp)
  have e2:((List.range 7).map fun k:Nat=>[ch (yZ c (k:Int)%36)]).flatten=base c:=by unfold base;rw[<-List.flatMap_def];rfl
  rw[e2]at this;simp![this]
 refine zH (by (simp![CC,Ij,hl,Wv])<;>rfl) ?_
 have hsm:=Wz (yZ c 8)
 by_cases hc:c%3=0/\m<9
 .obtain⟨hc1,hc2⟩:=hc
  refine⟨(List.range m.toNat).map fun k=>ch (yZ c 8%26)::(base c).take k,?_,by simp,?_,nodup_range ?_⟩
  ·(simp![hc1,hc2,W6 (ch (yZ c 8%26)) (base c) m (by lia) (by rw[Il];lia),Bg])<;>rfl
  .intro l hl
   obtain⟨k,_,rfl⟩:=Aj.1 hl
   refine OW hsm (by rw[Be,Il];lia) fun x hx=>KD c x (Ct hx)
  .intro i j hij hj e
   have:=congrArg List.length e;rw[Bb,Bb,Be,Be,Il]at this;lia
 .have e:(sIf (tAnd3 (tE (eOp y0 (pE (eOp zD (pV 0) (kJ 3))) (kJ 0))) (tE (eOp qP (pV 1) (kJ 9)))) (sSeq (sFz 3) (sRet FK)) sSkip) [some (.v (.int c)),some (.v (.int m)),some (.v (.str (tx abc9))),some (.v (.str (tx (base c)))),some (.v (.str (tx [ch (yZ c 8%26)]))),none,none,none,none] h=.nx [some (.v (.int c)),some (.v (.int m)),some (.v (.str (tx abc9))),some (.v (.str (tx (base c)))),some (.v (.str (tx [ch (yZ c 8%26)]))),none,none,none,none] h:=by
   by_cases h1:c%3=0
   .have h2: ¬m<9:=fun z=>hc ⟨h1,z⟩
    simp![h1,h2]
   .simp![h1]
  refine zH e ?_
  refine zH (by (simp![])<;>rfl) ?_
  refine zH (by (simp![])<;>rfl) ?_
  obtain⟨a,ha⟩:=Int.eq_ofNat_of_zero_le (show 0<=c / 3%7 by lia)
  have ha7:a<7:=by lia
  rw[ha];have hb7:=Il c
  refine Jt (j:=m) (by simp![]) (by lia) (fun i s=> ∃x7 x8,s=[some (.v (.int c)),some (.v (.int m)),some (.v (.str (tx abc9))),some (.v (.str (tx (base c)))),some (.v (.str (tx [ch (yZ c 8%26)]))),some (.v (.int a)),some (.m (.lst (((List.range i).map (nmB c a)).map fun l=>.str (tx l)))),x7,x8]) ⟨none,none,rfl⟩ ?_ ?_
  .rintro i s hi ⟨x7,x8,rfl⟩
   have c1:CMul 7 (i:Int):=jy ⟨by decide,by decide⟩
   have h36:=ym;have hbl:(base c).length<=sizeLine:=by lia
   have b1:[ch (yZ c 8%26)].length+((base c).take a).length<=sizeLine:=by rw[Ci,Be];lia
   have b2:∀x:Nat,([ch (yZ c 8%26)]++(base c).take a).length+[x].length<=sizeLine:=fun x=>by rw[Ar,Ci,Ci,Be];lia
   have b3:∀x:Nat,(([ch (yZ c 8%26)]++(base c).take a)++[x]).length+((base c).drop (a+1)).length<=sizeLine:=fun x=>by rw[Ar,Ar,Ci,Ci,Be,Em];lia
   have e1:((a:Int)+1)=((a+1:Nat):Int):=by lia
   have hap:∀x,yo (((List.range i).map (nmB c a)).map fun l=>V3.str (tx l)) [x]=some ((((List.range i).map (nmB c a)).map fun l=>V3.str (tx l))++[x],.non):=fun x=>mAppend_ok (by rw[Ae,Ae,Bq];lia)
   refine⟨_,by (simp![Ij,hl,OR,c1,eSl,poN,poS,OK,Wo,hbl,e1]);(simp only[Ik b1,Ik (b2 _),Ik (b3 _),opt,Vl.fz,Res.bind,Res.bindS,L3.vals3,hap,Aq]);rfl,⟨some (.v (.int i)),some (.v (.str (tx [ch ((c+7*(i:Int))%36)]))),?_⟩⟩
   have e9:nmB c a i=[ch (yZ c 8%26)]++(base c).take a++[ch ((c+7*(i:Int))%36)]++(base c).drop (a+1):=by simp[nmB]
   rw[List.range_succ,Ax,Ax,Ah,Bj,Ah,Bj,e9]
  .rintro s ⟨x7,x8,rfl⟩
   refine⟨(List.range m.toNat).map (nmB c a),by (simp![])<;>rfl,by simp,?_,nodup_range ?_⟩
   .intro l hl
    obtain⟨k,_,rfl⟩:=Aj.1 hl;unfold nmB
    refine OW hsm ?_ ?_
    .rw[Ar,Bb,Be,Em];lia
    .intro x hx
     rw[As,Ag]at hx
     rcases hx with hx|rfl|hx
     .exact KD c x (Ct hx)
     .exact OS _
     .exact KD c x (List.mem_of_mem_drop hx)
   .intro i j hij hj e
    unfold nmB at e;have e2:=(List.append_inj (List.cons.inj e).2 rfl).2;have:=W0 (List.cons.inj e2).1;lia
def Im (ns:List Int) (k:Int) (hk:0<=k) (h:H3):AQ [.scr ns,.int k] h=.ok (.v (.int (cell ns k.toNat))) h:=by
 have:=W2 ns k.toNat h
 rwa [show ((k.toNat:Nat):Int)=k by lia]at this
structure J where
 nm:List Nat
 f:Int
 l:Int
 w:Int
 b:Int
 deriving DecidableEq
abbrev J.enc (j:J):V3:= .tup [.str (tx j.nm),.int j.f,.int j.l,.int j.w,.int j.b]
structure J.Ok (j:J):Prop where
 nm:isN j.nm=true
 f:0<=j.f/\j.f<=1000000000
 l: -1<=j.l/\j.l<=10000000000
 w:1<=j.w/\j.w<=60
 b:1<=j.b/\j.b<=16
structure LoadOk (js:List J):Prop where
 len:js.length<=12
 one:∀j∈js,j.Ok
 nd:(js.map J.nm).Nodup
noncomputable def wd (x:Int):Int:=if x%3=0 then 4 else if x%3=1 then 12 else 60
noncomputable def bd (x:Int):Int:=if x%4=0 then 1 else if x%4=1 then 1 else if x%4=2 then 3 else 16
def W9 (x:Int):atI [V3.int 4,V3.int 12,V3.int 60] (x%3)=some (.int (wd x)):=by
 unfold wd;have h:x%3=0\/x%3=1\/x%3=2:=by lia
 rcases h with h|h|h<;>rw[h]<;>rfl
def WA (x:Int):atI [V3.int 1,V3.int 1,V3.int 3,V3.int 16] (x%4)=some (.int (bd x)):=by
 unfold bd;have h:x%4=0\/x%4=1\/x%4=2\/x%4=3:=by lia
 rcases h with h|h|h|h<;>rw[h]<;>rfl
def wd_b (x:Int):0<wd x/\wd x<=60:=by unfold wd;split;lia;split<;>lia
def bd_b (x:Int):0<bd x/\bd x<=16:=by unfold bd;split;lia;split;lia;split<;>lia
def WB (h:H3) (R:Res Vl):Prop:=∃js:List J,R=.ok (.m (.lst (js.map J.enc))) h/\LoadOk js
def WC (ns:List Int) (by_:Int) (hb:1<=by_/\by_<=90000) (h:H3):WB h (FN [.scr ns,.int by_] h):=by
 unfold FN J9 J8
 refine yY rfl ?_
 generalize hc:cell ns (1:Int).toNat=c
 refine zH (by (simp![Im,hc])<;>rfl) ?_
 refine zH (by (simp![])<;>rfl) ?_
 refine zH (by (simp![])<;>rfl) ?_
 refine zH (by (simp![])<;>rfl) ?_
 have p1:CPow 10 8:=by decide
 have p2:CMul 9 ((10:Int) ^ (8:Int).toNat):=by decide
 have p3:(0:Int)<9*10 ^ (8:Int).toNat:=by decide
 refine zH (by (simp![CC,p1,p2,p3])<;>rfl) ?_
 generalize hm:(if c / 8%16=1 then (12:Int) else c%8)=m
 have hmb:0<=m/\m<=12:=by rw[<-hm];split<;>lia
 generalize hf:(if c / 128%8=1 then yZ c 10%(9*10 ^ (8:Int).toNat) else 0)=far
 have hfb:0<=far/\far<900000000:=by
  have e:(9*10 ^ (8:Int).toNat:Int)=900000000:=by decide
  rw[<-hf,e];split<;>lia
 obtain⟨ls,en,hl,hn,hd⟩:=W8 (cell ns (2:Int).toNat) m hmb h
 refine zH (by (simp![Im,en])<;>rfl) ?_
 refine zH (by (simp![])<;>rfl) ?_
 refine Jt (j:=m) (by simp![]) (by lia) (fun i s=> ∃js x7 x8 x9 x10 x11 x12,s=[some (.v (.scr ns)),some (.v (.int by_)),some (.v (.int c)),some (.v (.int m)),some (.v (.int far)),some (.m (.lst (ls.map fun l=>.str (tx l)))),some (.m (.lst (js.map J.enc))),x7,x8,x9,x10,x11,x12]/\js.length=i/\(∀j∈js,j.Ok)/\js.map J.nm=ls.take i) ⟨[],none,none,none,none,none,none,rfl,rfl,by simp,by simp⟩ ?_ ?_
 .rintro i s hi ⟨js,x7,x8,x9,x10,x11,x12,rfl,hjl,hjo,hjn⟩
  have hil:i<ls.length:=by lia
  have c0:(0:Int)<=4+(i:Int):=by lia
  have c2:∀x,CMul by_ x:=fun x=>jy ⟨by lia,by lia⟩
  have c3:js.length<sizeLine:=by have:=ym;lia
  have c4:∀x,0<wd x:=fun x=>(wd_b x).1
  have c5:∀x,0<bd x:=fun x=>(bd_b x).1
  have c6:atI (ls.map fun l=>V3.str (tx l)) (i:Int)=some (.str (tx ls[i])):=jk (j:=i) (by rw[Az,zI hil];rfl)
  refine⟨_,by (simp![Im,CC,c0,c2,c3,c4,c5,W9,WA,KB,c6,Ae])<;>rfl,?_⟩
  generalize hnn:(if c / 1024%2=0 then yZ (cell ns (4+(i:Int)).toNat) i else cell ns (4+(i:Int)).toNat)=n
  have hx:0<=by_*(n%17)/\by_*(n%17)<=90000*16:=by
   refine⟨Fx (by lia) (by lia),?_⟩
   exact Int.mul_le_mul (by lia) (by lia) (by lia) (by lia)
  have hy:0<=by_*(1+n / 17%11)/\by_*(1+n / 17%11)<=90000*11:=by
   refine⟨Fx (by lia) (by lia),?_⟩
   exact Int.mul_le_mul (by lia) (by lia) (by lia) (by lia)
  have hw:0<=n / 3000%wd (n / 180000)/\n / 3000%wd (n / 180000)<wd (n / 180000):=⟨Fv _ (by have:=c4 (n / 180000);lia),Fw _ (c4 _)⟩
  have hbb:0<=n / 540000%bd (n / 8640000)/\n / 540000%bd (n / 8640000)<bd (n / 8640000):=⟨Fv _ (by have:=c5 (n / 8640000);lia),Fw _ (c5 _)⟩
  have hw2:=(wd_b (n / 180000)).2;have hb2:=(bd_b (n / 8640000)).2
  refine⟨js++[⟨ls[i],far+by_*(n%17),if n / 187%16=1 then far+by_*(n%17)-1 else far+by_*(n%17)+by_*(1+n / 17%11)-1,1+n / 3000%wd (n / 180000),1+n / 540000%bd (n / 8640000)⟩],_,_,_,_,_,_,by rw[Ax];rfl,by simp[hjl],?_,?_⟩
  .intro j hj
   rw[As,Ao]at hj
   rcases hj with hj|rfl
   .exact hjo j hj
   .refine⟨hn _ (Db _),?_,?_,?_,?_⟩
    .dsimp only;lia
    .dsimp only;split<;>lia
    .dsimp only;lia
    .dsimp only;lia
  .rw[Ax,hjn,List.take_add_one,zI hil];rfl
 .rintro s ⟨js,x7,x8,x9,x10,x11,x12,rfl,hjl,hjo,hjn⟩
  refine⟨js,by (simp![])<;>rfl,⟨by lia,hjo,?_⟩⟩
  rw[hjn,<-hl,C7];exact hd
end My
namespace Cal
abbrev P:=Int×Int
noncomputable def at_:List P->Int->Int->Int
 | [],rest,_=>rest
 |p::r,rest,t=>if t<p.1 then p.2 else at_ r rest (t-p.1)
noncomputable def stops:List P->Int->List Int
 | [],_=>[]
 |p::r,st=>(st+p.1)::stops r (st+p.1)
def Pos (rows:List P):Prop:=∀p∈rows,1<=p.1
def Pos.tail {p:P} {r:List P} (h:Pos (p::r)):Pos r:=fun x hx=>h x (Ap _ hx)
def Pos.head {p:P} {r:List P} (h:Pos (p::r)):1<=p.1:=h p Ak
noncomputable def pk (rest:Int):Int->Int->List P->List P
 |a,c,[]=>if c=rest then [] else [(a,c)]
 |a,c,p::r=>if p.2=c then pk rest (a+p.1) c r else (a,c)::pk rest p.1 p.2 r
def kform (rest:Int):List P->List P
 | []=>[]
 |p::r=>pk rest p.1 p.2 r
noncomputable def nstep (acc:List P) (r:P):List P:=
 match acc.getLast? with
 |some l=>if l.2=r.2 then acc.dropLast++[(l.1+r.1,r.2)] else acc++[r]
 |none=>acc++[r]
def WD {acc:List P} {l:P} (h:acc.getLast? =some l) (r:P):nstep acc r=if l.2=r.2 then acc.dropLast++[(l.1+r.1,r.2)] else acc++[r]:=by
 unfold nstep;rw[h]
def nstep_snoc (i:List P) (l r:P):nstep (i++[l]) r=if l.2=r.2 then i++[(l.1+r.1,r.2)] else (i++[l])++[r]:=by
 rw[WD (l:=l) (by simp)]
 simp
noncomputable def drp (rest:Int) (t:List P):List P:=
 match t.getLast? with
 |some l=>if l.2=rest then t.dropLast else t
 |none=>t
def drp_last {rest:Int} {t:List P} {l:P} (h:t.getLast? =some l):drp rest t=if l.2=rest then t.dropLast else t:=by
 unfold drp;rw[h]
def drp_empty {rest:Int} {t:List P} (h:t=[]):drp rest t=t:=by rw[h];rfl
theorem KF (rest:Int):∀(r i:List P) (a c:Int),drp rest (r.foldl nstep (i++[(a,c)]))=i++pk rest a c r
 | [],i,a,c=>by
  rw[List.foldl_nil,drp_last (l:=(a,c)) (by simp)]
  unfold pk
  by_cases h:c=rest
  .rw[Ab h,Ab h];simp
  .rw[Ac h,Ac h]
 |p::r,i,a,c=>by
  rw[Fc,nstep_snoc];unfold pk
  by_cases h:c=p.2
  .rw[Ab h,Ab h.symm]
   have:=KF rest r i (a+p.1) p.2;rw[<-h]at this ⊢;exact this
  .rw[Ac h,Ac (Cf h)]
   have:=KF rest r (i++[(a,c)]) p.1 p.2;rw[this,B5];rfl
def kept_eq (rest:Int) (rows:List P):drp rest (rows.foldl nstep [])=kform rest rows:=by
 cases rows with
 |nil=>rfl
 |cons p r=>exact KF rest r [] p.1 p.2
theorem KG (rest:Int):∀(r:List P) (a c t:Int),Pos r->at_ (pk rest a c r) rest t=at_ ((a,c)::r) rest t
 | [],a,c,t,_=>by
  unfold pk
  by_cases h:c=rest
  .rw[Ab h]
   simp only[at_];rw[h];simp
  .rw[Ac h]
 |p::r,a,c,t,h=>by
  have h1:=h.head;unfold pk
  by_cases e:p.2=c
  .rw[Ab e,KG rest r (a+p.1) c t h.tail]
   simp only[at_]
   by_cases c1:t<a
   .rw[Ab c1,Ab (by lia)]
   .rw[Ac c1]
    by_cases c2:t-a<p.1
    .rw[Ab c2,Ab (by lia),e]
    .rw[Ac c2,Ac (by lia)]
     congr 1;lia
  .rw[Ac e]
   simp only[at_];rw[KG rest r p.1 p.2 (t-a) h.tail];simp only[at_]
def kform_at (rest:Int) (rows:List P) (t:Int) (h:Pos rows):at_ (kform rest rows) rest t=at_ rows rest t:=by
 cases rows with
 |nil=>rfl
 |cons p r=>exact KG rest r p.1 p.2 t h.tail
theorem KH (rest:Int):∀(r:List P) (a c:Int),(pk rest a c r).length<=r.length+1
 | [],a,c=>by unfold pk;split<;>simp
 |p::r,a,c=>by
  unfold pk
  split
  .exact Bs (KH rest r _ _) (by simp)
  .rw[Bb,Bb]
   have:=KH rest r p.1 p.2;lia
def kform_len (rest:Int) (rows:List P):(kform rest rows).length<=rows.length:=by
 cases rows with
 |nil=>exact Af _
 |cons p r=>exact KH rest r p.1 p.2
end Cal
namespace My
open PySem L2 L3
structure RwB (rows:List (Int×Int)) (rest:Int):Prop where
 len:rows.length<=16
 one:∀p∈rows,1<=p.1/\p.1<=1000000/\0<=p.2/\p.2<=16
 rest:1<=rest/\rest<=16
def nb2:(Str.ofString "stretches" =Str.ofString "beyond")=False:=eq_false (by decide+kernel)
abbrev calV (rows:List (Int×Int)) (rest:Int):V3:= .obj "Calendar" [("stretches",.lst (rows.map zt)),("beyond",.int rest)]
def WE (a:Int) (h:H3):FP [.int a] h=.ok (.v (.bl true)) h:=by
 simp![FP,JB]
def DB {a b c:Int} (h1:b<=a) (h2:a<=c) (h:H3):jF [.int a,.int b,.int c] h=.ok (.v (.bl true)) h:=by
 simp![jF,JC,WE,h1,h2]
def WG {a:Int} (h1:0<=a) (h2:a<=16) (h:H3):GI [.int a] h=.ok (.v (.bl true)) h:=by
 simp![GI,Kr,DB h1 h2]
def WH {a:Int} (h1:1<=a) (h2:a<=16) (h:H3):GL [.int a] h=.ok (.v (.bl true)) h:=by
 simp![GL,Ku,DB h1 h2]
def WI {p:Int×Int} (h1:1<=p.1/\p.1<=1000000/\0<=p.2/\p.2<=16) (h:H3):GJ [zt p] h=.ok (.v (.bl true)) h:=by
 simp![GJ,Ks,DB h1.1 h1.2.1,WG h1.2.2.1 h1.2.2.2]
def WJ {rows:List (Int×Int)} {rest:Int} (hr:RwB rows rest) (h:H3):GK [.lst (rows.map zt)] h=.ok (.v (.bl true)) h:=by
 have hc:HY [some (.v (.lst (rows.map zt)))] h=.ok (.m (.lst ((rows.map fun _=>true).map .bl))) h:=by
  unfold HY;rw[Bg]
  refine GQ (x:= .lst (rows.map zt)) (enc:=zt) (fun s=> ∃a,s=[a]) _ (by simp![]) rfl (by have:=hr.len;lia) ⟨none,rfl⟩ ?_
  rintro p s hp ⟨a,rfl⟩;exact⟨_,_,by (simp![])<;>rfl,⟨_,rfl⟩,by (simp![WI (hr.one p hp)])<;>rfl,rfl⟩
 have hl: ¬((16:Int)<(rows.length:Int)):=by have:=hr.len;lia
 have ha:(rows.map fun _=>true).all id=true:=by simp
 simp![GK,Kt,hc,Ae,hl,K9,ha]
def WK (rows:List (Int×Int)) (hl:rows.length<=1000) (h:H3):GG [.lst (rows.map zt)] h=.ok (.m (.lst ((rows.foldl Cal.nstep []).map zt))) h:=by
 show Is h _ _;unfold GG Kq Kp
 refine yY rfl ?_
 refine zH (by (simp![])<;>rfl) ?_
 refine DO (x:= .lst (rows.map zt)) (l:=rows) (enc:=zt) (by simp![]) rfl (fun i s=> ∃acc x2 x3,s=[some (.v (.lst (rows.map zt))),some (.m (.lst (acc.map zt))),x2,x3]/\acc.length<=i/\(rows.drop i).foldl Cal.nstep acc=rows.foldl Cal.nstep []) ⟨[],none,none,rfl,by simp,by simp⟩ ?_ ?_
 .rintro i p s hi ⟨acc,x2,x3,rfl,ha,hI⟩
  rw[CB hi,Fc]at hI;have hil:i<rows.length:=(An.1 hi).1;have c3:acc.length<sizeLine:=by have:=ym;lia
  rcases List.eq_nil_or_concat acc with rfl|⟨ini,q,rfl⟩
  .refine⟨_,by (simp![ON,Fy])<;>rfl,⟨[(p.1,p.2)],_,_,rfl,by simp,?_⟩⟩
   rw[<-hI];rfl
  .rw[Gv,Cal.nstep_snoc]at hI
   rw[Gv]at c3 ha ⊢;rw[Ax,Ah,Bj];rw[Ar,Ci]at ha;have e1:∀(h:H3) (x2 x3:Option Vl),zq [some (.v (.lst (rows.map zt))),some (.m (.lst (ini.map zt++[zt q]))),x2,x3] h (.s 1) (.x (.int (-1)))=some (.v (zt q)):=fun h x2 x3=>OM rfl
   have c4:ini.length+1<sizeLine:=by simpa using c3
   have ne:(ini.map zt++[zt q]).isEmpty=false:=by simp
   have e2:qp (ini.length+1) (-1)=some ini.length:=by
    unfold qp;rw[Ac (by decide),Ab (by lia)]
    congr 1;lia
   by_cases hq:q.2=p.2
   .rw[Ab hq]at hI
    refine⟨_,by (simp![ne,e1,hq,HC,Ar,Ae,e2])<;>rfl,⟨ini++[(q.1+p.1,p.2)],some (.v (.int p.1)),some (.v (.int p.2)),?_,by simpa using by lia,hI⟩⟩
    rw[Ax,Ah,Bj,OO (by rw[Ae])]
   .rw[Ac hq]at hI
    refine⟨_,by (simp![ne,e1,hq,c4,Ar,Ae])<;>rfl,⟨(ini++[q])++[p],some (.v (.int p.1)),some (.v (.int p.2)),?_,by simpa using by lia,hI⟩⟩
    rw[Ax,Ax,Ah,Bj,Ah,Bj]
 .rintro s ⟨acc,x2,x3,rfl,ha,hI⟩
  rw[C5,List.foldl_nil]at hI;subst hI;unfold Is
  (simp![])<;>rfl
def WL (rows:List (Int×Int)) (rest:Int) (hl:rows.length<=1000) (h:H3):CV [.lst (rows.map zt),.int rest] h=.ok (.m (.lst ((Cal.kform rest rows).map zt))) h:=by
 rw[<-Cal.kept_eq];generalize hm:rows.foldl Cal.nstep []=t;have e0:=WK rows hl h;rw[hm]at e0
 rcases List.eq_nil_or_concat t with rfl|⟨ini,q,rfl⟩
 .rw[Cal.drp_empty rfl]
  (simp![CV,GH,e0,ON,Fy])
 .rw[Gv]at e0 ⊢
  rw[Cal.drp_last (l:=q) (by simp),List.dropLast_concat]
  have ne:(ini.map zt++[zt q]).isEmpty=false:=by simp
  have e1:∀(h:H3) (x0 x1:Option Vl),zq [x0,x1,some (.m (.lst (ini.map zt++[zt q])))] h (.s 2) (.x (.int (-1)))=some (.v (zt q)):=fun h x0 x1=>OM rfl
  rw[Ax,Ah,Bj]at e0;have e3:mPop (ini.map zt++[zt q]) []=some (ini.map zt,zt q):=by
   unfold mPop;simp
  by_cases hq:q.2=rest
  .rw[Ab hq]
   (simp![CV,GH,e0,ne,e1,hq,e3])
  .rw[Ac hq]
   (simp![CV,GH,e0,ne,e1,hq,Ax])
def WM {rows:List (Int×Int)} {rest:Int} (hr:RwB rows rest) (h:H3):GM [.loc h.length,.lst (rows.map zt),.int rest] (h++[.ins "Calendar" []])=.ok (.v .non) (h++[.ins "Calendar" [("stretches",.lst ((Cal.kform rest rows).map zt)),("beyond",.int rest)]]):=by
 have hg:∀c,(h++[C3.ins "Calendar" c])[h.length]? =some (.ins "Calendar" c):=fun c=>by simp
 have hs:∀c d,(h++[C3.ins "Calendar" c]).set h.length d=h++[d]:=fun c d=>OO rfl
 simp![GM,Kv,WJ hr,WH hr.rest.1 hr.rest.2,qh,WL rows rest (by have:=hr.len;lia),hg,hs,AI,Ao,nb2]
def OX {p:Int×Int} {r:List (Int×Int)} {rest t:Int}:Cal.at_ (p::r) rest t=if t<p.1 then p.2 else Cal.at_ r rest (t-p.1):=rfl
def OY {rest t:Int}:Cal.at_ [] rest t=rest:=rfl
def WN (rows:List (Int×Int)) (rest t:Int) (h:H3):FW [calV rows rest,.int t] h=.ok (.v (.int (Cal.at_ rows rest t))) h:=by
 show Is h _ _;unfold FW JN JM
 refine yY rfl ?_
 refine zH (by (simp![])<;>rfl) ?_
 refine it_E (l:=rows) (enc:=zt) (its:=[.lst (rows.map zt)]) (ok:=fun _=>True) (by (simp![iL,yA])<;>rfl) (fun i s h'=>h'=h/\∃e y3 y4,s=[some (.v (calV rows rest)),some (.v (.int t)),some (.v (.int e)),y3,y4]/\Cal.at_ (rows.drop i) rest (t-e)=Cal.at_ rows rest t) (fun _ _ _ _=>trivial) ⟨rfl,0,none,none,rfl,by rw[Fu,Int.sub_zero]⟩ ?_ ?_
 .rintro i p s h' hi ⟨rfl,e,y3,y4,rfl,hI⟩
  rw[CB hi,OX]at hI
  by_cases hq:t<e+p.1
  .rw[Ab (by lia)]at hI
   refine .inr (.inl ⟨.v (.int p.2),_,by (simp![hq])<;>rfl,?_⟩)
   unfold Is;rw[hI]
  .rw[Ac (by lia)]at hI
   refine .inl ⟨_,_,.inl (by (simp![hq])<;>rfl),rfl,e+p.1,_,_,rfl,?_⟩
   rw[<-hI];congr 1;lia
 .rintro s h' ⟨rfl,e,y3,y4,rfl,hI⟩
  rw[C5,OY]at hI;unfold Is;rw[<-hI]
  (simp![])<;>rfl
end My
namespace Bd
open L2 L3
theorem len_sub:∀{l m:List Int},l.Nodup->(∀x∈l,x∈m)->l.length<=m.length
 | [],_,_,_=>Bx _
 |x::r,m,nd,h=>by
  rw[Bn]at nd;have hx:x∈m:=h x Ak;have:=len_sub (l:=r) (m:=m.erase x) nd.2 fun y hy=>(List.mem_erase_of_ne (fun (z:y=x)=>nd.1 (z ▸ hy))).mpr (h y (Ap _ hy))
  rw[List.length_erase_of_mem hx]at this;have:=List.length_pos_of_mem hx;rw[Bb];lia
def dedup_any {σ:List Int} {k:Int}:σ.any (· ==k)=true↔k∈σ:=by simp[Dh]
theorem Io:∀(l acc:List Int),acc.Nodup->(l.foldl PyProof.Rows.step_dedup acc).Nodup/\∀x,x∈l.foldl PyProof.Rows.step_dedup acc↔x∈acc\/x∈l
 | [],acc,h=>⟨h,fun x=>by simp⟩
 |k::r,acc,h=>by
  rw[Fc]
  by_cases hk:k∈acc
  .have e:PyProof.Rows.step_dedup acc k=acc:=by unfold PyProof.Rows.step_dedup;rw[Ab (dedup_any.mpr hk)]
   rw[e];obtain⟨a,b⟩:=Io r acc h
   refine⟨a,fun x=>(b x).trans ?_⟩
   rw[Ag];exact⟨fun z=>z.imp id .inr,fun z=>z.elim .inl fun z=>z.elim (fun e=>.inl (e ▸ hk)) .inr⟩
  .have e:PyProof.Rows.step_dedup acc k=acc++[k]:=by unfold PyProof.Rows.step_dedup;rw[Ac fun z=>hk (dedup_any.mp z)]
   rw[e];obtain⟨a,b⟩:=Io r (acc++[k]) (Cn.mpr ⟨h,by simp,fun x hx y hy z=>by rw[Ao]at hy;subst hy;subst z;exact hk hx⟩)
   refine⟨a,fun x=>(b x).trans ?_⟩
   rw[As,Ao,Ag,or_assoc]
def OZ (l:List Int):(zX l).Nodup:=(Io l [] Dl).1
def WO (l:List Int) (x:Int):x∈zX l↔x∈l:=by
 have:=(Io l [] Dl).2 x;simpa[zX] using this
abbrev Up (l:List Int):Prop:=l.Pairwise (· < ·)
def srt (l:List Int):List Int:=jd (zX l)
def srt_up (l:List Int):Up (srt l):=by
 have h:=(jM (zX l)).2;have n:(jd (zX l)).Nodup:=(jM (zX l)).1.nodup_iff.mpr (OZ l)
 refine List.Pairwise.imp₂ (fun a b h1 h2=>?_) h n
 lia
def srt_len {l m:List Int} (h:∀x∈l,x∈m):(zX l).length<=m.length:=len_sub (OZ l) fun x hx=>h x ((WO l x).mp hx)
noncomputable def prs:List Int->List (Int×Int)
 |a::b::r=>(a,b)::prs (b::r)
 |_=>[]
theorem prs_zip:∀l:List Int,l.zip (l.drop 1)=prs l
 | []=>rfl
 | [a]=>rfl
 |a::b::r=>by
  show (a,b)::(b::r).zip r=(a,b)::prs (b::r);rw[<-prs_zip (b::r)];rfl
theorem prs_up:∀{l:List Int},Up l->∀p∈prs l,p.1<p.2/\p.1∈l/\p.2∈l/\∀x∈l,x<=p.1\/p.2<=x
 | [],_,p,hp=>by cases hp
 | [a],_,p,hp=>by cases hp
 |a::b::r,h,p,hp=>by
  obtain⟨h1,h2⟩:=Ex.mp h;obtain⟨h3,h4⟩:=Ex.mp h2
  rcases Ag.mp hp with e|m
  .subst e
   refine⟨h1 b Ak,Ak,Ap _ Ak,fun x hx=>?_⟩
   rcases Ag.mp hx with e|m
   .exact .inl (by lia)
   .rcases Ag.mp m with e|m
    .exact .inr (by lia)
    .have:=h3 x m;exact .inr (by lia)
  .obtain⟨a1,a2,a3,a4⟩:=prs_up h2 p m
   refine⟨a1,Ap _ a2,Ap _ a3,fun x hx=>?_⟩
   rcases Ag.mp hx with e|m
   .have:=h1 p.1 a2;exact .inl (by lia)
   .exact a4 x m
end Bd
namespace L3
open PySem PySem.Spec PyProof.Rows L2
def DC {α:Type} {n:Nat} {fr:List Nat} {it:I3} {g:G3} {c:T3} {e:E3} {s:S3} {h:H3} {its:List V3} {ok:H3->Prop} {enc:α->V3} {l:List α} (I:S3->Prop) (q:α->Bool) (f:α->V3) (ei:it s h=.ok ⟨its,l.map enc,ok⟩ h) (hok:ok h) (hl:l.length<=1000000)
  (h0:I (yd n fr s)) (step:∀a s,a∈l->I s->∃s1,g (enc a) s=some s1/\I s1/\c s1 h=.ok (q a) h/\(q a=true->∃r,e s1 h=.ok r h/\r.fz=some (f a))):yu n fr it g c e s h=.ok (.m (.lst ((l.filter q).map f))) h:=by
 have:=TK (ok:=ok) (g:=g) (c:=c) (e:=e) (h:=h) I enc q f hok (l:=l) (by have:=ym;lia) step h0
 unfold yu;simp only[ei,Res.bind,this]
def WQ {α:Type} {n:Nat} {fr:List Nat} {it:I3} {g:G3} {e:E3} {s:S3} {h:H3} {its:List V3} {ok:H3->Prop} {enc:α->V3} {l:List α} (I:S3->Prop) (c:α->C3) (ei:it s h=.ok ⟨its,l.map enc,ok⟩ h) (hok:∀h',ok (h++h')) (hl:l.length<=1000000)
  (h0:I (yd n fr s)) (step:∀a s h',a∈l->I s->∃s1,g (enc a) s=some s1/\I s1/\e s1 (h++h')=.ok (.v (.loc (h++h').length)) ((h++h')++[c a])):
  yu n fr it g tTru e s h=.ok (.m (.lst ((List.range l.length).map fun k=>.loc (h.length+k)))) (h++l.map c):=by
 have gen:∀(m:List α) (k:Nat) (h':H3) (s:S3),k+m.length<=1000000->(∀a∈m,a∈l)->h'.length=k->I s->
   yV ok g tTru e (m.map enc) ((List.range k).map fun k=>.loc (h.length+k)) s (h++h')=.ok ((List.range (k+m.length)).map fun k=>.loc (h.length+k)) ((h++h')++m.map c):=by
  intro m
  induction m with
  |nil=>intro k h' s _ _ _ _;unfold yV;rw[Bj];simp only[Ab (hok h')];simp
  |cons a r ih=>
   intro k h' s hz hm hk hI;obtain⟨s1,e1,i1,e2⟩:=step a s h' (hm a Ak) hI;rw[Bb]at hz ⊢;have hz2:=ym;rw[Ah,Ah];unfold yV;rw[Ab (hok h')];simp only[e1,tTru,e2,Vl.fz];rw[Ab (by rw[Ae,Bq];lia),B5]
   have ea:((List.range k).map fun k=>V3.loc (h.length+k))++[V3.loc (h++h').length]=(List.range (k+1)).map fun k=>V3.loc (h.length+k):=by
    rw[List.range_succ,Ax,Ah,Bj,Ar,hk]
   rw[ea,ih (k+1) (h'++[c a]) s1 (by lia) (fun x hx=>hm x (Ap _ hx)) (by rw[Ar,hk];rfl) i1]
   rw[show k+1+r.length=k+(r.length+1) by lia]
   simp
 have:=gen l 0 [] (yd n fr s) (by lia) (fun a h=>h) rfl h0
 rw[B1,Nat.zero_add]at this;unfold yu;have this:yV ok g tTru e (l.map enc) [] (yd n fr s) h=_:=this;simp only[ei,Res.bind,this]
end L3
namespace My
open PySem L2 L3
def WR {l:List Nat} (h:isN l=true):∃a r,l=a::r/\l.length<=8/\qd a=true/\l.all (fun c=>qd c || jo c)=true:=by
 unfold isN at h;simp only[Bi,Cr]at h;obtain⟨⟨h1,h2⟩,h3,h4⟩:=h
 match l,h1,h2,h3,h4 with
 |a::r,h1,h2,h3,h4=>exact⟨a,r,rfl,h2,h3,h4⟩
def WS {l:List Nat} (hn:isN l=true) (h:H3):FO [.str (tx l)] h=.ok (.v (.bl true)) h:=by
 obtain⟨a,r,rfl,h8,hs,ha⟩:=WR hn;have hc:HK [some (.v (.str (tx (a::r))))] h=.ok (.m (.lst (((a::r).map fun c=>qd c || jo c).map .bl))) h:=by
  unfold HK;rw[Bg]
  refine Wp (fun s=> ∃x,s=[x]) _ (by simp![]) (by lia) ⟨none,rfl⟩ ?_
  rintro c s _ ⟨x,rfl⟩;exact⟨_,_,by (simp![])<;>rfl,⟨_,rfl⟩,by (simp![OI,OJ,Wn])<;>rfl,rfl⟩
 have hl:(a::r).length<=sizeLine:=by have:=ym;lia
 have hl2:r.length+1<=sizeLine:=hl;have l1:(1:Int)<=((r.length+1:Nat):Int):=by lia
 have l8:((r.length+1:Nat):Int)<=8:=by rw[Bb]at h8;lia
 have hall:(((a::r).map fun c=>qd c || jo c)).all id=true:=by rw[List.all_map];exact ha
 have hb:bAll (fun bs=>bs.all id) [some (.v (.str (tx (a::r))))] h [.x (.lst (((a::r).map fun c=>qd c || jo c).map .bl))]=some (.v (.bl true)):=by rw[K9,hall]
 rw[Ah,Ah,hs,Ed]at hb hc;simp![FO,JA,qW,hl2,l1,l8,Ij,Wk,OJ,Wm,hs,hc,hb]
def WT {j:J} (hj:j.Ok) (h:H3):FQ [.int j.f,.int j.l,.int j.w,.int j.b] h=.ok (.v (.bl true)) h:=by
 simp![FQ,JD,DB hj.f.1 hj.f.2,DB hj.l.1 hj.l.2,DB hj.w.1 hj.w.2,DB hj.b.1 hj.b.2]
def WU {s:S3} {h:H3} {i:Nat} {ls:List (List Nat)} {l:List Nat} (e:s[i]? =some (some (.m (.lst (ls.map fun l=>.str (tx l)))))) (hl:l∉ls):qA false s h (.x (.str (tx l))) (.s i)=some (.v (.bl false)):=by
 have e2:zu (fun b=>zJ h 8 b (.str (tx l))) (ls.map fun l=>V3.str (tx l))=some (ls.map fun m=>decide (tx m=tx l)):=CM (f:=fun b=>zJ h 8 b (.str (tx l))) (g:=fun l=>V3.str (tx l)) (k:=fun m=>decide (tx m=tx l)) (fun m=>TR) ls
 have e3:(ls.map fun m=>decide (tx m=tx l)).any id=false:=by
  rw[List.any_map,E9];intro m hm;simp only[Function.comp,id,Cr];intro z;exact hl (Wg z ▸ hm)
 unfold qA inO;simp only[rdl,e,e2,Aq,e3]
 first|rfl|simp
def WV {js:List J} (hj:LoadOk js) {x:V3} {h:H3} (hx:IsL h x (js.map J.enc)):FR [x] h=.ok (.v (.bl true)) h:=by
 show Is h _ _;obtain⟨ok,hw⟩:=hx.walk;unfold FR JF JE
 refine yY rfl ?_
 have hl: ¬((12:Int)<(js.length:Int)):=by have:=hj.len;lia
 refine zH (s1:=[some (.v x),none,none,none,none,none,none]) (h1:=h) ?_ ?_
 .rcases hx with rfl|⟨n,rfl,en⟩
  .simp![Ae,hl]
  .simp![en,Ae,hl]
 refine zH (by (simp![])<;>rfl) ?_
 refine DO (x:=x) (l:=js) (enc:=J.enc) (by simp![]) hw (fun i s=> ∃x2 x3 x4 x5 x6,s=[some (.v x),some (.m (.lst (((js.take i).map J.nm).map fun l=>.str (tx l)))),x2,x3,x4,x5,x6]) ⟨none,none,none,none,none,rfl⟩ ?_ ?_
 .rintro i j s hi ⟨x2,x3,x4,x5,x6,rfl⟩
  obtain⟨hil,hji⟩:=An.1 hi;have hjm:=Al hi;have ho:=hj.one j hjm;have hnot:j.nm∉(js.take i).map J.nm:=by
   have h0:js.map J.nm=(js.take i).map J.nm++j.nm::(js.drop (i+1)).map J.nm:=by
    rw[<-Ah,<-Ax,<-CB hi,Fz]
   have h1:=hj.nd;rw[h0,Cn]at h1;intro z;exact h1.2.2 _ z _ Ak rfl
  have hin:∀x2 x3 x4 x5 x6,qA false [some (.v x),some (.m (.lst (((js.take i).map J.nm).map fun l=>V3.str (tx l)))),x2,x3,x4,x5,x6] h (.x (.str (tx j.nm))) (.s 1)=some (.v (.bl false)):=fun x2 x3 x4 x5 x6=>WU rfl hnot
  have hap:∀y,yo (((js.take i).map J.nm).map fun l=>V3.str (tx l)) [y]=some ((((js.take i).map J.nm).map fun l=>V3.str (tx l))++[y],.non):=fun y=>mAppend_ok (by rw[Ae,Ae,Be];have:=ym;have:=hj.len;lia)
  refine⟨_,by (simp![WS ho.nm,hin,WT ho,hap])<;>rfl,⟨some (.v (.str (tx j.nm))),some (.v (.int j.f)),some (.v (.int j.l)),some (.v (.int j.w)),some (.v (.int j.b)),?_⟩⟩
  rw[List.take_add_one,hi,Option.toList,Ax,Ax,Ah,Bj,Ah,Bj]
 .rintro s ⟨x2,x3,x4,x5,x6,rfl⟩
  unfold Is;simp![]
def Pa (j:J) (h:H3):FS [j.enc] h=.ok (.v (.int (max 0 (j.l-j.f+1)))) h:=by
 simp![FS,JG]
def chgs (rows:List (Int×Int)) (f l:Int):List Int:=(Cal.stops rows 0).filter fun s=>decide (f<s) && decide (s<=l)
def WW (rows:List (Int×Int)) (hl:rows.length<=1000) (rest f l:Int) (h:H3):FT [calV rows rest,.int f,.int l] h=.ok (.m (.lst ((chgs rows f l).map .int))) h:=by
 show Is h _ _;unfold FT JI JH
 refine yY rfl ?_
 refine zH (by (simp![])<;>rfl) ?_
 refine zH (by (simp![])<;>rfl) ?_
 refine DO (x:= .lst (rows.map zt)) (l:=rows) (enc:=zt) (by (simp![zf,yw,Ao,List.lookup])<;>rfl) rfl (fun i s=> ∃acc st y5 y6,s=[some (.v (calV rows rest)),some (.v (.int f)),some (.v (.int l)),some (.m (.lst (acc.map .int))),some (.v (.int st)),y5,y6]/\acc.length<=i/\acc++((Cal.stops (rows.drop i) st).filter fun s=>decide (f<s) && decide (s<=l))=chgs rows f l) ⟨[],0,none,none,rfl,by simp,rfl⟩ ?_ ?_
 .rintro i p s hi ⟨acc,st,y5,y6,rfl,ha,hI⟩
  rw[CB hi,show Cal.stops (p::rows.drop (i+1)) st=(st+p.1)::Cal.stops (rows.drop (i+1)) (st+p.1) from rfl]at hI
  have hil:i<rows.length:=(An.1 hi).1;have hap:∀y,yo (acc.map V3.int) [y]=some (acc.map V3.int++[y],.non):=fun y=>mAppend_ok (by rw[Ae];have:=ym;lia)
  by_cases h1:f<st+p.1
  .by_cases h2:st+p.1<=l
   .rw[List.filter_cons_of_pos (by simp[h1,h2])]at hI
    refine⟨_,by (simp![h1,h2,hap])<;>rfl,⟨acc++[st+p.1],st+p.1,_,_,by rw[Ax];rfl,by simpa using ha,?_⟩⟩
    rw[B5];exact hI
   .rw[Gw (by simp[h1,h2])]at hI
    exact⟨_,by (simp![h1,h2])<;>rfl,⟨acc,st+p.1,_,_,rfl,by lia,hI⟩⟩
  .rw[Gw (by simp[h1])]at hI
   exact⟨_,by (simp![h1])<;>rfl,⟨acc,st+p.1,_,_,rfl,by lia,hI⟩⟩
 .rintro s ⟨acc,st,y5,y6,rfl,ha,hI⟩
  rw[C5,show Cal.stops [] st=[] from rfl,List.filter_nil,B1]at hI
  subst hI;unfold Is;simp![]
def bdJ (rows:List (Int×Int)) (j:J):List Int:=if j.f<=j.l then [j.f,j.l+1]++chgs rows j.f j.l else []
def yO (rows:List (Int×Int)) (js:List J):List Int:=js.flatMap (bdJ rows)
theorem Ip:∀(rows:List (Int×Int)) (st:Int),(Cal.stops rows st).length=rows.length
 | [],_=>rfl
 |_::r,st=>by show (Cal.stops r _).length+1=r.length+1;rw[Ip r]
def WX (rows:List (Int×Int)) (j:J):(bdJ rows j).length<=rows.length+2:=by
 unfold bdJ chgs
 split
 .have:=Cw (fun s=>decide (j.f<s) && decide (s<=j.l)) (Cal.stops rows 0)
  rw[Ip]at this;simp;lia
 .simp
theorem KJ (rows:List (Int×Int)):∀js:List J,(yO rows js).length<=js.length*(rows.length+2)
 | []=>Bx _
 |j::r=>by
  show ((bdJ rows j)++yO rows r).length<=_;have h1:=WX rows j;have h2:=KJ rows r;rw[Ar,Bb,Nat.succ_mul];lia
def bdL_mem {rows:List (Int×Int)} {js:List J} {x:Int}:x∈yO rows js↔∃j∈js,j.f<=j.l/\(x=j.f\/x=j.l+1\/(x∈Cal.stops rows 0/\j.f<x/\x<=j.l)):=by
 unfold yO;rw[List.mem_flatMap]
 constructor
 .rintro⟨j,hj,hx⟩
  unfold bdJ at hx
  by_cases e:j.f<=j.l
  .rw[Ab e]at hx
   simp[chgs]at hx;exact⟨j,hj,e,hx⟩
  .rw[Ac e]at hx;cases hx
 .rintro⟨j,hj,e,hx⟩
  refine⟨j,hj,?_⟩
  unfold bdJ;rw[Ab e];simp[chgs];exact hx
def KL {rows:List (Int×Int)} {js:List J} (h1:js.length<=12) (h2:rows.length<=16):(zX (yO rows js)).length<64:=by
 have:=Bd.srt_len (l:=yO rows js) (m:=js.map (·.f)++js.map (fun j=>j.l+1)++Cal.stops rows 0) fun x hx=>by
  obtain⟨j,hj,_,e⟩:=bdL_mem.mp hx;rw[As,As,Aj,Aj]
  rcases e with e|e|⟨e,_⟩
  .exact .inl (.inl ⟨j,hj,e.symm⟩)
  .exact .inl (.inr ⟨j,hj,e.symm⟩)
  .exact .inr e
 rw[Ar,Ar,Ae,Ae,Ip]at this;lia
def KM {xs ys:List V3} (h:xs.length+ys.length<=sizeLine):jB xs [.lst ys]=some (xs++ys,.non):=by
 unfold jB;simp only[Ab h]
def WY {s:S3} {h:H3} {f:Rf} {ns:List Int} (hf:rdl s h f=some (ns.map .int)) (h1:ns.length<4000) (h2:(zX ns).length<64):DQ s h [f]=some (.m (.lst ((Bd.srt ns).map .int))):=by
 unfold DQ;simp only[hf,TL,Ab (zd h1 h2)];rfl
def WZ {rows:List (Int×Int)} {rest:Int}:List.lookup ("changes":Str) [(("stretches":Str),V3.lst (rows.map zt)),(("beyond":Str),V3.int rest)]=none:=by
 have h1:(Str.ofString "changes" ==Str.ofString "stretches")=false:=by decide+kernel
 have h2:(Str.ofString "changes" ==Str.ofString "beyond")=false:=by decide+kernel
 simp only[List.lookup,h1,h2]
def noAt {rows:List (Int×Int)} {rest:Int}:List.lookup ("at":Str) [(("stretches":Str),V3.lst (rows.map zt)),(("beyond":Str),V3.int rest)]=none:=by
 have h1:(Str.ofString "at" ==Str.ofString "stretches")=false:=by decide+kernel
 have h2:(Str.ofString "at" ==Str.ofString "beyond")=false:=by decide+kernel
 simp only[List.lookup,h1,h2]
def Xa {js:List J} (hj:LoadOk js) {rows:List (Int×Int)} (hl:rows.length<=16) (rest:Int) (h:H3):FU [.lst (js.map J.enc),calV rows rest] h=.ok (.m (.lst ((Bd.srt (yO rows js)).map .int))) h:=by
 show Is h _ _;unfold FU JK JJ
 refine yY rfl ?_
 refine zH (by (simp![])<;>rfl) ?_
 refine DO (x:= .lst (js.map J.enc)) (l:=js) (enc:=J.enc) (by simp![]) rfl (fun i s=> ∃y3,s=[some (.v (.lst (js.map J.enc))),some (.v (calV rows rest)),some (.m (.lst ((yO rows (js.take i)).map .int))),y3]) ⟨none,rfl⟩ ?_ ?_
 .rintro i j s hi ⟨y3,rfl⟩
  have e1:yO rows (js.take (i+1))=yO rows (js.take i)++bdJ rows j:=by
   unfold yO;rw[jJ hi,List.flatMap_append];simp
  rw[e1];have hb:=KJ rows (js.take i);have hjl:(js.take i).length<=12:=by rw[Be];have:=hj.len;lia
  have hb2:(yO rows (js.take i)).length<=216:=by
   have:(js.take i).length*(rows.length+2)<=12*18:=Nat.mul_le_mul hjl (by lia)
   lia
  have hz:=ym;have hc:(chgs rows j.f j.l).length<=16:=by
   unfold chgs;have:=Cw (fun s=>decide (j.f<s) && decide (s<=j.l)) (Cal.stops rows 0)
   rw[Ip]at this;lia
  generalize yO rows (js.take i)=acc at hb2 ⊢
  by_cases hw:j.f<=j.l
  .have h0:(0:Int)<max 0 (j.l-j.f+1):=by lia
   have ea:jB (acc.map V3.int) [.lst [.int j.f,.int (j.l+1)]]=some (acc.map V3.int++[.int j.f,.int (j.l+1)],.non):=KM (by rw[Ae];show acc.length+2<=_;lia)
   have eb:jB (acc.map V3.int++[.int j.f,.int (j.l+1)]) [.lst ((chgs rows j.f j.l).map .int)]=some ((acc.map V3.int++[.int j.f,.int (j.l+1)])++(chgs rows j.f j.l).map .int,.non):=KM (by rw[Ar,Ae,Ae];show acc.length+2+_<=_;lia)
   refine⟨_,by (simp![Pa,h0,ea,zS,yw,WZ,WW rows (by lia),eb])<;>rfl,⟨some (.v j.enc),?_⟩⟩
   unfold bdJ;rw[Ab hw];simp
  .have h0: ¬(0:Int)<max 0 (j.l-j.f+1):=by lia
   refine⟨_,by (simp![Pa,h0])<;>rfl,⟨some (.v j.enc),?_⟩⟩
   unfold bdJ;rw[Ac hw,B1]
 .rintro s ⟨y3,rfl⟩
  rw[C7];have hb:=KJ rows js;have hb2:(yO rows js).length<=216:=by
   have:js.length*(rows.length+2)<=12*18:=Nat.mul_le_mul hj.len (by lia)
   lia
  have e:=fun s h=>WY (s:=s) (h:=h) (f:= .x (.lst ((yO rows js).map .int))) (ns:=yO rows js) rfl (by lia) (KL hj.len hl)
  unfold Is;simp![e]
structure Cl where
 f:Int
 l:Int
 m:Int
 deriving Inhabited
noncomputable abbrev Cl.enc (c:Cl):V3:= .tup [.int c.f,.int c.l,.int c.m]
def qV (js:List J) (t:Int):Bool:=js.any fun j=>decide (j.f<=t) && decide (t<=j.l)
def BJ (js:List J) (rows:List (Int×Int)) (rest:Int):List Cl:=((Bd.prs (Bd.srt (yO rows js))).filter fun p=>qV js p.1).map fun p=>⟨p.1,p.2-1,Cal.at_ rows rest p.1⟩
def Pb {js:List J} (hj:LoadOk js) (t:Int) (h:H3):FV [.lst (js.map J.enc),.int t] h=.ok (.v (.bl (qV js t))) h:=by
 have hc:HL [some (.v (.lst (js.map J.enc))),some (.v (.int t))] h=.ok (.m (.lst ((js.map fun j=>decide (j.f<=t) && decide (t<=j.l)).map .bl))) h:=by
  unfold HL;rw[Bg]
  refine GQ (x:= .lst (js.map J.enc)) (enc:=J.enc) (fun s=> ∃a b c d e,s=[a,b,c,d,e,some (.v (.int t))]) _ (by simp![]) rfl (by have:=hj.len;lia) ⟨none,none,none,none,none,rfl⟩ ?_
  rintro j s hjm ⟨a,b,c,d,e,rfl⟩
  refine⟨_,.v (.bl (decide (j.f<=t) && decide (t<=j.l))),by (simp![])<;>rfl,⟨_,_,_,_,_,rfl⟩,?_,rfl⟩
  by_cases h1:j.f<=t
  ·(simp![h1,B2 h1,Do])<;>rfl
  ·(simp![h1,Bh h1,C9])<;>rfl
 have e:(js.map fun j=>decide (j.f<=t) && decide (t<=j.l)).any id=qV js t:=by rw[List.any_map];rfl
 simp![FV,JL,hc,K9,e]
def Xb {js:List J} (hj:LoadOk js) {rows:List (Int×Int)} (hl:rows.length<=16) (rest:Int) (h:H3):FX [.lst (js.map J.enc),calV rows rest] h=.ok (.m (.lst ((BJ js rows rest).map Cl.enc))) h:=by
 show Is h _ _;unfold FX JP JO
 refine yY rfl ?_
 refine zH (by (simp![WV hj (.inl rfl)])<;>rfl) ?_
 refine zH (by (simp![])<;>rfl) ?_
 refine zH (by (simp![Xa hj hl])<;>rfl) ?_
 refine zH (by (simp![])<;>rfl) ?_
 have hbl:(Bd.srt (yO rows js)).length<64:=by
  have:=(jM (zX (yO rows js))).1.length_eq;have:=KL (js:=js) (rows:=rows) hj.len hl;unfold Bd.srt;lia
 unfold BJ;generalize Bd.srt (yO rows js)=bs at hbl ⊢;have hpl:(Bd.prs bs).length<=64:=by rw[<-Bd.prs_zip,List.length_zip];lia
 have hd:cutL (bs.map V3.int) (some 1) none=(bs.drop 1).map .int:=by have:=Wu (bs.map V3.int) 1;rw[List.map_drop];exact this
 have hz:((bs.map V3.int).zip ((bs.drop 1).map V3.int)).map (fun q=>V3.tup [q.1,q.2])=(Bd.prs bs).map zt:=by
  rw[List.zip_map,Bg,Bd.prs_zip];rfl
 refine it_R (l:=Bd.prs bs) (enc:=zt) (its:=[.lst (bs.map .int),.lst ((bs.drop 1).map .int)]) (ok:=fun _=>True/\True) (by (simp![Ji,yA,eSl,poS,poN,oSl,hd,hz])<;>rfl) ⟨trivial,trivial⟩ (fun i s=> ∃y4 y5,s=[some (.v (.lst (js.map J.enc))),some (.v (calV rows rest)),some (.m (.lst (((((Bd.prs bs).take i).filter fun p=>qV js p.1).map fun p=>(⟨p.1,p.2-1,Cal.at_ rows rest p.1⟩:Cl)).map Cl.enc))),some (.v (.lst (bs.map .int))),y4,y5]) ⟨none,none,rfl⟩ ?_ ?_
 .rintro i p s hi ⟨y4,y5,rfl⟩
  have hil:i<(Bd.prs bs).length:=(An.1 hi).1;rw[jJ hi,List.filter_append,Ax,Ax];have hap:∀y,yo ((((((Bd.prs bs).take i).filter fun p=>qV js p.1).map fun p=>(⟨p.1,p.2-1,Cal.at_ rows rest p.1⟩:Cl)).map Cl.enc)) [y]=some ((((((Bd.prs bs).take i).filter fun p=>qV js p.1).map fun p=>(⟨p.1,p.2-1,Cal.at_ rows rest p.1⟩:Cl)).map Cl.enc)++[y],.non):=fun y=>mAppend_ok (by
   rw[Ae,Ae];have h1:=Cw (fun p:Int×Int=>qV js p.1) ((Bd.prs bs).take i)
   rw[Be]at h1;have:=ym;lia)
  generalize ((((Bd.prs bs).take i).filter fun p=>qV js p.1).map fun p=>(⟨p.1,p.2-1,Cal.at_ rows rest p.1⟩:Cl)).map Cl.enc=acc at hap ⊢
  by_cases hw:qV js p.1=true
  .refine⟨_,by (simp![Pb hj,hw,zS,yw,noAt,WN,hap])<;>rfl,⟨some (.v (.int p.1)),some (.v (.int p.2)),?_⟩⟩
   rw[List.filter_cons_of_pos (p:=fun p:Int×Int=>qV js p.1) hw];rfl
  .have hw':qV js p.1=false:=by simpa using hw
   refine⟨_,by (simp![Pb hj,hw'])<;>rfl,⟨some (.v (.int p.1)),some (.v (.int p.2)),?_⟩⟩
   rw[Gw (p:=fun p:Int×Int=>qV js p.1) (by simp[hw'])];simp
 .rintro s ⟨y4,y5,rfl⟩
  rw[C7];unfold Is;simp![]
noncomputable abbrev qG (cs:List Cl) (k:Nat):Cl:=cs.getD k default
def wn (cs:List Cl) (j:J) (k:Nat):Bool:=decide (j.f<=(qG cs k).f) && decide ((qG cs k).l<=j.l)
def clen (cs:List Cl) (k:Nat):Int:=(qG cs k).l-(qG cs k).f+1
def qm (cs:List Cl) (j:J):List Nat:=(List.range cs.length).filter (wn cs j)
def Xc {cs:List Cl} {k:Nat} (h:k<cs.length):(cs.map Cl.enc).getD k V3.non=(qG cs k).enc:=by
 rw[Cb,Az,zI h];unfold qG;rw[Cb,zI h];rfl
def Pc {cs:List Cl} {k:Nat} (h:k<cs.length):atI (cs.map Cl.enc) (k:Int)=some (qG cs k).enc:=by
 refine jk (j:=k) ?_
 rw[Az,zI h];unfold qG;rw[Cb,zI h];rfl
def Xd (cs:List Cl) (hc:cs.length<=1000) (j:J) (h:H3):G9 [j.enc,.lst (cs.map Cl.enc)] h=.ok (.m (.lst ((qm cs j).map fun k:Nat=>.int (k:Int)))) h:=by
 have e:HU [some (.v j.enc),some (.v (.lst (cs.map Cl.enc)))] h=.ok (.m (.lst ((qm cs j).map fun k:Nat=>.int (k:Int)))) h:=by
  unfold HU qm;have ei:(List.range (cs.map Cl.enc).length).map (fun k=>V3.tup [.int (k:Nat),(cs.map Cl.enc).getD k .non])=(List.range cs.length).map fun k=>V3.tup [.int (k:Nat),(qG cs k).enc]:=by
   rw[Ae];exact D0 fun k hk=>by rw[Xc (Ay.mp hk)]
  refine DC (l:=List.range cs.length) (enc:=fun k=>V3.tup [.int (k:Nat),(qG cs k).enc]) (its:=[.lst (cs.map Cl.enc)]) (ok:=fun _=>True) (fun s=> ∃a b,s=[a,b,some (.v j.enc)]) (wn cs j) (fun k:Nat=>.int (k:Int)) (by (simp![AH,yA,ei])<;>rfl) trivial (by rw[Bq];lia) ⟨none,none,rfl⟩ ?_
  rintro k s hk ⟨a,b,rfl⟩
  refine⟨_,by (simp![])<;>rfl,⟨_,_,rfl⟩,?_,fun _=>⟨_,by (simp![])<;>rfl,rfl⟩⟩
  unfold wn
  by_cases h1:j.f<=(qG cs k).f
  ·(simp![h1,B2 h1,Do])<;>rfl
  ·(simp![h1,Bh h1,C9])<;>rfl
 simp![G9,Kg,e]
def Xe {α:Type} [DecidableEq α] {kvs:List (α×V3)} {k:α} (h:k∉kvs.map (·.1)):(kvs.any fun kv=>decide (kv.1=k))=false:=by
 rw[E9];intro p hp z;exact h (Aj.mpr ⟨p,hp,by simpa using z⟩)
def KN {α:Type} [DecidableEq α] {kvs:List (α×V3)} {k:α} {v:V3} (h:k∉kvs.map (·.1)):put3 kvs k v=kvs++[(k,v)]:=by
 unfold put3;rw[Xe h];rfl
noncomputable abbrev ik (k:Nat):MK:= .one (.inl (k:Int))
def DD {a b:Nat} (h:ik a=ik b):a=b:=by injection h with h;injection h with h;exact Int.ofNat.inj h
def yP (cs:List Cl) (j:J):List (MK×V3):=(qm cs j).map fun k=>(ik k,.int (j.b*clen cs k))
def Xf (cs:List Cl) (hc:cs.length<=1000) {j:J} (hj:j.Ok) (h:H3):GA [j.enc,.lst (cs.map Cl.enc)] h=.ok (.m (.dT (yP cs j))) h:=by
 show Is h _ _;unfold GA Ki Kh
 refine yY rfl ?_
 refine zH (by (simp![eDnT])<;>rfl) ?_
 have nd:(qm cs j).Nodup:=List.Nodup.sublist E5 List.nodup_range;have hlt:∀k∈qm cs j,k<cs.length:=fun k hk=>Ay.mp (Br.mp hk).1
 have hpl:(qm cs j).length<=1000:=by
  have:=Cw (wn cs j) (List.range cs.length);rw[Bq]at this;unfold qm;lia
 have ew:=Xd cs hc j h;unfold yP;generalize qm cs j=ps at nd hlt hpl ew ⊢
 refine DO (x:= .lst (ps.map fun k:Nat=>.int (k:Int))) (l:=ps) (enc:=fun k:Nat=>.int (k:Int)) (by (simp![ew])<;>rfl) rfl (fun i s=> ∃y3,s=[some (.v j.enc),some (.v (.lst (cs.map Cl.enc))),some (.m (.dT ((ps.take i).map fun k=>(ik k,.int (j.b*clen cs k))))),y3]) ⟨none,rfl⟩ ?_ ?_
 .rintro i k s hi ⟨y3,rfl⟩
  have hk:=hlt k (Al hi);have c2:∀x,CMul j.b x:=fun x=>jy ⟨by have:=hj.b;lia,by have:=hj.b;lia⟩
  have hnew:ik k∉((ps.take i).map fun k=>(ik k,V3.int (j.b*clen cs k))).map (·.1):=fun m=>by
   rw[Bg]at m;obtain⟨a,ha,e⟩:=Aj.mp m;have e:a=k:=DD e;subst e;have h0:ps=ps.take i++a::ps.drop (i+1):=by rw[<-CB hi,Fz]
   rw[h0,Cn]at nd;exact nd.2.2 _ ha _ Ak rfl
  have hln:((ps.take i).map fun k=>(ik k,V3.int (j.b*clen cs k))).length<sizeLine:=by
   rw[Ae,Be];have:=ym;lia
  have ep:∀v,put3 ((ps.take i).map fun k=>(ik k,V3.int (j.b*clen cs k))) (ik k) v=((ps.take i).map fun k=>(ik k,V3.int (j.b*clen cs k)))++[(ik k,v)]:=fun v=>KN hnew
  rw[jJ hi,Ax];generalize ((ps.take i).map fun k=>(ik k,V3.int (j.b*clen cs k)))=acc at hln ep ⊢
  exact⟨_,by (simp![qK,yU,C3.dc,Dc.put,Dc.len,qT,Aq,Pc hk,c2,hln,ep,Dc.c])<;>rfl,⟨_,rfl⟩⟩
 .rintro s ⟨y3,rfl⟩
  rw[C7];unfold Is;simp![]
end My
namespace Fl
def S:Nat->(Nat->Int)->Int
 |0,_=>0
 |n+1,f=>S n f+f n
theorem S_congr {f g:Nat->Int}:∀{n:Nat},(∀i,i<n->f i=g i)->S n f=S n g
 |0,_=>rfl
 |n+1,h=>by show S n f+f n=S n g+g n;rw[S_congr fun i hi=>h i (by lia),h n (by lia)]
theorem GR {f g:Nat->Int}:∀n:Nat,S n (fun i=>f i+g i)=S n f+S n g
 |0=>rfl
 |n+1=>by show S n _+_=(S n f+f n)+(S n g+g n);rw[GR n];dsimp only;lia
theorem S_sub {f g:Nat->Int}:∀n:Nat,S n (fun i=>f i-g i)=S n f-S n g
 |0=>rfl
 |n+1=>by show S n _+_=(S n f+f n)-(S n g+g n);rw[S_sub n];dsimp only;lia
theorem S_zero:∀n:Nat,S n (fun _=>0)=0
 |0=>rfl
 |n+1=>by show S n _+0=0;rw[S_zero n];rfl
theorem KO {k:Int} {f:Nat->Int}:∀n:Nat,S n (fun i=>k*f i)=k*S n f
 |0=>(Int.mul_zero k).symm
 |n+1=>by show S n _+_=k*(S n f+f n);rw[KO n,Int.mul_add]
theorem S_le {f g:Nat->Int}:∀{n:Nat},(∀i,i<n->f i<=g i)->S n f<=S n g
 |0,_=>Int.le_refl _
 |n+1,h=>by
  show S n f+f n<=S n g+g n;have:=S_le (f:=f) (g:=g) (n:=n) fun i hi=>h i (by lia)
  have:=h n (by lia)
  lia
def S_nonneg {f:Nat->Int} {n:Nat} (h:∀i,i<n->0<=f i):0<=S n f:=by
 have:=S_le (f:=fun _=>0) (g:=f) (n:=n) h
 rwa [S_zero]at this
theorem S_at {x:Int}:∀{n k:Nat},k<n->S n (fun i=>if i=k then x else 0)=x
 |n+1,k,h=>by
  show S n _+(if n=k then x else 0)=x
  by_cases e:n=k
  .subst e
   rw[Ab rfl,S_congr (g:=fun _=>0) fun i hi=>Ac (by lia),S_zero];lia
  .rw[Ac e,S_at (by lia)];lia
structure D where
 nJ:Nat
 nC:Nat
 w:Nat->Int
 win:Nat->Nat->Bool
 mx:Nat->Nat->Int
 cap:Nat->Int
structure St where
 sh:Nat->Nat->Int
 ms:Nat->Int
 sp:Nat->Int
structure Good (d:D) (s:St):Prop where
 lo:∀j c,j<d.nJ->c<d.nC->0<=s.sh j c
 hi:∀j c,j<d.nJ->c<d.nC->d.win j c=true->s.sh j c<=d.mx j c
 off:∀j c,j<d.nJ->c<d.nC->d.win j c=false->s.sh j c=0
 row:∀j,j<d.nJ->S d.nC (s.sh j)+s.ms j=d.w j
 col:∀c,c<d.nC->S d.nJ (fun j=>s.sh j c)+s.sp c=d.cap c
 ms:∀j,j<d.nJ->0<=s.ms j
 sp:∀c,c<d.nC->0<=s.sp c
abbrev Sp:=Nat×Nat×Option Nat
noncomputable def e1 (j c a x:Nat):Int:=if a=j/\x=c then 1 else 0
def eg (j:Nat) (g:Option Nat) (a x:Nat):Int:=match g with
 |none=>0
 |some y=>e1 j y a x
noncomputable def dl:List Sp->Nat->Nat->Int
 | [],_,_=>0
 | (j,c,g)::r,a,x=>e1 j c a x-eg j g a x+dl r a x
theorem dl_snoc (p:Sp) (a x:Nat):∀l:List Sp,dl (l++[p]) a x=dl l a x+(e1 p.1 p.2.1 a x-eg p.1 p.2.2 a x)
 | []=>by obtain⟨j,c,g⟩:=p;show e1 j c a x-eg j g a x+0=0+(e1 j c a x-eg j g a x);lia
 | (j,c,g)::r=>by
  show e1 j c a x-eg j g a x+dl (r++[p]) a x=e1 j c a x-eg j g a x+dl r a x+_;rw[dl_snoc p a x r];lia
inductive Ch:Nat->Nat->List Sp->Prop
 |one (j c:Nat):Ch c j [(j,c,none)]
 |cons {j c y l:Nat} {r:List Sp}:Ch y l r->Ch c l ((j,c,some y)::r)
def KP {n j c a:Nat} (h:c<n):S n (e1 j c a)=if a=j then 1 else 0:=by
 by_cases e:a=j
 .rw[Ab e,S_congr (g:=fun i=>if i=c then 1 else 0) fun i _=>by unfold e1;simp[e],S_at h]
 .rw[Ac e,S_congr (g:=fun _=>0) fun i _=>by unfold e1;simp[e],S_zero]
def KQ {n j c x:Nat} (h:j<n):S n (fun a=>e1 j c a x)=if x=c then 1 else 0:=by
 by_cases e:x=c
 .rw[Ab e,S_congr (g:=fun i=>if i=j then 1 else 0) fun i _=>by unfold e1;simp[e],S_at h]
 .rw[Ac e,S_congr (g:=fun _=>0) fun i _=>by unfold e1;simp[e],S_zero]
def In (d:D) (l:List Sp):Prop:=∀p∈l,p.1<d.nJ/\p.2.1<d.nC/\d.win p.1 p.2.1=true/\∀y,p.2.2=some y->y<d.nC/\d.win p.1 y=true/\y≠p.2.1
def Ch.row {d:D} {c l:Nat} {ps:List Sp} (h:Ch c l ps) (hi:In d ps) (a:Nat):S d.nC (dl ps a)=if a=l then 1 else 0:=by
 induction h with
 |one j c=>
  obtain⟨_,h2,_⟩:=hi _ Ak;rw[S_congr (g:=e1 j c a) fun i _=>by show e1 j c a i-0+0=_;lia,KP h2]
 | @cons j c y l r _ ih=>
  obtain⟨_,h2,_,h3⟩:=hi _ Ak;have hy:=(h3 y rfl).1;show S d.nC (fun i=>(e1 j c a i-e1 j y a i)+dl r a i)=_
  rw[GR,S_sub,KP h2,KP hy,ih fun p hp=>hi p (Ap _ hp)]
  lia
def Ch.col {d:D} {c l:Nat} {ps:List Sp} (h:Ch c l ps) (hi:In d ps) (x:Nat):S d.nJ (fun a=>dl ps a x)=if x=c then 1 else 0:=by
 induction h with
 |one j c=>
  obtain⟨h1,_⟩:=hi _ Ak;rw[S_congr (g:=fun a=>e1 j c a x) fun i _=>by show e1 j c i x-0+0=_;lia,KQ h1]
 | @cons j c y l r _ ih=>
  obtain⟨h1,_⟩:=hi _ Ak;show S d.nJ (fun a=>(e1 j c a x-e1 j y a x)+dl r a x)=_
  rw[GR,S_sub,KQ h1,KQ h1,ih fun p hp=>hi p (Ap _ hp)]
  lia
theorem Pd {a x:Nat}:∀{l:List Sp},(∀p∈l,p.1≠a)->dl l a x=0
 | [],_=>rfl
 | (j,c,g)::r,h=>by
  have hj:a≠j:=fun z=>h _ Ak z.symm
  show e1 j c a x-eg j g a x+dl r a x=0;rw[Pd fun p hp=>h p (Ap _ hp)]
  have h1:e1 j c a x=0:=by unfold e1;rw[Ac fun z=>hj z.1]
  have h2:eg j g a x=0:=by
   unfold eg
   split
   .rfl
   .unfold e1;rw[Ac fun z=>hj z.1]
  lia
theorem Iq {a x:Nat}:∀{l:List Sp},(l.map (·.1)).Nodup->(∀p∈l,∀y,p.2.2=some y->y≠p.2.1)->dl l a x=0\/(dl l a x=1/\∃p∈l,p.1=a/\p.2.1=x)\/(dl l a x= -1/\∃p∈l,p.1=a/\p.2.2=some x)
 | [],_,_=>.inl rfl
 | (j,c,g)::r,nd,hg=>by
  rw[Ah,Bn]at nd
  by_cases e:a=j
  .subst e
   have z:dl r a x=0:=Pd fun p hp e=>nd.1 (Aj.mpr ⟨p,hp,e⟩)
   show e1 a c a x-eg a g a x+dl r a x=0\/_;rw[show dl ((a,c,g)::r) a x=e1 a c a x-eg a g a x+dl r a x from rfl,z]
   by_cases ec:x=c
   .have h1:e1 a c a x=1:=by unfold e1;rw[Ab ⟨rfl,ec⟩]
    have h2:eg a g a x=0:=by
     unfold eg
     split
     .rfl
     .rename_i y;unfold e1;rw[Ac fun z=>hg _ Ak y rfl (z.2.symm.trans ec)]
    exact .inr (.inl ⟨by lia,_,Ak,rfl,ec.symm⟩)
   .have h1:e1 a c a x=0:=by unfold e1;rw[Ac fun z=>ec z.2]
    cases g with
    |none=>exact .inl (by rw[h1];show (0:Int)-0+0=0;lia)
    |some y=>
     by_cases ey:x=y
     .have h2:eg a (some y) a x=1:=by show e1 a y a x=1;unfold e1;rw[Ab ⟨rfl,ey⟩]
      exact .inr (.inr ⟨by lia,_,Ak,rfl,by rw[ey]⟩)
     .have h2:eg a (some y) a x=0:=by show e1 a y a x=0;unfold e1;rw[Ac fun z=>ey z.2]
      exact .inl (by lia)
  .have h1:e1 j c a x=0:=by unfold e1;rw[Ac fun z=>e z.1]
   have h2:eg j g a x=0:=by
    unfold eg
    split
    .rfl
    .unfold e1;rw[Ac fun z=>e z.1]
   have e2:dl ((j,c,g)::r) a x=dl r a x:=by show e1 j c a x-eg j g a x+dl r a x=_;lia
   rw[e2]
   rcases Iq (a:=a) (x:=x) nd.2 fun p hp=>hg p (Ap _ hp) with h|⟨h,p,hp,k⟩|⟨h,p,hp,k⟩
   .exact .inl h
   .exact .inr (.inl ⟨h,p,Ap _ hp,k⟩)
   .exact .inr (.inr ⟨h,p,Ap _ hp,k⟩)
def St.after (s:St) (ps:List Sp) (c l:Nat) (by_:Int):St where
 sh:=fun j x=>s.sh j x+by_*dl ps j x
 ms:=fun j=>if j=l then s.ms j-by_ else s.ms j
 sp:=fun x=>if x=c then s.sp x-by_ else s.sp x
structure Fits (d:D) (s:St) (ps:List Sp) (c l:Nat) (by_:Int):Prop where
 b0:0<=by_
 sp:by_<=s.sp c
 ms:by_<=s.ms l
 up:∀p∈ps,by_<=d.mx p.1 p.2.1-s.sh p.1 p.2.1
 dn:∀p∈ps,∀y,p.2.2=some y->by_<=s.sh p.1 y
theorem Good.after {d:D} {s:St} {ps:List Sp} {c l:Nat} {by_:Int} (g:Good d s) (h:Ch c l ps) (hi:In d ps) (nd:(ps.map (·.1)).Nodup) (f:Fits d s ps c l by_):Good d (s.after ps c l by_) where
 lo:=fun j x hj hx=>by
  have h0:=g.lo j x hj hx;have b0:=f.b0;show 0<=s.sh j x+by_*dl ps j x
  rcases Iq (a:=j) (x:=x) nd fun p hp y hy=>((hi p hp).2.2.2 y hy).2.2 with e|⟨e,_⟩|⟨e,p,hp,e1,e2⟩
  .rw[e];lia
  .rw[e];lia
  .have:=f.dn p hp x e2
   rw[e1]at this;rw[e];lia
 hi:=fun j x hj hx hw=>by
  have h0:=g.hi j x hj hx hw;have b0:=f.b0;show s.sh j x+by_*dl ps j x<=d.mx j x
  rcases Iq (a:=j) (x:=x) nd fun p hp y hy=>((hi p hp).2.2.2 y hy).2.2 with e|⟨e,p,hp,e1,e2⟩|⟨e,_⟩
  .rw[e];lia
  .have:=f.up p hp
   rw[e1,e2]at this;rw[e];lia
  .rw[e];lia
 off:=fun j x hj hx hw=>by
  have h0:=g.off j x hj hx hw;show s.sh j x+by_*dl ps j x=0
  rcases Iq (a:=j) (x:=x) nd fun p hp y hy=>((hi p hp).2.2.2 y hy).2.2 with e|⟨e,p,hp,e1,e2⟩|⟨e,p,hp,e1,e2⟩
  .rw[e];lia
  .have:=(hi p hp).2.2.1
   rw[e1,e2,hw]at this;cases this
  .have:=((hi p hp).2.2.2 x e2).2.1
   rw[e1,hw]at this;cases this
 row:=fun j hj=>by
  have h0:=g.row j hj;show S d.nC (fun x=>s.sh j x+by_*dl ps j x)+(if j=l then s.ms j-by_ else s.ms j)=d.w j
  rw[GR,KO,h.row hi];have:S d.nC (fun x=>s.sh j x)=S d.nC (s.sh j):=rfl
  split<;>lia
 col:=fun x hx=>by
  have h0:=g.col x hx;show S d.nJ (fun j=>s.sh j x+by_*dl ps j x)+(if x=c then s.sp x-by_ else s.sp x)=d.cap x
  rw[GR,KO,h.col hi]
  split<;>lia
 ms:=fun j hj=>by
  have h0:=g.ms j hj;show 0<=if j=l then s.ms j-by_ else s.ms j
  split
  .rename_i e;subst e;have:=f.ms;lia
  .exact h0
 sp:=fun x hx=>by
  have h0:=g.sp x hx;show 0<=if x=c then s.sp x-by_ else s.sp x
  split
  .rename_i e;subst e;have:=f.sp;lia
  .exact h0
inductive Rch (d:D) (s:St):Nat ⊕ Nat->Prop
 |lack {j:Nat}:j<d.nJ->0<s.ms j->Rch d s (.inl j)
 |take {j c:Nat}:Rch d s (.inl j)->c<d.nC->d.win j c=true->s.sh j c<d.mx j c->Rch d s (.inr c)
 |give {j c:Nat}:Rch d s (.inr c)->j<d.nJ->0<s.sh j c->Rch d s (.inl j)
abbrev kc (ja:List (Nat×Nat)):List Nat:=ja.map (·.1)
noncomputable abbrev kj (ca:List (Nat×Option Nat)):List Nat:=ca.map (·.1)
structure Tree (d:D) (s:St) (ja:List (Nat×Nat)) (ca:List (Nat×Option Nat)):Prop where
 nc:(kc ja).Nodup
 nj:(kj ca).Nodup
 cj:∀p∈ja,p.1<d.nC/\d.win p.2 p.1=true/\s.sh p.2 p.1<d.mx p.2 p.1/\p.2∈kj ca
 jc:∀p∈ca,p.1<d.nJ/\(p.2=none->0<s.ms p.1)/\∀y,p.2=some y->y∈kc ja/\0<s.sh p.1 y
 ord:∀(i:Nat) p,ja[i]? =some p->∀y,(p.2,some y)∈ca->y∈kc (ja.take i)
 rj:∀j∈kj ca,Rch d s (.inl j)
 rc:∀c∈kc ja,Rch d s (.inr c)
structure Closed (d:D) (s:St) (ja:List (Nat×Nat)) (ca:List (Nat×Option Nat)):Prop where
 lack:∀j,j<d.nJ->0<s.ms j->j∈kj ca
 out:∀j∈kj ca,∀c,c<d.nC->d.win j c=true->s.sh j c<d.mx j c->c∈kc ja
 bk:∀c∈kc ja,∀j,j<d.nJ->0<s.sh j c->j∈kj ca
def Closed.all {d:D} {s:St} {ja:List (Nat×Nat)} {ca:List (Nat×Option Nat)} (h:Closed d s ja ca) {x:Nat ⊕ Nat} (r:Rch d s x):match x with
  |.inl j=>j∈kj ca
  |.inr c=>c∈kc ja:=by
 induction r with
 |lack h1 h2=>exact h.lack _ h1 h2
 |take _ h1 h2 h3 ih=>exact h.out _ ih _ h1 h2 h3
 |give _ h1 h2 ih=>exact h.bk _ ih _ h1 h2
def Xg {α β:Type} {l:List (α×β)} (nd:(l.map (·.1)).Nodup) {k:α} {u v:β} (h1:(k,u)∈l) (h2:(k,v)∈l):u=v:=by
 induction l with
 |nil=>cases h1
 |cons p r ih=>
  rw[Ah,Bn]at nd
  rcases Ag.mp h1 with e1|m1
  .rcases Ag.mp h2 with e2|m2
   .rw[<-e1]at e2;exact (congrArg Prod.snd e2).symm
   .exact absurd (Aj.mpr ⟨_,m2,by rw[<-e1]⟩) nd.1
  .rcases Ag.mp h2 with e2|m2
   .exact absurd (Aj.mpr ⟨_,m1,by rw[<-e2]⟩) nd.1
   .exact ih nd.2 m1 m2
inductive Pth (ja:List (Nat×Nat)) (ca:List (Nat×Option Nat)):Nat->List Sp->Prop
 |one {c j:Nat}:(c,j)∈ja->(j,none)∈ca->Pth ja ca c [(j,c,none)]
 |cons {c j y:Nat} {r:List Sp}:(c,j)∈ja->(j,some y)∈ca->Pth ja ca y r->Pth ja ca c ((j,c,some y)::r)
section
variable {d:D} {s:St} {ja:List (Nat×Nat)} {ca:List (Nat×Option Nat)}
def Pth.head {c:Nat} {ps:List Sp} (h:Pth ja ca c ps):∃j g r,ps=(j,c,g)::r/\(c,j)∈ja/\(j,g)∈ca:=by
 cases h with
 |one h1 h2=>exact⟨_,_,_,rfl,h1,h2⟩
 |cons h1 h2 _=>exact⟨_,_,_,rfl,h1,h2⟩
def Pth.mem {c:Nat} {ps:List Sp} (h:Pth ja ca c ps):∀p∈ps,(p.2.1,p.1)∈ja/\(p.1,p.2.2)∈ca:=by
 induction h with
 |one h1 h2=>intro p hp;rw[Ao]at hp;subst hp;exact⟨h1,h2⟩
 |cons h1 h2 _ ih=>
  intro p hp
  rcases Ag.mp hp with e|m
  .subst e;exact⟨h1,h2⟩
  .exact ih p m
def Tree.path (T:Tree d s ja ca):∀(i:Nat) {c j:Nat},ja[i]? =some (c,j)->∃ps,Pth ja ca c ps/\(∀p∈ps.tail,p.2.1∈kc (ja.take i))/\(ps.map fun p=>p.2.1).Nodup:=by
 intro i
 induction i using Nat.strongRecOn with
 |_ i ih=>
  intro c j hi;have hm:(c,j)∈ja:=Al hi;have nin:c∉kc (ja.take i):=fun m=>by
   obtain⟨p,hp,e⟩:=Aj.mp m;obtain⟨k,hk⟩:=B6 hp;have hki:k<i:=by have:=(An.mp hk).1;rw[Be]at this;lia
   rw[Cq hki]at hk;have nd:=T.nc;have h1:(kc ja)[k]? =some c:=by rw[Az,hk,<-e];rfl
   have h2:(kc ja)[i]? =some c:=by rw[Az,hi];rfl
   obtain⟨a1,b1⟩:=An.mp h1;obtain⟨a2,b2⟩:=An.mp h2;exact (Gn.mp nd k i a1 a2 hki) (b1.trans b2.symm)
  obtain⟨⟨j',g⟩,hp,e⟩:=Aj.mp (T.cj _ hm).2.2.2;have e:j'=j:=e;subst e;cases g with
  |none=>exact⟨_,.one hm hp,(fun p hp=>by cases hp),by simp⟩
  |some y=>
   obtain⟨⟨y',l⟩,hq,e⟩:=Aj.mp (T.ord i _ hi y hp);have e:y'=y:=e;subst e;obtain⟨k,hk⟩:=B6 hq;have hki:k<i:=by have:=(An.mp hk).1;rw[Be]at this;lia
   rw[Cq hki]at hk;obtain⟨ps,h1,h2,h3⟩:=ih k hki hk;have sub:∀p∈ps,p.2.1∈kc (ja.take i):=fun p hp=>by
    obtain⟨jj,gg,r,e,_,_⟩:=h1.head;subst e;have up:∀x,x∈kc (ja.take k)->x∈kc (ja.take i):=fun x hx=>by
     obtain⟨q,hq,e⟩:=Aj.mp hx
     refine Aj.mpr ⟨q,?_,e⟩
     have:(ja.take i).take k=ja.take k:=by rw[List.take_take];congr 1;lia
     rw[<-this]at hq;exact Ct hq
    rcases Ag.mp hp with e|m
    .subst e;exact Aj.mpr ⟨_,hq,rfl⟩
    .exact up _ (h2 p m)
   refine⟨_,.cons hm hp h1,sub,?_⟩
   rw[Ah,Bn]
   refine⟨fun m=>?_,h3⟩
   obtain⟨p,hp,e⟩:=Aj.mp m;have e:p.2.1=c:=e;rw[<-e]at nin;exact nin (sub p hp)
def Pth.next {c:Nat} {ps:List Sp} (h:Pth ja ca c ps):∀p∈ps,∀y,p.2.2=some y->y∈ps.tail.map fun p=>p.2.1:=by
 induction h with
 |one h1 h2=>intro p hp y e;rw[Ao]at hp;subst hp;cases e
 | @cons c j z r h1 h2 h3 ih=>
  intro p hp y e
  rcases Ag.mp hp with e1|m
  .subst e1
   cases e;obtain⟨jj,gg,r',rfl,_,_⟩:=h3.head;exact Ak
  .have:=ih p m y e
   obtain⟨q,hq,eq⟩:=Aj.mp this;exact Aj.mpr ⟨q,List.mem_of_mem_tail hq,eq⟩
def Pth.ne {c:Nat} {ps:List Sp} (h:Pth ja ca c ps) (nd:(ps.map fun p=>p.2.1).Nodup):∀p∈ps,∀y,p.2.2=some y->y≠p.2.1:=by
 induction h with
 |one h1 h2=>intro p hp y e;rw[Ao]at hp;subst hp;cases e
 | @cons c j z r h1 h2 h3 ih=>
  rw[Ah,Bn]at nd;intro p hp y e
  rcases Ag.mp hp with e1|m
  .subst e1
   cases e;obtain⟨jj,gg,r',rfl,_,_⟩:=h3.head;intro z;exact nd.1 (by rw[Ah,<-z];exact Ak)
  .exact ih nd.2 p m y e
def Pth.jobs (T:Tree d s ja ca) {c:Nat} {ps:List Sp} (h:Pth ja ca c ps) (nd:(ps.map fun p=>p.2.1).Nodup):(ps.map (·.1)).Nodup:=by
 induction h with
 |one h1 h2=>simp
 | @cons c j y r h1 h2 h3 ih=>
  rw[Ah,Bn]at nd ⊢
  refine⟨fun m=>?_,ih nd.2⟩
  obtain⟨p,hp,e⟩:=Aj.mp m;have hc:=(h3.mem p hp).2;rw[show p.1=j from e]at hc
  have eg:p.2.2=some y:=Xg T.nj hc h2;have:=h3.next p hp y eg;obtain⟨jj,gg,r',rfl,_,_⟩:=h3.head;have nd2:=nd.2;rw[Ah,Bn]at nd2;exact nd2.1 this
def Pth.ch {c:Nat} {ps:List Sp} (h:Pth ja ca c ps):∃l,Ch c l ps/\(l,none)∈ca:=by
 induction h with
 |one h1 h2=>exact⟨_,.one _ _,h2⟩
 |cons h1 h2 _ ih=>obtain⟨l,h,m⟩:=ih;exact⟨l,.cons h,m⟩
def Tree.way (T:Tree d s ja ca) {c:Nat} (hc:c∈kc ja) (hw:∀j y,j<d.nJ->y<d.nC->0<s.sh j y->d.win j y=true):∃ps l,Pth ja ca c ps/\Ch c l ps/\In d ps/\(ps.map (·.1)).Nodup/\0<s.ms l/\l<d.nJ/\c<d.nC/\(∀p∈ps,s.sh p.1 p.2.1<d.mx p.1 p.2.1)/\∀p∈ps,∀y,p.2.2=some y->0<s.sh p.1 y:=by
 obtain⟨⟨c',j⟩,hm,e⟩:=Aj.mp hc;have e:c'=c:=e;subst e;obtain⟨i,hi⟩:=B6 hm;obtain⟨ps,h1,h2,h3⟩:=T.path i hi;obtain⟨l,h4,h5⟩:=h1.ch;have h6:=T.jc _ h5
 refine⟨ps,l,h1,h4,fun p hp=>?_,h1.jobs T h3,h6.2.1 rfl,h6.1,(T.cj _ hm).1,fun p hp=>(T.cj _ (h1.mem p hp).1).2.2.1,fun p hp y hy=>?_⟩
 .obtain⟨m1,m2⟩:=h1.mem p hp
  have a:=T.cj _ m1;have b:=T.jc _ m2
  refine⟨b.1,a.1,a.2.1,fun y hy=>?_⟩
  obtain⟨y1,y2⟩:=b.2.2 y hy;obtain⟨q,hq,e⟩:=Aj.mp y1;have hy':y<d.nC:=by have:=(T.cj q hq).1;rw[show q.1=y from e]at this;exact this
  exact⟨hy',hw _ _ b.1 hy' y2,h1.ne h3 p hp y hy⟩
 .obtain⟨m1,m2⟩:=h1.mem p hp
  exact ((T.jc _ m2).2.2 y hy).2
open Classical in
open Classical in
end
end Fl
namespace My
open PySem L2 L3
noncomputable abbrev zA (n:Nat) (f:Nat->Int):List V3:=(List.range n).map fun k=>.int (f k)
def qL {n:Nat} {f:Nat->Int} {k:Nat} (h:k<n):atI (zA n f) (k:Int)=some (.int (f k)):=jk (j:=k) (by simp[h])
def Ir {n:Nat} {f:Nat->Int}:(zA n f).length=n:=by simp
def KR {n:Nat} {f:Nat->Int} {k:Nat} {x:Int}:(zA n f).set k (.int x)=zA n fun i=>if i=k then x else f i:=by
 refine Dy (by simp) fun i h1 h2=>?_
 rw[List.getElem_set]
 by_cases e:k=i
 .subst e;simp
 .have e': ¬i=k:=fun z=>e z.symm
  rw[Ac e];simp[e']
def KS {n k:Nat} (h:k<n):qp n (k:Int)=some k:=by
 unfold qp;rw[Ab (by lia),Ab (by lia)];rfl
abbrev qJ (cs:List Cl) (js:List J) (n:Nat):List (Str×V3):=[("cells",.lst (cs.map Cl.enc)),("load",.lst (js.map J.enc)),("most",.lst (js.map fun j=>.dT (yP cs j))),("shares",.lst ((List.range js.length).map fun k=>.loc (n+1+k))),("missing",.loc (n+1+js.length)),("spare",.loc (n+1+(js.length+1)))]
def qQ (cs:List Cl) (js:List J) (st:Fl.St):H3:=((List.range js.length).map fun j=>C3.lst (zA cs.length (st.sh j)))++[.lst (zA js.length st.ms),.lst (zA cs.length st.sp)]
def hp (h0:H3) (cs:List Cl) (js:List J) (st:Fl.St) (g:H3):H3:=h0++(.ins "Flow" (qJ cs js h0.length)::(qQ cs js st++g))
section
variable {h0:H3} {cs:List Cl} {js:List J} {st:Fl.St} {g:H3}
def CD:(qQ cs js st).length=js.length+2:=by simp[qQ]
def hp_o:(hp h0 cs js st g)[h0.length]? =some (.ins "Flow" (qJ cs js h0.length)):=by
 unfold hp;rw[Bl (Af _),Nat.sub_self];rfl
def hp_k {k:Nat} {c:C3} (e:(qQ cs js st++g)[k]? =some c):(hp h0 cs js st g)[h0.length+1+k]? =some c:=by
 unfold hp;rw[Bl (by lia),show h0.length+1+k-h0.length=k+1 by lia,D1]
 exact e
def hp_r {j:Nat} (h:j<js.length):(hp h0 cs js st g)[h0.length+1+j]? =some (.lst (zA cs.length (st.sh j))):=hp_k (by
 unfold qQ;rw[B5,Bc (by simpa using h)];simp[h])
def hp_m:(hp h0 cs js st g)[h0.length+1+js.length]? =some (.lst (zA js.length st.ms)):=hp_k (by
 unfold qQ;rw[B5,Bl (by simp)];simp)
def hp_s:(hp h0 cs js st g)[h0.length+1+(js.length+1)]? =some (.lst (zA cs.length st.sp)):=hp_k (by
 unfold qQ;rw[B5,Bl (by simp)];simp)
def hp_g {k:Nat}:(hp h0 cs js st g)[h0.length+1+(js.length+2)+k]? =g[k]? :=by
 unfold hp;rw[Bl (by lia),show h0.length+1+(js.length+2)+k-h0.length=(js.length+2+k)+1 by lia,D1,Bl (by rw[CD];lia),CD,show js.length+2+k-(js.length+2)=k by lia]
def Iu:(hp h0 cs js st g).length=h0.length+1+(js.length+2)+g.length:=by
 unfold hp;rw[Ar,Bb,Ar,CD];lia
def EA {x:H3}:hp h0 cs js st g++x=hp h0 cs js st (g++x):=by unfold hp;simp
def Iv {k:Nat} {c:C3}:(hp h0 cs js st g).set (h0.length+1+k) c=h0++(.ins "Flow" (qJ cs js h0.length)::(qQ cs js st++g).set k c):=by
 unfold hp;rw[Ek _ _ (by lia),show h0.length+1+k-h0.length=k+1 by lia,Ft]
def Xh {k:Nat} {c:C3}:(hp h0 cs js st g).set (h0.length+1+(js.length+2)+k) c=hp h0 cs js st (g.set k c):=by
 rw[show h0.length+1+(js.length+2)+k=h0.length+1+(js.length+2+k) by lia,Iv,Ek _ _ (by rw[CD];lia),CD,show js.length+2+k-(js.length+2)=k by lia]
 rfl
def Xi {j:Nat} {f:Nat->Int} (h:j<js.length):(hp h0 cs js st g).set (h0.length+1+j) (.lst (zA cs.length f))=hp h0 cs js {st with sh:=fun a=>if a=j then f else st.sh a} g:=by
 rw[Iv,Ga _ _ (by rw[CD];lia)]
 unfold hp
 congr 3
 unfold qQ;rw[Ga _ _ (by simpa using h)]
 congr 1
 refine Dy (by simp) fun i h1 h2=>?_
 rw[List.getElem_set]
 by_cases e:j=i
 .subst e;simp
 .have e': ¬i=j:=fun z=>e z.symm
  rw[Ac e];simp[e']
def Xj {f:Nat->Int}:(hp h0 cs js st g).set (h0.length+1+js.length) (.lst (zA js.length f))=hp h0 cs js {st with ms:=f} g:=by
 rw[Iv,Ga _ _ (by rw[CD];lia)]
 unfold hp
 congr 3
 unfold qQ;rw[Ek _ _ (by simp)]
 simp
def Xk {f:Nat->Int}:(hp h0 cs js st g).set (h0.length+1+(js.length+1)) (.lst (zA cs.length f))=hp h0 cs js {st with sp:=f} g:=by
 rw[Iv,Ga _ _ (by rw[CD];lia)]
 unfold hp
 congr 3
 unfold qQ;rw[Ek _ _ (by simp)]
 simp
end
def qr {n:Nat} {cs:List Cl} {js:List J}:(qJ cs js n).lookup ("cells":Str)=some (.lst (cs.map Cl.enc))/\(qJ cs js n).lookup ("load":Str)=some (.lst (js.map J.enc))/\(qJ cs js n).lookup ("most":Str)=some (.lst (js.map fun j=>.dT (yP cs j)))/\(qJ cs js n).lookup ("shares":Str)=some (.lst ((List.range js.length).map fun k=>.loc (n+1+k)))/\(qJ cs js n).lookup ("missing":Str)=some (.loc (n+1+js.length))/\(qJ cs js n).lookup ("spare":Str)=some (.loc (n+1+(js.length+1))):=by
 have a1:(Str.ofString "load" ==Str.ofString "cells")=false:=by decide+kernel
 have a2:(Str.ofString "most" ==Str.ofString "cells")=false:=by decide+kernel
 have a3:(Str.ofString "most" ==Str.ofString "load")=false:=by decide+kernel
 have a4:(Str.ofString "shares" ==Str.ofString "cells")=false:=by decide+kernel
 have a5:(Str.ofString "shares" ==Str.ofString "load")=false:=by decide+kernel
 have a6:(Str.ofString "shares" ==Str.ofString "most")=false:=by decide+kernel
 have b1:(Str.ofString "missing" ==Str.ofString "cells")=false:=by decide+kernel
 have b2:(Str.ofString "missing" ==Str.ofString "load")=false:=by decide+kernel
 have b3:(Str.ofString "missing" ==Str.ofString "most")=false:=by decide+kernel
 have b4:(Str.ofString "missing" ==Str.ofString "shares")=false:=by decide+kernel
 have c1:(Str.ofString "spare" ==Str.ofString "cells")=false:=by decide+kernel
 have c2:(Str.ofString "spare" ==Str.ofString "load")=false:=by decide+kernel
 have c3:(Str.ofString "spare" ==Str.ofString "most")=false:=by decide+kernel
 have c4:(Str.ofString "spare" ==Str.ofString "shares")=false:=by decide+kernel
 have c5:(Str.ofString "spare" ==Str.ofString "missing")=false:=by decide+kernel
 have r:∀x:Str,(x==x)=true:=fun x=>by simp
 simp only[List.lookup,a1,a2,a3,a4,a5,a6,b1,b2,b3,b4,c1,c2,c3,c4,c5,r,and_self]
def qU {n:Nat} {cs:List Cl} {js:List J} {m:String} (h:["cells","load","most","shares","missing","spare"].all (fun x=> !(Str.ofString m==Str.ofString x))=true):(qJ cs js n).lookup (Str.ofString m)=none:=by
 simp only[Et,List.all_nil,Bool.and_true,Bi,Bool.not_eq_true']at h;obtain⟨a,b,c,d,e,f⟩:=h;simp only[List.lookup,a,b,c,d,e,f]
instance:Inhabited J:=⟨⟨[],0,0,0,0⟩⟩
abbrev zY (js:List J) (k:Nat):J:=js.getD k default
def fd (cs:List Cl) (js:List J):Fl.D:=⟨js.length,cs.length,fun j=>(zY js j).w,fun j c=>wn cs (zY js j) c,fun j c=>(zY js j).b*clen cs c,fun c=>(qG cs c).m*clen cs c⟩
def atL {α:Type} {l:List α} {f:α->V3} {k:Nat} {a:α} (h:l[k]? =some a):atI (l.map f) (k:Int)=some (f a):=jk (j:=k) (by rw[Az,h];rfl)
def GS {js:List J} {k:Nat} (h:k<js.length):js[k]? =some (zY js k):=by
 unfold zY;rw[Cb,zI h];rfl
def BK {s:S3} {h:H3} {n:Nat} {xs:List V3} {k:Int} (e:h[n]? =some (.lst xs)):zq s h (.x (.loc n)) (.x (.int k))=(atI xs k).map .v:=by
 unfold zq qi oIxT yL oIxS;simp only[rdl,e];cases atI xs k<;>rfl
def KU {s:S3} {h:H3} {n:Nat} {xs:List V3} {k:Int} (e:h[n]? =some (.lst xs)):yL s h (.x (.loc n)) (.x (.int k))=(atI xs k).map .v:=by
 unfold yL;simp only[rdl,e]
def Xl {ps:List Nat} {f:Nat->V3} {c:Nat} (h:c∈ps):z0 (ps.map fun k=>(ik k,f k)) (ik c)=some (f c):=by
 unfold z0
 induction ps with
 |nil=>cases h
 |cons a r ih=>
  rw[Ah]
  by_cases e:ik a=ik c
  .rw[Gb (by simpa using e),DD e];rfl
  .rw[Gc (by simpa using e)]
   rcases Ag.mp h with z|m
   .exact absurd (by rw[z]) e
   .exact ih m
def Xm {cs:List Cl} {j:J} {c:Nat} (hc:c<cs.length) (hw:wn cs j c=true):z0 (yP cs j) (.one (.inl (c:Int)))=some (.int (j.b*clen cs c)):=
 Xl (f:=fun k=>.int (j.b*clen cs k)) (Br.mpr ⟨Ay.mpr hc,hw⟩)
noncomputable abbrev encO (g:Option Nat):V3:=match g with
 |none=>.non
 |some y=>.int (y:Int)
abbrev zE (p:Fl.Sp):V3:= .tup [.int (p.1:Int),.int (p.2.1:Int),encO p.2.2]
section
variable {h0:H3} {cs:List Cl} {js:List J} {st:Fl.St} {g:H3}
noncomputable abbrev shL (js:List J) (n:Nat):List V3:=(List.range js.length).map fun k=>V3.loc (n+1+k)
def GT {n j:Nat} (h:j<js.length):atI (shL js n) (j:Int)=some (.loc (n+1+j)):=jk (j:=j) (by simp[h])
def yK:(Str.ofString "Flow" ∈[Str.ofString "Flow"])=True:=by simp
def zF:yw (hp h0 cs js st g) (.x (.loc h0.length))=some (("Flow" :Str),qJ cs js h0.length):=by unfold yw;simp only[hp_o]
structure ByOk (cs:List Cl) (js:List J) (st:Fl.St) (ps:List Fl.Sp) (c l:Nat) (b:Int):Prop where
 sp:b<=st.sp c
 ms:b<=st.ms l
 up:∀p∈ps,b<=(fd cs js).mx p.1 p.2.1-st.sh p.1 p.2.1
 dn:∀p∈ps,∀y,p.2.2=some y->b<=st.sh p.1 y
 at_:∀m:Int,m<=st.sp c->m<=st.ms l->(∀p∈ps,m<=(fd cs js).mx p.1 p.2.1-st.sh p.1 p.2.1)->(∀p∈ps,∀y,p.2.2=some y->m<=st.sh p.1 y)->m<=b
def Xn {ps:List Fl.Sp} (hi:Fl.In (fd cs js) ps) {c l:Nat} (h1:(hp h0 cs js st g)=(hp h0 cs js st g)) {Q:Res Vl->Prop} {r:D3}
  (k:∀b y3 y4 y5,ByOk cs js st ps c l b->Q ((r [some (.v (.loc h0.length)),some (.v (.lst (ps.map zE))),some (.v (.int b)),y3,y4,y5] (hp h0 cs js st g)).res)):
  Q ((sSeq HM r [some (.v (.loc h0.length)),some (.v (.lst (ps.map zE))),some (.v (.int (min (st.sp c) (st.ms l)))),none,none,none] (hp h0 cs js st g)).res):=by
 unfold HM
 refine DO (x:= .lst (ps.map zE)) (l:=ps) (enc:=zE) (by simp![]) rfl (fun i s=> ∃b y3 y4 y5,s=[some (.v (.loc h0.length)),some (.v (.lst (ps.map zE))),some (.v (.int b)),y3,y4,y5]/\ByOk cs js st (ps.take i) c l b) ⟨_,none,none,none,rfl,⟨by lia,by lia,by simp,by simp,fun m a1 a2 _ _=>by lia⟩⟩ ?_ ?_
 .rintro i ⟨j,x,gv⟩ s hs ⟨b,y3,y4,y5,rfl,bo⟩
  obtain⟨hj,hx,hw,hy⟩:=hi _ (Al hs);have hj1:j<js.length:=hj;have hx1:x<cs.length:=hx;have hw1:wn cs (zY js j) x=true:=hw;have em:=atL (f:=fun j=>V3.dT (yP cs j)) (GS hj1)
  have evl:=Xm hx1 hw1;have er:=hp_r (h0:=h0) (cs:=cs) (st:=st) (g:=g) hj1;have mem:∀p,p∈ps.take (i+1)↔p∈ps.take i\/p=(j,x,gv):=fun p=>by rw[jJ hs,As,Ao]
  cases gv with
  |none=>
   refine⟨_,by (simp![zf,zF,yK,qr,em,AK,yU,Dc.get,qT,Aq,evl,GT hj1,BK er,qL hx1])<;>rfl,⟨min b ((zY js j).b*clen cs x-st.sh j x),_,_,_,rfl,⟨by have:=bo.sp;lia,by have:=bo.ms;lia,fun p hp=>?_,fun p hp y e=>?_,fun m a1 a2 a3 a4=>?_⟩⟩⟩
   .rcases (mem p).mp hp with m|rfl
    .have:=bo.up p m;lia
    .show min b ((zY js j).b*clen cs x-st.sh j x)<=(zY js j).b*clen cs x-st.sh j x;lia
   .rcases (mem p).mp hp with m|rfl
    .have:=bo.dn p m y e;lia
    .cases e
   .have h1:=bo.at_ m a1 a2 (fun p hp=>a3 p ((mem p).mpr (.inl hp))) (fun p hp=>a4 p ((mem p).mpr (.inl hp)))
    have h2:m<=(zY js j).b*clen cs x-st.sh j x:=a3 _ ((mem _).mpr (.inr rfl));lia
  |some y=>
   obtain⟨hy1,_,_⟩:=hy y rfl;have hy1:y<cs.length:=hy1
   refine⟨_,by (simp![zf,zF,yK,qr,em,AK,yU,Dc.get,qT,Aq,evl,GT hj1,BK er,qL hx1,qL hy1])<;>rfl,⟨min (min b ((zY js j).b*clen cs x-st.sh j x)) (st.sh j y),_,_,_,rfl,⟨by have:=bo.sp;lia,by have:=bo.ms;lia,fun p hp=>?_,fun p hp z e=>?_,fun m a1 a2 a3 a4=>?_⟩⟩⟩
   .rcases (mem p).mp hp with m|rfl
    .have:=bo.up p m;lia
    .show min (min b ((zY js j).b*clen cs x-st.sh j x)) (st.sh j y)<=(zY js j).b*clen cs x-st.sh j x;lia
   .rcases (mem p).mp hp with m|rfl
    .have:=bo.dn p m z e;lia
    .cases e;show _<=st.sh j y;lia
   .have h1:=bo.at_ m a1 a2 (fun p hp=>a3 p ((mem p).mpr (.inl hp))) (fun p hp=>a4 p ((mem p).mpr (.inl hp)))
    have h2:m<=(zY js j).b*clen cs x-st.sh j x:=a3 _ ((mem _).mpr (.inr rfl));have h3:m<=st.sh j y:=a4 _ ((mem _).mpr (.inr rfl)) y rfl;lia
 .rintro s ⟨b,y3,y4,y5,rfl,bo⟩
  rw[C7]at bo;exact k b y3 y4 y5 bo
end
section
variable {h0:H3} {cs:List Cl} {js:List J} {st:Fl.St} {g:H3}
noncomputable abbrev upd2 (sh:Nat->Nat->Int) (j x:Nat) (v:Int):Nat->Nat->Int:=fun a=>if a=j then (fun i=>if i=x then v else sh j i) else sh a
def Pe (f:F2) (op:Int->Int->Int) (hf:∀s h a c,f s h (.x (.int a)) (.x (.int c))=some (.v (.int (op a c)))) {s:S3} {i j x:Nat} {b:Int} (e0:s[0]? =some (some (.v (.loc h0.length)))) (e2:s[2]? =some (some (.v (.int b)))) (e3:s[3]? =some (some (.v (.int (j:Int))))) (ei:s[i]? =some (some (.v (.int (x:Int)))))
  (hj:j<js.length) (hx:x<cs.length):je f (pE (eOp zq (pE (zf [("Flow" :Str)] ("shares" :Str) (pV 0))) (pV 3))) (pV i) (pV 2) s (hp h0 cs js st g)=.nx s (hp h0 cs js {st with sh:=upd2 st.sh j x (op (st.sh j x) b)} g):=by
 have er:=hp_r (h0:=h0) (cs:=cs) (st:=st) (g:=g) hj;have es:=Xi (h0:=h0) (cs:=cs) (st:=st) (g:=g) (f:=fun k=>if k=x then op (st.sh j x) b else st.sh j k) hj
 (simp![je,e0,e2,e3,ei,zf,zF,yK,qr,GT hj,KU er,qL hx,Aq,hf,er,KS hx,Ir,KR,es])
def Xo {ps:List Fl.Sp} (hi:Fl.In (fd cs js) ps) {b:Int} {z3 z4 z5:Option Vl} {Q:Res Vl->Prop} {r:D3}
  (k:∀y3 y4 y5,Q ((r [some (.v (.loc h0.length)),some (.v (.lst (ps.map zE))),some (.v (.int b)),y3,y4,y5] (hp h0 cs js {st with sh:=fun a x=>st.sh a x+b*Fl.dl ps a x} g)).res)):
  Q ((sSeq HN r [some (.v (.loc h0.length)),some (.v (.lst (ps.map zE))),some (.v (.int b)),z3,z4,z5] (hp h0 cs js st g)).res):=by
 unfold HN
 refine Wt (l:=ps) (enc:=zE) (its:=[.lst (ps.map zE)]) (ok:=fun _=>True) (by (simp![iL,yA])<;>rfl) (fun i s h=> ∃y3 y4 y5,s=[some (.v (.loc h0.length)),some (.v (.lst (ps.map zE))),some (.v (.int b)),y3,y4,y5]/\h=hp h0 cs js {st with sh:=fun a x=>st.sh a x+b*Fl.dl (ps.take i) a x} g) (fun _ _ _ _=>trivial) ⟨z3,z4,z5,rfl,?_⟩ ?_ ?_
 .have e:(fun a x=>st.sh a x+b*Fl.dl (ps.take 0) a x)=st.sh:=by
   funext a x
   show st.sh a x+b*0=_;lia
  rw[e]
 .rintro i ⟨j,x,gv⟩ s h hs ⟨y3,y4,y5,rfl,rfl⟩
  obtain⟨hj,hx,hw,hy⟩:=hi _ (Al hs);have hj1:j<js.length:=hj;have hx1:x<cs.length:=hx;have a1:=fun st y5=>Pe (h0:=h0) (g:=g) (st:=st) AE (fun a c=>a+c) (fun _ _ _ _=>oAddI_int) (s:=[some (.v (.loc h0.length)),some (.v (.lst (ps.map zE))),some (.v (.int b)),some (.v (.int (j:Int))),some (.v (.int (x:Int))),y5]) (i:=4) (j:=j) (x:=x) (b:=b) rfl rfl rfl rfl hj1 hx1
  cases gv with
  |none=>
   refine⟨[some (.v (.loc h0.length)),some (.v (.lst (ps.map zE))),some (.v (.int b)),some (.v (.int (j:Int))),some (.v (.int (x:Int))),some (.v .non)],hp h0 cs js {st with sh:=fun a x=>st.sh a x+b*Fl.dl (ps.take (i+1)) a x} g,?_,_,_,_,rfl,rfl⟩
   have e:{st with sh:=upd2 (fun a x=>st.sh a x+b*Fl.dl (ps.take i) a x) j x (st.sh j x+b*Fl.dl (ps.take i) j x+b)}=({st with sh:=fun a x=>st.sh a x+b*Fl.dl (ps.take (i+1)) a x}:Fl.St):=by
    congr 1
    funext a z
    rw[jJ hs,Fl.dl_snoc,Int.mul_add];show (if a=j then (fun i_1=>_) else _) z=_
    by_cases ea:a=j
    .subst ea
     rw[Ab rfl]
     by_cases ez:z=x
     .subst ez
      have:Fl.e1 a z a z=1:=by unfold Fl.e1;simp
      simp only[Bw,this,Fl.eg];lia
     .have:Fl.e1 a x a z=0:=by unfold Fl.e1;simp[ez]
      simp only[Ac ez,this,Fl.eg];lia
    .have:Fl.e1 j x a z=0:=by unfold Fl.e1;simp[ea]
     simp only[Ac ea,this,Fl.eg];lia
   rw[<-e]
   (simp![a1])
  |some y=>
   obtain⟨hy1,_,hne⟩:=hy y rfl;have hy1:y<cs.length:=hy1;have hne:y≠x:=hne;have a2:=fun st=>Pe (h0:=h0) (g:=g) (st:=st) yg (fun a c=>a-c) (fun _ _ _ _=>oSub_int) (s:=[some (.v (.loc h0.length)),some (.v (.lst (ps.map zE))),some (.v (.int b)),some (.v (.int (j:Int))),some (.v (.int (x:Int))),some (.v (.int (y:Int)))]) (i:=5) (j:=j) (x:=y) (b:=b) rfl rfl rfl rfl hj1 hy1
   refine⟨[some (.v (.loc h0.length)),some (.v (.lst (ps.map zE))),some (.v (.int b)),some (.v (.int (j:Int))),some (.v (.int (x:Int))),some (.v (.int (y:Int)))],hp h0 cs js {st with sh:=fun a x=>st.sh a x+b*Fl.dl (ps.take (i+1)) a x} g,?_,_,_,_,rfl,rfl⟩
   have e:{st with sh:=upd2 (upd2 (fun a x=>st.sh a x+b*Fl.dl (ps.take i) a x) j x (st.sh j x+b*Fl.dl (ps.take i) j x+b)) j y (upd2 (fun a x=>st.sh a x+b*Fl.dl (ps.take i) a x) j x (st.sh j x+b*Fl.dl (ps.take i) j x+b) j y-b)}=({st with sh:=fun a x=>st.sh a x+b*Fl.dl (ps.take (i+1)) a x}:Fl.St):=by
    congr 1
    funext a z
    rw[jJ hs,Fl.dl_snoc,Int.mul_add];unfold upd2
    by_cases ea:a=j
    .subst ea
     by_cases ey:z=y
     .subst ey
      have t1:Fl.e1 a x a z=0:=by unfold Fl.e1;simp[hne]
      have t2:Fl.eg a (some z) a z=1:=by show Fl.e1 a z a z=1;unfold Fl.e1;simp
      simp only[Bw,Ac hne,t1,t2];lia
     .have t2:Fl.eg a (some y) a z=0:=by show Fl.e1 a y a z=0;unfold Fl.e1;simp[ey]
      by_cases ez:z=x
      .subst ez
       have t1:Fl.e1 a z a z=1:=by unfold Fl.e1;simp
       simp only[Bw,Ac ey,t1,t2];lia
      .have t1:Fl.e1 a x a z=0:=by unfold Fl.e1;simp[ez]
       simp only[Bw,Ac ey,Ac ez,t1,t2];lia
    .have t1:Fl.e1 j x a z=0:=by unfold Fl.e1;simp[ea]
     have t2:Fl.eg j (some y) a z=0:=by show Fl.e1 j y a z=0;unfold Fl.e1;simp[ea]
     simp only[Ac ea,t1,t2];lia
   rw[<-e]
   (simp![a1,a2])
 .rintro s h ⟨y3,y4,y5,rfl,rfl⟩
  rw[C7];exact k y3 y4 y5
end
def Pf {c l:Nat} {ps:List Fl.Sp} (h:Fl.Ch c l ps):∃j g r,ps=(j,c,g)::r:=by
 cases h with
 |one j c=>exact⟨_,_,_,rfl⟩
 |cons _=>exact⟨_,_,_,rfl⟩
def Xp {c l:Nat} {ps:List Fl.Sp} (h:Fl.Ch c l ps):∃i x,ps=i++[(l,x,none)]:=by
 induction h with
 |one j c=>exact⟨[],c,rfl⟩
 | @cons j c y l r _ ih=>obtain⟨i,x,rfl⟩:=ih;exact⟨(j,c,some y)::i,x,rfl⟩
section
variable {h0:H3} {cs:List Cl} {js:List J} {st:Fl.St} {g:H3}
abbrev zc (k:Nat):V3:= .int (k:Int)
def Xq {s:S3} {x:Nat} {b:Int} {i:P3} (e0:s[0]? =some (some (.v (.loc h0.length)))) (e2:s[2]? =some (some (.v (.int b)))) (ei:∀h,i s h=.ok (.x (.int (x:Int))) h) (hx:x<cs.length):
  je yg (pE (zf [("Flow" :Str)] ("spare" :Str) (pV 0))) i (pV 2) s (hp h0 cs js st g)=.nx s (hp h0 cs js {st with sp:=fun k=>if k=x then st.sp k-b else st.sp k} g):=by
 have er:=hp_s (h0:=h0) (cs:=cs) (js:=js) (st:=st) (g:=g);have es:=Xk (h0:=h0) (cs:=cs) (js:=js) (st:=st) (g:=g) (f:=fun k=>if k=x then st.sp x-b else st.sp k)
 have e:(fun k=>if k=x then st.sp x-b else st.sp k)=fun k=>if k=x then st.sp k-b else st.sp k:=by
  funext k
  by_cases z:k=x
  .subst z;rfl
  .rw[Ac z,Ac z]
 rw[e]at es
 (simp![je,e0,e2,ei,zf,zF,yK,qr,KU er,qL hx,Aq,er,KS hx,Ir,KR,e,es])
def Xr {s:S3} {x:Nat} {b:Int} {i:P3} (e0:s[0]? =some (some (.v (.loc h0.length)))) (e2:s[2]? =some (some (.v (.int b)))) (ei:∀h,i s h=.ok (.x (.int (x:Int))) h) (hx:x<js.length):
  je yg (pE (zf [("Flow" :Str)] ("missing" :Str) (pV 0))) i (pV 2) s (hp h0 cs js st g)=.nx s (hp h0 cs js {st with ms:=fun k=>if k=x then st.ms k-b else st.ms k} g):=by
 have er:=hp_m (h0:=h0) (cs:=cs) (js:=js) (st:=st) (g:=g);have es:=Xj (h0:=h0) (cs:=cs) (js:=js) (st:=st) (g:=g) (f:=fun k=>if k=x then st.ms x-b else st.ms k)
 have e:(fun k=>if k=x then st.ms x-b else st.ms k)=fun k=>if k=x then st.ms k-b else st.ms k:=by
  funext k
  by_cases z:k=x
  .subst z;rfl
  .rw[Ac z,Ac z]
 rw[e]at es
 (simp![je,e0,e2,ei,zf,zF,yK,qr,KU er,qL hx,Aq,er,KS hx,Ir,KR,e,es])
def Xs (h0:H3) (cs:List Cl) (js:List J) (st:Fl.St) (g:H3) (ps:List Fl.Sp) (c l:Nat) (R:Res Vl):Prop:=∃b,ByOk cs js st ps c l b/\R=.ok (.v .non) (hp h0 cs js (st.after ps c l b) g)
def Pg {ps:List Fl.Sp} {c l:Nat} (hi:Fl.In (fd cs js) ps) (hc:Fl.Ch c l ps) (hcn:c<cs.length) (hln:l<js.length):Xs h0 cs js st g ps c l (BZ [.loc h0.length,.lst (ps.map zE)] (hp h0 cs js st g)):=by
 obtain⟨j,gv,r,e1⟩:=Pf hc;obtain⟨i,x,e2⟩:=Xp hc;have f1:atI (ps.map zE) (0:Int)=some (zE (j,c,gv)):=by rw[e1];exact at0
 have f2:atI (ps.map zE) (-1:Int)=some (zE (l,x,none)):=by rw[e2,Ax];exact atm1
 have er:=hp_s (h0:=h0) (cs:=cs) (js:=js) (st:=st) (g:=g);have em:=hp_m (h0:=h0) (cs:=cs) (js:=js) (st:=st) (g:=g);unfold BZ JQ
 refine yY rfl ?_
 refine zH (s1:=[some (.v (.loc h0.length)),some (.v (.lst (ps.map zE))),some (.v (.int (min (st.sp c) (st.ms l)))),none,none,none]) (h1:=hp h0 cs js st g) ?_ ?_
 ·(simp![zf,zF,yK,qr,f1,f2,BK er,BK em,qL hcn,qL hln,Aq])
 refine Xn hi (c:=c) (l:=l) rfl fun b y3 y4 y5 bo=>?_
 refine Xo hi fun y3 y4 y5=>?_
 refine zH (Xq (x:=c) rfl rfl (fun h=>by (simp![f1])) hcn) ?_
 refine⟨b,bo,?_⟩
 have:=Xr (h0:=h0) (cs:=cs) (js:=js) (g:=g) (st:={st with sh:=fun a x=>st.sh a x+b*Fl.dl ps a x,sp:=fun k=>if k=c then st.sp k-b else st.sp k}) (s:=[some (.v (.loc h0.length)),some (.v (.lst (ps.map zE))),some (.v (.int b)),y3,y4,y5]) (x:=l) (b:=b) (i:=pE (eOp zq (pE (eOp zq (pV 1) (pE (eNeg (kJ 1))))) (kJ 0))) rfl rfl (fun h=>by (simp![f2])) hln
 rw[this];rfl
end
section
variable {h0:H3} {cs:List Cl} {js:List J} {st:Fl.St} {g:H3}
def Xu {ps:List Fl.Sp} {c l:Nat} {b:Int} (bo:ByOk cs js st ps c l b) (z:0<=st.sp c) (z2:0<=st.ms l) (z3:∀p∈ps,0<=(fd cs js).mx p.1 p.2.1-st.sh p.1 p.2.1) (z4:∀p∈ps,∀y,p.2.2=some y->0<=st.sh p.1 y):Fl.Fits (fd cs js) st ps c l b:=
 ⟨bo.at_ 0 z z2 z3 z4,bo.sp,bo.ms,bo.up,bo.dn⟩
def Xv (j:J):(yP cs j).map (fun kv=>mkV3 kv.1)=(qm cs j).map zc:=by
 unfold yP;rw[Bg];rfl
def Xw (gd:Fl.Good (fd cs js) st) {j:Nat} (hj:j<js.length) (y3:Option Vl):∃s' h',FY [some (.v (.loc h0.length)),some (.v (.int (j:Int))),some (.v (.dT (yP cs (zY js j)))),y3] (hp h0 cs js st g)=.nx s' h'/\∃y3 st',Fl.Good (fd cs js) st'/\s'=[some (.v (.loc h0.length)),some (.v (.int (j:Int))),some (.v (.dT (yP cs (zY js j)))),y3]/\h'=hp h0 cs js st' g:=by
 unfold FY;have ek:=Xv (cs:=cs) (zY js j)
 refine DA (l:=qm cs (zY js j)) (enc:=zc) (its:=[.dT (yP cs (zY js j))]) (ok:=fun _=>True) (by (simp![iDl,BH,ek])<;>rfl) (fun i s h=> ∃y3 st',Fl.Good (fd cs js) st'/\s=[some (.v (.loc h0.length)),some (.v (.int (j:Int))),some (.v (.dT (yP cs (zY js j)))),y3]/\h=hp h0 cs js st' g) (fun _ _ _ _=>trivial) ⟨y3,st,gd,rfl,rfl⟩ ?_
 rintro i c s h hi ⟨y3,st',gd',rfl,rfl⟩;obtain⟨hc,hw⟩:=Br.mp (Al hi);have hc:c<cs.length:=Ay.mp hc;have hin:Fl.In (fd cs js) [(j,c,none)]:=fun p hp=>by
  rw[Ao]at hp;subst hp;exact⟨hj,hc,hw,fun y e=>by cases e⟩
 obtain⟨b,bo,er⟩:=Pg (h0:=h0) (st:=st') (g:=g) hin (.one j c) hc hj;have er:BZ [.loc h0.length,.lst [.tup [.int (j:Int),.int (c:Int),.non]]] (hp h0 cs js st' g)=_:=er;have nm:=qU (n:=h0.length) (cs:=cs) (js:=js) (m:="shift") (by decide+kernel)
 have ft:=Xu bo (gd'.sp c hc) (gd'.ms j hj) (fun p hp=>by
  rw[Ao]at hp;subst hp;have:=gd'.hi j c hj hc hw;show 0<=(fd cs js).mx j c-st'.sh j c;lia) (fun p hp y e=>by rw[Ao]at hp;subst hp;cases e)
 exact⟨_,_,by (simp![zS,zF,nm,er])<;>rfl,_,_,gd'.after (.one j c) hin (by simp) ft,rfl,rfl⟩
def Q_go (h0:H3) (cs:List Cl) (js:List J) (g:H3) (R:Res Vl):Prop:=∃st',Fl.Good (fd cs js) st'/\R=.ok (.v .non) (hp h0 cs js st' g)
def Xx (gd:Fl.Good (fd cs js) st):Q_go h0 cs js g (FZ [.loc h0.length] (hp h0 cs js st g)):=by
 unfold FZ JS JR
 refine yY rfl ?_
 have ei:(List.range (js.map fun j=>V3.dT (yP cs j)).length).map (fun k=>V3.tup [.int (k:Nat),(js.map fun j=>V3.dT (yP cs j)).getD k .non])=(List.range js.length).map fun k=>V3.tup [.int (k:Nat),.dT (yP cs (zY js k))]:=by
  rw[Ae]
  refine D0 fun k hk=>?_
  have hk:=Ay.mp hk;rw[Cb,Az,GS hk];rfl
 obtain⟨s',h',e,y1,y2,y3,st',gd',rfl,rfl⟩:=DA (g:=gT (gsCons (gN 1) (gsCons (gN 2) gsNil))) (b:=FY) (s:=[some (.v (.loc h0.length)),none,none,none]) (h:=hp h0 cs js st g) (it:=AH (aCons (pE (zf [("Flow" :Str)] ("most" :Str) (pV 0))) aNil)) (l:=List.range js.length) (enc:=fun k=>V3.tup [.int (k:Nat),.dT (yP cs (zY js k))]) (its:=[.lst (js.map fun j=>V3.dT (yP cs j))]) (ok:=fun _=>True) (by (simp![AH,yA,zf,zF,yK,qr,ei])<;>rfl) (fun i s h=> ∃y1 y2 y3 st',Fl.Good (fd cs js) st'/\s=[some (.v (.loc h0.length)),y1,y2,y3]/\h=hp h0 cs js st' g) (fun _ _ _ _=>trivial) ⟨none,none,none,st,gd,rfl,rfl⟩ (by
   rintro i k s h hi ⟨y1,y2,y3,st',gd',rfl,rfl⟩;have hk:k<js.length:=Ay.mp (Al hi);obtain⟨s2,h2,e2,y3',st2,gd2,rfl,rfl⟩:=Xw (h0:=h0) (g:=g) gd' hk y3;exact⟨_,_,by (simp![e2])<;>rfl,_,_,_,_,gd2,rfl,rfl⟩)
 refine⟨st',gd',?_⟩
 (simp![e])
end
end My
namespace Fl
section
variable {d:D} {s:St} {ja:List (Nat×Nat)} {ca:List (Nat×Option Nat)}
structure Srch (d:D) (s:St) (ja:List (Nat×Nat)) (ca:List (Nat×Option Nat)) (wt:List Nat) (cur:Option Nat):Prop where
 tree:Tree d s ja ca
 lack:∀j,j<d.nJ->0<s.ms j->j∈kj ca
 bk:∀c∈kc ja,∀j,j<d.nJ->0<s.sh j c->j∈kj ca
 out:∀j∈kj ca,j∈wt\/some j=cur\/∀c,c<d.nC->d.win j c=true->s.sh j c<d.mx j c->c∈kc ja
 wt:∀j∈wt,j∈kj ca
def fresh (d:D) (s:St) (ca:List (Nat×Option Nat)) (c:Nat):List Nat:=((List.range d.nJ).filter fun j=>decide (0<s.sh j c)).filter fun j=>decide (j∉kj ca)
def fresh_mem {c j:Nat}:j∈fresh d s ca c↔j<d.nJ/\0<s.sh j c/\j∉kj ca:=by
 unfold fresh;rw[Br,Br,Ay];simp[and_assoc]
def fresh_nodup {c:Nat}:(fresh d s ca c).Nodup:=(List.nodup_range.sublist E5).sublist E5
def Srch.step {wt:List Nat} {j c:Nat} (S:Srch d s ja ca wt (some j)) (hj:j∈kj ca) (hc:c<d.nC) (hw:d.win j c=true) (ho:s.sh j c<d.mx j c) (hn:c∉kc ja):
  Srch d s (ja++[(c,j)]) (ca++(fresh d s ca c).map fun o=>(o,some c)) (wt++fresh d s ca c) (some j):=by
 have T:=S.tree;have ekj:kj (ca++(fresh d s ca c).map fun o=>(o,some c))=kj ca++fresh d s ca c:=by
  show (ca++_).map _=_;rw[Ax,Bg]
  congr 1
  exact List.map_id _
 have ekc:kc (ja++[(c,j)])=kc ja++[c]:=by show (ja++_).map _=_;rw[Ax];rfl
 have up:∀x,x∈kj ca->x∈kj (ca++(fresh d s ca c).map fun o=>(o,some c)):=fun x hx=>by rw[ekj];exact B8 _ hx
 have upc:∀x,x∈kc ja->x∈kc (ja++[(c,j)]):=fun x hx=>by rw[ekc];exact B8 _ hx
 have rcn:Rch d s (.inr c):= .take (T.rj j hj) hc hw ho
 refine⟨⟨?_,?_,?_,?_,?_,?_,?_⟩,fun x h1 h2=>up x (S.lack x h1 h2),?_,?_,?_⟩
 .rw[ekc];exact Cn.mpr ⟨T.nc,by simp,fun x hx y hy z=>by rw[Ao]at hy;subst hy;subst z;exact hn hx⟩
 .rw[ekj];exact Cn.mpr ⟨T.nj,fresh_nodup,fun x hx y hy z=>by subst z;exact (fresh_mem.mp hy).2.2 hx⟩
 .intro p hp
  rcases As.mp hp with m|m
  .obtain⟨a1,a2,a3,a4⟩:=T.cj p m;exact⟨a1,a2,a3,up _ a4⟩
  .rw[Ao]at m;subst m;exact⟨hc,hw,ho,up _ hj⟩
 .intro p hp
  rcases As.mp hp with m|m
  .obtain⟨a1,a2,a3⟩:=T.jc p m;exact⟨a1,a2,fun y hy=>⟨upc _ (a3 y hy).1,(a3 y hy).2⟩⟩
  .obtain⟨o,ho',rfl⟩:=Aj.mp m
   obtain⟨b1,b2,b3⟩:=fresh_mem.mp ho'
   refine⟨b1,(fun z=>by cases z),fun y hy=>?_⟩
   cases hy;exact⟨by rw[ekc];simp,b2⟩
 .intro i p hp y hy
  have inold:∀k,k∈kj ca->∀y,(k,some y)∈ca++(fresh d s ca c).map (fun o=>(o,some c))->(k,some y)∈ca:=fun k hk y hy=>by
   rcases As.mp hy with m|m
   .exact m
   .obtain⟨o,ho',e⟩:=Aj.mp m
    cases e;exact absurd hk (fresh_mem.mp ho').2.2
  by_cases hi:i<ja.length
  .rw[Bc hi]at hp
   rw[List.take_append_of_le_length (by lia)]
   exact T.ord i p hp y (inold _ (T.cj p (Al hp)).2.2.2 y hy)
  .have hi2:i=ja.length:=by
    have:=(An.mp hp).1;rw[Ar,Ci]at this;lia
   subst hi2;rw[Bl (Af _),Nat.sub_self]at hp;cases hp;rw[List.take_left']
   .exact ((T.jc _ (inold j hj y hy)).2.2 y rfl).1
   .rfl
 .intro x hx
  rw[ekj]at hx
  rcases As.mp hx with m|m
  .exact T.rj x m
  .obtain⟨b1,b2,_⟩:=fresh_mem.mp m;exact .give rcn b1 b2
 .intro x hx
  rw[ekc]at hx
  rcases As.mp hx with m|m
  .exact T.rc x m
  .rw[Ao]at m;subst m;exact rcn
 .intro x hx k h1 h2
  rw[ekc]at hx
  rcases As.mp hx with m|m
  .exact up k (S.bk x m k h1 h2)
  .rw[Ao]at m
   subst m;rw[ekj]
   by_cases z:k∈kj ca
   .exact B8 _ z
   .exact Bu _ (fresh_mem.mpr ⟨h1,h2,z⟩)
 .intro x hx
  rw[ekj]at hx
  rcases As.mp hx with m|m
  .rcases S.out x m with a|a|a
   .exact .inl (B8 _ a)
   .exact .inr (.inl a)
   .exact .inr (.inr fun c' h1 h2 h3=>upc _ (a c' h1 h2 h3))
  .exact .inl (Bu _ m)
 .intro x hx
  rcases As.mp hx with m|m
  .exact up x (S.wt x m)
  .rw[ekj];exact Bu _ m
def Srch.pop {wt:List Nat} {j:Nat} (S:Srch d s ja ca (j::wt) none):Srch d s ja ca wt (some j)/\j∈kj ca:=
 ⟨⟨S.tree,S.lack,S.bk,fun x hx=>by
  rcases S.out x hx with a|a|a
  .rcases Ag.mp a with e|m
   .exact .inr (.inl (by rw[e]))
   .exact .inl m
  .cases a
  .exact .inr (.inr a),fun x hx=>S.wt x (Ap _ hx)⟩,S.wt j Ak⟩
def Srch.done {wt:List Nat} {j:Nat} (S:Srch d s ja ca wt (some j)) (h:∀c,c<d.nC->d.win j c=true->s.sh j c<d.mx j c->c∈kc ja):Srch d s ja ca wt none:=
 ⟨S.tree,S.lack,S.bk,fun x hx=>by
  rcases S.out x hx with a|a|a
  .exact .inl a
  .cases a;exact .inr (.inr h)
  .exact .inr (.inr a),S.wt⟩
def Srch.closed (S:Srch d s ja ca [] none):Closed d s ja ca:=
 ⟨S.lack,fun j hj=>by
  rcases S.out j hj with a|a|a
  .cases a
  .cases a
  .exact a,S.bk⟩
def roots (d:D) (s:St):List Nat:=(List.range d.nJ).filter fun j=>decide (0<s.ms j)
def Srch.start:Srch d s [] ((roots d s).map fun j=>(j,none)) (roots d s) none:=by
 have ek:kj ((roots d s).map fun j=>(j,(none:Option Nat)))=roots d s:=by
  show List.map _ (List.map _ _)=_;rw[Bg];exact List.map_id _
 have hm:∀j,j∈roots d s↔j<d.nJ/\0<s.ms j:=fun j=>by unfold roots;rw[Br,Ay];simp
 refine⟨⟨Dl,by rw[ek];exact List.nodup_range.sublist E5,(fun p hp=>by cases hp),fun p hp=>?_,(fun i p hp=>by simp at hp),fun j hj=>?_,(fun c hc=>by cases hc)⟩,(fun j h1 h2=>by rw[ek];exact (hm j).mpr ⟨h1,h2⟩),(fun c hc=>by cases hc),(fun j hj=>.inl (by rw[ek]at hj;exact hj)),fun j hj=>by rw[ek];exact hj⟩
 .obtain⟨j,hj,rfl⟩:=Aj.mp hp
  obtain⟨a,b⟩:=(hm j).mp hj;exact⟨a,fun _=>b,(fun y hy=>by cases hy)⟩
 .rw[ek]at hj
  obtain⟨a,b⟩:=(hm j).mp hj;exact .lack a b
def Srch.jlen {wt:List Nat} {cur:Option Nat} (S:Srch d s ja ca wt cur):ca.length<=d.nJ/\ja.length<=d.nC:=by
 have sub:∀{l:List Nat} {n:Nat},l.Nodup->(∀x∈l,x<n)->l.length<=n:=fun {l n} nd h=>by
  have:=List.Nodup.sublist (l₁:=l) (List.Sublist.refl l) nd;have key:∀(l m:List Nat),l.Nodup->(∀x∈l,x∈m)->l.length<=m.length:=by
   intro l
   induction l with
   |nil=>intro m _ _;exact Bx _
   |cons x r ih=>
    intro m nd h;rw[Bn]at nd;have hx:x∈m:=h x Ak;have:=ih (m.erase x) nd.2 fun y hy=>(List.mem_erase_of_ne (fun (z:y=x)=>nd.1 (z ▸ hy))).mpr (h y (Ap _ hy))
    rw[List.length_erase_of_mem hx]at this;have:=List.length_pos_of_mem hx;rw[Bb];lia
  have:=key l (List.range n) nd fun x hx=>Ay.mpr (h x hx)
  rwa [Bq]at this
 have h1:=sub (l:=kj ca) (n:=d.nJ) S.tree.nj fun x hx=>by obtain⟨p,hp,rfl⟩:=Aj.mp hx;exact (S.tree.jc p hp).1
 have h2:=sub (l:=kc ja) (n:=d.nC) S.tree.nc fun x hx=>by obtain⟨p,hp,rfl⟩:=Aj.mp hx;exact (S.tree.cj p hp).1
 rw[Ae]at h1 h2;exact⟨h1,h2⟩
end
end Fl
namespace My
open PySem L2 L3
section
variable {h0:H3} {cs:List Cl} {js:List J} {st:Fl.St} {g:H3}
def opn (cs:List Cl) (js:List J) (st:Fl.St) (j:Nat):List Nat:=(qm cs (zY js j)).filter fun c=>decide (st.sh j c<(zY js j).b*clen cs c)
def Ph {j:J} {c:Nat} (h:c∈qm cs j):c<cs.length:=Ay.mp (Br.mp h).1
def Xy (hc:cs.length<=1000) {j:Nat} (hj:j<js.length):DT [.loc h0.length,.int (j:Int)] (hp h0 cs js st g)=.ok (.m (.lst ((opn cs js st j).map zc))) (hp h0 cs js st g):=by
 have em:=atL (f:=fun j=>V3.dT (yP cs j)) (GS hj)
 have er:=hp_r (h0:=h0) (cs:=cs) (st:=st) (g:=g) hj;have e:HP [some (.v (.loc h0.length)),some (.v (.int (j:Int)))] (hp h0 cs js st g)=.ok (.m (.lst ((opn cs js st j).map zc))) (hp h0 cs js st g):=by
  unfold HP opn;have eo:zu oneK (yP cs (zY js j))=some ((qm cs (zY js j)).map fun k:Nat=>(Sum.inl (k:Int),V3.int ((zY js j).b*clen cs k))):=by
   unfold yP;exact CM (f:=oneK) (g:=fun k=>(ik k,V3.int ((zY js j).b*clen cs k))) (k:=fun k:Nat=>(Sum.inl (k:Int),V3.int ((zY js j).b*clen cs k))) (fun k=>rfl) _
  have ei:((qm cs (zY js j)).map fun k:Nat=>((Sum.inl (k:Int):zM),V3.int ((zY js j).b*clen cs k))).map (fun kv=>V3.tup [kV3 kv.1,kv.2])=(qm cs (zY js j)).map fun k:Nat=>V3.tup [.int (k:Int),.int ((zY js j).b*clen cs k)]:=by rw[Bg];rfl
  refine DC (l:=qm cs (zY js j)) (enc:=fun k:Nat=>V3.tup [.int (k:Int),.int ((zY js j).b*clen cs k)]) (its:=[.dT (yP cs (zY js j))]) (ok:=fun _=>True) (fun s=> ∃a b,s=[a,b,some (.v (.int (j:Int))),some (.v (.loc h0.length))]) (fun c=>decide (st.sh j c<(zY js j).b*clen cs c)) zc (by (simp![iI,zf,zF,yK,qr,em,BH,eo,ei])<;>rfl) trivial (by
   have:=Cw (wn cs (zY js j)) (List.range cs.length);rw[Bq]at this;unfold qm;lia) ⟨none,none,rfl⟩ ?_
  rintro k s hk ⟨a,b,rfl⟩;have hk1:=Ph hk;exact⟨_,by (simp![])<;>rfl,⟨_,_,rfl⟩,by (simp![zf,zF,yK,qr,GT hj,BK er,qL hk1,Aq])<;>rfl,fun _=>⟨_,by (simp![])<;>rfl,rfl⟩⟩
 (simp![DT,JV,e])
def gvs (cs:List Cl) (js:List J) (st:Fl.St) (c:Nat):List Nat:=(List.range js.length).filter fun j=>decide (0<st.sh j c)
def Xz (hl:js.length<=12) {c:Nat} (hc:c<cs.length):Gz [.loc h0.length,.int (c:Int)] (hp h0 cs js st g)=.ok (.m (.lst ((gvs cs js st c).map zc))) (hp h0 cs js st g):=by
 have e:HQ [some (.v (.loc h0.length)),some (.v (.int (c:Int)))] (hp h0 cs js st g)=.ok (.m (.lst ((gvs cs js st c).map zc))) (hp h0 cs js st g):=by
  unfold HQ gvs;have ei:(List.range (shL js h0.length).length).map (fun k=>V3.tup [.int (k:Nat),(shL js h0.length).getD k .non])=(List.range js.length).map fun k:Nat=>V3.tup [.int (k:Int),.loc (h0.length+1+k)]:=by
   unfold shL;rw[Ae,Bq]
   refine D0 fun k hk=>?_
   have hk:=Ay.mp hk;rw[Cb];simp[hk]
  refine DC (l:=List.range js.length) (enc:=fun k:Nat=>V3.tup [.int (k:Int),.loc (h0.length+1+k)]) (its:=[.lst (shL js h0.length)]) (ok:=fun _=>True) (fun s=> ∃a b,s=[a,b,some (.v (.int (c:Int)))]) (fun j=>decide (0<st.sh j c)) zc (by (simp![AH,yA,zf,zF,yK,qr,ei])<;>rfl) trivial (by rw[Bq];lia) ⟨none,none,rfl⟩ ?_
  rintro k s hk ⟨a,b,rfl⟩;have hk1:=Ay.mp hk;have er:=hp_r (h0:=h0) (cs:=cs) (st:=st) (g:=g) hk1;exact⟨_,by (simp![])<;>rfl,⟨_,_,rfl⟩,by (simp![BK er,qL hc,Aq])<;>rfl,fun _=>⟨_,by (simp![])<;>rfl,rfl⟩⟩
 (simp![Gz,JW,e])
noncomputable abbrev rF (q:Nat):List (Str×V3):=[("job_ahead",.loc (q+2)),("cell_ahead",.loc (q+3))]
abbrev yk (ja:List (Nat×Nat)):List (MK×V3):=ja.map fun p=>(ik p.1,zc p.2)
abbrev yH (ca:List (Nat×Option Nat)):List (MK×V3):=ca.map fun p=>(ik p.1,encO p.2)
def gr (g:H3) (q:Nat) (wt:List Nat) (ja:List (Nat×Nat)) (ca:List (Nat×Option Nat)):H3:=g++[.lst (wt.map zc),.ins "Reach" (rF q),.dT (yk ja),.dT (yH ca)]
noncomputable def bq (h0:H3) (js:List J) (g:H3):Nat:=h0.length+1+(js.length+2)+g.length
variable {wt:List Nat} {ja:List (Nat×Nat)} {ca:List (Nat×Option Nat)} {q:Nat}
def jh {i:Nat} {x:H3}:(hp h0 cs js st (g++x))[bq h0 js g+i]? =x[i]? :=by
 unfold bq;rw[show h0.length+1+(js.length+2)+g.length+i=h0.length+1+(js.length+2)+(g.length+i) by lia,hp_g,Bl (by lia),show g.length+i-g.length=i by lia]
def DF {i:Nat} {x:H3} {c:C3}:(hp h0 cs js st (g++x)).set (bq h0 js g+i) c=hp h0 cs js st (g++x.set i c):=by
 unfold bq;rw[show h0.length+1+(js.length+2)+g.length+i=h0.length+1+(js.length+2)+(g.length+i) by lia,Xh,Ek _ _ (by lia),show g.length+i-g.length=i by lia]
def g_w:(hp h0 cs js st (gr g q wt ja ca))[bq h0 js g]? =some (.lst (wt.map zc)):=jh (i:=0)
def g_o:(hp h0 cs js st (gr g q wt ja ca))[bq h0 js g+1]? =some (.ins "Reach" (rF q)):=jh (i:=1)
def g_a:(hp h0 cs js st (gr g q wt ja ca))[bq h0 js g+2]? =some (.dT (yk ja)):=jh (i:=2)
def g_b:(hp h0 cs js st (gr g q wt ja ca))[bq h0 js g+3]? =some (.dT (yH ca)):=jh (i:=3)
def g_sw {w':List Nat}:(hp h0 cs js st (gr g q wt ja ca)).set (bq h0 js g) (.lst (w'.map zc))=hp h0 cs js st (gr g q w' ja ca):=DF (i:=0)
def g_sa {j':List (Nat×Nat)}:(hp h0 cs js st (gr g q wt ja ca)).set (bq h0 js g+2) (.dT (yk j'))=hp h0 cs js st (gr g q wt j' ca):=DF (i:=2)
def g_sb {c':List (Nat×Option Nat)}:(hp h0 cs js st (gr g q wt ja ca)).set (bq h0 js g+3) (.dT (yH c'))=hp h0 cs js st (gr g q wt ja c'):=DF (i:=3)
def insR:yw (hp h0 cs js st (gr g q wt ja ca)) (.x (.loc (bq h0 js g+1)))=some (("Reach" :Str),rF q):=by unfold yw;simp only[g_o]
def AU:(Str.ofString "Reach" ∈[Str.ofString "Reach"])=True:=by simp
def lkR:(rF q).lookup ("job_ahead":Str)=some (.loc (q+2))/\(rF q).lookup ("cell_ahead":Str)=some (.loc (q+3)):=by
 have a1:(Str.ofString "cell_ahead" ==Str.ofString "job_ahead")=false:=by decide+kernel
 have r:∀x:Str,(x==x)=true:=fun x=>by simp
 simp only[List.lookup,a1,r,and_self]
def keyA {c:Nat}:(z0 (yk ja) (.one (.inl (c:Int)))).isSome=decide (c∈Fl.kc ja):=by
 unfold z0
 induction ja with
 |nil=>rfl
 |cons p r ih=>
  rw[show yk (p::r)=(ik p.1,zc p.2)::yk r from rfl]
  by_cases e:ik p.1=ik c
  .rw[Gb (by simpa using e)]
   have:=DD e;simp[Fl.kc,this]
  .rw[Gc (by simpa using e),ih]
   have: ¬c=p.1:=fun z=>e (by rw[z])
   simp[Fl.kc,this]
def keyB {c:Nat}:(z0 (yH ca) (.one (.inl (c:Int)))).isSome=decide (c∈Fl.kj ca):=by
 unfold z0
 induction ca with
 |nil=>rfl
 |cons p r ih=>
  rw[show yH (p::r)=(ik p.1,encO p.2)::yH r from rfl]
  by_cases e:ik p.1=ik c
  .rw[Gb (by simpa using e)]
   have:=DD e;simp[Fl.kj,this]
  .rw[Gc (by simpa using e),ih]
   have: ¬c=p.1:=fun z=>e (by rw[z])
   simp[Fl.kj,this]
def newA {c j:Nat} (h:c∉Fl.kc ja):put3 (yk ja) (.one (.inl (c:Int))) (.int (j:Int))=yk (ja++[(c,j)]):=by
 rw[show yk (ja++[(c,j)])=yk ja++[(ik c,zc j)] by simp]
 refine KN fun m=>h ?_
 rw[Bg]at m;obtain⟨p,hp,e⟩:=Aj.mp m;exact Aj.mpr ⟨p,hp,DD e⟩
def newB {j:Nat} {o:Option Nat} (h:j∉Fl.kj ca):put3 (yH ca) (.one (.inl (j:Int))) (encO o)=yH (ca++[(j,o)]):=by
 rw[show yH (ca++[(j,o)])=yH ca++[(ik j,encO o)] by simp]
 refine KN fun m=>h ?_
 rw[Bg]at m;obtain⟨p,hp,e⟩:=Aj.mp m;exact Aj.mpr ⟨p,hp,DD e⟩
end
section
variable {h0:H3} {cs:List Cl} {js:List J} {st:Fl.St} {g:H3} {wt:List Nat} {ja:List (Nat×Nat)} {ca:List (Nat×Option Nat)} {q:Nat}
def KW {x:H3}:(hp h0 cs js st (g++x)).length=bq h0 js g+x.length:=by unfold bq;rw[Iu,Ar];lia
def X0:(Str.ofString "job_ahead" =Str.ofString "cell_ahead")=False:=eq_false (by decide+kernel)
def X1:qh [("Reach" :Str)] ("job_ahead" :Str) (pV 0) (yT eDnT) [some (.v (.loc (bq h0 js g+1))),some (.v (.loc (bq h0 js g))),none] (hp h0 cs js st (g++[.lst (wt.map zc),.ins "Reach" []]))=.nx [some (.v (.loc (bq h0 js g+1))),some (.v (.loc (bq h0 js g))),none] (hp h0 cs js st (g++[.lst (wt.map zc),.ins "Reach" [("job_ahead",.loc (bq h0 js g+2))],.dT []])):=by
 have e1:(hp h0 cs js st (g++[.lst (wt.map zc),.ins "Reach" []])).length=bq h0 js g+2:=KW;have e2:hp h0 cs js st (g++[C3.lst (wt.map zc),.ins "Reach" []])++[.dT []]=hp h0 cs js st (g++[.lst (wt.map zc),.ins "Reach" [],.dT []]):=by rw[EA];simp
 have e3:(hp h0 cs js st (g++[C3.lst (wt.map zc),.ins "Reach" [],.dT []]))[bq h0 js g+1]? =some (.ins "Reach" []):=jh (i:=1);have e4:∀c,(hp h0 cs js st (g++[C3.lst (wt.map zc),.ins "Reach" [],.dT []])).set (bq h0 js g+1) c=hp h0 cs js st (g++[.lst (wt.map zc),c,.dT []]):=fun c=>DF (i:=1)
 (simp![qh,yT,eDnT,e1,e2,e3,AI,AU,e4,Ao])
def X2:qh [("Reach" :Str)] ("cell_ahead" :Str) (pV 0) (yT eDnT) [some (.v (.loc (bq h0 js g+1))),some (.v (.loc (bq h0 js g))),none] (hp h0 cs js st (g++[.lst (wt.map zc),.ins "Reach" [("job_ahead",.loc (bq h0 js g+2))],.dT []]))=.nx [some (.v (.loc (bq h0 js g+1))),some (.v (.loc (bq h0 js g))),none] (hp h0 cs js st (gr g (bq h0 js g) wt [] [])):=by
 have e1:(hp h0 cs js st (g++[.lst (wt.map zc),.ins "Reach" [("job_ahead",.loc (bq h0 js g+2))],.dT []])).length=bq h0 js g+3:=KW;have e2:hp h0 cs js st (g++[C3.lst (wt.map zc),.ins "Reach" [("job_ahead",.loc (bq h0 js g+2))],.dT []])++[.dT []]=hp h0 cs js st (g++[.lst (wt.map zc),.ins "Reach" [("job_ahead",.loc (bq h0 js g+2))],.dT [],.dT []]):=by rw[EA];simp
 have e3:(hp h0 cs js st (g++[C3.lst (wt.map zc),.ins "Reach" [("job_ahead",.loc (bq h0 js g+2))],.dT [],.dT []]))[bq h0 js g+1]? =some (.ins "Reach" [("job_ahead",.loc (bq h0 js g+2))]):=jh (i:=1);have e4:∀c,(hp h0 cs js st (g++[C3.lst (wt.map zc),.ins "Reach" [("job_ahead",.loc (bq h0 js g+2))],.dT [],.dT []])).set (bq h0 js g+1) c=hp h0 cs js st (g++[.lst (wt.map zc),c,.dT [],.dT []]):=fun c=>DF (i:=1)
 (simp![qh,yT,eDnT,e1,e2,e3,AI,AU,e4,Ao,X0,gr,Bj])
def putB {s:S3} {p i:P3} {e:E3} {j:Nat} {o:Option Nat} (hp1:∀h,p s h=.ok (.x (.loc (bq h0 js g+1))) h) (hi:∀h,i s h=.ok (.x (.int (j:Int))) h) (he:∀h,e s h=.ok (.v (encO o)) h) (hn:j∉Fl.kj ca) (hl:ca.length<1000):
  qK (pE (zf [("Reach" :Str)] ("cell_ahead" :Str) p)) i e s (hp h0 cs js st (gr g (bq h0 js g) wt ja ca))=.nx s (hp h0 cs js st (gr g (bq h0 js g) wt ja (ca++[(j,o)]))):=by
 have e1:=newB (o:=o) hn;have e2:(yH ca).length<sizeLine:=by rw[Ae];have:=ym;lia
 have e3:=g_b (h0:=h0) (cs:=cs) (js:=js) (st:=st) (g:=g) (q:=bq h0 js g) (wt:=wt) (ja:=ja) (ca:=ca);have e4:=g_sb (h0:=h0) (cs:=cs) (js:=js) (st:=st) (g:=g) (q:=bq h0 js g) (wt:=wt) (ja:=ja) (ca:=ca) (c':=ca++[(j,o)])
 (simp![qK,he,hp1,hi,zf,insR,AU,lkR,yU,e3,C3.dc,Dc.put,Dc.len,qT,Aq,e1,e2,Dc.c,e4])
def putA {s:S3} {p i:P3} {e:E3} {j c:Nat} (hp1:∀h,p s h=.ok (.x (.loc (bq h0 js g+1))) h) (hi:∀h,i s h=.ok (.x (.int (c:Int))) h) (he:∀h,e s h=.ok (.v (.int (j:Int))) h) (hn:c∉Fl.kc ja) (hl:ja.length<1000):
  qK (pE (zf [("Reach" :Str)] ("job_ahead" :Str) p)) i e s (hp h0 cs js st (gr g (bq h0 js g) wt ja ca))=.nx s (hp h0 cs js st (gr g (bq h0 js g) wt (ja++[(c,j)]) ca)):=by
 have e1:=newA (j:=j) hn;have e2:(yk ja).length<sizeLine:=by rw[Ae];have:=ym;lia
 have e3:=g_a (h0:=h0) (cs:=cs) (js:=js) (st:=st) (g:=g) (q:=bq h0 js g) (wt:=wt) (ja:=ja) (ca:=ca);have e4:=g_sa (h0:=h0) (cs:=cs) (js:=js) (st:=st) (g:=g) (q:=bq h0 js g) (wt:=wt) (ja:=ja) (ca:=ca) (j':=ja++[(c,j)])
 (simp![qK,he,hp1,hi,zf,insR,AU,lkR,yU,e3,C3.dc,Dc.put,Dc.len,qT,Aq,e1,e2,Dc.c,e4])
def X4 (nd:wt.Nodup) (hl:wt.length<=12):Gy [.loc (bq h0 js g+1),.loc (bq h0 js g)] (hp h0 cs js st (g++[.lst (wt.map zc),.ins "Reach" []]))=.ok (.v .non) (hp h0 cs js st (gr g (bq h0 js g) wt [] (wt.map fun j=>(j,none)))):=by
 show Is _ _ _;unfold Gy JU JT
 refine yY rfl ?_
 refine zH X1 (zH X2 ?_)
 have gw:=g_w (h0:=h0) (cs:=cs) (js:=js) (st:=st) (g:=g) (q:=bq h0 js g) (wt:=wt) (ja:=[]) (ca:=[]);obtain⟨s',h',e,y2,rfl,rfl⟩:=DA (g:=gN 2) (b:=qK (pE (zf [("Reach" :Str)] ("cell_ahead" :Str) (pV 0))) (pV 2) (eC .non)) (s:=[some (.v (.loc (bq h0 js g+1))),some (.v (.loc (bq h0 js g))),none]) (h:=hp h0 cs js st (gr g (bq h0 js g) wt [] [])) (it:=iL (pV 1)) (l:=wt) (enc:=zc) (its:=[.loc (bq h0 js g)]) (ok:=fun h=>h[bq h0 js g]? =some (.lst (wt.map zc))) (by (simp![iL,yA,gw])<;>rfl) (fun i s h=> ∃y2,s=[some (.v (.loc (bq h0 js g+1))),some (.v (.loc (bq h0 js g))),y2]/\h=hp h0 cs js st (gr g (bq h0 js g) wt [] ((wt.take i).map fun j=>(j,none)))) (by rintro i s h ⟨_,_,rfl⟩;exact g_w) ⟨none,rfl,rfl⟩ (by
  rintro i j s h hi ⟨y2,rfl,rfl⟩;have hn:j∉Fl.kj ((wt.take i).map fun j=>(j,(none:Option Nat))):=fun m=>by
   have ek:Fl.kj ((wt.take i).map fun j=>(j,(none:Option Nat)))=wt.take i:=by
    show List.map _ (List.map _ _)=_;rw[Bg];exact List.map_id _
   rw[ek]at m;have e0:wt=wt.take i++j::wt.drop (i+1):=by rw[<-CB hi,Fz]
   rw[e0,Cn]at nd;exact nd.2.2 _ m _ Ak rfl
  have:=putB (h0:=h0) (cs:=cs) (js:=js) (st:=st) (g:=g) (wt:=wt) (ja:=[]) (ca:=(wt.take i).map fun j=>(j,none)) (s:=[some (.v (.loc (bq h0 js g+1))),some (.v (.loc (bq h0 js g))),some (.v (.int (j:Int)))]) (p:=pV 0) (i:=pV 2) (e:=eC .non) (j:=j) (o:=none) (fun _=>rfl) (fun _=>rfl) (fun _=>rfl) hn (by rw[Ae,Be];lia)
  refine⟨_,_,by (simp![this])<;>rfl,_,rfl,?_⟩
  rw[jJ hi,Ax];rfl)
 rw[C7]at e;unfold Is
 (simp![e])
end
section
variable {h0:H3} {cs:List Cl} {js:List J} {st:Fl.St} {g:H3} {wt:List Nat} {ja:List (Nat×Nat)} {ca:List (Nat×Option Nat)}
abbrev rS (h0:H3) (js:List J) (g:H3) (j:Nat) (y4 y5 y6:Option Vl):S3:=[some (.v (.loc h0.length)),some (.v (.loc (bq h0 js g))),some (.v (.loc (bq h0 js g+1))),some (.v (.int (j:Int))),y4,y5,y6]
def KY:D3:=(sSeq (sFz 3) (sSeq (qK (pE (zf [("Reach" :Str)] ("job_ahead" :Str) (pV 2))) (pV 4) (eV 3)) (sSeq (sFz 2) (sSeq (sSet 5 G0) (sSeq (sFz 5) (sSeq G6 (sSeq (sFz 5) (yR jB (pV 1) (aCons (pV 5) aNil)))))))))
def X5 (hl:js.length<=12) {c j:Nat} (hc:c<cs.length) (y5 y6:Option Vl):G0 (rS h0 js g j (some (.v (.int (c:Int)))) y5 y6) (hp h0 cs js st (gr g (bq h0 js g) wt ja ca))=.ok (.m (.lst ((Fl.fresh (fd cs js) st ca c).map zc))) (hp h0 cs js st (gr g (bq h0 js g) wt ja ca)):=by
 unfold G0;have ej:=Xz (h0:=h0) (cs:=cs) (js:=js) (st:=st) (g:=gr g (bq h0 js g) wt ja ca) hl hc;have nm:=qU (n:=h0.length) (cs:=cs) (js:=js) (m:="jobs_behind") (by decide+kernel)
 have gb:=g_b (h0:=h0) (cs:=cs) (js:=js) (st:=st) (g:=g) (q:=bq h0 js g) (wt:=wt) (ja:=ja) (ca:=ca)
 refine DC (l:=gvs cs js st c) (enc:=zc) (its:=[.lst ((gvs cs js st c).map zc)]) (ok:=fun _=>True) (fun s=> ∃a,s=[a,some (.v (.loc (bq h0 js g+1)))]) (fun j=>decide (j∉Fl.kj ca)) zc (by (simp![iL,yA,zS,zF,nm,ej])<;>rfl) trivial (by
  have:=Cw (fun j=>decide (0<st.sh j c)) (List.range js.length)
  rw[Bq]at this;unfold gvs;lia) ⟨none,rfl⟩ ?_
 rintro k s hk ⟨a,rfl⟩;have e:(!decide (k∈Fl.kj ca))=decide (k∉Fl.kj ca):=by simp
 exact⟨_,by (simp![])<;>rfl,⟨_,rfl⟩,by (simp![oDIn,zf,insR,AU,lkR,yU,gb,C3.dc,Dc.get,qT,Aq,keyB,e])<;>rfl,fun _=>⟨_,by (simp![])<;>rfl,rfl⟩⟩
def X6 {c j:Nat} (fr:List Nat) (nd:fr.Nodup) (hn:∀x∈fr,x∉Fl.kj ca) (hl:ca.length+fr.length<1000) (y6:Option Vl):
  ∃y6',G6 (rS h0 js g j (some (.v (.int (c:Int)))) (some (.v (.lst (fr.map zc)))) y6) (hp h0 cs js st (gr g (bq h0 js g) wt ja ca))=.nx (rS h0 js g j (some (.v (.int (c:Int)))) (some (.v (.lst (fr.map zc)))) y6') (hp h0 cs js st (gr g (bq h0 js g) wt ja (ca++fr.map fun o=>(o,some c)))):=by
 unfold G6;obtain⟨s',h',e,y6',rfl,rfl⟩:=DA (g:=gN 6) (b:=qK (pE (zf [("Reach" :Str)] ("cell_ahead" :Str) (pV 2))) (pV 6) (eV 4)) (s:=rS h0 js g j (some (.v (.int (c:Int)))) (some (.v (.lst (fr.map zc)))) y6) (h:=hp h0 cs js st (gr g (bq h0 js g) wt ja ca)) (it:=iL (pV 5)) (l:=fr) (enc:=zc) (its:=[.lst (fr.map zc)]) (ok:=fun _=>True) (by (simp![iL,yA])<;>rfl) (fun i s h=> ∃y6,s=rS h0 js g j (some (.v (.int (c:Int)))) (some (.v (.lst (fr.map zc)))) y6/\h=hp h0 cs js st (gr g (bq h0 js g) wt ja (ca++(fr.take i).map fun o=>(o,some c)))) (fun _ _ _ _=>trivial) ⟨y6,rfl,by simp⟩ (by
   rintro i o s h hi ⟨y6,rfl,rfl⟩;have hno:o∉Fl.kj (ca++(fr.take i).map fun o=>(o,some c)):=fun m=>by
    have m:o∈(ca++(fr.take i).map fun o=>(o,some c)).map (·.1):=m
    rw[Ax,Bg,As]at m
    rcases m with m|m
    .exact hn o (Al hi) m
    .obtain⟨x,hx,e⟩:=Aj.mp m
     have e:x=o:=e;subst e;have e0:fr=fr.take i++x::fr.drop (i+1):=by rw[<-CB hi,Fz]
     rw[e0,Cn]at nd;exact nd.2.2 _ hx _ Ak rfl
   have:=putB (h0:=h0) (cs:=cs) (js:=js) (st:=st) (g:=g) (wt:=wt) (ja:=ja) (ca:=ca++(fr.take i).map fun o=>(o,some c)) (s:=rS h0 js g j (some (.v (.int (c:Int)))) (some (.v (.lst (fr.map zc)))) (some (.v (.int (o:Int))))) (p:=pV 2) (i:=pV 6) (e:=eV 4) (j:=o) (o:=some c) (fun _=>rfl) (fun _=>rfl) (fun _=>rfl) hno (by rw[Ar,Ae,Be];lia)
   refine⟨_,_,by (simp![this])<;>rfl,_,rfl,?_⟩
   rw[jJ hi,Ax,<-B5];rfl)
 rw[C7]at e;exact⟨_,e⟩
def X7 (hl:js.length<=12) (hcl:cs.length<=900) {c j:Nat} (S:Fl.Srch (fd cs js) st ja ca wt (some j)) (hj:j∈Fl.kj ca) (hc:c∈opn cs js st j) (hcn:c∉Fl.kc ja) (hwl:wt.length<=100) (y5 y6:Option Vl):
  ∃y5' y6',KY (rS h0 js g j (some (.v (.int (c:Int)))) y5 y6) (hp h0 cs js st (gr g (bq h0 js g) wt ja ca))=.nx (rS h0 js g j (some (.v (.int (c:Int)))) y5' y6') (hp h0 cs js st (gr g (bq h0 js g) (wt++Fl.fresh (fd cs js) st ca c) (ja++[(c,j)]) (ca++(Fl.fresh (fd cs js) st ca c).map fun o=>(o,some c)))):=by
 obtain⟨l1,l2⟩:=S.jlen;have l1:ca.length<=js.length:=l1;have l2:ja.length<=cs.length:=l2;have hcc:c<cs.length:=Ph (Br.mp hc).1;have pa:=putA (h0:=h0) (cs:=cs) (js:=js) (st:=st) (g:=g) (wt:=wt) (ja:=ja) (ca:=ca) (s:=rS h0 js g j (some (.v (.int (c:Int)))) y5 y6) (p:=pV 2) (i:=pV 4) (e:=eV 3) (j:=j) (c:=c) (fun _=>rfl) (fun _=>rfl) (fun _=>rfl) hcn (by lia)
 have fo:=fun y5 y6=>X5 (h0:=h0) (cs:=cs) (js:=js) (st:=st) (g:=g) (wt:=wt) (ja:=ja++[(c,j)]) (ca:=ca) hl (j:=j) hcc y5 y6
 have hfl:(Fl.fresh (fd cs js) st ca c).length<=12:=by
  have h1:=Cw (fun j=>decide (j∉Fl.kj ca)) ((List.range js.length).filter fun j=>decide (0<st.sh j c))
  have h2:=Cw (fun j=>decide (0<st.sh j c)) (List.range js.length)
  rw[Bq]at h2;unfold Fl.fresh;show (List.filter _ (List.filter _ (List.range js.length))).length<=12;lia
 obtain⟨y6',w1⟩:=X6 (h0:=h0) (cs:=cs) (js:=js) (st:=st) (g:=g) (wt:=wt) (ja:=ja++[(c,j)]) (ca:=ca) (c:=c) (j:=j) (Fl.fresh (fd cs js) st ca c) Fl.fresh_nodup (fun x hx=>(Fl.fresh_mem.mp hx).2.2) (by lia) y6
 have gw:=g_w (h0:=h0) (cs:=cs) (js:=js) (st:=st) (g:=g) (q:=bq h0 js g) (wt:=wt) (ja:=ja++[(c,j)]) (ca:=ca++(Fl.fresh (fd cs js) st ca c).map fun o=>(o,some c))
 have gs:=g_sw (h0:=h0) (cs:=cs) (js:=js) (st:=st) (g:=g) (q:=bq h0 js g) (wt:=wt) (ja:=ja++[(c,j)]) (ca:=ca++(Fl.fresh (fd cs js) st ca c).map fun o=>(o,some c)) (w':=wt++Fl.fresh (fd cs js) st ca c)
 have ex:jB (wt.map zc) [.lst ((Fl.fresh (fd cs js) st ca c).map zc)]=some ((wt++Fl.fresh (fd cs js) st ca c).map zc,.non):=by
  rw[KM (by rw[Ae,Ae];have:=ym;lia),Ax]
 refine⟨some (.v (.lst ((Fl.fresh (fd cs js) st ca c).map zc))),y6',?_⟩
 unfold KY
 refine (qS (by (simp![])<;>rfl)).trans ?_
 refine (qS pa).trans ?_
 refine (qS (by (simp![])<;>rfl)).trans ?_
 refine (qS (s1:=rS h0 js g j (some (.v (.int (c:Int)))) (some (.m (.lst ((Fl.fresh (fd cs js) st ca c).map zc)))) y6) (by (simp![fo])<;>rfl)).trans ?_
 refine (qS (s1:=rS h0 js g j (some (.v (.int (c:Int)))) (some (.v (.lst ((Fl.fresh (fd cs js) st ca c).map zc)))) y6) (by (simp![])<;>rfl)).trans ?_
 refine (qS w1).trans ?_
 refine (qS (s1:=rS h0 js g j (some (.v (.int (c:Int)))) (some (.v (.lst ((Fl.fresh (fd cs js) st ca c).map zc)))) y6') (by (simp![])<;>rfl)).trans ?_
 (simp![gw,ex,gs])
end
section
variable {h0:H3} {cs:List Cl} {js:List J} {st:Fl.St} {g:H3} {wt:List Nat} {ja:List (Nat×Nat)} {ca:List (Nat×Option Nat)}
def At (h0:H3) (cs:List Cl) (js:List J) (st:Fl.St) (g:H3) (n:Nat) (cur:Option Nat) (h:H3) (wt:List Nat) (ja:List (Nat×Nat)) (ca:List (Nat×Option Nat)):Prop:=
 h=hp h0 cs js st (gr g (bq h0 js g) wt ja ca)/\Fl.Srch (fd cs js) st ja ca wt cur/\wt.length+(js.length-ca.length)<=n
def X8 (hl:js.length<=12) (hcl:cs.length<=900) {j n:Nat} (hj:j∈Fl.kj ca) (hn:n<=12) {h:H3} (A:At h0 cs js st g n (some j) h wt ja ca) (y4 y5 y6:Option Vl):
  ∃y4' y5' y6' h' wt' ja' ca',HS (rS h0 js g j y4 y5 y6) h=.nx (rS h0 js g j y4' y5' y6') h'/\At h0 cs js st g n none h' wt' ja' ca':=by
 obtain⟨rfl,S,hm⟩:=A;have hjn:j<js.length:=by
  obtain⟨p,hp,e⟩:=Aj.mp hj;have:=(S.tree.jc p hp).1;rw[show p.1=j from e]at this;exact this
 have eb:=Xy (h0:=h0) (cs:=cs) (js:=js) (st:=st) (g:=gr g (bq h0 js g) wt ja ca) (by lia) hjn
 have nm:=qU (n:=h0.length) (cs:=cs) (js:=js) (m:="cells_behind") (by decide+kernel)
 unfold HS;obtain⟨s',h',e,y4',y5',y6',wt',ja',ca',rfl,A',hj',hin⟩:=DA (g:=gN 4) (b:=(sIf (tE (eOp (oDIn true) (pV 4) (pE (zf [("Reach" :Str)] ("job_ahead" :Str) (pV 2))))) KY sSkip)) (s:=rS h0 js g j y4 y5 y6) (h:=hp h0 cs js st (gr g (bq h0 js g) wt ja ca)) (it:=iL (pE (zS ("Flow" :Str) ("cells_behind" :Str) DT (pV 0) (aCons (pV 3) aNil)))) (l:=opn cs js st j) (enc:=zc) (its:=[.lst ((opn cs js st j).map zc)]) (ok:=fun _=>True) (by (simp![iL,yA,zS,zF,nm,eb])<;>rfl)
  (fun i s h=> ∃y4 y5 y6 wt ja ca,s=rS h0 js g j y4 y5 y6/\At h0 cs js st g n (some j) h wt ja ca/\j∈Fl.kj ca/\∀x∈(opn cs js st j).take i,x∈Fl.kc ja) (fun _ _ _ _=>trivial) ⟨y4,y5,y6,wt,ja,ca,rfl,⟨rfl,S,hm⟩,hj,by simp⟩ (by
   rintro i c s h hi ⟨y4,y5,y6,wt,ja,ca,rfl,⟨rfl,S,hm⟩,hj,hin⟩;have hc:=Al hi;have ga:=g_a (h0:=h0) (cs:=cs) (js:=js) (st:=st) (g:=g) (q:=bq h0 js g) (wt:=wt) (ja:=ja) (ca:=ca)
   by_cases hcn:c∈Fl.kc ja
   .have e:(z0 (yk ja) (.one (.inl (c:Int)))).isSome=true:=by rw[keyA];simpa using hcn
    refine⟨rS h0 js g j (some (.v (.int (c:Int)))) y5 y6,_,by (simp![oDIn,zf,insR,AU,lkR,yU,ga,C3.dc,Dc.get,qT,Aq,e,Di])<;>rfl,_,_,_,wt,ja,ca,rfl,⟨rfl,S,hm⟩,hj,fun x hx=>?_⟩
    rw[jJ hi,As,Ao]at hx
    rcases hx with m|rfl
    .exact hin x m
    .exact hcn
   .have e:(z0 (yk ja) (.one (.inl (c:Int)))).isSome=false:=by rw[keyA];simpa using hcn
    obtain⟨y5',y6',eb⟩:=X7 (h0:=h0) (g:=g) hl hcl S hj hc hcn (by lia) y5 y6
    obtain⟨hp1,ho⟩:=Br.mp hc;obtain⟨hr1,hw⟩:=Br.mp hp1;have S':=S.step hj (Ay.mp hr1) hw (Er ho) hcn;obtain⟨l1,_⟩:=S'.jlen;have l1:(ca++(Fl.fresh (fd cs js) st ca c).map fun o=>(o,some c)).length<=js.length:=l1
    refine⟨_,_,by (simp![oDIn,zf,insR,AU,lkR,yU,ga,C3.dc,Dc.get,qT,Aq,e,Ej,eb])<;>rfl,_,_,_,_,_,_,rfl,⟨rfl,S',?_⟩,?_,fun x hx=>?_⟩
    .rw[Ar,Ae]at l1
     rw[Ar,Ar,Ae];lia
    .show j∈List.map _ _
     rw[Ax];exact B8 _ hj
    .show x∈List.map _ _
     rw[Ax];rw[jJ hi,As,Ao]at hx
     rcases hx with m|rfl
     .exact B8 _ (hin x m)
     .exact Bu _ (by simp))
 rw[C7]at hin;obtain⟨rfl,S',hm'⟩:=A'
 refine⟨y4',y5',y6',_,wt',ja',ca',e,rfl,S'.done fun c h1 h2 h3=>hin c ?_,hm'⟩
 exact Br.mpr ⟨Br.mpr ⟨Ay.mpr h1,h2⟩,B2 h3⟩
def pop0 {x:V3} {r:List V3} (h:r.length<1000):DN (x::r) [.int 0]=some (r,x):=by
 unfold DN;simp only[];rw[Ab (by decide)]
 have e:seqIndex? 0 (x::r).length=some 0:=by
  unfold seqIndex?;simp
 simp only[e];rfl
def X9 (h0:H3) (cs:List Cl) (js:List J) (st:Fl.St) (g:H3) (R:Res Vl):Prop:=∃ja ca,Fl.Tree (fd cs js) st ja ca/\Fl.Closed (fd cs js) st ja ca/\R=.ok (.v (.loc (bq h0 js g+1))) (hp h0 cs js st (gr g (bq h0 js g) [] ja ca))
def Pi (hl:js.length<=12) (hcl:cs.length<=900):X9 h0 cs js st g (DU [.loc h0.length] (hp h0 cs js st g)):=by
 unfold DU JY JX
 refine yY rfl ?_
 have em:=hp_m (h0:=h0) (cs:=cs) (js:=js) (st:=st) (g:=g);have hrl:(Fl.roots (fd cs js) st).length<=js.length:=by
  have:=Cw (fun j=>decide (0<st.ms j)) (List.range js.length)
  rw[Bq]at this;exact this
 have e1:HR [some (.v (.loc h0.length)),none,none,none,none,none,none] (hp h0 cs js st g)=.ok (.m (.lst ((Fl.roots (fd cs js) st).map zc))) (hp h0 cs js st g):=by
  unfold HR;have ei:(List.range (zA js.length st.ms).length).map (fun k=>V3.tup [.int (k:Nat),(zA js.length st.ms).getD k .non])=(List.range js.length).map fun k:Nat=>V3.tup [.int (k:Int),.int (st.ms k)]:=by
   rw[Ir]
   refine D0 fun k hk=>?_
   have hk:=Ay.mp hk;rw[Cb];simp[hk]
  refine DC (l:=List.range js.length) (enc:=fun k:Nat=>V3.tup [.int (k:Int),.int (st.ms k)]) (its:=[.loc (h0.length+1+js.length)]) (ok:=fun h=>h[h0.length+1+js.length]? =some (.lst (zA js.length st.ms))) (fun s=> ∃a b,s=[a,b]) (fun j=>decide (0<st.ms j)) zc (by (simp![AH,yA,zf,zF,yK,qr,em,ei])<;>rfl) em (by rw[Bq];lia) ⟨none,none,rfl⟩ ?_
  rintro k s hk ⟨a,b,rfl⟩;exact⟨_,by (simp![])<;>rfl,⟨_,_,rfl⟩,by (simp![])<;>rfl,fun _=>⟨_,by (simp![])<;>rfl,rfl⟩⟩
 have l0:(hp h0 cs js st g).length=bq h0 js g:=Iu;have e2:hp h0 cs js st g++[C3.lst ((Fl.roots (fd cs js) st).map zc)]=hp h0 cs js st (g++[.lst ((Fl.roots (fd cs js) st).map zc)]):=EA;have l1:(hp h0 cs js st (g++[C3.lst ((Fl.roots (fd cs js) st).map zc)])).length=bq h0 js g+1:=KW;have e3:hp h0 cs js st (g++[C3.lst ((Fl.roots (fd cs js) st).map zc)])++[.ins "Reach" []]=hp h0 cs js st (g++[.lst ((Fl.roots (fd cs js) st).map zc),.ins "Reach" []]):=by rw[EA];simp
 have e4:=X4 (h0:=h0) (cs:=cs) (js:=js) (st:=st) (g:=g) (wt:=Fl.roots (fd cs js) st) (List.nodup_range.sublist E5) (by lia)
 refine zH (s1:=[some (.v (.loc h0.length)),some (.v (.loc (bq h0 js g))),none,none,none,none,none]) (h1:=hp h0 cs js st (g++[.lst ((Fl.roots (fd cs js) st).map zc)])) (by (simp![e1,yT,l0,e2])) ?_
 refine zH (s1:=[some (.v (.loc h0.length)),some (.v (.loc (bq h0 js g))),some (.v (.loc (bq h0 js g+1))),none,none,none,none]) (h1:=hp h0 cs js st (gr g (bq h0 js g) (Fl.roots (fd cs js) st) [] ((Fl.roots (fd cs js) st).map fun j=>(j,none)))) (by (simp![eNew,l1,e3,e4])) ?_
 refine OT (n:=js.length) (fun n s h=>n<=12/\∃y3 y4 y5 y6 wt ja ca,s=[some (.v (.loc h0.length)),some (.v (.loc (bq h0 js g))),some (.v (.loc (bq h0 js g+1))),y3,y4,y5,y6]/\At h0 cs js st g n none h wt ja ca) ⟨hl,none,none,none,none,_,_,_,rfl,rfl,.start,by rw[Ae];lia⟩ ?_
 rintro n s h ⟨hn,y3,y4,y5,y6,wt,ja,ca,rfl,rfl,S,hm⟩;have gw:=g_w (h0:=h0) (cs:=cs) (js:=js) (st:=st) (g:=g) (q:=bq h0 js g) (wt:=wt) (ja:=ja) (ca:=ca);cases wt with
 |nil=>
  refine .inl ⟨_,by (simp![gw,Fy,Bj,Aq,Di])<;>rfl,ja,ca,S.tree,S.closed,?_⟩
  (simp![])
 |cons j r=>
  obtain⟨S1,hj⟩:=S.pop;rw[Bb]at hm;have gs:=g_sw (h0:=h0) (cs:=cs) (js:=js) (st:=st) (g:=g) (q:=bq h0 js g) (wt:=j::r) (ja:=ja) (ca:=ca) (w':=r);have pp:DN (V3.int (j:Int)::r.map zc) [.int 0]=some (r.map zc,.int (j:Int)):=pop0 (by rw[Ae];lia)
  have ne:((j::r).map zc).isEmpty=false:=rfl;obtain⟨y4',y5',y6',h',wt',ja',ca',e,A'⟩:=X8 (h0:=h0) (cs:=cs) (js:=js) (st:=st) (g:=g) (n:=n-1) hl hcl hj (by lia) ⟨rfl,S1,by lia⟩ y4 y5 y6
  exact .inr ⟨_,_,_,n-1,by (simp![gw,ne,Aq,Ej])<;>rfl,by (simp![HB,gw,pp,gs,e])<;>rfl,by lia,by lia,_,_,_,_,_,_,_,rfl,A'⟩
end
section
variable {h0:H3} {cs:List Cl} {js:List J} {st:Fl.St} {g:H3} {wt:List Nat} {ja:List (Nat×Nat)} {ca:List (Nat×Option Nat)}
def Pj {β:Type} {l:List (Nat×β)} {f:β->V3} (nd:(l.map (·.1)).Nodup) {k:Nat} {v:β} (h:(k,v)∈l):z0 (l.map fun p=>(ik p.1,f p.2)) (.one (.inl (k:Int)))=some (f v):=by
 unfold z0
 induction l with
 |nil=>cases h
 |cons p r ih=>
  rw[Ah,Bn]at nd;rw[Ah]
  by_cases e:ik p.1=ik k
  .rw[Gb (by simpa using e)]
   have e:=DD e
   rcases Ag.mp h with z|m
   .rw[<-z];rfl
   .exact absurd (Aj.mpr ⟨_,m,e.symm⟩) nd.1
  .rw[Gc (by simpa using e)]
   rcases Ag.mp h with z|m
   .exact absurd (by rw[<-z]) e
   .exact ih nd.2 m
def XA (T:Fl.Tree (fd cs js) st ja ca) {c:Nat} {ps:List Fl.Sp} (P:Fl.Pth ja ca c ps) (hl:ps.length<=100):G7 [.loc (bq h0 js g+1),.int (c:Int)] (hp h0 cs js st (gr g (bq h0 js g) wt ja ca))=.ok (.m (.lst (ps.map zE))) (hp h0 cs js st (gr g (bq h0 js g) wt ja ca)):=by
 show Is _ _ _;unfold G7 Ka JZ
 refine yY rfl ?_
 refine zH (by (simp![])<;>rfl) ?_
 have ga:=g_a (h0:=h0) (cs:=cs) (js:=js) (st:=st) (g:=g) (q:=bq h0 js g) (wt:=wt) (ja:=ja) (ca:=ca);have gb:=g_b (h0:=h0) (cs:=cs) (js:=js) (st:=st) (g:=g) (q:=bq h0 js g) (wt:=wt) (ja:=ja) (ca:=ca)
 refine OT (n:=ps.length) (fun n s h=> ∃cur acc rest y3,s=[some (.v (.loc (bq h0 js g+1))),some (.v (encO cur)),some (.m (.lst (acc.map zE))),y3]/\h=hp h0 cs js st (gr g (bq h0 js g) wt ja ca)/\acc++rest=ps/\n=rest.length/\match cur with|none=>rest=[] | some c=>Fl.Pth ja ca c rest) ⟨some c,[],ps,none,rfl,rfl,rfl,rfl,P⟩ ?_
 rintro n s h ⟨cur,acc,rest,y3,rfl,rfl,hr,rfl,hc⟩;cases cur with
 |none=>
  have hc:rest=[]:=hc;subst hc;rw[B1]at hr;subst hr
  refine .inl ⟨_,by (simp![])<;>rfl,?_⟩
  unfold Is
  (simp![])
 |some x=>
  have hc:Fl.Pth ja ca x rest:=hc;have hal:acc.length<=100:=by have:=congrArg List.length hr;rw[Ar]at this;lia
  have hap:∀y,yo (acc.map zE) [y]=some (acc.map zE++[y],.non):=fun y=>mAppend_ok (by rw[Ae];have:=ym;lia)
  obtain⟨j,gv,r,rfl,m1,m2⟩:=hc.head;have va:=Pj (f:=zc) T.nc m1;have vb:=Pj (f:=encO) T.nj m2
  refine .inr ⟨_,[some (.v (.loc (bq h0 js g+1))),some (.v (encO gv)),some (.m (.lst ((acc++[(j,x,gv)]).map zE))),some (.v (.int (j:Int)))],hp h0 cs js st (gr g (bq h0 js g) wt ja ca),r.length,by (simp![])<;>rfl,?_,by simp,gv,acc++[(j,x,gv)],r,_,rfl,rfl,by rw[B5];exact hr,rfl,?_⟩
  .rw[Ax]
   (simp![AK,zf,insR,AU,lkR,yU,ga,gb,C3.dc,Dc.get,qT,Aq,va,vb,hap])
  .cases hc with
   |one _ _=>rfl
   |cons _ _ h=>exact h
def XB (h0:H3) (cs:List Cl) (js:List J) (st:Fl.St) (R:Res Vl):Prop:=∃ps g',R=.ok (.m (.lst (ps.map zE))) (hp h0 cs js st g')/\
 ((ps=[]/\∀c,Fl.Rch (fd cs js) st (.inr c)->st.sp c<=0)\/∃c l,Fl.Ch c l ps/\Fl.In (fd cs js) ps/\(ps.map (·.1)).Nodup/\0<st.ms l/\l<js.length/\c<cs.length/\0<st.sp c/\(∀p∈ps,st.sh p.1 p.2.1<(fd cs js).mx p.1 p.2.1)/\∀p∈ps,∀y,p.2.2=some y->0<st.sh p.1 y)
def XC:(yk ja).map (fun kv=>mkV3 kv.1)=(Fl.kc ja).map zc:=by
 show List.map _ (List.map _ _)=List.map _ (List.map _ _);rw[Bg,Bg];rfl
def noMR {q:Nat} {m:String} (h:["job_ahead","cell_ahead"].all (fun x=> !(Str.ofString m==Str.ofString x))=true):(rF q).lookup (Str.ofString m)=none:=by
 simp only[Et,List.all_nil,Bool.and_true,Bi,Bool.not_eq_true']at h;obtain⟨a,b⟩:=h;simp only[List.lookup,a,b]
def Pk (hl:js.length<=12) (hcl:cs.length<=900) (gd:Fl.Good (fd cs js) st):XB h0 cs js st (CT [.loc h0.length] (hp h0 cs js st g)):=by
 unfold CT Kc Kb
 refine yY rfl ?_
 obtain⟨ja,ca,T,C,er⟩:=Pi (h0:=h0) (cs:=cs) (js:=js) (st:=st) (g:=g) hl hcl;have nm:=qU (n:=h0.length) (cs:=cs) (js:=js) (m:="reached") (by decide+kernel)
 refine zH (s1:=[some (.v (.loc h0.length)),some (.v (.loc (bq h0 js g+1))),none]) (h1:=hp h0 cs js st (gr g (bq h0 js g) [] ja ca)) (by (simp![zS,zF,nm,er])) ?_
 have ga:=g_a (h0:=h0) (cs:=cs) (js:=js) (st:=st) (g:=g) (q:=bq h0 js g) (wt:=[]) (ja:=ja) (ca:=ca);have es:=hp_s (h0:=h0) (cs:=cs) (js:=js) (st:=st) (g:=gr g (bq h0 js g) [] ja ca);have nr:=noMR (q:=bq h0 js g) (m:="steps_to") (by decide+kernel)
 have hw:∀j y,j<(fd cs js).nJ->y<(fd cs js).nC->0<st.sh j y->(fd cs js).win j y=true:=fun j y h1 h2 h3=>by
  cases z:(fd cs js).win j y with
  |true=>rfl
  |false=>rw[gd.off j y h1 h2 z]at h3;lia
 refine it_E (l:=Fl.kc ja) (enc:=zc) (its:=[.loc (bq h0 js g+2)]) (ok:=fun h=>h[bq h0 js g+2]? =some (.dT (yk ja))) (by (simp![iDl,BH,zf,insR,AU,lkR,ga,XC])<;>rfl) (fun i s h=>h=hp h0 cs js st (gr g (bq h0 js g) [] ja ca)/\∃y2,s=[some (.v (.loc h0.length)),some (.v (.loc (bq h0 js g+1))),y2]/\∀c∈(Fl.kc ja).take i,st.sp c<=0) (by rintro i s h ⟨rfl,_⟩;exact ga) ⟨rfl,none,rfl,by simp⟩ ?_ ?_
 .rintro i c s h hi ⟨rfl,y2,rfl,hz⟩
  have hc:=Al hi;have hcn:c<cs.length:=by
   obtain⟨p,hp,e⟩:=Aj.mp hc;have:=(T.cj p hp).1;rw[show p.1=c from e]at this;exact this
  by_cases hs:0<st.sp c
  .obtain⟨ps,l,P,h1,h2,h3,h4,h5,h6,h7,h8⟩:=T.way hc hw
   have hpl:ps.length<=100:=by
    have:=Bd.len_sub (l:=ps.map fun p=>(p.1:Int)) (m:=(List.range js.length).map fun k:Nat=>(k:Int)) (by
     unfold List.Nodup at h3 ⊢;rw[E4]at h3 ⊢;exact h3.imp fun h z=>h (Int.ofNat.inj z)) (fun x hx=>by
      obtain⟨p,hp,rfl⟩:=Aj.mp hx;exact Aj.mpr ⟨p.1,Ay.mpr (h2 p hp).1,rfl⟩)
    rw[Ae,Ae,Bq]at this;lia
   have st1:=XA (h0:=h0) (g:=g) (wt:=[]) T P hpl
   refine .inr (.inl ⟨.m (.lst (ps.map zE)),_,by (simp![zf,zF,yK,qr,BK es,qL hcn,Aq,hs,zS,insR,nr,st1])<;>rfl,ps,_,rfl,.inr ⟨c,l,h1,h2,h3,h4,h5,h6,hs,h7,h8⟩⟩)
  .refine .inl ⟨_,_,.inl (by (simp![zf,zF,yK,qr,BK es,qL hcn,Aq,hs])<;>rfl),rfl,_,rfl,fun x hx=>?_⟩
   rw[jJ hi,As,Ao]at hx
   rcases hx with m|rfl
   .exact hz x m
   .lia
 .rintro s h ⟨rfl,y2,rfl,hz⟩
  rw[C7]at hz
  refine⟨[],_,by (simp![])<;>rfl,.inl ⟨rfl,fun c r=>hz c (C.all r)⟩⟩
end
section
variable {h0:H3} {cs:List Cl} {js:List J} {st:Fl.St} {g:H3}
def Max (d:Fl.D) (st:Fl.St):Prop:=∀c,Fl.Rch d st (.inr c)->st.sp c<=0
def Pl (h0:H3) (cs:List Cl) (js:List J) (R:Res Vl):Prop:=∃st' g',Fl.Good (fd cs js) st'/\Max (fd cs js) st'/\R=.ok (.v .non) (hp h0 cs js st' g')
def XD {n l:Nat} {f:Nat->Int} {b:Int} (h:l<n):Fl.S n (fun j=>if j=l then f j-b else f j)=Fl.S n f-b:=by
 rw[Fl.S_congr (g:=fun j=>f j-if j=l then b else 0) fun j _=>by split<;>lia,Fl.S_sub,Fl.S_at h]
def XE (hl:js.length<=12) (hcl:cs.length<=900) (gd:Fl.Good (fd cs js) st):Pl h0 cs js (G8 [.loc h0.length] (hp h0 cs js st g)):=by
 unfold G8 Kf Ke
 refine yY rfl ?_
 have nm:=qU (n:=h0.length) (cs:=cs) (js:=js) (m:="steps_to_spare") (by decide+kernel)
 have ns:=qU (n:=h0.length) (cs:=cs) (js:=js) (m:="shift") (by decide+kernel)
 obtain⟨ps,g1,e1,k1⟩:=Pk (h0:=h0) (g:=g) hl hcl gd
 refine zH (s1:=[some (.v (.loc h0.length)),some (.m (.lst (ps.map zE)))]) (h1:=hp h0 cs js st g1) (by (simp![zS,zF,nm,e1])) ?_
 obtain⟨s',h',e,st',g',gd',mx,rfl,rfl⟩:=KC (t:=tP (pV 1)) (b:=(sSeq (sFz 1) (sSeq (sExp (zS ("Flow" :Str) ("shift" :Str) BZ (pV 0) (aCons (pV 1) aNil))) (sSet 1 (zS ("Flow" :Str) ("steps_to_spare" :Str) CT (pV 0) aNil))))) (Post:=fun s h=> ∃st' g',Fl.Good (fd cs js) st'/\Max (fd cs js) st'/\s=[some (.v (.loc h0.length)),some (.m (.lst []))]/\h=hp h0 cs js st' g')
  (fun n s h=> ∃st' g' ps,Fl.Good (fd cs js) st'/\s=[some (.v (.loc h0.length)),some (.m (.lst (ps.map zE)))]/\h=hp h0 cs js st' g'/\n=(Fl.S js.length st'.ms).toNat/\((ps=[]/\∀c,Fl.Rch (fd cs js) st' (.inr c)->st'.sp c<=0)\/∃c l,Fl.Ch c l ps/\Fl.In (fd cs js) ps/\(ps.map (·.1)).Nodup/\0<st'.ms l/\l<js.length/\c<cs.length/\0<st'.sp c/\(∀p∈ps,st'.sh p.1 p.2.1<(fd cs js).mx p.1 p.2.1)/\∀p∈ps,∀y,p.2.2=some y->0<st'.sh p.1 y)) (by
   rintro n s h ⟨st,g,ps,gd,rfl,rfl,rfl,k⟩
   rcases k with ⟨rfl,hz⟩|⟨c,l,h1,h2,h3,h4,h5,h6,h7,h8,h9⟩
   .exact .inl ⟨_,by (simp![Bj,Fy,Aq,Di])<;>rfl,st,g,gd,hz,rfl,rfl⟩
   .obtain⟨b,bo,es⟩:=Pg (h0:=h0) (st:=st) (g:=g) h2 h1 h6 h5
    have b1:1<=b:=bo.at_ 1 (by lia) (by lia) (fun p hp=>by have:=h8 p hp;lia) (fun p hp y e=>by have:=h9 p hp y e;lia)
    have gd':=gd.after h1 h2 h3 ⟨by lia,bo.sp,bo.ms,bo.up,bo.dn⟩
    obtain⟨ps',g2,e2,k2⟩:=Pk (h0:=h0) (g:=g) hl hcl gd';have ne:(ps.map zE).isEmpty=false:=by
     obtain⟨_,_,_,rfl⟩:=Pf h1;rfl
    have lt:(Fl.S js.length (st.after ps c l b).ms).toNat<(Fl.S js.length st.ms).toNat:=by
     have e:Fl.S js.length (st.after ps c l b).ms=Fl.S js.length st.ms-b:=XD h5;have nn:0<=Fl.S js.length (st.after ps c l b).ms:=Fl.S_nonneg gd'.ms;lia
    exact .inr ⟨_,_,_,_,by (simp![ne,Aq,Ej])<;>rfl,by (simp![zS,zF,ns,nm,es,e2])<;>rfl,lt,_,_,ps',gd',rfl,rfl,rfl,k2⟩) _ _ _ ⟨st,g1,ps,gd,rfl,rfl,rfl,k1⟩
 refine⟨st',g',gd',mx,?_⟩
 (simp![e])
def jm (cs:List Cl) (js:List J):Fl.St:=⟨fun _ _=>0,fun j=>(zY js j).w,fun c=>(qG cs c).m*clen cs c⟩
def rep0 (n:Nat):(List.replicate n [V3.int 0]).flatten=zA n fun _=>0:=by
 induction n with
 |zero=>rfl
 |succ n ih=>
  rw[List.replicate_succ',List.flatten_append,ih];unfold zA;rw[List.range_succ,Ax];rfl
def XF (js:List J) (cs:List Cl) (hcl:cs.length<=900) (hj:LoadOk js) {n:Nat} {h:H3} {x1 x2:Option Vl} {fs:List (Str×V3)} (e:h[n]? =some (.ins "Flow" fs)) (e1:fs.lookup ("load":Str)=some (.lst (js.map J.enc))) (e2:fs.lookup ("cells":Str)=some (.lst (cs.map Cl.enc))):
  HV [some (.v (.loc n)),x1,x2] h=.ok (.m (.lst (js.map fun j=>.dT (yP cs j)))) h:=by
 unfold HV
 refine GQ (x:= .lst (js.map J.enc)) (enc:=J.enc) (fun s=> ∃a,s=[a,some (.v (.loc n))]) (fun j=>.dT (yP cs j)) (by (simp![zf,yw,e,yK,e1,Ao])<;>rfl) rfl (by have:=hj.len;lia) ⟨none,rfl⟩ ?_
 rintro j s hjm ⟨a,rfl⟩;exact⟨_,_,by (simp![])<;>rfl,⟨_,rfl⟩,by (simp![zf,yw,e,yK,e2,Ao,Xf cs (by lia) (hj.one j hjm)])<;>rfl,rfl⟩
def rp_b (n:Nat) (hn:n<=900): -(2 ^ 63)<=(n:Int)/\(n:Int)<2 ^ 63/\[V3.int 0].length*(n:Int).toNat<=sizeLine:=by
 have hz:=ym;exact⟨by lia,by lia,by rw[Ci,B3];lia⟩
def rp_x (s:S3) (h:H3):rdm s h (.x (.lst [V3.int 0]))=some [V3.int 0]:=rfl
def rp_r (n:Nat) (hn:n<=900) (s:S3) (h:H3):oRep s h (.x (.lst [V3.int 0])) (.x (.int (n:Int)))=some (.m (.lst (List.replicate (n:Int).toNat [V3.int 0]).flatten)):=by
 unfold oRep;simp only[rp_x];exact Ab (rp_b n hn)
def XG {f g:F2} {s:S3} {h:H3} {x y:Rf} (e:f s h x y=none):qi f g s h x y=g s h x y:=by unfold qi;rw[e]
def mul0 (n:Nat) (hn:n<=900) (K:Int) (hK:(n:Int)=K) (s:S3) (h:H3):zZ s h (.x (.lst [V3.int 0])) (.x (.int K))=some (.m (.lst (zA n fun _=>0))):=by
 subst hK;have e:(n:Int).toNat=n:=B3 n;exact (XG (f:=Hs) (g:=oRep) rfl).trans ((rp_r n hn s h).trans (by rw[e,rep0]))
def elt2 {cs:List Cl} (hcl:cs.length<=900) {n:Nat} {h:H3} {a:Option Vl} {fs:List (Str×V3)} (e:h[n]? =some (.ins "Flow" fs)) (e2:fs.lookup ("cells":Str)=some (.lst (cs.map Cl.enc))):
  (yT (eOp zZ (pE (eLst (aCons (kJ 0) aNil))) (pE (eB bLen (aCons (pE (zf [("Flow" :Str)] ("cells" :Str) (pV 1))) aNil))))) [a,some (.v (.loc n))] h=.ok (.v (.loc h.length)) (h++[.lst (zA cs.length fun _=>0)]):=by
 obtain⟨K,hK⟩:∃K:Int,(cs.length:Int)=K:=⟨_,rfl⟩;have er:=fun s h=>mul0 cs.length hcl K hK s h
 have e5:(pE (eB bLen (aCons (pE (zf [("Flow" :Str)] ("cells" :Str) (pV 1))) aNil))) [a,some (.v (.loc n))] h=.ok (.x (.int K)) h:=by
  (simp![zf,yw,e,yK,e2,Ae,hK])
 generalize pE (eB bLen (aCons (pE (zf [("Flow" :Str)] ("cells" :Str) (pV 1))) aNil))=p at e5 ⊢;generalize zA cs.length (fun _=>0)=R at er ⊢
 (simp![yT,e5,er])
def XH (js:List J) (cs:List Cl) (hcl:cs.length<=900) (hj:LoadOk js) {n:Nat} {h:H3} {x1 x2:Option Vl} {fs:List (Str×V3)} (e:h[n]? =some (.ins "Flow" fs)) (e1:fs.lookup ("load":Str)=some (.lst (js.map J.enc))) (e2:fs.lookup ("cells":Str)=some (.lst (cs.map Cl.enc))):
  HW [some (.v (.loc n)),x1,x2] h=.ok (.m (.lst ((List.range js.length).map fun k=>.loc (h.length+k)))) (h++js.map fun _=>.lst (zA cs.length fun _=>0)):=by
 unfold HW;have hn:n<h.length:=(An.mp e).1
 refine WQ (l:=js) (enc:=J.enc) (its:=[.lst (js.map J.enc)]) (ok:=fun _=>True) (fun s=> ∃a,s=[a,some (.v (.loc n))]) (fun _=>.lst (zA cs.length fun _=>0)) (by (simp![iL,yA,zf,yw,e,yK,e1,Ao])<;>rfl) (fun _=>trivial) (by have:=hj.len;lia) ⟨none,rfl⟩ ?_
 rintro j s h' hjm ⟨a,rfl⟩;have e':(h++h')[n]? =some (.ins "Flow" fs):=by rw[Bc hn];exact e
 exact⟨[some (.v j.enc),some (.v (.loc n))],by (simp![]),⟨_,rfl⟩,elt2 hcl e' e2⟩
end
section
variable {cs:List Cl} {js:List J}
def Pn {α:Type} (f:α->Int) (d:α) (l:List α):(zA l.length fun k=>f (l.getD k d))=l.map fun a=>.int (f a):=by
 apply Dy
 .simp
 .intro i h1 h2
  have hi:i<l.length:=by simpa using h2
  simp[Cb,zI hi]
def XI (js:List J) (hj:LoadOk js) {n:Nat} {h:H3} {x1 x2:Option Vl} {fs:List (Str×V3)} (e:h[n]? =some (.ins "Flow" fs)) (e1:fs.lookup ("load":Str)=some (.lst (js.map J.enc))):
  yT GB [some (.v (.loc n)),x1,x2] h=.ok (.v (.loc h.length)) (h++[.lst (zA js.length (jm cs js).ms)]):=by
 have a:GB [some (.v (.loc n)),x1,x2] h=.ok (.m (.lst (js.map fun j=>.int j.w))) h:=by
  unfold GB
  refine GQ (x:= .lst (js.map J.enc)) (enc:=J.enc) (fun s=> ∃a,s=[a]) (fun j=>.int j.w) (by (simp![zf,yw,e,yK,e1,Ao])<;>rfl) rfl (by have:=hj.len;lia) ⟨none,rfl⟩ ?_
  rintro j s hjm ⟨a,rfl⟩;exact⟨_,_,by (simp![])<;>rfl,⟨_,rfl⟩,by (simp![])<;>rfl,rfl⟩
 have b:zA js.length (jm cs js).ms=js.map fun j=>.int j.w:=Pn J.w default js
 rw[b];unfold yT;rw[a];rfl
def XJ (js:List J) (cs:List Cl) (hcl:cs.length<=900) {n:Nat} {h:H3} {x1 x2:Option Vl} {fs:List (Str×V3)} (e:h[n]? =some (.ins "Flow" fs)) (e1:fs.lookup ("cells":Str)=some (.lst (cs.map Cl.enc))) (hb:∀c∈cs,0<=c.m/\c.m<=16/\c.f<=c.l):
  yT GC [some (.v (.loc n)),x1,x2] h=.ok (.v (.loc h.length)) (h++[.lst (zA cs.length (jm cs js).sp)]):=by
 have a:GC [some (.v (.loc n)),x1,x2] h=.ok (.m (.lst (cs.map fun c=>.int (c.m*(c.l-c.f+1))))) h:=by
  unfold GC
  refine GQ (x:= .lst (cs.map Cl.enc)) (enc:=Cl.enc) (fun s=> ∃a b c,s=[a,b,c]) (fun c=>.int (c.m*(c.l-c.f+1))) (by (simp![zf,yw,e,yK,e1,Ao])<;>rfl) rfl (by lia) ⟨none,none,none,rfl⟩ ?_
  rintro c s hc ⟨a,b,d,rfl⟩;have hm:=hb c hc;have em:=fun s h j=>oMul_int (s:=s) (h:=h) (jy (i:=c.m) (j:=j) ⟨by lia,by lia⟩)
  exact⟨_,_,by (simp![])<;>rfl,⟨_,_,_,rfl⟩,by (simp![em])<;>rfl,rfl⟩
 have b:zA cs.length (jm cs js).sp=cs.map fun c=>.int (c.m*(c.l-c.f+1)):=Pn (fun c:Cl=>c.m*(c.l-c.f+1)) default cs
 rw[b];unfold yT;rw[a];rfl
def EB {k:Str} {v:V3} {fs g:List (Str×V3)} (h:fs.lookup k=some v):(fs++g).lookup k=some v:=by rw[List.lookup_append,h];rfl
def Po {k:Str} {v:V3} {fs:List (Str×V3)} (h:fs.lookup k=none):(fs++[(k,v)]).lookup k=some v:=by rw[List.lookup_append,h];simp[List.lookup]
theorem Pq {k:Str} {v:V3}:∀{fs:List (Str×V3)},fs.lookup k=none->AI k v fs=fs++[(k,v)]
 | [],_=>rfl
 | (g,x)::r,h=>by
  unfold List.lookup at h;unfold AI
  by_cases e:g=k
  .subst e;simp at h
  .have e':(k==g)=false:=by simpa using fun x=>e x.symm
   rw[e']at h;rw[Ac e,Pq h];rfl
def EC {k:String} {ns:List String} (h:ns.all (fun x=> !(Str.ofString k==Str.ofString x))=true):∀{fs:List (Str×V3)},fs.map (·.1)=ns.map Str.ofString->fs.lookup (Str.ofString k)=none:=by
 induction ns with
 |nil=>intro fs e;cases fs with
  |nil=>rfl
  |cons _ _=>simp at e
 |cons n r ih=>intro fs e;cases fs with
  |nil=>rfl
  |cons p q=>
   rw[Ah,Ah,List.cons.injEq]at e;rw[Et,Bi,Bool.not_eq_true']at h;obtain⟨a,b⟩:=p;unfold List.lookup;have e0:a=Str.ofString n:=e.1;rw[e0,h.1];exact ih h.2 e.2
def Iw {h0 t u:H3} {fs:List (Str×V3)} {fl:Str} {e:E3} {r:Vl} {y:V3} {x1 x2:Option Vl}
  (he:e [some (.v (.loc h0.length)),x1,x2] (h0++(.ins "Flow" fs::t))=.ok r (h0++(.ins "Flow" fs::t)++u)) (hr:r.fz=some y) (hl:fs.length<1000) (hn:fs.lookup fl=none):
  qh [("Flow" :Str)] fl (pV 0) e [some (.v (.loc h0.length)),x1,x2] (h0++(.ins "Flow" fs::t))=.nx [some (.v (.loc h0.length)),x1,x2] (h0++(.ins "Flow" (fs++[(fl,y)])::(t++u))):=by
 have e1:(h0++(C3.ins "Flow" fs::t)++u)[h0.length]? =some (.ins "Flow" fs):=by simp
 have e2:∀c,(h0++(C3.ins "Flow" fs::t)++u).set h0.length c=h0++(c::(t++u)):=fun c=>by simp
 have e3:=Pq (v:=y) hn;unfold qh;rw[he];simp only[Res.bindS,hr]
 (simp![e1,e2,yK,hl,e3])
structure CsOk (cs:List Cl):Prop where
 one:∀c∈cs,0<=c.m/\c.m<=16/\c.f<=c.l
def at_b {rows:List (Int×Int)} {rest:Int} (hr:RwB rows rest) (t:Int):0<=Cal.at_ rows rest t/\Cal.at_ rows rest t<=16:=by
 have h1:=hr.one;have h2:=hr.rest;clear hr
 induction rows generalizing t with
 |nil=>rw[OY];lia
 |cons p r ih=>
  rw[OX]
  split
  .have:=h1 p (Ak ..);lia
  .exact ih _ fun q hq=>h1 q (Ap _ hq)
def XM {rows:List (Int×Int)} {rest:Int} (hm:∀t,0<=Cal.at_ rows rest t/\Cal.at_ rows rest t<=16) (js:List J):CsOk (BJ js rows rest):=⟨fun c hc=>by
 obtain⟨p,hp,rfl⟩:=Aj.mp hc;have:=Bd.prs_up (Bd.srt_up _) p (Br.mp hp).1;have:=hm p.1;exact⟨this.1,this.2,by show p.1<=p.2-1;lia⟩⟩
def Pr {cs:List Cl} {c:Nat} (h:c<cs.length):qG cs c∈cs:=by
 unfold qG;rw[Cb,zI h];exact Db h
def KZ {js:List J} {j:Nat} (h:j<js.length):zY js j∈js:=Al (GS h)
theorem CsOk.clen {cs:List Cl} (h:CsOk cs) {c:Nat} (hc:c<cs.length):1<=clen cs c:=by
 have:=h.one _ (Pr hc);unfold My.clen;lia
def XN (hj:LoadOk js) (hc:CsOk cs):Fl.Good (fd cs js) (jm cs js) where
 lo _ _ _ _:=Int.le_refl 0
 hi j c h1 h2 _:=by
  have:=(hj.one _ (KZ h1)).b;have:=hc.clen h2;exact Fx (by lia) (by lia)
 off _ _ _ _ _:=rfl
 row j h:=by
  show Fl.S _ (fun _=>0)+_=_
  rw[Fl.S_zero,Ev];rfl
 col c h:=by
  show Fl.S _ (fun _=>0)+_=_
  rw[Fl.S_zero,Ev];rfl
 ms j h:=by
  have:=(hj.one _ (KZ h)).w;show 0<=(zY js j).w;lia
 sp c h:=by
  have:=hc.one _ (Pr h);have:=hc.clen h;exact Fx (by lia) (by lia)
end
section
variable {js:List J} {h0:H3}
theorem Pt:∀l:List Int,(Bd.prs l).length<=l.length
 | []=>Af _
 | [_]=>by simp[Bd.prs]
 |a::b::r=>by
  have:=Pt (b::r);show (Bd.prs (b::r)).length+1<=_;simp only[Bb] at*;lia
def Pu {rows:List (Int×Int)} (rest:Int) (hj:LoadOk js) (hl:rows.length<=16):(BJ js rows rest).length<=63:=by
 have a:=KL (rows:=rows) hj.len hl;have b:=Pt (Bd.srt (yO rows js));have c:(Bd.srt (yO rows js)).length=(zX (yO rows js)).length:=(jM (zX (yO rows js))).1.length_eq;unfold BJ;rw[Ae];have d:=Cw (fun p:Int×Int=>qV js p.1) (Bd.prs (Bd.srt (yO rows js)))
 lia
def La {t:H3} {fs:List (Str×V3)} {fl:Str} {e:E3} {r:Vl} {y:V3} {x1 x2:Option Vl}
  (he:e [some (.v (.loc h0.length)),x1,x2] (h0++(.ins "Flow" fs::t))=.ok r (h0++(.ins "Flow" fs::t))) (hr:r.fz=some y) (hl:fs.length<1000) (hn:fs.lookup fl=none):
  qh [("Flow" :Str)] fl (pV 0) e [some (.v (.loc h0.length)),x1,x2] (h0++(.ins "Flow" fs::t))=.nx [some (.v (.loc h0.length)),x1,x2] (h0++(.ins "Flow" (fs++[(fl,y)])::t)):=by
 have:=Iw (u:=[]) (by rw[B1];exact he) hr hl hn
 rwa [B1]at this
def XO {cs:List Cl}:([]++js.map fun _=>C3.lst (zA cs.length fun _=>0))++[.lst (zA js.length (jm cs js).ms)]++[.lst (zA cs.length (jm cs js).sp)]=qQ cs js (jm cs js)++[]:=by
 unfold qQ;have e:(js.map fun _=>C3.lst (zA cs.length fun _=>0))=(List.range js.length).map fun j=>C3.lst (zA cs.length ((jm cs js).sh j)):=by
  apply Dy
  .simp
  .intro i h1 h2;simp[jm]
 rw[e];simp
def XQ {rows:List (Int×Int)} {rest:Int} (hj:LoadOk js) (hl:rows.length<=16) (hc:CsOk (BJ js rows rest)):Pl h0 (BJ js rows rest) js (GD [.loc h0.length,.lst (js.map J.enc),calV rows rest] (h0++[.ins "Flow" []])):=by
 have ec:=Xb hj hl rest;have el:=Pu rest hj hl;generalize hcs:BJ js rows rest=cs at*;have at_:∀(fs:List (Str×V3)) (t:H3),(h0++(C3.ins "Flow" fs::t))[h0.length]? =some (.ins "Flow" fs):=fun fs t=>by simp
 unfold GD Kj
 refine yY rfl ?_
 refine zH (La (t:=[]) (y:= .lst (cs.map Cl.enc)) (by (simp![ec])<;>rfl) rfl (by simp) rfl) ?_
 refine zH (La (t:=[]) (y:= .lst (js.map J.enc)) (by (simp![])<;>rfl) rfl (by simp) (EC (ns:=["cells"]) (by decide+kernel) rfl)) ?_
 generalize hf2:([]++[(Str.ofString "cells",V3.lst (List.map Cl.enc cs))]++[(Str.ofString "load",V3.lst (List.map J.enc js))])=f2;have q1:f2.lookup ("cells":Str)=some (.lst (cs.map Cl.enc)):=by subst hf2;exact EB (Po rfl)
 have q2:f2.lookup ("load":Str)=some (.lst (js.map J.enc)):=by subst hf2;exact Po (EC (ns:=["cells"]) (by decide+kernel) rfl)
 have n2:f2.length<1000:=by subst hf2;simp
 have m2:f2.map (·.1)=["cells","load"].map Str.ofString:=by subst hf2;rfl
 refine zH (La (t:=[]) (y:= .lst (js.map fun j=>.dT (yP cs j))) (XF js cs (by lia) hj (at_ _ _) q2 q1) rfl n2 (EC (by decide+kernel) m2)) ?_
 generalize hf3:(f2++[(Str.ofString "most",V3.lst (List.map (fun j=>V3.dT (yP cs j)) js))])=f3
 have q13:f3.lookup ("cells":Str)=some (.lst (cs.map Cl.enc)):=by subst hf3;exact EB q1
 have q23:f3.lookup ("load":Str)=some (.lst (js.map J.enc)):=by subst hf3;exact EB q2
 have n3:f3.length<1000:=by subst hf3;subst hf2;simp
 have m3:f3.map (·.1)=["cells","load","most"].map Str.ofString:=by subst hf3;rw[Ax,m2];rfl
 refine zH (Iw (XH js cs (by lia) hj (at_ _ _) q23 q13) rfl n3 (EC (by decide+kernel) m3)) ?_
 generalize hf4:(f3++[(Str.ofString "shares",_)])=f4;have q14:f4.lookup ("cells":Str)=some (.lst (cs.map Cl.enc)):=by subst hf4;exact EB q13
 have q24:f4.lookup ("load":Str)=some (.lst (js.map J.enc)):=by subst hf4;exact EB q23
 have n4:f4.length<1000:=by subst hf4;subst hf3;subst hf2;simp
 have m4:f4.map (·.1)=["cells","load","most","shares"].map Str.ofString:=by subst hf4;rw[Ax,m3];rfl
 refine zH (Iw (XI (cs:=cs) js hj (at_ _ _) q24) rfl n4 (EC (by decide+kernel) m4)) ?_
 generalize hf5:(f4++[(Str.ofString "missing",_)])=f5;have q15:f5.lookup ("cells":Str)=some (.lst (cs.map Cl.enc)):=by subst hf5;exact EB q14
 have n5:f5.length<1000:=by subst hf5;subst hf4;subst hf3;subst hf2;simp
 have m5:f5.map (·.1)=["cells","load","most","shares","missing"].map Str.ofString:=by subst hf5;rw[Ax,m4];rfl
 have g4:f4=f3++[(Str.ofString "shares",.lst ((List.range js.length).map fun k=>.loc (h0.length+1+k)))]:=by rw[<-hf4,Ar];rfl
 have l5:(h0++C3.ins "Flow" f4::([]++List.map (fun _=>C3.lst (zA cs.length fun _=>0)) js)).length=h0.length+1+js.length:=by simp;lia
 have g5:f5=f4++[(Str.ofString "missing",.loc (h0.length+1+js.length))]:=by rw[<-hf5];exact congrArg (fun n=>f4++[(Str.ofString "missing",V3.loc n)]) l5
 have l6:(h0++C3.ins "Flow" f5::([]++List.map (fun _=>C3.lst (zA cs.length fun _=>0)) js++[.lst (zA js.length (jm cs js).ms)])).length=h0.length+1+(js.length+1):=by simp;lia
 refine zH (h1:=hp h0 cs js (jm cs js) []) ((Iw (XJ js cs (by lia) (at_ _ _) q15 hc.one) rfl n5 (EC (by decide+kernel) m5)).trans (by
  rw[l6,XO];unfold hp;rw[g5,g4,<-hf3,<-hf2];rfl)) ?_
 clear g4 l5 g5 l6 m5 n5 q15 hf5 hf4 m4 n4 q24 q14 m3 n3 q23 q13 hf3 m2 n2 q1 q2 hf2 at_ ec;have nm:=qU (n:=h0.length) (cs:=cs) (js:=js) (m:="take_straight") (by decide+kernel)
 have ns:=qU (n:=h0.length) (cs:=cs) (js:=js) (m:="take_by_ways") (by decide+kernel)
 obtain⟨st1,gd1,e1⟩:=Xx (h0:=h0) (g:=[]) (XN hj hc)
 refine zH (s1:=[some (.v (.loc h0.length)),some (.v (.lst (js.map J.enc))),some (.v (calV rows rest))]) (h1:=hp h0 cs js st1 []) (by (simp![zS,zF,nm,e1])) ?_
 obtain⟨st2,g2,gd2,mx,e2⟩:=XE (h0:=h0) (g:=[]) hj.len (by lia) gd1
 refine⟨st2,g2,gd2,mx,?_⟩
 (simp![zS,zF,ns,e2])
end
section
variable {h0:H3} {cs:List Cl} {js:List J} {st:Fl.St} {g:H3}
def Pv {j c:Nat} (hj:j<js.length) (hc:c<cs.length):CU [.loc h0.length,.int (j:Int),.int (c:Int)] (hp h0 cs js st g)=.ok (.v (.int (st.sh j c))) (hp h0 cs js st g):=by
 have e1:=GT (n:=h0.length) hj;have e2:=hp_r (h0:=h0) (cs:=cs) (js:=js) (st:=st) (g:=g) hj;have e3:=qL (n:=cs.length) (f:=st.sh j) hc;have l:=(qr (n:=h0.length) (cs:=cs) (js:=js)).2.2.2.1;have o2:∀s,zq s (hp h0 cs js st g) (.x (.loc (h0.length+1+j))) (.x (.int (c:Int)))=some (.v (.int (st.sh j c))):=fun s=>by rw[BK e2,e3];rfl
 (simp![CU,Kk,zf,zF,yK,l,e1,o2])
def Iy {l:List Nat} (nd:l.Nodup):∃ks:List Nat,jd (l.map fun k:Nat=>(k:Int))=(ks.map fun k:Nat=>(k:Int))/\ks.Pairwise (· < ·)/\∀c,c∈ks↔c∈l:=by
 obtain⟨pm,pw⟩:=jM (l.map fun k:Nat=>(k:Int))
 have nn:∀x∈jd (l.map fun k:Nat=>(k:Int)),∃k∈l,x=((k:Nat):Int):=fun x hx=>by
  obtain⟨k,hk,e⟩:=Aj.mp (pm.mem_iff.mp hx);exact⟨k,hk,e.symm⟩
 have nd2:(jd (l.map fun k:Nat=>(k:Int))).Nodup:=pm.nodup_iff.mpr (E4.mpr (nd.imp fun h e=>h (by lia)))
 refine⟨(jd (l.map fun k:Nat=>(k:Int))).map Int.toNat,?_,?_,fun c=>?_⟩
 .rw[Bg]
  have:∀m:List Int,(∀x∈m,∃k∈l,x=((k:Nat):Int))->m=m.map ((fun k:Nat=>(k:Int))∘Int.toNat):=fun m hm=>by
   conv=>lhs;rw[<-List.map_id m]
   refine D0 fun x hx=>?_
   obtain⟨k,_,rfl⟩:=hm x hx;simp
  exact this _ nn
 .refine E4.mpr ?_
  have:=List.Pairwise.and pw nd2
  refine this.imp_of_mem fun {a b} ha hb h=>?_
  obtain⟨k,_,rfl⟩:=nn a ha;obtain⟨m,_,rfl⟩:=nn b hb;have:=h.1;have:=h.2;show k<m;lia
 .rw[Aj]
  constructor
  .rintro⟨x,hx,rfl⟩
   obtain⟨k,hk,rfl⟩:=nn x hx;simpa using hk
  .intro h
   exact⟨(c:Int),pm.mem_iff.mpr (Aj.mpr ⟨c,h,rfl⟩),by simp⟩
theorem Lb {β:Type} {f:β->V3}:∀l:List (Nat×β),zu intK ((l.map fun p=>(ik p.1,f p.2)).map (·.1))=some ((l.map (·.1)).map fun k:Nat=>(k:Int))
 | []=>rfl
 |p::r=>by
  rw[Ah,Ah];unfold zu;rw[Lb r];rfl
def ED:∀{n:Nat} {l:List Nat},l.Nodup->(∀x∈l,x<n)->l.length<=n:=fun {n l} nd h=>by
 have:=Bd.len_sub (l:=l.map fun k:Nat=>(k:Int)) (m:=(List.range n).map fun k:Nat=>(k:Int)) (E4.mpr (nd.imp fun h e=>h (by lia))) fun x hx=>by
  obtain⟨k,hk,rfl⟩:=Aj.mp hx;exact Aj.mpr ⟨k,Ay.mpr (h k hk),rfl⟩
 simpa using this
def XR (h0:H3) (cs:List Cl) (js:List J) (st:Fl.St) (R:Res Vl):Prop:=∃(ks ls:List Nat) (ja:List (Nat×Nat)) (ca:List (Nat×Option Nat)) (g1:H3),Fl.Tree (fd cs js) st ja ca/\Fl.Closed (fd cs js) st ja ca/\ks.Pairwise (· < ·)/\ls.Pairwise (· < ·)/\(∀c,c∈ks↔c∈Fl.kc ja)/\(∀j,j∈ls↔j∈Fl.kj ca)/\R=.ok (.v (.tup [.loc (bq h0 js g1),.loc (bq h0 js g1+1)])) (hp h0 cs js st (g1++[.lst (ks.map zc),.lst (ls.map zc)]))
def Pw (hl:js.length<=12) (hcl:cs.length<=63):XR h0 cs js st (qH [.loc h0.length] (hp h0 cs js st g)):=by
 unfold qH Ko
 refine yY rfl ?_
 have nm:=qU (n:=h0.length) (cs:=cs) (js:=js) (m:="reached") (by decide+kernel)
 obtain⟨ja,ca,T,C,e⟩:=Pi (h0:=h0) (cs:=cs) (js:=js) (st:=st) (g:=g) hl (by lia)
 refine zH (s1:=[some (.v (.loc h0.length)),some (.v (.loc (bq h0 js g+1)))]) (h1:=hp h0 cs js st (gr g (bq h0 js g) [] ja ca)) (by (simp![zS,zF,nm,e])) ?_
 obtain⟨ks,k1,k2,k3⟩:=Iy T.nc;obtain⟨ls,l1,l2,l3⟩:=Iy T.nj
 refine⟨ks,ls,ja,ca,gr g (bq h0 js g) [] ja ca,T,C,k2,l2,k3,l3,?_⟩
 have nk:(Fl.kc ja).length<=cs.length:=ED T.nc fun x hx=>by
  obtain⟨p,hp,rfl⟩:=Aj.mp hx;exact (T.cj p hp).1
 have nl:(Fl.kj ca).length<=js.length:=ED T.nj fun x hx=>by
  obtain⟨p,hp,rfl⟩:=Aj.mp hx;exact (T.jc p hp).1
 have s1:∀s,BY s (hp h0 cs js st (gr g (bq h0 js g) [] ja ca)) [.x (.loc (bq h0 js g+2))]=some (.m (.lst (ks.map zc))):=fun s=>by
  have e1:yU s (hp h0 cs js st (gr g (bq h0 js g) [] ja ca)) (.x (.loc (bq h0 js g+2)))=some (.t (yk ja)):=by unfold yU;simp only[g_a];rfl
  unfold BY;simp only[e1,Lb];rw[Ab (by rw[Ae];exact Nat.lt_of_le_of_lt nk (by lia)),k1,Bg];rfl
 have gb2:∀x,(hp h0 cs js st (gr g (bq h0 js g) [] ja ca++x))[bq h0 js g+3]? =some (.dT (yH ca)):=fun x=>by
  unfold gr;rw[B5];exact jh (i:=3)
 have go2:∀x,yw (hp h0 cs js st (gr g (bq h0 js g) [] ja ca++x)) (.x (.loc (bq h0 js g+1)))=some (("Reach" :Str),rF (bq h0 js g)):=fun x=>by
  have:(hp h0 cs js st (gr g (bq h0 js g) [] ja ca++x))[bq h0 js g+1]? =some (.ins "Reach" (rF (bq h0 js g))):=by unfold gr;rw[B5];exact jh (i:=1)
  unfold yw;simp only[this]
 have s2:∀s x,BY s (hp h0 cs js st (gr g (bq h0 js g) [] ja ca++x)) [.x (.loc (bq h0 js g+3))]=some (.m (.lst (ls.map zc))):=fun s x=>by
  have e1:yU s (hp h0 cs js st (gr g (bq h0 js g) [] ja ca++x)) (.x (.loc (bq h0 js g+3)))=some (.t (yH ca)):=by unfold yU;simp only[gb2];rfl
  unfold BY;simp only[e1,Lb];rw[Ab (by rw[Ae];exact Nat.lt_of_le_of_lt nl (by lia)),l1,Bg];rfl
 have n1:(hp h0 cs js st (gr g (bq h0 js g) [] ja ca)).length=bq h0 js (gr g (bq h0 js g) [] ja ca):=by rw[Iu];rfl
 have n2:∀c,(hp h0 cs js st (gr g (bq h0 js g) [] ja ca++[c])).length=bq h0 js (gr g (bq h0 js g) [] ja ca)+1:=fun c=>by rw[Iu,Ar];rfl
 have a1:∀x,hp h0 cs js st (gr g (bq h0 js g) [] ja ca)++x=hp h0 cs js st (gr g (bq h0 js g) [] ja ca++x):=fun x=>EA
 have a2:∀c x,hp h0 cs js st (gr g (bq h0 js g) [] ja ca++[c])++[x]=hp h0 cs js st (gr g (bq h0 js g) [] ja ca++[c,x]):=fun c x=>by rw[EA,B5];rfl
 have go1:yw (hp h0 cs js st (gr g (bq h0 js g) [] ja ca)) (.x (.loc (bq h0 js g+1)))=some (("Reach" :Str),rF (bq h0 js g)):=insR;generalize gr g (bq h0 js g) [] ja ca=G at*
 (simp![yT,zf,go1,go2,AU,lkR,s1,s2,n1,n2,a1,a2])
end
section
variable {h0:H3} {cs:List Cl} {js:List J} {st:Fl.St} {g:H3}
def XS {s:S3} {h:H3} {n:Nat} {xs:List V3} (e:h[n]? =some (.lst xs)):bList s h [.x (.loc n)]=some (.m (.lst xs)):=by
 unfold bList;simp only[rdl,e];rfl
def XU:GF [.loc h0.length] (hp h0 cs js st g)=.ok (.m (.lst (zA js.length st.ms))) (hp h0 cs js st g):=by
 have l:=(qr (n:=h0.length) (cs:=cs) (js:=js)).2.2.2.2.1;have e:=fun s=>XS (s:=s) (hp_m (h0:=h0) (cs:=cs) (js:=js) (st:=st) (g:=g))
 have m:=hp_m (h0:=h0) (cs:=cs) (js:=js) (st:=st) (g:=g)
 (simp![GF,Kl,zf,zF,yK,l,m])
def XW {H:H3} {n:Nat} {K I F L M x jf jl jw jb:Int} {jn:V3} {xs ls:List V3} {fs:List (Str×V3)} (hf:yw H (.x (.loc n))=some (("Flow" :Str),fs)) (lc:fs.lookup ("cells":Str)=some (.lst xs)) (nm:fs.lookup ("share":Str)=none) (e1:atI xs I=some (.tup [.int F,.int L,.int M])) (e2:atI ls K=some (.tup [jn,.int jf,.int jl,.int jw,.int jb])) (es:CU [.loc n,.int K,.int I] H=.ok (.v (.int x)) H) (cm:∀y,CMul jb y):
  AR [.loc n,.lst ls,.int K,.int I] H=.ok (.v (.bl ((decide (jf<=F) && decide (L<=jl)) && decide (x<jb*(L-F+1))))) H:=by
 by_cases h1:F<jf
 .have h1': ¬jf<=F:=by lia
  (simp![AR,GE,zf,hf,yK,lc,e1,e2,h1,h1',C9])
 .have h1':jf<=F:=by lia
  by_cases h2:jl<L
  .have h2': ¬L<=jl:=by lia
   (simp![AR,GE,zf,hf,yK,lc,e1,e2,h1,h1',h2,h2',C9,En])
  .have h2':L<=jl:=by lia
   (simp![AR,GE,zS,zf,hf,yK,lc,nm,e1,e2,es,cm,h1,h1',h2,h2',Do])
end
end My
namespace Fl
structure Bfs (d:D) (s:St) (jb pl:List Nat):Prop where
 nj:jb.Nodup
 nc:pl.Nodup
 jl:∀j∈jb,j<d.nJ/\Rch d s (.inl j)
 cl:∀c∈pl,c<d.nC/\Rch d s (.inr c)
 lack:∀j,j<d.nJ->0<s.ms j->j∈jb
 bk:∀c∈pl,∀j,j<d.nJ->0<s.sh j c->j∈jb
section
variable {d:D} {s:St} {jb pl:List Nat}
def more (d:D) (s:St) (jb:List Nat) (c:Nat):List Nat:=(List.range d.nJ).filter fun k=>decide (k∉jb) && decide (0<s.sh k c)
def Bfs.start:Bfs d s ((List.range d.nJ).filter fun j=>decide (0<s.ms j)) [] where
 nj:=Gi _ List.nodup_range
 nc:=Dl
 jl j h:=by
  obtain⟨a,b⟩:=Br.mp h;exact⟨Ay.mp a,.lack (Ay.mp a) (Er b)⟩
 cl c h:=by cases h
 lack j h k:=Br.mpr ⟨Ay.mpr h,B2 k⟩
 bk c h:=by cases h
def Bfs.step (B:Bfs d s jb pl) {j c:Nat} (hj:j∈jb) (hc:c<d.nC) (hn:c∉pl) (hw:d.win j c=true) (hs:s.sh j c<d.mx j c):Bfs d s (jb++more d s jb c) (pl++[c]):=by
 have rc:Rch d s (.inr c):= .take (B.jl j hj).2 hc hw hs;have mm:∀k∈more d s jb c,k<d.nJ/\k∉jb/\0<s.sh k c:=fun k h=>by
  obtain⟨a,b⟩:=Br.mp h;rw[Bi]at b;exact⟨Ay.mp a,Er b.1,Er b.2⟩
 exact {
  nj:=Cn.mpr ⟨B.nj,Gi _ List.nodup_range,fun a ha b hb e=>(mm b hb).2.1 (e ▸ ha)⟩
  nc:=Cn.mpr ⟨B.nc,by simp,fun a ha b hb e=>hn (by rw[Ao]at hb;subst hb;exact e ▸ ha)⟩
  jl:=fun k h=>by
   rcases As.mp h with h|h
   .exact B.jl k h
   .exact⟨(mm k h).1,.give rc (mm k h).1 (mm k h).2.2⟩
  cl:=fun k h=>by
   rcases As.mp h with h|h
   .exact B.cl k h
   .rw[Ao]at h;subst h;exact⟨hc,rc⟩
  lack:=fun k a b=>B8 _ (B.lack k a b)
  bk:=fun x hx k a b=>by
   rcases As.mp hx with h|h
   .exact B8 _ (B.bk x h k a b)
   .rw[Ao]at h;subst h
    by_cases m:k∈jb
    .exact B8 _ m
    .exact Bu _ (Br.mpr ⟨Ay.mpr a,by rw[Bi];exact⟨B2 m,B2 b⟩⟩)}
def Bfs.done (B:Bfs d s jb pl) (h:∀j∈jb,∀c,c<d.nC->d.win j c=true->s.sh j c<d.mx j c->c∈pl):(∀j,Rch d s (.inl j)↔j∈jb)/\∀c,Rch d s (.inr c)↔c∈pl:=by
 have key:∀x,Rch d s x->match x with
   |.inl j=>j∈jb
   |.inr c=>c∈pl:=fun x r=>by
  induction r with
  |lack a b=>exact B.lack _ a b
  |take _ a b c ih=>exact h _ ih _ a b c
  |give _ a b ih=>exact B.bk _ ih _ a b
 exact⟨fun j=>⟨fun r=>key _ r,fun m=>(B.jl j m).2⟩,fun c=>⟨fun r=>key _ r,fun m=>(B.cl c m).2⟩⟩
end
theorem up_ext:∀{l m:List Nat},l.Pairwise (· < ·)->m.Pairwise (· < ·)->(∀x,x∈l↔x∈m)->l=m
 | [],[],_,_,_=>rfl
 | [],y::m,_,_,h=>by have:=(h y).mpr Ak;cases this
 |x::l,[],_,_,h=>by have:=(h x).mp Ak;cases this
 |x::l,y::m,h1,h2,h=>by
  obtain⟨a1,a2⟩:=Ex.mp h1;obtain⟨b1,b2⟩:=Ex.mp h2;have e:x=y:=by
   rcases Ag.mp ((h x).mp Ak) with e|e
   .exact e
   .rcases Ag.mp ((h y).mpr Ak) with e' | e'
    .exact e'.symm
    .have:=b1 x e;have:=a1 y e';lia
  subst e;rw[up_ext a2 b2 fun z=>?_]
  constructor
  .intro hz
   rcases Ag.mp ((h z).mp (Ap _ hz)) with e|e
   .subst e;exact absurd (a1 z hz) (B7 z)
   .exact e
  .intro hz
   rcases Ag.mp ((h z).mpr (Ap _ hz)) with e|e
   .subst e;exact absurd (b1 z hz) (B7 z)
   .exact e
end Fl
namespace My
open PySem L2 L3
section
variable {h0:H3} {cs:List Cl} {js:List J} {st:Fl.St} {g:H3}
def XX {k:Nat} (h:k<js.length):atI (js.map J.enc) (k:Int)=some (zY js k).enc:=atL (GS h)
def XY (hj:LoadOk js) {k c:Nat} (hk:k<js.length) (hc:c<cs.length):AR [.loc h0.length,.lst (js.map J.enc),.int (k:Int),.int (c:Int)] (hp h0 cs js st g)=.ok (.v (.bl ((fd cs js).win k c && decide (st.sh k c<(fd cs js).mx k c)))) (hp h0 cs js st g):=by
 have jb:=(hj.one _ (KZ hk)).b;exact XW (zF (st:=st) (g:=g)) (qr (n:=h0.length) (cs:=cs) (js:=js)).1 (qU (n:=h0.length) (cs:=cs) (js:=js) (m:="share") (by decide+kernel)) (Pc hc) (XX hk) (Pv hk hc) fun y=>jy ⟨by lia,by lia⟩
def XZ (hl:js.length<=12) {x2 x3 x4 x5:Option Vl}:DV [some (.v (.loc h0.length)),some (.v (.lst (js.map J.enc))),x2,x3,x4,x5] (hp h0 cs js st g)=.ok (.m (.lst (((List.range js.length).filter fun j=>decide (0<st.ms j)).map zc))) (hp h0 cs js st g):=by
 unfold DV;have nm:=qU (n:=h0.length) (cs:=cs) (js:=js) (m:="lacking_by") (by decide+kernel)
 have ei:=KA (a:=(aCons (pE (eB bLen (aCons (pV 1) aNil))) aNil)) (s:=[some (.v (.loc h0.length)),some (.v (.lst (js.map J.enc))),x2,x3,x4,x5]) (h:=hp h0 cs js st g) (j:=(js.length:Int)) (by (simp![Ae])<;>rfl) (by lia)
 rw[B3]at ei
 refine DC (l:=List.range js.length) (enc:=zc) (its:=[]) (ok:=fun _=>True) (fun s=> ∃a,s=[a,some (.v (.loc h0.length))]) (fun j=>decide (0<st.ms j)) zc ei trivial (by rw[Bq];lia) ⟨none,rfl⟩ ?_
 rintro k s hk ⟨a,rfl⟩;have hk1:=Ay.mp hk;have ea:=qL (n:=js.length) (f:=st.ms) hk1;exact⟨_,by (simp![])<;>rfl,⟨_,rfl⟩,by (simp![zS,zF,nm,XU,ea,Aq])<;>rfl,fun _=>⟨_,by (simp![])<;>rfl,rfl⟩⟩
end
section
variable {h0:H3} {cs:List Cl} {js:List J} {st:Fl.St} {g:H3}
def Px {h:H3} {l:List Nat} {k:Nat}:zu (fun b=>zJ h 8 b (.int (k:Int))) (l.map zc)=some (l.map fun m:Nat=>decide ((m:Int)=(k:Int)))/\(!(l.map fun m:Nat=>decide ((m:Int)=(k:Int))).any id)=decide (k∉l):=by
 refine⟨CM (f:=fun b=>zJ h 8 b (.int (k:Int))) (g:=zc) (k:=fun m:Nat=>decide ((m:Int)=(k:Int))) (fun m=>eq3_int) l,?_⟩
 have e3:(l.map fun m:Nat=>decide ((m:Int)=(k:Int))).any id=decide (k∈l):=by
  rw[List.any_map]
  by_cases h:k∈l
  .rw[B2 h];exact Dh.mpr ⟨k,h,by simp⟩
  .rw[Bh h]
   refine E9.mpr fun m hm=>?_
   simp only[Function.comp,id,Cr];intro z;have e:m=k:=by lia
   exact h (e ▸ hm)
 rw[e3]
 by_cases h:k∈l<;>simp[h]
def Ya {s:S3} {h:H3} {l:List Nat} {k:Nat}:qA true s h (.x (.int (k:Int))) (.x (.lst (l.map zc)))=some (.v (.bl (decide (k∉l)))):=by
 obtain⟨e1,e2⟩:=Px (h:=h) (l:=l) (k:=k);unfold qA inO;simp only[rdl,e1,Aq,Bw,e2]
def Yb {s:S3} {h:H3} {i:Nat} {l:List Nat} {k:Nat} (e:s[i]? =some (some (.m (.lst (l.map zc))))):qA true s h (.x (.int (k:Int))) (.s i)=some (.v (.bl (decide (k∉l)))):=by
 obtain⟨e1,e2⟩:=Px (h:=h) (l:=l) (k:=k);unfold qA inO;simp only[rdl,e,e1,Aq,Bw,e2]
def Yc (hl:js.length<=12) {c:Nat} (hc:c<cs.length) {jb:List Nat} {x3 x4:Option Vl}:DW [some (.v (.loc h0.length)),some (.v (.lst (js.map J.enc))),some (.v (.lst (jb.map zc))),x3,x4,some (.v (.int (c:Int)))] (hp h0 cs js st g)=.ok (.m (.lst ((Fl.more (fd cs js) st jb c).map zc))) (hp h0 cs js st g):=by
 unfold DW Fl.more;have nm:=qU (n:=h0.length) (cs:=cs) (js:=js) (m:="share") (by decide+kernel)
 have ei:=KA (a:=(aCons (pE (eB bLen (aCons (pV 1) aNil))) aNil)) (s:=[some (.v (.loc h0.length)),some (.v (.lst (js.map J.enc))),some (.v (.lst (jb.map zc))),x3,x4,some (.v (.int (c:Int)))]) (h:=hp h0 cs js st g) (j:=(js.length:Int)) (by (simp![Ae])<;>rfl) (by lia)
 rw[B3]at ei
 refine DC (l:=List.range js.length) (enc:=zc) (its:=[]) (ok:=fun _=>True) (fun s=> ∃a,s=[a,some (.v (.lst (jb.map zc))),some (.v (.int (c:Int))),some (.v (.loc h0.length))]) (fun k=>decide (k∉jb) && decide (0<st.sh k c)) zc ei trivial (by rw[Bq];lia) ⟨none,rfl⟩ ?_
 rintro k s hk ⟨a,rfl⟩;have hk1:=Ay.mp hk;have es:=Pv (h0:=h0) (cs:=cs) (st:=st) (g:=g) hk1 hc;have ein:=fun s=>Ya (s:=s) (h:=hp h0 cs js st g) (l:=jb) (k:=k)
 refine⟨_,by (simp![])<;>rfl,⟨_,rfl⟩,?_,fun _=>⟨_,by (simp![])<;>rfl,rfl⟩⟩
 by_cases hm:k∈jb
 .have d:decide (k∉jb)=false:=by simp[hm]
  rw[d]at ein ⊢
  (simp![ein,C9])
 .have d:decide (k∉jb)=true:=by simp[hm]
  rw[d]at ein ⊢
  (simp![ein,zS,zF,nm,es,Do])
end
section
variable {h0:H3} {cs:List Cl} {js:List J} {st:Fl.St} {g:H3}
def Yd {s:S3} {h:H3} {xs ys:List V3} (hl:xs.length+ys.length<=sizeLine):zB s h (.x (.lst xs)) (.x (.lst ys))=some (.m (.lst (xs++ys))):=by
 unfold zB qi AE oI FE oCat;simp only[rdm,rdl,Ab hl]
def rhB:D3:=(sIf (tAnd3 (tE (eOp (qA true) (pV 5) (pV 3))) (tE (eCall AR (aCons (pV 0) (aCons (pV 1) (aCons (pE (eOp zq (pV 2) (pV 4))) (aCons (pV 5) aNil))))))) (sSeq (yR yo (pV 3) (aCons (pV 5) aNil)) (sSeq (sFz 2) (sSet 2 (eOp zB (pV 2) (pE DW))))) sSkip)
def Ye {H:H3} {n:Nat} {ld:V3} {jb pl mo:List Nat} {A K c:Nat} {b:Bool} (hA:jb[A]? =some K) (hop:AR [.loc n,ld,.int (K:Int),.int (c:Int)] H=.ok (.v (.bl b)) H)
  (hco:∀x3 x4,DW [some (.v (.loc n)),some (.v ld),some (.v (.lst (jb.map zc))),x3,x4,some (.v (.int (c:Int)))] H=.ok (.m (.lst (mo.map zc))) H) (h1:pl.length<=100) (h2:jb.length+mo.length<=100) (x5:Option Vl):
  gb (gN 5) rhB (.int (c:Int)) [some (.v (.loc n)),some (.v ld),some (.m (.lst (jb.map zc))),some (.m (.lst (pl.map zc))),some (.v (.int (A:Int))),x5] H=.nx [some (.v (.loc n)),some (.v ld),some (.m (.lst ((if c∉pl/\b=true then jb++mo else jb).map zc))),some (.m (.lst ((if c∉pl/\b=true then pl++[c] else pl).map zc))),some (.v (.int (A:Int))),some (.v (.int (c:Int)))] H:=by
 unfold rhB;have ein:∀a0 a1 a2 a4 a5:Option Vl,qA true [a0,a1,a2,some (.m (.lst (pl.map zc))),a4,a5] H (.x (.int (c:Int))) (.s 3)=some (.v (.bl (decide (c∉pl)))):=fun _ _ _ _ _=>Yb rfl
 have eix:∀a0 a1 a3 a4 a5:Option Vl,zq [a0,a1,some (.m (.lst (jb.map zc))),a3,a4,a5] H (.s 2) (.x (.int (A:Int)))=some (.v (.int (K:Int))):=fun _ _ _ _ _=>by
  rw[KB];show (atI (jb.map zc) (A:Int)).map Vl.v=_;rw[atL hA];rfl
 by_cases hp:c∈pl
 .have d:decide (c∉pl)=false:=by simp[hp]
  rw[d]at ein;rw[Ac fun z=>z.1 hp,Ac fun z=>z.1 hp]
  (simp![ein])
 .have d:decide (c∉pl)=true:=by simp[hp]
  rw[d]at ein;cases b with
  |false=>
   rw[Ac fun z=>Ba z.2,Ac fun z=>Ba z.2]
   (simp![ein,eix,hop])
  |true=>
   rw[Ab ⟨hp,rfl⟩,Ab ⟨hp,rfl⟩];have hap:yo (pl.map zc) [.int (c:Int)]=some (pl.map zc++[.int (c:Int)],.non):=mAppend_ok (by rw[Ae];have:=ym;lia)
   have had:∀s,zB s H (.x (.lst (jb.map zc))) (.x (.lst (mo.map zc)))=some (.m (.lst (jb.map zc++mo.map zc))):=fun s=>Yd (by rw[Ae,Ae];have:=ym;lia)
   rw[Ax,Ax,Ah,Bj]
   (simp![ein,eix,hop,hap,hco,had])
end
section
variable {h0:H3} {cs:List Cl} {js:List J} {st:Fl.St} {g:H3}
abbrev sR (h0:H3) (js:List J) (jb pl:List Nat) (A:Nat) (x5:Option Vl):S3:=[some (.v (.loc h0.length)),some (.v (.lst (js.map J.enc))),some (.m (.lst (jb.map zc))),some (.m (.lst (pl.map zc))),some (.v (.int (A:Int))),x5]
def Ld {d:Fl.D} {jb pl:List Nat} (B:Fl.Bfs d st jb pl):jb.length<=d.nJ/\pl.length<=d.nC:=⟨ED B.nj fun j h=>(B.jl j h).1,ED B.nc fun c h=>(B.cl c h).1⟩
def Yf (hj:LoadOk js) (hcl:cs.length<=63) {jb pl:List Nat} (B:Fl.Bfs (fd cs js) st jb pl) {A K:Nat} (hA:jb[A]? =some K) (x5:Option Vl):
  ∃s' h',HX (sR h0 js jb pl A x5) (hp h0 cs js st g)=.nx s' h'/\∃jb' pl' y5,Fl.Bfs (fd cs js) st jb' pl'/\(∃t,jb'=jb++t)/\(∀c∈pl,c∈pl')/\(∀c,c<cs.length->(fd cs js).win K c=true->st.sh K c<(fd cs js).mx K c->c∈pl')/\s'=sR h0 js jb' pl' A y5/\h'=hp h0 cs js st g:=by
 have lc:=(qr (n:=h0.length) (cs:=cs) (js:=js)).1;have ei:=KA (a:=(aCons (pE (eB bLen (aCons (pE (zf [("Flow" :Str)] ("cells" :Str) (pV 0))) aNil))) aNil)) (s:=sR h0 js jb pl A x5) (h:=hp h0 cs js st g) (j:=(cs.length:Int)) (by (simp![zf,zF,yK,lc,Ae])<;>rfl) (by lia)
 rw[B3]at ei;have hjn:=hj.len;obtain⟨s',h',e,jb',pl',y5,B',t,p,o,rfl,rfl⟩:=DA (g:=gN 5) (b:=rhB) (s:=sR h0 js jb pl A x5) (h:=hp h0 cs js st g) (l:=List.range cs.length) (enc:=zc) (its:=[]) (ok:=fun _=>True) ei (fun i s h=> ∃jb' pl' y5,Fl.Bfs (fd cs js) st jb' pl'/\(∃t,jb'=jb++t)/\(∀c∈pl,c∈pl')/\(∀c,c<i->(fd cs js).win K c=true->st.sh K c<(fd cs js).mx K c->c∈pl')/\s=sR h0 js jb' pl' A y5/\h=hp h0 cs js st g) (fun _ _ _ _=>trivial) ⟨jb,pl,x5,B,⟨[],by simp⟩,fun c h=>h,fun c h=>by lia,rfl,rfl⟩ (by
   rintro i k s h hi ⟨jb',pl',y5,B',⟨t,rfl⟩,p,o,rfl,rfl⟩;have hk:=Ay.mp (Al hi);have hik:k=i:=by
    have:=An.mp hi;obtain⟨h1,h2⟩:=this;rw[List.getElem_range]at h2;exact h2.symm
   subst hik;have hA':(jb++t)[A]? =some K:=by rw[Bc (An.mp hA).1];exact hA
   have hKm:K∈jb++t:=Al hA';have hK:=(B'.jl K hKm).1;have L:=Ld B';have Lj:(fd cs js).nJ=js.length:=rfl;have Lc:(fd cs js).nC=cs.length:=rfl;have ml:(Fl.more (fd cs js) st (jb++t) k).length<=js.length:=by
    have:=Cw (fun k'=>decide (k'∉jb++t) && decide (0<st.sh k' k)) (List.range (fd cs js).nJ)
    rw[Bq]at this;exact this
   refine⟨_,_,Ye hA' (XY hj hK hk) (fun x3 x4=>Yc hj.len hk) (by lia) (by lia) y5,?_⟩
   by_cases q:k∉pl'/\((fd cs js).win K k && decide (st.sh K k<(fd cs js).mx K k))=true
   .rw[Ab q,Ab q]
    obtain⟨q1,q2⟩:=q;rw[Bi,Cr]at q2
    refine⟨_,_,_,B'.step hKm hk q1 q2.1 q2.2,⟨t++_,by rw[B5]⟩,fun c h=>B8 _ (p c h),fun c hc w1 w2=>?_,rfl,rfl⟩
    by_cases ck:c=k
    .subst ck;exact Bu _ Ak
    .exact B8 _ (o c (by lia) w1 w2)
   .rw[Ac q,Ac q]
    refine⟨_,_,_,B',⟨t,rfl⟩,p,fun c hc w1 w2=>?_,rfl,rfl⟩
    by_cases ck:c=k
    .subst ck
     by_cases m:c∈pl'
     .exact m
     .exact absurd ⟨m,by rw[Bi,Cr];exact⟨w1,w2⟩⟩ q
    .exact o c (by lia) w1 w2)
 rw[Bq]at o;exact⟨_,_,e,jb',pl',y5,B',t,p,o,rfl,rfl⟩
end
section
variable {h0:H3} {cs:List Cl} {js:List J} {st:Fl.St} {g:H3}
theorem Py:∀l:List Nat,zu int3 (l.map zc)=some (l.map fun k:Nat=>(k:Int))
 | []=>rfl
 |k::r=>by rw[Ah];unfold zu;rw[Py r];rfl
def Pz {s:S3} {h:H3} {i:Nat} {l ks:List Nat} (e:s[i]? =some (some (.m (.lst (l.map zc))))) (hl:l.length<64) (hs:jd (l.map fun k:Nat=>(k:Int))=ks.map fun k:Nat=>(k:Int)):AM s h [.s i]=some (.m (.lst (ks.map zc))):=by
 have er:rdl s h (.s i)=some (l.map zc):=by simp only[rdl,e]
 unfold AM;simp only[er,Py];rw[Ab (by rw[Ae];exact hl),hs,Bg];rfl
def Yg (h0:H3) (cs:List Cl) (js:List J) (st:Fl.St) (g:H3) (R:Res Vl):Prop:=∃ps qs:List Nat,ps.Pairwise (· < ·)/\qs.Pairwise (· < ·)/\(∀c,c∈ps↔Fl.Rch (fd cs js) st (.inr c))/\(∀j,j∈qs↔Fl.Rch (fd cs js) st (.inl j))/\R=.ok (.v (.tup [.lst (ps.map zc),.lst (qs.map zc)])) (hp h0 cs js st g)
def P0 {H:H3} {a N:Int} {xs:List V3} {a0 a1 a3 a5:Option Vl} (hN:(xs.length:Int)=N):(tE (eOp qP (pV 4) (pE (eB bLen (aCons (pV 2) aNil))))) [a0,a1,some (.m (.lst xs)),a3,some (.v (.int a)),a5] H=.ok (decide (a<N)) H:=by
 by_cases lt:a<N
 .rw[B2 lt];(simp![hN,lt])
 .rw[Bh lt];(simp![hN,lt])
def Yh {H:H3} {a:Int} {a0 a1 a2 a3 a5:Option Vl}:(sSet 4 (eOp zB (pV 4) (kJ 1))) [a0,a1,a2,a3,some (.v (.int a)),a5] H=.nx [a0,a1,a2,a3,some (.v (.int (a+1))),a5] H:=by
 (simp![])
def Yi {H:H3} {a0 a1:Option Vl} {xs:List V3} (e:DV [a0,a1,none,none,none,none] H=.ok (.m (.lst xs)) H):sSet 2 DV [a0,a1,none,none,none,none] H=.nx [a0,a1,some (.m (.lst xs)),none,none,none] H:=by
 (simp![e])
def Yj {H:H3} {a0 a1 a2:Option Vl}:sSet 3 (eLst aNil) [a0,a1,a2,none,none,none] H=.nx [a0,a1,a2,some (.m (.lst [])),none,none] H:=by
 (simp![])
def Yk {H:H3} {a0 a1 a2 a3:Option Vl}:sSet 4 (eC (.int 0)) [a0,a1,a2,a3,none,none] H=.nx [a0,a1,a2,a3,some (.v (.int 0)),none] H:=by
 (simp![])
def Yl {H:H3} {a0 a1 a4 a5:Option Vl} {us vs xs ys:List V3} (s1:AM [a0,a1,some (.m (.lst us)),some (.m (.lst vs)),a4,a5] H [.s 3]=some (.m (.lst xs))) (s2:AM [a0,a1,some (.m (.lst us)),some (.m (.lst vs)),a4,a5] H [.s 2]=some (.m (.lst ys))):(sRet (eTup (aCons (pE (eB AM (aCons (pV 3) aNil))) (aCons (pE (eB AM (aCons (pV 2) aNil))) aNil))) [a0,a1,some (.m (.lst us)),some (.m (.lst vs)),a4,a5] H).res=.ok (.v (.tup [.lst xs,.lst ys])) H:=by
 (simp![s1,s2])
def Ym (hj:LoadOk js) (hcl:cs.length<=63):Yg h0 cs js st g (BI [.loc h0.length,.lst (js.map J.enc)] (hp h0 cs js st g)):=by
 unfold BI Kn Km
 refine yY rfl ?_
 refine zH (s1:=[some (.v (.loc h0.length)),some (.v (.lst (js.map J.enc))),some (.m (.lst (((List.range js.length).filter fun j=>decide (0<st.ms j)).map zc))),none,none,none]) (h1:=hp h0 cs js st g) (Yi (XZ hj.len)) ?_
 have B0:Fl.Bfs (fd cs js) st ((List.range js.length).filter fun j=>decide (0<st.ms j)) []:=Fl.Bfs.start
 generalize ((List.range js.length).filter fun j=>decide (0<st.ms j))=jb0 at B0 ⊢
 refine zH (s1:=[some (.v (.loc h0.length)),some (.v (.lst (js.map J.enc))),some (.m (.lst (jb0.map zc))),some (.m (.lst [])),none,none]) (h1:=hp h0 cs js st g) Yj ?_
 refine zH (s1:=sR h0 js jb0 [] 0 none) (h1:=hp h0 cs js st g) Yk ?_
 obtain⟨s',h',e,jb,pl,A,x5,B,o,rfl,rfl⟩:=KC (t:=tE (eOp qP (pV 4) (pE (eB bLen (aCons (pV 2) aNil))))) (b:=(sSeq HX (sSet 4 (eOp zB (pV 4) (kJ 1)))))
  (Post:=fun s h=> ∃jb pl A x5,Fl.Bfs (fd cs js) st jb pl/\(∀K∈jb,∀c,c<cs.length->(fd cs js).win K c=true->st.sh K c<(fd cs js).mx K c->c∈pl)/\s=sR h0 js jb pl A x5/\h=hp h0 cs js st g)
  (fun n s h=> ∃jb pl A x5,Fl.Bfs (fd cs js) st jb pl/\(∀i,i<A->∀K,jb[i]? =some K->∀c,c<cs.length->(fd cs js).win K c=true->st.sh K c<(fd cs js).mx K c->c∈pl)/\s=sR h0 js jb pl A x5/\h=hp h0 cs js st g/\n=13-A) (by
   rintro n s h ⟨jb,pl,A,x5,B,o,rfl,rfl,rfl⟩;have hjn:=hj.len;have L:jb.length<=js.length:=(Ld B).1;obtain⟨N,hN⟩:∃N:Int,(jb.length:Int)=N:=⟨_,rfl⟩;obtain⟨a,ha⟩:∃a:Int,(A:Int)=a:=⟨_,rfl⟩
   by_cases hA:A<jb.length
   .have lt:a<N:=by lia
    obtain⟨s',h',e,jb',pl',y5,B',⟨t,rfl⟩,p,o',rfl,rfl⟩:=Yf (h0:=h0) (g:=g) hj hcl B (zI hA) x5
    refine .inr ⟨hp h0 cs js st g,_,_,_,?_,?_,?_,jb++t,pl',A+1,y5,B',?_,rfl,rfl,rfl⟩
    .exact (P0 (N:=N) (by rw[Ae];exact hN)).trans (by rw[ha,B2 lt])
    .rw[qS e]
     exact Yh
    .lia
    .intro i hi K hK c hc w1 w2
     by_cases q:i=A
     .subst q
      rw[Bc hA,zI hA]at hK;cases hK;exact o' c hc w1 w2
     .have hi':i<A:=by lia
      rw[Bc (by lia)]at hK
      exact p c (o i hi' K hK c hc w1 w2)
   .have nlt: ¬a<N:=by lia
    refine .inl ⟨hp h0 cs js st g,?_,jb,pl,A,x5,B,fun K hK=>?_,rfl,rfl⟩
    .exact (P0 (N:=N) (by rw[Ae];exact hN)).trans (by rw[ha,Bh nlt])
    .obtain⟨i,hi⟩:=B6 hK
     exact o i (by have:=(An.mp hi).1;lia) K hi) _ _ _ ⟨jb0,[],0,none,B0,fun i h=>by lia,rfl,rfl,rfl⟩
 refine zH e ?_
 obtain⟨d1,d2⟩:=B.done o;obtain⟨L1,L2⟩:=Ld B;have hjn:=hj.len;have Lj:(fd cs js).nJ=js.length:=rfl;have Lc:(fd cs js).nC=cs.length:=rfl;obtain⟨ps,p1,p2,p3⟩:=Iy B.nc;obtain⟨qs,q1,q2,q3⟩:=Iy B.nj
 refine⟨ps,qs,p2,q2,fun c=>(p3 c).trans (d2 c).symm,fun j=>(q3 j).trans (d1 j).symm,?_⟩
 have s1:=Pz (s:=sR h0 js jb pl A x5) (h:=hp h0 cs js st g) (i:=3) rfl (by lia) p1
 have s2:=Pz (s:=sR h0 js jb pl A x5) (h:=hp h0 cs js st g) (i:=2) rfl (by lia) q1
 exact Yl s1 s2
end
def RowsOk.b {rows:List (Int×Int)} {rest by_:Int} (h:RowsOk rows rest by_):RwB rows rest:=
 ⟨by have:=h.len;lia,fun p hp=>by have:=h.one p hp;have:=h.by_;lia,h.rest⟩
theorem P1 (n:Nat):∀l:List (Int×Int),lows n (l.map zt)=true
 | []=>rfl
 |p::r=>by simp only[Ah,lows,low,P1 n r,Bool.and_self]
def Yn {h:H3} {n i:Nat} {xs:List V3} (e:h[i]? =some (.lst xs)) (he:∀x∈xs,zJ h n x x=some true):zJ h (n+1) (.loc i) (.lst xs)=some true:=by
 simp only[zJ,yn,e];rw[Ab trivial,OP he]
def eq_N {h:H3} {i:Nat} {l:List Nat} (e:h[i]? =some (.lst (l.map zc))):zJ h 8 (.loc i) (.lst (l.map zc))=some true:=Yn e fun x hx=>by
 obtain⟨k,_,rfl⟩:=Aj.mp hx;exact eq3_int.trans (by simp)
section
variable {G1 G2 G3:H3} {x0 x1 x2 x3 x4 x5 x6:Option Vl} {n p q:Nat} {fs:List (Str×V3)}
def en1 {ld:List V3}:sFz 4 [x0,x1,x2,x3,some (.m (.lst ld)),some (.v (.loc n)),none,none] G1=.nx [x0,x1,x2,x3,some (.v (.lst ld)),some (.v (.loc n)),none,none] G1:=by (simp![])
def en2:sFz 5 [x0,x1,x2,x3,x4,some (.v (.loc n)),none,none] G1=.nx [x0,x1,x2,x3,x4,some (.v (.loc n)),none,none] G1:=by (simp![])
def en3 {ld v:V3} (ed:BI [.loc n,ld] G1=.ok (.v v) G1):sSet 6 (eCall BI (aCons (pV 5) (aCons (pV 4) aNil))) [x0,x1,x2,x3,some (.v ld),some (.v (.loc n)),none,none] G1=.nx [x0,x1,x2,x3,some (.v ld),some (.v (.loc n)),some (.v v),none] G1:=by (simp![ed])
def en4 {v:V3} (nm:yw G1 (.x (.loc n))=some (("Flow" :Str),fs)) (lk:fs.lookup ("cut":Str)=none) (ec:qH [.loc n] G1=.ok (.v v) G2):sSet 7 (zS ("Flow" :Str) ("cut" :Str) qH (pV 5) aNil) [x0,x1,x2,x3,x4,some (.v (.loc n)),x6,none] G1=.nx [x0,x1,x2,x3,x4,some (.v (.loc n)),x6,some (.v v)] G2:=by (simp![zS,nm,lk,ec])
theorem en5 {ks ys:List V3} (r0:G2[p]? =some (.lst ks)) (a0:yo ks [.int 0]=some (ys,.non)) (w0:G2.set p (.lst ys)=G3):yR yo (pE (eOp zq (pV 7) (kJ 0))) (aCons (kJ 0) aNil) [x0,x1,x2,x3,x4,x5,x6,some (.v (.tup [.loc p,.loc q]))] G2=.nx [x0,x1,x2,x3,x4,x5,x6,some (.v (.tup [.loc p,.loc q]))] G3:=by (simp![r0,a0,w0])
theorem en6 {ks ys:List V3} (r0:G2[q]? =some (.lst ks)) (a0:yo ks [.int 0]=some (ys,.non)) (w0:G2.set q (.lst ys)=G3):yR yo (pE (eOp zq (pV 7) (kJ 1))) (aCons (kJ 0) aNil) [x0,x1,x2,x3,x4,x5,x6,some (.v (.tup [.loc p,.loc q]))] G2=.nx [x0,x1,x2,x3,x4,x5,x6,some (.v (.tup [.loc p,.loc q]))] G3:=by (simp![r0,a0,w0])
def en7 {ps qs:List V3} {x7:Option Vl} (nm:yw G1 (.x (.loc n))=some (("Flow" :Str),fs)) (lk:fs.lookup ("cut":Str)=none) (ec:qH [.loc n] G1=.ok (.v (.tup [.loc p,.loc q])) G2) (q0:zJ G2 8 (.loc p) (.lst ps)=some true) (q1:zJ G2 8 (.loc q) (.lst qs)=some true):
  Yes ((sRet (eOp y0 (pE (zS ("Flow" :Str) ("cut" :Str) qH (pV 5) aNil)) (pV 6)) [x0,x1,x2,x3,x4,some (.v (.loc n)),some (.v (.tup [.lst ps,.lst qs])),x7] G1).res):=by
 have qe:∀s,y0 s G2 (.x (.tup [.loc p,.loc q])) (.x (.tup [.lst ps,.lst qs]))=some (.v (.bl true)):=fun s=>by
  have:zJ G2 9 (.tup [.loc p,.loc q]) (.tup [.lst ps,.lst qs])=(yD (zJ G2 8) [.loc p,.loc q] [.lst ps,.lst qs]).map (· && true):=rfl;unfold y0 eqO;simp only[rdm,rdl,this,yD,q0,q1];rfl
 refine⟨G2,?_⟩
 (simp![zS,nm,lk,ec,qe])
end
def enB:D3:=sSeq (sFz 4) (sSeq (sFz 5) (sSeq (sSet 6 (eCall BI (aCons (pV 5) (aCons (pV 4) aNil)))) (sSeq (sSet 7 (zS ("Flow" :Str) ("cut" :Str) qH (pV 5) aNil)) (sSeq (yR yo (pE (eOp zq (pV 7) (kJ 0))) (aCons (kJ 0) aNil)) (sSeq (yR yo (pE (eOp zq (pV 7) (kJ 1))) (aCons (kJ 0) aNil)) (sRet (eOp y0 (pE (zS ("Flow" :Str) ("cut" :Str) qH (pV 5) aNil)) (pV 6))))))))
def Yo {G1 G2 G3 G4 G5:H3} {x0 x1 x2 x3:Option Vl} {ld:List V3} {n p q p' q':Nat} {ks ls ks2 ls2 ps qs:List V3} {fs:List (Str×V3)} (nm:yw G1 (.x (.loc n))=some (("Flow" :Str),fs)) (nm4:yw G4 (.x (.loc n))=some (("Flow" :Str),fs)) (lk:fs.lookup ("cut":Str)=none)
  (ed:BI [.loc n,.lst ld] G1=.ok (.v (.tup [.lst ps,.lst qs])) G1) (ec:qH [.loc n] G1=.ok (.v (.tup [.loc p,.loc q])) G2)
  (r0:G2[p]? =some (.lst ks)) (a0:yo ks [.int 0]=some (ks2,.non)) (w0:G2.set p (.lst ks2)=G3) (r1:G3[q]? =some (.lst ls)) (a1:yo ls [.int 0]=some (ls2,.non)) (w1:G3.set q (.lst ls2)=G4)
  (ec2:qH [.loc n] G4=.ok (.v (.tup [.loc p',.loc q'])) G5) (q0:zJ G5 8 (.loc p') (.lst ps)=some true) (q1:zJ G5 8 (.loc q') (.lst qs)=some true):
  Yes ((enB [x0,x1,x2,x3,some (.m (.lst ld)),some (.v (.loc n)),none,none] G1).res):=by
 unfold enB;exact zH en1 (zH en2 (zH (en3 ed) (zH (en4 nm lk ec) (zH (en5 r0 a0 w0) (zH (en6 r1 a1 w1) (en7 nm4 lk ec2 q0 q1))))))
def law_yes (ns:List Int) (_:ns.length<=63):Yes (f_law [.scr ns] []):=by
 unfold f_law Kw
 refine yY rfl ?_
 obtain⟨rows,rest,by_,e1,hr⟩:=W4 (cell ns (0:Int).toNat) []
 refine zH (s1:=[some (.v (.scr ns)),some (.v (.lst (rows.map zt))),some (.v (.int rest)),some (.v (.int by_)),none,none,none,none]) (h1:=[]) (by (simp![Im ns 0 (by decide),e1])) ?_
 obtain⟨js,e2,hj⟩:=WC ns by_ hr.by_ []
 refine zH (s1:=[some (.v (.scr ns)),some (.v (.lst (rows.map zt))),some (.v (.int rest)),some (.v (.int by_)),some (.m (.lst (js.map J.enc))),none,none,none]) (h1:=[]) (by (simp![e2])) ?_
 have hrb:=hr.b;have hpo:Cal.Pos rows:=fun p h=>(hrb.one p h).1
 have hm:∀t,0<=Cal.at_ (Cal.kform rest rows) rest t/\Cal.at_ (Cal.kform rest rows) rest t<=16:=fun t=>by rw[Cal.kform_at _ _ _ hpo];exact at_b hrb t
 have hcal:=WM hrb [];rw[Dw,Dw,Ee]at hcal;have hlow:lowF 0 [(Str.ofString "stretches",V3.lst ((Cal.kform rest rows).map zt)),(Str.ofString "beyond",V3.int rest)]=true:=by
  simp only[lowF,low,P1,Bool.and_self]
 have hl:(Cal.kform rest rows).length<=16:=Bs (Cal.kform_len rest rows) hrb.len;obtain⟨st,g,gd,mx,ei⟩:=XQ (h0:=[]) hj hl (XM hm js);have hcl:=Pu rest hj hl;generalize BJ js (Cal.kform rest rows) rest=cs at*;rw[Dw,Ee]at ei
 refine zH (s1:=[some (.v (.scr ns)),some (.v (.lst (rows.map zt))),some (.v (.int rest)),some (.v (.int by_)),some (.m (.lst (js.map J.enc))),some (.v (.loc 0)),none,none]) (h1:=hp [] cs js st g) (by (simp![eObj,eNew,hcal,hlow,ei])) ?_
 obtain⟨ps,qs,p1,q1,p2,q2,ed⟩:=Ym (h0:=[]) (g:=g) (st:=st) hj hcl;have hjl:js.length<=12:=hj.len;obtain⟨ks,ls,ja,ca,g1,T,C,k1,l1,k2,l2,ec⟩:=Pw (h0:=[]) (cs:=cs) (g:=g) (st:=st) hjl hcl;obtain⟨ks',ls',ja',ca',g2,T',C',k1',l1',k2',l2',ec'⟩:=Pw (h0:=[]) (cs:=cs) (g:=g1++[.lst (ks.map zc++[.int 0]),.lst (ls.map zc++[.int 0])]) (st:=st) hjl hcl;have ek:ps=ks':=Fl.up_ext p1 k1' fun c=>(p2 c).trans ⟨fun r=>(k2' c).mpr (C'.all r),fun m=>T'.rc c ((k2' c).mp m)⟩
 have el:qs=ls':=Fl.up_ext q1 l1' fun c=>(q2 c).trans ⟨fun r=>(l2' c).mpr (C'.all r),fun m=>T'.rj c ((l2' c).mp m)⟩
 subst ek;subst el;have nk:ks.length<=63:=Bs (ED (n:=cs.length) (k1.imp fun h=>Av h) fun x hx=>by
  obtain⟨p,hp,rfl⟩:=Aj.mp ((k2 x).mp hx);exact (T.cj p hp).1) hcl
 have nl:ls.length<=12:=Bs (ED (n:=js.length) (l1.imp fun h=>Av h) fun x hx=>by
  obtain⟨p,hp,rfl⟩:=Aj.mp ((l2 x).mp hx);exact (T.jc p hp).1) hjl
 have sz:=ym;have i1:yw (hp [] cs js st g) (.x (.loc 0))=some (("Flow" :Str),qJ cs js 0):=zF (h0:=[]) (st:=st) (g:=g);have i4:yw (hp [] cs js st (g1++[.lst (ks.map zc++[.int 0]),.lst (ls.map zc++[.int 0])])) (.x (.loc 0))=some (("Flow" :Str),qJ cs js 0):=zF (h0:=[]) (st:=st);have lk:(qJ cs js 0).lookup ("cut":Str)=none:=qU (n:=0) (cs:=cs) (js:=js) (m:="cut") (by decide+kernel)
 have ma:∀{xs:List V3},xs.length<=63->yo xs [.int 0]=some (xs++[.int 0],.non):=fun h=>mAppend_ok (by lia)
 have w0:(hp [] cs js st (g1++[.lst (ks.map zc),.lst (ls.map zc)])).set (bq [] js g1) (.lst (ks.map zc++[.int 0]))=hp [] cs js st (g1++[.lst (ks.map zc++[.int 0]),.lst (ls.map zc)]):=DF (i:=0);have w1:(hp [] cs js st (g1++[.lst (ks.map zc++[.int 0]),.lst (ls.map zc)])).set (bq [] js g1+1) (.lst (ls.map zc++[.int 0]))=hp [] cs js st (g1++[.lst (ks.map zc++[.int 0]),.lst (ls.map zc++[.int 0])]):=DF (i:=1);have r0:(hp [] cs js st (g1++[.lst (ks.map zc),.lst (ls.map zc)]))[bq [] js g1]? =some (.lst (ks.map zc)):=jh (i:=0);have r1:(hp [] cs js st (g1++[.lst (ks.map zc++[.int 0]),.lst (ls.map zc)]))[bq [] js g1+1]? =some (.lst (ls.map zc)):=jh (i:=1);have f0:∀g2:H3,(hp [] cs js st (g2++[.lst (ps.map zc),.lst (qs.map zc)]))[bq [] js g2]? =some (.lst (ps.map zc)):=fun g2=>jh (i:=0)
 have f1:∀g2:H3,(hp [] cs js st (g2++[.lst (ps.map zc),.lst (qs.map zc)]))[bq [] js g2+1]? =some (.lst (qs.map zc)):=fun g2=>jh (i:=1)
 have m0:=ma (xs:=ks.map zc) (by rw[Ae];lia)
 have m1:=ma (xs:=ls.map zc) (by rw[Ae];lia)
 have e0:=eq_N (f0 g2);have e1:=eq_N (f1 g2);exact Yo i1 i4 lk ed ec r0 m0 w0 r1 m1 w1 ec' e0 e1
end My
namespace My
open PySem PySem.Spec PyProof.Rows L2 L3
def law_true:∀ns:List Int,ns.length<=63->∃h',f_law [.scr ns] []=.ok (.v (.bl true)) h':=law_yes
def txt {K:FG} {mg:Str->Option Value} {h:Heap} (X:K.In h) (G:h.Ns mainGlobals mg) (S:L4.seenK ask K=L4.good PySem.Challenge.pw_dueyard_k24_just_the_reached ask):∃_:Txt K mg,True:=by
 obtain⟨f0,d0,a0,F0⟩:=L4.def_at S 0 rfl;obtain⟨f1,d1,a1,F1⟩:=L4.def_at S 1 rfl;obtain⟨f2,d2,a2,F2⟩:=L4.def_at S 2 rfl;obtain⟨f3,d3,a3,F3⟩:=L4.def_at S 3 rfl;obtain⟨f4,d4,a4,F4⟩:=L4.def_at S 4 rfl;obtain⟨f5,d5,a5,F5⟩:=L4.def_at S 5 rfl;obtain⟨f6,d6,a6,F6⟩:=L4.def_at S 6 rfl;obtain⟨f7,d7,a7,F7⟩:=L4.def_at S 7 rfl;obtain⟨f8,d8,a8,F8⟩:=L4.def_at S 8 rfl;obtain⟨f9,d9,a9,F9⟩:=L4.def_at S 9 rfl;obtain⟨f10,d10,a10,F10⟩:=L4.def_at S 10 rfl;obtain⟨f11,d11,a11,F11⟩:=L4.def_at S 11 rfl;obtain⟨f12,d12,a12,F12⟩:=L4.def_at S 12 rfl;obtain⟨f13,d13,a13,F13⟩:=L4.def_at S 13 rfl;obtain⟨f14,d14,a14,F14⟩:=L4.def_at S 14 rfl;obtain⟨f15,d15,a15,F15⟩:=L4.def_at S 15 rfl;obtain⟨f16,d16,a16,F16⟩:=L4.def_at S 16 rfl;obtain⟨f17,d17,a17,F17⟩:=L4.def_at S 17 rfl;obtain⟨f18,d18,a18,F18⟩:=L4.def_at S 18 rfl;obtain⟨f19,d19,a19,F19⟩:=L4.def_at S 19 rfl;obtain⟨f20,d20,a20,F20⟩:=L4.def_at S 20 rfl;obtain⟨f21,d21,a21,F21⟩:=L4.def_at S 21 rfl;obtain⟨f22,d22,a22,F22⟩:=L4.def_at S 22 rfl;obtain⟨f23,d23,a23,F23⟩:=L4.def_at S 23 rfl;obtain⟨f24,d24,a24,F24⟩:=L4.def_at S 24 rfl;obtain⟨C0,c0⟩:=L4.cls_at S 0 rfl;obtain⟨g0,e0,A0,M0,I0⟩:=c0.meth 0 _ rfl;obtain⟨g1,e1,A1,M1,I1⟩:=c0.meth 1 _ rfl;obtain⟨C1,c1⟩:=L4.cls_at S 1 rfl;obtain⟨g2,e2,A2,M2,I2⟩:=c1.meth 0 _ rfl;obtain⟨g3,e3,A3,M3,I3⟩:=c1.meth 1 _ rfl;obtain⟨g4,e4,A4,M4,I4⟩:=c1.meth 2 _ rfl;obtain⟨g5,e5,A5,M5,I5⟩:=c1.meth 3 _ rfl;obtain⟨g6,e6,A6,M6,I6⟩:=c1.meth 4 _ rfl;obtain⟨g7,e7,A7,M7,I7⟩:=c1.meth 5 _ rfl;obtain⟨g8,e8,A8,M8,I8⟩:=c1.meth 6 _ rfl;obtain⟨g9,e9,A9,M9,I9⟩:=c1.meth 7 _ rfl;obtain⟨g10,e10,A10,M10,I10⟩:=c1.meth 8 _ rfl;obtain⟨g11,e11,A11,M11,I11⟩:=c1.meth 9 _ rfl;obtain⟨g12,e12,A12,M12,I12⟩:=c1.meth 10 _ rfl;obtain⟨C2,c2⟩:=L4.cls_at S 2 rfl;obtain⟨g13,e13,A13,M13,I13⟩:=c2.meth 0 _ rfl;obtain⟨g14,e14,A14,M14,I14⟩:=c2.meth 1 _ rfl;obtain⟨g15,e15,A15,M15,I15⟩:=c2.meth 2 _ rfl;obtain⟨t0,v0⟩:=L4.int_at S 0 rfl;obtain⟨t1,v1⟩:=L4.str_at S 1 rfl;obtain⟨t2,v2⟩:=L4.str_at S 2 rfl;obtain⟨t3,v3⟩:=L4.int_at S 3 rfl;obtain⟨t4,v4⟩:=L4.int_at S 4 rfl;obtain⟨t5,v5⟩:=L4.int_at S 5 rfl;obtain⟨t6,v6⟩:=L4.int_at S 6 rfl;obtain⟨t7,v7⟩:=L4.int_at S 7 rfl;obtain⟨t8,v8⟩:=L4.int_at S 8 rfl;obtain⟨t9,v9⟩:=L4.int_at S 9 rfl;obtain⟨t10,v10⟩:=L4.int_at S 10 rfl
 exact⟨⟨f0,d0,⟨F0,L4.b2 F0 fun _ _ _ _ _ _ _ _=>rfl,Au X G a0⟩,f1,d1,⟨F1,L4.b1 F1 fun _ _ _ _ _ _ _=>rfl,Au X G a1⟩,f2,d2,⟨F2,L4.b2 F2 fun _ _ _ _ _ _ _ _=>rfl,Au X G a2⟩,f3,d3,⟨F3,L4.b2 F3 fun _ _ _ _ _ _ _ _=>rfl,Au X G a3⟩,f4,d4,⟨F4,L4.b2 F4 fun _ _ _ _ _ _ _ _=>rfl,Au X G a4⟩,f5,d5,⟨F5,L4.b1 F5 fun _ _ _ _ _ _ _=>rfl,Au X G a5⟩,f6,d6,⟨F6,L4.b1 F6 fun _ _ _ _ _ _ _=>rfl,Au X G a6⟩,f7,d7,⟨F7,L4.b3 F7 fun _ _ _ _ _ _ _ _ _=>rfl,Au X G a7⟩,f8,d8,⟨F8,L4.b4 F8 fun _ _ _ _ _ _ _ _ _ _=>rfl,Au X G a8⟩,f9,d9,⟨F9,L4.b1 F9 fun _ _ _ _ _ _ _=>rfl,Au X G a9⟩,f10,d10,⟨F10,L4.b1 F10 fun _ _ _ _ _ _ _=>rfl,Au X G a10⟩,f11,d11,⟨F11,L4.b2 F11 fun _ _ _ _ _ _ _ _=>rfl,Au X G a11⟩,f12,d12,⟨F12,L4.b2 F12 fun _ _ _ _ _ _ _ _=>rfl,Au X G a12⟩,f13,d13,⟨F13,L4.b2 F13 fun _ _ _ _ _ _ _ _=>rfl,Au X G a13⟩,f14,d14,⟨F14,L4.b2 F14 fun _ _ _ _ _ _ _ _=>rfl,Au X G a14⟩,f15,d15,⟨F15,L4.b2 F15 fun _ _ _ _ _ _ _ _=>rfl,Au X G a15⟩,f16,d16,⟨F16,L4.b4 F16 fun _ _ _ _ _ _ _ _ _ _=>rfl,Au X G a16⟩,f17,d17,⟨F17,L4.b2 F17 fun _ _ _ _ _ _ _ _=>rfl,Au X G a17⟩,f18,d18,⟨F18,L4.b1 F18 fun _ _ _ _ _ _ _=>rfl,Au X G a18⟩,f19,d19,⟨F19,L4.b2 F19 fun _ _ _ _ _ _ _ _=>rfl,Au X G a19⟩,f20,d20,⟨F20,L4.b1 F20 fun _ _ _ _ _ _ _=>rfl,Au X G a20⟩,f21,d21,⟨F21,L4.b1 F21 fun _ _ _ _ _ _ _=>rfl,Au X G a21⟩,f22,d22,⟨F22,L4.b1 F22 fun _ _ _ _ _ _ _=>rfl,Au X G a22⟩,f23,d23,⟨F23,L4.b1 F23 fun _ _ _ _ _ _ _=>rfl,Au X G a23⟩,f24,d24,⟨F24,L4.b1 F24 fun _ _ _ _ _ _ _=>rfl,Au X G a24⟩,C0,c0.cls,Au X G c0.g,g0,e0,⟨M0,L4.b2 M0 fun _ _ _ _ _ _ _ _=>rfl⟩,g1,e1,⟨M1,L4.b2 M1 fun _ _ _ _ _ _ _ _=>rfl⟩,⟨A1,I1,M1.kp⟩,⟨c0.makes,A0,I0,c0.kp⟩,c0.fld 0 _ rfl,c0.fld 1 _ rfl,C1,c1.cls,Au X G c1.g,g2,e2,⟨M2,L4.b2 M2 fun _ _ _ _ _ _ _ _=>rfl⟩,⟨A2,I2,M2.kp⟩,g3,e3,⟨M3,L4.b1 M3 fun _ _ _ _ _ _ _=>rfl⟩,⟨A3,I3,M3.kp⟩,g4,e4,⟨M4,L4.b2 M4 fun _ _ _ _ _ _ _ _=>rfl⟩,⟨A4,I4,M4.kp⟩,g5,e5,⟨M5,L4.b2 M5 fun _ _ _ _ _ _ _ _=>rfl⟩,⟨A5,I5,M5.kp⟩,g6,e6,⟨M6,L4.b1 M6 fun _ _ _ _ _ _ _=>rfl⟩,⟨A6,I6,M6.kp⟩,g7,e7,⟨M7,L4.b1 M7 fun _ _ _ _ _ _ _=>rfl⟩,⟨A7,I7,M7.kp⟩,g8,e8,⟨M8,L4.b1 M8 fun _ _ _ _ _ _ _=>rfl⟩,⟨A8,I8,M8.kp⟩,g9,e9,⟨M9,L4.b3 M9 fun _ _ _ _ _ _ _ _ _=>rfl⟩,g10,e10,⟨M10,L4.b3 M10 fun _ _ _ _ _ _ _ _ _=>rfl⟩,⟨A10,I10,M10.kp⟩,g11,e11,⟨M11,L4.b1 M11 fun _ _ _ _ _ _ _=>rfl⟩,⟨A11,I11,M11.kp⟩,g12,e12,⟨M12,L4.b1 M12 fun _ _ _ _ _ _ _=>rfl⟩,⟨A12,I12,M12.kp⟩,⟨c1.makes,A9,I9,c1.kp⟩,c1.fld 0 _ rfl,c1.fld 1 _ rfl,c1.fld 2 _ rfl,c1.fld 3 _ rfl,c1.fld 4 _ rfl,c1.fld 5 _ rfl,C2,c2.cls,Au X G c2.g,g13,e13,⟨M13,L4.b3 M13 fun _ _ _ _ _ _ _ _ _=>rfl⟩,⟨A13,I13,M13.kp⟩,g14,e14,⟨M14,L4.b2 M14 fun _ _ _ _ _ _ _ _=>rfl⟩,⟨A14,I14,M14.kp⟩,g15,e15,⟨M15,L4.b3 M15 fun _ _ _ _ _ _ _ _ _=>rfl⟩,⟨c2.makes,A15,I15,c2.kp⟩,c2.fld 0 _ rfl,c2.fld 1 _ rfl,B4 X G (L4.bare_at S 0 rfl),B4 X G (L4.bare_at S 1 rfl),B4 X G (L4.bare_at S 2 rfl),B4 X G (L4.bare_at S 3 rfl),B4 X G (L4.bare_at S 4 rfl),B4 X G (L4.bare_at S 5 rfl),B4 X G (L4.bare_at S 6 rfl),B4 X G (L4.bare_at S 7 rfl),B4 X G (L4.bare_at S 8 rfl),B4 X G (L4.bare_at S 9 rfl),B4 X G (L4.bare_at S 10 rfl),B4 X G (L4.bare_at S 11 rfl),B4 X G (L4.bare_at S 12 rfl),B4 X G (L4.bare_at S 13 rfl),B4 X G (L4.bare_at S 14 rfl),B4 X G (L4.bare_at S 15 rfl),t0,Au X G v0,t1,Au X G v1,t2,Au X G v2,t3,Au X G v3,t4,Au X G v4,t5,Au X G v5,t6,Au X G v6,t7,Au X G v7,t8,Au X G v8,t9,Au X G v9,t10,Au X G v10⟩,trivial⟩
def d_law:PySem.DefRec:=⟨"law",EJ (zT 52),CG (zT 52),zC (zT 52),⟨329,0,337,38⟩⟩
end My
open PySem PySem.W PyProof.Rows
set_option maxRecDepth 100000 in
set_option maxHeartbeats 0 in
theorem PySem.Challenge.cw_dueyard_k24_just_the_reached_holds : PySem.Challenge.rw_dueyard_k24_just_the_reached.Holds := by
 w_on;o_law
 refine PySem.W.holds_open (q:=L4.lawView My.ask PySem.Challenge.pw_dueyard_k24_just_the_reached) (loose:=L4.looseOf PySem.Challenge.pw_dueyard_k24_just_the_reached) (Xt:=fun _=>true) (XP:=fun _ _=>True) (YP:=fun _ h=> ∃K:Frag,K.In h/\L4.seenK My.ask K=L4.good PySem.Challenge.pw_dueyard_k24_just_the_reached My.ask) (d:=My.d_law) (kwd:=[]) (N:=20000) (L4.left_one (good:=L4.good PySem.Challenge.pw_dueyard_k24_just_the_reached My.ask) (by kernel_rfl) (by decide) (fun _=>rfl) My.one) (fun w s e=>L4.seen_ok w s e) (fun w h h'=>L4.seen_keeps w h h') (fun _ _=>trivial) (fun _ _ _ _ _=>trivial) (by kernel_rfl) (by kernel_rfl) rfl (fun _ _=>recFacts_nil rfl) rfl (by assumption) (by decide+kernel) ⟨rfl,rfl,rfl,rfl,rfl,by decide+kernel⟩ ?hw ?hc
 case hw=>w_witness2
 case hc=>
  refine L4.walk_one (l:=PySem.Challenge.rw_dueyard_k24_just_the_reached) (n:=63) (k:=8) (x:="_law_script") (CX:=fun w=>L2.XT PySem.Challenge.rw_dueyard_k24_just_the_reached.prog w) (sp:=L3.spL) rfl (by decide) rfl ⟨rfl,by decide,by decide⟩ ?F (fun _ _ a ns hl hO hS=>⟨a,ns,rfl,hl,hS,hO,fun _=>rfl⟩) fun _ _ _ _ _ z=>L3.noX z
  intro w mg fa h K KX G S hmg;obtain⟨T,_⟩:=My.txt KX G S;have e:=hmg.symm.trans T.d_law.g;cases e;exact⟨T.fd_law,L4.binds_law T.d_law.F fun _ _ _ _ _ _ _=>rfl,fun base _ _=>(My.G_law (P:=PySem.Challenge.rw_dueyard_k24_just_the_reached.prog) (w:=w) (base:=base) T).imp (sp':=L3.spL K) fun vs H Q E h=>L3.spL_of (κ:=My.kx T) My.law_true h⟩
